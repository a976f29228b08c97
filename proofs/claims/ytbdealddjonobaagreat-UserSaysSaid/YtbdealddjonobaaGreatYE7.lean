/-
  E7. By an AI agent.
-/
import Derived.Test.YtbdealddjonobaaGreatYZ
import Derived.Test.YtbdealddjonobaaGreatYE3
import Derived.Test.YtbdealddjonobaaGreatYE6
import Derived.Test.YtbdealddjonobaaGreatYB1
import Derived.Test.YtbdealddjonobaaGreatYT2
namespace Go.Proofs.YtbdealddjonobaaGreat.Mta
open Go.RowKit Wire Term Rig

set_option linter.unusedSimpArgs false
end Go.Proofs.YtbdealddjonobaaGreat.Mta

namespace Go.Proofs.YtbdealddjonobaaGreat.Mta
open Go.RowKit Wire Term Rig

set_option linter.unusedSimpArgs false
set_option maxHeartbeats 8000000 in
set_option maxRecDepth 1000000 in
theorem ccheck_any (o f sig : ByteArray) (ep : Int) (A : Option Addr) (c : Nat) (rs : List ByteArray) (B : Option Addr) (d : Nat) (ws : List ByteArray) (ver : Nat) (V : Option Addr) (cv : Nat) (vs : List ByteArray) (K : Option Addr) (ck : Nat) (ks : List (ByteArray × ByteArray)) (w : World) (p ow fi : ByteArray) (hA : SReads w A rs) (hB : SReads w B ws) (hV : SReads w V vs) (hK : PReads w K ks) (hna : A = none → c = 0) (hnb : B = none → d = 0) (hf : FewM ⟨⟨o.data.toList, f.data.toList, ep, bl rs, bl ws⟩, ver, bl vs, pl ks, sig.data.toList⟩) (hp : p.size ≤ 140737488355328) :
    Calls Tryz.prog 37 #[.agg #[.string o, .string f, .int .i64 ep, .slice A rs.length c, .slice B ws.length d, .int .u64 (ver : Int), .slice V vs.length cv, .slice K ks.length ck, .string sig], .string p, .string ow, .string fi] w fun e w' => e = .returned (.int .i64 (checkM ⟨⟨o.data.toList, f.data.toList, ep, bl rs, bl ws⟩, ver, bl vs, pl ks, sig.data.toList⟩ p.data.toList ow.data.toList fi.data.toList)) ∧ Below w.heap.size w w' := by
  have HA := zh hA
  have HBB := zh hB
  have HV := zh hV
  have HK := zh hK
  have HRT := zh fun w h1 h2 h3 h4 => cright_any o f sig ep A c rs B d ws ver V cv vs K ck ks w h1 h2 h3 h4 hna hnb hf
  by_cases hr : MR ⟨⟨o.data.toList, f.data.toList, ep, bl rs, bl ws⟩, ver, bl vs, pl ks, sig.data.toList⟩
  case neg =>
    rw [show checkM ⟨⟨o.data.toList, f.data.toList, ep, bl rs, bl ws⟩, ver, bl vs, pl ks, sig.data.toList⟩ p.data.toList ow.data.toList fi.data.toList = 1 by unfold checkM; rw [if_pos (Or.inl hr)]]
    rw [decide_eq_false hr] at HRT
    clear hA hB hV hK hna hnb hf hr
    go_enter Tryz.func37, Tryz.ntmps37
    go_wp2_with fail
    with_reducible refine (HRT.out _ (HA.out.below (al _ _) zl) (HBB.out.below (al _ _) zl) (HV.out.below (al _ _) zl) (HK.out.below (al _ _) zl)).mono ?_
    rintro e w1 ⟨rfl, hb1⟩
    have HB1 := zh (Rig.after_alloc (Below.refl _ w) hb1)
    clear hb1
    dsimp only
    go_wp2
    go_ret
    exact ⟨rfl, HB1.out⟩
  rw [decide_eq_true hr] at HRT
  have HKP := zh fun w => isPublic_any p w hp
  obtain ⟨kp, hkq⟩ : ∃ k, kind p.data.toList = k := ⟨_, rfl⟩
  rw [hkq] at HKP
  have HBY := zh fun w h1 h2 h3 h4 => cbody_any o f sig ep A c rs B d ws ver V cv vs K ck ks w h1 h2 h3 h4 hf hr.1
  have hbs := body_small hr hf.2.2.2.2.2.2
  have hss := kd_len hr.2.2.1 (by decide)
  simp only at hss
  obtain ⟨X, e2, hX⟩ : ∃ X e2, ofText (bodyB ⟨⟨o.data.toList, f.data.toList, ep, bl rs, bl ws⟩, ver, bl vs, pl ks, sig.data.toList⟩) = (X, e2) := ⟨_, _, rfl⟩
  have HOT : Hid (∀ (T : ByteArray) w, T.data.toList = bodyB ⟨⟨o.data.toList, f.data.toList, ep, bl rs, bl ws⟩, ver, bl vs, pl ks, sig.data.toList⟩ → Calls Tryz.prog 74 #[.string T] w fun e w' => Sr (X, e2) e ∧ Below w.heap.size w w') := fun T w hT => by
    rw [← hX, ← hT]
    exact t_OfText T w (by rw [Lib.size_eq, hT]; omega)
  have hXl := ofText_len hX
  obtain ⟨vv, hvv⟩ : ∃ v, verify p.data.toList X sig.data.toList = v := ⟨_, rfl⟩
  have HVF : Hid (∀ (S : ByteArray) w, S.data.toList = X → Calls Tryz.prog 76 #[.string p, .string S, .string sig] w fun e w' => e = .returned (.int .i64 vv) ∧ Below w.heap.size w w') := fun S w hS => by
    rw [← hvv, ← hS]
    exact t_Verify p S sig w hp (by rw [Lib.size_eq, hS]; omega) (by rw [Lib.size_eq]; omega)
  obtain ⟨z, hz⟩ : ∃ z, checkM ⟨⟨o.data.toList, f.data.toList, ep, bl rs, bl ws⟩, ver, bl vs, pl ks, sig.data.toList⟩ p.data.toList ow.data.toList fi.data.toList = z := ⟨_, rfl⟩
  have HZ1 : Hid (kp ≠ 117 → z = 1) := fun h => by rw [← hz]; unfold checkM; rw [if_pos (Or.inr (by rw [hkq]; exact h))]
  have HZ2 : Hid (kp = 117 → z = if e2 ≠ 0 ∨ vv ≠ 0 then 7 else if o.data.toList ≠ ow.data.toList ∨ f.data.toList ≠ fi.data.toList then 3 else 0) := fun h => by
    rw [← hz]; unfold checkM
    rw [if_neg (by rintro (h2 | h2); exact h2 hr; exact h2 (hkq.trans h)), hX]
    simp only
    rw [hvv]
  rw [hz]
  clear hz hvv hX hXl hss hbs hkq
  clear hA hB hV hK hna hnb hf hr hp
  go_enter Tryz.func37, Tryz.ntmps37
  go_wp2_with fail
  have hmx := mx_alloc w o f ep A rs.length c B ws.length d ver V vs.length cv K ks.length ck sig 60
  have hb0 := al w (.cells #[.string o, .string f, .int .i64 ep, .slice A rs.length c, .slice B ws.length d, .int .u64 (ver : Int), .slice V vs.length cv, .slice K ks.length ck, .string sig] 60)
  have HB := zh hb0
  have HMX := zh hmx
  clear hmx hb0
  obtain ⟨g, hg⟩ : ∃ g, w.heap.size = g := ⟨_, rfl⟩
  generalize w.alloc (.cells #[.string o, .string f, .int .i64 ep, .slice A rs.length c, .slice B ws.length d, .int .u64 (ver : Int), .slice V vs.length cv, .slice K ks.length ck, .string sig] 60) = w1 at HB HMX ⊢
  rw [hg] at HMX ⊢
  clear hg
  with_reducible refine (HRT.out _ (HA.out.below HB.out zl) (HBB.out.below HB.out zl) (HV.out.below HB.out zl) (HK.out.below HB.out zl)).mono ?_
  rintro e w2 ⟨rfl, hb2⟩
  have HB2 := zh (Bel.call HB.out hb2)
  replace HMX := zh (HMX.out.call hb2)
  clear hb2 HB
  dsimp only
  obtain ⟨⟨m0, m1, m2, m3, m4, m5, m6, m7, m8⟩, _⟩ := HMX.out
  go_wp2_with fail
  clear m0 m1 m2 m3 m4 m5 m6 m7 m8
  by_cases hk : kp = 117
  case neg =>
    rw [decide_eq_false hk] at HKP
    obtain rfl : z = 1 := HZ1.out hk
    with_reducible refine (HKP.out _).mono ?_
    rintro e w3 ⟨rfl, hb3⟩
    have HB3 := zh (Bel.call HB2.out hb3)
    clear hb3
    dsimp only
    go_wp2
    go_ret
    exact ⟨rfl, HB3.out⟩
  rw [decide_eq_true hk] at HKP
  with_reducible refine (HKP.out _).mono ?_
  rintro e w3 ⟨rfl, hb3⟩
  have HB3 := zh (Bel.call HB2.out hb3)
  replace HMX := zh (HMX.out.call hb3)
  clear hb3
  dsimp only
  subst hk
  have HZ := zh (HZ2.out rfl)
  clear HZ1 HZ2
  obtain ⟨⟨m0, m1, m2, m3, m4, m5, m6, m7, m8⟩, _⟩ := HMX.out
  go_wp2_with fail
  clear m0 m1 m2 m3 m4 m5 m6 m7 m8
  with_reducible refine (HBY.out _ (HA.out.below HB3.out zl) (HBB.out.below HB3.out zl) (HV.out.below HB3.out zl) (HK.out.below HB3.out zl)).mono ?_
  rintro e w4 ⟨⟨T, hT, rfl⟩, hb4⟩
  have HB4 := zh (Bel.call HB3.out hb4)
  replace HMX := zh (HMX.out.call hb4)
  have HT := zh hT
  clear hb4 hT
  dsimp only
  go_wp2_with fail
  with_reducible refine (HOT.out T _ HT.out).mono ?_
  rintro e w5 ⟨⟨S, hS, rfl⟩, hb5⟩
  have HB5 := zh (Bel.call HB4.out hb5)
  replace HMX := zh (HMX.out.call hb5)
  have HS := zh hS
  clear hb5 hS
  dsimp only
  by_cases he : e2 = 0
  case neg =>
    obtain rfl : z = 7 := by rw [HZ.out, if_pos (Or.inl he)]
    have q : ((e2 : Int) != 0) = true := by simpa using he
    have q' : ((e2 : Int) == 0) = false := by simpa using he
    go_wp2
    go_ret
    exact ⟨rfl, HB5.out⟩
  subst he
  obtain ⟨⟨m0, m1, m2, m3, m4, m5, m6, m7, m8⟩, _⟩ := HMX.out
  go_wp2_with fail
  clear m0 m1 m2 m3 m4 m5 m6 m7 m8
  with_reducible refine (HVF.out S _ HS.out).mono ?_
  rintro e w6 ⟨rfl, hb6⟩
  have HB6 := zh (Bel.call HB5.out hb6)
  replace HMX := zh (HMX.out.call hb6)
  clear hb6
  dsimp only
  by_cases hv : vv = 0
  case neg =>
    obtain rfl : z = 7 := by rw [HZ.out, if_pos (Or.inr hv)]
    have q : ((vv : Int) != 0) = true := by simpa using hv
    have q' : ((vv : Int) == 0) = false := by simpa using hv
    go_wp2
    go_ret
    exact ⟨rfl, HB6.out⟩
  subst hv
  obtain ⟨⟨m0, m1, m2, m3, m4, m5, m6, m7, m8⟩, _⟩ := HMX.out
  by_cases ho : o.data.toList = ow.data.toList
  case neg =>
    obtain rfl : z = 3 := by rw [HZ.out, if_neg (by simp), if_pos (Or.inl ho)]
    have q := s_ne ho
    go_wp2
    go_ret
    exact ⟨rfl, HB6.out⟩
  have q := s_eq ho
  by_cases hfi : f.data.toList = fi.data.toList
  case neg =>
    obtain rfl : z = 3 := by rw [HZ.out, if_neg (by simp), if_pos (Or.inr hfi)]
    have q2 := s_ne hfi
    go_wp2
    go_ret
    exact ⟨rfl, HB6.out⟩
  have q2 := s_eq hfi
  obtain rfl : z = 0 := by rw [HZ.out, if_neg (by simp), if_neg (by rintro (h | h); exact h ho; exact h hfi)]
  go_wp2
  go_ret
  exact ⟨rfl, HB6.out⟩
end Go.Proofs.YtbdealddjonobaaGreat.Mta

