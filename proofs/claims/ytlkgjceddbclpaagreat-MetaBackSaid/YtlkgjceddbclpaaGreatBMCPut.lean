/-
  MCPut. By an AI agent.
-/
import Derived.Test.YtlkgjceddbclpaaGreatBZ
import Derived.Test.YtlkgjceddbclpaaGreatBMCBody
import Derived.Test.YtlkgjceddbclpaaGreatBMCRight
namespace Go.Proofs.YtlkgjceddbclpaaGreat.Mta
open Go.RowKit Wire Term Rig

set_option linter.unusedSimpArgs false
set_option maxHeartbeats 8000000 in
set_option maxRecDepth 1000000 in
theorem cput_any (o f sig : ByteArray) (ep : Int) (A : Option Addr) (c : Nat) (rs : List ByteArray) (B : Option Addr) (d : Nat) (ws : List ByteArray) (ver : Nat) (V : Option Addr) (cv : Nat) (vs : List ByteArray) (K : Option Addr) (ck : Nat) (ks : List (ByteArray × ByteArray)) (w : World) (hA : SReads w A rs) (hB : SReads w B ws) (hV : SReads w V vs) (hK : PReads w K ks) (hna : A = none → c = 0) (hnb : B = none → d = 0) (hf : FewM ⟨⟨o.data.toList, f.data.toList, ep, bl rs, bl ws⟩, ver, bl vs, pl ks, sig.data.toList⟩) :
    Calls Tryz.prog 24 #[.agg #[.string o, .string f, .int .i64 ep, .slice A rs.length c, .slice B ws.length d, .int .u64 (ver : Int), .slice V vs.length cv, .slice K ks.length ck, .string sig]] w fun e w' => Srt (putM ⟨⟨o.data.toList, f.data.toList, ep, bl rs, bl ws⟩, ver, bl vs, pl ks, sig.data.toList⟩) e ∧ Below w.heap.size w w' := by
  have HA := zh hA; have HBB := zh hB; have HV := zh hV; have HK := zh hK
  have HRT := zh fun w h1 h2 h3 h4 => cright_any o f sig ep A c rs B d ws ver V cv vs K ck ks w h1 h2 h3 h4 hna hnb hf
  by_cases hr : MR ⟨⟨o.data.toList, f.data.toList, ep, bl rs, bl ws⟩, ver, bl vs, pl ks, sig.data.toList⟩
  case neg =>
    rw [show putM ⟨⟨o.data.toList, f.data.toList, ep, bl rs, bl ws⟩, ver, bl vs, pl ks, sig.data.toList⟩ = ([], 1) by unfold putM; rw [if_neg hr]]; rw [decide_eq_false hr] at HRT; clear hA hB hV hK hna hnb hf hr
    go_enter Tryz.func24, Tryz.ntmps24
    go_wp2_with fail
    (with_reducible refine (HRT.out _ (HA.out.below (al _ _) zl) (HBB.out.below (al _ _) zl) (HV.out.below (al _ _) zl) (HK.out.below (al _ _) zl)).mono ?_); rintro e w1 ⟨rfl, hb1⟩; have HB1 := zh (Rig.after_alloc (Below.refl _ w) hb1); clear hb1; dsimp only
    go_wp2
    go_ret2
    exact ⟨⟨⟨#[]⟩, rfl, rfl⟩, HB1.out⟩
  rw [decide_eq_true hr] at HRT
  have HBY := zh fun w h1 h2 h3 h4 => cbody_any o f sig ep A c rs B d ws ver V cv vs K ck ks w h1 h2 h3 h4 hf hr.1
  rw [show putM ⟨⟨o.data.toList, f.data.toList, ep, bl rs, bl ws⟩, ver, bl vs, pl ks, sig.data.toList⟩ = (putAll [bodyB ⟨⟨o.data.toList, f.data.toList, ep, bl rs, bl ws⟩, ver, bl vs, pl ks, sig.data.toList⟩, sig.data.toList], 0) by unfold putM; rw [if_pos hr]]
  have hbs := body_small hr hf.2.2.2.2.2.2
  have hss := kd_len hr.2.2.1 (by decide)
  simp only at hss
  have HPP : Hid (∀ (T : ByteArray) (g : Nat) (w : World), T.data.toList = bodyB ⟨⟨o.data.toList, f.data.toList, ep, bl rs, bl ws⟩, ver, bl vs, pl ks, sig.data.toList⟩ → SReads w (some ⟨g, 0, none⟩) [T, sig] → Calls Tryz.prog 67 #[.slice (some ⟨g, 0, none⟩) 2 2] w fun e w' => St (putAll [bodyB ⟨⟨o.data.toList, f.data.toList, ep, bl rs, bl ws⟩, ver, bl vs, pl ks, sig.data.toList⟩, sig.data.toList]) e ∧ Below w.heap.size w w') := fun T g w hT hr => by
    have h := Wire.putAll_any (some ⟨g, 0, none⟩) 2 [T, sig] w hr (by simp) (by
      show ([T.data.toList, sig.data.toList] : List Tm).flatten.length ≤ _
      rw [hT]
      simp only [List.flatten_cons, List.flatten_nil, List.length_append, List.length_nil]
      omega)
    rw [show bl [T, sig] = [bodyB ⟨⟨o.data.toList, f.data.toList, ep, bl rs, bl ws⟩, ver, bl vs, pl ks, sig.data.toList⟩, sig.data.toList] by show [T.data.toList, sig.data.toList] = _; rw [hT]] at h
    exact h
  clear hbs hss; clear hA hB hV hK hna hnb hf hr
  go_enter Tryz.func24, Tryz.ntmps24
  go_wp2_with fail
  have hmx := mx_alloc w o f ep A rs.length c B ws.length d ver V vs.length cv K ks.length ck sig 39
  have hb0 := al w (.cells #[.string o, .string f, .int .i64 ep, .slice A rs.length c, .slice B ws.length d, .int .u64 (ver : Int), .slice V vs.length cv, .slice K ks.length ck, .string sig] 39)
  have HB := zh hb0; have HMX := zh hmx; clear hmx hb0; obtain ⟨g, hg⟩ : ∃ g, w.heap.size = g := ⟨_, rfl⟩
  generalize w.alloc (.cells #[.string o, .string f, .int .i64 ep, .slice A rs.length c, .slice B ws.length d, .int .u64 (ver : Int), .slice V vs.length cv, .slice K ks.length ck, .string sig] 39) = w1 at HB HMX ⊢
  rw [hg] at HMX ⊢; clear hg; (with_reducible refine (HRT.out _ (HA.out.below HB.out zl) (HBB.out.below HB.out zl) (HV.out.below HB.out zl) (HK.out.below HB.out zl)).mono ?_); rintro e w2 ⟨rfl, hb2⟩; have HB2 := zh (Bel.call HB.out hb2); replace HMX := zh (HMX.out.call hb2); clear hb2 HB; dsimp only; obtain ⟨⟨m0, m1, m2, m3, m4, m5, m6, m7, m8⟩, _⟩ := HMX.out; have HBJ := zh (Below.refl w2.heap.size w2)
  go_wp2_with fail
  have ha0 : Below w2.heap.size w2 w2.drew := Below.drewN' (Below.refl _ _) 1
  have hs0 := Bel.call HBJ.out ha0
  obtain ⟨wd, hwd⟩ : ∃ W, w2.drew = W := ⟨_, rfl⟩
  refine wp_region_held_drew (S := fun w' => Below w2.heap.size w2 w') (by kernel_rfl) hs0 (fun hHeld => ?_)
  rw [hwd] at hHeld ha0 hs0 ⊢; clear hwd; clear m0 m1 m2 m3 m4 m5 m6 m7 m8; refine zqT 0 ?_ ?_ ?_; rotate_left
  · intro w' hSw; obtain ⟨⟨m0, m1, m2, m3, m4, m5, m6, m7, m8⟩, _⟩ := HMX.out.call hSw; go_simp; try with_reducible rfl
  (try simp only [Act.put, zq1, zq2, zq3]); refine zqT 2 ?_ ?_ ?_; rotate_left
  · intro w' hSw; obtain ⟨⟨m0, m1, m2, m3, m4, m5, m6, m7, m8⟩, _⟩ := HMX.out.call hSw; go_simp; try with_reducible rfl
  (try simp only [Act.put, zq1, zq2, zq3]); refine zqT 3 ?_ ?_ ?_; rotate_left
  · intro w' hSw; obtain ⟨⟨m0, m1, m2, m3, m4, m5, m6, m7, m8⟩, _⟩ := HMX.out.call hSw; go_simp; try with_reducible rfl
  (try simp only [Act.put, zq1, zq2, zq3]); clear hHeld; refine zqR [1] ?_
  refine zqN fun K hK => ?_
  go_simp
  go_at_call 68
  (with_reducible refine (HBY.out _ (HA.out.below (Bel.call HB2.out hs0) zl) (HBB.out.below (Bel.call HB2.out hs0) zl) (HV.out.below (Bel.call HB2.out hs0) zl) (HK.out.below (Bel.call HB2.out hs0) zl)).mono ?_); rintro e w3 ⟨⟨T, hT, rfl⟩, hb3⟩
  have ha3 := Bel.call ha0 hb3
  have hs3 := Bel.call HBJ.out ha3
  clear hb3; dsimp only; refine hK.out _ _ hs3 (fun hHeld => ?_); (try simp only [Act.put, zq1, zq2, zq3]); clear hHeld; refine zqR [4] ?_
  refine zqN fun K hK => ?_
  go_simp
  have ha4 := ha3.alloc ha3.size (.cells #[.string T, .string sig] 9)
  have hs4 := Bel.call HBJ.out ha4
  refine hK.out _ _ hs4 (fun hHeld => ?_); (try simp only [Act.put, zq1, zq2, zq3]); clear hHeld; refine zqR [5] ?_
  refine zqN fun K hK => ?_
  go_simp
  go_at_call 67
  (with_reducible refine (HPP.out T _ _ hT (lit2_reads8 w3 T sig _ rfl)).mono ?_); rintro e w5 ⟨⟨Q, hQ, rfl⟩, hb5⟩
  have ha5 := Bel.call ha4 hb5
  have hs5 := Bel.call HBJ.out ha5
  clear hb5; dsimp only; refine hK.out _ _ hs5 (fun hHeld => ?_); (try simp only [Act.put, zq1, zq2, zq3]); refine zqT 6 ?_ ?_ ?_; rotate_left
  · intro w' hSw; obtain ⟨⟨m0, m1, m2, m3, m4, m5, m6, m7, m8⟩, _⟩ := HMX.out.call hSw; go_simp; try with_reducible rfl
  (try simp only [Act.put, zq1, zq2, zq3]); refine zqT 7 ?_ ?_ ?_; rotate_left
  · intro w' hSw; obtain ⟨⟨m0, m1, m2, m3, m4, m5, m6, m7, m8⟩, _⟩ := HMX.out.call hSw; go_simp; try with_reducible rfl
  (try simp only [Act.put, zq1, zq2, zq3]); clear hHeld
  refine wpAnyH_done (by kernel_rfl) ?_ _
  have HS7 := zh (Bel.call HB2.out hs5); have HQ := zh hQ
  go_wp2
  go_ret2
  exact ⟨⟨Q, HQ.out, rfl⟩, HS7.out⟩
end Go.Proofs.YtlkgjceddbclpaaGreat.Mta

