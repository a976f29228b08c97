/-
  MCPut. By an AI agent.
-/
import Derived.Test.YtlkgjceddbclpaaGreatSZ
import Derived.Test.YtlkgjceddbclpaaGreatSMCBody
import Derived.Test.YtlkgjceddbclpaaGreatSMCRight
namespace Go.Proofs.YtlkgjceddbclpaaGreat.Mta
open Go.RowKit Wire Term Rig

set_option linter.unusedSimpArgs false
set_option maxHeartbeats 8000000 in
set_option maxRecDepth 1000000 in
theorem cBody_any (o f sig : ByteArray) (ep : Int) (A : Option Addr) (c : Nat) (rs : List ByteArray) (B : Option Addr) (d : Nat) (ws : List ByteArray) (ver : Nat) (V : Option Addr) (cv : Nat) (vs : List ByteArray) (K : Option Addr) (ck : Nat) (ks : List (ByteArray × ByteArray)) (w : World) (hA : SReads w A rs) (hB : SReads w B ws) (hV : SReads w V vs) (hK : PReads w K ks) (hna : A = none → c = 0) (hnb : B = none → d = 0) (hf : FewM ⟨⟨o.data.toList, f.data.toList, ep, bl rs, bl ws⟩, ver, bl vs, pl ks, sig.data.toList⟩) :
    Calls Tryz.prog 26 #[.agg #[.string o, .string f, .int .i64 ep, .slice A rs.length c, .slice B ws.length d, .int .u64 (ver : Int), .slice V vs.length cv, .slice K ks.length ck, .string sig]] w fun e w' => Srt (bodyM ⟨⟨o.data.toList, f.data.toList, ep, bl rs, bl ws⟩, ver, bl vs, pl ks, sig.data.toList⟩) e ∧ Below w.heap.size w w' := by
  have HA := zh hA; have HBB := zh hB; have HV := zh hV; have HK := zh hK
  have HRT := zh fun w h1 h2 h3 h4 => cright_any o f sig ep A c rs B d ws ver V cv vs K ck ks w h1 h2 h3 h4 hna hnb hf
  by_cases hr : MR ⟨⟨o.data.toList, f.data.toList, ep, bl rs, bl ws⟩, ver, bl vs, pl ks, sig.data.toList⟩
  case neg =>
    rw [show bodyM ⟨⟨o.data.toList, f.data.toList, ep, bl rs, bl ws⟩, ver, bl vs, pl ks, sig.data.toList⟩ = ([], 1) by unfold bodyM; rw [if_neg hr]]; rw [decide_eq_false hr] at HRT; clear hA hB hV hK hna hnb hf hr
    go_enter Tryz.func26, Tryz.ntmps26
    go_wp2_with fail
    (with_reducible refine (HRT.out _ (HA.out.below (al _ _) zl) (HBB.out.below (al _ _) zl) (HV.out.below (al _ _) zl) (HK.out.below (al _ _) zl)).mono ?_); rintro e w1 ⟨rfl, hb1⟩; have HB1 := zh (Rig.after_alloc (Below.refl _ w) hb1); clear hb1; dsimp only
    go_wp2
    go_ret2
    exact ⟨⟨⟨#[]⟩, rfl, rfl⟩, HB1.out⟩
  rw [decide_eq_true hr] at HRT
  have HBY := zh fun w h1 h2 h3 h4 => cbody_any o f sig ep A c rs B d ws ver V cv vs K ck ks w h1 h2 h3 h4 hf hr.1
  rw [show bodyM ⟨⟨o.data.toList, f.data.toList, ep, bl rs, bl ws⟩, ver, bl vs, pl ks, sig.data.toList⟩ = (bodyB ⟨⟨o.data.toList, f.data.toList, ep, bl rs, bl ws⟩, ver, bl vs, pl ks, sig.data.toList⟩, 0) by unfold bodyM; rw [if_pos hr]]; clear hA hB hV hK hna hnb hf hr
  go_enter Tryz.func26, Tryz.ntmps26
  go_wp2_with fail
  have hmx := mx_alloc w o f ep A rs.length c B ws.length d ver V vs.length cv K ks.length ck sig 39
  have hb0 := al w (.cells #[.string o, .string f, .int .i64 ep, .slice A rs.length c, .slice B ws.length d, .int .u64 (ver : Int), .slice V vs.length cv, .slice K ks.length ck, .string sig] 39)
  have HB := zh hb0; have HMX := zh hmx; clear hmx hb0; obtain ⟨g, hg⟩ : ∃ g, w.heap.size = g := ⟨_, rfl⟩
  generalize w.alloc (.cells #[.string o, .string f, .int .i64 ep, .slice A rs.length c, .slice B ws.length d, .int .u64 (ver : Int), .slice V vs.length cv, .slice K ks.length ck, .string sig] 39) = w1 at HB HMX ⊢
  rw [hg] at HMX ⊢; clear hg; (with_reducible refine (HRT.out _ (HA.out.below HB.out zl) (HBB.out.below HB.out zl) (HV.out.below HB.out zl) (HK.out.below HB.out zl)).mono ?_); rintro e w2 ⟨rfl, hb2⟩; have HB2 := zh (Bel.call HB.out hb2); replace HMX := zh (HMX.out.call hb2); clear hb2 HB; dsimp only; obtain ⟨⟨m0, m1, m2, m3, m4, m5, m6, m7, m8⟩, _⟩ := HMX.out
  go_wp2_with fail
  clear m0 m1 m2 m3 m4 m5 m6 m7 m8; (with_reducible refine (HBY.out _ (HA.out.below HB2.out zl) (HBB.out.below HB2.out zl) (HV.out.below HB2.out zl) (HK.out.below HB2.out zl)).mono ?_); rintro e w3 ⟨⟨T, hT, rfl⟩, hb3⟩; have HB3 := zh (Bel.call HB2.out hb3); have HT := zh hT; clear hb3 hT; dsimp only
  go_wp2
  go_ret2
  exact ⟨⟨T, HT.out, rfl⟩, HB3.out⟩
end Go.Proofs.YtlkgjceddbclpaaGreat.Mta

