/-
  MSame. By an AI agent.
-/
import Derived.Test.YtlkgjceddbclpaaGreatBZ
import Derived.Deep.QuietTactic
import Derived.BigQuiet
import Derived.Test.YtlkgjceddbclpaaGreatBMTo
import Derived.Test.YtlkgjceddbclpaaGreatBG3
namespace Go.Proofs.YtlkgjceddbclpaaGreat.Mta
open Go.RowKit Wire Term Rig

set_option linter.unusedSimpArgs false
set_option linter.unusedVariables false
theorem two_metas (w : World) (o f sig : ByteArray) (ep : Int) (rs ws : List ByteArray) (ver : Nat) (vs : List ByteArray) (ks : List (ByteArray × ByteArray)) (A : Option Addr) (c : Nat) (B : Option Addr) (d : Nat) (V : Option Addr) (cv : Nat) (K : Option Addr) (ck : Nat) (A' : Option Addr) (c' : Nat) (B' : Option Addr) (d' : Nat) (V' : Option Addr) (cv' : Nat) (K' : Option Addr) (ck' : Nat) (t : TypeId) :
    Mx w.heap.size ((w.alloc (.cells #[.string o, .string f, .int .i64 ep, .slice A rs.length c, .slice B ws.length d, .int .u64 (ver : Int), .slice V vs.length cv, .slice K ks.length ck, .string sig] t)).alloc (.cells #[.string o, .string f, .int .i64 ep, .slice A' rs.length c', .slice B' ws.length d', .int .u64 (ver : Int), .slice V' vs.length cv', .slice K' ks.length ck', .string sig] t)) o f ep A rs.length c B ws.length d ver V vs.length cv K ks.length ck sig ∧ Mx (w.heap.size + 1) ((w.alloc (.cells #[.string o, .string f, .int .i64 ep, .slice A rs.length c, .slice B ws.length d, .int .u64 (ver : Int), .slice V vs.length cv, .slice K ks.length ck, .string sig] t)).alloc (.cells #[.string o, .string f, .int .i64 ep, .slice A' rs.length c', .slice B' ws.length d', .int .u64 (ver : Int), .slice V' vs.length cv', .slice K' ks.length ck', .string sig] t)) o f ep A' rs.length c' B' ws.length d' ver V' vs.length cv' K' ks.length ck' sig ∧ Below w.heap.size w ((w.alloc (.cells #[.string o, .string f, .int .i64 ep, .slice A rs.length c, .slice B ws.length d, .int .u64 (ver : Int), .slice V vs.length cv, .slice K ks.length ck, .string sig] t)).alloc (.cells #[.string o, .string f, .int .i64 ep, .slice A' rs.length c', .slice B' ws.length d', .int .u64 (ver : Int), .slice V' vs.length cv', .slice K' ks.length ck', .string sig] t)) := by
  have e : (w.alloc (.cells #[.string o, .string f, .int .i64 ep, .slice A rs.length c, .slice B ws.length d, .int .u64 (ver : Int), .slice V vs.length cv, .slice K ks.length ck, .string sig] t)).heap.size = w.heap.size + 1 := by simp
  have h1 := mx_alloc w o f ep A rs.length c B ws.length d ver V vs.length cv K ks.length ck sig t
  have hw1 : Below w.heap.size w (w.alloc (.cells #[.string o, .string f, .int .i64 ep, .slice A rs.length c, .slice B ws.length d, .int .u64 (ver : Int), .slice V vs.length cv, .slice K ks.length ck, .string sig] t)) := (Below.refl _ w).alloc zl _
  generalize w.alloc (.cells #[.string o, .string f, .int .i64 ep, .slice A rs.length c, .slice B ws.length d, .int .u64 (ver : Int), .slice V vs.length cv, .slice K ks.length ck, .string sig] t) = wa at e h1 hw1 ⊢
  have h2 := mx_alloc wa o f ep A' rs.length c' B' ws.length d' ver V' vs.length cv' K' ks.length ck' sig t
  have h3 : Below wa.heap.size wa (wa.alloc (.cells #[.string o, .string f, .int .i64 ep, .slice A' rs.length c', .slice B' ws.length d', .int .u64 (ver : Int), .slice V' vs.length cv', .slice K' ks.length ck', .string sig] t)) := (Below.refl _ wa).alloc zl _
  rw [e] at h2
  exact ⟨h1.call h3, h2, hw1.trans (h3.mono hw1.size)⟩
set_option maxHeartbeats 8000000 in
set_option maxRecDepth 1000000 in
theorem msame_any (o f sig : ByteArray) (ep : Int) (rs ws : List ByteArray) (ver : Nat) (vs : List ByteArray) (ks : List (ByteArray × ByteArray)) (A : Option Addr) (c : Nat) (B : Option Addr) (d : Nat) (V : Option Addr) (cv : Nat) (K : Option Addr) (ck : Nat) (A' : Option Addr) (c' : Nat) (B' : Option Addr) (d' : Nat) (V' : Option Addr) (cv' : Nat) (K' : Option Addr) (ck' : Nat) (w : World) (hA : SReads w A rs) (hB : SReads w B ws) (hV : SReads w V vs) (hK : PReads w K ks) (hA' : SReads w A' rs) (hB' : SReads w B' ws) (hV' : SReads w V' vs) (hK' : PReads w K' ks) (hr : rs.length ≤ 1000000) (hw : ws.length ≤ 1000000) (hvl : vs.length ≤ 1000000) (hkl : ks.length ≤ 1000000) :
    Calls Tryz.prog 21 #[.agg #[.string o, .string f, .int .i64 ep, .slice A rs.length c, .slice B ws.length d, .int .u64 (ver : Int), .slice V vs.length cv, .slice K ks.length ck, .string sig], .agg #[.string o, .string f, .int .i64 ep, .slice A' rs.length c', .slice B' ws.length d', .int .u64 (ver : Int), .slice V' vs.length cv', .slice K' ks.length ck', .string sig]] w fun e w' => e = .returned (.bool true) ∧ Below w.heap.size w w' := by
  have HA := zh hA
  have HA' := zh hA'
  have HBB := zh hB
  have HBB' := zh hB'
  have HV := zh hV
  have HV' := zh hV'
  have HK := zh hK
  have HK' := zh hK'
  clear hA hB hV hK hA' hB' hV' hK'
  have HRS : Hid (∀ w1, Below w.heap.size w w1 → Calls Tryz.prog 66 #[.agg #[.string o, .string f, .int .i64 ep, .slice A rs.length c, .slice B ws.length d], .agg #[.string o, .string f, .int .i64 ep, .slice A' rs.length c', .slice B' ws.length d']] w1 fun e w' => e = .returned (.bool true) ∧ Below w1.heap.size w1 w') := zh fun w1 h1 => rsame_any o f ep A c rs B d ws A' c' B' d' w1 (HA.out.below h1 zl) (HBB.out.below h1 zl) (HA'.out.below h1 zl) (HBB'.out.below h1 zl) hr hw
  go_enter Tryz.func21, Tryz.ntmps21
  go_wp2_with fail
  obtain ⟨hx, hy, hbw⟩ := two_metas w o f sig ep rs ws ver vs ks A c B d V cv K ck A' c' B' d' V' cv' K' ck' 45
  generalize (w.alloc (.cells #[.string o, .string f, .int .i64 ep, .slice A rs.length c, .slice B ws.length d, .int .u64 (ver : Int), .slice V vs.length cv, .slice K ks.length ck, .string sig] 45)).alloc (.cells #[.string o, .string f, .int .i64 ep, .slice A' rs.length c', .slice B' ws.length d', .int .u64 (ver : Int), .slice V' vs.length cv', .slice K' ks.length ck', .string sig] 45) = w1 at hx hy hbw ⊢
  have HX := zh hx
  have HY := zh hy
  have HBW := zh hbw
  obtain ⟨⟨c0, c1, c2, c3, c4, c5, c6, c7, c8⟩, _⟩ := hx
  obtain ⟨⟨d0, d1, d2, d3, d4, d5, d6, d7, d8⟩, _⟩ := hy
  clear hbw
  go_wp2_with fail
  with_reducible refine (HRS.out _ HBW.out).mono ?_
  rintro e w2 ⟨rfl, hb2⟩
  have HX := zh (HX.out.call hb2)
  have HY := zh (HY.out.call hb2)
  have HBW := zh (Bel.call HBW.out hb2)
  clear hb2 c0 c1 c2 c3 c4 c5 c6 c7 c8 d0 d1 d2 d3 d4 d5 d6 d7 d8
  obtain ⟨⟨c0, c1, c2, c3, c4, c5, c6, c7, c8⟩, _⟩ := HX.out
  obtain ⟨⟨d0, d1, d2, d3, d4, d5, d6, d7, d8⟩, _⟩ := HY.out
  dsimp only
  go_wp2_with fail
  clear c0 c1 c2 c3 c4 c5 c6 c7 c8 d0 d1 d2 d3 d4 d5 d6 d7 d8
  go_loopw [5] (fun i wr => ∃ k : Nat, k ≤ vs.length ∧ i = .int .i64 (k : Int) ∧ Hid (Below w2.heap.size w2 wr)) (fun i _ => vs.length - (intOf i).toNat)
  case atStart => exact ⟨0, Nat.zero_le _, rfl, zh (Below.refl _ _)⟩
  case round =>
    obtain ⟨k, hk, rfl, HW⟩ := hrel
    obtain ⟨⟨c0, c1, c2, c3, c4, c5, c6, c7, c8⟩, _⟩ := HX.out.call HW.out
    obtain ⟨⟨d0, d1, d2, d3, d4, d5, d6, d7, d8⟩, _⟩ := HY.out.call HW.out
    have HBR := zh (Bel.call HBW.out HW.out)
    by_cases hlt : (k : Int) < (vs.length : Int)
    · obtain ⟨b, off, rfl, hbl, hcl⟩ := (HV.out.below HBR.out zl) k (by omega)
      obtain ⟨b', off', rfl, hbl', hcl'⟩ := (HV'.out.below HBR.out zl) k (by omega)
      obtain ⟨y, hy⟩ : ∃ y, vs.getD k ByteArray.empty = y := ⟨_, rfl⟩
      rw [hy] at hcl hcl'
      have hk0 : (0 : Int) ≤ (k : Int) := by omega
      clear hy hbl hbl'
      go_wp2
      go_quiet (fail)
      go_wp2
      go_roundw
      case rel => exact ⟨k + 1, by omega, by go_num, zh (Below.drewN' HW.out _)⟩
      case measure => simp [intOf]; omega
    · go_wp2_with fail
      clear c0 c1 c2 c3 c4 c5 c6 c7 c8 d0 d1 d2 d3 d4 d5 d6 d7 d8
      go_loopw [6] (fun i wr2 => ∃ j : Nat, j ≤ ks.length ∧ i = .int .i64 (j : Int) ∧ Hid (Below wr.heap.size wr wr2)) (fun i _ => ks.length - (intOf i).toNat)
      case atStart => exact ⟨0, Nat.zero_le _, rfl, zh (Below.refl _ _)⟩
      case round =>
        obtain ⟨j, hj, rfl, HW2⟩ := hrel
        have HX2 := zh (HX.out.call HW.out)
        have HY2 := zh (HY.out.call HW.out)
        obtain ⟨⟨c0, c1, c2, c3, c4, c5, c6, c7, c8⟩, _⟩ := HX2.out.call HW2.out
        obtain ⟨⟨d0, d1, d2, d3, d4, d5, d6, d7, d8⟩, _⟩ := HY2.out.call HW2.out
        have HBR2 := zh (Bel.call HBR.out HW2.out)
        by_cases hlt2 : (j : Int) < (ks.length : Int)
        · obtain ⟨b, off, rfl, hbl, hcl, hcl2⟩ := (HK.out.below HBR2.out zl) j (by omega)
          obtain ⟨b', off', rfl, hbl', hcl', hcl2'⟩ := (HK'.out.below HBR2.out zl) j (by omega)
          obtain ⟨y, z, hy⟩ : ∃ y z, ks.getD j default = (y, z) := ⟨_, _, rfl⟩
          rw [hy] at hcl hcl' hcl2 hcl2'
          simp only at hcl hcl' hcl2 hcl2'
          have hj0 : (0 : Int) ≤ (j : Int) := by omega
          clear hy hbl hbl'
          go_wp2
          go_quiet (fail)
          go_wp2
          go_roundw
          case rel => exact ⟨j + 1, by omega, by go_num, zh (Below.drewN' HW2.out _)⟩
          case measure => simp [intOf]; omega
        · go_wp2
          go_ret
          exact ⟨rfl, HBR2.out⟩
end Go.Proofs.YtlkgjceddbclpaaGreat.Mta

