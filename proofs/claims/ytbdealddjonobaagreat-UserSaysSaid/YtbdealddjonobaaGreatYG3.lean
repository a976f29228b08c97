/-
  G3. By an AI agent.
-/
import Derived.Test.YtbdealddjonobaaGreatYZ
import Derived.Deep.QuietTactic
import Derived.BigQuiet
import Derived.Test.YtbdealddjonobaaGreatYG2
import Derived.Test.YtbdealddjonobaaGreatYG1
import Derived.Test.YtbdealddjonobaaGreatYW0
namespace Go.Proofs.YtbdealddjonobaaGreat.Rig
open Go.RowKit Wire

set_option linter.unusedSimpArgs false
theorem Two.bel {w w1 : World} {o f : ByteArray} {ep : Int} {A : Option Addr} {n c : Nat} {B : Option Addr} {m d : Nat} (h : Two w w1 o f ep A n c B m d) : Below w.heap.size w w1 := h.2.2.2
theorem al2 (w : World) (a b : Obj) : Below w.heap.size w ((w.alloc a).alloc b) := (al w a).alloc (by simp) b
theorem sreads_set5 {w : World} {A : Option Addr} {ys : List ByteArray} (h : SReads w A ys) {R : Nat} {v0 v1 v2 v3 v4 : Value} (hR : ∀ b off, A = some ⟨b, off, none⟩ → b ≠ R) : SReads (((((w.setCell ⟨R, 0, none⟩ v0).setCell ⟨R, 1, none⟩ v1).setCell ⟨R, 2, none⟩ v2).setCell ⟨R, 3, none⟩ v3).setCell ⟨R, 4, none⟩ v4) A ys :=
  sreads_set (sreads_set (sreads_set (sreads_set (sreads_set h hR) hR) hR) hR) hR
end Go.Proofs.YtbdealddjonobaaGreat.Rig

namespace Go.Proofs.YtbdealddjonobaaGreat.Rig
open Go.RowKit Wire

set_option linter.unusedSimpArgs false
end Go.Proofs.YtbdealddjonobaaGreat.Rig

namespace Go.Proofs.YtbdealddjonobaaGreat.Rig
open Go.RowKit Wire

theorem bl_inj {ys zs : List ByteArray} (h : bl ys = bl zs) : ys = zs := by
  induction ys generalizing zs with
  | nil =>
    cases zs with
    | nil => rfl
    | cons z zs => exact absurd h (by simp [bl])
  | cons y ys ih =>
    cases zs with
    | nil => exact absurd h (by simp [bl])
    | cons z zs =>
      have h1 : y.data.toList = z.data.toList ∧ bl ys = bl zs := by simpa [bl] using h
      rw [str_eq h1.1, ih h1.2]
theorem two_boxes (w : World) (o f : ByteArray) (ep : Int) (A : Option Addr) (n c : Nat) (B : Option Addr) (m d : Nat) (A' : Option Addr) (c' : Nat) (B' : Option Addr) (d' : Nat) (t : TypeId) :
    Bx w.heap.size ((w.alloc (.cells #[.string o, .string f, .int .i64 ep, .slice A n c, .slice B m d] t)).alloc (.cells #[.string o, .string f, .int .i64 ep, .slice A' n c', .slice B' m d'] t)) o f ep A n c B m d ∧
    Bx (w.heap.size + 1) ((w.alloc (.cells #[.string o, .string f, .int .i64 ep, .slice A n c, .slice B m d] t)).alloc (.cells #[.string o, .string f, .int .i64 ep, .slice A' n c', .slice B' m d'] t)) o f ep A' n c' B' m d' ∧
    Below w.heap.size w ((w.alloc (.cells #[.string o, .string f, .int .i64 ep, .slice A n c, .slice B m d] t)).alloc (.cells #[.string o, .string f, .int .i64 ep, .slice A' n c', .slice B' m d'] t)) := by
  have e : (w.alloc (.cells #[.string o, .string f, .int .i64 ep, .slice A n c, .slice B m d] t)).heap.size = w.heap.size + 1 := by simp
  have h1 := bx_alloc w o f ep A n c B m d t
  have hw1 : Below w.heap.size w (w.alloc (.cells #[.string o, .string f, .int .i64 ep, .slice A n c, .slice B m d] t)) := (Below.refl _ w).alloc zl _
  generalize w.alloc (.cells #[.string o, .string f, .int .i64 ep, .slice A n c, .slice B m d] t) = wa at e h1 hw1 ⊢
  have h2 := bx_alloc wa o f ep A' n c' B' m d' t
  have h3 : Below wa.heap.size wa (wa.alloc (.cells #[.string o, .string f, .int .i64 ep, .slice A' n c', .slice B' m d'] t)) := (Below.refl _ wa).alloc zl _
  rw [e] at h2
  exact ⟨h1.below h3 (by omega), h2, hw1.trans (h3.mono hw1.size)⟩
set_option maxHeartbeats 4000000 in
set_option maxRecDepth 1000000 in
theorem rsame_any (o f : ByteArray) (ep : Int) (A : Option Addr) (c : Nat) (rs : List ByteArray) (B : Option Addr) (d : Nat) (ws : List ByteArray) (A' : Option Addr) (c' : Nat) (B' : Option Addr) (d' : Nat) (w : World) (hA : SReads w A rs) (hB : SReads w B ws) (hA' : SReads w A' rs) (hB' : SReads w B' ws) (hr : rs.length ≤ 1000000) (hw : ws.length ≤ 1000000) :
    Calls Tryz.prog 36 #[RV o f ep A rs.length c B ws.length d, RV o f ep A' rs.length c' B' ws.length d'] w fun e w' => e = .returned (.bool true) ∧ Below w.heap.size w w' := by
  have HA := zh hA; have HBB := zh hB
  have HA' := zh hA'
  have HBB' := zh hB'
  clear hA hB hA' hB'
  unfold RV
  go_enter Tryz.func36, Tryz.ntmps36
  go_wp2_with fail
  obtain ⟨hx, hy, hbw⟩ := two_boxes w o f ep A rs.length c B ws.length d A' c' B' d' 48
  generalize (w.alloc (.cells #[.string o, .string f, .int .i64 ep, .slice A rs.length c, .slice B ws.length d] 48)).alloc (.cells #[.string o, .string f, .int .i64 ep, .slice A' rs.length c', .slice B' ws.length d'] 48) = w1 at hx hy hbw ⊢
  have HX := zh hx; have HY := zh hy; have HBW := zh hbw; clear hx hy hbw
  go_loopw [5] (fun i wr => ∃ k : Nat, k ≤ rs.length ∧ i = .int .i64 (k : Int) ∧ Hid (Below w1.heap.size w1 wr)) (fun i _ => rs.length - (intOf i).toNat)
  case atStart => exact ⟨0, Nat.zero_le _, rfl, zh (Below.refl _ _)⟩
  case round =>
    obtain ⟨k, hk, rfl, HW⟩ := hrel; obtain ⟨c0, c1, c2, c3, c4, _⟩ := HX.out.below HW.out HX.out.2.2.2.2.2; obtain ⟨d0, d1, d2, d3, d4, _⟩ := HY.out.below HW.out HY.out.2.2.2.2.2; have HBR := zh (Bel.call HBW.out HW.out)
    by_cases hlt : (k : Int) < (rs.length : Int)
    · obtain ⟨b, off, rfl, hbl, hcl⟩ := (HA.out.below HBR.out zl) k (by omega)
      obtain ⟨b', off', rfl, hbl', hcl'⟩ := (HA'.out.below HBR.out zl) k (by omega); obtain ⟨y, hy⟩ : ∃ y, rs.getD k ByteArray.empty = y := ⟨_, rfl⟩; rw [hy] at hcl hcl'
      have hk0 : (0 : Int) ≤ (k : Int) := by omega
      clear hy hbl hbl'
      go_wp2
      go_quiet (fail)
      go_wp2
      go_roundw
      case rel => exact ⟨k + 1, by omega, by go_num, zh (Below.drewN' HW.out _)⟩
      case measure => simp [intOf]; omega
    · go_wp2_with fail
      clear c0 c1 c2 c3 c4 d0 d1 d2 d3 d4
      go_loopw [6] (fun i wr2 => ∃ j : Nat, j ≤ ws.length ∧ i = .int .i64 (j : Int) ∧ Hid (Below wr.heap.size wr wr2)) (fun i _ => ws.length - (intOf i).toNat)
      case atStart => exact ⟨0, Nat.zero_le _, rfl, zh (Below.refl _ _)⟩
      case round =>
        obtain ⟨j, hj, rfl, HW2⟩ := hrel; have HX2 := zh (HX.out.below HW.out HX.out.2.2.2.2.2); have HY2 := zh (HY.out.below HW.out HY.out.2.2.2.2.2); obtain ⟨c0, c1, c2, c3, c4, _⟩ := HX2.out.below HW2.out HX2.out.2.2.2.2.2; obtain ⟨d0, d1, d2, d3, d4, _⟩ := HY2.out.below HW2.out HY2.out.2.2.2.2.2; have HBR2 := zh (Bel.call HBR.out HW2.out)
        by_cases hlt2 : (j : Int) < (ws.length : Int)
        · obtain ⟨b, off, rfl, hbl, hcl⟩ := (HBB.out.below HBR2.out zl) j (by omega)
          obtain ⟨b', off', rfl, hbl', hcl'⟩ := (HBB'.out.below HBR2.out zl) j (by omega); obtain ⟨y, hy⟩ : ∃ y, ws.getD j ByteArray.empty = y := ⟨_, rfl⟩; rw [hy] at hcl hcl'
          have hj0 : (0 : Int) ≤ (j : Int) := by omega
          clear hy hbl hbl'
          go_wp2
          go_quiet (fail)
          go_wp2
          go_roundw
          case rel => exact ⟨j + 1, by omega, by go_num, zh (Below.drewN' HW2.out _)⟩
          case measure => simp [intOf]; omega
        · go_wp2
          go_ret
          exact ⟨rfl, HBR2.out⟩
end Go.Proofs.YtbdealddjonobaaGreat.Rig

namespace Go.Proofs.YtbdealddjonobaaGreat.Rig
open Go.RowKit Wire

end Go.Proofs.YtbdealddjonobaaGreat.Rig

