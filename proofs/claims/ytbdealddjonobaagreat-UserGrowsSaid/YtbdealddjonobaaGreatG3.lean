/-
  One text of several, in their order: GRevoke, GGrant, GSame, GAllF. By an AI agent; no person has read it.
-/
import Derived.Test.YtbdealddjonobaaGreatG2
import Derived.Test.YtbdealddjonobaaGreatG1
import Derived.Deep.QuietTactic
import Derived.BigQuiet
import Derived.Test.YtbdealddjonobaaGreatW0
/-
  CONTRACT of the document's Revoke (letterlockref7) at this program. By an AI agent; no person has read it.
-/
namespace Go.Proofs.YtbdealddjonobaaGreat.Rig
open Go.RowKit Wire

set_option linter.unusedSimpArgs false
theorem Two.bel {w w1 : World} {o f : ByteArray} {ep : Int} {A : Option Addr} {n c : Nat} {B : Option Addr} {m d : Nat} (h : Two w w1 o f ep A n c B m d) : Below w.heap.size w w1 := h.2.2.2
theorem al2 (w : World) (a b : Obj) : Below w.heap.size w ((w.alloc a).alloc b) := (al w a).alloc (by simp) b
theorem sreads_set5 {w : World} {A : Option Addr} {ys : List ByteArray} (h : SReads w A ys) {R : Nat} {v0 v1 v2 v3 v4 : Value} (hR : ∀ b off, A = some ⟨b, off, none⟩ → b ≠ R) : SReads (((((w.setCell ⟨R, 0, none⟩ v0).setCell ⟨R, 1, none⟩ v1).setCell ⟨R, 2, none⟩ v2).setCell ⟨R, 3, none⟩ v3).setCell ⟨R, 4, none⟩ v4) A ys :=
  sreads_set (sreads_set (sreads_set (sreads_set (sreads_set h hR) hR) hR) hR) hR
theorem bel_set5 (w : World) {R : Nat} {v0 v1 v2 v3 v4 : Value} : Below R w (((((w.setCell ⟨R, 0, none⟩ v0).setCell ⟨R, 1, none⟩ v1).setCell ⟨R, 2, none⟩ v2).setCell ⟨R, 3, none⟩ v3).setCell ⟨R, 4, none⟩ v4) :=
  have h : R ≤ R := Nat.le_refl R
  (((((Below.refl R w).setCell (p := ⟨R, 0, none⟩) h v0).setCell (p := ⟨R, 1, none⟩) h v1).setCell (p := ⟨R, 2, none⟩) h v2).setCell (p := ⟨R, 3, none⟩) h v3).setCell (p := ⟨R, 4, none⟩) h v4
end Go.Proofs.YtbdealddjonobaaGreat.Rig

/-
  CONTRACT of the document's Grant (letterlockref7) at this program. By an AI agent; no person has read it.
-/
namespace Go.Proofs.YtbdealddjonobaaGreat.Rig
open Go.RowKit Wire

set_option linter.unusedSimpArgs false
/-- A store elsewhere leaves a list as it is (one of no elements in any case). -/
theorem sreads_setL {w : World} {A : Option Addr} {ys : List ByteArray} (h : SReads w A ys) {R j : Nat} {v : Value} (hR : ∀ b off, A = some ⟨b, off, none⟩ → 0 < ys.length → b ≠ R) : SReads (w.setCell ⟨R, j, none⟩ v) A ys := fun i hi => by
  obtain ⟨b, off, e, hb, hc⟩ := h i hi
  refine ⟨b, off, e, by simpa [World.setCell] using hb, ?_⟩
  rw [World.cell?_setCell_other w ⟨R, j, none⟩ ⟨b, off + i, none⟩ v (fun e2 => hR b off e (by omega) (by injection e2 with e3 _ _; exact e3.symm))]
  exact hc
theorem sreads_setL5 {w : World} {A : Option Addr} {ys : List ByteArray} (h : SReads w A ys) {R : Nat} {v0 v1 v2 v3 v4 : Value} (hR : ∀ b off, A = some ⟨b, off, none⟩ → 0 < ys.length → b ≠ R) : SReads (((((w.setCell ⟨R, 0, none⟩ v0).setCell ⟨R, 1, none⟩ v1).setCell ⟨R, 2, none⟩ v2).setCell ⟨R, 3, none⟩ v3).setCell ⟨R, 4, none⟩ v4) A ys :=
  sreads_setL (sreads_setL (sreads_setL (sreads_setL (sreads_setL h hR) hR) hR) hR) hR
theorem bx_set5 {R : Nat} {w : World} {o' f' : ByteArray} {ep' : Int} {A' : Option Addr} {n' c' : Nat} {B' : Option Addr} {m' d' : Nat} {o f : ByteArray} {ep : Int} {A : Option Addr} {n c : Nat} {B : Option Addr} {m d : Nat} (h : Bx R w o' f' ep' A' n' c' B' m' d') :
    Bx R (((((w.setCell ⟨R, 0, none⟩ (.string o)).setCell ⟨R, 1, none⟩ (.string f)).setCell ⟨R, 2, none⟩ (.int .i64 ep)).setCell ⟨R, 3, none⟩ (.slice A n c)).setCell ⟨R, 4, none⟩ (.slice B m d)) o f ep A n c B m d := by
  obtain ⟨h0, h1, h2, h3, h4, h5⟩ := h
  refine ⟨?_, ?_, ?_, ?_, ?_, by simpa [World.setCell] using h5⟩ <;> simp [World.cell?_setCell_other, World.cell?_setCell_same', h0, h1, h2, h3, h4]
theorem sf_set5 {R : Nat} {w : World} {v0 v1 v2 v3 v4 : Value} (h : Sf R w) : Sf R (((((w.setCell ⟨R, 0, none⟩ v0).setCell ⟨R, 1, none⟩ v1).setCell ⟨R, 2, none⟩ v2).setCell ⟨R, 3, none⟩ v3).setCell ⟨R, 4, none⟩ v4) := by
  obtain ⟨h0, h1, h2, h3, h4⟩ := h
  refine ⟨?_, ?_, ?_, ?_, ?_⟩ <;> simp [h0, h1, h2, h3, h4]
theorem two_set5 {w w1 : World} {o f : ByteArray} {ep : Int} {A : Option Addr} {n c : Nat} {B : Option Addr} {m d : Nat} {G : Nat} {v0 v1 v2 v3 v4 : Value} (h : Two w w1 o f ep A n c B m d) (hG : w.heap.size + 1 < G) :
    Two w (((((w1.setCell ⟨G, 0, none⟩ v0).setCell ⟨G, 1, none⟩ v1).setCell ⟨G, 2, none⟩ v2).setCell ⟨G, 3, none⟩ v3).setCell ⟨G, 4, none⟩ v4) o f ep A n c B m d :=
  ⟨h.1.below (bel_set5 w1) (by omega), h.2.1.below (bel_set5 w1) hG, h.2.2.1.below (bel_set5 w1) hG, set5 h.bel (by omega)⟩
end Go.Proofs.YtbdealddjonobaaGreat.Rig

/-
  CONTRACT of the document's Same (letterlockref7) at this program: of rights that say the same it answers true. By an AI agent; no person has read it.
-/
namespace Go.Proofs.YtbdealddjonobaaGreat.Rig
open Go.RowKit Wire

theorem bl_inj {ys zs : List ByteArray} (h : bl ys = bl zs) : ys = zs := by
  induction ys generalizing zs with
  | nil =>
    cases zs with
    | nil => rfl
    | cons z zs => exact absurd h (by simp [bl])
  | cons y ys ih =>
    cases zs with
    | nil => exact absurd h (by simp [bl])
    | cons z zs =>
      have h1 : y.data.toList = z.data.toList ∧ bl ys = bl zs := by simpa [bl] using h
      rw [str_eq h1.1, ih h1.2]
/-- Two boxes in a row. -/
theorem two_boxes (w : World) (o f : ByteArray) (ep : Int) (A : Option Addr) (n c : Nat) (B : Option Addr) (m d : Nat) (A' : Option Addr) (c' : Nat) (B' : Option Addr) (d' : Nat) (t : TypeId) :
    Bx w.heap.size ((w.alloc (.cells #[.string o, .string f, .int .i64 ep, .slice A n c, .slice B m d] t)).alloc (.cells #[.string o, .string f, .int .i64 ep, .slice A' n c', .slice B' m d'] t)) o f ep A n c B m d ∧
    Bx (w.heap.size + 1) ((w.alloc (.cells #[.string o, .string f, .int .i64 ep, .slice A n c, .slice B m d] t)).alloc (.cells #[.string o, .string f, .int .i64 ep, .slice A' n c', .slice B' m d'] t)) o f ep A' n c' B' m d' ∧
    Below w.heap.size w ((w.alloc (.cells #[.string o, .string f, .int .i64 ep, .slice A n c, .slice B m d] t)).alloc (.cells #[.string o, .string f, .int .i64 ep, .slice A' n c', .slice B' m d'] t)) := by
  have e : (w.alloc (.cells #[.string o, .string f, .int .i64 ep, .slice A n c, .slice B m d] t)).heap.size = w.heap.size + 1 := by simp
  have h1 := bx_alloc w o f ep A n c B m d t
  have hw1 : Below w.heap.size w (w.alloc (.cells #[.string o, .string f, .int .i64 ep, .slice A n c, .slice B m d] t)) := (Below.refl _ w).alloc (Nat.le_refl _) _
  generalize w.alloc (.cells #[.string o, .string f, .int .i64 ep, .slice A n c, .slice B m d] t) = wa at e h1 hw1 ⊢
  have h2 := bx_alloc wa o f ep A' n c' B' m d' t
  have h3 : Below wa.heap.size wa (wa.alloc (.cells #[.string o, .string f, .int .i64 ep, .slice A' n c', .slice B' m d'] t)) := (Below.refl _ wa).alloc (Nat.le_refl _) _
  rw [e] at h2
  exact ⟨h1.below h3 (by omega), h2, hw1.trans (h3.mono hw1.size)⟩
set_option maxHeartbeats 4000000 in
set_option maxRecDepth 1000000 in
theorem rsame_any (o f : ByteArray) (ep : Int) (A : Option Addr) (c : Nat) (rs : List ByteArray) (B : Option Addr) (d : Nat) (ws : List ByteArray) (A' : Option Addr) (c' : Nat) (B' : Option Addr) (d' : Nat) (w : World) (hA : SReads w A rs) (hB : SReads w B ws) (hA' : SReads w A' rs) (hB' : SReads w B' ws) (hr : rs.length ≤ 1000000) (hw : ws.length ≤ 1000000) :
    Calls Tryz.prog 36 #[RV o f ep A rs.length c B ws.length d, RV o f ep A' rs.length c' B' ws.length d'] w fun e w' => e = .returned (.bool true) ∧ Below w.heap.size w w' := by
  have HA := Lib.hid hA
  have HBB := Lib.hid hB
  have HA' := Lib.hid hA'
  have HBB' := Lib.hid hB'
  clear hA hB hA' hB'
  unfold RV
  go_enter Tryz.func36, Tryz.ntmps36
  go_wp2_with fail
  obtain ⟨hx, hy, hbw⟩ := two_boxes w o f ep A rs.length c B ws.length d A' c' B' d' 48
  generalize (w.alloc (.cells #[.string o, .string f, .int .i64 ep, .slice A rs.length c, .slice B ws.length d] 48)).alloc (.cells #[.string o, .string f, .int .i64 ep, .slice A' rs.length c', .slice B' ws.length d'] 48) = w1 at hx hy hbw ⊢
  have HX := Lib.hid hx
  have HY := Lib.hid hy
  have HBW := Lib.hid hbw
  clear hx hy hbw
  go_loopw [5] (fun i wr => ∃ k : Nat, k ≤ rs.length ∧ i = .int .i64 (k : Int) ∧ Hid (Below w1.heap.size w1 wr)) (fun i _ => rs.length - (intOf i).toNat)
  case atStart => exact ⟨0, Nat.zero_le _, rfl, Lib.hid (Below.refl _ _)⟩
  case round =>
    obtain ⟨k, hk, rfl, HW⟩ := hrel
    obtain ⟨c0, c1, c2, c3, c4, _⟩ := HX.out.below HW.out HX.out.2.2.2.2.2
    obtain ⟨d0, d1, d2, d3, d4, _⟩ := HY.out.below HW.out HY.out.2.2.2.2.2
    have HBR := Lib.hid (Bel.call HBW.out HW.out)
    by_cases hlt : (k : Int) < (rs.length : Int)
    · obtain ⟨b, off, rfl, hbl, hcl⟩ := (HA.out.below HBR.out (Nat.le_refl _)) k (by omega)
      obtain ⟨b', off', rfl, hbl', hcl'⟩ := (HA'.out.below HBR.out (Nat.le_refl _)) k (by omega)
      obtain ⟨y, hy⟩ : ∃ y, rs.getD k ByteArray.empty = y := ⟨_, rfl⟩
      rw [hy] at hcl hcl'
      have hk0 : (0 : Int) ≤ (k : Int) := by omega
      clear hy hbl hbl'
      go_wp2
      go_quiet (fail)
      go_wp2
      go_roundw
      case rel => exact ⟨k + 1, by omega, by go_num, Lib.hid (Below.drewN' HW.out _)⟩
      case measure => simp [intOf]; omega
    · go_wp2_with fail
      clear c0 c1 c2 c3 c4 d0 d1 d2 d3 d4
      go_loopw [6] (fun i wr2 => ∃ j : Nat, j ≤ ws.length ∧ i = .int .i64 (j : Int) ∧ Hid (Below wr.heap.size wr wr2)) (fun i _ => ws.length - (intOf i).toNat)
      case atStart => exact ⟨0, Nat.zero_le _, rfl, Lib.hid (Below.refl _ _)⟩
      case round =>
        obtain ⟨j, hj, rfl, HW2⟩ := hrel
        have HX2 := Lib.hid (HX.out.below HW.out HX.out.2.2.2.2.2)
        have HY2 := Lib.hid (HY.out.below HW.out HY.out.2.2.2.2.2)
        obtain ⟨c0, c1, c2, c3, c4, _⟩ := HX2.out.below HW2.out HX2.out.2.2.2.2.2
        obtain ⟨d0, d1, d2, d3, d4, _⟩ := HY2.out.below HW2.out HY2.out.2.2.2.2.2
        have HBR2 := Lib.hid (Bel.call HBR.out HW2.out)
        by_cases hlt2 : (j : Int) < (ws.length : Int)
        · obtain ⟨b, off, rfl, hbl, hcl⟩ := (HBB.out.below HBR2.out (Nat.le_refl _)) j (by omega)
          obtain ⟨b', off', rfl, hbl', hcl'⟩ := (HBB'.out.below HBR2.out (Nat.le_refl _)) j (by omega)
          obtain ⟨y, hy⟩ : ∃ y, ws.getD j ByteArray.empty = y := ⟨_, rfl⟩
          rw [hy] at hcl hcl'
          have hj0 : (0 : Int) ≤ (j : Int) := by omega
          clear hy hbl hbl'
          go_wp2
          go_quiet (fail)
          go_wp2
          go_roundw
          case rel => exact ⟨j + 1, by omega, by go_num, Lib.hid (Below.drewN' HW2.out _)⟩
          case measure => simp [intOf]; omega
        · go_wp2
          go_ret
          exact ⟨rfl, HBR2.out⟩
end Go.Proofs.YtbdealddjonobaaGreat.Rig

/-
  CONTRACT of the document's TakeAll (letterlockref2) at this program, its list fresh. By an AI agent; no person has read it.
-/
namespace Go.Proofs.YtbdealddjonobaaGreat.Rig
open Go.RowKit Wire

/-- TakeAll's answer as an ending, its list in memory from B on. -/
def TaF (B : Nat) (x : List Tm × Int) (e : Ending) (w' : World) : Prop := ∃ (A : Option Addr) (c : Nat) (ys : List ByteArray), bl ys = x.1 ∧ (ys.length ≤ c ∧ (A = none → c = 0)) ∧ SReads w' A ys ∧ (∀ b off, A = some ⟨b, off, none⟩ → B ≤ b) ∧ e = .returned (.tuple #[.slice A ys.length c, .int .i64 x.2])
theorem taF_nil (B : Nat) (f : Int) (w' : World) : TaF B ([], f) (.returned (.tuple #[.slice none 0 0, .int .i64 f])) w' := ⟨none, 0, [], rfl, ⟨Nat.le_refl _, fun _ => rfl⟩, SReads.nil _ _, (fun _ _ h => by cases h), rfl⟩

end Go.Proofs.YtbdealddjonobaaGreat.Rig
