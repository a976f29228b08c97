/-
  A BLOB IN MEMORY: three cells of a block. By an AI agent; no person has read it.
-/
import Derived.Test.YtjdignbmlfbdnaaGreatQCode3
namespace Go.Proofs.YtjdignbmlfbdnaaGreat.Dta
open Go.RowKit Wire Term Reg

set_option linter.unusedSimpArgs false

/-- None of a block's first three cells is frozen. -/
def F3 (g : Nat) (w : World) : Prop := w.frozen? ⟨g, 0, none⟩ = false ∧ w.frozen? ⟨g, 1, none⟩ = false ∧ w.frozen? ⟨g, 2, none⟩ = false
theorem f3_alloc (w : World) (cs : Array Value) (t : TypeId) : F3 w.heap.size (w.alloc (.cells cs t)) := by
  have h : ∀ j, (w.alloc (.cells cs t)).frozen? ⟨w.heap.size, j, none⟩ = false := fun j => by
    unfold World.frozen?
    rw [heap_alloc_new]
    simp
  exact ⟨h 0, h 1, h 2⟩
theorem F3.below {g : Nat} {w w' : World} {K : Nat} (h : F3 g w) (hb : Below K w w') (hg : g < K) : F3 g w' := by
  obtain ⟨h0, h1, h2⟩ := h
  have e := fun j => hb.frozen (p := ⟨g, j, none⟩) hg
  exact ⟨(e 0).trans h0, (e 1).trans h1, (e 2).trans h2⟩
/-- A block that holds a blob, and may be written. -/
def R3 (g : Nat) (w : World) (ep : Int) (S G : ByteArray) : Prop := B3 g w ep S G ∧ F3 g w
theorem R3.below {g : Nat} {w w1 : World} {ep : Int} {S G : ByteArray} (h : R3 g w ep S G) (hb : Below w.heap.size w w1) : R3 g w1 ep S G := ⟨h.1.below hb, h.2.below hb h.1.1⟩
theorem r3_new (w : World) (ep : Int) (S G : ByteArray) (t : TypeId) : R3 w.heap.size (w.alloc (.cells #[.int .i64 ep, .string S, .string G] t)) ep S G := ⟨b3_box (Below.refl _ _), f3_alloc _ _ _⟩
theorem r3_first {w w1 : World} {ep : Int} {S G : ByteArray} {t : TypeId} (h : Below (w.alloc (.cells #[.int .i64 ep, .string S, .string G] t)).heap.size (w.alloc (.cells #[.int .i64 ep, .string S, .string G] t)) w1) : R3 w.heap.size w1 ep S G := (r3_new w ep S G t).below h
def set3 (w : World) (g : Nat) (a b c : Value) : World := ((w.setCell ⟨g, 0, none⟩ a).setCell ⟨g, 1, none⟩ b).setCell ⟨g, 2, none⟩ c
theorem set3_eq (w : World) (g : Nat) (a b c : Value) : ((w.setCell ⟨g, 0, none⟩ a).setCell ⟨g, 1, none⟩ b).setCell ⟨g, 2, none⟩ c = set3 w g a b c := rfl
theorem size_set3 {w : World} {g : Nat} {a b c : Value} : (set3 w g a b c).heap.size = w.heap.size := by unfold set3; simp only [World.size_setCell]
theorem cell_set3 {w : World} {g x j : Nat} {a b c : Value} (h : x ≠ g) : (set3 w g a b c).cell? ⟨x, j, none⟩ = w.cell? ⟨x, j, none⟩ := by
  have e : ∀ i, (⟨g, i, none⟩ : Addr) ≠ ⟨x, j, none⟩ := fun i e => h (by injection e with e1 _ _; exact e1.symm)
  unfold set3
  rw [World.cell?_setCell_other _ _ _ _ (e 2), World.cell?_setCell_other _ _ _ _ (e 1), World.cell?_setCell_other _ _ _ _ (e 0)]
theorem frozen_set3 {w : World} {g : Nat} {a b c : Value} {p : Addr} : (set3 w g a b c).frozen? p = w.frozen? p := by unfold set3; simp only [World.frozen?_setCell]
theorem bel_set3 {w0 w : World} {g B : Nat} {a b c : Value} (h : Below B w0 w) (hg : B ≤ g) : Below B w0 (set3 w g a b c) := ((h.setCell hg a).setCell hg b).setCell hg c
theorem r3_set {g : Nat} {w : World} {ep' ep : Int} {S' G' S G : ByteArray} (h : R3 g w ep' S' G') : R3 g (set3 w g (.int .i64 ep) (.string S) (.string G)) ep S G := by
  obtain ⟨⟨h0, h1, h2, h3⟩, h4, h5, h6⟩ := h
  refine ⟨⟨by rw [size_set3]; exact h0, ?_, ?_, ?_⟩, frozen_set3.trans h4, frozen_set3.trans h5, frozen_set3.trans h6⟩ <;> unfold set3 <;> simp [World.cell?_setCell_other, World.cell?_setCell_same', h0, h1, h2, h3]
theorem r3_other {b g : Nat} {w : World} {x y z : Value} {ep : Int} {S G : ByteArray} (h : R3 b w ep S G) (hne : b ≠ g) : R3 b (set3 w g x y z) ep S G := by
  obtain ⟨⟨h0, h1, h2, h3⟩, h4, h5, h6⟩ := h
  exact ⟨⟨by rw [size_set3]; exact h0, (cell_set3 hne).trans h1, (cell_set3 hne).trans h2, (cell_set3 hne).trans h3⟩, frozen_set3.trans h4, frozen_set3.trans h5, frozen_set3.trans h6⟩
/-- Two cells of another block stay as they are. -/
theorem row_set3 {w : World} {g x o : Nat} {a b c p q : Value} (h : x < w.heap.size ∧ w.cell? ⟨x, o + 1, none⟩ = some p ∧ w.cell? ⟨x, o + 2, none⟩ = some q) (hne : x ≠ g) :
    x < (((w.setCell ⟨g, 0, none⟩ a).setCell ⟨g, 1, none⟩ b).setCell ⟨g, 2, none⟩ c).heap.size ∧ (((w.setCell ⟨g, 0, none⟩ a).setCell ⟨g, 1, none⟩ b).setCell ⟨g, 2, none⟩ c).cell? ⟨x, o + 1, none⟩ = some p ∧ (((w.setCell ⟨g, 0, none⟩ a).setCell ⟨g, 1, none⟩ b).setCell ⟨g, 2, none⟩ c).cell? ⟨x, o + 2, none⟩ = some q :=
  ⟨by rw [set3_eq, size_set3]; exact h.1, (cell_set3 hne).trans h.2.1, (cell_set3 hne).trans h.2.2⟩
end Go.Proofs.YtjdignbmlfbdnaaGreat.Dta
