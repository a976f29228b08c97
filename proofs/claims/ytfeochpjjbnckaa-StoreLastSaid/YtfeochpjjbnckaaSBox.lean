/-
  AN ACT IN A VARIABLE OF ITS OWN (four cells), beside stores that change. By an AI agent; no person has read it.
-/
import Derived.Test.YtfeochpjjbnckaaSHelp
namespace Go.Proofs.Ytfeochpjjbnckaa.Sto
open Go Go.RowKit Wire

set_option linter.unusedVariables false
def B4 (g : Nat) (w : World) (a b c d : Value) : Prop := g < w.heap.size ∧ w.cell? ⟨g, 0, none⟩ = some a ∧ w.cell? ⟨g, 1, none⟩ = some b ∧ w.cell? ⟨g, 2, none⟩ = some c ∧ w.cell? ⟨g, 3, none⟩ = some d
theorem b4_new (w : World) (a b c d : Value) (t : TypeId) : B4 w.heap.size (w.alloc (.cells #[a, b, c, d] t)) a b c d := by
  refine ⟨by simp, ?_, ?_, ?_, ?_⟩ <;> simp [go_sem]
theorem B4.below {g : Nat} {w w1 : World} {a b c d : Value} (h : B4 g w a b c d) (hb : Below w.heap.size w w1) : B4 g w1 a b c d := by
  obtain ⟨h0, h1, h2, h3, h4⟩ := h
  have ec := fun j => hb.cell (p := ⟨g, j, none⟩) h0
  exact ⟨Nat.lt_of_lt_of_le h0 hb.size, (ec _).trans h1, (ec _).trans h2, (ec _).trans h3, (ec _).trans h4⟩
theorem B4.next {g : Nat} {w w1 : World} {X X' : Nat → Prop} {a b c d : Value} (h : B4 g w a b c d) (hn : Nx X X' w w1) (hx : ¬ X g) : B4 g w1 a b c d := by
  obtain ⟨h0, h1, h2, h3, h4⟩ := h
  have eb := hn.fr.block g h0 hx
  have ec := fun j => World.cell?_of_block (w := w) (w' := w1) (a := ⟨g, j, none⟩) eb
  exact ⟨Nat.lt_of_lt_of_le h0 hn.fr.size, (ec _).trans h1, (ec _).trans h2, (ec _).trans h3, (ec _).trans h4⟩
theorem Nx.off {X X' : Nat → Prop} {w w1 : World} {g : Nat} (hn : Nx X X' w w1) (hlt : g < w.heap.size) (hx : ¬ X g) : ¬ X' g := fun h => by
  rcases hn.x g h with h1 | h1
  · exact hx h1
  · omega
theorem new_off {D : DPred} (d : StoreOK D) {w0 w : World} {a : Addr} {X : Nat → Prop} {s : Stt} (h : Sts D w0 w a X s) : ¬ X w.heap.size := fun hx => Nat.lt_irrefl _ (d.old h.d _ hx)
end Go.Proofs.Ytfeochpjjbnckaa.Sto
