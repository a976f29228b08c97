/-
  A CHOICE IN A VARIABLE OF ITS OWN (four cells), beside stores that change. By an AI agent; no person has read it.
-/
import Derived.Test.YtamkepfhlfeiiaaKPure
import Derived.Test.YtamkepfhlfeiiaaPList
namespace Go.Proofs.Ytamkepfhlfeiiaa.Sto
open Go Go.RowKit Wire

set_option linter.unusedVariables false
def B4 (g : Nat) (w : World) (a b c d : Value) : Prop := (g < w.heap.size ∧ ∀ j, w.frozen? ⟨g, j, none⟩ = false) ∧ w.cell? ⟨g, 0, none⟩ = some a ∧ w.cell? ⟨g, 1, none⟩ = some b ∧ w.cell? ⟨g, 2, none⟩ = some c ∧ w.cell? ⟨g, 3, none⟩ = some d
theorem b4_new (w : World) (a b c d : Value) (t : TypeId) : B4 w.heap.size (w.alloc (.cells #[a, b, c, d] t)) a b c d := by
  refine ⟨⟨by simp, fun j => ?_⟩, ?_, ?_, ?_, ?_⟩
  · unfold World.frozen?
    rw [heap_alloc_new w _]; simp
  all_goals simp [go_sem]
theorem B4.below {g : Nat} {w w1 : World} {a b c d : Value} (h : B4 g w a b c d) (hb : Below w.heap.size w w1) : B4 g w1 a b c d := by
  obtain ⟨⟨h0, hf⟩, h1, h2, h3, h4⟩ := h
  have ec := fun j => hb.cell (p := ⟨g, j, none⟩) h0
  exact ⟨⟨Nat.lt_of_lt_of_le h0 hb.size, fun j => (World.frozen?_of_block (a := ⟨g, j, none⟩) (hb.block g h0)).trans (hf j)⟩, (ec _).trans h1, (ec _).trans h2, (ec _).trans h3, (ec _).trans h4⟩
theorem B4.lt {g : Nat} {w : World} {a b c d : Value} (h : B4 g w a b c d) : g < w.heap.size := h.1.1
theorem B4.next {g : Nat} {w w1 : World} {X X' : Nat → Prop} {a b c d : Value} (h : B4 g w a b c d) (hn : Nx X X' w w1) (hx : ¬ X g) : B4 g w1 a b c d := by
  obtain ⟨⟨h0, hf⟩, h1, h2, h3, h4⟩ := h
  have eb := hn.fr.block g h0 hx
  have ec := fun j => World.cell?_of_block (w := w) (w' := w1) (a := ⟨g, j, none⟩) eb
  exact ⟨⟨Nat.lt_of_lt_of_le h0 hn.fr.size, fun j => (World.frozen?_of_block (a := ⟨g, j, none⟩) eb).trans (hf j)⟩, (ec _).trans h1, (ec _).trans h2, (ec _).trans h3, (ec _).trans h4⟩
theorem Nx.off {X X' : Nat → Prop} {w w1 : World} {g : Nat} (hn : Nx X X' w w1) (hlt : g < w.heap.size) (hx : ¬ X g) : ¬ X' g := fun h => by
  rcases hn.x g h with h1 | h1
  · exact hx h1
  · omega
theorem new_off {D : DPred} (d : StoreOK D) {w0 w : World} {a : Addr} {X : Nat → Prop} {s : Stt} (h : Sts D w0 w a X s) : ¬ X w.heap.size := fun hx => Nat.lt_irrefl _ (d.old h.d _ hx)
theorem B4.set0 {g : Nat} {w : World} {a b c d : Value} (h : B4 g w a b c d) (v : Value) : B4 g (w.setCell ⟨g, 0, none⟩ v) v b c d := by
  obtain ⟨⟨h0, hf⟩, h1, h2, h3, h4⟩ := h
  exact ⟨⟨by simpa using h0, fun j => (World.frozen?_setCell ..).trans (hf j)⟩, World.cell?_setCell_same _ _ _ h1, (World.cell?_setCell_other _ _ _ _ (fun e => by injection e with _ e _; omega)).trans h2, (World.cell?_setCell_other _ _ _ _ (fun e => by injection e with _ e _; omega)).trans h3, (World.cell?_setCell_other _ _ _ _ (fun e => by injection e with _ e _; omega)).trans h4⟩
theorem Sts.set {D : DPred} (d : Keeps D) {w0 w : World} {a : Addr} {X : Nat → Prop} {s : Stt} (h : Sts D w0 w a X s) {g j : Nat} {v : Value} (hg : ¬ X g) (h0 : w0.heap.size ≤ g) : Sts D w0 (w.setCell ⟨g, j, none⟩ v) a X s :=
  ⟨d.keep h.d (by simp) fun b hb => Below.heap_setCell _ _ _ _ (fun e : b = g => hg (by rw [← e]; exact hb)), h.x, h.f, h.b.setCell (p := ⟨g, j, none⟩) h0 v⟩
theorem RowO.set {w0 w : World} {P : Nat → Prop} {A : Option Addr} {ys : List ByteArray} (h : RowO w0 w P A ys) {g j : Nat} {v : Value} (hg : P g) : RowO w0 (w.setCell ⟨g, j, none⟩ v) P A ys :=
  ⟨fun i hi => by
    obtain ⟨b, off, e, hlt, hc⟩ := h.r i hi
    exact ⟨b, off, e, by simpa using hlt, (World.cell?_of_block (w := w) (a := ⟨b, off + i, none⟩) (Below.heap_setCell _ _ _ _ (fun e2 : b = g => (h.o b off e).2.2 (by rw [e2]; exact hg)))).trans hc⟩, fun b off e => ⟨(h.o b off e).1, by simpa using (h.o b off e).2.1, (h.o b off e).2.2⟩⟩
theorem told_P {D : DPred} {w0 w1 w' : World} {a : Addr} {X : Nat → Prop} {s : Stt} (h : Sts D w0 w1 a X s) {P : Nat → Prop} (hP : ∀ b, P b → b < w1.heap.size) {x : List Tm} {e : Ending} (hr : Row w1 w' x e) : Told w0 w' P x e := by
  obtain ⟨A, c, ys, h1, h2, h3, h4, _, rfl⟩ := row_open hr
  exact ⟨A, c, ys, h1, h2, h3, fun b off e => ⟨Nat.le_trans h.b.size (h4 b off e).1, (h4 b off e).2, fun hx => by have := hP b hx; have := (h4 b off e).1; omega⟩, rfl⟩
theorem pk_listP {D : DPred} (p : PickOK D) {w0 w : World} {a : Addr} {X : Nat → Prop} {s : Stt} (h : Sts D w0 w a X s) {P : Nat → Prop} (hP : ∀ b, P b → b < w.heap.size) {K : ByteArray} {k : Tm} {kd bk : Int} {Y Z : ByteArray} (hk : K.data.toList = k) (h1 : K.size ≤ 140737488351232) (hc : Ch.Ok ⟨kd, bk, Y, Z⟩) : Calls Try.prog 14 #[.pointer (some a), .string K, .agg #[.int .u8 kd, .int .i64 bk, .string Y, .string Z]] w fun e w' => (∃ l, PL s k ⟨kd, bk, Y, Z⟩ l ∧ Told w0 w' P l e) ∧ Below w.heap.size w w' := by
  have := p.list a X s K ⟨kd, bk, Y, Z⟩ w h.d h.f h1 hc
  rw [hk] at this
  exact this.mono fun e w' hh => by
    obtain ⟨⟨l, h2, h3⟩, h4⟩ := hh
    exact ⟨⟨l, h2, told_P h hP h3⟩, h4⟩
theorem pl_other {s : Stt} {k : Tm} {kd bk : Int} {Y Z : ByteArray} {l : List Tm} (h : PL s k ⟨kd, bk, Y, Z⟩ l) (hk : kd ≠ 100) : Lists s k l := by unfold PL at h; rwa [if_neg hk] at h
theorem pl_gone {s : Stt} {k : Tm} {bk : Int} {Y Z : ByteArray} {l : List Tm} (h : PL s k ⟨100, bk, Y, Z⟩ l) : l = [] := by unfold PL at h; rwa [if_pos rfl] at h
end Go.Proofs.Ytamkepfhlfeiiaa.Sto
