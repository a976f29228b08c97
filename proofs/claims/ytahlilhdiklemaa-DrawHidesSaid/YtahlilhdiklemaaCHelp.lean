/-
  CONTRACTS of the laws' own helpers some, few, same (letterlocklaw4) at this program. By an AI agent; no person has read it.
-/
import Derived.Test.YtahlilhdiklemaaCGrown
namespace Go.Proofs.Ytahlilhdiklemaa.Clo
open Go.RowKit Wire Term

/-- A slice of slices of ints that can be read. -/
def RReads (w : World) (a : Option Addr) (rows : List (List Int)) : Prop :=
  ∀ j, j < rows.length → ∃ b off A C, a = some ⟨b, off, none⟩ ∧ b < w.heap.size ∧ w.cell? ⟨b, off + j, none⟩ = some (.slice A (rows.getD j []).length C) ∧ IReads w A (rows.getD j [])
theorem RReads.below {w w' : World} {B : Nat} {a : Option Addr} {rows : List (List Int)} (h : RReads w a rows) (hb : Below B w w') (hB : w.heap.size ≤ B) : RReads w' a rows := fun j hj => by
  obtain ⟨b, off, A, C, e, hlt, hc, hz⟩ := h j hj
  exact ⟨b, off, A, C, e, Nat.lt_of_lt_of_le hlt hb.size, by rw [hb.cell (p := ⟨b, off + j, none⟩) (Nat.lt_of_lt_of_le hlt hB)]; exact hc, hz.below hb hB⟩
/-- What the frame tells of a slice of slices of ints that came in. -/
theorem rreads_of {w : World} {a : Option Addr} {len cap : Nat}
    (h : (a = none ∧ len = 0 ∧ cap = 0) ∨ ∃ x, a = some x ∧ len ≤ cap ∧ cap ≤ maxLen ∧ ∀ r, r < len → ∃ A L C Z, w.cell? (x.add r) = some (.slice A L C) ∧
      ((A = none ∧ L = 0 ∧ C = 0 ∧ Z = []) ∨ ∃ y, A = some y ∧ L ≤ C ∧ C ≤ maxLen ∧ Z.length = C ∧ (∀ i, i < Z.length → w.cell? (y.add i) = some (.int .i64 (Z.getD i 0))) ∧ ∀ n ∈ Z, (Lit.int .i64 n).wf = true)) :
    ∃ rows : List (List Int), rows.length = len ∧ len ≤ cap ∧ cap ≤ maxLen ∧ RReads w a rows := by
  rcases h with ⟨rfl, rfl, rfl⟩ | ⟨x, rfl, h1, h2, h3⟩
  · exact ⟨[], rfl, Nat.le_refl _, Nat.zero_le _, fun j hj => by simp at hj⟩
  · have each : ∀ r, r < len → ∃ zs : List Int, ∃ A C, w.cell? (x.add r) = some (.slice A zs.length C) ∧ IReads w A zs := fun r hr => by
      obtain ⟨A, L, C, Z, hc, hz⟩ := h3 r hr
      obtain ⟨ys, rfl, _, _, hi⟩ := ireads_of hz
      exact ⟨ys, A, C, hc, hi⟩
    have hf : ∃ f : Nat → List Int, ∀ r, r < len → ∃ A C, w.cell? (x.add r) = some (.slice A (f r).length C) ∧ IReads w A (f r) := by
      refine ⟨fun r => if hr : r < len then Classical.choose (each r hr) else [], fun r hr => ?_⟩
      have := Classical.choose_spec (each r hr)
      simp only [dif_pos hr]
      exact this
    obtain ⟨f, hf⟩ := hf
    refine ⟨(List.range len).map f, by simp, h1, h2, fun j hj => ?_⟩
    have hjl : j < len := by simpa using hj
    obtain ⟨A0, C0, c0, _⟩ := hf 0 (by omega)
    obtain ⟨A, C, cj, hi⟩ := hf j hjl
    have e : ((List.range len).map f).getD j [] = f j := by simp [List.getD, hjl]
    rw [e]
    obtain ⟨b, off, sp⟩ := x
    have hb : sp = none ∧ b < w.heap.size := by
      have e0 : (⟨b, off, sp⟩ : Addr).add 0 = ⟨b, off, sp⟩ := by simp [Addr.add]
      rw [e0] at c0
      unfold World.cell? at c0
      simp only at c0
      split at c0
      · rename_i h0
        refine ⟨?_, (Array.getElem?_eq_some_iff.1 h0).1⟩
        cases sp with
        | none => rfl
        | some q => simp at c0
      · cases c0
    obtain ⟨rfl, hlt⟩ := hb
    rw [add_none] at cj
    exact ⟨b, off, A, C, rfl, hlt, cj, hi⟩
theorem own_nil {w : World} {base : Nat} {e : TypeId} {a : Option Addr} {n c : Nat} {xs : List Value} (h : w.ownsRow base e 1 (.slice a n c) n xs) : a = none → c = 0 := by
  rintro rfl
  rcases h.2 with ⟨hv, _⟩ | ⟨g, cap, _, hv, _⟩
  · injection hv
  · injection hv with h1; cases h1
/-- Terms that some has made. -/
def Made (w : World) (n : Nat) (v : Value) (wr : World) : Prop := ∃ ys : List ByteArray, ys.length = n ∧ wr.ownsRow w.heap.size 9 1 v n (sv ys) ∧ (∀ y ∈ ys, Good y.data.toList) ∧ Below w.heap.size w wr
/-- Good terms as an answer: at most six. -/
def Some6 (e : Ending) (w' : World) : Prop := ∃ (A : Option Addr) (c : Nat) (ys : List ByteArray), ys.length ≤ 6 ∧ ys.length ≤ c ∧ (A = none → c = 0) ∧ SReads w' A ys ∧ (∀ y ∈ ys, Good y.data.toList) ∧ e = .returned (.slice A ys.length c)
/-- What few tells, where it is so. -/
def Few (ys : List ByteArray) : Prop := (∀ y ∈ ys, y.size ≤ 1000) ∧ ys.length ≤ 250 ∧ (bl ys).flatten.length ≤ 1500
def FewE (ys : List ByteArray) (e : Ending) : Prop := ∃ b, (b = true → Few ys) ∧ e = .returned (.bool b)
theorem fewE_no (ys : List ByteArray) : FewE ys (.returned (.bool false)) := ⟨false, by simp, rfl⟩
theorem sum_step {ys : List ByteArray} {k : Nat} {y : ByteArray} (hk : k < ys.length) (hy : ys.getD k ByteArray.empty = y) : (bl (ys.take (k + 1))).flatten.length = (bl (ys.take k)).flatten.length + y.size := by
  have e : ys[k] = y := by rw [← hy]; simp [List.getD, hk]
  rw [List.take_succ_eq_append_getElem hk, e]
  rw [show y.size = y.data.toList.length from Lib.size_eq y]
  simp [bl]
theorem sum_le {ys : List ByteArray} {k : Nat} (h : ∀ y ∈ ys.take k, y.size ≤ 1000) : (bl (ys.take k)).flatten.length ≤ 1000 * k := by
  have h2 : ∀ l : List ByteArray, (∀ y ∈ l, y.size ≤ 1000) → (bl l).flatten.length ≤ 1000 * l.length := fun l hl => by
    induction l with
    | nil => simp [bl]
    | cons y r ih =>
      have h1 := hl y (by simp)
      have h2 := ih (fun x hx => hl x (by simp [hx]))
      have e : (bl (y :: r)).flatten.length = y.size + (bl r).flatten.length := by rw [show y.size = y.data.toList.length from Lib.size_eq y]; simp [bl]
      rw [e, List.length_cons]; omega
  have h3 := h2 _ h
  rw [List.length_take] at h3
  have : 1000 * min k ys.length ≤ 1000 * k := Nat.mul_le_mul_left _ (Nat.min_le_left _ _)
  omega
end Go.Proofs.Ytahlilhdiklemaa.Clo
