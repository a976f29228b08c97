/-
  SLICES OF NUMBERS that came in, rows of strings of one's own; of the laws' helpers. By an AI agent; no person has read it.
-/
import Derived.Test.YtahlilhdiklemaaTPick
import Derived.Deep.RegionHeld3
import Derived.IntWalk
namespace Go.Proofs.Ytahlilhdiklemaa.Term
open Go.RowKit Wire

/-- A slice of ints that can be read. -/
def IReads (w : World) (a : Option Addr) (zs : List Int) : Prop :=
  ∀ j, j < zs.length → ∃ b off, a = some ⟨b, off, none⟩ ∧ b < w.heap.size ∧ w.cell? ⟨b, off + j, none⟩ = some (.int .i64 (zs.getD j 0)) ∧ -9223372036854775808 ≤ zs.getD j 0 ∧ zs.getD j 0 ≤ 9223372036854775807
theorem IReads.below {w w' : World} {B : Nat} {a : Option Addr} {zs : List Int} (h : IReads w a zs) (hb : Below B w w') (hB : w.heap.size ≤ B) : IReads w' a zs := fun j hj => by
  obtain ⟨b, off, e, hlt, hc, hz⟩ := h j hj
  exact ⟨b, off, e, Nat.lt_of_lt_of_le hlt hb.size, by rw [hb.cell (p := ⟨b, off + j, none⟩) (Nat.lt_of_lt_of_le hlt hB)]; exact hc, hz⟩
theorem ireads_of {w : World} {a : Option Addr} {len cap : Nat} {zs : List Int}
    (h : (a = none ∧ len = 0 ∧ cap = 0 ∧ zs = []) ∨ ∃ x, a = some x ∧ len ≤ cap ∧ cap ≤ maxLen ∧ zs.length = cap ∧ (∀ i, i < zs.length → w.cell? (x.add i) = some (.int .i64 (zs.getD i 0))) ∧ ∀ n ∈ zs, (Lit.int .i64 n).wf = true) :
    ∃ ys : List Int, ys.length = len ∧ len ≤ cap ∧ cap ≤ maxLen ∧ IReads w a ys := by
  rcases h with ⟨rfl, rfl, rfl, rfl⟩ | ⟨x, rfl, h1, h2, h3, h4, h5⟩
  · exact ⟨[], rfl, Nat.le_refl _, Nat.zero_le _, fun j hj => by simp at hj⟩
  · refine ⟨zs.take len, by rw [List.length_take]; omega, h1, h2, fun j hj => ?_⟩
    rw [List.length_take] at hj
    have c0 := h4 0 (by omega)
    have cj := h4 j (by omega)
    obtain ⟨b, off, sp⟩ := x
    have hb : sp = none ∧ b < w.heap.size := by
      have e0 : (⟨b, off, sp⟩ : Addr).add 0 = ⟨b, off, sp⟩ := by simp [Addr.add]
      rw [e0] at c0
      unfold World.cell? at c0
      simp only at c0
      split at c0
      · rename_i h0
        refine ⟨?_, (Array.getElem?_eq_some_iff.1 h0).1⟩
        cases sp with
        | none => rfl
        | some q => simp at c0
      · cases c0
    obtain ⟨rfl, hlt⟩ := hb
    rw [add_none] at cj
    have e : (zs.take len).getD j 0 = zs.getD j 0 := by simp only [List.getD, List.getElem?_take_of_lt (show j < len by omega)]
    rw [e]
    have hw := int_i64 (h5 (zs.getD j 0) (by simp only [List.getD, List.getElem?_eq_getElem (show j < zs.length by omega), Option.getD_some]; exact List.getElem_mem _))
    exact ⟨b, off, rfl, hlt, cj, hw⟩
theorem tdiv_in {z : Int} (h1 : -9223372036854775808 ≤ z) (h2 : z ≤ 9223372036854775807) : -9223372036854775808 ≤ z.tdiv 10 ∧ z.tdiv 10 ≤ 9223372036854775807 := by
  by_cases h : 0 ≤ z
  · rw [Int.tdiv_eq_ediv_of_nonneg h]; omega
  · obtain ⟨q, rfl⟩ : ∃ q : Int, z = -q := ⟨-z, by omega⟩
    rw [Int.neg_tdiv, Int.tdiv_eq_ediv_of_nonneg (by omega)]; omega
theorem ofText_small {s : List UInt8} (h : s.length ≤ 3000) : ofText s = (116 :: putText s, 0) := by
  have h1 := (put_le (n := s.length) (by omega))
  have hr : right (116 :: putText s) = true := by
    refine right_iff.2 ⟨by simp, by simp only [List.length_cons, putText_len]; omega, ?_⟩
    show up (body (size 39) 116 (putText s)) = _
    have h2 : body (size 39) 116 (putText s) = some (putText s).length := by
      have h3 := text_put (t := s) (by omega) [] 4000 (by omega)
      rw [List.append_nil] at h3
      show leaf 116 (putText s) = _
      unfold leaf
      rw [if_neg (by decide), h3]
      simp
    rw [h2]
    simp only [up, List.length_cons]; omega
  unfold ofText made
  rw [if_pos hr]
theorem ofText_small_right {s : List UInt8} (h : s.length ≤ 3000) : right (116 :: putText s) = true := by
  have h1 := ofText_small h
  exact ofText_right h1 rfl
theorem own_get {w : World} {base : Nat} {e : TypeId} {g n c : Nat} {ys : List ByteArray} (h : w.ownsRow base e 1 (.slice (some ⟨g, 0, none⟩) n c) n (sv ys)) (hy : ys.length = n) {j : Nat} (hj : j < n) : w.cell? ⟨g, j, none⟩ = some (.string (ys.getD j ByteArray.empty)) := by
  rw [h.cellAt j (by omega)]
  simp [sv, List.getD, List.getElem?_eq_getElem (show j < ys.length by omega)]
end Go.Proofs.Ytahlilhdiklemaa.Term
