/-
  SLICES OF STRINGS at this program. By an AI agent; no person has read it.
-/
import Derived.Test.YtahlilhdiklemaaWBase
import Derived.Laws.MakeOwn
namespace Go.Proofs.Ytahlilhdiklemaa.Wire
open Go.RowKit

theorem str_info : (Try.prog.info? 9).map (fun i => (i.zero, i.size, i.bytes)) = some (some (.string ⟨#[]⟩), 1, 16) := by kernel_rfl
theorem make_strs (c : Nat) (hc : c ≤ 1000000) (W : World) : ∃ cs : Array Value, cs.size = c ∧
    (Instr.makeSlice 38 (.int .i64 0) (.int .i64 (c : Int))).run Try.prog W = .ok (.slice (some ⟨W.heap.size, 0, none⟩) 0 c) (W.alloc (.cells cs 9)) := by
  obtain ⟨i0, hi0, hz0, hz1, hz2⟩ := info_parts str_info
  have h := run_make (P := Try.prog) W 38 9 i0 _ Try.underlying38 hi0 hz0 .i64 .i64 0 c (by omega) (by omega) (by rw [hz2]; omega) (by omega)
  rw [hz1] at h
  exact ⟨madeCells (Value.string ⟨#[]⟩).cells ((c : Int).toNat * 1), by simp [size_madeCells], by simpa using h⟩
/-- A row of two strings that the call has just laid. -/
theorem pair_reads (W : World) (X Y : ByteArray) (g : Nat) (hg : g = W.heap.size) : SReads (W.alloc (.cells #[.string X, .string Y] 9)).drew (some ⟨g, 0, none⟩) [X, Y] := by
  subst hg
  intro j hj
  refine ⟨_, 0, rfl, by simp, ?_⟩
  have h : (W.alloc (.cells #[.string X, .string Y] 9)).cell? ⟨W.heap.size, 0 + j, none⟩ = (#[.string X, .string Y] : Array Value)[0 + j]? := cell_of_row _ _ _ _ _ (0, 0) (heap_alloc_new W _)
  refine Eq.trans h ?_
  match j, hj with
  | 0, _ => rfl
  | 1, _ => rfl
/-- The same, with no draw behind it. -/
theorem pair_reads' (W : World) (X Y : ByteArray) (g : Nat) (hg : g = W.heap.size) : SReads (W.alloc (.cells #[.string X, .string Y] 9)) (some ⟨g, 0, none⟩) [X, Y] := pair_reads W X Y g hg
/-- What TakeAll has taken after k texts. -/
def Took (w : World) (s n : Nat) (r : List UInt8) (m : Int) (k : Nat) (R : ByteArray) (v : Value) (wr : World) : Prop :=
  ∃ ys : List ByteArray, wr.ownsRow w.heap.size 9 1 v k (sv ys) ∧ ys.length = k ∧ texts (n - k) R.data.toList m (bl ys) = texts n r m [] ∧ R.size + k ≤ s ∧ Below w.heap.size w wr
end Go.Proofs.Ytahlilhdiklemaa.Wire
