/-
  CONTRACTS of the landed code's isName, order, copied, apart (package user). By an AI agent; no person has read it.
-/
import Derived.Test.YtbdealddjonobaaGreatUCMem
import Derived.Test.YtbdealddjonobaaGreatUPath
import Derived.Laws.CopyRow
import Derived.Laws.IdiomCopy
import Derived.Laws.CopyOwn
namespace Go.Proofs.YtbdealddjonobaaGreat.Usr
open Go Go.RowKit Wire Rig Frm

set_option linter.unusedVariables false
set_option linter.unusedSimpArgs false
set_option maxHeartbeats 2000000 in
set_option maxRecDepth 1000000 in
theorem isName_c (N : ByteArray) (w : World) : Calls Tryz.prog 43 #[.string N] w fun e w' => e = .returned (.bool (nm N.data.toList)) ∧ Below w.heap.size w w' := by
  have HR := Lib.hid (right_any N w)
  go_enter Tryz.func43, Tryz.ntmps43
  go_wp2_with fail
  refine HR.out.mono ?_
  rintro e w1 ⟨rfl, hb1⟩
  have HB1 := Lib.hid hb1
  clear hb1
  dsimp only
  go_wp2
  go_ret
  exact ⟨rfl, HB1.out⟩
def mkw (w : World) (n : Nat) : World := w.alloc (.cells (madeCells #[.string ⟨#[]⟩] n) 9)
theorem mkw_size (w : World) (n : Nat) : (mkw w n).heap.size = w.heap.size + 1 := by simp [mkw]
theorem mkw_below (w : World) (n : Nat) : Below w.heap.size w (mkw w n) := (Below.refl _ w).alloc (Nat.le_refl _) _
theorem run_mk (n : Nat) (hn : n ≤ 1000) (w : World) : (Instr.makeSlice 44 (.int .i64 (n : Int)) (.int .i64 (n : Int))).run Tryz.prog w = .ok (.slice (some ⟨w.heap.size, 0, none⟩) n n) (mkw w n) := by
  obtain ⟨i, hi, hz, hs, hb⟩ := info_parts str_info
  have hr := run_make (P := Tryz.prog) w 44 9 i _ Tryz.underlying44 hi hz .i64 .i64 n n (by omega) (by omega) (by rw [hb]; omega) (by omega)
  simp only [Int.toNat_natCast, hs, Nat.mul_one] at hr
  exact hr
theorem sv_at {ys : List ByteArray} {j : Nat} {v : Value} (h : (sv ys)[j]? = some v) : j < ys.length ∧ v = .string (ys.getD j ByteArray.empty) := by
  unfold sv at h
  rw [List.getElem?_map] at h
  cases hy : ys[j]? with
  | none => rw [hy] at h; cases h
  | some y =>
    rw [hy] at h
    refine ⟨(List.getElem?_eq_some_iff.1 hy).1, ?_⟩
    rw [List.getD_eq_getElem?_getD, hy]
    exact (Option.some.inj h).symm
theorem run_cp (a : Option Addr) (c : Nat) (ys : List ByteArray) (w : World) (hr : SReads w a ys) (hl : ys.length ≤ 1000) (ty : TypeId) :
    ∃ W, (Builtin.copy_ #[44, 44] ty #[.slice (some ⟨w.heap.size, 0, none⟩) ys.length ys.length, .slice a ys.length c]).run Tryz.prog (mkw w ys.length) = .ok (goInt ys.length) W ∧
      W.ownsRow w.heap.size 9 1 (.slice (some ⟨w.heap.size, 0, none⟩) ys.length ys.length) ys.length (sv ys) ∧ Below w.heap.size w W ∧ W.heap.size = w.heap.size + 1 := by
  have hg : (mkw w ys.length).heap[w.heap.size]? = some (.cells (madeCells #[.string ⟨#[]⟩] ys.length) 9 (0, 0)) := heap_alloc_new w _
  have hsz : (madeCells #[.string ⟨#[]⟩] ys.length : Array Value).size = ys.length := by have := size_madeCells #[(.string ⟨#[]⟩ : Value)] ys.length; simpa using this
  have hm : (ys.length : Nat) ≤ maxLen := by simp only [maxLen]; omega
  by_cases h0 : ys.length = 0
  · refine ⟨mkw w ys.length, ?_, ⟨by simp [sv, h0], .inr ⟨_, _, _, rfl, Nat.le_refl _, hg, Nat.le_refl _, hm, by rw [hsz]; simp, ?_⟩⟩, mkw_below _ _, mkw_size _ _⟩
    · have := run_copy_none (P := Tryz.prog) (mkw w ys.length) 44 44 ty 9 (some ⟨w.heap.size, 0, none⟩) a ys.length ys.length ys.length c Tryz.underlying44 (by kernel_rfl) (by rw [h0]; rfl)
      rw [h0] at this ⊢
      exact this
    · have : ys = [] := List.length_eq_zero_iff.1 h0
      subst this
      rfl
  · obtain ⟨b, off, ha, hlt, _⟩ := hr 0 (by omega)
    subst ha
    have := run_copy_row Tryz.prog (mkw w ys.length) 44 44 ty 9 w.heap.size 0 ys.length ys.length ⟨b, off, none⟩ ys.length c _ 9 (sv ys) Tryz.underlying44 (by kernel_rfl) hg
      (by simp [sv]) (fun j v hv => by
        obtain ⟨hj, rfl⟩ := sv_at hv
        obtain ⟨b', off', e, _, hc⟩ := (hr.below (mkw_below w ys.length) (Nat.le_refl _)) j hj
        injection e with e
        injection e with e1 e2 _
        subst e1 e2
        rw [show ((⟨b, off, none⟩ : Addr).add j) = ⟨b, off + j, none⟩ from by unfold Addr.add; split <;> simp_all]
        exact hc) (by rw [hsz]; simp [sv]) (fun v hv => by
        unfold sv at hv
        obtain ⟨y, _, rfl⟩ := List.mem_map.1 hv
        rfl)
    have hsl : (sv ys).length = ys.length := by simp [sv]
    rw [hsl] at this
    refine ⟨_, this, ⟨by simp [sv], .inr ⟨_, _, _, rfl, Nat.le_refl _, setRow_heap _ _ _ _ _ _ hg, Nat.le_refl _, hm, ?_, ?_⟩⟩, below_setRow (mkw_below w _) (Nat.le_refl _) _, by rw [size_setRow]; exact mkw_size _ _⟩
    · simp [hsl, hsz]
    · have hdrop : (madeCells #[(.string ⟨#[]⟩ : Value)] ys.length).toList.drop (0 + ys.length) = [] := List.drop_of_length_le (by rw [Array.length_toList, hsz]; omega)
      rw [hdrop, List.take_zero, List.nil_append, List.append_nil, Nat.mul_one]
      exact List.take_of_length_le (by rw [hsl]; exact Nat.le_refl _)
set_option maxHeartbeats 2000000 in
set_option maxRecDepth 1000000 in
theorem copied_c (a : Option Addr) (n c : Nat) (ys : List ByteArray) (w : World) (hr : SReads w a ys) (hl : ys.length ≤ 1000) (hn : n = ys.length) :
    Calls Tryz.prog 101 #[.slice a n c] w fun e w' => e = .returned (.slice (some ⟨w.heap.size, 0, none⟩) n n) ∧ w'.ownsRow w.heap.size 9 1 (.slice (some ⟨w.heap.size, 0, none⟩) n n) n (sv ys) ∧ Below w.heap.size w w' ∧ w'.heap.size = w.heap.size + 1 := by
  subst hn
  have hmk := run_mk ys.length hl w
  obtain ⟨W, hcp, h1, h2, h3⟩ := run_cp a c ys w hr hl 3
  have HR := Lib.hid (And.intro h1 (And.intro h2 h3))
  clear h1 h2 h3
  go_enter Tryz.func101, Tryz.ntmps101
  go_wp2
  go_ret
  exact ⟨rfl, HR.out⟩
end Go.Proofs.YtbdealddjonobaaGreat.Usr
