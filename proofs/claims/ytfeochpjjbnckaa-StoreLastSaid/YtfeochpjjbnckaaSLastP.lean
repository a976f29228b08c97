/-
  StoreLast, its plain part. By an AI agent; no person has read it.
-/
import Derived.Test.YtfeochpjjbnckaaSBoundsP
namespace Go.Proofs.Ytfeochpjjbnckaa.Sto
open Wire

set_option linter.unusedVariables false
theorem last_ok {K b : Tm} {s : Stt} (hi : s.n < 2000) (h1 : K ≠ []) (h2 : ¬ 200 < K.length) (h : ¬ 40000 < b.length) : putE s K b = 0 := by
  unfold putE; rw [if_neg (by rintro (h | h) <;> contradiction), if_neg h, if_neg (by omega)]
theorem put_n_le (s : Stt) (k b : Tm) {i : Nat} (h : s.n ≤ i) : (putS s k b).n ≤ i + 1 := Nat.le_trans (put_n s k b) (by omega)
theorem putD_ver {s : Stt} {k b : Tm} : (putD s k b).ver k = s.ver k ++ [b] := by show (if k = k then _ else _) = _; rw [if_pos rfl]
theorem getS_is {s : Stt} {k : Tm} (h : s.is k = true) : (getS s k).2 = 0 := by unfold getS; rw [if_pos h]
theorem getS_no {s : Stt} {k : Tm} (h : s.is k = false) : (getS s k).2 = 4 := by unfold getS; rw [if_neg (by rw [h]; decide)]
theorem delE_get {s : Stt} {k : Tm} : delE s k = (getS s k).2 := by
  unfold delE getS
  split <;> rfl
theorem lists_is {s : Stt} {l : List Tm} (h : Lists s [] l) {j : Nat} (hj : j < l.length) : s.is l[j] = true := ((h.2 _).1 (List.getElem_mem hj)).1
theorem rising_at {l : List Tm} (h : Rising l) {i j : Nat} (hij : i < j) (hj : j < l.length) : Op.bytesLess (l[i]'(by omega)) l[j] = true := List.pairwise_iff_getElem.1 h i j (by omega) hj hij
theorem count_step {l : List Tm} {k : Tm} {j : Nat} (hj : j < l.length) : (l.take (j + 1)).count k = (l.take j).count k + if l[j] = k then 1 else 0 := by
  rw [List.take_succ_eq_append_getElem hj, List.count_append, List.count_singleton]
  by_cases h : l[j] = k <;> simp [h]
theorem lists_count {s : Stt} {l : List Tm} {k : Tm} (h : Lists s [] l) : l.count k = if s.is k = true then 1 else 0 := by
  have hn := rising_nodup h.1
  by_cases hi : s.is k = true
  · rw [if_pos hi]
    have hm : k ∈ l := (h.2 k).2 ⟨hi, List.nil_prefix⟩
    have h1 := List.nodup_iff_count.1 hn k
    have h2 := List.count_pos_iff.2 hm
    omega
  · rw [if_neg hi]
    exact List.count_eq_zero.2 fun hm => hi ((h.2 k).1 hm).1
theorem bl_get {ys : List ByteArray} {l : List Tm} {j : Nat} (h : bl ys = l) (hj : j < l.length) : (ys.getD j ByteArray.empty).data.toList = l[j] := by
  subst h
  have hj' : j < ys.length := by rw [← bl_len]; exact hj
  simp [bl, List.getD, hj']
theorem lists_small {s : Stt} (hf : Fine s) {l : List Tm} (h : Lists s [] l) {j : Nat} (hj : j < l.length) : l[j].length ≤ 200 := (hf.key _ (hf.had _ (lists_is h hj))).2
theorem bl_last {ys : List ByteArray} {l : List Tm} {b : Tm} {m : Nat} (h : bl ys = l ++ [b]) (hm : l.length = m) : (ys.getD m ByteArray.empty).data.toList = b := by
  have := bl_get h (j := m) (by rw [List.length_append, hm]; simp)
  rw [this]
  simp [← hm]
end Go.Proofs.Ytfeochpjjbnckaa.Sto
