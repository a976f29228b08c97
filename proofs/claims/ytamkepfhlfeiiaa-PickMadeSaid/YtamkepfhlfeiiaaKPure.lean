/-
  WHAT IS PICKED, pure. By an AI agent; no person has read it.
-/
import Derived.Test.YtamkepfhlfeiiaaKFill
namespace Go.Proofs.Ytamkepfhlfeiiaa.Sto
open Go Go.RowKit Wire

set_option linter.unusedVariables false
theorem bl_get {ys : List ByteArray} {j : Nat} (hj : j < ys.length) : (bl ys).getD j [] = (ys.getD j ByteArray.empty).data.toList := by
  unfold bl
  simp [List.getD_eq_getElem?_getD, List.getElem?_map, List.getElem?_eq_getElem hj]
section
variable {s : Stt} {k : Tm} {ys : List ByteArray} {b : Int} {Y Z : ByteArray}
theorem pick_back {j : Nat} (hq : bl ys = s.ver k) (hj : j < ys.length) : pickG s k ⟨115, (ys.length : Int) - 1 - (j : Int), Y, Z⟩ = ((ys.getD (ys.length - 1 - ((ys.length : Int) - 1 - (j : Int)).toNat) ByteArray.empty).data.toList, 0) := by
  have hl : (s.ver k).length = ys.length := by rw [← hq, bl_len]
  unfold pickG
  simp only [if_true]
  rw [if_neg (by rw [hl]; omega), ← hq, bl_get (by rw [bl_len]; omega), bl_len]
theorem pick_at {j : Nat} (hq : bl ys = s.ver k) (hj : j < ys.length) : pickG s k ⟨115, (ys.length : Int) - 1 - (j : Int), Y, Z⟩ = ((ys.getD j ByteArray.empty).data.toList, 0) := by
  rw [pick_back hq hj, show ys.length - 1 - ((ys.length : Int) - 1 - (j : Int)).toNat = j by omega]
theorem pick_far (hq : bl ys = s.ver k) (h : (ys.length : Int) ≤ b) : pickG s k ⟨115, b, Y, Z⟩ = none4 := by
  have hl : (s.ver k).length = ys.length := by rw [← hq, bl_len]
  unfold pickG
  simp only [if_true]
  rw [if_pos (by rw [hl]; exact .inr h)]
theorem pick_neg (h : b < 0) : pickG s k ⟨115, b, Y, Z⟩ = none4 := by
  unfold pickG
  simp only [if_true]
  rw [if_pos (.inl h)]
theorem pick_honest : pickG s k ⟨104, b, Y, Z⟩ = getS s k := by unfold pickG; rfl
theorem pick_other : pickG s k ⟨120, b, Y, Z⟩ = getS s Y.data.toList := by unfold pickG; rfl
theorem pick_gone : pickG s k ⟨100, b, Y, Z⟩ = none4 := by unfold pickG; rfl
theorem lie_honest : pickLie s k ⟨104, b, Y, Z⟩ = false := by unfold pickLie; rw [pick_honest]; simp
theorem lie_gone (h : (getS s k).2 = 0) : pickLie s k ⟨100, b, Y, Z⟩ = true := by
  unfold pickLie
  rw [pick_gone]
  refine decide_eq_true fun e => ?_
  rw [← e] at h
  cases h
theorem lie_self : pickLie s Y.data.toList ⟨120, b, Y, Z⟩ = false := by unfold pickLie; rw [pick_other]; simp
end
theorem ver0 (k : Tm) : s0.ver k = [] := rfl
theorem get0 (k : Tm) : getS s0 k = none4 := rfl
theorem nil_none {k : Tm} {kd b : Int} {Y Z : ByteArray} (h : kd ≠ 98) : pickG s0 k ⟨kd, b, Y, Z⟩ = none4 := by
  unfold pickG
  simp only
  by_cases h1 : kd = 115
  · rw [if_pos h1, if_pos]
    rw [ver0]
    by_cases hb : b < 0
    · exact .inl hb
    · exact .inr (by simp; omega)
  · rw [if_neg h1]
    by_cases h2 : kd = 100
    · rw [if_pos h2]
    · rw [if_neg h2, get0, get0]
      rw [if_neg h]
      by_cases h3 : kd = 120
      · rw [if_pos h3]
      · rw [if_neg h3]
theorem nil_lie {k : Tm} {kd b : Int} {Y Z : ByteArray} : pickLie s0 k ⟨kd, b, Y, Z⟩ = ((pickG s0 k ⟨kd, b, Y, Z⟩).2 != 4) := by
  unfold pickLie
  rw [get0]
  by_cases h : kd = 98
  · rw [h]
    unfold pickG
    simp only [show ¬ (98 : Int) = 115 by decide, show ¬ (98 : Int) = 100 by decide, show ¬ (98 : Int) = 120 by decide, if_false, if_true]
    by_cases h1 : 40000 < Z.size
    · rw [if_pos h1]; simp [none4]
    · rw [if_neg h1]; simp [none4]
  · rw [nil_none h]; simp [none4]
theorem pl_s0 {k : Tm} {c : Ch} {l : List Tm} (h : PL s0 k c l) : l = [] := by
  unfold PL at h
  split at h
  · exact h
  · exact List.eq_nil_iff_forall_not_mem.2 fun x hx => by have := ((h.2 x).1 hx).1; cases this
theorem sr_val {x : Tm × Int} {T : ByteArray} {e : Ending} (h : Sr x e) (hT : T.data.toList = x.1) : e = .returned (.tuple #[.string T, .int .i64 x.2]) := by
  obtain ⟨T', h1, rfl⟩ := h
  obtain rfl : T' = T := ByteArray.ext (Array.toList_inj.1 (h1.trans hT.symm))
  rfl
theorem text_of (x : Tm) : ∃ T : ByteArray, T.data.toList = x := ⟨⟨x.toArray⟩, by simp⟩
theorem pick_big {s : Stt} {k : Tm} {b : Int} {Y Z : ByteArray} (h : 40000 < Z.size) : pickG s k ⟨98, b, Y, Z⟩ = ([], 10) := by
  unfold pickG
  simp only [show ¬ (98 : Int) = 115 by decide, show ¬ (98 : Int) = 100 by decide, show ¬ (98 : Int) = 120 by decide, if_false, if_true]
  rw [if_pos h]
theorem pick_made {s : Stt} {k : Tm} {b : Int} {Y Z : ByteArray} (h : ¬ 40000 < Z.size) : pickG s k ⟨98, b, Y, Z⟩ = (Z.data.toList, 0) := by
  unfold pickG
  simp only [show ¬ (98 : Int) = 115 by decide, show ¬ (98 : Int) = 100 by decide, show ¬ (98 : Int) = 120 by decide, if_false, if_true]
  rw [if_neg h]
theorem twice {B : ByteArray} {k : Nat} (h : B.size ≤ 100 * 2 ^ k) : (B ++ B).size ≤ 100 * 2 ^ (k + 1) := by
  rw [ByteArray.size_append, Nat.pow_succ]; omega
theorem twice_end {B : ByteArray} {k : Nat} (h : B.size ≤ 100 * 2 ^ k) (hk : k ≤ 11) : B.size ≤ 204800 := by
  have : 2 ^ k ≤ 2 ^ 11 := Nat.pow_le_pow_right (by decide) hk
  omega
end Go.Proofs.Ytamkepfhlfeiiaa.Sto
