/-
  StoreBounds, its plain part: a store without a key. By an AI agent; no person has read it.
-/
import Derived.Test.YtfeochpjjbnckaaSApartP
namespace Go.Proofs.Ytfeochpjjbnckaa.Sto
open Wire

set_option linter.unusedVariables false
structure Bd (K : Tm) (i : Nat) (s : Stt) : Prop where
  ver : s.ver K = []
  n : s.n ≤ i
theorem bd0 (K : Tm) : Bd K 0 s0 := ⟨rfl, Nat.le_refl _⟩
theorem Bd.up {K : Tm} {i : Nat} {s : Stt} (h : Bd K i s) : Bd K (i + 1) s := ⟨h.ver, Nat.le_succ_of_le h.n⟩
theorem bd_put {K x : Tm} {i : Nat} {s : Stt} (h : Bd K i s) (hx : x ≠ K) (b : Tm) : Bd K (i + 1) (putS s x b) := by
  by_cases h0 : putE s x b = 0
  · rw [putS_ok h0]
    refine ⟨?_, by show s.n + 1 ≤ i + 1; have := h.n; omega⟩
    show (if K = x then s.ver x ++ [b] else s.ver K) = []
    rw [if_neg fun e => hx e.symm, h.ver]
  · rw [putS_no h0]
    exact h.up
theorem bd_not {K : Tm} {i : Nat} {s : Stt} (h : Bd K i s) (hf : Fine s) : s.is K = false := by
  cases hi : s.is K with
  | false => rfl
  | true => exact absurd h.ver (hf.had K hi)
theorem bd_arg {K b : Tm} {s : Stt} (h : K = [] ∨ 200 < K.length) : putE s K b = 1 := by unfold putE; rw [if_pos h]
theorem bd_big {K b : Tm} {s : Stt} (h1 : K ≠ []) (h2 : ¬ 200 < K.length) (h : 40000 < b.length) : putE s K b = 10 := by unfold putE; rw [if_neg (by rintro (h | h) <;> contradiction), if_pos h]
theorem bd_ok {K b : Tm} {i : Nat} {s : Stt} (hb : Bd K i s) (hi : i < 2000) (h1 : K ≠ []) (h2 : ¬ 200 < K.length) (h : ¬ 40000 < b.length) : putE s K b = 0 := by
  unfold putE; rw [if_neg (by rintro (h | h) <;> contradiction), if_neg h, if_neg (by have := hb.n; omega)]
theorem bd_get {K b : Tm} {s : Stt} : getS (putD s K b) K = (b, 0) := by
  have e1 : (putD s K b).is K = true := by show (decide (K = K) || s.is K) = true; simp
  have e2 : (putD s K b).ver K = s.ver K ++ [b] := by show (if K = K then _ else _) = _; rw [if_pos rfl]
  unfold getS
  rw [if_pos e1, e2, List.getLastD_concat]
theorem bd_none {K : Tm} {i : Nat} {s : Stt} (h : Bd K i s) (hf : Fine s) : getS s K = ([], 4) := by unfold getS; rw [bd_not h hf]; rfl
end Go.Proofs.Ytfeochpjjbnckaa.Sto
