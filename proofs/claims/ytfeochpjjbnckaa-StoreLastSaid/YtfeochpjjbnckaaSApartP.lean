/-
  StoreApart, its plain part: two stores that agree at one key. By an AI agent; no person has read it.
-/
import Derived.Test.YtfeochpjjbnckaaSHelp
namespace Go.Proofs.Ytfeochpjjbnckaa.Sto
open Wire

set_option linter.unusedVariables false
structure Apart (o : Tm) (i : Nat) (s t : Stt) : Prop where
  ver : s.ver o = t.ver o
  is : s.is o = t.is o
  n1 : s.n ≤ i
  n2 : t.n ≤ s.n
  len : t.n = (t.ver o).length
theorem apart0 (o : Tm) : Apart o 0 s0 s0 := ⟨rfl, rfl, Nat.le_refl _, Nat.le_refl _, rfl⟩
theorem Apart.up {o : Tm} {i : Nat} {s t : Stt} (h : Apart o i s t) : Apart o (i + 1) s t := ⟨h.ver, h.is, Nat.le_succ_of_le h.n1, h.n2, h.len⟩
theorem putE_eq {s t : Stt} {k b : Tm} (h1 : s.n < 2000) (h2 : t.n < 2000) : putE s k b = putE t k b := by unfold putE; rw [if_neg (show ¬ 2000 ≤ s.n by omega), if_neg (show ¬ 2000 ≤ t.n by omega)]
theorem putS_ok {s : Stt} {k b : Tm} (h : putE s k b = 0) : putS s k b = putD s k b := by unfold putS; rw [if_pos h]
theorem putS_no {s : Stt} {k b : Tm} (h : putE s k b ≠ 0) : putS s k b = s := by unfold putS; rw [if_neg h]
theorem apart_put {o : Tm} {i : Nat} {s t : Stt} (h : Apart o i s t) (hi : i < 2000) (b : Tm) : Apart o (i + 1) (putS s o b) (putS t o b) := by
  have h1 := h.n1
  have h2 := h.n2
  have e := putE_eq (s := s) (t := t) (k := o) (b := b) (by omega) (by omega)
  by_cases h0 : putE t o b = 0
  · rw [putS_ok (e.trans h0), putS_ok h0]
    refine ⟨?_, ?_, by show s.n + 1 ≤ i + 1; omega, by show t.n + 1 ≤ s.n + 1; omega, ?_⟩
    · show (if o = o then s.ver o ++ [b] else s.ver o) = (if o = o then t.ver o ++ [b] else t.ver o)
      rw [h.ver]
    · show (decide (o = o) || s.is o) = (decide (o = o) || t.is o)
      rw [h.is]
    · show t.n + 1 = (if o = o then t.ver o ++ [b] else t.ver o).length
      rw [if_pos rfl, List.length_append, h.len]
      rfl
  · rw [putS_no (by rw [e]; exact h0), putS_no h0]
    exact h.up
theorem apart_put_other {o x : Tm} {i : Nat} {s t : Stt} (h : Apart o i s t) (hx : x ≠ o) (b : Tm) : Apart o (i + 1) (putS s x b) t := by
  have h1 := h.n1
  have h2 := h.n2
  by_cases h0 : putE s x b = 0
  · rw [putS_ok h0]
    refine ⟨?_, ?_, by show s.n + 1 ≤ i + 1; omega, by show t.n ≤ s.n + 1; omega, h.len⟩
    · show (if o = x then s.ver x ++ [b] else s.ver o) = t.ver o
      rw [if_neg fun e => hx e.symm, h.ver]
    · show (decide (o = x) || s.is o) = t.is o
      rw [decide_eq_false fun e => hx e.symm, Bool.false_or, h.is]
  · rw [putS_no h0]
    exact h.up
theorem apart_del {o : Tm} {i : Nat} {s t : Stt} (h : Apart o i s t) : Apart o (i + 1) (delS s o) (delS t o) := ⟨h.ver, by show (!decide (o = o) && s.is o) = (!decide (o = o) && t.is o); rw [h.is], Nat.le_succ_of_le h.n1, h.n2, h.len⟩
theorem apart_del_other {o x : Tm} {i : Nat} {s t : Stt} (h : Apart o i s t) (hx : x ≠ o) : Apart o (i + 1) (delS s x) t := ⟨h.ver, by show (!decide (o = x) && s.is o) = t.is o; rw [decide_eq_false fun e => hx e.symm, h.is]; simp, Nat.le_succ_of_le h.n1, h.n2, h.len⟩
theorem apart_get {o : Tm} {i : Nat} {s t : Stt} (h : Apart o i s t) : getS s o = getS t o := by unfold getS; rw [h.is, h.ver]
theorem keyN_small {a : Ac} (h : a.Ok) : (keyN a).size ≤ 140737488351232 := by
  unfold keyN
  split
  · have : ∀ m : Fin 5, (keyB.getD m.1 ByteArray.empty).size ≤ 140737488351232 := by decide
    exact this ⟨_, by assumption⟩
  · exact h.key
end Go.Proofs.Ytfeochpjjbnckaa.Sto
