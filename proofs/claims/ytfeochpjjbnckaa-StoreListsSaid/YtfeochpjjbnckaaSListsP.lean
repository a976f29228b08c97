/-
  StoreLists, its plain part: what was put alone is there; few keys. By an AI agent; no person has read it.
-/
import Derived.Test.YtfeochpjjbnckaaSApartP
namespace Go.Proofs.Ytfeochpjjbnckaa.Sto
open Wire

set_option linter.unusedVariables false
theorem nodup_le : ∀ {a b : List Tm}, a.Nodup → (∀ x ∈ a, x ∈ b) → a.length ≤ b.length
  | [], b, _, _ => Nat.zero_le _
  | x :: t, b, hn, h => by
    obtain ⟨h1, h2⟩ := List.nodup_cons.1 hn
    have hx := h x List.mem_cons_self
    have := nodup_le (b := b.erase x) h2 fun y hy => (List.mem_erase_of_ne (fun e => h1 (by rw [← e]; exact hy))).2 (h y (List.mem_cons_of_mem _ hy))
    rw [List.length_erase_of_mem hx] at this
    have hp := List.length_pos_of_mem hx
    rw [List.length_cons]
    omega
structure Some (i : Nat) (s : Stt) : Prop where
  n : s.n ≤ i
  ks : ∃ ks : List Tm, ks.length ≤ i ∧ ∀ x, s.ver x ≠ [] → x ∈ ks
def Puts (s : Stt) : Prop := ∀ x, s.is x = true ↔ s.ver x ≠ []
theorem some0 : Some 0 s0 := ⟨Nat.le_refl _, [], Nat.le_refl _, fun x h => absurd rfl h⟩
theorem puts0 : Puts s0 := fun x => ⟨fun h => (by cases h), fun h => absurd rfl h⟩
theorem Some.up {i : Nat} {s : Stt} (h : Some i s) : Some (i + 1) s := by
  obtain ⟨ks, h1, h2⟩ := h.ks
  exact ⟨Nat.le_succ_of_le h.n, ks, Nat.le_succ_of_le h1, h2⟩
theorem some_put {i : Nat} {s : Stt} (h : Some i s) (k b : Tm) : Some (i + 1) (putS s k b) := by
  by_cases h0 : putE s k b = 0
  · rw [putS_ok h0]
    obtain ⟨ks, h1, h2⟩ := h.ks
    refine ⟨by show s.n + 1 ≤ i + 1; have := h.n; omega, k :: ks, by simpa using h1, fun x hx => ?_⟩
    have hx' : (if x = k then s.ver k ++ [b] else s.ver x) ≠ [] := hx
    by_cases he : x = k
    · rw [he]; exact List.mem_cons_self
    · rw [if_neg he] at hx'
      exact List.mem_cons_of_mem _ (h2 x hx')
  · rw [putS_no h0]
    exact h.up
theorem some_del {i : Nat} {s : Stt} (h : Some i s) (k : Tm) : Some (i + 1) (delS s k) := by
  obtain ⟨ks, h1, h2⟩ := h.ks
  exact ⟨Nat.le_succ_of_le h.n, ks, Nat.le_succ_of_le h1, h2⟩
theorem puts_put {s : Stt} (h : Puts s) (k b : Tm) : Puts (putS s k b) := by
  by_cases h0 : putE s k b = 0
  · rw [putS_ok h0]
    intro x
    show (decide (x = k) || s.is x) = true ↔ (if x = k then s.ver k ++ [b] else s.ver x) ≠ []
    by_cases he : x = k
    · rw [if_pos he, decide_eq_true he]; simp
    · rw [if_neg he, decide_eq_false he, Bool.false_or]; exact h x
  · rw [putS_no h0]
    exact h
theorem few_list {i : Nat} {s : Stt} (h : Some i s) (hf : Fine s) {p : Tm} {l : List Tm} (hl : Lists s p l) : l.length ≤ i := by
  obtain ⟨ks, h1, h2⟩ := h.ks
  exact Nat.le_trans (nodup_le (rising_nodup hl.1) (fun x hx => h2 x (hf.had x ((hl.2 x).1 hx).1))) h1
theorem few_ever {i : Nat} {s : Stt} (h : Some i s) {l : List Tm} (hl : Evers s l) : l.length ≤ i := by
  obtain ⟨ks, h1, h2⟩ := h.ks
  exact Nat.le_trans (nodup_le (rising_nodup hl.1) (fun x hx => h2 x ((hl.2 x).1 hx))) h1
theorem few_vers {i : Nat} {s : Stt} (h : Some i s) (hf : Fine s) (k : Tm) : (s.ver k).length ≤ i := Nat.le_trans (hf.many k) h.n
theorem list_ever {s : Stt} (h : Puts s) {l m : List Tm} (hl : Lists s [] l) (hm : Evers s m) : l = m := rising_eq hl.1 hm.1 fun x => by
  rw [hl.2, hm.2, h x]
  exact ⟨fun h => h.1, fun h => ⟨h, List.nil_prefix⟩⟩
theorem ver_same {ys zs : List ByteArray} {l : List Tm} (h1 : bl ys = l) (h2 : bl zs = l) : bl ys = bl zs := h1.trans h2.symm
end Go.Proofs.Ytfeochpjjbnckaa.Sto
