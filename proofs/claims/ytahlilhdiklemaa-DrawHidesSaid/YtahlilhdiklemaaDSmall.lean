/-
  PLAIN FACTS, OF NO PROGRAM: a secret of short texts is one, and its public one is a term. By an AI agent; no person has read it.
-/
import Derived.Test.YtahlilhdiklemaaDPure
import Derived.Test.YtahlilhdiklemaaTReads
namespace Go.Proofs.Ytahlilhdiklemaa.Draw
open Wire Term Clo

theorem size_txt (d : Nat) {use who : List UInt8} (h : (use ++ 58 :: who).length ≤ 3000) : size (d + 1) (txt use who) = (txt use who).length := by
  have h1 := put_le (n := (use ++ 58 :: who).length) (by omega)
  unfold txt
  generalize use ++ 58 :: who = s at h h1
  show up (body (size d) 116 (putText s)) = _
  have h2 : body (size d) 116 (putText s) = some (putText s).length := by
    have h3 := text_put (t := s) (by omega) [] 4000 (by omega)
    rw [List.append_nil] at h3
    show leaf 116 (putText s) = _
    unfold leaf
    rw [if_neg (by decide), h3]
    simp
  rw [h2]
  simp only [up, List.length_cons]; omega
theorem size_atom (d : Nat) {n : Nat} (hn : n < 18446744073709551616) : size (d + 1) (ofAtom n) = (ofAtom n).length := by
  show up (body (size d) 97 (put n)) = _
  have h2 : body (size d) 97 (put n) = some (put n).length := by
    have h3 := take_put hn []
    rw [List.append_nil] at h3
    show leaf 97 (put n) = _
    unfold leaf
    rw [if_pos rfl, h3]
    simp
  rw [h2]
  simp only [up, ofAtom, List.length_cons]; omega
theorem size_pair {d : Nat} {a b : List UInt8} (ha : size d a = a.length) (ha0 : a ≠ []) (hb : size d b = b.length) (hb0 : b ≠ []) : size (d + 1) (112 :: (a ++ b)) = (112 :: (a ++ b)).length := by
  have hal : a.length ≠ 0 := fun h => ha0 (List.eq_nil_of_length_eq_zero h)
  have hbl : b.length ≠ 0 := fun h => hb0 (List.eq_nil_of_length_eq_zero h)
  show up (body (size d) 112 (a ++ b)) = _
  have h1 : body (size d) 112 (a ++ b) = sizes (size d) 2 (a ++ b) := by
    show (if (112 : UInt8) = 98 ∧ (a ++ b).head? ≠ some 117 then none else sizes (size d) 2 (a ++ b)) = _
    rw [if_neg (fun h => absurd h.1 (by decide))]
  have h2 : size d (a ++ b) = a.length := by
    have := size_ext d a b (by rw [ha]; exact hal)
    rw [ha, List.take_length] at this
    exact this
  have h3 : sizes (size d) 1 b = some b.length := by
    unfold sizes
    rw [hb, if_neg hbl]
    unfold sizes
    rfl
  have h4 : sizes (size d) 2 (a ++ b) = some (a.length + b.length) := by
    unfold sizes
    rw [h2, if_neg hal, List.drop_left, h3]
    rfl
  rw [h1, h4]
  simp only [up, List.length_cons, List.length_append]; omega
theorem size_one {d : Nat} {k : UInt8} {a : List UInt8} (hk : k = 104 ∨ k = 117) (ha : size d a = a.length) (ha0 : a ≠ []) : size (d + 1) (k :: a) = (k :: a).length := by
  have hal : a.length ≠ 0 := fun h => ha0 (List.eq_nil_of_length_eq_zero h)
  have hk1 : arity k = some 1 := by rcases hk with rfl | rfl <;> rfl
  have hk2 : k ≠ 98 := by rcases hk with rfl | rfl <;> decide
  show up (body (size d) k a) = _
  have h1 : body (size d) k a = sizes (size d) 1 a := by
    unfold body
    rw [hk1]
    show (if k = 98 ∧ a.head? ≠ some 117 then none else sizes (size d) 1 a) = _
    rw [if_neg (fun h => absurd h.1 hk2)]
  have h2 : sizes (size d) 1 a = some a.length := by
    unfold sizes
    rw [ha, if_neg hal]
    unfold sizes
    rfl
  rw [h1, h2]
  simp only [up, List.length_cons]; omega
/-- A secret of short texts. -/
theorem secret_small {use who : List UInt8} {n : Nat} (h : use.length + who.length ≤ 1000) (hn : n < 18446744073709551616) :
    right (txt use who) = true ∧ right (prs use who n) = true ∧ right (sech use who n) = true ∧ right (117 :: sech use who n) = true := by
  have hl : (use ++ 58 :: who).length ≤ 1001 := by rw [List.length_append, List.length_cons]; omega
  have h1 := (put_le (n := (use ++ 58 :: who).length) (by omega)).2
  have h2 := (put_le hn).2
  have ht : (txt use who).length ≤ 1020 := by unfold txt; rw [List.length_cons, putText_len]; omega
  have ha : (ofAtom n).length ≤ 20 := by unfold ofAtom; rw [List.length_cons]; omega
  have hp : (prs use who n).length ≤ 1041 := by unfold prs; rw [List.length_cons, List.length_append]; omega
  have hs : (sech use who n).length ≤ 1042 := by unfold sech; rw [List.length_cons]; omega
  have t1 := fun d => size_txt d (use := use) (who := who) (by omega)
  have a1 := fun d => size_atom d hn
  have tn : txt use who ≠ [] := by unfold txt; exact List.cons_ne_nil _ _
  have an : ofAtom n ≠ [] := by unfold ofAtom; exact List.cons_ne_nil _ _
  have p1 : ∀ d, size (d + 2) (prs use who n) = (prs use who n).length := fun d => size_pair (t1 d) tn (a1 d) an
  have pn : prs use who n ≠ [] := List.cons_ne_nil _ _
  have s1 : ∀ d, size (d + 3) (sech use who n) = (sech use who n).length := fun d => size_one (.inl rfl) (p1 d) pn
  have sn : sech use who n ≠ [] := List.cons_ne_nil _ _
  exact ⟨right_iff.2 ⟨tn, by omega, t1 39⟩, right_iff.2 ⟨pn, by omega, p1 38⟩, right_iff.2 ⟨sn, by omega, s1 37⟩, right_iff.2 ⟨List.cons_ne_nil _ _, by rw [List.length_cons]; omega, size_one (.inr rfl) (s1 36) sn⟩⟩
end Go.Proofs.Ytahlilhdiklemaa.Draw
