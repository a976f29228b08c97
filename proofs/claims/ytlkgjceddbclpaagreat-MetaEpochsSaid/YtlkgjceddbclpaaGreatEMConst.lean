/-
  MConst. By an AI agent.
-/
import Derived.Test.YtlkgjceddbclpaaGreatEZ
import Derived.Test.YtlkgjceddbclpaaGreatEMBack
import Derived.Test.YtlkgjceddbclpaaGreatED1
import Derived.Test.YtlkgjceddbclpaaGreatEMTurn
namespace Go.Proofs.YtlkgjceddbclpaaGreat.Mta
open Wire Term Rig Draw Reg

def userT : Tm := [117, 115, 101, 114]
def signT : Tm := [115, 105, 103, 110]
def xT : Tm := [120]
def secU (who : Tm) : Tm := sech userT who 1
def pubU (who : Tm) : Tm := 117 :: secU who
def sgn (i : Nat) : Tm := sech signT xT i
def sgp (i : Nat) : Tm := 117 :: sgn i
def sgs (n : Nat) : List Tm := (List.range n).map sgn
theorem size_two {d : Nat} {k : UInt8} {a b : List UInt8} (hk : k = 112 ∨ k = 103 ∨ (k = 98 ∧ a.head? = some 117)) (ha : size d a = a.length) (ha0 : a ≠ []) (hb : size d b = b.length) (hb0 : b ≠ []) : size (d + 1) (k :: (a ++ b)) = (k :: (a ++ b)).length := by
  have hal : a.length ≠ 0 := fun h => ha0 (List.eq_nil_of_length_eq_zero h)
  have hbl : b.length ≠ 0 := fun h => hb0 (List.eq_nil_of_length_eq_zero h)
  show up (body (size d) k (a ++ b)) = _
  have har : arity k = some 2 := by rcases hk with rfl | rfl | ⟨rfl, _⟩ <;> rfl
  have h1 : body (size d) k (a ++ b) = sizes (size d) 2 (a ++ b) := by
    unfold body
    rw [har]
    show (if k = 98 ∧ (a ++ b).head? ≠ some 117 then none else sizes (size d) 2 (a ++ b)) = _
    rw [if_neg]
    rintro ⟨h98, hh⟩
    rcases hk with rfl | rfl | ⟨rfl, h117⟩
    · exact absurd h98 (by decide)
    · exact absurd h98 (by decide)
    · refine hh ?_
      cases a with
      | nil => exact absurd rfl ha0
      | cons x t => exact h117
  have h2 : size d (a ++ b) = a.length := by
    have := size_ext d a b (by rw [ha]; exact hal)
    rw [ha, List.take_length] at this
    exact this
  have h3 : sizes (size d) 1 b = some b.length := by
    unfold sizes
    rw [hb, if_neg hbl]
    unfold sizes
    rfl
  have h4 : sizes (size d) 2 (a ++ b) = some (a.length + b.length) := by
    unfold sizes
    rw [h2, if_neg hal, List.drop_left, h3]
    rfl
  rw [h1, h4]
  simp only [up, List.length_cons, List.length_append]; omega
theorem sz_two {d : Nat} {k : UInt8} {a b : List UInt8} (hk : k = 112 ∨ k = 103 ∨ (k = 98 ∧ a.head? = some 117)) (ha : Sz d a) (hb : Sz d b) : Sz (d + 1) (k :: (a ++ b)) := ⟨List.cons_ne_nil _ _, size_two hk ha.2 ha.1 hb.2 hb.1⟩
theorem sz_text (d : Nat) {s : Tm} (h : s.length ≤ 3900) : Sz (d + 1) (116 :: putText s) := by
  refine ⟨List.cons_ne_nil _ _, ?_⟩
  have h1 : text (putText s) 4000 = (s, [], 0) := by
    have := text_put (t := s) (by omega) [] 4000 (by omega)
    rw [List.append_nil] at this
    exact this
  show up (body (size d) 116 (putText s)) = _
  have h2 : body (size d) 116 (putText s) = some (putText s).length := by
    show leaf 116 (putText s) = _
    unfold leaf
    rw [if_neg (by decide), h1, if_pos rfl]
    rfl
  rw [h2]
  simp only [up, List.length_cons]; omega
theorem secU_sz {who : Tm} (h : who.length ≤ 12) : Sz 3 (secU who) ∧ (secU who).length ≤ 50 := by
  have hl : (userT ++ 58 :: who).length ≤ 17 := by rw [List.length_append, List.length_cons]; show 4 + (who.length + 1) ≤ 17; omega
  have h1 : Sz 1 (txt userT who) := sz_txt 0 (by omega)
  have h2 : Sz 1 (ofAtom 1) := sz_atom 0 (by omega)
  refine ⟨sz_one (.inl rfl) (sz_pair h1 h2), ?_⟩
  have h3 := (put_le (n := 1) (by omega)).2
  have h4 := (put_le (n := (userT ++ 58 :: who).length) (by omega)).2
  unfold secU sech prs ofAtom txt
  simp only [List.length_cons, List.length_append, putText_len] at hl h4 ⊢
  omega
theorem sgn_sz {i : Nat} (h : i < 18446744073709551616) : Sz 3 (sgn i) ∧ (sgn i).length ≤ 50 := by
  have hl : (signT ++ 58 :: xT).length = 6 := rfl
  have h1 : Sz 1 (txt signT xT) := sz_txt 0 (by rw [hl]; omega)
  have h2 : Sz 1 (ofAtom i) := sz_atom 0 h
  refine ⟨sz_one (.inl rfl) (sz_pair h1 h2), ?_⟩
  have h3 := (put_le h).2
  have h4 := (put_le (n := (signT ++ 58 :: xT).length) (by omega)).2
  unfold sgn sech prs ofAtom txt
  simp only [List.length_cons, List.length_append, putText_len] at hl h4 ⊢
  omega
theorem secU_right {who : Tm} (h : who.length ≤ 12) : right (secU who) = true := sz_right (secU_sz h).1 (by omega) (by have := (secU_sz h).2; omega)
theorem pubU_sz {who : Tm} (h : who.length ≤ 12) : Sz 4 (pubU who) ∧ (pubU who).length ≤ 51 := ⟨sz_one (.inr rfl) (secU_sz h).1, by have := (secU_sz h).2; unfold pubU; rw [List.length_cons]; omega⟩
theorem pubU_right {who : Tm} (h : who.length ≤ 12) : right (pubU who) = true := sz_right (pubU_sz h).1 (by omega) (by have := (pubU_sz h).2; omega)
theorem pubU_kind {who : Tm} (h : who.length ≤ 12) : kind (pubU who) = 117 := by rw [kind_right (pubU_right h)]; rfl
theorem sgn_right {i : Nat} (h : i < 18446744073709551616) : right (sgn i) = true := sz_right (sgn_sz h).1 (by omega) (by have := (sgn_sz h).2; omega)
theorem sgp_sz {i : Nat} (h : i < 18446744073709551616) : Sz 4 (sgp i) ∧ (sgp i).length ≤ 51 := ⟨sz_one (.inr rfl) (sgn_sz h).1, by have := (sgn_sz h).2; unfold sgp; rw [List.length_cons]; omega⟩
theorem sgp_right {i : Nat} (h : i < 18446744073709551616) : right (sgp i) = true := sz_right (sgp_sz h).1 (by omega) (by have := (sgp_sz h).2; omega)
theorem sgp_kind {i : Nat} (h : i < 18446744073709551616) : kind (sgp i) = 117 := by rw [kind_right (sgp_right h)]; rfl
theorem secU_is {who : Tm} (h : who.length ≤ 12) : secret userT who 1 = (secU who, 0) := by
  obtain ⟨h1, h2, h3, _⟩ := secret_small (use := userT) (who := who) (n := 1) (by show 4 + who.length ≤ 1000; omega) (by omega)
  exact secret_ok (by omega) h1 h2 h3
theorem sgn_is {i : Nat} (h : i < 18446744073709551616) : secret signT xT i = (sgn i, 0) := by
  obtain ⟨h1, h2, h3, _⟩ := secret_small (use := signT) (who := xT) (n := i) (by decide) h
  exact secret_ok h h1 h2 h3
theorem root_is {n : Nat} (h : n < 18446744073709551616) : secret [114, 111, 111, 116] [120] n = (rootS n, 0) := by
  obtain ⟨h1, h2, h3, _⟩ := secret_small (use := [114, 111, 111, 116]) (who := [120]) (n := n) (by decide) h
  exact secret_ok h h1 h2 h3
theorem pubU_is {who : Tm} (h : who.length ≤ 12) : one 117 (secU who) = (pubU who, 0) := by
  unfold one
  rw [if_pos (secU_right h)]
  exact made_yes (pubU_right h)
theorem sgp_is {i : Nat} (h : i < 18446744073709551616) : one 117 (sgn i) = (sgp i, 0) := by
  unfold one
  rw [if_pos (sgn_right h)]
  exact made_yes (sgp_right h)
theorem secU_inj {a b : Tm} (ha : a.length ≤ 12) (hb : b.length ≤ 12) (h : secU a = secU b) : a = b := by
  obtain ⟨h1, _⟩ := secret_small (use := userT) (who := a) (n := 1) (by show 4 + a.length ≤ 1000; omega) (by omega)
  obtain ⟨h2, _⟩ := secret_small (use := userT) (who := b) (n := 1) (by show 4 + b.length ≤ 1000; omega) (by omega)
  exact (sech_inj (by omega) (by omega) h1 h2 (by decide) (by decide) (by rw [List.length_append, List.length_cons]; show 4 + (a.length + 1) < _; omega) (by rw [List.length_append, List.length_cons]; show 4 + (b.length + 1) < _; omega) h).2.1
theorem wn_len {u : Tm} (h : Wn u) : u.length ≤ 12 := by
  obtain ⟨m, _, rfl⟩ := h
  have := who_size m
  rw [Lib.size_eq] at this
  omega
theorem sgs_len (n : Nat) : (sgs n).length = n := by simp [sgs]
theorem sgs_get {n i : Nat} (h : i < n) : (sgs n).getD i [] = sgn i := by simp [sgs, List.getD, h]
theorem sgs_right {n : Nat} (h : n ≤ 1000) : ∀ t ∈ sgs n, right t = true := fun t ht => by
  obtain ⟨i, hi, rfl⟩ := List.mem_map.1 ht
  exact sgn_right (by have := List.mem_range.1 hi; omega)
end Go.Proofs.YtlkgjceddbclpaaGreat.Mta

