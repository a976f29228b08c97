/-
  PLAIN FACTS, OF NO PROGRAM: what stands in a sealed term can be told by whoever can tell its epoch's state, and by nobody else. By an AI agent; no person has read it.
-/
import Derived.Test.YtjdignbmlfbdnaaGreatQLawP
namespace Go.Proofs.YtjdignbmlfbdnaaGreat.Dta
open Wire Term Draw Reg Clo

set_option linter.unusedVariables false

theorem tog_sech {S : Tm → Prop} {use who : Tm} {n : Nat} (h1 : right (txt use who) = true) (h2 : right (prs use who n) = true) (h3 : right (sech use who n) = true) (n1 : ¬ S (sech use who n)) (n2 : ¬ S (prs use who n)) (n3 : ¬ S (ofAtom n)) : ¬ Tog S (sech use who n) := fun hd => by
  rcases tog_iff.1 hd with h | h | ⟨_, h⟩
  · exact n1 h
  · rw [sech_head] at h; exact absurd h (by decide)
  · have e1 := (pts_one h3 (.inl rfl)).1
    have h4 := h (prs use who n) (by unfold sech; rw [e1]; simp)
    rcases tog_iff.1 h4 with h | h | ⟨_, h⟩
    · exact n2 h
    · rw [prs_head] at h; exact absurd h (by decide)
    · have h5 := h (ofAtom n) (by rw [pts_prs h1 h2]; simp)
      rcases tog_iff.1 h5 with h | h | ⟨h, _⟩
      · exact n3 h
      · rw [atom_head] at h; exact absurd h (by decide)
      · exact absurd (atom_head n) h
theorem tog_hs {S : Tm → Prop} {n : Nat} (hn : n < 18446744073709551616) : ∀ {k : Nat}, k ≤ 7 → (∀ j, j ≤ k → ¬ S (hs j (rootS n))) → ¬ S (prs [114, 111, 111, 116] [120] n) → ¬ S (ofAtom n) → ¬ Tog S (hs k (rootS n))
  | 0, _, hS, n2, n3 => by
    have r1 : right (rootS n) = true := st_right hn (k := 0) (by omega)
    have e1 := pts_one (b := 104) (t := prs [114, 111, 111, 116] [120] n) r1 (.inl rfl)
    exact tog_sech root_txt e1.2 r1 (hS 0 (Nat.le_refl _)) n2 n3
  | k + 1, hk, hS, n2, n3 => fun hd => by
    have e1 := (pts_one (b := 104) (t := hs k (rootS n)) (st_right hn (k := k + 1) hk) (.inl rfl)).1
    rcases tog_iff.1 hd with h | h | ⟨_, h⟩
    · exact hS (k + 1) (Nat.le_refl _) h
    · rw [hs_head] at h; exact absurd h (by decide)
    · exact tog_hs hn (k := k) (by omega) (fun j hj => hS j (by omega)) n2 n3 (h (hs k (rootS n)) (by rw [hs_succ, e1]; simp))
/-- The sealed atom, its signature. -/
def sealA (n x m : Nat) : Tm := 115 :: (keyh (hs (7 - x) (rootS n)) ++ ofAtom m)
def sigA (n x m : Nat) : Tm := 103 :: (sgn x ++ sealA n x m)
def forgeA (x : Nat) : Tm := 103 :: (sgn x ++ ofAtom 99)
theorem sealA_sz {n x m : Nat} (hn : n < 5) (hx : x ≤ 7) (hm : m < 18446744073709551616) : Sz 13 (sealA n x m) ∧ (sealA n x m).length ≤ 100 := by
  obtain ⟨h1, h2⟩ := keyh_sz (n := n) (by omega) (k := 7 - x) (by omega)
  refine ⟨sz_two (.inr (.inr (.inl rfl))) h1 (sz_atom 11 hm), ?_⟩
  have := (put_le hm).2
  unfold sealA ofAtom
  rw [List.length_cons, List.length_append, List.length_cons]
  omega
theorem sealA_right {n x m : Nat} (hn : n < 5) (hx : x ≤ 7) (hm : m < 18446744073709551616) : right (sealA n x m) = true := sz_right (sealA_sz hn hx hm).1 (by omega) (by have := (sealA_sz hn hx hm).2; omega)
theorem sealA_is {n x m : Nat} (hn : n < 5) (hx : x ≤ 7) (hm : m < 18446744073709551616) : two 115 (keyh (hs (7 - x) (rootS n))) (ofAtom m) = (sealA n x m, 0) := by
  unfold two
  rw [if_pos ⟨keyh_right (by omega) (by omega), atom_ok hm⟩]
  exact made_yes (sealA_right hn hx hm)
theorem pts_sealA {n x m : Nat} (hn : n < 5) (hx : x ≤ 7) (hm : m < 18446744073709551616) : pts (sealA n x m) = [keyh (hs (7 - x) (rootS n)), ofAtom m] := pts_cut (.inr (.inl rfl)) (sealA_right hn hx hm) (keyh_right (by omega) (by omega))
theorem sigA_sz {n x m : Nat} (hn : n < 5) (hx : x ≤ 7) (hm : m < 18446744073709551616) : Sz 14 (sigA n x m) ∧ (sigA n x m).length ≤ 160 := by
  obtain ⟨h1, h2⟩ := sealA_sz hn hx hm
  obtain ⟨h3, h4⟩ := sgn_sz (i := x) (by omega)
  refine ⟨sz_two (.inr (.inl rfl)) (sz_up h3 (by omega)) h1, ?_⟩
  unfold sigA
  rw [List.length_cons, List.length_append]
  omega
theorem sigA_right {n x m : Nat} (hn : n < 5) (hx : x ≤ 7) (hm : m < 18446744073709551616) : right (sigA n x m) = true := sz_right (sigA_sz hn hx hm).1 (by omega) (by have := (sigA_sz hn hx hm).2; omega)
theorem sigA_is {n x m : Nat} (hn : n < 5) (hx : x ≤ 7) (hm : m < 18446744073709551616) : two 103 (sgn x) (sealA n x m) = (sigA n x m, 0) := by
  unfold two
  rw [if_pos ⟨sgn_right (by omega), sealA_right hn hx hm⟩]
  exact made_yes (sigA_right hn hx hm)
theorem pts_sigA {n x m : Nat} (hn : n < 5) (hx : x ≤ 7) (hm : m < 18446744073709551616) : pts (sigA n x m) = [sgn x, sealA n x m] := pts_cut (.inr (.inr (.inr rfl))) (sigA_right hn hx hm) (sgn_right (by omega))
theorem forge_right {x : Nat} (hx : x ≤ 7) : right (forgeA x) = true := by
  obtain ⟨h3, h4⟩ := sgn_sz (i := x) (by omega)
  refine sz_right (d := 5) (sz_two (.inr (.inl rfl)) (sz_up h3 (by omega)) (sz_atom 3 (by omega))) (by omega) ?_
  have := (put_le (n := 99) (by omega)).2
  unfold forgeA ofAtom
  rw [List.length_cons, List.length_append, List.length_cons]
  omega
theorem forge_is {x : Nat} (hx : x ≤ 7) : two 103 (sgn x) (ofAtom 99) = (forgeA x, 0) := by
  unfold two
  rw [if_pos ⟨sgn_right (by omega), atom_ok (by omega)⟩]
  exact made_yes (forge_right hx)
/-- The key can't be put together where no state up to it is held. -/
theorem key_hid {n x m : Nat} (hn : n < 5) (hx : x ≤ 7) (hm : m < 18446744073709551616) {S : Tm → Prop} (h1 : ¬ S (keyh (hs (7 - x) (rootS n)))) (h2 : ∀ t, t.headD 0 = 112 → ¬ S t) (h3 : ∀ j, j ≤ 7 - x → ¬ S (hs j (rootS n))) (h4 : ¬ S (ofAtom n)) : ¬ Tog S (keyh (hs (7 - x) (rootS n))) := fun hd => by
  have hn' : n < 18446744073709551616 := by omega
  have hk := st_key hn' (k := 7 - x) (by omega)
  have e1 := (pts_one (b := 104) (t := keyp (hs (7 - x) (rootS n))) hk.2 (.inl rfl)).1
  rcases tog_iff.1 hd with h | h | ⟨_, h⟩
  · exact h1 h
  · exact absurd h (show ¬ (104 : UInt8) = 116 by decide)
  · have h5 := h (keyp (hs (7 - x) (rootS n))) (by unfold keyh; rw [e1]; simp)
    rcases tog_iff.1 h5 with h | h | ⟨_, h⟩
    · exact h2 _ rfl h
    · exact absurd h (show ¬ (112 : UInt8) = 116 by decide)
    · exact tog_hs hn' (k := 7 - x) (by omega) h3 (h2 _ rfl) h4 (h (hs (7 - x) (rootS n)) (by rw [pts_keyp hk.1]; simp))
/-- What is had of the sealed term, the signature and other terms of which nothing more is had. -/
theorem had_seal {n x m : Nat} (hn : n < 5) (hx : x ≤ 7) (hm : m < 18446744073709551616) {X : Tm → Prop} (hX : ∀ t, X t → t.headD 0 = 104 ∨ t.headD 0 = 97) (hno : ¬ Tog (fun t => t = sealA n x m ∨ t = sigA n x m ∨ X t) (keyh (hs (7 - x) (rootS n)))) {held : List Tm} (hh : ∀ t ∈ held, t = sealA n x m ∨ t = sigA n x m ∨ X t) {t : Tm} (ht : Had held t) : t = sealA n x m ∨ t = sigA n x m ∨ X t := by
  refine ht (fun t => t = sealA n x m ∨ t = sigA n x m ∨ X t) hh fun t p h hg => ?_
  rcases h with rfl | rfl | h
  · rcases hg with ⟨e, _⟩ | ⟨e, _⟩ | ⟨_, e, _⟩ | ⟨e, _⟩
    · exact absurd e (show ¬ (115 : UInt8) = 112 by decide)
    · exact absurd e (show ¬ (115 : UInt8) = 103 by decide)
    · rw [pts_sealA hn hx hm] at e
      exact absurd e hno
    · exact absurd e (show ¬ (115 : UInt8) = 98 by decide)
  · rcases hg with ⟨e, _⟩ | ⟨_, e⟩ | ⟨e, _⟩ | ⟨e, _⟩
    · exact absurd e (show ¬ (103 : UInt8) = 112 by decide)
    · rw [pts_sigA hn hx hm] at e
      have : p = sealA n x m := by simpa using e
      exact .inl this
    · exact absurd e (show ¬ (103 : UInt8) = 115 by decide)
    · exact absurd e (show ¬ (103 : UInt8) = 98 by decide)
  · rcases hX t h with e0 | e0 <;> rcases hg with ⟨e, _⟩ | ⟨e, _⟩ | ⟨e, _⟩ | ⟨e, _⟩ <;> (rw [e0] at e; exact absurd e (by decide))
theorem state_ne_key {n x m : Nat} (hn : n < 5) (hx : x ≤ 7) (hm : m < 18446744073709551616) {j : Nat} : hs j (rootS n) ≠ keyh (hs (7 - x) (rootS n)) := fun h => key_state h.symm
/-- With no state at all. -/
theorem hides_none {n x m : Nat} (hn : n < 5) (hx : x ≤ 7) (hm : m < 18446744073709551616) (hm2 : 100 ≤ m) {held : List Tm} (hh : ∀ t ∈ held, t = sealA n x m ∨ t = sigA n x m) : ¬ Der held (ofAtom m) := fun hd => by
  have hno : ¬ Tog (fun t => t = sealA n x m ∨ t = sigA n x m ∨ (fun _ : Tm => False) t) (keyh (hs (7 - x) (rootS n))) := by
    refine key_hid hn hx hm ?_ ?_ ?_ ?_
    · rintro (h | h | h)
      · exact absurd (List.cons.inj h).1 (by decide)
      · exact absurd (List.cons.inj h).1 (by decide)
      · exact h
    · rintro t ht (rfl | rfl | h)
      · exact absurd ht (show ¬ (115 : UInt8) = 112 by decide)
      · exact absurd ht (show ¬ (103 : UInt8) = 112 by decide)
      · exact h
    · rintro j _ (h | h | h)
      · have := congrArg (List.headD · 0) h; rw [hs_head] at this; exact absurd this (show ¬ (104 : UInt8) = 115 by decide)
      · have := congrArg (List.headD · 0) h; rw [hs_head] at this; exact absurd this (show ¬ (104 : UInt8) = 103 by decide)
      · exact h
    · rintro (h | h | h)
      · exact absurd (List.cons.inj h).1 (by decide)
      · exact absurd (List.cons.inj h).1 (by decide)
      · exact h
  rcases tog_iff.1 hd with h | h | ⟨h, _⟩
  · rcases had_seal hn hx hm (X := fun _ => False) (fun _ h => h.elim) hno (fun t ht => (hh t ht).imp id .inl) h with h | h | h
    · exact absurd (List.cons.inj h).1 (by decide)
    · exact absurd (List.cons.inj h).1 (by decide)
    · exact h
  · exact absurd h (show ¬ (97 : UInt8) = 116 by decide)
  · exact h rfl
end Go.Proofs.YtjdignbmlfbdnaaGreat.Dta
