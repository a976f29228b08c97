/-
  PLAIN FACTS, OF NO PROGRAM: what is sealed under an epoch's key is told by an epoch's state as late or later, by no earlier one; what is signed can't be changed. By an AI agent; no person has read it.
-/
import Derived.Test.YtjdignbmlfbdnaaGreatQHideP
namespace Go.Proofs.YtjdignbmlfbdnaaGreat.Dta
open Wire Term Draw Reg Clo

set_option linter.unusedVariables false
theorem sign_eq : txt signT xT = [116, 1, 6, 115, 105, 103, 110, 58, 120] := by
  show 116 :: (put 6 ++ [115, 105, 103, 110, 58, 120]) = _
  rw [put_byte (by decide) (by decide)]; rfl
theorem sign_txt : right (txt signT xT) = true := by rw [sign_eq]; rfl
theorem put_inj1 {a b : Nat} (ha : a < 18446744073709551616) (hb : b < 18446744073709551616) (h : ofAtom a = ofAtom b) : a = b := (Wire.put_inj ha hb (r := []) (q := []) (by rw [List.append_nil, List.append_nil]; exact (List.cons.inj h).2)).1
theorem seal_head {n x m : Nat} : (sealA n x m).headD 0 = 115 := rfl
theorem sig_head {n x m : Nat} : (sigA n x m).headD 0 = 103 := rfl
/-- Up the chain. -/
theorem der_up {n : Nat} (hn : n < 18446744073709551616) {held : List Tm} {k : Nat} (hd : Der held (hs k (rootS n))) : ∀ j, k + j ≤ 7 → Der held (hs (k + j) (rootS n))
  | 0, _ => hd
  | j + 1, hj => by
    have e1 := (pts_one (b := 104) (t := hs (k + j) (rootS n)) (st_right hn (k := k + j + 1) hj) (.inl rfl)).1
    refine der_parts (by rw [hs_head]; decide) fun q hq => ?_
    rw [show k + (j + 1) = (k + j) + 1 from rfl, hs_succ, e1] at hq
    rw [List.mem_singleton.1 hq]
    exact der_up hn hd j (by omega)
theorem der_keyh {n : Nat} (hn : n < 18446744073709551616) {held : List Tm} {k : Nat} (hk : k ≤ 7) (hd : Der held (hs k (rootS n))) : Der held (keyh (hs k (rootS n))) := by
  obtain ⟨r1, r2⟩ := st_key hn hk
  have e1 := (pts_one (b := 104) (t := keyp (hs k (rootS n))) r2 (.inl rfl)).1
  refine der_parts (show ¬ (104 : UInt8) = 97 by decide) fun q hq => ?_
  unfold keyh at hq
  rw [e1] at hq
  rw [List.mem_singleton.1 hq]
  refine der_parts (show ¬ (112 : UInt8) = 97 by decide) fun q hq => ?_
  rw [pts_keyp r1] at hq
  rcases List.mem_cons.1 hq with rfl | hq
  · exact tog_iff.2 (.inr (.inl rfl))
  · rw [List.mem_singleton.1 hq]; exact hd
/-- With a state. -/
theorem hides_state {n x y m : Nat} (hn : n < 5) (hx : x ≤ 7) (hy : y ≤ 7) (hm : m < 18446744073709551616) : Der [sealA n x m, sigA n x m, hs (7 - y) (rootS n)] (ofAtom m) ↔ x ≤ y := by
  have hn' : n < 18446744073709551616 := by omega
  constructor
  · intro hd
    refine Classical.byContradiction fun hxy => ?_
    have hno : ¬ Tog (fun t => t = sealA n x m ∨ t = sigA n x m ∨ (fun t : Tm => t = hs (7 - y) (rootS n)) t) (keyh (hs (7 - x) (rootS n))) := by
      refine key_hid hn hx hm ?_ ?_ ?_ ?_
      · rintro (h | h | h)
        · exact absurd (List.cons.inj h).1 (by decide)
        · exact absurd (List.cons.inj h).1 (by decide)
        · exact key_state h
      · rintro t ht (rfl | rfl | h)
        · exact absurd ht (show ¬ (115 : UInt8) = 112 by decide)
        · exact absurd ht (show ¬ (103 : UInt8) = 112 by decide)
        · have h2 : t = hs (7 - y) (rootS n) := h
          rw [h2, hs_head] at ht
          exact absurd ht (by decide)
      · rintro j hj (h | h | h)
        · have := congrArg (List.headD · 0) h; rw [hs_head] at this; exact absurd this (show ¬ (104 : UInt8) = 115 by decide)
        · have := congrArg (List.headD · 0) h; rw [hs_head] at this; exact absurd this (show ¬ (104 : UInt8) = 103 by decide)
        · have := hs_inj h
          omega
      · rintro (h | h | h)
        · exact absurd (List.cons.inj h).1 (by decide)
        · exact absurd (List.cons.inj h).1 (by decide)
        · have := congrArg (List.headD · 0) h; rw [hs_head] at this; exact absurd this (show ¬ (97 : UInt8) = 104 by decide)
    rcases tog_iff.1 hd with h | h | ⟨h, _⟩
    · rcases had_seal hn hx hm (X := fun t => t = hs (7 - y) (rootS n)) (fun t h => .inl (by rw [h, hs_head])) hno (fun t ht => by
        rcases List.mem_cons.1 ht with h | ht
        · exact .inl h
        · rcases List.mem_cons.1 ht with h | ht
          · exact .inr (.inl h)
          · exact .inr (.inr (List.mem_singleton.1 ht))) h with h | h | h
      · exact absurd (List.cons.inj h).1 (by decide)
      · exact absurd (List.cons.inj h).1 (by decide)
      · have := congrArg (List.headD · 0) h; rw [hs_head] at this; exact absurd this (show ¬ (97 : UInt8) = 104 by decide)
    · exact absurd h (show ¬ (97 : UInt8) = 116 by decide)
    · exact h rfl
  · intro hxy
    have h1 : Der [sealA n x m, sigA n x m, hs (7 - y) (rootS n)] (hs (7 - y) (rootS n)) := der_held (by simp)
    have h2 := der_up hn' h1 (y - x) (by omega)
    rw [show 7 - y + (y - x) = 7 - x by omega] at h2
    have h3 := der_keyh hn' (by omega) h2
    refine tog_of (had_closed _ (sealA n x m) (ofAtom m) (had_held (by simp)) (.inr (.inr (.inl ⟨rfl, ?_, ?_⟩))))
    · rw [pts_sealA hn hx hm]; exact h3
    · rw [pts_sealA hn hx hm]; simp
/-- What is had, with the contents and others beside. -/
theorem had_more {n x m : Nat} (hn : n < 5) (hx : x ≤ 7) (hm : m < 18446744073709551616) {X : Tm → Prop} (hX : ∀ t, X t → t.headD 0 = 104 ∨ t.headD 0 = 97) (hA : X (ofAtom m)) {held : List Tm} (hh : ∀ t ∈ held, t = sealA n x m ∨ t = sigA n x m ∨ X t) {t : Tm} (ht : Had held t) : t = sealA n x m ∨ t = sigA n x m ∨ X t := by
  refine ht (fun t => t = sealA n x m ∨ t = sigA n x m ∨ X t) hh fun t p h hg => ?_
  rcases h with rfl | rfl | h
  · have hp := gives_pts hg
    rcases hg with ⟨e, _⟩ | ⟨e, _⟩ | ⟨_, _, e⟩ | ⟨e, _⟩
    · exact absurd e (show ¬ (115 : UInt8) = 112 by decide)
    · exact absurd e (show ¬ (115 : UInt8) = 103 by decide)
    · rw [pts_sealA hn hx hm] at e
      have : p = ofAtom m := by simpa using e
      rw [this]; exact .inr (.inr hA)
    · exact absurd e (show ¬ (115 : UInt8) = 98 by decide)
  · rcases hg with ⟨e, _⟩ | ⟨_, e⟩ | ⟨e, _⟩ | ⟨e, _⟩
    · exact absurd e (show ¬ (103 : UInt8) = 112 by decide)
    · rw [pts_sigA hn hx hm] at e
      have : p = sealA n x m := by simpa using e
      exact .inl this
    · exact absurd e (show ¬ (103 : UInt8) = 115 by decide)
    · exact absurd e (show ¬ (103 : UInt8) = 98 by decide)
  · rcases hX t h with e0 | e0 <;> rcases hg with ⟨e, _⟩ | ⟨e, _⟩ | ⟨e, _⟩ | ⟨e, _⟩ <;> (rw [e0] at e; exact absurd e (by decide))
theorem sgn_state {x n : Nat} (hn : n < 5) (hx : x ≤ 7) (k : Nat) : sgn x ≠ hs k (rootS n) := fun h => by
  cases k with
  | zero =>
    have r1 := (pts_one (b := 104) (t := prs signT xT x) (sgn_right (i := x) (by omega)) (.inl rfl)).2
    have e1 : txt signT xT ++ ofAtom x = txt [114, 111, 111, 116] [120] ++ ofAtom n := (List.cons.inj (List.cons.inj h).2).2
    obtain ⟨e2, _⟩ := right_cut sign_txt root_txt e1
    rw [root_eq, sign_eq] at e2
    exact absurd e2 (by decide)
  | succ k =>
    have e1 : prs signT xT x = hs k (rootS n) := (List.cons.inj h).2
    have e2 := hs_head k n
    rw [← e1] at e2
    exact absurd e2 (show ¬ (112 : UInt8) = 104 by decide)
/-- Nothing else is signed. -/
theorem hides_forge {n x y m : Nat} (hn : n < 5) (hx : x ≤ 7) (hy : y ≤ 7) (hm : m < 18446744073709551616) (hm2 : 100 ≤ m) : ¬ Der [sealA n x m, sigA n x m, hs (7 - y) (rootS n), ofAtom 99] (forgeA x) := fun hd => by
  have hhad : ∀ t, Had [sealA n x m, sigA n x m, hs (7 - y) (rootS n), ofAtom 99] t → t = sealA n x m ∨ t = sigA n x m ∨ (fun t : Tm => t = hs (7 - y) (rootS n) ∨ t = ofAtom 99 ∨ t = ofAtom m) t := fun t ht => by
    refine had_more hn hx hm (X := fun t => t = hs (7 - y) (rootS n) ∨ t = ofAtom 99 ∨ t = ofAtom m) ?_ (.inr (.inr rfl)) ?_ ht
    · rintro t (rfl | rfl | rfl)
      · exact .inl (hs_head _ _)
      · exact .inr rfl
      · exact .inr rfl
    · intro t ht
      rcases List.mem_cons.1 ht with h | ht
      · exact .inl h
      · rcases List.mem_cons.1 ht with h | ht
        · exact .inr (.inl h)
        · rcases List.mem_cons.1 ht with h | ht
          · exact .inr (.inr (.inl h))
          · exact .inr (.inr (.inr (.inl (List.mem_singleton.1 ht))))
  have e1 := pts_one (b := 104) (t := prs signT xT x) (sgn_right (i := x) (by omega)) (.inl rfl)
  rcases tog_iff.1 hd with h | h | ⟨_, h⟩
  · rcases hhad _ h with h | h | h | h | h
    · exact absurd (List.cons.inj h).1 (by decide)
    · have e2 : sgn x ++ ofAtom 99 = sgn x ++ sealA n x m := (List.cons.inj h).2
      have e3 := List.append_cancel_left e2
      exact absurd (List.cons.inj e3).1 (by decide)
    · have := congrArg (List.headD · 0) h; rw [hs_head] at this; exact absurd this (show ¬ (103 : UInt8) = 104 by decide)
    · exact absurd (List.cons.inj h).1 (by decide)
    · exact absurd (List.cons.inj h).1 (by decide)
  · exact absurd h (show ¬ (103 : UInt8) = 116 by decide)
  · have hp : pts (forgeA x) = [sgn x, ofAtom 99] := pts_cut (.inr (.inr (.inr rfl))) (forge_right hx) (sgn_right (by omega))
    refine tog_sech sign_txt e1.2 (sgn_right (i := x) (by omega)) ?_ ?_ ?_ (h (sgn x) (by rw [hp]; simp))
    · intro hS
      rcases hhad _ hS with h | h | h | h | h
      · exact absurd (List.cons.inj h).1 (by decide)
      · exact absurd (List.cons.inj h).1 (by decide)
      · exact sgn_state hn hx _ h
      · exact absurd (List.cons.inj h).1 (by decide)
      · exact absurd (List.cons.inj h).1 (by decide)
    · intro hS
      rcases hhad _ hS with h | h | h | h | h
      · exact absurd (List.cons.inj h).1 (by decide)
      · exact absurd (List.cons.inj h).1 (by decide)
      · have := congrArg (List.headD · 0) h; rw [hs_head] at this; exact absurd this (show ¬ (112 : UInt8) = 104 by decide)
      · exact absurd (List.cons.inj h).1 (by decide)
      · exact absurd (List.cons.inj h).1 (by decide)
    · intro hS
      rcases hhad _ hS with h | h | h | h | h
      · exact absurd (List.cons.inj h).1 (by decide)
      · exact absurd (List.cons.inj h).1 (by decide)
      · have := congrArg (List.headD · 0) h; rw [hs_head] at this; exact absurd this (show ¬ (97 : UInt8) = 104 by decide)
      · have := put_inj1 (a := x) (b := 99) (by omega) (by omega) h
        omega
      · have := put_inj1 (a := x) (b := m) (by omega) hm h
        omega
end Go.Proofs.YtjdignbmlfbdnaaGreat.Dta
