/-
  PLAIN FACTS, OF NO PROGRAM: a secret (layer 5): the hash of a pair of a text and an atom; when two are one, and who can tell one. By an AI agent; no person has read it.
-/
import Derived.Test.YtahlilhdiklemaaDMix
import Derived.Test.YtahlilhdiklemaaClo
import Derived.Test.YtahlilhdiklemaaTPick
namespace Go.Proofs.Ytahlilhdiklemaa.Draw
open Wire Term Clo

/-- The document's secret. -/
def secret (use who : List UInt8) (n : Nat) : List UInt8 × Int :=
  if (ofText (use ++ 58 :: who)).2 ≠ 0 then ([], (ofText (use ++ 58 :: who)).2)
  else if (two 112 (ofText (use ++ 58 :: who)).1 (ofAtom n)).2 ≠ 0 then ([], (two 112 (ofText (use ++ 58 :: who)).1 (ofAtom n)).2)
  else one 104 (two 112 (ofText (use ++ 58 :: who)).1 (ofAtom n)).1
def txt (use who : List UInt8) : List UInt8 := 116 :: putText (use ++ 58 :: who)
def prs (use who : List UInt8) (n : Nat) : List UInt8 := 112 :: (txt use who ++ ofAtom n)
def sech (use who : List UInt8) (n : Nat) : List UInt8 := 104 :: prs use who n
theorem sech_head (use who : List UInt8) (n : Nat) : (sech use who n).headD 0 = 104 := rfl
theorem prs_head (use who : List UInt8) (n : Nat) : (prs use who n).headD 0 = 112 := rfl
theorem atom_head (n : Nat) : (ofAtom n).headD 0 = 97 := rfl
theorem atom_ok {n : Nat} (hn : n < 18446744073709551616) : right (ofAtom n) = true := ofAtom_right hn
theorem made_yes {l : List UInt8} (h : right l = true) : made l = (l, 0) := by unfold made; rw [if_pos h]
theorem made_no {l : List UInt8} (h : ¬ right l = true) : made l = ([], 10) := by unfold made; rw [if_neg h]
theorem secret_ok {use who : List UInt8} {n : Nat} (hn : n < 18446744073709551616) (h1 : right (txt use who) = true) (h2 : right (prs use who n) = true) (h3 : right (sech use who n) = true) : secret use who n = (sech use who n, 0) := by
  have e1 : ofText (use ++ 58 :: who) = (txt use who, 0) := made_yes h1
  have e2 : two 112 (txt use who) (ofAtom n) = (prs use who n, 0) := by unfold two; rw [if_pos ⟨h1, atom_ok hn⟩]; exact made_yes h2
  have e3 : one 104 (prs use who n) = (sech use who n, 0) := by unfold one; rw [if_pos h2]; exact made_yes h3
  unfold secret
  rw [e1, if_neg (by simp), e2, if_neg (by simp), e3]
theorem secret_no {use who : List UInt8} {n : Nat} (hn : n < 18446744073709551616) (h : ¬ (right (txt use who) = true ∧ right (prs use who n) = true ∧ right (sech use who n) = true)) : secret use who n = ([], 10) := by
  unfold secret
  by_cases h1 : right (txt use who) = true
  · have e1 : ofText (use ++ 58 :: who) = (txt use who, 0) := made_yes h1
    rw [e1, if_neg (by simp)]
    by_cases h2 : right (prs use who n) = true
    · have e2 : two 112 (txt use who) (ofAtom n) = (prs use who n, 0) := by unfold two; rw [if_pos ⟨h1, atom_ok hn⟩]; exact made_yes h2
      rw [e2, if_neg (by simp)]
      unfold one
      rw [if_pos h2]
      exact made_no (fun h3 => h ⟨h1, h2, h3⟩)
    · have e2 : two 112 (txt use who) (ofAtom n) = ([], 10) := by unfold two; rw [if_pos ⟨h1, atom_ok hn⟩]; exact made_no h2
      rw [e2, if_pos (by simp)]
  · have e1 : ofText (use ++ 58 :: who) = ([], 10) := made_no h1
    rw [e1, if_pos (by simp)]
theorem secret_cases {use who : List UInt8} {n : Nat} (hn : n < 18446744073709551616) :
    (secret use who n = (sech use who n, 0) ∧ right (txt use who) = true ∧ right (prs use who n) = true ∧ right (sech use who n) = true) ∨ (secret use who n = ([], 10) ∧ ¬ (right (txt use who) = true ∧ right (prs use who n) = true ∧ right (sech use who n) = true)) := by
  by_cases h : right (txt use who) = true ∧ right (prs use who n) = true ∧ right (sech use who n) = true
  · exact .inl ⟨secret_ok hn h.1 h.2.1 h.2.2, h⟩
  · exact .inr ⟨secret_no hn h, h⟩
theorem colon_cut : ∀ {a b c d : List UInt8}, 58 ∉ a → 58 ∉ c → a ++ 58 :: b = c ++ 58 :: d → a = c ∧ b = d
  | [], b, [], d, _, _, h => ⟨rfl, (List.cons.inj h).2⟩
  | [], b, y :: c, d, _, hc, h => by
    have := (List.cons.inj h).1
    exact absurd (by rw [← this]; simp) hc
  | x :: a, b, [], d, ha, _, h => by
    have := (List.cons.inj h).1
    exact absurd (by rw [this]; simp) ha
  | x :: a, b, y :: c, d, ha, hc, h => by
    obtain ⟨h1, h2⟩ := List.cons.inj h
    obtain ⟨h3, h4⟩ := colon_cut (fun e => ha (List.mem_cons_of_mem _ e)) (fun e => hc (List.mem_cons_of_mem _ e)) h2
    exact ⟨by rw [h1, h3], h4⟩
/-- Two secrets are one just if all is the same. -/
theorem sech_inj {use who use' who' : List UInt8} {n m : Nat} (hn : n < 18446744073709551616) (hm : m < 18446744073709551616) (h1 : right (txt use who) = true) (h2 : right (txt use' who') = true) (hu : 58 ∉ use) (hu' : 58 ∉ use')
    (hl : (use ++ 58 :: who).length < 18446744073709551616) (hl' : (use' ++ 58 :: who').length < 18446744073709551616) (h : sech use who n = sech use' who' m) : use = use' ∧ who = who' ∧ n = m := by
  have e1 := (List.cons.inj (List.cons.inj h).2).2
  obtain ⟨e2, e3⟩ := right_cut h1 h2 e1
  have e4 : putText (use ++ 58 :: who) = putText (use' ++ 58 :: who') := (List.cons.inj e2).2
  have e5 : use ++ 58 :: who = use' ++ 58 :: who' := (put_inj hl hl' e4).2
  obtain ⟨a, b⟩ := colon_cut hu hu' e5
  exact ⟨a, b, (put_inj hn hm (r := []) (q := []) (by rw [List.append_nil, List.append_nil]; exact (List.cons.inj e3).2)).1⟩
/-- Of terms that give nothing nothing more is had. -/
theorem had_still {held : List (List UInt8)} (h : ∀ x ∈ held, x.headD 0 = 104 ∨ x.headD 0 = 117 ∨ x.headD 0 = 97) (x : List UInt8) : Had held x ↔ x ∈ held := by
  refine ⟨fun hx => hx (fun x => x ∈ held) (fun _ h => h) ?_, had_held⟩
  intro t x ht hg
  rcases h t ht with h1 | h1 | h1 <;> rcases hg with ⟨h2, _⟩ | ⟨h2, _⟩ | ⟨h2, _⟩ | ⟨h2, _⟩ <;> (rw [h1] at h2; exact absurd h2 (by decide))
theorem pts_prs {use who : List UInt8} {n : Nat} (h1 : right (txt use who) = true) (h2 : right (prs use who n) = true) : pts (prs use who n) = [txt use who, ofAtom n] := by
  obtain ⟨x, y, e, hp, hx, _, _⟩ := pts_two h2 (.inl rfl)
  obtain ⟨a, b⟩ := right_cut h1 hx e
  unfold prs
  rw [hp, a, b]
/-- None can be told without its atom .. -/
theorem der_not {use who : List UInt8} {n : Nat} {u t : List UInt8} (h1 : right (txt use who) = true) (h2 : right (prs use who n) = true) (h3 : right (sech use who n) = true) (hu : u.headD 0 = 117) (ht : t.headD 0 = 104) : Der [u, t] (sech use who n) ↔ sech use who n = t := by
  have hs : ∀ x ∈ [u, t], x.headD 0 = 104 ∨ x.headD 0 = 117 ∨ x.headD 0 = 97 := fun x hx => by
    have : x = u ∨ x = t := by simpa using hx
    rcases this with rfl | rfl
    · exact .inr (.inl hu)
    · exact .inl ht
  constructor
  · intro hd
    rcases tog_iff.1 hd with h | h | ⟨_, h⟩
    · have := (had_still hs _).1 h
      have : sech use who n = u ∨ sech use who n = t := by simpa using this
      rcases this with e | e
      · rw [← e, sech_head] at hu; exact absurd hu (by decide)
      · exact e
    · rw [sech_head] at h; exact absurd h (by decide)
    · have e1 := (pts_one h3 (.inl rfl)).1
      have h4 := h (prs use who n) (by unfold sech; rw [e1]; simp)
      rcases tog_iff.1 h4 with h | h | ⟨_, h⟩
      · have := (had_still hs _).1 h
        have : prs use who n = u ∨ prs use who n = t := by simpa using this
        rcases this with e | e
        · rw [← e, prs_head] at hu; exact absurd hu (by decide)
        · rw [← e, prs_head] at ht; exact absurd ht (by decide)
      · rw [prs_head] at h; exact absurd h (by decide)
      · have h5 := h (ofAtom n) (by rw [pts_prs h1 h2]; simp)
        rcases tog_iff.1 h5 with h | h | ⟨h, _⟩
        · have := (had_still hs _).1 h
          have : ofAtom n = u ∨ ofAtom n = t := by simpa using this
          rcases this with e | e
          · rw [← e, atom_head] at hu; exact absurd hu (by decide)
          · rw [← e, atom_head] at ht; exact absurd ht (by decide)
        · rw [atom_head] at h; exact absurd h (by decide)
        · exact absurd rfl h
  · intro e
    exact der_held (by rw [e]; simp)
/-- .. and with it each can. -/
theorem der_atom {use who : List UInt8} {n : Nat} (h1 : right (txt use who) = true) (h2 : right (prs use who n) = true) (h3 : right (sech use who n) = true) : Der [ofAtom n] (sech use who n) := by
  have e1 := (pts_one h3 (.inl rfl)).1
  refine der_parts (by rw [sech_head]; decide) fun q hq => ?_
  have : q = prs use who n := by unfold sech at hq; rw [e1] at hq; simpa using hq
  rw [this]
  refine der_parts (by rw [prs_head]; decide) fun r hr => ?_
  rw [pts_prs h1 h2] at hr
  have : r = txt use who ∨ r = ofAtom n := by simpa using hr
  rcases this with rfl | rfl
  · exact tog_iff.2 (.inr (.inl rfl))
  · exact der_held (by simp)
end Go.Proofs.Ytahlilhdiklemaa.Draw
