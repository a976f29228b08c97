/-
  One text of several, in their order: DMix, DPure, DSmall, DRef, DSpec, DSec, DCode. By an AI agent; no person has read it.
-/
import Derived.Test.YtjoldkhfkobahaaB2
import Derived.Test.YtjoldkhfkobahaaB3
import Derived.Laws.Bits64
import Derived.Deep.QuietTactic
import Derived.BigQuiet
/-
  PLAIN FACTS, OF NO PROGRAM: a number that is mixed (layer 5): the document's steps as arithmetic, and that no two numbers are mixed to the same. By an AI agent; no person has read it.
-/
namespace Go.Proofs.Ytjoldkhfkobahaa.Draw
open Wire Term

/-- A number that is mixed. -/
def mixA (n : Nat) : Nat := (n + 11400714819323198485) % 18446744073709551616
def mixB (a : Nat) : Nat := (a ^^^ a / 1073741824) * 13787848793156543929 % 18446744073709551616
def mixC (b : Nat) : Nat := (b ^^^ b / 134217728) * 10723151780598845931 % 18446744073709551616
def mixD (c : Nat) : Nat := c ^^^ c / 2147483648
def mix (n : Nat) : Nat := mixD (mixC (mixB (mixA n)))
theorem mixA_lt (n : Nat) : mixA n < 18446744073709551616 := Nat.mod_lt _ (by decide)
theorem mixB_lt (n : Nat) : mixB n < 18446744073709551616 := Nat.mod_lt _ (by decide)
theorem mixC_lt (n : Nat) : mixC n < 18446744073709551616 := Nat.mod_lt _ (by decide)
theorem xs_lt {x k : Nat} (h : x < 18446744073709551616) : x ^^^ x / k < 18446744073709551616 :=
  Nat.xor_lt_two_pow (n := 64) h (Nat.lt_of_le_of_lt (Nat.div_le_self _ _) h)
theorem mix_lt (n : Nat) : mix n < 18446744073709551616 := xs_lt (mixC_lt _)
theorem mix_zero : mix 0 = 16294208416658607535 := by decide
/-- A number with itself, moved down, in it: told again from the top. -/
theorem xs_inj {k : Nat} (hk : 0 < k) {x y : Nat} (hx : x < 18446744073709551616) (hy : y < 18446744073709551616) (h : x ^^^ x / 2 ^ k = y ^^^ y / 2 ^ k) : x = y := by
  have key : ∀ d i : Nat, 64 ≤ i + d → x.testBit i = y.testBit i := by
    intro d
    induction d with
    | zero =>
      intro i hi
      rw [Nat.testBit_lt_two_pow (Nat.lt_of_lt_of_le hx (Nat.pow_le_pow_right (show 2 > 0 by decide) (show 64 ≤ i by omega))), Nat.testBit_lt_two_pow (Nat.lt_of_lt_of_le hy (Nat.pow_le_pow_right (show 2 > 0 by decide) (show 64 ≤ i by omega)))]
    | succ d ih =>
      intro i hi
      have h1 := congrArg (fun n => Nat.testBit n i) h
      simp only [Nat.testBit_xor, Nat.testBit_div_two_pow] at h1
      have h2 := ih (i + k) (by omega)
      rw [h2] at h1
      revert h1
      cases x.testBit i <;> cases y.testBit i <;> cases y.testBit (i + k) <;> simp
  exact Nat.eq_of_testBit_eq fun i => key 64 i (by omega)
theorem mul_inj {c d : Nat} (hc : c * d % 18446744073709551616 = 1) {x y : Nat} (hx : x < 18446744073709551616) (hy : y < 18446744073709551616) (h : x * c % 18446744073709551616 = y * c % 18446744073709551616) : x = y := by
  have key : ∀ z, z < 18446744073709551616 → z * c % 18446744073709551616 * d % 18446744073709551616 = z := fun z hz => by
    rw [Nat.mod_mul_mod, Nat.mul_assoc, ← Nat.mul_mod_mod, hc, Nat.mul_one, Nat.mod_eq_of_lt hz]
  rw [← key x hx, h, key y hy]
theorem mix_inj {x y : Nat} (hx : x < 18446744073709551616) (hy : y < 18446744073709551616) (h : mix x = mix y) : x = y := by
  have h1 : mixC (mixB (mixA x)) = mixC (mixB (mixA y)) := xs_inj (k := 31) (by decide) (mixC_lt _) (mixC_lt _) h
  have h2 : mixB (mixA x) = mixB (mixA y) := xs_inj (k := 27) (by decide) (mixB_lt _) (mixB_lt _) (mul_inj (d := 3573116690164977347) (by decide) (xs_lt (mixB_lt _)) (xs_lt (mixB_lt _)) h1)
  have h3 : mixA x = mixA y := xs_inj (k := 30) (by decide) (mixA_lt _) (mixA_lt _) (mul_inj (d := 10871156337175269513) (by decide) (xs_lt (mixA_lt _)) (xs_lt (mixA_lt _)) h2)
  unfold mixA at h3
  omega
/-- The draw of a seed with i ahead of it. -/
def draw (seed i : Nat) : Nat := mix ((seed + i * 11400714819323198485) % 18446744073709551616)
theorem mix_mod (n : Nat) : mix (n % 18446744073709551616) = mix n := by
  unfold mix mixA
  rw [Nat.mod_add_mod]
theorem draw_first {seed : Nat} : draw seed 0 = mix seed := by unfold draw; rw [Nat.zero_mul, Nat.add_zero, mix_mod]
end Go.Proofs.Ytjoldkhfkobahaa.Draw

/-
  PLAIN FACTS, OF NO PROGRAM: a secret (layer 5): the hash of a pair of a text and an atom; when two are one, and who can tell one. By an AI agent; no person has read it.
-/
namespace Go.Proofs.Ytjoldkhfkobahaa.Draw
open Wire Term Clo

/-- The document's secret. -/
def secret (use who : List UInt8) (n : Nat) : List UInt8 × Int :=
  if (ofText (use ++ 58 :: who)).2 ≠ 0 then ([], (ofText (use ++ 58 :: who)).2)
  else if (two 112 (ofText (use ++ 58 :: who)).1 (ofAtom n)).2 ≠ 0 then ([], (two 112 (ofText (use ++ 58 :: who)).1 (ofAtom n)).2)
  else one 104 (two 112 (ofText (use ++ 58 :: who)).1 (ofAtom n)).1
def txt (use who : List UInt8) : List UInt8 := 116 :: putText (use ++ 58 :: who)
def prs (use who : List UInt8) (n : Nat) : List UInt8 := 112 :: (txt use who ++ ofAtom n)
def sech (use who : List UInt8) (n : Nat) : List UInt8 := 104 :: prs use who n
theorem sech_head (use who : List UInt8) (n : Nat) : (sech use who n).headD 0 = 104 := rfl
theorem prs_head (use who : List UInt8) (n : Nat) : (prs use who n).headD 0 = 112 := rfl
theorem atom_head (n : Nat) : (ofAtom n).headD 0 = 97 := rfl
theorem atom_ok {n : Nat} (hn : n < 18446744073709551616) : right (ofAtom n) = true := ofAtom_right hn
theorem made_yes {l : List UInt8} (h : right l = true) : made l = (l, 0) := by unfold made; rw [if_pos h]
theorem made_no {l : List UInt8} (h : ¬ right l = true) : made l = ([], 10) := by unfold made; rw [if_neg h]
theorem secret_ok {use who : List UInt8} {n : Nat} (hn : n < 18446744073709551616) (h1 : right (txt use who) = true) (h2 : right (prs use who n) = true) (h3 : right (sech use who n) = true) : secret use who n = (sech use who n, 0) := by
  have e1 : ofText (use ++ 58 :: who) = (txt use who, 0) := made_yes h1
  have e2 : two 112 (txt use who) (ofAtom n) = (prs use who n, 0) := by unfold two; rw [if_pos ⟨h1, atom_ok hn⟩]; exact made_yes h2
  have e3 : one 104 (prs use who n) = (sech use who n, 0) := by unfold one; rw [if_pos h2]; exact made_yes h3
  unfold secret
  rw [e1, if_neg (by simp), e2, if_neg (by simp), e3]
theorem secret_no {use who : List UInt8} {n : Nat} (hn : n < 18446744073709551616) (h : ¬ (right (txt use who) = true ∧ right (prs use who n) = true ∧ right (sech use who n) = true)) : secret use who n = ([], 10) := by
  unfold secret
  by_cases h1 : right (txt use who) = true
  · have e1 : ofText (use ++ 58 :: who) = (txt use who, 0) := made_yes h1
    rw [e1, if_neg (by simp)]
    by_cases h2 : right (prs use who n) = true
    · have e2 : two 112 (txt use who) (ofAtom n) = (prs use who n, 0) := by unfold two; rw [if_pos ⟨h1, atom_ok hn⟩]; exact made_yes h2
      rw [e2, if_neg (by simp)]
      unfold one
      rw [if_pos h2]
      exact made_no (fun h3 => h ⟨h1, h2, h3⟩)
    · have e2 : two 112 (txt use who) (ofAtom n) = ([], 10) := by unfold two; rw [if_pos ⟨h1, atom_ok hn⟩]; exact made_no h2
      rw [e2, if_pos (by simp)]
  · have e1 : ofText (use ++ 58 :: who) = ([], 10) := made_no h1
    rw [e1, if_pos (by simp)]
theorem secret_cases {use who : List UInt8} {n : Nat} (hn : n < 18446744073709551616) :
    (secret use who n = (sech use who n, 0) ∧ right (txt use who) = true ∧ right (prs use who n) = true ∧ right (sech use who n) = true) ∨ (secret use who n = ([], 10) ∧ ¬ (right (txt use who) = true ∧ right (prs use who n) = true ∧ right (sech use who n) = true)) := by
  by_cases h : right (txt use who) = true ∧ right (prs use who n) = true ∧ right (sech use who n) = true
  · exact .inl ⟨secret_ok hn h.1 h.2.1 h.2.2, h⟩
  · exact .inr ⟨secret_no hn h, h⟩
theorem colon_cut : ∀ {a b c d : List UInt8}, 58 ∉ a → 58 ∉ c → a ++ 58 :: b = c ++ 58 :: d → a = c ∧ b = d
  | [], b, [], d, _, _, h => ⟨rfl, (List.cons.inj h).2⟩
  | [], b, y :: c, d, _, hc, h => by
    have := (List.cons.inj h).1
    exact absurd (by rw [← this]; simp) hc
  | x :: a, b, [], d, ha, _, h => by
    have := (List.cons.inj h).1
    exact absurd (by rw [this]; simp) ha
  | x :: a, b, y :: c, d, ha, hc, h => by
    obtain ⟨h1, h2⟩ := List.cons.inj h
    obtain ⟨h3, h4⟩ := colon_cut (fun e => ha (List.mem_cons_of_mem _ e)) (fun e => hc (List.mem_cons_of_mem _ e)) h2
    exact ⟨by rw [h1, h3], h4⟩
/-- Two secrets are one just if all is the same. -/
theorem sech_inj {use who use' who' : List UInt8} {n m : Nat} (hn : n < 18446744073709551616) (hm : m < 18446744073709551616) (h1 : right (txt use who) = true) (h2 : right (txt use' who') = true) (hu : 58 ∉ use) (hu' : 58 ∉ use')
    (hl : (use ++ 58 :: who).length < 18446744073709551616) (hl' : (use' ++ 58 :: who').length < 18446744073709551616) (h : sech use who n = sech use' who' m) : use = use' ∧ who = who' ∧ n = m := by
  have e1 := (List.cons.inj (List.cons.inj h).2).2
  obtain ⟨e2, e3⟩ := right_cut h1 h2 e1
  have e4 : putText (use ++ 58 :: who) = putText (use' ++ 58 :: who') := (List.cons.inj e2).2
  have e5 : use ++ 58 :: who = use' ++ 58 :: who' := (put_inj hl hl' e4).2
  obtain ⟨a, b⟩ := colon_cut hu hu' e5
  exact ⟨a, b, (put_inj hn hm (r := []) (q := []) (by rw [List.append_nil, List.append_nil]; exact (List.cons.inj e3).2)).1⟩
/-- Of terms that give nothing nothing more is had. -/
theorem had_still {held : List (List UInt8)} (h : ∀ x ∈ held, x.headD 0 = 104 ∨ x.headD 0 = 117 ∨ x.headD 0 = 97) (x : List UInt8) : Had held x ↔ x ∈ held := by
  refine ⟨fun hx => hx (fun x => x ∈ held) (fun _ h => h) ?_, had_held⟩
  intro t x ht hg
  rcases h t ht with h1 | h1 | h1 <;> rcases hg with ⟨h2, _⟩ | ⟨h2, _⟩ | ⟨h2, _⟩ | ⟨h2, _⟩ <;> (rw [h1] at h2; exact absurd h2 (by decide))
theorem pts_prs {use who : List UInt8} {n : Nat} (h1 : right (txt use who) = true) (h2 : right (prs use who n) = true) : pts (prs use who n) = [txt use who, ofAtom n] := by
  obtain ⟨x, y, e, hp, hx, _, _⟩ := pts_two h2 (.inl rfl)
  obtain ⟨a, b⟩ := right_cut h1 hx e
  unfold prs
  rw [hp, a, b]
/-- None can be told without its atom .. -/
theorem der_not {use who : List UInt8} {n : Nat} {u t : List UInt8} (h1 : right (txt use who) = true) (h2 : right (prs use who n) = true) (h3 : right (sech use who n) = true) (hu : u.headD 0 = 117) (ht : t.headD 0 = 104) : Der [u, t] (sech use who n) ↔ sech use who n = t := by
  have hs : ∀ x ∈ [u, t], x.headD 0 = 104 ∨ x.headD 0 = 117 ∨ x.headD 0 = 97 := fun x hx => by
    have : x = u ∨ x = t := by simpa using hx
    rcases this with rfl | rfl
    · exact .inr (.inl hu)
    · exact .inl ht
  constructor
  · intro hd
    rcases tog_iff.1 hd with h | h | ⟨_, h⟩
    · have := (had_still hs _).1 h
      have : sech use who n = u ∨ sech use who n = t := by simpa using this
      rcases this with e | e
      · rw [← e, sech_head] at hu; exact absurd hu (by decide)
      · exact e
    · rw [sech_head] at h; exact absurd h (by decide)
    · have e1 := (pts_one h3 (.inl rfl)).1
      have h4 := h (prs use who n) (by unfold sech; rw [e1]; simp)
      rcases tog_iff.1 h4 with h | h | ⟨_, h⟩
      · have := (had_still hs _).1 h
        have : prs use who n = u ∨ prs use who n = t := by simpa using this
        rcases this with e | e
        · rw [← e, prs_head] at hu; exact absurd hu (by decide)
        · rw [← e, prs_head] at ht; exact absurd ht (by decide)
      · rw [prs_head] at h; exact absurd h (by decide)
      · have h5 := h (ofAtom n) (by rw [pts_prs h1 h2]; simp)
        rcases tog_iff.1 h5 with h | h | ⟨h, _⟩
        · have := (had_still hs _).1 h
          have : ofAtom n = u ∨ ofAtom n = t := by simpa using this
          rcases this with e | e
          · rw [← e, atom_head] at hu; exact absurd hu (by decide)
          · rw [← e, atom_head] at ht; exact absurd ht (by decide)
        · rw [atom_head] at h; exact absurd h (by decide)
        · exact absurd rfl h
  · intro e
    exact der_held (by rw [e]; simp)
/-- .. and with it each can. -/
theorem der_atom {use who : List UInt8} {n : Nat} (h1 : right (txt use who) = true) (h2 : right (prs use who n) = true) (h3 : right (sech use who n) = true) : Der [ofAtom n] (sech use who n) := by
  have e1 := (pts_one h3 (.inl rfl)).1
  refine der_parts (by rw [sech_head]; decide) fun q hq => ?_
  have : q = prs use who n := by unfold sech at hq; rw [e1] at hq; simpa using hq
  rw [this]
  refine der_parts (by rw [prs_head]; decide) fun r hr => ?_
  rw [pts_prs h1 h2] at hr
  have : r = txt use who ∨ r = ofAtom n := by simpa using hr
  rcases this with rfl | rfl
  · exact tog_iff.2 (.inr (.inl rfl))
  · exact der_held (by simp)
end Go.Proofs.Ytjoldkhfkobahaa.Draw

/-
  PLAIN FACTS, OF NO PROGRAM: a secret of short texts is one, and its public one is a term. By an AI agent; no person has read it.
-/
namespace Go.Proofs.Ytjoldkhfkobahaa.Draw
open Wire Term Clo

theorem size_txt (d : Nat) {use who : List UInt8} (h : (use ++ 58 :: who).length ≤ 3000) : size (d + 1) (txt use who) = (txt use who).length := by
  have h1 := put_le (n := (use ++ 58 :: who).length) (by omega)
  unfold txt
  generalize use ++ 58 :: who = s at h h1
  show up (body (size d) 116 (putText s)) = _
  have h2 : body (size d) 116 (putText s) = some (putText s).length := by
    have h3 := text_put (t := s) (by omega) [] 4000 (by omega)
    rw [List.append_nil] at h3
    show leaf 116 (putText s) = _
    unfold leaf
    rw [if_neg (by decide), h3]
    simp
  rw [h2]
  simp only [up, List.length_cons]; omega
theorem size_atom (d : Nat) {n : Nat} (hn : n < 18446744073709551616) : size (d + 1) (ofAtom n) = (ofAtom n).length := by
  show up (body (size d) 97 (put n)) = _
  have h2 : body (size d) 97 (put n) = some (put n).length := by
    have h3 := take_put hn []
    rw [List.append_nil] at h3
    show leaf 97 (put n) = _
    unfold leaf
    rw [if_pos rfl, h3]
    simp
  rw [h2]
  simp only [up, ofAtom, List.length_cons]; omega
theorem size_pair {d : Nat} {a b : List UInt8} (ha : size d a = a.length) (ha0 : a ≠ []) (hb : size d b = b.length) (hb0 : b ≠ []) : size (d + 1) (112 :: (a ++ b)) = (112 :: (a ++ b)).length := by
  have hal : a.length ≠ 0 := fun h => ha0 (List.eq_nil_of_length_eq_zero h)
  have hbl : b.length ≠ 0 := fun h => hb0 (List.eq_nil_of_length_eq_zero h)
  show up (body (size d) 112 (a ++ b)) = _
  have h1 : body (size d) 112 (a ++ b) = sizes (size d) 2 (a ++ b) := by
    show (if (112 : UInt8) = 98 ∧ (a ++ b).head? ≠ some 117 then none else sizes (size d) 2 (a ++ b)) = _
    rw [if_neg (fun h => absurd h.1 (by decide))]
  have h2 : size d (a ++ b) = a.length := by
    have := size_ext d a b (by rw [ha]; exact hal)
    rw [ha, List.take_length] at this
    exact this
  have h3 : sizes (size d) 1 b = some b.length := by
    unfold sizes
    rw [hb, if_neg hbl]
    unfold sizes
    rfl
  have h4 : sizes (size d) 2 (a ++ b) = some (a.length + b.length) := by
    unfold sizes
    rw [h2, if_neg hal, List.drop_left, h3]
    rfl
  rw [h1, h4]
  simp only [up, List.length_cons, List.length_append]; omega
theorem size_one {d : Nat} {k : UInt8} {a : List UInt8} (hk : k = 104 ∨ k = 117) (ha : size d a = a.length) (ha0 : a ≠ []) : size (d + 1) (k :: a) = (k :: a).length := by
  have hal : a.length ≠ 0 := fun h => ha0 (List.eq_nil_of_length_eq_zero h)
  have hk1 : arity k = some 1 := by rcases hk with rfl | rfl <;> rfl
  have hk2 : k ≠ 98 := by rcases hk with rfl | rfl <;> decide
  show up (body (size d) k a) = _
  have h1 : body (size d) k a = sizes (size d) 1 a := by
    unfold body
    rw [hk1]
    show (if k = 98 ∧ a.head? ≠ some 117 then none else sizes (size d) 1 a) = _
    rw [if_neg (fun h => absurd h.1 hk2)]
  have h2 : sizes (size d) 1 a = some a.length := by
    unfold sizes
    rw [ha, if_neg hal]
    unfold sizes
    rfl
  rw [h1, h2]
  simp only [up, List.length_cons]; omega
/-- A secret of short texts. -/
theorem secret_small {use who : List UInt8} {n : Nat} (h : use.length + who.length ≤ 1000) (hn : n < 18446744073709551616) :
    right (txt use who) = true ∧ right (prs use who n) = true ∧ right (sech use who n) = true ∧ right (117 :: sech use who n) = true := by
  have hl : (use ++ 58 :: who).length ≤ 1001 := by rw [List.length_append, List.length_cons]; omega
  have h1 := (put_le (n := (use ++ 58 :: who).length) (by omega)).2
  have h2 := (put_le hn).2
  have ht : (txt use who).length ≤ 1020 := by unfold txt; rw [List.length_cons, putText_len]; omega
  have ha : (ofAtom n).length ≤ 20 := by unfold ofAtom; rw [List.length_cons]; omega
  have hp : (prs use who n).length ≤ 1041 := by unfold prs; rw [List.length_cons, List.length_append]; omega
  have hs : (sech use who n).length ≤ 1042 := by unfold sech; rw [List.length_cons]; omega
  have t1 := fun d => size_txt d (use := use) (who := who) (by omega)
  have a1 := fun d => size_atom d hn
  have tn : txt use who ≠ [] := by unfold txt; exact List.cons_ne_nil _ _
  have an : ofAtom n ≠ [] := by unfold ofAtom; exact List.cons_ne_nil _ _
  have p1 : ∀ d, size (d + 2) (prs use who n) = (prs use who n).length := fun d => size_pair (t1 d) tn (a1 d) an
  have pn : prs use who n ≠ [] := List.cons_ne_nil _ _
  have s1 : ∀ d, size (d + 3) (sech use who n) = (sech use who n).length := fun d => size_one (.inl rfl) (p1 d) pn
  have sn : sech use who n ≠ [] := List.cons_ne_nil _ _
  exact ⟨right_iff.2 ⟨tn, by omega, t1 39⟩, right_iff.2 ⟨pn, by omega, p1 38⟩, right_iff.2 ⟨sn, by omega, s1 37⟩, right_iff.2 ⟨List.cons_ne_nil _ _, by rw [List.length_cons]; omega, size_one (.inr rfl) (s1 36) sn⟩⟩
end Go.Proofs.Ytjoldkhfkobahaa.Draw

/-
  CONTRACTS of the document's Mix, Draw, Secret (letterlockref5) at this program. By an AI agent; no person has read it.
-/
namespace Go.Proofs.Ytjoldkhfkobahaa.Draw
open Go.RowKit Wire Term Clo

theorem mixA_eq {n : Nat} : IntKind.u64.wrap ((n : Int) + 11400714819323198485) = ((mixA n : Nat) : Int) := by
  rw [IntKind.wrap_u64]; unfold mixA; omega
theorem mixB_eq {a : Nat} (ha : a < 18446744073709551616) : IntKind.u64.wrap (bits .xor .u64 (a : Int) ((a : Int) / 1073741824) * 13787848793156543929) = ((mixB a : Nat) : Int) := mixStep_u64 a 1073741824 13787848793156543929 ha
theorem mixC_eq {a : Nat} (ha : a < 18446744073709551616) : IntKind.u64.wrap (bits .xor .u64 (a : Int) ((a : Int) / 134217728) * 10723151780598845931) = ((mixC a : Nat) : Int) := mixStep_u64 a 134217728 10723151780598845931 ha
theorem mixD_eq {a : Nat} (ha : a < 18446744073709551616) : bits .xor .u64 (a : Int) ((a : Int) / 2147483648) = ((mixD a : Nat) : Int) := xorShift_u64 a 2147483648 ha
theorem draw_eq {s i : Nat} : IntKind.u64.wrap ((s : Int) + IntKind.u64.wrap ((i : Int) * 11400714819323198485)) = (((s + i * 11400714819323198485) % 18446744073709551616 : Nat) : Int) := by
  rw [IntKind.wrap_u64, IntKind.wrap_u64]; omega
end Go.Proofs.Ytjoldkhfkobahaa.Draw

/-
  WHAT THE CODE OF package draw IS HELD TO, as propositions that the laws' walks take: Mix, Secret, and draws of a seed behind a pointer, whatever they are made of. By an AI agent; no person has read it.
-/
namespace Go.Proofs.Ytjoldkhfkobahaa.Draw
open Go.RowKit Wire Term Clo

/-- In this world, behind this address: draws of a seed, so many drawn, that lie in blocks X. -/
abbrev DPred := World → Addr → (Nat → Prop) → Nat → Nat → Prop
/-- Of what was there blocks X alone may have turned. -/
structure Fr (X : Nat → Prop) (w w' : World) : Prop where
  os : w'.os = w.os
  tape : w'.tape = w.tape
  output : w'.output = w.output
  size : w.heap.size ≤ w'.heap.size
  block : ∀ b, b < w.heap.size → ¬ X b → w'.heap[b]? = w.heap[b]?
theorem Fr.below {X : Nat → Prop} {w0 w w' : World} (h : Fr X w w') (hb : Below w0.heap.size w0 w) (hX : ∀ b, X b → w0.heap.size ≤ b) : Below w0.heap.size w0 w' :=
  ⟨h.os.trans hb.os, h.tape.trans hb.tape, h.output.trans hb.output, Nat.le_trans hb.size h.size, fun b hlt => (h.block b (Nat.lt_of_lt_of_le hlt hb.size) fun hx => by have := hX b hx; omega).trans (hb.block b hlt)⟩
def SecretOK : Prop := ∀ (use who : ByteArray) (n : Nat) (w : World), use.size ≤ 140737488300000 → who.size ≤ 140737488300000 → use.size + who.size ≤ 140737488300000 → n < 18446744073709551616 →
  Calls Try.prog 17 #[.string use, .string who, .int .u64 (n : Int)] w fun e w' => Sr (secret use.data.toList who.data.toList n) e ∧ Below w.heap.size w w'
/-! ### several draws side by side -/
/-- Draws, each behind its address, of its seed, so many drawn; each in blocks of its own, none below base. -/
def Fam (D : DPred) (base : Nat) (w : World) (l : List (Addr × Nat × Nat)) : Prop :=
  ∃ Xs : Nat → Nat → Prop, (∀ i t, l[i]? = some t → D w t.1 (Xs i) t.2.1 t.2.2 ∧ ∀ b, Xs i b → base ≤ b) ∧ ∀ i j, i < l.length → j < l.length → i ≠ j → ∀ b, Xs i b → ¬ Xs j b
theorem fam_nil (D : DPred) (base : Nat) (w : World) : Fam D base w [] := ⟨fun _ _ => False, fun i t h => by simp at h, fun i j hi => absurd hi (Nat.not_lt_zero _)⟩
section
variable {D : DPred} {base : Nat} {w : World} {l : List (Addr × Nat × Nat)}
end
end Go.Proofs.Ytjoldkhfkobahaa.Draw

/-
  CONTRACT of the document's Secret (letterlockref5) at this program; the law DrawSecret, walked over what the code is held to. By an AI agent; no person has read it.
-/
namespace Go.Proofs.Ytjoldkhfkobahaa.Draw
open Go.RowKit Wire Term Clo

theorem made_len (l : List UInt8) : (made l).1.length ≤ 4000 := by
  unfold made
  split
  · exact (right_len (by assumption)).2
  · exact Nat.zero_le _
theorem two_len (k : UInt8) (a b : List UInt8) : (two k a b).1.length ≤ 4000 := by
  unfold two
  split
  · exact made_len _
  · exact Nat.zero_le _
theorem ofText_eq (use who : List UInt8) : ofText (use ++ 58 :: who) = made (txt use who) := rfl
theorem one_eq {use who : List UInt8} {n : Nat} (h2 : right (prs use who n) = true) : one 104 (prs use who n) = made (sech use who n) := by unfold one; rw [if_pos h2]; rfl
theorem two_eq {use who : List UInt8} {n : Nat} (hn : n < 18446744073709551616) (h1 : right (txt use who) = true) : two 112 (txt use who) (ofAtom n) = made (prs use who n) := by unfold two; rw [if_pos ⟨h1, atom_ok hn⟩]; rfl
/-- A secret's text: use, colon, whose. -/
theorem colon_text (use who : ByteArray) {UC X : ByteArray} (h1 : use ++ (ByteArray.mk #[58]) = UC) (h2 : UC ++ who = X) : X.data.toList = use.data.toList ++ 58 :: who.data.toList ∧ UC.size = use.size + 1 ∧ X.size = use.size + who.size + 1 := by
  have e1 : UC.data.toList = use.data.toList ++ [58] := by rw [← h1, app_data]
  have e2 : X.data.toList = use.data.toList ++ 58 :: who.data.toList := by rw [← h2, app_data, e1, List.append_assoc]; rfl
  refine ⟨e2, ?_, ?_⟩
  · rw [Lib.size_eq UC, e1, List.length_append, Lib.size_eq use]; rfl
  · rw [Lib.size_eq X, e2, List.length_append, List.length_cons, Lib.size_eq use, Lib.size_eq who]; omega
end Go.Proofs.Ytjoldkhfkobahaa.Draw

/-
  THE CODE's Mix, Secret, New, Next, Many (package draw: draws that come from a closure in a field) are as DSpec asks. By an AI agent; no person has read it.
-/
namespace Go.Proofs.Ytjoldkhfkobahaa.Draw
open Go.RowKit Wire Term Clo

theorem two_setCell {w : World} {b : Nat} {v0 v1 u : Value} {t : TypeId} (h : w.heap[b]? = some (.cells #[v0, v1] t)) : (w.setCell ⟨b, 1, none⟩ u).heap[b]? = some (.cells #[v0, u] t) := by
  have hlt := (Array.getElem?_eq_some_iff.1 h).1
  have h' : w.heap[b] = .cells #[v0, v1] t := by simpa [Array.getElem?_eq_getElem hlt] using h
  show (w.heap.modify b _)[b]? = _
  rw [Array.getElem?_eq_getElem (by simpa using hlt), Array.getElem_modify_self, h']
  rfl
theorem fr_setCell {w : World} {X : Nat → Prop} {b j : Nat} {u : Value} (n : Nat) (hX : X b) : Fr X w ((w.drewN n).setCell ⟨b, j, none⟩ u) :=
  have hb := Below.setCell (Below.drewN' (Below.refl 0 w) n) (p := ⟨b, j, none⟩) (Nat.zero_le _) u
  ⟨hb.os, hb.tape, hb.output, hb.size, fun c _ hc => (Below.heap_setCell (w.drewN n) ⟨b, j, none⟩ u c (fun e => hc (by rw [e]; exact hX)))⟩
set_option maxHeartbeats 4000000 in
set_option maxRecDepth 1000000 in
theorem secret_any (use who : ByteArray) (n : Nat) (w : World) (hu : use.size ≤ 140737488300000) (hw : who.size ≤ 140737488300000) (huw : use.size + who.size ≤ 140737488300000) (hn : n < 18446744073709551616) :
    Calls Try.prog 17 #[.string use, .string who, .int .u64 (n : Int)] w fun e w' => Sr (secret use.data.toList who.data.toList n) e ∧ Below w.heap.size w w' := by
  by_cases hl : (use.size : Int) + (who.size : Int) ≤ 4000
  case neg =>
    have hno : ¬ right (txt use.data.toList who.data.toList) = true := fun h => by
      have h1 := (right_len h).2
      have h2 : (txt use.data.toList who.data.toList).length = 1 + (putText (use.data.toList ++ 58 :: who.data.toList)).length := by unfold txt; rw [List.length_cons]; omega
      rw [putText_len, List.length_append, List.length_cons, ← Lib.size_eq, ← Lib.size_eq] at h2
      omega
    rw [secret_no hn (fun h => hno h.1)]
    clear hno hn
    go_enter Try.func17, Try.ntmps17
    go_wp2
    go_ret2
    exact ⟨sr_nil _, Below.refl _ _⟩
  obtain ⟨UC, huc⟩ : ∃ UC, use ++ (ByteArray.mk #[58]) = UC := ⟨_, rfl⟩
  obtain ⟨X, hX⟩ : ∃ X, UC ++ who = X := ⟨_, rfl⟩
  obtain ⟨hXd, hucz, hXz⟩ := colon_text use who huc hX
  have hucz1 : UC.size ≤ 140737488300001 := by omega
  have hXz1 : X.size ≤ 140737488355000 := by omega
  have HC := Lib.hid (t_OfText X w hXz1)
  rw [hXd, ofText_eq] at HC
  clear hXd hucz hXz hXz1
  by_cases h1 : right (txt use.data.toList who.data.toList) = true
  · have hz1 := (right_len h1).2
    have HC2 : Hid (∀ (T A : ByteArray) (w : World), T.data.toList = txt use.data.toList who.data.toList → A.data.toList = ofAtom n → Calls Try.prog 31 #[.string T, .string A] w fun e w' => Sr (made (prs use.data.toList who.data.toList n)) e ∧ Below w.heap.size w w') := by
      intro T A w hT hA
      have := t_OfPair T A w (by rw [Lib.size_eq, hT]; omega) (by rw [Lib.size_eq, hA]; have := (right_len (atom_ok hn)).2; omega)
      rw [hT, hA, two_eq hn h1] at this
      exact this
    rw [made_yes h1] at HC
    by_cases h2 : right (prs use.data.toList who.data.toList n) = true
    · have HS : secret use.data.toList who.data.toList n = made (sech use.data.toList who.data.toList n) := by
        by_cases h3 : right (sech use.data.toList who.data.toList n) = true
        · rw [secret_ok hn h1 h2 h3, made_yes h3]
        · rw [secret_no hn (fun h => h3 h.2.2), made_no h3]
      have HC3 : Hid (∀ (T : ByteArray) (w : World), T.data.toList = prs use.data.toList who.data.toList n → Calls Try.prog 29 #[.string T] w fun e w' => Sr (made (sech use.data.toList who.data.toList n)) e ∧ Below w.heap.size w w') := by
        intro T w hT
        have := t_OfHash T w (by rw [Lib.size_eq, hT]; have := (right_len h2).2; omega)
        rw [hT, one_eq h2] at this
        exact this
      rw [made_yes h2] at HC2
      rw [HS]
      obtain ⟨x, f, hx⟩ : ∃ x f, made (sech use.data.toList who.data.toList n) = (x, f) := ⟨_, _, rfl⟩
      rw [hx] at HC3 ⊢
      have HN := Lib.hid hn
      clear HS h1 h2 hz1 hx hn
      go_enter Try.func17, Try.ntmps17
      go_wp2_with fail
      refine HC.out.mono ?_
      rintro e w1 ⟨⟨T, hT, rfl⟩, hb1⟩
      have HB1 := Lib.hid hb1
      have HT := Lib.hid hT
      clear hb1 hT
      dsimp only
      go_wp2_with fail
      refine (t_OfAtom n _ HN.out).mono ?_
      rintro e w2 ⟨⟨A, hA, rfl⟩, hb2⟩
      have HB2 := Lib.hid (HB1.out.trans (hb2.mono HB1.out.size))
      have HA := Lib.hid hA
      clear hb2 hA
      dsimp only
      go_wp2_with fail
      refine (HC2.out T A _ HT.out HA.out).mono ?_
      rintro e w3 ⟨⟨P, hP, rfl⟩, hb3⟩
      have HB3 := Lib.hid (HB2.out.trans (hb3.mono HB2.out.size))
      have HP := Lib.hid hP
      clear hb3 hP
      dsimp only
      go_wp2_with fail
      refine (HC3.out P _ HP.out).mono ?_
      rintro e w4 ⟨⟨H, hH, rfl⟩, hb4⟩
      have HB4 := Lib.hid (HB3.out.trans (hb4.mono HB3.out.size))
      have HH := Lib.hid hH
      clear hb4 hH
      dsimp only
      go_wp2
      go_ret2
      exact ⟨⟨H, HH.out, rfl⟩, HB4.out⟩
    · rw [secret_no hn (fun h => h2 h.2.1)]
      rw [made_no h2] at HC2
      have HN := Lib.hid hn
      clear h1 h2 hz1 hn
      go_enter Try.func17, Try.ntmps17
      go_wp2_with fail
      refine HC.out.mono ?_
      rintro e w1 ⟨⟨T, hT, rfl⟩, hb1⟩
      have HB1 := Lib.hid hb1
      have HT := Lib.hid hT
      clear hb1 hT
      dsimp only
      go_wp2_with fail
      refine (t_OfAtom n _ HN.out).mono ?_
      rintro e w2 ⟨⟨A, hA, rfl⟩, hb2⟩
      have HB2 := Lib.hid (HB1.out.trans (hb2.mono HB1.out.size))
      have HA := Lib.hid hA
      clear hb2 hA
      dsimp only
      go_wp2_with fail
      refine (HC2.out T A _ HT.out HA.out).mono ?_
      rintro e w3 ⟨⟨P, hP, rfl⟩, hb3⟩
      have HB3 := Lib.hid (HB2.out.trans (hb3.mono HB2.out.size))
      clear hb3 hP
      dsimp only
      go_wp2
      go_ret2
      exact ⟨sr_nil _, HB3.out⟩
  · rw [secret_no hn (fun h => h1 h.1)]
    rw [made_no h1] at HC
    clear h1 hn
    go_enter Try.func17, Try.ntmps17
    go_wp2_with fail
    refine HC.out.mono ?_
    rintro e w1 ⟨⟨T, hT, rfl⟩, hb1⟩
    have HB1 := Lib.hid hb1
    clear hb1 hT
    dsimp only
    go_wp2
    go_ret2
    exact ⟨sr_nil _, HB1.out⟩
theorem secretok : SecretOK := fun use who n w h1 h2 h3 hn => secret_any use who n w h1 h2 h3 hn
end Go.Proofs.Ytjoldkhfkobahaa.Draw
