/-
  One text of several, in their order: EWayP, EProof, EVerify, EHelp, ELaw, EApp, ELErrsP, ELOne, ELProvesP. By an AI agent; no person has read it.
-/
import Derived.Test.YtmmeklemaofmjaaGreatP7
import Derived.Test.YtmmeklemaofmjaaGreatP6
import Derived.Test.YtmmeklemaofmjaaGreatP3
import Derived.Laws.AppendOwnNone
import Derived.Test.YtmmeklemaofmjaaGreatP4
/-
  PLAIN FACTS: the pieces beside a way are the trees beside it; going up by them is what the document's up says. By an AI agent; no person has read it.
-/
namespace Go.Proofs.YtmmeklemaofmjaaGreat.Tre
open Wire Term Draw Reg Clo

set_option linter.unusedVariables false
theorem wayL_succ (d i f t : Nat) : wayL (d + 1) i f t = if t - f = 1 then [] else
    if i < f + fst (t - f) then wayL d i f (f + fst (t - f)) ++ [(f + fst (t - f), t)]
    else wayL d i (f + fst (t - f)) t ++ [(f, f + fst (t - f))] := rfl
theorem tree_deeper : ∀ (d : Nat) (l : List Tm), 1 ≤ l.length → l.length ≤ 2 ^ d → d ≤ 2 → treeD (d + 1) l = treeD (d + 2) l := by
  intro d
  induction d with
  | zero =>
    intro l h1 h2 _
    have hl : l.length = 1 := by omega
    rw [treeD_succ, treeD_succ, if_pos hl, if_pos hl]
  | succ d ih =>
    intro l h1 h2 hd
    rw [treeD_succ (d + 1), treeD_succ (d + 1 + 1)]
    by_cases hl : l.length = 1
    · rw [if_pos hl, if_pos hl]
    · obtain ⟨p1, p2, p3, p4, p5⟩ := fst_half (n := l.length) (d := d) (by omega) (by omega) h2
      obtain ⟨k0, k1⟩ := fst_lt (n := l.length) (by omega) p3
      have lt1 : (l.take (fst l.length)).length = fst l.length := by rw [List.length_take]; omega
      have ld1 : (l.drop (fst l.length)).length = l.length - fst l.length := List.length_drop
      rw [if_neg hl, if_neg hl, ih (l.take (fst l.length)) (by omega) (by omega) (by omega), ih (l.drop (fst l.length)) (by omega) (by omega) (by omega)]
theorem tree_four {d : Nat} {l : List Tm} (h1 : 1 ≤ l.length) (h2 : l.length ≤ 2 ^ d) (hd : d ≤ 3) : treeD (d + 1) l = treeD 4 l := by
  have hdd : d = 0 ∨ d = 1 ∨ d = 2 ∨ d = 3 := by omega
  rcases hdd with rfl | rfl | rfl | rfl
  · rw [tree_deeper 0 l h1 h2 (by omega), tree_deeper 1 l h1 (by omega) (by omega), tree_deeper 2 l h1 (by omega) (by omega)]
  · rw [tree_deeper 1 l h1 h2 (by omega), tree_deeper 2 l h1 (by omega) (by omega)]
  · rw [tree_deeper 2 l h1 h2 (by omega)]
  · rfl
/-- A part of a row, from one place up to another. -/
def cut (L : List Tm) (x : Nat × Nat) : List Tm := (L.take x.2).drop x.1
theorem cut_len {L : List Tm} {x : Nat × Nat} (h : x.2 ≤ L.length) : (cut L x).length = x.2 - x.1 := by
  unfold cut
  rw [List.length_drop, List.length_take]; omega
theorem cut_take {L : List Tm} {f t k : Nat} (h : f + k ≤ t) (h2 : t ≤ L.length) : (cut L (f, t)).take k = cut L (f, f + k) := by
  unfold cut
  rw [List.take_drop, List.take_take, Nat.min_eq_left (by omega)]
theorem cut_drop {L : List Tm} {f t k : Nat} : (cut L (f, t)).drop k = cut L (f + k, t) := by
  unfold cut
  rw [List.drop_drop]
def treeOf (L : List Tm) (x : Nat × Nat) : Tm := (treeD 4 (cut L x)).1
theorem way_beside (L : List Tm) : ∀ (d i f t : Nat), d ≤ 3 → f ≤ i → i < t → t - f ≤ 2 ^ d → t ≤ 8 → t ≤ L.length → (wayL (d + 1) i f t).map (treeOf L) = besideD (d + 1) (cut L (f, t)) (i - f) := by
  intro d
  induction d with
  | zero =>
    intro i f t hd hf hi h1 h8 hL
    have e : t - f = 1 := by omega
    rw [wayL_succ, besideD_succ, if_pos e, if_pos (by rw [cut_len hL]; exact e)]
    rfl
  | succ d ih =>
    intro i f t hd hf hi h1 h8 hL
    have hcl := cut_len (L := L) (x := (f, t)) hL
    rw [wayL_succ, besideD_succ, hcl]
    by_cases e : t - f = 1
    · rw [if_pos e, if_pos e]
      rfl
    · obtain ⟨n2, n8, p1, p2, k0, k1⟩ := fst_half0 (n := t - f) (d := d) e (by omega) (by omega) h1
      rw [if_neg e, if_neg e]
      generalize fst (t - f) = K at p1 p2 k0 k1 ⊢
      by_cases hk : i < f + K
      · rw [if_pos hk, if_pos (by omega), List.map_append, ih i f (f + K) (by omega) hf hk (by omega) (by omega) (by omega), cut_take (by omega) hL, cut_drop]
        have hl := cut_len (L := L) (x := (f + K, t)) hL
        rw [tree_four (d := d) (by simp only at hl; omega) (by simp only at hl; omega) (by omega)]
        rfl
      · rw [if_neg hk, if_neg (by omega), List.map_append, ih i (f + K) t (by omega) (by omega) hi (by omega) h8 hL, cut_take (by omega) hL, cut_drop]
        have hl := cut_len (L := L) (x := (f, f + K)) (by simp only; omega)
        rw [tree_four (d := d) (by simp only at hl; omega) (by simp only at hl; omega) (by omega), show i - f - K = i - (f + K) by omega]
        rfl
/-- Each piece is a part of the row. -/
theorem way_in : ∀ (d i f t : Nat), d ≤ 3 → f ≤ i → i < t → t - f ≤ 2 ^ d → t ≤ 8 → ∀ x ∈ wayL (d + 1) i f t, f ≤ x.1 ∧ x.1 < x.2 ∧ x.2 ≤ t := by
  intro d
  induction d with
  | zero =>
    intro i f t hd hf hi h1 h8 x hx
    rw [wayL_succ, if_pos (by omega)] at hx
    cases hx
  | succ d ih =>
    intro i f t hd hf hi h1 h8 x hx
    rw [wayL_succ] at hx
    by_cases e : t - f = 1
    · rw [if_pos e] at hx; cases hx
    · obtain ⟨n2, n8, p1, p2, k0, k1⟩ := fst_half0 (n := t - f) (d := d) e (by omega) (by omega) h1
      rw [if_neg e] at hx
      generalize fst (t - f) = K at p1 p2 k0 k1 hx
      by_cases hk : i < f + K
      · rw [if_pos hk] at hx
        rcases List.mem_append.1 hx with h | h
        · have := ih i f (f + K) (by omega) hf hk (by omega) (by omega) x h
          omega
        · rw [List.mem_singleton.1 h]; exact ⟨by simp only; omega, by simp only; omega, Nat.le_refl _⟩
      · rw [if_neg hk] at hx
        rcases List.mem_append.1 hx with h | h
        · have := ih i (f + K) t (by omega) (by omega) hi (by omega) h8 x h
          omega
        · rw [List.mem_singleton.1 h]; exact ⟨Nat.le_refl _, by simp only; omega, by simp only; omega⟩
theorem way_few : ∀ (d i f t : Nat), (wayL d i f t).length ≤ d
  | 0, _, _, _ => Nat.le_refl _
  | d + 1, i, f, t => by
    rw [wayL_succ]
    split
    · simp
    · split
      · rw [List.length_append, List.length_singleton]
        have := way_few d i f (f + fst (t - f))
        omega
      · rw [List.length_append, List.length_singleton]
        have := way_few d i (f + fst (t - f)) t
        omega

/-! ### going up -/
/-- One step up. -/
def stepU (i : Nat) (x : Nat × Nat) (tr q : Tm) : Tm × Int := if x.2 ≤ i then over q tr else over tr q
/-- What Verify tells from here on. -/
def goes (r : Tm) (i : Nat) : List (Nat × Nat) → Tm × Int → List Tm → Bool
  | [], st, p => decide (st.2 = 0) && (decide (p = []) && decide (st.1 = r))
  | _ :: _, _, [] => false
  | x :: xs, st, q :: p => if st.2 = 0 then goes r i xs (stepU i x st.1 q) p else false
def ups (i : Nat) : List (Nat × Nat) → Tm × Int → List Tm → Tm × Int
  | [], st, _ => st
  | _ :: _, st, [] => st
  | x :: xs, st, q :: p => if st.2 = 0 then ups i xs (stepU i x st.1 q) p else st
theorem goes_ups (r : Tm) (i : Nat) : ∀ (xs : List (Nat × Nat)) (st : Tm × Int) (p : List Tm), goes r i xs st p = true ↔ p.length = xs.length ∧ (ups i xs st p).2 = 0 ∧ (ups i xs st p).1 = r
  | [], st, p => by
    simp only [goes, ups, Bool.and_eq_true, decide_eq_true_eq, List.length_nil, List.length_eq_zero_iff]
    constructor
    · rintro ⟨h1, h2, h3⟩; exact ⟨h2, h1, h3⟩
    · rintro ⟨h1, h2, h3⟩; exact ⟨h2, h1, h3⟩
  | x :: xs, st, [] => by simp [goes]
  | x :: xs, st, q :: p => by
    simp only [goes, ups, List.length_cons]
    by_cases h : st.2 = 0
    · rw [if_pos h, if_pos h, goes_ups r i xs (stepU i x st.1 q) p]
      constructor
      · rintro ⟨h1, h2⟩; exact ⟨by omega, h2⟩
      · rintro ⟨h1, h2⟩; exact ⟨by omega, h2⟩
    · rw [if_neg h, if_neg h]
      constructor
      · intro h; cases h
      · rintro ⟨_, h1, _⟩; exact absurd h1 h
theorem ups_snoc (i : Nat) (y : Nat × Nat) (q : Tm) : ∀ (xs : List (Nat × Nat)) (st : Tm × Int) (p : List Tm), p.length = xs.length →
    ups i (xs ++ [y]) st (p ++ [q]) = if (ups i xs st p).2 = 0 then stepU i y (ups i xs st p).1 q else ups i xs st p
  | [], st, [], _ => rfl
  | x :: xs, st, a :: p, h => by
    by_cases h0 : st.2 = 0
    · have e1 : ups i (x :: xs) st (a :: p) = ups i xs (stepU i x st.1 a) p := if_pos h0
      have e2 : ups i (x :: xs ++ [y]) st (a :: p ++ [q]) = ups i (xs ++ [y]) (stepU i x st.1 a) (p ++ [q]) := if_pos h0
      simp only [e1, e2]
      exact ups_snoc i y q xs _ p (by simpa using h)
    · have e1 : ups i (x :: xs) st (a :: p) = st := if_neg h0
      have e2 : ups i (x :: xs ++ [y]) st (a :: p ++ [q]) = st := if_neg h0
      simp only [e1, e2, if_neg h0]
/-- A way is as long as a proof must be. -/
theorem up_long : ∀ (d i f t : Nat) (lf : Tm) (p : List Tm), d ≤ 3 → f ≤ i → i < t → t - f ≤ 2 ^ d → t ≤ 8 → p.length ≠ (wayL (d + 1) i f t).length → upD (d + 1) (t - f) (i - f) lf p = [] := by
  intro d
  induction d with
  | zero =>
    intro i f t lf p hd hf hi h1 h8 hp
    have e : t - f = 1 := by omega
    rw [wayL_succ, if_pos e] at hp
    rw [upD_succ, if_pos e, if_pos (fun h => hp (by rw [h]; rfl))]
  | succ d ih =>
    intro i f t lf p hd hf hi h1 h8 hp
    rw [wayL_succ] at hp
    rw [upD_succ]
    by_cases e : t - f = 1
    · rw [if_pos e] at hp ⊢
      rw [if_pos (fun h => hp (by rw [h]; rfl))]
    · obtain ⟨n2, n8, p1, p2, k0, k1⟩ := fst_half0 (n := t - f) (d := d) e (by omega) (by omega) h1
      rw [if_neg e] at hp ⊢
      by_cases hpn : p = []
      · rw [if_pos hpn]
      · rw [if_neg hpn]
        have hpl := List.length_dropLast (xs := p)
        have hp0 : 0 < p.length := List.length_pos_iff.2 hpn
        generalize fst (t - f) = K at p1 p2 k0 k1 hp ⊢
        by_cases hk : i < f + K
        · rw [if_pos hk] at hp
          rw [List.length_append, List.length_singleton] at hp
          rw [if_pos (by omega), show (K : Nat) = f + K - f by omega, ih i f (f + K) lf p.dropLast (by omega) hf hk (by omega) (by omega) (by omega)]
          rcases over_or [] (p.getLastD []) with ⟨_, h, _⟩ | ⟨_, h⟩
          · exact absurd h (by decide)
          · exact h
        · rw [if_neg hk] at hp
          rw [List.length_append, List.length_singleton] at hp
          rw [if_neg (by omega), show t - f - K = t - (f + K) by omega, show i - f - K = i - (f + K) by omega, ih i (f + K) t lf p.dropLast (by omega) (by omega) hi (by omega) h8 (by omega)]
          rcases over_or (p.getLastD []) [] with ⟨_, _, h, _⟩ | ⟨_, h⟩
          · exact absurd h (by decide)
          · exact h
theorem over_bad1 (x : Tm) : (over [] x).1 = [] := by
  rcases over_or [] x with ⟨_, h, _⟩ | ⟨_, h⟩
  · exact absurd h (by decide)
  · exact h
theorem over_bad2 (x : Tm) : (over x []).1 = [] := by
  rcases over_or x [] with ⟨_, _, h, _⟩ | ⟨_, h⟩
  · exact absurd h (by decide)
  · exact h
/-- Going up by the pieces is what the document's up says; if it goes through, all of the proof were right. -/
theorem ups_up : ∀ (d i f t : Nat) (lf : Tm) (p : List Tm), d ≤ 3 → f ≤ i → i < t → t - f ≤ 2 ^ d → t ≤ 8 → p.length = (wayL (d + 1) i f t).length →
    ((ups i (wayL (d + 1) i f t) (one 104 lf) p).2 = 0 ∧ (ups i (wayL (d + 1) i f t) (one 104 lf) p).1 = upD (d + 1) (t - f) (i - f) lf p ∧ (∀ x ∈ p, right x = true) ∧ right (upD (d + 1) (t - f) (i - f) lf p) = true) ∨
    ((ups i (wayL (d + 1) i f t) (one 104 lf) p).2 ≠ 0 ∧ upD (d + 1) (t - f) (i - f) lf p = []) := by
  have base : ∀ (d i f t : Nat) (lf : Tm) (p : List Tm), t - f = 1 → p.length = (wayL (d + 1) i f t).length →
    ((ups i (wayL (d + 1) i f t) (one 104 lf) p).2 = 0 ∧ (ups i (wayL (d + 1) i f t) (one 104 lf) p).1 = upD (d + 1) (t - f) (i - f) lf p ∧ (∀ x ∈ p, right x = true) ∧ right (upD (d + 1) (t - f) (i - f) lf p) = true) ∨
    ((ups i (wayL (d + 1) i f t) (one 104 lf) p).2 ≠ 0 ∧ upD (d + 1) (t - f) (i - f) lf p = []) := by
    intro d i f t lf p e hp
    rw [wayL_succ, if_pos e] at hp ⊢
    obtain rfl : p = [] := List.length_eq_zero_iff.1 hp
    rw [upD_succ, if_pos e, if_neg (fun h => h rfl)]
    simp only [ups]
    rcases one_or lf with ⟨h1, _, h2, h3⟩ | ⟨h1, h2⟩
    · exact .inl ⟨h1, trivial, fun x hx => absurd hx (List.not_mem_nil), by rw [h3]; exact h2⟩
    · exact .inr ⟨h1, h2⟩
  intro d
  induction d with
  | zero =>
    intro i f t lf p hd hf hi h1 h8 hp
    exact base 0 i f t lf p (by omega) hp
  | succ d ih =>
    intro i f t lf p hd hf hi h1 h8 hp
    by_cases e : t - f = 1
    · exact base (d + 1) i f t lf p e hp
    · obtain ⟨n2, n8, p1, p2, k0, k1⟩ := fst_half0 (n := t - f) (d := d) e (by omega) (by omega) h1
      rw [wayL_succ, if_neg e] at hp ⊢
      rw [upD_succ, if_neg e]
      have hpn : p ≠ [] := fun h => by
        rw [h] at hp
        split at hp <;> simp at hp
      rw [if_neg hpn]
      have hpl := List.length_dropLast (xs := p)
      have hp0 : 0 < p.length := List.length_pos_iff.2 hpn
      have hpe := last_eq hpn
      generalize hq : p.getLastD [] = q at hpe ⊢
      generalize hp2 : p.dropLast = pz at hpe hpl ⊢
      generalize fst (t - f) = K at p1 p2 k0 k1 hp ⊢
      by_cases hk : i < f + K
      · rw [if_pos hk] at hp ⊢
        rw [List.length_append, List.length_singleton] at hp
        rw [if_pos (show i - f < K by omega)]
        have := ih i f (f + K) lf pz (by omega) hf hk (by omega) (by omega) (by omega)
        rw [show f + K - f = K by omega] at this
        rw [hpe, ups_snoc _ _ _ _ _ _ (by omega)]
        have hst : ∀ a, stepU i (f + K, t) a q = over a q := fun a => by unfold stepU; rw [if_neg (by simp only; omega)]
        rcases this with ⟨a1, a2, a3, a4⟩ | ⟨a1, a2⟩
        · rw [if_pos a1, hst, a2]
          rcases over_or (upD (d + 1) K (i - f) lf pz) q with ⟨b1, b2, b3, b4, b5, b6⟩ | ⟨b1, b2⟩
          · refine .inl ⟨b1, rfl, fun x hx => ?_, by rw [b6]; exact b5⟩
            rcases List.mem_append.1 hx with h | h
            · exact a3 x h
            · rw [List.mem_singleton.1 h]; exact b3
          · exact .inr ⟨b1, b2⟩
        · rw [if_neg a1, a2]
          exact .inr ⟨a1, over_bad1 q⟩
      · rw [if_neg hk] at hp ⊢
        rw [List.length_append, List.length_singleton] at hp
        rw [if_neg (show ¬ i - f < K by omega)]
        have := ih i (f + K) t lf pz (by omega) (by omega) hi (by omega) h8 (by omega)
        rw [show t - (f + K) = t - f - K by omega, show i - (f + K) = i - f - K by omega] at this
        rw [hpe, ups_snoc _ _ _ _ _ _ (by omega)]
        have hst : ∀ a, stepU i (f, f + K) a q = over q a := fun a => by unfold stepU; rw [if_pos (by simp only; omega)]
        rcases this with ⟨a1, a2, a3, a4⟩ | ⟨a1, a2⟩
        · rw [if_pos a1, hst, a2]
          rcases over_or q (upD (d + 1) (t - f - K) (i - f - K) lf pz) with ⟨b1, b2, b3, b4, b5, b6⟩ | ⟨b1, b2⟩
          · refine .inl ⟨b1, rfl, fun x hx => ?_, by rw [b6]; exact b5⟩
            rcases List.mem_append.1 hx with h | h
            · exact a3 x h
            · rw [List.mem_singleton.1 h]; exact b2
          · exact .inr ⟨b1, b2⟩
        · rw [if_neg a1, a2]
          exact .inr ⟨a1, over_bad2 q⟩
/-- What Verify tells is what the document says. -/
theorem goes_verify {r t : Tm} {n i : Nat} {p : List Tm} (h1 : 1 ≤ n) (h8 : n ≤ 8) (hi : i < n) (hl : isLeaf t = true) : goes r i (wayL 4 i 0 n) (one 104 t) p = verifyT r (n : Int) (i : Int) t p := by
  rw [Bool.eq_iff_iff, goes_ups]
  unfold verifyT
  rw [decide_eq_true_eq, show ((n : Int)).toNat = n by omega, show ((i : Int)).toNat = i by omega]
  constructor
  · rintro ⟨hp, h2, h3⟩
    rcases ups_up 3 i 0 n t p (by omega) (by omega) hi (by omega) h8 hp with ⟨a1, a2, a3, a4⟩ | ⟨a1, a2⟩
    · rw [Nat.sub_zero, Nat.sub_zero] at a2 a4
      rw [a2] at h3
      exact ⟨by omega, by omega, by omega, by omega, hl, by rw [← h3]; exact a4, a3, h3⟩
    · exact absurd h2 a1
  · rintro ⟨_, _, _, _, _, hr, hx, hu⟩
    by_cases hp : p.length = (wayL 4 i 0 n).length
    · rcases ups_up 3 i 0 n t p (by omega) (by omega) hi (by omega) h8 hp with ⟨a1, a2, a3, a4⟩ | ⟨a1, a2⟩
      · rw [Nat.sub_zero, Nat.sub_zero] at a2
        exact ⟨hp, a1, by rw [a2]; exact hu⟩
      · rw [Nat.sub_zero, Nat.sub_zero, hu] at a2
        rw [a2] at hr
        exact absurd hr (by decide)
    · have := up_long 3 i 0 n t p (by omega) (by omega) hi (by omega) h8 hp
      rw [Nat.sub_zero, Nat.sub_zero, hu] at this
      rw [this] at hr
      exact absurd hr (by decide)
end Go.Proofs.YtmmeklemaofmjaaGreat.Tre

/-
  THE LANDED CODE (package tree): Proof. By an AI agent; no person has read it.
-/
namespace Go.Proofs.YtmmeklemaofmjaaGreat.Tre
open Go Go.RowKit Go.Shelf Wire Term Draw Reg Clo

attribute [local go_sem] Oper.semAt_some
set_option linter.unusedSimpArgs false
set_option linter.unusedVariables false
theorem owns_kept {W W' : World} {row : Option Nat} {base : Nat} {e : TypeId} {size k : Nat} {v : Value} {xs : List Value} (h : W.ownsRow base e size v k xs) (hg : W.grownBy W' row) (hr : ∀ r, row = some r → ∃ o : Obj, W.heap[r]? = some o ∧ o.isCells = false) : W'.ownsRow base e size v k xs := by
  refine h.kept hg ?_
  rcases h.2 with ⟨rfl, _⟩ | ⟨g, cap, cur, rfl, _, hgb, _⟩
  · exact .inl rfl
  · refine .inr fun e' => ?_
    obtain ⟨o, ho, hc⟩ := hr g (by simpa [Value.ownBlock] using e'.symm)
    rw [hgb] at ho; cases ho; cases hc
/-- Between two rounds of Proof. -/
def PrI (w : World) (A : Option Addr) (c : Nat) (ys : List ByteArray) (bp m : Nat) (pre : List (Nat × Nat)) (B : World) : Prop :=
  m ≤ B.heap.size ∧ Below w.heap.size w B ∧ B.heap[w.heap.size]? = some (.cells #[.slice A ys.length c] 25) ∧
  ∃ (v : Value) (zs : List ByteArray), B.heap[bp]? = some (.cells #[v] 25) ∧ B.ownsRow m 9 1 v zs.length (sv zs) ∧ bl zs = pre.map (treeOf (bl ys))
theorem pr_box {B B2 w6 : World} {bp m : Nat} {v : Value} {T : ByteArray} {k : Nat} {xs : List Value} (h : B.heap[bp]? = some (.cells #[v] 25)) (hb : Below B.heap.size B B2) (ho : B2.ownsRow m 9 1 v k xs) (hg : (B2.alloc (.cells #[.string T] 9)).grownBy w6 v.ownBlock) (hte : 25 ≠ 9) : Boxed w6 bp 25 v := by
  have h2 : Boxed B2 bp 25 v := (hb.block _ (Array.getElem?_eq_some_iff.1 h).1).trans h
  exact (h2.alloc _).kept hg (h2.not_row hte ho)
theorem PrI.kept {w : World} {A : Option Addr} {c : Nat} {ys : List ByteArray} {bp m : Nat} {pre : List (Nat × Nat)} {B C : World} {row : Option Nat} {n : Nat} (h : PrI w A c ys bp m pre B) (hg : B.grownBy C row) (hn : w.heap.size < n) (hn2 : bp < n) (hw : w.heap.size ≤ n)
    (hr : ∀ r, row = some r → n ≤ r ∧ ∃ o : Obj, B.heap[r]? = some o ∧ o.isCells = false) : PrI w A c ys bp m pre C := by
  obtain ⟨g1, g2, g3, v, zs, g4, g5, g6⟩ := h
  refine ⟨Nat.le_trans g1 hg.size, g2.grown hg g2.size (fun k e => by have := (hr k e).1; omega), (hg.block _ (Array.getElem?_eq_some_iff.1 g3).1 (fun e => by have := (hr _ e.symm).1; omega)).trans g3, v, zs, (hg.block _ (Array.getElem?_eq_some_iff.1 g4).1 (fun e => by have := (hr _ e.symm).1; omega)).trans g4, owns_kept g5 hg (fun r e => (hr r e).2), g6⟩
theorem PrI.step {w : World} {A : Option Addr} {c : Nat} {ys : List ByteArray} {bp m n : Nat} {pre : List (Nat × Nat)} {x : Nat × Nat} {B B2 w6 : World} {v v' : Value} {zs : List ByteArray} {T : ByteArray}
    (h : m ≤ B.heap.size ∧ Below w.heap.size w B ∧ B.heap[w.heap.size]? = some (.cells #[.slice A ys.length c] 25) ∧ B.heap[bp]? = some (.cells #[v] 25) ∧ B.ownsRow m 9 1 v zs.length (sv zs) ∧ bl zs = pre.map (treeOf (bl ys)))
    (hb : Below B.heap.size B B2) (hT : T.data.toList = treeOf (bl ys) x) (hg : (B2.alloc (.cells #[.string T] 9)).grownBy w6 v.ownBlock)
    (hown : w6.ownsRow m 9 1 v' (zs.length + 1) (sv zs ++ [.string T])) (hte : 25 ≠ 9) (hwb : w.heap.size < bp) (hbn : bp < n) (hnm : n ≤ m) :
    Keeps n m B (w6.setCell ⟨bp, 0, none⟩ v') ∧ PrI w A c ys bp m (pre ++ [x]) (w6.setCell ⟨bp, 0, none⟩ v') := by
  obtain ⟨g1, g2, g3, g4, g5, g6⟩ := h
  have ho := own_below g5 hb (Nat.le_refl _)
  have hv1 := pr_box g4 hb ho hg hte
  have hs2 : m ≤ B2.heap.size := Nat.le_trans g1 hb.size
  have hs6 : B2.heap.size + 1 ≤ w6.heap.size := by have := hg.size; rwa [World.size_alloc] at this
  have hsz : (w6.setCell ⟨bp, 0, none⟩ v').heap.size = w6.heap.size := by simp [World.setCell]
  have keep : ∀ k, k ≠ bp → k < m → (w6.setCell ⟨bp, 0, none⟩ v').heap[k]? = B.heap[k]? := fun k h1 h2 => by
    rw [Below.heap_setCell _ _ _ k h1, hg.block k (by rw [World.size_alloc]; omega) (fun e => by have := (ho.lt k e.symm).1; omega), Below.heap_alloc _ _ _ (by omega), hb.block k (by omega)]
  refine ⟨⟨by rw [hsz]; have := hb.size; omega, fun k h1 h2 => keep k (by omega) h2⟩, by rw [hsz]; omega, ?_, (keep _ (by omega) (by omega)).trans g3, v', zs ++ [T], hv1.set v', ?_, ?_⟩
  · refine Below.setCell ?_ (by simp only; omega) _
    refine ((g2.trans (hb.mono g2.size)).alloc (by have := g2.size; omega) _).grown hg (by rw [World.size_alloc]; have := g2.size; omega) (fun k e => by have := (ho.lt k e).1; omega)
  · have := hown.kept (grownBy_setCell' w6 bp v') (.inr (hv1.not_row hte hown).symm)
    simpa [sv] using this
  · rw [List.map_append, ← g6]
    simp [bl, hT]
end Go.Proofs.YtmmeklemaofmjaaGreat.Tre

/-
  THE LANDED CODE (package tree): Verify. By an AI agent; no person has read it.
-/
namespace Go.Proofs.YtmmeklemaofmjaaGreat.Tre
open Go Go.RowKit Go.Shelf Wire Term Draw Reg Clo

attribute [local go_sem] Oper.semAt_some
set_option linter.unusedSimpArgs false
set_option linter.unusedVariables false
theorem frozen_heap {W : World} {b : Nat} {v : Value} {T : TypeId} (h : W.heap[b]? = some (.cells #[v] T)) : W.frozen? ⟨b, 0, none⟩ = false := by
  simp only [World.frozen?, h]
  simp
theorem boxes3 (w : World) (a b d : Value) (ta tb td : TypeId) : Below w.heap.size w (((w.alloc (.cells #[a] ta)).alloc (.cells #[b] tb)).alloc (.cells #[d] td)) ∧ (((w.alloc (.cells #[a] ta)).alloc (.cells #[b] tb)).alloc (.cells #[d] td)).heap.size = w.heap.size + 3 ∧
    (((w.alloc (.cells #[a] ta)).alloc (.cells #[b] tb)).alloc (.cells #[d] td)).heap[w.heap.size]? = some (.cells #[a] ta) ∧ (((w.alloc (.cells #[a] ta)).alloc (.cells #[b] tb)).alloc (.cells #[d] td)).heap[w.heap.size + 1]? = some (.cells #[b] tb) ∧
    (((w.alloc (.cells #[a] ta)).alloc (.cells #[b] tb)).alloc (.cells #[d] td)).heap[w.heap.size + 2]? = some (.cells #[d] td) := by
  have a1 := World.alloc_heap_new w (.cells #[a] ta)
  have a2 := World.alloc_heap_new (w.alloc (.cells #[a] ta)) (.cells #[b] tb)
  have a3 := World.alloc_heap_new ((w.alloc (.cells #[a] ta)).alloc (.cells #[b] tb)) (.cells #[d] td)
  simp only [World.size_alloc] at a2 a3
  refine ⟨three_below w _ _ _, by simp, ?_, ?_, a3⟩
  · exact (Below.heap_alloc _ _ _ (by simp; omega)).trans ((Below.heap_alloc _ _ _ (by simp)).trans a1)
  · exact (Below.heap_alloc _ _ _ (by simp)).trans a2
/-- Between two rounds of Verify. -/
def VeI (w : World) (k : Nat) (r : Tm) (xs : List (Nat × Nat)) (v : Bool) (tb m : Nat) (pre : List (Nat × Nat)) (B : World) : Prop :=
  m ≤ B.heap.size ∧ Below w.heap.size w B ∧ B.heap[w.heap.size]? = some (.cells #[.int .i64 (k : Int)] 3) ∧ B.heap[w.heap.size + 2]? = some (.cells #[.bool false] 4) ∧
  ∃ (T : ByteArray) (f : Int) (A : Option Addr) (c : Nat) (ps : List ByteArray) (rest : List (Nat × Nat)), B.heap[tb]? = some (.cells #[.string T] 9) ∧ B.heap[tb + 1]? = some (.cells #[.int .i64 f] 30) ∧
    B.heap[w.heap.size + 1]? = some (.cells #[.slice A ps.length c] 25) ∧ SReads w A ps ∧ ps.length ≤ c ∧ (∀ y ∈ ps, y.size ≤ 140737488355328) ∧ T.data.toList.length ≤ 4000 ∧ xs = pre ++ rest ∧ goes r k rest (T.data.toList, f) (bl ps) = v
/-- A round has told that it is not. -/
def VeX (w : World) (v : Bool) (B : World) : Prop := Below w.heap.size w B ∧ B.heap[w.heap.size + 2]? = some (.cells #[.bool false] 4) ∧ v = false
theorem VeI.kept {w : World} {k : Nat} {r : Tm} {xs : List (Nat × Nat)} {v : Bool} {tb m n : Nat} {pre : List (Nat × Nat)} {B C : World} {row : Option Nat} (h : VeI w k r xs v tb m pre B) (hg : B.grownBy C row) (hn : w.heap.size + 2 < n) (hn2 : tb + 1 < n)
    (hr : ∀ r, row = some r → n ≤ r ∧ ∃ o : Obj, B.heap[r]? = some o ∧ o.isCells = false) : VeI w k r xs v tb m pre C := by
  obtain ⟨g1, g2, g3, g4, T, f, A, c, ps, rest, g5, g6, g7, g8⟩ := h
  have keep : ∀ {b : Nat} {o : Obj}, b < n → B.heap[b]? = some o → C.heap[b]? = some o := fun hb h => (hg.block _ (Array.getElem?_eq_some_iff.1 h).1 (fun e => by have := (hr _ e.symm).1; omega)).trans h
  exact ⟨Nat.le_trans g1 hg.size, g2.grown hg g2.size (fun k e => by have := (hr k e).1; omega), keep (by omega) g3, keep (by omega) g4, T, f, A, c, ps, rest, keep (by omega) g5, keep (by omega) g6, keep (by omega) g7, g8⟩
theorem VeX.kept {w : World} {v : Bool} {n : Nat} {B C : World} {row : Option Nat} (h : VeX w v B) (hg : B.grownBy C row) (hn : w.heap.size + 2 < n) (hr : ∀ r, row = some r → n ≤ r ∧ ∃ o : Obj, B.heap[r]? = some o ∧ o.isCells = false) : VeX w v C := by
  obtain ⟨g2, g4, g5⟩ := h
  exact ⟨g2.grown hg g2.size (fun k e => by have := (hr k e).1; omega), (hg.block _ (Array.getElem?_eq_some_iff.1 g4).1 (fun e => by have := (hr _ e.symm).1; omega)).trans g4, g5⟩
theorem put_box {B : World} {b n : Nat} {v : Value} {t : TypeId} {o : Obj} (h : B.heap[b]? = some (.cells #[v] t)) (hn : b < n) : (B.putObj n o).cell? ⟨b, 0, none⟩ = some v ∧ (B.putObj n o).frozen? ⟨b, 0, none⟩ = false := by
  have e : (B.putObj n o).heap[b]? = some (.cells #[v] t) := (heap_put_other (by omega)).trans h
  exact ⟨cell_heap e, frozen_heap e⟩
theorem set_box {B : World} {b n : Nat} {v u : Value} {t : TypeId} {o : Obj} (h : B.heap[b]? = some (.cells #[v] t)) (hn : b < n) : ((B.setCell ⟨b, 0, none⟩ u).putObj n o).cell? ⟨b, 0, none⟩ = some u ∧ ((B.setCell ⟨b, 0, none⟩ u).putObj n o).frozen? ⟨b, 0, none⟩ = false :=
  put_box (show (B.setCell ⟨b, 0, none⟩ u).heap[b]? = some (.cells #[u] t) from Boxed.set (t := t) u h) hn
theorem s_eq {S T : ByteArray} (h : S.data.toList = T.data.toList) : (S.toList == T.toList) = true := by
  rw [Lib.toList_data, Lib.toList_data, h, beq_self_eq_true]
theorem s_ne {S T : ByteArray} (h : ¬ S.data.toList = T.data.toList) : (S.toList == T.toList) = false := by
  rw [beq_eq_false_iff_ne, Lib.toList_data, Lib.toList_data]; exact h
theorem VeI.step {w : World} {k : Nat} {r : Tm} {xs : List (Nat × Nat)} {v : Bool} {tb m n : Nat} {pre : List (Nat × Nat)} {x : Nat × Nat} {z : List (Nat × Nat)} {B B2 : World} {T2 T3 : ByteArray} {f2 ff : Int} {A A' : Option Addr} {c c' l : Nat} {ps : List ByteArray}
    (g1 : m ≤ B.heap.size) (g2 : Below w.heap.size w B) (g3 : B.heap[w.heap.size]? = some (.cells #[.int .i64 (k : Int)] 3)) (g4 : B.heap[w.heap.size + 2]? = some (.cells #[.bool false] 4))
    (g5 : B.heap[tb]? = some (.cells #[.string T2] 9)) (g6 : B.heap[tb + 1]? = some (.cells #[.int .i64 f2] 30)) (g7 : B.heap[w.heap.size + 1]? = some (.cells #[.slice A l c] 25))
    (h8 : SReads w A' ps) (h9 : ps.length ≤ c') (h10 : ∀ y ∈ ps, y.size ≤ 140737488355328) (h11 : T3.data.toList.length ≤ 4000) (hx : pre ++ x :: z = xs) (hgo : goes r k z (T3.data.toList, ff) (bl ps) = v)
    (hb : Below B.drew.heap.size B.drew B2) (h1 : w.heap.size + 2 < tb) (h2 : tb + 1 < n) (h3 : n ≤ m) :
    Keeps n m B (((B2.setCell ⟨tb, 0, none⟩ (.string T3)).setCell ⟨tb + 1, 0, none⟩ (.int .i64 ff)).setCell ⟨w.heap.size + 1, 0, none⟩ (.slice A' ps.length c')) ∧
    VeI w k r xs v tb m (pre ++ [x]) (((B2.setCell ⟨tb, 0, none⟩ (.string T3)).setCell ⟨tb + 1, 0, none⟩ (.int .i64 ff)).setCell ⟨w.heap.size + 1, 0, none⟩ (.slice A' ps.length c')) := by
  have hb' : Below B.heap.size B B2 := ⟨hb.os, hb.tape, hb.output, hb.size, hb.block⟩
  have hs := hb'.size
  have k1 : ∀ {b : Nat} {o : Obj}, B.heap[b]? = some o → B2.heap[b]? = some o := fun h => (hb'.block _ (Array.getElem?_eq_some_iff.1 h).1).trans h
  have hsz : (((B2.setCell ⟨tb, 0, none⟩ (.string T3)).setCell ⟨tb + 1, 0, none⟩ (.int .i64 ff)).setCell ⟨w.heap.size + 1, 0, none⟩ (.slice A' ps.length c')).heap.size = B2.heap.size := by simp [World.setCell]
  have other : ∀ j, j ≠ tb → j ≠ tb + 1 → j ≠ w.heap.size + 1 → (((B2.setCell ⟨tb, 0, none⟩ (.string T3)).setCell ⟨tb + 1, 0, none⟩ (.int .i64 ff)).setCell ⟨w.heap.size + 1, 0, none⟩ (.slice A' ps.length c')).heap[j]? = B2.heap[j]? := fun j a b d => by
    rw [Below.heap_setCell _ _ _ j d, Below.heap_setCell _ _ _ j b, Below.heap_setCell _ _ _ j a]
  refine ⟨⟨by rw [hsz]; exact hs, fun j a b => by rw [other j (by omega) (by omega) (by omega)]; exact hb'.block j (by omega)⟩, by rw [hsz]; omega, ?_, (other _ (by omega) (by omega) (by omega)).trans (k1 g3), (other _ (by omega) (by omega) (by omega)).trans (k1 g4), T3, ff, A', c', ps, z, ?_, ?_, ?_, h8, h9, h10, h11, by rw [List.append_assoc]; exact hx.symm, hgo⟩
  · exact (((g2.trans (hb'.mono g2.size)).setCell (by simp only; omega) _).setCell (by simp only; omega) _).setCell (by simp only; omega) _
  · rw [Below.heap_setCell _ _ _ _ (by simp only; omega), Below.heap_setCell _ _ _ _ (by simp only; omega)]
    exact Boxed.set (t := 9) _ (k1 g5)
  · rw [Below.heap_setCell _ _ _ _ (by simp only; omega)]
    exact Boxed.set (t := 30) _ (show (B2.setCell ⟨tb, 0, none⟩ (.string T3)).heap[tb + 1]? = some (.cells #[.int .i64 f2] 30) by rw [Below.heap_setCell _ _ _ _ (by simp only; omega)]; exact k1 g6)
  · exact Boxed.set (t := 25) _ (show ((B2.setCell ⟨tb, 0, none⟩ (.string T3)).setCell ⟨tb + 1, 0, none⟩ (.int .i64 ff)).heap[w.heap.size + 1]? = some (.cells #[.slice A l c] 25) by rw [Below.heap_setCell _ _ _ _ (by simp only; omega), Below.heap_setCell _ _ _ _ (by simp only; omega)]; exact k1 g7)
set_option maxHeartbeats 8000000 in
set_option maxRecDepth 1000000 in
theorem cverify_any (r : ByteArray) (n i : Int) (t : ByteArray) (A : Option Addr) (c : Nat) (ys : List ByteArray) (w : World) (hr : SReads w A ys) (hc : ys.length ≤ c) (hc2 : c ≤ 9223372036854775807) (hz : ∀ y ∈ ys, y.size ≤ 140737488355328) (ht : t.size ≤ 140737488355328) (hrz : r.size ≤ 140737488355328) :
    Calls Tryz.prog 44 #[.string r, .int .i64 n, .int .i64 i, .string t, .slice A ys.length c] w fun e w' => e = .returned (.bool (verifyT r.data.toList n i t.data.toList (bl ys))) ∧ Below w.heap.size w w' := by
  obtain ⟨v, hv⟩ : ∃ v, verifyT r.data.toList n i t.data.toList (bl ys) = v := ⟨_, rfl⟩
  rw [hv]
  have HIM := Lib.hid fun w => isMany_any n w
  have HPL := Lib.hid fun w => isPlace_any i n w
  have HLF := Lib.hid fun w => cleaf_any t w ht
  have no : ∀ {p : Prop}, (v = true → p) → ¬ p → v = false := fun h hp => by
    cases v with
    | false => rfl
    | true => exact absurd (h rfl) hp
  have hvt : v = true → 1 ≤ n ∧ n ≤ 8 ∧ 0 ≤ i ∧ i < n ∧ isLeaf t.data.toList = true := fun h => by
    rw [← hv] at h
    unfold verifyT at h
    have := of_decide_eq_true h
    exact ⟨this.1, this.2.1, this.2.2.1, this.2.2.2.1, this.2.2.2.2.1⟩
  by_cases hm : 1 ≤ n ∧ n ≤ 8
  · rw [decide_eq_true hm] at HIM
    by_cases hp : 0 ≤ i ∧ i < n
    · rw [decide_eq_true hp] at HPL
      cases hl : isLeaf t.data.toList with
      | false =>
        obtain rfl : v = false := no (fun h => (hvt h).2.2.2.2) (by rw [hl]; decide)
        rw [hl] at HLF
        clear hv hvt no hl hr hz
        go_enter Tryz.func44, Tryz.ntmps44
        go_wp2_with fail
        obtain ⟨X, hX⟩ : ∃ X, ((w.alloc (.cells #[.int .i64 i] 3)).alloc (.cells #[.slice A ys.length c] 25)).alloc (.cells #[.bool false] 4) = X := ⟨_, rfl⟩
        have hx0 := boxes3 w (.int .i64 i) (.slice A ys.length c) (.bool false) 3 25 4
        rw [hX] at hx0
        obtain ⟨hx1, hx2, hx3, hx4, hx5⟩ := hx0
        have HWX := Lib.hid hx1
        have HXs := Lib.hid hx2
        have HXa := Lib.hid hx3
        have HXp := Lib.hid hx4
        have HXr := Lib.hid hx5
        have ca := cell_heap hx3
        have cr := cell_heap hx5
        have fr := frozen_heap hx5
        rw [hX]
        clear hX hx1 hx2 hx3 hx4 hx5
        with_reducible refine (HIM.out _).mono ?_
        rintro e w2 ⟨rfl, hw⟩
        obtain rfl : X = w2 := hw.symm
        dsimp only
        go_wp2_with fail
        with_reducible refine (HPL.out _).mono ?_
        rintro e w2 ⟨rfl, hw⟩
        obtain rfl : X = w2 := hw.symm
        dsimp only
        go_wp2_with fail
        with_reducible refine (HLF.out _).mono ?_
        rintro e w1 ⟨rfl, hb1⟩
        have HB1 := Lib.hid hb1
        have HW1 := Lib.hid (HWX.out.trans (hb1.mono HWX.out.size))
        have cr1 := (hb1.cell (p := ⟨w.heap.size + 2, 0, none⟩) (by have := HXs.out; simp only; omega)).trans cr
        have fr1 := (hb1.frozen (p := ⟨w.heap.size + 2, 0, none⟩) (by have := HXs.out; simp only; omega)).trans fr
        clear hb1 cr fr
        dsimp only
        go_wp2
        refine bodyPost_ret (v := .bool false) (by simp [results, Tryz.results44, go_sem, cr1, fr1]) rfl ?_
        exact ⟨rfl, HW1.out.setCell (by simp only; omega) _⟩
      | true =>
        rw [hl] at HLF
        obtain ⟨N, rfl⟩ : ∃ N : Nat, n = (N : Int) := ⟨n.toNat, by omega⟩
        obtain ⟨k, rfl⟩ : ∃ k : Nat, i = (k : Int) := ⟨i.toNat, by omega⟩
        have hN1 : 1 ≤ N := by omega
        have hN8 : N ≤ 8 := by omega
        have hkN : k < N := by omega
        rw [← goes_verify hN1 hN8 hkN hl] at hv
        have HV := Lib.hid hv
        have HR := Lib.hid hr
        have HZ := Lib.hid hz
        have HOH := Lib.hid fun w => t_OfHash t w ht
        obtain ⟨T0, f0, hT0⟩ : ∃ T0 f0, one 104 t.data.toList = (T0, f0) := ⟨_, _, rfl⟩
        rw [hT0] at HOH HV
        have hT04 : T0.length ≤ 4000 := by have := one_len t.data.toList; rw [hT0] at this; exact this
        clear hv hvt no hl hr hz hm hp hT0
        refine callsIn_wide (n := 0).1 ?_
        refine callsIn_of_wp_marks Tryz.func44 rfl trivial ?_
        simp only [Tryz.ntmps44, List.size_toArray, List.length_cons, List.length_nil, Nat.reduceAdd, Nat.reduceSub, Array.replicate_succ, Array.replicate_zero, List.push_toArray, List.append_toArray, List.nil_append, List.cons_append]
        refine wpIn_wide.2 ?_
        go_wp2_with fail
        obtain ⟨X, hX⟩ : ∃ X, ((w.alloc (.cells #[.int .i64 (k : Int)] 3)).alloc (.cells #[.slice A ys.length c] 25)).alloc (.cells #[.bool false] 4) = X := ⟨_, rfl⟩
        have hx0 := boxes3 w (.int .i64 (k : Int)) (.slice A ys.length c) (.bool false) 3 25 4
        rw [hX] at hx0
        obtain ⟨hx1, hx2, hx3, hx4, hx5⟩ := hx0
        have HWX := Lib.hid hx1
        have HXs := Lib.hid hx2
        have HXa := Lib.hid hx3
        have HXp := Lib.hid hx4
        have HXr := Lib.hid hx5
        have ca := cell_heap hx3
        have cr := cell_heap hx5
        have fr := frozen_heap hx5
        rw [hX]
        clear hX hx1 hx2 hx3 hx4 hx5
        with_reducible refine (HIM.out _).mono ?_
        rintro e w2 ⟨rfl, hw⟩
        obtain rfl : X = w2 := hw.symm
        dsimp only
        go_wp2_with fail
        with_reducible refine (HPL.out _).mono ?_
        rintro e w2 ⟨rfl, hw⟩
        obtain rfl : X = w2 := hw.symm
        dsimp only
        go_wp2_with fail
        with_reducible refine (HLF.out _).mono ?_
        rintro e w1 ⟨rfl, hb1⟩
        have HB1 := Lib.hid hb1
        have HW1 := Lib.hid (HWX.out.trans (hb1.mono HWX.out.size))
        have cr1 := (hb1.cell (p := ⟨w.heap.size + 2, 0, none⟩) (by have := HXs.out; simp only; omega)).trans cr
        have fr1 := (hb1.frozen (p := ⟨w.heap.size + 2, 0, none⟩) (by have := HXs.out; simp only; omega)).trans fr
        clear hb1 cr fr
        dsimp only
        go_wp2_with fail
        with_reducible refine (HOH.out _).mono ?_
        rintro e w3 ⟨⟨T, hT, rfl⟩, hb3⟩
        try dsimp only at hT
        have HT := Lib.hid hT
        have HX3 : Hid (Below X.heap.size X w3) := Lib.hid (HB1.out.trans (hb3.mono HB1.out.size))
        have ca3 := ((HX3.out).cell (p := ⟨w.heap.size, 0, none⟩) (by have := HXs.out; simp only; omega)).trans ca
        clear hT hb3 cr1 fr1 ca
        dsimp only
        have ca4 : ((w3.alloc (.cells #[.string T] 9)).alloc (.cells #[.int .i64 f0] 30)).cell? ⟨w.heap.size, 0, none⟩ = some (.int .i64 (k : Int)) := by
          rw [← ca3]
          exact (((Below.refl w3.heap.size w3).alloc (Nat.le_refl _) _).alloc (by simp) _).cell (p := ⟨w.heap.size, 0, none⟩) (by have := HXs.out; have := HX3.out.size; simp only; omega)
        go_wp2_with fail
        obtain ⟨Y, hY⟩ : ∃ Y, (w3.alloc (.cells #[.string T] 9)).alloc (.cells #[.int .i64 f0] 30) = Y := ⟨_, rfl⟩
        have HYT : Hid (Y.heap[w3.heap.size]? = some (.cells #[.string T] 9)) := by rw [← hY]; exact (Below.heap_alloc _ _ _ (by simp)).trans (World.alloc_heap_new _ _)
        have HYE : Hid (Y.heap[w3.heap.size + 1]? = some (.cells #[.int .i64 f0] 30)) := by
          rw [← hY]
          have := World.alloc_heap_new (w3.alloc (.cells #[.string T] 9)) (.cells #[.int .i64 f0] 30)
          rwa [World.size_alloc] at this
        have HYS : Hid (Y.heap.size = w3.heap.size + 2) := by rw [← hY]; show _ = _; simp
        have HYX : Hid (Below X.heap.size X Y) := by rw [← hY]; exact (HX3.out.alloc HX3.out.size _).alloc (by have := HX3.out.size; rw [World.size_alloc]; omega) _
        rw [hY]
        clear hY ca4 ca3
        refine (way_any k 0 N _).mono ?_
        rintro e v1 ⟨rfl, hv1⟩
        have hbV : Below Y.heap.size Y v1 := by rw [hv1]; exact three_below Y _ _ _
        have hbx1 : Bxs v1 (Y.heap.size + 2) (Y.heap.size + 1) Y.heap.size k 0 N := by rw [hv1]; exact boxes_new Y k 0 N
        clear hv1
        have HXv : Hid (Below X.heap.size X v1) := Lib.hid (HYX.out.trans (hbV.mono HYX.out.size))
        have hwv : Below w.heap.size w v1 := HWX.out.trans (HXv.out.mono HWX.out.size)
        have hlt1 : w.heap.size + 2 < v1.heap.size := by have := HXs.out; have := HXv.out.size; omega
        have hlt2 : w3.heap.size + 1 < v1.heap.size := by have := HYS.out; have := hbV.size; omega
        have hlt3 : w.heap.size + 2 < w3.heap.size := by have := HXs.out; have := HX3.out.size; omega
        have hva := (HXv.out.block _ (by have := HXs.out; omega)).trans HXa.out
        have hvp := (HXv.out.block _ (by have := HXs.out; omega)).trans HXp.out
        have hvr := (HXv.out.block _ (by have := HXs.out; omega)).trans HXr.out
        have hvT := (hbV.block _ (by have := HYS.out; omega)).trans HYT.out
        have hvE := (hbV.block _ (by have := HYS.out; omega)).trans HYE.out
        dsimp only
        go_wp2_with fail
        have hseq := way_iter 3 k 0 N (Y.heap.size + 2) (Y.heap.size + 1) Y.heap.size v1 (by omega) (by omega) hkN (by omega) hN8 hbx1
        have HVx := HV.out
        change goes r.data.toList k (wayL (3 + 1) k 0 N) (T0, f0) (bl ys) = v at HVx
        generalize wayL (3 + 1) k 0 N = xs at hseq HVx
        refine (wpIn_wide (n := 0)).1 ?_
        refine range_law (xs := xs) (encs := pcsA) (a₁ := fun x b => { tmps := #[.string r, .int .i64 (N : Int), .int .i64 (k : Int), .string t, .slice A ys.length c, undef, undef, .pointer (some ⟨w.heap.size, 0, none⟩), undef, .pointer (some ⟨w.heap.size + 1, 0, none⟩), .pointer (some ⟨w.heap.size + 1 + 1, 0, none⟩), .pointer (some ⟨w3.heap.size, 0, none⟩), .pointer (some ⟨w3.heap.size + 1, 0, none⟩), .pointer (some ⟨b, 0, none⟩), .int .i64 (N : Int), .bool true, .bool false, .bool false, .int .i64 (k : Int), .int .i64 (N : Int), .bool true, .bool false, .bool false, .bool false, .string t, .bool true, .bool false, .bool false, .tuple #[.string T, .int .i64 f0], .string t, .tuple #[.string T, .int .i64 f0], .string T, .int .i64 f0, .int .i64 (k : Int), .int .i64 (N : Int), .func (.func 92) #[] #[.pointer (some ⟨Y.heap.size + 2, 0, none⟩), .pointer (some ⟨Y.heap.size + 1, 0, none⟩), .pointer (some ⟨Y.heap.size, 0, none⟩)], pcs x, undef, undef, undef, undef, undef, undef, undef, undef, undef, undef, undef, undef, undef, undef, undef, undef, undef, undef, undef, undef, undef, undef, undef, undef, undef, undef, undef, undef, undef, undef, undef, undef, undef, undef, undef, undef, undef, undef, undef, undef, undef], defers := [] }) (blk := pcsO) rfl (enters_of Tryz.func92 (by kernel_rfl) rfl) hseq (Below.refl _ _) (fun _ => rfl)
          (fun m pre B => VeI w k r.data.toList xs v w3.heap.size m pre B) (fun pre B => VeX w v B) ?hI ?hIx (fun m zs B h => h.1)
          (fun B hB => ⟨Nat.le_refl _, hwv.trans (hB.mono hwv.size), (hB.block _ (by omega)).trans hva, (hB.block _ (by omega)).trans hvr, T, f0, A, c, ys, xs, (hB.block _ (by omega)).trans hvT, (hB.block _ (by omega)).trans hvE, (hB.block _ (by omega)).trans hvp, HR.out, hc, HZ.out, by rw [HT.out]; exact hT04, rfl, by rw [HT.out]; exact HVx⟩) ?assign ?body ?done ?stop
        case hI =>
          intro m s B C row hs hg hr
          exact hs.kept hg hlt1 hlt2 hr
        case hIx =>
          intro s B C row hs hg hr
          exact hs.kept hg hlt1 hr
        case assign =>
          intro l' x B K hK
          simp only [pcsA, pcs, pcsO] at hK ⊢
          gi_wp2
          exact hK
        case body =>
          intro l' m pre x b B hm' hI hpre' hb' hbx
          obtain ⟨g1, g2, g3, g4, T2, f2, A2, c2, ps, rest, g5, g6, g7, g8, g9, g10, g11, g12, g13⟩ := hI
          obtain ⟨z, hz⟩ := hpre'
          obtain rfl : rest = x :: z := by
            rw [← hz, List.append_assoc] at g12
            exact (List.append_cancel_left g12).symm
          have HXZ : Hid (pre ++ x :: z = xs) := g12.symm
          obtain ⟨y0, y1, _, _⟩ := pcs_cells hbx
          have cT := cell_heap g5
          have cE := cell_heap g6
          have cP := cell_heap g7
          have cR := cell_heap g4
          have fR := frozen_heap g4
          have cA := cell_heap g3
          have HG := Lib.hid (And.intro hva (And.intro hvp (And.intro hvr (And.intro hvT (And.intro hvE (And.intro g13 g12))))))
          clear hva hvp hvr hvT hvE hseq HVx hbx1 hbx hz
          by_cases hf : f2 = 0
          · subst hf
            cases ps with
            | nil =>
              obtain rfl : v = false := g13.symm
              have hP0 : B.cell? ⟨w.heap.size + 1, 0, none⟩ = some (.slice A2 0 c2) := cP
              clear g13 g12
              gi_wp2
              exact ⟨⟨by simp [World.setCell], fun j h1 h2 => Below.heap_setCell _ _ _ j (by simp only; omega)⟩, g2.setCell (by simp only; omega) _, Boxed.set (t := 4) _ g4, rfl⟩
            | cons p ps =>
              obtain ⟨g, off, rfl, hg, hcell⟩ := g8 0 (by simp)
              have hpc : B.cell? ⟨g, off, none⟩ = some (.string p) := (g2.cell (p := ⟨g, off, none⟩) hg).trans hcell
              have fT := frozen_heap g5
              have fE := frozen_heap g6
              have fP := frozen_heap g7
              have hP1 : B.cell? ⟨w.heap.size + 1, 0, none⟩ = some (.slice (some ⟨g, off, none⟩) (ps.length + 1) c2) := cP
              have hpz := g10 p (by simp)
              have q0 : (0 : Int) < (ps.length : Int) + 1 := by omega
              have q1 : ((ps.length : Int) + 1 == 0) = false := by rw [beq_eq_false_iff_ne]; omega
              have q2 : (1 : Int) ≤ (ps.length : Int) + 1 := by omega
              have q3 : (1 : Int) ≤ (c2 : Int) := by have : (p :: ps).length = ps.length + 1 := rfl; omega
              by_cases hxk : x.2 ≤ k
              · have hxk2 : (x.2 : Int) ≤ (k : Int) := by omega
                have hst : stepU k x T2.data.toList p.data.toList = over p.data.toList T2.data.toList := if_pos hxk
                have hgo : goes r.data.toList k z (over p.data.toList T2.data.toList) (bl ps) = v := by rw [← hst]; exact (if_pos rfl).symm.trans g13
                have hgl : (over p.data.toList T2.data.toList).1.length ≤ 4000 := over_len _ _
                obtain ⟨xx, ff, hxf⟩ : ∃ xx ff, over p.data.toList T2.data.toList = (xx, ff) := ⟨_, _, rfl⟩
                have HJN : Hid (∀ w, Calls Tryz.prog 74 #[.string p, .string T2] w fun e w' => Sr (xx, ff) e ∧ Below w.heap.size w w') := Lib.hid fun w => by rw [← hxf]; exact cjoin_any p T2 w hpz (by rw [Lib.size_eq]; omega)
                rw [hxf] at hgo hgl
                have HGO := Lib.hid hgo
                have d1 : B.drew.cell? ⟨w3.heap.size, 0, none⟩ = some (.string T2) := cT
                have d2 : B.drew.cell? ⟨w3.heap.size + 1, 0, none⟩ = some (.int .i64 0) := cE
                have d3 : B.drew.cell? ⟨w.heap.size + 1, 0, none⟩ = some (.slice (some ⟨g, off, none⟩) (ps.length + 1) c2) := hP1
                have d4 : B.drew.cell? ⟨g, off, none⟩ = some (.string p) := hpc
                have d5 : B.drew.frozen? ⟨w3.heap.size, 0, none⟩ = false := fT
                have d6 : B.drew.frozen? ⟨w3.heap.size + 1, 0, none⟩ = false := fE
                have d7 : B.drew.frozen? ⟨w.heap.size + 1, 0, none⟩ = false := fP
                have l1 : w3.heap.size < B.drew.heap.size := (Array.getElem?_eq_some_iff.1 g5).1
                have l2 : w3.heap.size + 1 < B.drew.heap.size := (Array.getElem?_eq_some_iff.1 g6).1
                have l3 : w.heap.size + 1 < B.drew.heap.size := (Array.getElem?_eq_some_iff.1 g7).1
                have n1 : w.heap.size + 1 ≠ w3.heap.size := by omega
                have n2 : w.heap.size + 1 ≠ w3.heap.size + 1 := by omega
                have n3 := Ne.symm n1
                have n4 := Ne.symm n2
                have hmix : Tryz.prog.follows .mixedOrders = true := by kernel_rfl
                clear g13 g12 hst hgo hxf
                gi_wp2_with fail
                gi_region_with_o (first
                  | (refine ⟨trivial, rfl, ?_⟩
                     refine CallsIn.inRound l' (callsIn_wide.2 ?_)
                     with_reducible refine (HJN.out _).mono ?_
                     rintro e B2 ⟨⟨T3, hT3, rfl⟩, hb2⟩
                     have HT3 := Lib.hid hT3
                     have HB2 := Lib.hid hb2
                     have e1 := (hb2.cell (p := ⟨w3.heap.size, 0, none⟩) l1).trans d1
                     have e2 := (hb2.cell (p := ⟨w3.heap.size + 1, 0, none⟩) l2).trans d2
                     have e3 := (hb2.cell (p := ⟨w.heap.size + 1, 0, none⟩) l3).trans d3
                     have e4 := (hb2.frozen (p := ⟨w3.heap.size, 0, none⟩) l1).trans d5
                     have e5 := (hb2.frozen (p := ⟨w3.heap.size + 1, 0, none⟩) l2).trans d6
                     have e6 := (hb2.frozen (p := ⟨w.heap.size + 1, 0, none⟩) l3).trans d7
                     clear hT3 hb2 d1 d2 d3 d4 d5 d6 d7 cT cE cP hpc cR fR fT fE fP cA
                     dsimp only))
                all_goals gi_wp2
                all_goals first
                  | exact VeI.step g1 g2 g3 g4 g5 g6 g7 (sreads_drop g8 1) (by have : (p :: ps).length = ps.length + 1 := rfl; omega) (fun y hy => g10 y (List.mem_cons_of_mem _ hy)) (by rw [HT3.out]; exact hgl) HXZ.out (by rw [HT3.out]; exact HGO.out) HB2.out hlt3 hlt2 hm'
                  | exact VeI.step g1 g2 g3 g4 g5 g6 g7 (fun j hj => absurd hj (by have : (p :: ps).length = ps.length + 1 := rfl; omega)) (by have : (p :: ps).length = ps.length + 1 := rfl; omega) (fun y hy => g10 y (List.mem_cons_of_mem _ hy)) (by rw [HT3.out]; exact hgl) HXZ.out (by rw [HT3.out]; exact HGO.out) HB2.out hlt3 hlt2 hm'
              · have hxk2 : ¬ (x.2 : Int) ≤ (k : Int) := by omega
                have hst : stepU k x T2.data.toList p.data.toList = over T2.data.toList p.data.toList := if_neg hxk
                have hgo : goes r.data.toList k z (over T2.data.toList p.data.toList) (bl ps) = v := by rw [← hst]; exact (if_pos rfl).symm.trans g13
                have hgl : (over T2.data.toList p.data.toList).1.length ≤ 4000 := over_len _ _
                obtain ⟨xx, ff, hxf⟩ : ∃ xx ff, over T2.data.toList p.data.toList = (xx, ff) := ⟨_, _, rfl⟩
                have HJN : Hid (∀ w, Calls Tryz.prog 74 #[.string T2, .string p] w fun e w' => Sr (xx, ff) e ∧ Below w.heap.size w w') := Lib.hid fun w => by rw [← hxf]; exact cjoin_any T2 p w (by rw [Lib.size_eq]; omega) hpz
                rw [hxf] at hgo hgl
                have HGO := Lib.hid hgo
                have d1 : B.drew.cell? ⟨w3.heap.size, 0, none⟩ = some (.string T2) := cT
                have d2 : B.drew.cell? ⟨w3.heap.size + 1, 0, none⟩ = some (.int .i64 0) := cE
                have d3 : B.drew.cell? ⟨w.heap.size + 1, 0, none⟩ = some (.slice (some ⟨g, off, none⟩) (ps.length + 1) c2) := hP1
                have d4 : B.drew.cell? ⟨g, off, none⟩ = some (.string p) := hpc
                have d5 : B.drew.frozen? ⟨w3.heap.size, 0, none⟩ = false := fT
                have d6 : B.drew.frozen? ⟨w3.heap.size + 1, 0, none⟩ = false := fE
                have d7 : B.drew.frozen? ⟨w.heap.size + 1, 0, none⟩ = false := fP
                have l1 : w3.heap.size < B.drew.heap.size := (Array.getElem?_eq_some_iff.1 g5).1
                have l2 : w3.heap.size + 1 < B.drew.heap.size := (Array.getElem?_eq_some_iff.1 g6).1
                have l3 : w.heap.size + 1 < B.drew.heap.size := (Array.getElem?_eq_some_iff.1 g7).1
                have n1 : w.heap.size + 1 ≠ w3.heap.size := by omega
                have n2 : w.heap.size + 1 ≠ w3.heap.size + 1 := by omega
                have n3 := Ne.symm n1
                have n4 := Ne.symm n2
                have hmix : Tryz.prog.follows .mixedOrders = true := by kernel_rfl
                clear g13 g12 hst hgo hxf
                gi_wp2_with fail
                gi_region_with_o (first
                  | (refine ⟨trivial, rfl, ?_⟩
                     refine CallsIn.inRound l' (callsIn_wide.2 ?_)
                     with_reducible refine (HJN.out _).mono ?_
                     rintro e B2 ⟨⟨T3, hT3, rfl⟩, hb2⟩
                     have HT3 := Lib.hid hT3
                     have HB2 := Lib.hid hb2
                     have e1 := (hb2.cell (p := ⟨w3.heap.size, 0, none⟩) l1).trans d1
                     have e2 := (hb2.cell (p := ⟨w3.heap.size + 1, 0, none⟩) l2).trans d2
                     have e3 := (hb2.cell (p := ⟨w.heap.size + 1, 0, none⟩) l3).trans d3
                     have e4 := (hb2.frozen (p := ⟨w3.heap.size, 0, none⟩) l1).trans d5
                     have e5 := (hb2.frozen (p := ⟨w3.heap.size + 1, 0, none⟩) l2).trans d6
                     have e6 := (hb2.frozen (p := ⟨w.heap.size + 1, 0, none⟩) l3).trans d7
                     clear hT3 hb2 d1 d2 d3 d4 d5 d6 d7 cT cE cP hpc cR fR fT fE fP cA
                     dsimp only))
                all_goals gi_wp2
                all_goals first
                  | exact VeI.step g1 g2 g3 g4 g5 g6 g7 (sreads_drop g8 1) (by have : (p :: ps).length = ps.length + 1 := rfl; omega) (fun y hy => g10 y (List.mem_cons_of_mem _ hy)) (by rw [HT3.out]; exact hgl) HXZ.out (by rw [HT3.out]; exact HGO.out) HB2.out hlt3 hlt2 hm'
                  | exact VeI.step g1 g2 g3 g4 g5 g6 g7 (fun j hj => absurd hj (by have : (p :: ps).length = ps.length + 1 := rfl; omega)) (by have : (p :: ps).length = ps.length + 1 := rfl; omega) (fun y hy => g10 y (List.mem_cons_of_mem _ hy)) (by rw [HT3.out]; exact hgl) HXZ.out (by rw [HT3.out]; exact HGO.out) HB2.out hlt3 hlt2 hm'
          · have q : (f2 == 0) = false := by simpa using hf
            have q' : (f2 != 0) = true := by simpa using hf
            obtain rfl : v = false := by
              rw [← g13]
              cases ps with
              | nil => rfl
              | cons p ps => exact if_neg hf
            clear g13 g12
            gi_wp2
            exact ⟨⟨by simp [World.setCell], fun j h1 h2 => Below.heap_setCell _ _ _ j (by simp only; omega)⟩, g2.setCell (by simp only; omega) _, Boxed.set (t := 4) _ g4, rfl⟩
        case done =>
          intro m B hm' hI hD
          obtain ⟨g1, g2, g3, g4, T2, f2, A2, c2, ps, rest, g5, g6, g7, g8, g9, g10, g11, g12, g13⟩ := hI
          obtain rfl : rest = [] := by simpa using g12.symm
          have cT := cell_heap g5
          have cE := cell_heap g6
          have cP := cell_heap g7
          have cR := cell_heap g4
          have fR := frozen_heap g4
          have hg13 : (decide (f2 = 0) && (decide (bl ps = []) && decide (T2.data.toList = r.data.toList))) = v := g13
          have hp0 : bl ps = [] ↔ ps.length = 0 := bl_nil
          dsimp only [Exit.inBlock, Exit.then]
          refine (by assumption : ∀ (a : Act) (w : World), Code.wp Tryz.prog _ _ a w → _) _ _ ?_
          refine (wpIn_wide (n := 0)).1 ?_
          have HG := Lib.hid (And.intro hva (And.intro hvp (And.intro hvr (And.intro hvT (And.intro hvE (And.intro g13 g12))))))
          clear hva hvp hvr hvT hvE g13 g12 hseq HVx hbx1
          by_cases hf : f2 = 0
          · by_cases hp : ps.length = 0
            · by_cases hs : T2.data.toList = r.data.toList
              · have q := s_eq hs
                obtain rfl : v = true := by rw [← hg13, decide_eq_true hf, decide_eq_true (hp0.2 hp), decide_eq_true hs]; rfl
                subst hf
                rw [hp] at cP
                clear hg13 hs hp hp0
                gi_wp2
                refine ⟨by simp, .inl ⟨_, _, rfl, run_takeDeferred (by rw [Below.heap_setCell _ _ _ _ (by simp only; omega)]; exact hD), ?_⟩⟩
                have hz := set_box (u := .bool true) (o := .deferred none) g4 hlt1
                refine ⟨.bool true, by simp [results, Tryz.results44, go_sem, hz.1, hz.2], rfl, ?_⟩
                exact (g2.setCell (by simp only; omega) _).grown (grownBy_putObj' _ _ _) (Nat.le_trans g2.size (by simp [World.setCell])) (fun j e => by cases e; omega)
              · have q := s_ne hs
                obtain rfl : v = false := by rw [← hg13, decide_eq_true hf, decide_eq_true (hp0.2 hp), decide_eq_false hs]; rfl
                subst hf
                rw [hp] at cP
                clear hg13 hs hp hp0
                gi_wp2
                refine ⟨by simp, .inl ⟨_, _, rfl, run_takeDeferred (by rw [Below.heap_setCell _ _ _ _ (by simp only; omega)]; exact hD), ?_⟩⟩
                have hz := set_box (u := .bool false) (o := .deferred none) g4 hlt1
                refine ⟨.bool false, by simp [results, Tryz.results44, go_sem, hz.1, hz.2], rfl, ?_⟩
                exact (g2.setCell (by simp only; omega) _).grown (grownBy_putObj' _ _ _) (Nat.le_trans g2.size (by simp [World.setCell])) (fun j e => by cases e; omega)
            · have q : ((ps.length : Int) == 0) = false := by rw [beq_eq_false_iff_ne]; omega
              obtain rfl : v = false := by rw [← hg13, decide_eq_true hf, decide_eq_false (fun h => hp (hp0.1 h))]; rfl
              subst hf
              clear hg13 hp0
              gi_wp2
              refine ⟨by simp, .inl ⟨_, _, rfl, run_takeDeferred (by rw [Below.heap_setCell _ _ _ _ (by simp only; omega)]; exact hD), ?_⟩⟩
              have hz := set_box (u := .bool false) (o := .deferred none) g4 hlt1
              refine ⟨.bool false, by simp [results, Tryz.results44, go_sem, hz.1, hz.2], rfl, ?_⟩
              exact (g2.setCell (by simp only; omega) _).grown (grownBy_putObj' _ _ _) (Nat.le_trans g2.size (by simp [World.setCell])) (fun j e => by cases e; omega)
          · have q : (f2 == 0) = false := by simpa using hf
            obtain rfl : v = false := by rw [← hg13, decide_eq_false hf]; rfl
            clear hg13 hp0
            gi_wp2
            refine ⟨by simp, .inl ⟨_, _, rfl, run_takeDeferred (by rw [Below.heap_setCell _ _ _ _ (by simp only; omega)]; exact hD), ?_⟩⟩
            have hz := set_box (u := .bool false) (o := .deferred none) g4 hlt1
            refine ⟨.bool false, by simp [results, Tryz.results44, go_sem, hz.1, hz.2], rfl, ?_⟩
            exact (g2.setCell (by simp only; omega) _).grown (grownBy_putObj' _ _ _) (Nat.le_trans g2.size (by simp [World.setCell])) (fun j e => by cases e; omega)
        case stop =>
          intro pre B hpre' hI hD
          obtain ⟨g2, g4, rfl⟩ := hI
          gi_wp2
          refine ⟨by simp, .inl ⟨_, _, rfl, run_takeDeferred hD, ?_⟩⟩
          have hz := put_box (o := .deferred none) g4 hlt1
          refine ⟨.bool false, by simp [results, Tryz.results44, go_sem, hz.1, hz.2], rfl, ?_⟩
          exact g2.grown (grownBy_putObj' _ _ _) g2.size (fun j e => by cases e; omega)
    · rw [decide_eq_false hp] at HPL
      obtain rfl : v = false := no (fun h => (And.intro (hvt h).2.2.1 (hvt h).2.2.2.1)) hp
      clear hv hvt no hr hz
      go_enter Tryz.func44, Tryz.ntmps44
      go_wp2_with fail
      obtain ⟨X, hX⟩ : ∃ X, ((w.alloc (.cells #[.int .i64 i] 3)).alloc (.cells #[.slice A ys.length c] 25)).alloc (.cells #[.bool false] 4) = X := ⟨_, rfl⟩
      have hx0 := boxes3 w (.int .i64 i) (.slice A ys.length c) (.bool false) 3 25 4
      rw [hX] at hx0
      obtain ⟨hx1, hx2, hx3, hx4, hx5⟩ := hx0
      have HWX := Lib.hid hx1
      have HXs := Lib.hid hx2
      have HXa := Lib.hid hx3
      have HXp := Lib.hid hx4
      have HXr := Lib.hid hx5
      have ca := cell_heap hx3
      have cr := cell_heap hx5
      have fr := frozen_heap hx5
      rw [hX]
      clear hX hx1 hx2 hx3 hx4 hx5
      with_reducible refine (HIM.out _).mono ?_
      rintro e w2 ⟨rfl, hw⟩
      obtain rfl : X = w2 := hw.symm
      dsimp only
      go_wp2_with fail
      with_reducible refine (HPL.out _).mono ?_
      rintro e w2 ⟨rfl, hw⟩
      obtain rfl : X = w2 := hw.symm
      dsimp only
      go_wp2
      refine bodyPost_ret (v := .bool false) (by simp [results, Tryz.results44, go_sem, cr, fr]) rfl ?_
      exact ⟨rfl, HWX.out.setCell (by simp only; omega) _⟩
  · rw [decide_eq_false hm] at HIM
    obtain rfl : v = false := no (fun h => (And.intro (hvt h).1 (hvt h).2.1)) hm
    clear hv hvt no hr hz
    go_enter Tryz.func44, Tryz.ntmps44
    go_wp2_with fail
    obtain ⟨X, hX⟩ : ∃ X, ((w.alloc (.cells #[.int .i64 i] 3)).alloc (.cells #[.slice A ys.length c] 25)).alloc (.cells #[.bool false] 4) = X := ⟨_, rfl⟩
    have hx0 := boxes3 w (.int .i64 i) (.slice A ys.length c) (.bool false) 3 25 4
    rw [hX] at hx0
    obtain ⟨hx1, hx2, hx3, hx4, hx5⟩ := hx0
    have HWX := Lib.hid hx1
    have HXs := Lib.hid hx2
    have HXa := Lib.hid hx3
    have HXp := Lib.hid hx4
    have HXr := Lib.hid hx5
    have ca := cell_heap hx3
    have cr := cell_heap hx5
    have fr := frozen_heap hx5
    rw [hX]
    clear hX hx1 hx2 hx3 hx4 hx5
    with_reducible refine (HIM.out _).mono ?_
    rintro e w2 ⟨rfl, hw⟩
    obtain rfl : X = w2 := hw.symm
    dsimp only
    go_wp2
    refine bodyPost_ret (v := .bool false) (by simp [results, Tryz.results44, go_sem, cr, fr]) rfl ?_
    exact ⟨rfl, HWX.out.setCell (by simp only; omega) _⟩
end Go.Proofs.YtmmeklemaofmjaaGreat.Tre

/-
  CONTRACTS of the laws' own helpers (letterlocklaw10): pick, who, same, light, row. By an AI agent; no person has read it.
-/
namespace Go.Proofs.YtmmeklemaofmjaaGreat.Tre
open Go Go.RowKit Wire Term Draw Reg Clo

set_option linter.unusedSimpArgs false
set_option linter.unusedVariables false
def pk (c : Int) (n : Nat) : Nat := (if c < 0 then (-(c + 1)).toNat else c.toNat) % n
theorem pk_lt (c : Int) {n : Nat} (hn : 0 < n) : pk c n < n := Nat.mod_lt _ hn
theorem pk_small {k n : Nat} (h : k < n) : pk (k : Int) n = k := by
  unfold pk
  rw [if_neg (by omega), show ((k : Int)).toNat = k by omega, Nat.mod_eq_of_lt h]
theorem row_cell {W : World} {b : Nat} {cs : Array Value} {T : TypeId} (h : W.heap[b]? = some (.cells cs T)) (j : Nat) : W.cell? ⟨b, j, none⟩ = cs[j]? := by
  simp only [World.cell?, h]
  simp
/-- One of eight names. -/
def whoB : List ByteArray := [⟨#[97, 110, 110, 97]⟩, ⟨#[98, 101, 110]⟩, ⟨#[99, 121]⟩, ⟨#[100, 111, 114, 97]⟩, ⟨#[101, 109, 105, 108]⟩, ⟨#[195, 164, 109, 105, 108]⟩, ⟨#[102, 97, 45, 49]⟩, ⟨#[103]⟩]
def whoN (m : Nat) : ByteArray := whoB.getD m ByteArray.empty
theorem who_inj {i j : Nat} (hi : i < 8) (hj : j < 8) (h : (whoN i).data.toList = (whoN j).data.toList) : i = j := by
  have : ∀ a : Fin 8, ∀ b : Fin 8, (whoN a.1).data.toList = (whoN b.1).data.toList → a.1 = b.1 := by decide +kernel
  exact this ⟨i, hi⟩ ⟨j, hj⟩ h
theorem who_size (m : Nat) : (whoN m).size ≤ 5 := by
  by_cases h : m < 8
  · have : ∀ a : Fin 8, (whoN a.1).size ≤ 5 := by decide +kernel
    exact this ⟨m, h⟩
  · have e : whoN m = ByteArray.empty := by
      unfold whoN
      rw [List.getD_eq_getElem?_getD, List.getElem?_eq_none (show whoB.length ≤ m by show 8 ≤ m; omega)]
      rfl
    rw [e]; decide
theorem wrap64_i64 (x : Int) : wrap64 x = IntKind.i64.wrap x := by
  rw [IntKind.wrap_i64]
  simp only [wrap64]
theorem sum_one {ys : List ByteArray} {y : ByteArray} (h : y ∈ ys) : y.size ≤ (bl ys).flatten.length := by
  induction ys with
  | nil => cases h
  | cons x t ih =>
    have e : (bl (x :: t)).flatten.length = x.size + (bl t).flatten.length := by rw [show x.size = x.data.toList.length from Lib.size_eq x]; simp [bl]
    rcases List.mem_cons.1 h with rfl | h
    · omega
    · have := ih h; omega
theorem sum_all {ys : List ByteArray} (h : ∀ y ∈ ys, y.size ≤ 140737488355328) : (bl ys).flatten.length ≤ 140737488355328 * ys.length := by
  induction ys with
  | nil => simp [bl]
  | cons x t ih =>
    have e : (bl (x :: t)).flatten.length = x.size + (bl t).flatten.length := by rw [show x.size = x.data.toList.length from Lib.size_eq x]; simp [bl]
    have h1 := h x (by simp)
    have h2 := ih (fun y hy => h y (by simp [hy]))
    rw [e, List.length_cons]; omega
theorem sum_step' {ys : List ByteArray} {k : Nat} {y : ByteArray} (hk : k < ys.length) (hy : ys.getD k ByteArray.empty = y) : (bl (ys.take (k + 1))).flatten.length = (bl (ys.take k)).flatten.length + y.size := by
  have e : ys[k] = y := by rw [← hy]; simp [List.getD, hk]
  rw [List.take_succ_eq_append_getElem hk, e]
  rw [show y.size = y.data.toList.length from Lib.size_eq y]
  simp [bl]
/-- Few terms, and short ones, if it says so. -/
def LightE (ys : List ByteArray) (e : Ending) : Prop := ∃ b : Bool, (b = true → ys.length ≤ 20 ∧ ∀ y ∈ ys, y.size ≤ 6000) ∧ e = .returned (.bool b)
theorem light_no (ys : List ByteArray) : LightE ys (.returned (.bool false)) := ⟨false, (fun h => by cases h), rfl⟩
set_option maxHeartbeats 4000000 in
set_option maxRecDepth 1000000 in
theorem light_any (a : Option Addr) (c : Nat) (ys : List ByteArray) (w : World) (hr : SReads w a ys) (hn : ys.length ≤ 140737488355328) (hz : ∀ y ∈ ys, y.size ≤ 140737488355328) :
    Calls Tryz.prog 5 #[.slice a ys.length c] w fun e w' => LightE ys e ∧ w = w' := by
  have HR := Lib.hid hr
  have HZ := Lib.hid hz
  clear hr hz
  go_enter Tryz.func5, Tryz.ntmps5
  go_wp2_with fail
  go_loopw [3, 4] (fun s i wr => ∃ (k : Nat) (V : Int), k ≤ ys.length ∧ i = .int .i64 k ∧ s = .int .i64 V ∧ wr = w ∧ Hid (ys.length ≤ 20 → V = ((bl (ys.take k)).flatten.length : Nat))) (fun _ i _ => ys.length - (intOf i).toNat)
  case atStart => exact ⟨0, 0, Nat.zero_le _, rfl, rfl, rfl, Lib.hid fun _ => by simp [bl]⟩
  case round =>
    obtain ⟨k, V, hk, rfl, rfl, rfl, HA⟩ := hrel
    by_cases hlt : k < ys.length
    · obtain ⟨b, off, rfl, hblt, hcell⟩ := HR.out k hlt
      obtain ⟨y, hy⟩ : ∃ y, ys.getD k ByteArray.empty = y := ⟨_, rfl⟩
      rw [hy] at hcell
      have HY := Lib.hid hy
      have HV : Hid (ys.length ≤ 20 → IntKind.i64.wrap (V + (y.size : Int)) = ((bl (ys.take (k + 1))).flatten.length : Nat)) := Lib.hid fun h => by
        have h1 := sum_step' hlt hy
        have h2 := sum_all (ys := ys.take (k + 1)) (fun y hy => HZ.out y (List.mem_of_mem_take hy))
        rw [List.length_take] at h2
        rw [HA.out h, IntKind.wrap_i64]
        omega
      clear hy
      go_wp2_with fail
      go_roundw
      case rel => exact ⟨k + 1, _, by omega, by go_num, rfl, by trivial, Lib.hid fun h => (wrap64_i64 _).trans (HV.out h)⟩
      case measure => simp [intOf]; omega
    · obtain rfl : k = ys.length := by omega
      have HV := HA.out
      rw [List.take_length] at HV
      by_cases h1 : (ys.length : Int) ≤ 20
      · by_cases h2 : V ≤ 6000
        · have HF : Hid (ys.length ≤ 20 ∧ ∀ y ∈ ys, y.size ≤ 6000) := ⟨by omega, fun y hy => by have := sum_one hy; have := HV (by omega); omega⟩
          clear HV
          go_wp2_with fail
          go_ret
          exact ⟨⟨_, fun _ => HF.out, rfl⟩, rfl⟩
        · clear HV
          go_wp2_with fail
          go_ret
          exact ⟨light_no ys, rfl⟩
      · clear HV
        go_wp2_with fail
        go_ret
        exact ⟨light_no ys, rfl⟩
theorem tdiv8_in {z : Int} (h1 : -9223372036854775808 ≤ z) (h2 : z ≤ 9223372036854775807) : -9223372036854775808 ≤ z.tdiv 8 ∧ z.tdiv 8 ≤ 9223372036854775807 := by
  rcases Int.le_total 0 z with h | h
  · rw [Int.tdiv_eq_ediv_of_nonneg h]; omega
  · obtain ⟨m, rfl⟩ : ∃ m : Int, z = -m := ⟨-z, by omega⟩
    rw [Int.neg_tdiv, Int.tdiv_eq_ediv_of_nonneg (by omega)]
    omega
/-- The leaf that a raw number speaks of. -/
def lfOf (z : Int) : Tm := lf (whoN (pk z 8)).data.toList (pk (z.tdiv 8) 4)
def rowL (zs : List Int) : List Tm := (zs.take 8).map lfOf
theorem who_len (m : Nat) : (whoN m).data.toList.length ≤ 100 := by have := who_size m; rw [Lib.size_eq] at this; omega
theorem lfOf_sz (z : Int) : Sz 2 (lfOf z) ∧ (lfOf z).length ≤ 121 := by
  have h4 := pk_lt (z.tdiv 8) (n := 4) (by decide)
  have := lf_sz (f := (whoN (pk z 8)).data.toList) (v := pk (z.tdiv 8) 4) (who_len _) (by omega)
  have h2 := who_len (pk z 8)
  exact ⟨this.1, by unfold lfOf; omega⟩
theorem lfOf_leaf (z : Int) : isLeaf (lfOf z) = true := by
  have h4 := pk_lt (z.tdiv 8) (n := 4) (by decide)
  exact lf_leaf (who_len _) (by omega)
theorem rowL_len (zs : List Int) : (rowL zs).length = min 8 zs.length := by simp [rowL]
theorem rowL_mem {zs : List Int} {t : Tm} (h : t ∈ rowL zs) : (Sz 2 t ∧ t.length ≤ 121) ∧ isLeaf t = true := by
  obtain ⟨z, _, rfl⟩ := List.mem_map.1 h
  exact ⟨lfOf_sz z, lfOf_leaf z⟩
theorem rowL_step {zs : List Int} {k : Nat} (hk : k < zs.length) (h8 : k < 8) : (zs.take (k + 1)).map lfOf = (zs.take k).map lfOf ++ [lfOf (zs.getD k 0)] := by
  rw [List.take_succ_eq_append_getElem hk, List.map_append]
  congr 1
  simp [List.getD, hk]
theorem Bel.call {w0 w1 w2 : World} (h : Below w0.heap.size w0 w1) (h2 : Below w1.heap.size w1 w2) : Below w0.heap.size w0 w2 := h.trans (h2.mono h.size)
theorem sr_fix {x : Tm} {f : Int} {e : Ending} (h : Sr (x, f) e) : e = .returned (.tuple #[.string ⟨⟨x⟩⟩, .int .i64 f]) := by
  obtain ⟨T, hT, rfl⟩ := h
  have hT' : T.data.toList = x := hT
  rw [show T = ⟨⟨x⟩⟩ from str_eq (by rw [hT'])]
/-- Leaves in a row of one's own. -/
def RowO (w : World) (x : List Tm) (v : Value) (wr : World) : Prop := ∃ ys : List ByteArray, bl ys = x ∧ wr.ownsRow w.heap.size 9 1 v ys.length (sv ys) ∧ Below w.heap.size w wr
end Go.Proofs.YtmmeklemaofmjaaGreat.Tre

/-
  THE CHAPTER's EXAMPLE (letterlocklaw10.shown); rows of leaves: what their tree is. By an AI agent; no person has read it.
-/
namespace Go.Proofs.YtmmeklemaofmjaaGreat.Tre
open Go Go.RowKit Wire Term Draw Reg Clo

set_option linter.unusedSimpArgs false
set_option linter.unusedVariables false
def ntB : ByteArray := ⟨#[110, 111, 116, 101, 115]⟩
/-- Of a row of small leaves: its tree, proofs. -/
theorem small_root {l : List Tm} (h1 : 1 ≤ l.length) (h8 : l.length ≤ 8) (hl : ∀ t ∈ l, (Sz 2 t ∧ t.length ≤ 121) ∧ isLeaf t = true) : ∃ x, root l = (x, 0) ∧ treeD 4 l = (x, 0) ∧ right x = true ∧ x.headD 0 = 104 ∧ x.length ≤ 4000 := by
  obtain ⟨x, e1, e2, e3, e4⟩ := root_small h1 h8 (fun t h => (hl t h).1) (fun t h => (hl t h).2)
  exact ⟨x, e1, e2, e3, e4, (right_len e3).2⟩
theorem root_to {l : List Tm} {x : Tm} (he : root l = (x, 0)) {A : Option Addr} {c : Nat} {ys : List ByteArray} (hy : bl ys = l) (hc : ys.length ≤ c) (hc2 : c ≤ 9223372036854775807) (hz : ∀ t ∈ l, t.length ≤ 140737488355328) (w : World) (hr : SReads w A ys) :
    Calls Tryz.prog 50 #[.slice A ys.length c] w fun e w' => Sr (x, 0) e ∧ Below w.heap.size w w' := by
  have := croot_any A c ys w hr hc hc2 (fun y hy' => by rw [Lib.size_eq]; exact hz _ (by rw [← hy]; exact List.mem_map.2 ⟨y, hy', rfl⟩))
  rw [hy, he] at this
  exact this
theorem nt_sz : Sz 2 (lf ntB.data.toList 1) ∧ (lf ntB.data.toList 1).length ≤ 26 := by
  have := lf_sz (f := ntB.data.toList) (v := 1) (by decide) (by decide)
  exact ⟨this.1, this.2⟩
theorem nt_root : root [lf ntB.data.toList 1] = (104 :: lf ntB.data.toList 1, 0) := by
  have h := nt_sz
  unfold root
  rw [if_neg (by decide), if_neg (fun h => h (fun t ht => by rw [List.mem_singleton.1 ht]; exact lf_leaf (by decide) (by decide))), treeD_succ, if_pos (show [lf ntB.data.toList 1].length = 1 from rfl)]
  exact one_is h.1 (Nat.le_trans h.2 (by decide))
theorem nt_ver : verifyT (104 :: lf ntB.data.toList 1) ((1 : Nat) : Int) ((0 : Nat) : Int) (lf ntB.data.toList 1) [] = true := by
  have h := nt_sz
  have e := verify_yes (l := [lf ntB.data.toList 1]) (r := 104 :: lf ntB.data.toList 1) (i := 0) (by decide) (by decide) (by decide) (fun t ht => by rw [List.mem_singleton.1 ht]; exact lf_leaf (by decide) (by decide)) (by rw [treeD_succ, if_pos (show [lf ntB.data.toList 1].length = 1 from rfl)]; exact one_is h.1 (Nat.le_trans h.2 (by decide)))
  exact e
theorem ob_row {w w' : World} {x : List Tm} {e : Ending} (h : Ob w w' x e) : ∃ (A : Option Addr) (c : Nat) (ys : List ByteArray), bl ys = x ∧ (ys.length ≤ c ∧ c ≤ 9223372036854775807) ∧ SReads w' A ys ∧ (w'.ownsRow w.heap.size 9 1 (.slice A ys.length c) ys.length (sv ys)) ∧ e = .returned (.slice A ys.length c) := by
  obtain ⟨v, ys, h1, h2, rfl⟩ := h
  obtain ⟨A, c, rfl⟩ := own_value h2
  obtain ⟨h3, _, h4⟩ := sreads_own h2
  refine ⟨A, c, ys, h1, ⟨h4, ?_⟩, h3, h2, rfl⟩
  rcases h2.2 with ⟨hv, _⟩ | ⟨g, cap, cur, hv, _, _, _, hm, _⟩
  · injection hv with _ _ e3; rw [e3]; omega
  · injection hv with _ _ e3; rw [e3]; exact hm
theorem pb_row {w w' : World} {x : List Tm} {f : Int} {e : Ending} (h : Pb w w' (x, f) e) : ∃ (A : Option Addr) (c : Nat) (ys : List ByteArray), bl ys = x ∧ (ys.length ≤ c ∧ c ≤ 9223372036854775807) ∧ SReads w' A ys ∧ (w'.ownsRow w.heap.size 9 1 (.slice A ys.length c) ys.length (sv ys)) ∧ e = .returned (.tuple #[.slice A ys.length c, .int .i64 f]) := by
  obtain ⟨v, ys, h1, h2, rfl⟩ := h
  obtain ⟨A, c, ys', e1, e2, e3, e4, e5⟩ := ob_row (e := .returned v) ⟨v, ys, h1, h2, rfl⟩
  injection e5 with e5
  subst e5
  exact ⟨A, c, ys', e1, e2, e3, e4, rfl⟩
theorem rowL_small {zs : List Int} : ∀ t ∈ rowL zs, (Sz 2 t ∧ t.length ≤ 121) ∧ isLeaf t = true := fun t h => rowL_mem h
theorem bl_sizes {ys : List ByteArray} {l : List Tm} (h : bl ys = l) (hl : ∀ t ∈ l, (Sz 2 t ∧ t.length ≤ 121) ∧ isLeaf t = true) : ∀ y ∈ ys, y.size ≤ 121 := fun y hy => by
  rw [Lib.size_eq]; exact (hl _ (by rw [← h]; exact List.mem_map.2 ⟨y, hy, rfl⟩)).1.2
theorem bl_length {ys : List ByteArray} {l : List Tm} (h : bl ys = l) : ys.length = l.length := by rw [← h]; simp [bl]
theorem two_to {a b : Tm} {x : Tm × Int} (he : two 112 a b = x) {S T : ByteArray} (hS : S.data.toList = a) (hT : T.data.toList = b) (ha : a.length ≤ 4000) (hb : b.length ≤ 4000) (w : World) :
    Calls Tryz.prog 68 #[.string S, .string T] w fun e w' => Sr x e ∧ Below w.heap.size w w' := by
  have := t_OfPair S T w (by rw [Lib.size_eq, hS]; omega) (by rw [Lib.size_eq, hT]; omega)
  rw [hS, hT, he] at this
  exact this
theorem one_to {a : Tm} {x : Tm × Int} (he : one 104 a = x) {S : ByteArray} (hS : S.data.toList = a) (ha : a.length ≤ 4000) (w : World) :
    Calls Tryz.prog 72 #[.string S] w fun e w' => Sr x e ∧ Below w.heap.size w w' := by
  have := t_OfHash S w (by rw [Lib.size_eq, hS]; omega)
  rw [hS, he] at this
  exact this
/-- Of a row of more than one: its tree is over both its trees. -/
theorem small_two {l : List Tm} (h1 : 2 ≤ l.length) (h8 : l.length ≤ 8) (hl : ∀ t ∈ l, (Sz 2 t ∧ t.length ≤ 121) ∧ isLeaf t = true) : ∃ R a b p, root l = (R, 0) ∧ root (l.take (fst l.length)) = (a, 0) ∧ root (l.drop (fst l.length)) = (b, 0) ∧ two 112 a b = (p, 0) ∧ one 104 p = (R, 0) ∧ a.length ≤ 4000 ∧ b.length ≤ 4000 ∧ p.length ≤ 4000 ∧ R.length ≤ 4000 := by
  obtain ⟨k0, k1⟩ := fst_lt (n := l.length) h1 h8
  obtain ⟨p1, p2, _, _, _⟩ := fst_half (n := l.length) (d := 2) h1 (by omega) (by omega)
  have lt1 : (l.take (fst l.length)).length = fst l.length := by rw [List.length_take]; omega
  have ld1 : (l.drop (fst l.length)).length = l.length - fst l.length := List.length_drop
  obtain ⟨R, r1, r2, r3, _, r5⟩ := small_root (by omega) h8 hl
  obtain ⟨a, a1, a2, a3, _, a5⟩ := small_root (l := l.take (fst l.length)) (by omega) (by omega) (fun t h => hl t (List.mem_of_mem_take h))
  obtain ⟨b, b1, b2, b3, _, b5⟩ := small_root (l := l.drop (fst l.length)) (by omega) (by omega) (fun t h => hl t (List.mem_of_mem_drop h))
  obtain ⟨_, _, e0⟩ := tree_two (d := 3) (l := l) (by omega) (by rw [r2])
  rw [tree_four (d := 2) (l := l.take (fst l.length)) (by omega) (by omega) (by omega), tree_four (d := 2) (l := l.drop (fst l.length)) (by omega) (by omega) (by omega), a2, b2, r2] at e0
  have e1 : over a b = (R, 0) := e0.symm
  rcases over_or a b with ⟨_, x1, x2, x3, x4, x5⟩ | ⟨x1, _⟩
  · rw [x5] at e1
    refine ⟨R, a, b, 112 :: (a ++ b), r1, a1, b1, ?_, ?_, a5, b5, (right_len x3).2, r5⟩
    · unfold two; rw [if_pos ⟨x1, x2⟩]; exact made_yes x3
    · unfold one; rw [if_pos x3, made_yes x4]; exact e1
  · rw [e1] at x1; exact absurd rfl x1
theorem small_one {a : Tm} (h : (Sz 2 a ∧ a.length ≤ 121) ∧ isLeaf a = true) : root [a] = (104 :: a, 0) ∧ one 104 a = (104 :: a, 0) := by
  have h1 := one_is h.1.1 h.1.2
  refine ⟨?_, h1⟩
  unfold root
  rw [if_neg (by simp), if_neg (fun hh => hh (fun t ht => by rw [List.mem_singleton.1 ht]; exact h.2)), treeD_succ, if_pos (show [a].length = 1 from rfl)]
  exact h1
end Go.Proofs.YtmmeklemaofmjaaGreat.Tre

/-
  A ROW OF TEXTS APPENDED to a row of one's own; rows that a call lays. By an AI agent; no person has read it.
-/
namespace Go.Proofs.YtmmeklemaofmjaaGreat.Tre
open Go Go.RowKit Wire Term Draw Reg Clo

theorem own_none {w : World} {base : Nat} {e : TypeId} {a : Option Addr} {n c : Nat} {xs : List Value} (h : w.ownsRow base e 1 (.slice a n c) n xs) : a = none → c = 0 := by
  rintro rfl
  rcases h.2 with ⟨hv, _⟩ | ⟨g, cap, _, hv, _⟩
  · injection hv
  · injection hv with h1; cases h1
theorem own_empty (w : World) : (w.alloc (.cells #[] 9)).ownsRow w.heap.size 9 1 (.slice (some ⟨w.heap.size, 0, none⟩) 0 0) 0 (sv []) := by
  have := World.ownsRow_lit (base := w.heap.size) (e := 9) (size := 1) w #[] 0 (Nat.le_refl _) (by decide) (by decide)
  simpa [sv] using this
theorem own_lit (w : World) (ys : List ByteArray) (n : Nat) (hn : n = ys.length) (h : n ≤ 100) : (w.alloc (.cells (sv ys).toArray 9)).ownsRow w.heap.size 9 1 (.slice (some ⟨w.heap.size, 0, none⟩) n n) n (sv ys) := by
  subst hn
  have := World.ownsRow_lit (base := w.heap.size) (e := 9) (size := 1) w (sv ys).toArray ys.length (Nat.le_refl _) (by unfold maxLen; omega) (by simp [sv])
  simpa using this
/-- 'append(own, others...)', the others nil or not: an own row of both; below the base all stands. -/
theorem append_strs {w : World} {ops : Array Oper} {rest : List Oper} {o : Oper} {a : Act} {Q : Exit → Act → World → Prop} (hgd : o.guard = none) (s x : Operand)
    (ho : o.op = .call { callee := .builtin .append, args := #[s, x], argTypes := #[25, 25] }) (base : Nat)
    (v : Value) (k : Nat) (xs zs : List ByteArray) (hs : a.eval s = v) (hown : w.ownsRow base 9 1 v k (sv xs)) (hk : k = xs.length)
    (b : Option Addr) (n c : Nat) (hx : a.eval x = .slice b n c) (hn : n = zs.length) (hnil : b = none → c = 0) (hr : SReads w b zs)
    (hlen : k + zs.length ≤ 1000) (hbase : base ≤ w.heap.size)
    (h : ∀ v' w', w'.ownsRow base 9 1 v' (k + n) (sv (xs ++ zs)) → Below base w w' → wpList Tryz.prog ops Q rest (a.put o.dst v') w') : wpList Tryz.prog ops Q (o :: rest) a w := by
  obtain ⟨i0, hi0, hz0, hz1, hz2⟩ := info_parts str_info
  subst hn
  cases b with
  | none =>
    have hz : zs = [] := by
      cases zs with
      | nil => rfl
      | cons z t => obtain ⟨_, _, he, _⟩ := hr 0 (by simp); cases he
    subst hz
    rw [hnil rfl] at hx
    refine wpList_append_own_none hgd s x 25 ho base 9 i0 1 Tryz.underlying25 hi0 v k (sv xs) hs hown hx ?_
    exact h v w (by simpa [sv] using hown) (Below.refl _ _)
  | some ad =>
    refine wpList_append_own _ hgd s x 25 ho base 9 i0 _ 1 16 Tryz.underlying25 hi0 hz0 hz1 hz2 rfl (by decide) v k (sv xs) hs hown ad zs.length c (sv zs) hx (by simp [sv]) ?_ (sv_one zs) (by simp only [maxLen]; omega) (by omega) hbase ?_
    · intro j u hj
      have hjl : j < zs.length := by have := (List.getElem?_eq_some_iff.1 hj).1; simpa [sv] using this
      obtain ⟨b', o', he, _, hc⟩ := hr j hjl
      obtain rfl := Option.some.inj he
      have hu : u = .string (zs.getD j ByteArray.empty) := by
        simp [sv, hjl] at hj
        rw [← hj]; simp [List.getD, hjl]
      rw [hu, show ((⟨b', o', none⟩ : Addr).add j) = ⟨b', o' + j, none⟩ from by unfold Addr.add; split <;> simp_all]
      exact hc
    · intro v' w' hown' hgrow _
      exact h v' w' (by simpa [sv] using hown') (Below.grown (Below.refl _ _) hgrow hbase fun q hq => (hown.lt q hq).1)
/-- A row of one's own as a slice. -/
theorem own_row {w0 w : World} {v : Value} {ys : List ByteArray} (h : w.ownsRow w0.heap.size 9 1 v ys.length (sv ys)) : ∃ (A : Option Addr) (c : Nat), v = .slice A ys.length c ∧ SReads w A ys ∧ (ys.length ≤ c ∧ c ≤ 9223372036854775807) ∧ (A = none → c = 0) := by
  obtain ⟨A, c, rfl⟩ := own_value h
  obtain ⟨h3, _, h4⟩ := sreads_own h
  refine ⟨A, c, rfl, h3, ⟨h4, ?_⟩, own_none h⟩
  rcases h.2 with ⟨hv, _⟩ | ⟨g, cap, cur, hv, _, _, _, hm, _⟩
  · injection hv with _ _ e3; rw [e3]; omega
  · injection hv with _ _ e3; rw [e3]; exact hm
end Go.Proofs.YtmmeklemaofmjaaGreat.Tre

/-
  WHAT THE LAWS LEAN ON: trees of rows that are none, leaves told. By an AI agent; no person has read it.
-/
namespace Go.Proofs.YtmmeklemaofmjaaGreat.Tre
open Go Go.RowKit Wire Term Draw Reg Clo

set_option linter.unusedSimpArgs false
set_option linter.unusedVariables false
theorem bad_root {xs : List Tm} {s : Tm} (h : isLeaf s = false) (hs : s ∈ xs) : root xs = ([], 1) := by
  unfold root
  split
  · rfl
  · rw [if_pos (fun hh => by rw [hh s hs] at h; cases h)]
theorem many_root {xs : List Tm} (h : xs.length < 1 ∨ 8 < xs.length) : root xs = ([], 1) := by
  unfold root
  rw [if_pos h]
theorem bad_proof {xs : List Tm} {i : Int} (h : root xs = ([], 1)) : proofT xs i = ([], 1) := by
  unfold proofT
  rw [h, if_pos (show ¬ (1 : Int) = 0 by decide)]
theorem place_proof {xs : List Tm} {i : Int} {x : Tm} (h : root xs = (x, 0)) (hi : i < 0 ∨ (xs.length : Int) ≤ i) : proofT xs i = ([], 1) := by
  unfold proofT
  rw [h, if_neg (fun h => h rfl), if_pos hi]
theorem good_proof {xs : List Tm} {i : Int} {x : Tm} (h : root xs = (x, 0)) (hi : ¬ (i < 0 ∨ (xs.length : Int) ≤ i)) : proofT xs i = (besideD 4 xs i.toNat, 0) := by
  unfold proofT
  rw [h, if_neg (fun h => h rfl), if_neg hi]
theorem ver_bad {r t : Tm} {n i : Int} {p : List Tm} (h : isLeaf t = false) : verifyT r n i t p = false := decide_eq_false (fun hh => by rw [hh.2.2.2.2.1] at h; cases h)
theorem leaf_cases (s : ByteArray) (hs : s.size ≤ 140737488355328) :
    (isLeaf s.data.toList = false ∧ ∀ w, Calls Tryz.prog 91 #[.string s] w fun e w' => Ta ([], 1) e w' ∧ Below w.heap.size w w') ∨
    (isLeaf s.data.toList = false ∧ (∃ P, ∀ w, Calls Tryz.prog 91 #[.string s] w fun e w' => Ta (P, 0) e w' ∧ Below w.heap.size w w') ∧ ∃ k : Nat, k ≠ 112 ∧ ∀ w, Calls Tryz.prog 39 #[.string s] w fun e w' => e = .returned (.int .u8 (k : Int)) ∧ Below w.heap.size w w') ∨
    (∃ (p q : Tm) (ka kb : Nat), isLeaf s.data.toList = (decide (ka = 116) && decide (kb = 97)) ∧ (∀ w, Calls Tryz.prog 91 #[.string s] w fun e w' => Ta ([p, q], 0) e w' ∧ Below w.heap.size w w') ∧
      (∀ w, Calls Tryz.prog 39 #[.string s] w fun e w' => e = .returned (.int .u8 112) ∧ Below w.heap.size w w') ∧
      (∀ (P : ByteArray) w, P.data.toList = p → Calls Tryz.prog 39 #[.string P] w fun e w' => e = .returned (.int .u8 (ka : Int)) ∧ Below w.heap.size w w') ∧
      (∀ (P : ByteArray) w, P.data.toList = q → Calls Tryz.prog 39 #[.string P] w fun e w' => e = .returned (.int .u8 (kb : Int)) ∧ Below w.heap.size w w')) := by
  cases hr : right s.data.toList with
  | false =>
    left
    refine ⟨?_, fun w => ?_⟩
    · unfold isLeaf; rw [kind_wrong hr]; rfl
    · have := t_Parts s w hs
      rw [parts_wrong hr] at this
      exact this
  | true =>
    right
    have hpp : parts s.data.toList = (pts s.data.toList, 0) := by unfold pts parts; rw [if_pos hr]
    by_cases hk : kind s.data.toList = 112
    · right
      have hh : s.data.toList.headD 0 = 112 := by
        rw [kind_right hr] at hk
        exact UInt8.toNat_inj.1 hk
      obtain ⟨p, q, hpq, hp, hq⟩ : ∃ a b, pts s.data.toList = [a, b] ∧ right a = true ∧ right b = true := by
        cases hx : s.data.toList with
        | nil => rw [hx] at hh; exact absurd hh (by decide)
        | cons k r =>
          rw [hx] at hh hr
          have h1 : k = 112 := hh
          subst h1
          obtain ⟨y, z, e1, e2, e3, e4, _⟩ := pts_two hr (.inl rfl)
          exact ⟨y, z, e2, e3, e4⟩
      have l1 := right_len hp
      have l2 := right_len hq
      refine ⟨p, q, kind p, kind q, ?_, fun w => ?_, fun w => ?_, fun P w hP => ?_, fun P w hP => ?_⟩
      · unfold isLeaf
        rw [hk, hpq, kind_right hp, kind_right hq]
        have e1 : decide (p.headD 0 = 116) = decide ((p.headD 0).toNat = 116) := decide_eq_decide.2 ⟨fun h => by rw [h]; rfl, fun h => UInt8.toNat_inj.1 h⟩
        have e2 : decide (q.headD 0 = 97) = decide ((q.headD 0).toNat = 97) := decide_eq_decide.2 ⟨fun h => by rw [h]; rfl, fun h => UInt8.toNat_inj.1 h⟩
        rw [← e1, ← e2]
        rfl
      · have := t_Parts s w hs
        rw [hpp, hpq] at this
        exact this
      · have := t_Kind s w hs
        rw [hk] at this
        exact this
      · have := t_Kind P w (by rw [Lib.size_eq, hP]; omega)
        rw [hP] at this
        exact this
      · have := t_Kind P w (by rw [Lib.size_eq, hP]; omega)
        rw [hP] at this
        exact this
    · left
      refine ⟨?_, ⟨pts s.data.toList, fun w => ?_⟩, kind s.data.toList, hk, fun w => t_Kind s w hs⟩
      · unfold isLeaf; rw [decide_eq_false hk]; rfl
      · have := t_Parts s w hs
        rw [hpp] at this
        exact this
theorem sz_snoc {qs : List ByteArray} {s : ByteArray} (h : ∀ y ∈ qs, y.size ≤ 140737488355328) (hs : s.size ≤ 140737488355328) : ∀ y ∈ qs ++ [s], y.size ≤ 140737488355328 := fun y hy => by
  rcases List.mem_append.1 hy with h1 | h1
  · exact h y h1
  · rw [List.mem_singleton.1 h1]; exact hs
theorem sz_cons {qs : List ByteArray} {s : ByteArray} (h : ∀ y ∈ qs, y.size ≤ 140737488355328) (hs : s.size ≤ 140737488355328) : ∀ y ∈ s :: qs, y.size ≤ 140737488355328 := fun y hy => by
  rcases List.mem_cons.1 hy with h1 | h1
  · rw [h1]; exact hs
  · exact h y h1
theorem two_cells {w : World} {g o : Nat} {a b : ByteArray} (h : SReads w (some ⟨g, o, none⟩) [a, b]) : w.cell? ⟨g, o, none⟩ = some (.string a) ∧ w.cell? ⟨g, o + 1, none⟩ = some (.string b) := by
  obtain ⟨g', o', e, _, h0, h1⟩ := two_reads h
  injection e with e
  injection e with e1 e2 _
  subst e1; subst e2
  exact ⟨h0, h1⟩
theorem root_any_to {l : List Tm} {x : Tm × Int} (he : root l = x) {A : Option Addr} {c : Nat} {ys : List ByteArray} (hy : bl ys = l) (hc : ys.length ≤ c ∧ c ≤ 9223372036854775807) (hz : ∀ y ∈ ys, y.size ≤ 140737488355328) (w : World) (hr : SReads w A ys) :
    Calls Tryz.prog 50 #[.slice A ys.length c] w fun e w' => Sr x e ∧ Below w.heap.size w w' := by
  have := croot_any A c ys w hr hc.1 hc.2 hz
  rw [hy, he] at this
  exact this
end Go.Proofs.YtmmeklemaofmjaaGreat.Tre

/-
  THE LAW TreeOne, walked. By an AI agent; no person has read it.
-/
namespace Go.Proofs.YtmmeklemaofmjaaGreat.Tre
open Go Go.RowKit Wire Term Draw Reg Clo

set_option linter.unusedSimpArgs false
set_option linter.unusedVariables false
def otB : ByteArray := ⟨#[111, 116, 104, 101, 114]⟩
def otL : Tm := lf otB.data.toList 3
theorem ot_small : (Sz 2 otL ∧ otL.length ≤ 121) ∧ isLeaf otL = true := by
  have := lf_sz (f := otB.data.toList) (v := 3) (by decide) (by decide)
  exact ⟨⟨this.1, Nat.le_trans this.2 (by decide)⟩, lf_leaf (by decide) (by decide)⟩
theorem ot_not (z : Int) : lfOf z ≠ otL := fun h => by
  have h4 := pk_lt (z.tdiv 8) (n := 4) (by decide)
  have h8 := pk_lt z (n := 8) (by decide)
  have := (lf_inj (who_len _) (by decide) (by omega) (by decide) h).1
  have hh : ∀ a : Fin 8, (whoN a.1).data.toList ≠ otB.data.toList := by decide +kernel
  exact hh ⟨pk z 8, h8⟩ this
theorem rowL_not {zs : List Int} : ∀ t ∈ rowL zs, t ≠ otL := fun t h => by
  obtain ⟨z, _, rfl⟩ := List.mem_map.1 h
  exact ot_not z
theorem root_ok {l : List Tm} {x : Tm} (h : root l = (x, 0)) : 1 ≤ l.length ∧ l.length ≤ 8 ∧ (∀ t ∈ l, isLeaf t = true) ∧ treeD 4 l = (x, 0) := by
  unfold root at h
  split at h
  · have := (Prod.mk.inj h).2; exact absurd this (show ¬ (1 : Int) = 0 by decide)
  · split at h
    · have := (Prod.mk.inj h).2; exact absurd this (show ¬ (1 : Int) = 0 by decide)
    · rename_i h1 h2
      exact ⟨by omega, by omega, Classical.not_not.1 h2, h⟩
theorem root_inj {l l' : List Tm} {x : Tm} (h : root l = (x, 0)) (h' : root l' = (x, 0)) : l = l' := by
  obtain ⟨a1, a2, a3, a4⟩ := root_ok h
  obtain ⟨b1, b2, b3, b4⟩ := root_ok h'
  exact tree_inj a3 b3 a1 a2 b1 b2 a4 b4
theorem root_differ {l l' : List Tm} {x y : Tm} (h : root l = (x, 0)) (h' : root l' = (y, 0)) (hl : l ≠ l') : x ≠ y := fun e => hl (root_inj h (by rw [e]; exact h'))
theorem own_frozen {w : World} {base : Nat} {e : TypeId} {g n c size : Nat} {xs : List Value} (h : w.ownsRow base e size (.slice (some ⟨g, 0, none⟩) n c) n xs) (j : Nat) : w.frozen? ⟨g, j, none⟩ = false := by
  rcases h.2 with ⟨h', _⟩ | ⟨g', cap', cur, h', hb, hg, _⟩
  · simp at h'
  · simp only [Value.slice.injEq, Option.some.injEq, Addr.mk.injEq, and_true, true_and] at h'
    obtain ⟨rfl, rfl⟩ := h'
    simp only [World.frozen?, hg]
    simp
theorem own_cap {w : World} {base : Nat} {e : TypeId} {g n c size : Nat} {xs : List Value} (h : w.ownsRow base e size (.slice (some ⟨g, 0, none⟩) n c) n xs) : c ≤ 9223372036854775807 := by
  rcases h.2 with ⟨h', _⟩ | ⟨g', cap', cur, h', hb, hg, _, hm, _⟩
  · simp at h'
  · simp only [Value.slice.injEq, Option.some.injEq, Addr.mk.injEq, and_true, true_and] at h'
    obtain ⟨rfl, rfl⟩ := h'
    exact hm
theorem sv_set (ys : List ByteArray) (j : Nat) (O : ByteArray) : (sv ys).set j (.string O) = sv (ys.set j O) := by
  simp [sv, List.map_set]
theorem bl_set (ys : List ByteArray) (j : Nat) (O : ByteArray) : bl (ys.set j O) = (bl ys).set j O.data.toList := by
  simp [bl, List.map_set]
end Go.Proofs.YtmmeklemaofmjaaGreat.Tre

/-
  WHAT TreeProves LEANS ON: which leaf, which proof, which place is taken. By an AI agent; no person has read it.
-/
namespace Go.Proofs.YtmmeklemaofmjaaGreat.Tre
open Go Go.RowKit Wire Term Draw Reg Clo

set_option linter.unusedSimpArgs false
set_option linter.unusedVariables false
def ot (v : Nat) : Tm := lf otB.data.toList v
theorem ot_sm {v : Nat} (hv : v < 9) : (Sz 2 (ot v) ∧ (ot v).length ≤ 121) ∧ isLeaf (ot v) = true := by
  have := lf_sz (f := otB.data.toList) (v := v) (by decide) (by omega)
  exact ⟨⟨this.1, Nat.le_trans this.2 (by decide)⟩, lf_leaf (by decide) (by omega)⟩
theorem ot_non (z : Int) {v : Nat} (hv : v < 9) : lfOf z ≠ ot v := fun h => by
  have h4 := pk_lt (z.tdiv 8) (n := 4) (by decide)
  have h8 := pk_lt z (n := 8) (by decide)
  have := (lf_inj (who_len _) (by decide) (by omega) (by omega) h).1
  have hh : ∀ a : Fin 8, (whoN a.1).data.toList ≠ otB.data.toList := by decide +kernel
  exact hh ⟨pk z 8, h8⟩ this
theorem rowL_non {zs : List Int} : ∀ t ∈ rowL zs, ∀ v, v < 9 → ot v ≠ t := fun t h v hv e => by
  obtain ⟨z, _, rfl⟩ := List.mem_map.1 h
  exact ot_non z hv e.symm
theorem beside_len : ∀ {d : Nat} {l : List Tm} {i : Nat}, d ≤ 3 → 1 ≤ l.length → l.length ≤ 2 ^ d → (besideD (d + 1) l i).length ≤ d
  | 0, l, i, _, h1, h2 => by
    have h2' : l.length ≤ 1 := h2
    rw [besideD_succ, if_pos (by omega)]; exact Nat.le_refl _
  | d + 1, l, i, hd, h1, h2 => by
    rw [besideD_succ]
    by_cases hl : l.length = 1
    · rw [if_pos hl]; exact Nat.zero_le _
    · rw [if_neg hl]
      obtain ⟨p1, p2, p3, _, _⟩ := fst_half (n := l.length) (d := d) (by omega) (by omega) h2
      obtain ⟨k0, k1⟩ := fst_lt (n := l.length) (by omega) p3
      have lt1 : (l.take (fst l.length)).length = fst l.length := by rw [List.length_take]; omega
      have ld1 : (l.drop (fst l.length)).length = l.length - fst l.length := List.length_drop
      split
      · have := beside_len (d := d) (l := l.take (fst l.length)) (i := i) (by omega) (by omega) (by omega)
        rw [List.length_append, List.length_singleton]; omega
      · have := beside_len (d := d) (l := l.drop (fst l.length)) (i := i - fst l.length) (by omega) (by omega) (by omega)
        rw [List.length_append, List.length_singleton]; omega
theorem beside_none {l : List Tm} {i : Nat} : besideD 4 l i = [] ↔ l.length = 1 := by
  rw [besideD_succ]
  constructor
  · intro h
    by_cases hl : l.length = 1
    · exact hl
    · rw [if_neg hl] at h
      split at h <;> exact absurd h (by simp)
  · intro h; rw [if_pos h]
theorem over_grow {a b : Tm} (hb : b ≠ []) (h : (over a b).1 = b) : False := by
  rcases over_or a b with ⟨_, _, _, _, _, h2⟩ | ⟨_, h2⟩
  · rw [h2] at h
    have := congrArg List.length h
    simp only [List.length_cons, List.length_append] at this
    omega
  · rw [h2] at h; exact hb h.symm
theorem ver_twice {x t : Tm} (hx : right x = true) : verifyT x 2 0 t [x] = false := decide_eq_false fun h => by
  have e := h.2.2.2.2.2.2.2
  have hne : x ≠ [] := (right_iff.1 hx).1
  have e2 : upD 4 2 0 t [x] = (over (upD 3 1 0 t []) x).1 := rfl
  exact over_grow hne (e2.symm.trans e)
theorem ver_more {x t : Tm} (hx : right x = true) : verifyT x 1 0 t [x] = false := decide_eq_false fun h => by
  have e := h.2.2.2.2.2.2.2
  have hne : x ≠ [] := (right_iff.1 hx).1
  have e2 : upD 4 1 0 t [x] = [] := rfl
  exact hne (e.symm.trans e2)
theorem ver_place {x t : Tm} {n i : Int} {p : List Tm} (h : ¬ (0 ≤ i ∧ i < n)) : verifyT x n i t p = false := decide_eq_false fun hh => h ⟨hh.2.2.1, hh.2.2.2.1⟩
/-- What the tree of a row of small leaves takes, and what it doesn't. -/
theorem row_proves {l : List Tm} {x : Tm} {k : Nat} (h1 : 1 ≤ l.length) (h8 : l.length ≤ 8) (hs : ∀ t ∈ l, (Sz 2 t ∧ t.length ≤ 121) ∧ isLeaf t = true) (hr : root l = (x, 0)) (hk : k < l.length) :
    ∃ P : List Tm, proofT l (k : Int) = (P, 0) ∧ verifyT x (l.length : Int) (k : Int) (l.getD k []) P = true ∧ (∀ t, t ≠ l.getD k [] → verifyT x (l.length : Int) (k : Int) t P = false) ∧
      (∀ p, p ≠ P → verifyT x (l.length : Int) (k : Int) (l.getD k []) p = false) ∧ verifyT (104 :: x) (l.length : Int) (k : Int) (l.getD k []) P = false ∧ P.length ≤ 3 ∧ (P = [] ↔ l.length = 1) ∧
      (∀ y ∈ P, y.length ≤ 4000) ∧ right x = true ∧ x.length ≤ 4000 := by
  obtain ⟨_, _, hf, ht⟩ := root_ok hr
  have hx := (tree_head ht (by omega)).2
  have only : ∀ t p, verifyT x (l.length : Int) (k : Int) t p = true → t = l.getD k [] ∧ p = besideD 4 l k := fun t p h => verify_only h1 h8 hk ht h
  have no : ∀ {b : Bool}, (b = true → False) → b = false := fun {b} h => by cases b with
    | false => rfl
    | true => exact (h rfl).elim
  refine ⟨besideD 4 l k, good_proof hr (by omega), verify_yes h1 h8 hk hf ht, fun t h => no fun e => h (only _ _ e).1, fun p h => no fun e => h (only _ _ e).2, ?_, beside_len (by omega) h1 h8, beside_none, fun y hy => (right_len (beside_right h1 h8 hk (by rw [ht]) y hy)).2, hx, (right_len hx).2⟩
  refine decide_eq_false fun h => ?_
  have e := h.2.2.2.2.2.2.2
  rw [show ((l.length : Int)).toNat = l.length by omega, show ((k : Int)).toNat = k by omega, up_beside h1 h8 hk (by rw [ht]), ht] at e
  have e1 : x = 104 :: x := e
  have := congrArg List.length e1
  rw [List.length_cons] at this
  omega
theorem set_ne {P : List Tm} {m : Nat} (hm : m < P.length) : P.set m (104 :: P.getD m []) ≠ P := fun e => by
  have h1 := congrArg (fun l => (l[m]?.getD []).length) e
  simp [hm] at h1
theorem tail_ne {P : List Tm} (h : P ≠ []) : P.drop 1 ≠ P := fun e => by
  cases P with
  | nil => exact h rfl
  | cons a t => have := congrArg List.length e; simp at this
theorem snoc_ne {P : List Tm} {x : Tm} : P ++ [x] ≠ P := fun e => by
  have := congrArg List.length e; simp at this
theorem getD_bl {ys : List ByteArray} {j : Nat} : (ys.getD j ByteArray.empty).data.toList = (bl ys).getD j [] := by
  simp only [bl, List.getD, List.getElem?_map]
  cases ys[j]? <;> rfl
theorem cell_at {w : World} {g o j : Nat} {ys : List ByteArray} (h : SReads w (some ⟨g, o, none⟩) ys) (hj : j < ys.length) : w.cell? ⟨g, o + j, none⟩ = some (.string (ys.getD j ByteArray.empty)) := by
  obtain ⟨b, o', e, _, hc⟩ := h j hj
  injection e with e
  injection e with e1 e2 _
  subst e1; subst e2
  exact hc
theorem ver_to {r t : Tm} {n i : Int} {p : List Tm} {v : Bool} (he : verifyT r n i t p = v) {R T : ByteArray} (hR : R.data.toList = r) (hT : T.data.toList = t) {A : Option Addr} {c : Nat} {ys : List ByteArray} (hy : bl ys = p) (hc : ys.length ≤ c ∧ c ≤ 9223372036854775807)
    (hz : ∀ y ∈ ys, y.size ≤ 140737488355328) (hr : R.size ≤ 140737488355328) (ht : T.size ≤ 140737488355328) (w : World) (hs : SReads w A ys) :
    Calls Tryz.prog 44 #[.string R, .int .i64 n, .int .i64 i, .string T, .slice A ys.length c] w fun e w' => e = .returned (.bool v) ∧ Below w.heap.size w w' := by
  have := cverify_any R n i T A c ys w hs hc.1 hc.2 hz ht hr
  rw [hR, hT, hy, he] at this
  exact this
/-- 'append(own, others...)' as one operation of a region: what else is read stands. -/
theorem wpo_append {w : World} {o : Oper} {a : Act} {K : Act → World → Prop} {Q : Exit → Act → World → Prop} (s x : Operand)
    (ho : o.op = .call { callee := .builtin .append, args := #[s, x], argTypes := #[25, 25] }) (base : Nat)
    (v : Value) (k : Nat) (xs zs : List ByteArray) (hs : a.eval s = v) (hown : w.ownsRow base 9 1 v k (sv xs)) (hk : k = xs.length)
    (ad : Addr) (n c : Nat) (hx : a.eval x = .slice (some ad) n c) (hn : n = zs.length) (hr : SReads w (some ad) zs)
    (hlen : k + zs.length ≤ 1000) (hbase : base ≤ w.heap.size)
    (h : ∀ v' w', w'.ownsRow base 9 1 v' (k + n) (sv (xs ++ zs)) → Below base w w' → (∀ g o ys, SReads w (some ⟨g, o, none⟩) ys → v.ownBlock ≠ some g → SReads w' (some ⟨g, o, none⟩) ys) → K (a.put o.dst v') w') : o.wp Tryz.prog a w K Q := by
  obtain ⟨i0, hi0, hz0, hz1, hz2⟩ := info_parts str_info
  subst hn
  refine wp_append_own w s x 25 ho base 9 i0 _ 1 16 Tryz.underlying25 hi0 hz0 hz1 hz2 rfl (by decide) v k (sv xs) hs hown ad zs.length c (sv zs) hx (by simp [sv]) ?_ (sv_one zs) (by simp only [maxLen]; omega) (by omega) hbase ?_
  · intro j u hj
    have hjl : j < zs.length := by have := (List.getElem?_eq_some_iff.1 hj).1; simpa [sv] using this
    obtain ⟨b', o', he, _, hc⟩ := hr j hjl
    obtain rfl := Option.some.inj he
    have hu : u = .string (zs.getD j ByteArray.empty) := by
      simp [sv, hjl] at hj
      rw [← hj]; simp [List.getD, hjl]
    rw [hu, show ((⟨b', o', none⟩ : Addr).add j) = ⟨b', o' + j, none⟩ from by unfold Addr.add; split <;> simp_all]
    exact hc
  · intro v' w' hown' hgrow _
    refine h v' w' (by simpa [sv] using hown') (Below.grown (Below.refl _ _) hgrow hbase fun q hq => (hown.lt q hq).1) fun g o ys hg hne j hj => ?_
    obtain ⟨b', o', he, hlt, hc⟩ := hg j hj
    have he' := he
    injection he' with he'
    injection he' with e1 e2 _
    subst e1; subst e2
    exact ⟨g, o, rfl, Nat.lt_of_lt_of_le hlt hgrow.size, (World.cell?_of_block (w := w) (a := ⟨g, o + j, none⟩) (hgrow.block g hlt (fun e => hne e.symm))).trans hc⟩
end Go.Proofs.YtmmeklemaofmjaaGreat.Tre
