/-
  PLAIN FACTS: the pieces beside a way are the trees beside it; going up by them is what the document's up says. By an AI agent; no person has read it.
-/
import Derived.Test.YtblgcpopcgnncaaEWay
namespace Go.Proofs.Ytblgcpopcgnncaa.Tre
open Wire Term Draw Reg Clo

set_option linter.unusedVariables false
theorem wayL_succ (d i f t : Nat) : wayL (d + 1) i f t = if t - f = 1 then [] else
    if i < f + fst (t - f) then wayL d i f (f + fst (t - f)) ++ [(f + fst (t - f), t)]
    else wayL d i (f + fst (t - f)) t ++ [(f, f + fst (t - f))] := rfl
theorem tree_deeper : ∀ (d : Nat) (l : List Tm), 1 ≤ l.length → l.length ≤ 2 ^ d → d ≤ 2 → treeD (d + 1) l = treeD (d + 2) l := by
  intro d
  induction d with
  | zero =>
    intro l h1 h2 _
    have hl : l.length = 1 := by omega
    rw [treeD_succ, treeD_succ, if_pos hl, if_pos hl]
  | succ d ih =>
    intro l h1 h2 hd
    rw [treeD_succ (d + 1), treeD_succ (d + 1 + 1)]
    by_cases hl : l.length = 1
    · rw [if_pos hl, if_pos hl]
    · obtain ⟨p1, p2, p3, p4, p5⟩ := fst_half (n := l.length) (d := d) (by omega) (by omega) h2
      obtain ⟨k0, k1⟩ := fst_lt (n := l.length) (by omega) p3
      have lt1 : (l.take (fst l.length)).length = fst l.length := by rw [List.length_take]; omega
      have ld1 : (l.drop (fst l.length)).length = l.length - fst l.length := List.length_drop
      rw [if_neg hl, if_neg hl, ih (l.take (fst l.length)) (by omega) (by omega) (by omega), ih (l.drop (fst l.length)) (by omega) (by omega) (by omega)]
theorem tree_four {d : Nat} {l : List Tm} (h1 : 1 ≤ l.length) (h2 : l.length ≤ 2 ^ d) (hd : d ≤ 3) : treeD (d + 1) l = treeD 4 l := by
  have hdd : d = 0 ∨ d = 1 ∨ d = 2 ∨ d = 3 := by omega
  rcases hdd with rfl | rfl | rfl | rfl
  · rw [tree_deeper 0 l h1 h2 (by omega), tree_deeper 1 l h1 (by omega) (by omega), tree_deeper 2 l h1 (by omega) (by omega)]
  · rw [tree_deeper 1 l h1 h2 (by omega), tree_deeper 2 l h1 (by omega) (by omega)]
  · rw [tree_deeper 2 l h1 h2 (by omega)]
  · rfl
/-- A part of a row, from one place up to another. -/
def cut (L : List Tm) (x : Nat × Nat) : List Tm := (L.take x.2).drop x.1
theorem cut_len {L : List Tm} {x : Nat × Nat} (h : x.2 ≤ L.length) : (cut L x).length = x.2 - x.1 := by
  unfold cut
  rw [List.length_drop, List.length_take]; omega
theorem cut_take {L : List Tm} {f t k : Nat} (h : f + k ≤ t) (h2 : t ≤ L.length) : (cut L (f, t)).take k = cut L (f, f + k) := by
  unfold cut
  rw [List.take_drop, List.take_take, Nat.min_eq_left (by omega)]
theorem cut_drop {L : List Tm} {f t k : Nat} : (cut L (f, t)).drop k = cut L (f + k, t) := by
  unfold cut
  rw [List.drop_drop]
def treeOf (L : List Tm) (x : Nat × Nat) : Tm := (treeD 4 (cut L x)).1
theorem way_beside (L : List Tm) : ∀ (d i f t : Nat), d ≤ 3 → f ≤ i → i < t → t - f ≤ 2 ^ d → t ≤ 8 → t ≤ L.length → (wayL (d + 1) i f t).map (treeOf L) = besideD (d + 1) (cut L (f, t)) (i - f) := by
  intro d
  induction d with
  | zero =>
    intro i f t hd hf hi h1 h8 hL
    have e : t - f = 1 := by omega
    rw [wayL_succ, besideD_succ, if_pos e, if_pos (by rw [cut_len hL]; exact e)]
    rfl
  | succ d ih =>
    intro i f t hd hf hi h1 h8 hL
    have hcl := cut_len (L := L) (x := (f, t)) hL
    rw [wayL_succ, besideD_succ, hcl]
    by_cases e : t - f = 1
    · rw [if_pos e, if_pos e]
      rfl
    · obtain ⟨n2, n8, p1, p2, k0, k1⟩ := fst_half0 (n := t - f) (d := d) e (by omega) (by omega) h1
      rw [if_neg e, if_neg e]
      generalize fst (t - f) = K at p1 p2 k0 k1 ⊢
      by_cases hk : i < f + K
      · rw [if_pos hk, if_pos (by omega), List.map_append, ih i f (f + K) (by omega) hf hk (by omega) (by omega) (by omega), cut_take (by omega) hL, cut_drop]
        have hl := cut_len (L := L) (x := (f + K, t)) hL
        rw [tree_four (d := d) (by simp only at hl; omega) (by simp only at hl; omega) (by omega)]
        rfl
      · rw [if_neg hk, if_neg (by omega), List.map_append, ih i (f + K) t (by omega) (by omega) hi (by omega) h8 hL, cut_take (by omega) hL, cut_drop]
        have hl := cut_len (L := L) (x := (f, f + K)) (by simp only; omega)
        rw [tree_four (d := d) (by simp only at hl; omega) (by simp only at hl; omega) (by omega), show i - f - K = i - (f + K) by omega]
        rfl
/-- Each piece is a part of the row. -/
theorem way_in : ∀ (d i f t : Nat), d ≤ 3 → f ≤ i → i < t → t - f ≤ 2 ^ d → t ≤ 8 → ∀ x ∈ wayL (d + 1) i f t, f ≤ x.1 ∧ x.1 < x.2 ∧ x.2 ≤ t := by
  intro d
  induction d with
  | zero =>
    intro i f t hd hf hi h1 h8 x hx
    rw [wayL_succ, if_pos (by omega)] at hx
    cases hx
  | succ d ih =>
    intro i f t hd hf hi h1 h8 x hx
    rw [wayL_succ] at hx
    by_cases e : t - f = 1
    · rw [if_pos e] at hx; cases hx
    · obtain ⟨n2, n8, p1, p2, k0, k1⟩ := fst_half0 (n := t - f) (d := d) e (by omega) (by omega) h1
      rw [if_neg e] at hx
      generalize fst (t - f) = K at p1 p2 k0 k1 hx
      by_cases hk : i < f + K
      · rw [if_pos hk] at hx
        rcases List.mem_append.1 hx with h | h
        · have := ih i f (f + K) (by omega) hf hk (by omega) (by omega) x h
          omega
        · rw [List.mem_singleton.1 h]; exact ⟨by simp only; omega, by simp only; omega, Nat.le_refl _⟩
      · rw [if_neg hk] at hx
        rcases List.mem_append.1 hx with h | h
        · have := ih i (f + K) t (by omega) (by omega) hi (by omega) h8 x h
          omega
        · rw [List.mem_singleton.1 h]; exact ⟨Nat.le_refl _, by simp only; omega, by simp only; omega⟩
theorem way_few : ∀ (d i f t : Nat), (wayL d i f t).length ≤ d
  | 0, _, _, _ => Nat.le_refl _
  | d + 1, i, f, t => by
    rw [wayL_succ]
    split
    · simp
    · split
      · rw [List.length_append, List.length_singleton]
        have := way_few d i f (f + fst (t - f))
        omega
      · rw [List.length_append, List.length_singleton]
        have := way_few d i (f + fst (t - f)) t
        omega

/-! ### going up -/
/-- One step up. -/
def stepU (i : Nat) (x : Nat × Nat) (tr q : Tm) : Tm × Int := if x.2 ≤ i then over q tr else over tr q
/-- What Verify tells from here on. -/
def goes (r : Tm) (i : Nat) : List (Nat × Nat) → Tm × Int → List Tm → Bool
  | [], st, p => decide (st.2 = 0) && (decide (p = []) && decide (st.1 = r))
  | _ :: _, _, [] => false
  | x :: xs, st, q :: p => if st.2 = 0 then goes r i xs (stepU i x st.1 q) p else false
def ups (i : Nat) : List (Nat × Nat) → Tm × Int → List Tm → Tm × Int
  | [], st, _ => st
  | _ :: _, st, [] => st
  | x :: xs, st, q :: p => if st.2 = 0 then ups i xs (stepU i x st.1 q) p else st
theorem goes_ups (r : Tm) (i : Nat) : ∀ (xs : List (Nat × Nat)) (st : Tm × Int) (p : List Tm), goes r i xs st p = true ↔ p.length = xs.length ∧ (ups i xs st p).2 = 0 ∧ (ups i xs st p).1 = r
  | [], st, p => by
    simp only [goes, ups, Bool.and_eq_true, decide_eq_true_eq, List.length_nil, List.length_eq_zero_iff]
    constructor
    · rintro ⟨h1, h2, h3⟩; exact ⟨h2, h1, h3⟩
    · rintro ⟨h1, h2, h3⟩; exact ⟨h2, h1, h3⟩
  | x :: xs, st, [] => by simp [goes]
  | x :: xs, st, q :: p => by
    simp only [goes, ups, List.length_cons]
    by_cases h : st.2 = 0
    · rw [if_pos h, if_pos h, goes_ups r i xs (stepU i x st.1 q) p]
      constructor
      · rintro ⟨h1, h2⟩; exact ⟨by omega, h2⟩
      · rintro ⟨h1, h2⟩; exact ⟨by omega, h2⟩
    · rw [if_neg h, if_neg h]
      constructor
      · intro h; cases h
      · rintro ⟨_, h1, _⟩; exact absurd h1 h
theorem ups_snoc (i : Nat) (y : Nat × Nat) (q : Tm) : ∀ (xs : List (Nat × Nat)) (st : Tm × Int) (p : List Tm), p.length = xs.length →
    ups i (xs ++ [y]) st (p ++ [q]) = if (ups i xs st p).2 = 0 then stepU i y (ups i xs st p).1 q else ups i xs st p
  | [], st, [], _ => rfl
  | x :: xs, st, a :: p, h => by
    by_cases h0 : st.2 = 0
    · have e1 : ups i (x :: xs) st (a :: p) = ups i xs (stepU i x st.1 a) p := if_pos h0
      have e2 : ups i (x :: xs ++ [y]) st (a :: p ++ [q]) = ups i (xs ++ [y]) (stepU i x st.1 a) (p ++ [q]) := if_pos h0
      simp only [e1, e2]
      exact ups_snoc i y q xs _ p (by simpa using h)
    · have e1 : ups i (x :: xs) st (a :: p) = st := if_neg h0
      have e2 : ups i (x :: xs ++ [y]) st (a :: p ++ [q]) = st := if_neg h0
      simp only [e1, e2, if_neg h0]
/-- A way is as long as a proof must be. -/
theorem up_long : ∀ (d i f t : Nat) (lf : Tm) (p : List Tm), d ≤ 3 → f ≤ i → i < t → t - f ≤ 2 ^ d → t ≤ 8 → p.length ≠ (wayL (d + 1) i f t).length → upD (d + 1) (t - f) (i - f) lf p = [] := by
  intro d
  induction d with
  | zero =>
    intro i f t lf p hd hf hi h1 h8 hp
    have e : t - f = 1 := by omega
    rw [wayL_succ, if_pos e] at hp
    rw [upD_succ, if_pos e, if_pos (fun h => hp (by rw [h]; rfl))]
  | succ d ih =>
    intro i f t lf p hd hf hi h1 h8 hp
    rw [wayL_succ] at hp
    rw [upD_succ]
    by_cases e : t - f = 1
    · rw [if_pos e] at hp ⊢
      rw [if_pos (fun h => hp (by rw [h]; rfl))]
    · obtain ⟨n2, n8, p1, p2, k0, k1⟩ := fst_half0 (n := t - f) (d := d) e (by omega) (by omega) h1
      rw [if_neg e] at hp ⊢
      by_cases hpn : p = []
      · rw [if_pos hpn]
      · rw [if_neg hpn]
        have hpl := List.length_dropLast (xs := p)
        have hp0 : 0 < p.length := List.length_pos_iff.2 hpn
        generalize fst (t - f) = K at p1 p2 k0 k1 hp ⊢
        by_cases hk : i < f + K
        · rw [if_pos hk] at hp
          rw [List.length_append, List.length_singleton] at hp
          rw [if_pos (by omega), show (K : Nat) = f + K - f by omega, ih i f (f + K) lf p.dropLast (by omega) hf hk (by omega) (by omega) (by omega)]
          rcases over_or [] (p.getLastD []) with ⟨_, h, _⟩ | ⟨_, h⟩
          · exact absurd h (by decide)
          · exact h
        · rw [if_neg hk] at hp
          rw [List.length_append, List.length_singleton] at hp
          rw [if_neg (by omega), show t - f - K = t - (f + K) by omega, show i - f - K = i - (f + K) by omega, ih i (f + K) t lf p.dropLast (by omega) (by omega) hi (by omega) h8 (by omega)]
          rcases over_or (p.getLastD []) [] with ⟨_, _, h, _⟩ | ⟨_, h⟩
          · exact absurd h (by decide)
          · exact h
theorem over_bad1 (x : Tm) : (over [] x).1 = [] := by
  rcases over_or [] x with ⟨_, h, _⟩ | ⟨_, h⟩
  · exact absurd h (by decide)
  · exact h
theorem over_bad2 (x : Tm) : (over x []).1 = [] := by
  rcases over_or x [] with ⟨_, _, h, _⟩ | ⟨_, h⟩
  · exact absurd h (by decide)
  · exact h
/-- Going up by the pieces is what the document's up says; if it goes through, all of the proof were right. -/
theorem ups_up : ∀ (d i f t : Nat) (lf : Tm) (p : List Tm), d ≤ 3 → f ≤ i → i < t → t - f ≤ 2 ^ d → t ≤ 8 → p.length = (wayL (d + 1) i f t).length →
    ((ups i (wayL (d + 1) i f t) (one 104 lf) p).2 = 0 ∧ (ups i (wayL (d + 1) i f t) (one 104 lf) p).1 = upD (d + 1) (t - f) (i - f) lf p ∧ (∀ x ∈ p, right x = true) ∧ right (upD (d + 1) (t - f) (i - f) lf p) = true) ∨
    ((ups i (wayL (d + 1) i f t) (one 104 lf) p).2 ≠ 0 ∧ upD (d + 1) (t - f) (i - f) lf p = []) := by
  have base : ∀ (d i f t : Nat) (lf : Tm) (p : List Tm), t - f = 1 → p.length = (wayL (d + 1) i f t).length →
    ((ups i (wayL (d + 1) i f t) (one 104 lf) p).2 = 0 ∧ (ups i (wayL (d + 1) i f t) (one 104 lf) p).1 = upD (d + 1) (t - f) (i - f) lf p ∧ (∀ x ∈ p, right x = true) ∧ right (upD (d + 1) (t - f) (i - f) lf p) = true) ∨
    ((ups i (wayL (d + 1) i f t) (one 104 lf) p).2 ≠ 0 ∧ upD (d + 1) (t - f) (i - f) lf p = []) := by
    intro d i f t lf p e hp
    rw [wayL_succ, if_pos e] at hp ⊢
    obtain rfl : p = [] := List.length_eq_zero_iff.1 hp
    rw [upD_succ, if_pos e, if_neg (fun h => h rfl)]
    simp only [ups]
    rcases one_or lf with ⟨h1, _, h2, h3⟩ | ⟨h1, h2⟩
    · exact .inl ⟨h1, trivial, fun x hx => absurd hx (List.not_mem_nil), by rw [h3]; exact h2⟩
    · exact .inr ⟨h1, h2⟩
  intro d
  induction d with
  | zero =>
    intro i f t lf p hd hf hi h1 h8 hp
    exact base 0 i f t lf p (by omega) hp
  | succ d ih =>
    intro i f t lf p hd hf hi h1 h8 hp
    by_cases e : t - f = 1
    · exact base (d + 1) i f t lf p e hp
    · obtain ⟨n2, n8, p1, p2, k0, k1⟩ := fst_half0 (n := t - f) (d := d) e (by omega) (by omega) h1
      rw [wayL_succ, if_neg e] at hp ⊢
      rw [upD_succ, if_neg e]
      have hpn : p ≠ [] := fun h => by
        rw [h] at hp
        split at hp <;> simp at hp
      rw [if_neg hpn]
      have hpl := List.length_dropLast (xs := p)
      have hp0 : 0 < p.length := List.length_pos_iff.2 hpn
      have hpe := last_eq hpn
      generalize hq : p.getLastD [] = q at hpe ⊢
      generalize hp2 : p.dropLast = pz at hpe hpl ⊢
      generalize fst (t - f) = K at p1 p2 k0 k1 hp ⊢
      by_cases hk : i < f + K
      · rw [if_pos hk] at hp ⊢
        rw [List.length_append, List.length_singleton] at hp
        rw [if_pos (show i - f < K by omega)]
        have := ih i f (f + K) lf pz (by omega) hf hk (by omega) (by omega) (by omega)
        rw [show f + K - f = K by omega] at this
        rw [hpe, ups_snoc _ _ _ _ _ _ (by omega)]
        have hst : ∀ a, stepU i (f + K, t) a q = over a q := fun a => by unfold stepU; rw [if_neg (by simp only; omega)]
        rcases this with ⟨a1, a2, a3, a4⟩ | ⟨a1, a2⟩
        · rw [if_pos a1, hst, a2]
          rcases over_or (upD (d + 1) K (i - f) lf pz) q with ⟨b1, b2, b3, b4, b5, b6⟩ | ⟨b1, b2⟩
          · refine .inl ⟨b1, rfl, fun x hx => ?_, by rw [b6]; exact b5⟩
            rcases List.mem_append.1 hx with h | h
            · exact a3 x h
            · rw [List.mem_singleton.1 h]; exact b3
          · exact .inr ⟨b1, b2⟩
        · rw [if_neg a1, a2]
          exact .inr ⟨a1, over_bad1 q⟩
      · rw [if_neg hk] at hp ⊢
        rw [List.length_append, List.length_singleton] at hp
        rw [if_neg (show ¬ i - f < K by omega)]
        have := ih i (f + K) t lf pz (by omega) (by omega) hi (by omega) h8 (by omega)
        rw [show t - (f + K) = t - f - K by omega, show i - (f + K) = i - f - K by omega] at this
        rw [hpe, ups_snoc _ _ _ _ _ _ (by omega)]
        have hst : ∀ a, stepU i (f, f + K) a q = over q a := fun a => by unfold stepU; rw [if_pos (by simp only; omega)]
        rcases this with ⟨a1, a2, a3, a4⟩ | ⟨a1, a2⟩
        · rw [if_pos a1, hst, a2]
          rcases over_or q (upD (d + 1) (t - f - K) (i - f - K) lf pz) with ⟨b1, b2, b3, b4, b5, b6⟩ | ⟨b1, b2⟩
          · refine .inl ⟨b1, rfl, fun x hx => ?_, by rw [b6]; exact b5⟩
            rcases List.mem_append.1 hx with h | h
            · exact a3 x h
            · rw [List.mem_singleton.1 h]; exact b2
          · exact .inr ⟨b1, b2⟩
        · rw [if_neg a1, a2]
          exact .inr ⟨a1, over_bad2 q⟩
/-- What Verify tells is what the document says. -/
theorem goes_verify {r t : Tm} {n i : Nat} {p : List Tm} (h1 : 1 ≤ n) (h8 : n ≤ 8) (hi : i < n) (hl : isLeaf t = true) : goes r i (wayL 4 i 0 n) (one 104 t) p = verifyT r (n : Int) (i : Int) t p := by
  rw [Bool.eq_iff_iff, goes_ups]
  unfold verifyT
  rw [decide_eq_true_eq, show ((n : Int)).toNat = n by omega, show ((i : Int)).toNat = i by omega]
  constructor
  · rintro ⟨hp, h2, h3⟩
    rcases ups_up 3 i 0 n t p (by omega) (by omega) hi (by omega) h8 hp with ⟨a1, a2, a3, a4⟩ | ⟨a1, a2⟩
    · rw [Nat.sub_zero, Nat.sub_zero] at a2 a4
      rw [a2] at h3
      exact ⟨by omega, by omega, by omega, by omega, hl, by rw [← h3]; exact a4, a3, h3⟩
    · exact absurd h2 a1
  · rintro ⟨_, _, _, _, _, hr, hx, hu⟩
    by_cases hp : p.length = (wayL 4 i 0 n).length
    · rcases ups_up 3 i 0 n t p (by omega) (by omega) hi (by omega) h8 hp with ⟨a1, a2, a3, a4⟩ | ⟨a1, a2⟩
      · rw [Nat.sub_zero, Nat.sub_zero] at a2
        exact ⟨hp, a1, by rw [a2]; exact hu⟩
      · rw [Nat.sub_zero, Nat.sub_zero, hu] at a2
        rw [a2] at hr
        exact absurd hr (by decide)
    · have := up_long 3 i 0 n t p (by omega) (by omega) hi (by omega) h8 hp
      rw [Nat.sub_zero, Nat.sub_zero, hu] at this
      rw [this] at hr
      exact absurd hr (by decide)
end Go.Proofs.Ytblgcpopcgnncaa.Tre
