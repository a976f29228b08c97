/-
  PLAIN FACTS, OF NO PROGRAM: trees of leaves (layer 10): what is over two trees, the tree of a row, the trees beside a way, the tree that is put together of a leaf and its proof. By an AI agent; no person has read it.
-/
import Derived.Test.YtblgcpopcgnncaaE4
namespace Go.Proofs.Ytblgcpopcgnncaa.Tre
open Wire Term Draw Reg Clo

abbrev Tm := List UInt8
def leafT (f : Tm) (v : Nat) : Tm × Int := if (ofText f).2 ≠ 0 then ([], (ofText f).2) else two 112 (ofText f).1 (ofAtom v)
def isLeaf (t : Tm) : Bool := decide (kind t = 112) && (decide (((pts t).getD 0 []).headD 0 = 116) && decide (((pts t).getD 1 []).headD 0 = 97))
/-- How many leaves stand in the first one of two trees (of two leaves to eight). -/
def fst (n : Nat) : Nat := if n ≤ 2 then 1 else if n ≤ 4 then 2 else 4
theorem fst_lt {n : Nat} (h1 : 2 ≤ n) (h2 : n ≤ 8) : 0 < fst n ∧ fst n < n := by
  unfold fst
  split
  · omega
  · split <;> omega
def over (a b : Tm) : Tm × Int := if (two 112 a b).2 ≠ 0 then ([], (two 112 a b).2) else one 104 (two 112 a b).1
def treeD : Nat → List Tm → Tm × Int
  | 0, _ => ([], 0)
  | d + 1, l => if l.length = 1 then one 104 (l.headD []) else
    if (treeD d (l.take (fst l.length))).2 ≠ 0 then ([], (treeD d (l.take (fst l.length))).2) else
    if (treeD d (l.drop (fst l.length))).2 ≠ 0 then ([], (treeD d (l.drop (fst l.length))).2) else
    over (treeD d (l.take (fst l.length))).1 (treeD d (l.drop (fst l.length))).1
def root (l : List Tm) : Tm × Int := if l.length < 1 ∨ 8 < l.length then ([], 1) else if ¬ (∀ t ∈ l, isLeaf t = true) then ([], 1) else treeD 4 l
def besideD : Nat → List Tm → Nat → List Tm
  | 0, _, _ => []
  | d + 1, l, i => if l.length = 1 then [] else
    if i < fst l.length then besideD d (l.take (fst l.length)) i ++ [(treeD d (l.drop (fst l.length))).1]
    else besideD d (l.drop (fst l.length)) (i - fst l.length) ++ [(treeD d (l.take (fst l.length))).1]
def proofT (l : List Tm) (i : Int) : List Tm × Int := if (root l).2 ≠ 0 then ([], (root l).2) else if i < 0 ∨ (l.length : Int) ≤ i then ([], 1) else (besideD 4 l i.toNat, 0)
def upD : Nat → Nat → Nat → Tm → List Tm → Tm
  | 0, _, _, _, _ => []
  | d + 1, n, i, t, p => if n = 1 then (if p ≠ [] then [] else (one 104 t).1) else if p = [] then [] else
    if i < fst n then (over (upD d (fst n) i t p.dropLast) (p.getLastD [])).1
    else (over (p.getLastD []) (upD d (n - fst n) (i - fst n) t p.dropLast)).1
def verifyT (r : Tm) (n i : Int) (t : Tm) (p : List Tm) : Bool := decide (1 ≤ n ∧ n ≤ 8 ∧ 0 ≤ i ∧ i < n ∧ isLeaf t = true ∧ right r = true ∧ (∀ x ∈ p, right x = true) ∧ upD 4 n.toNat i.toNat t p = r)

/-! ### over two trees, over one leaf -/
theorem made_or (l : Tm) : (right l = true ∧ made l = (l, 0)) ∨ (right l = false ∧ made l = ([], 10)) := by
  cases h : right l with
  | true => exact .inl ⟨rfl, made_yes h⟩
  | false => exact .inr ⟨rfl, by unfold made; rw [if_neg (by rw [h]; decide)]⟩
theorem one_or (t : Tm) : ((one 104 t).2 = 0 ∧ right t = true ∧ right (104 :: t) = true ∧ one 104 t = (104 :: t, 0)) ∨ ((one 104 t).2 ≠ 0 ∧ (one 104 t).1 = []) := by
  unfold one
  by_cases h : right t = true
  · rw [if_pos h]
    rcases made_or (104 :: t) with ⟨h1, h2⟩ | ⟨_, h2⟩
    · rw [h2]; exact .inl ⟨rfl, h, h1, rfl⟩
    · rw [h2]; exact .inr ⟨by decide, rfl⟩
  · rw [if_neg h]; exact .inr ⟨by decide, rfl⟩
theorem over_or (a b : Tm) : ((over a b).2 = 0 ∧ right a = true ∧ right b = true ∧ right (112 :: (a ++ b)) = true ∧ right (104 :: 112 :: (a ++ b)) = true ∧ over a b = (104 :: 112 :: (a ++ b), 0)) ∨ ((over a b).2 ≠ 0 ∧ (over a b).1 = []) := by
  unfold over two
  by_cases h : right a = true ∧ right b = true
  · rw [if_pos h]
    rcases made_or (112 :: (a ++ b)) with ⟨h1, h2⟩ | ⟨_, h2⟩
    · rw [h2, if_neg (fun h => h rfl)]
      rcases one_or (112 :: (a ++ b)) with ⟨h3, _, h4, h5⟩ | ⟨h3, h4⟩
      · exact .inl ⟨h3, h.1, h.2, h1, h4, h5⟩
      · exact .inr ⟨h3, h4⟩
    · rw [h2, if_pos (show ¬ (10 : Int) = 0 by decide)]
      exact .inr ⟨show ¬ (10 : Int) = 0 by decide, rfl⟩
  · rw [if_neg h, if_pos (show ¬ (1 : Int) = 0 by decide)]
    exact .inr ⟨show ¬ (1 : Int) = 0 by decide, rfl⟩
theorem over_inj {a b a' b' : Tm} (h : (over a b).1 = (over a' b').1) (hn : (over a b).1 ≠ []) : a = a' ∧ b = b' := by
  rcases over_or a b with ⟨_, h1, _, _, _, h2⟩ | ⟨_, h2⟩
  · rcases over_or a' b' with ⟨_, h3, _, _, _, h4⟩ | ⟨_, h4⟩
    · rw [h2, h4] at h
      exact right_cut h1 h3 (List.cons.inj (List.cons.inj h).2).2
    · rw [h4] at h; exact absurd h hn
  · exact absurd h2 hn
theorem over_parts {a b : Tm} (hn : (over a b).1 ≠ []) : a ≠ [] ∧ b ≠ [] := by
  rcases over_or a b with ⟨_, h1, h2, _⟩ | ⟨_, h2⟩
  · exact ⟨(right_iff.1 h1).1, (right_iff.1 h2).1⟩
  · exact absurd h2 hn
theorem one_inj {t t' : Tm} (h : (one 104 t).1 = (one 104 t').1) (hn : (one 104 t).1 ≠ []) : t = t' := by
  rcases one_or t with ⟨_, _, _, h2⟩ | ⟨_, h2⟩
  · rcases one_or t' with ⟨_, _, _, h4⟩ | ⟨_, h4⟩
    · rw [h2, h4] at h
      exact (List.cons.inj h).2
    · rw [h4] at h; exact absurd h hn
  · exact absurd h2 hn

/-! ### what is put together of a leaf and its proof -/
theorem last_eq {p : List Tm} (h : p ≠ []) : p = p.dropLast ++ [p.getLastD []] := by
  have := List.dropLast_concat_getLast h
  conv => lhs; rw [← this]
  rw [List.getLastD_eq_getLast?, List.getLast?_eq_some_getLast h]
  rfl
/-- A tree says which leaf and which proof it is put together of. -/
theorem up_inj : ∀ {d n i : Nat} {t t' : Tm} {p p' : List Tm}, upD d n i t p = upD d n i t' p' → upD d n i t p ≠ [] → t = t' ∧ p = p'
  | 0, _, _, _, _, _, _, _, hn => absurd rfl hn
  | d + 1, n, i, t, t', p, p', h, hn => by
    unfold upD at h hn
    by_cases h1 : n = 1
    · rw [if_pos h1] at h hn
      rw [if_pos h1] at h
      by_cases hp : p = []
      · subst hp
        rw [if_neg (fun h => h rfl)] at h hn
        by_cases hp' : p' = []
        · subst hp'
          rw [if_neg (fun h => h rfl)] at h
          exact ⟨one_inj h hn, rfl⟩
        · rw [if_pos hp'] at h; exact absurd h hn
      · rw [if_pos hp] at hn; exact absurd rfl hn
    · rw [if_neg h1] at h hn
      rw [if_neg h1] at h
      by_cases hp : p = []
      · rw [if_pos hp] at hn; exact absurd rfl hn
      · rw [if_neg hp] at h hn
        by_cases hp' : p' = []
        · rw [if_pos hp'] at h; exact absurd h hn
        · rw [if_neg hp'] at h
          by_cases hi : i < fst n
          · rw [if_pos hi] at h hn
            rw [if_pos hi] at h
            obtain ⟨e1, e2⟩ := over_inj h hn
            obtain ⟨e3, e4⟩ := up_inj e1 (over_parts hn).1
            exact ⟨e3, by rw [last_eq hp, last_eq hp', e4, e2]⟩
          · rw [if_neg hi] at h hn
            rw [if_neg hi] at h
            obtain ⟨e1, e2⟩ := over_inj h hn
            obtain ⟨e3, e4⟩ := up_inj e2 (over_parts hn).2
            exact ⟨e3, by rw [last_eq hp, last_eq hp', e4, e1]⟩
theorem treeD_succ (d : Nat) (l : List Tm) : treeD (d + 1) l = if l.length = 1 then one 104 (l.headD []) else
    if (treeD d (l.take (fst l.length))).2 ≠ 0 then ([], (treeD d (l.take (fst l.length))).2) else
    if (treeD d (l.drop (fst l.length))).2 ≠ 0 then ([], (treeD d (l.drop (fst l.length))).2) else
    over (treeD d (l.take (fst l.length))).1 (treeD d (l.drop (fst l.length))).1 := rfl
theorem besideD_succ (d : Nat) (l : List Tm) (i : Nat) : besideD (d + 1) l i = if l.length = 1 then [] else
    if i < fst l.length then besideD d (l.take (fst l.length)) i ++ [(treeD d (l.drop (fst l.length))).1]
    else besideD d (l.drop (fst l.length)) (i - fst l.length) ++ [(treeD d (l.take (fst l.length))).1] := rfl
theorem upD_succ (d n i : Nat) (t : Tm) (p : List Tm) : upD (d + 1) n i t p = if n = 1 then (if p ≠ [] then [] else (one 104 t).1) else if p = [] then [] else
    if i < fst n then (over (upD d (fst n) i t p.dropLast) (p.getLastD [])).1
    else (over (p.getLastD []) (upD d (n - fst n) (i - fst n) t p.dropLast)).1 := rfl
/-- A row of more than one: both its trees, and what is over them. -/
theorem tree_two {d : Nat} {l : List Tm} (hl : ¬ l.length = 1) (h0 : (treeD (d + 1) l).2 = 0) : (treeD d (l.take (fst l.length))).2 = 0 ∧ (treeD d (l.drop (fst l.length))).2 = 0 ∧ treeD (d + 1) l = over (treeD d (l.take (fst l.length))).1 (treeD d (l.drop (fst l.length))).1 := by
  rw [treeD_succ, if_neg hl] at h0 ⊢
  by_cases ha : (treeD d (l.take (fst l.length))).2 = 0
  · rw [if_neg (fun h => h ha)] at h0 ⊢
    by_cases hb : (treeD d (l.drop (fst l.length))).2 = 0
    · rw [if_neg (fun h => h hb)]
      exact ⟨ha, hb, rfl⟩
    · rw [if_pos hb] at h0; exact absurd h0 hb
  · rw [if_pos ha] at h0; exact absurd h0 ha
/-- A leaf and the trees beside its way make the row's tree. -/
theorem up_beside : ∀ {d : Nat} {l : List Tm} {i : Nat}, 1 ≤ l.length → l.length ≤ 8 → i < l.length → (treeD d l).2 = 0 → upD d l.length i (l.getD i []) (besideD d l i) = (treeD d l).1
  | 0, _, _, _, _, _, _ => rfl
  | d + 1, l, i, h1, h8, hi, h0 => by
    by_cases hl : l.length = 1
    · rw [upD_succ, besideD_succ, treeD_succ, if_pos hl, if_pos hl, if_pos hl, if_neg (fun h => h rfl)]
      obtain rfl : i = 0 := by omega
      cases l with
      | nil => exact absurd h1 (by decide)
      | cons x t => rfl
    · obtain ⟨k0, k1⟩ := fst_lt (n := l.length) (by omega) h8
      obtain ⟨ha, hb, e0⟩ := tree_two hl h0
      have ltk : (l.take (fst l.length)).length = fst l.length := by rw [List.length_take]; omega
      have ldr : (l.drop (fst l.length)).length = l.length - fst l.length := List.length_drop
      rw [upD_succ, besideD_succ, e0, if_neg hl, if_neg hl]
      by_cases hk : i < fst l.length
      · rw [if_pos hk, if_pos hk, if_neg (by simp)]
        have e := up_beside (d := d) (l := l.take (fst l.length)) (i := i) (by omega) (by omega) (by omega) ha
        rw [ltk] at e
        have e2 : (l.take (fst l.length)).getD i [] = l.getD i [] := by simp [List.getD, hk]
        rw [e2] at e
        simp only [List.dropLast_concat, List.getLastD_concat]
        rw [e]
      · rw [if_neg hk, if_neg hk, if_neg (by simp)]
        have e := up_beside (d := d) (l := l.drop (fst l.length)) (i := i - fst l.length) (by omega) (by omega) (by omega) hb
        rw [ldr] at e
        have e2 : (l.drop (fst l.length)).getD (i - fst l.length) [] = l.getD i [] := by simp [List.getD, List.getElem?_drop, show fst l.length + (i - fst l.length) = i by omega]
        rw [e2] at e
        simp only [List.dropLast_concat, List.getLastD_concat]
        rw [e]

/-! ### a tree says which row it is the tree of -/
theorem leaf_right {t : Tm} (h : isLeaf t = true) : right t = true ∧ t.headD 0 = 112 := by
  unfold isLeaf at h
  simp only [Bool.and_eq_true, decide_eq_true_eq] at h
  cases hr : right t with
  | false => rw [kind_wrong hr] at h; exact absurd h.1 (by decide)
  | true =>
    refine ⟨rfl, UInt8.toNat_inj.1 ?_⟩
    have := h.1
    rw [kind_right hr] at this
    exact this
theorem leaf_parts {t : Tm} (h : isLeaf t = true) : ∃ x y, right x = true ∧ x.headD 0 = 116 ∧ t = 112 :: (x ++ y) := by
  obtain ⟨hr, h112⟩ := leaf_right h
  unfold isLeaf at h
  simp only [Bool.and_eq_true, decide_eq_true_eq] at h
  cases t with
  | nil => exact absurd h112 (by decide)
  | cons b t =>
    have hb : b = 112 := h112
    subst hb
    obtain ⟨x, y, e1, e2, e3, _, _⟩ := pts_two hr (.inl rfl)
    subst e1
    refine ⟨x, y, e3, ?_, rfl⟩
    have := h.2.1
    rw [e2] at this
    exact this
theorem tree_head : ∀ {d : Nat} {l : List Tm} {x : Tm}, treeD d l = (x, 0) → d ≠ 0 → x.headD 0 = 104 ∧ right x = true
  | 0, _, _, _, h => absurd rfl h
  | d + 1, l, x, h, _ => by
    by_cases hl : l.length = 1
    · rw [treeD_succ, if_pos hl] at h
      rcases one_or (l.headD []) with ⟨_, _, h2, h3⟩ | ⟨h2, _⟩
      · rw [h3] at h; rw [← (Prod.mk.inj h).1]; exact ⟨rfl, h2⟩
      · rw [h] at h2; exact absurd rfl h2
    · obtain ⟨_, _, e0⟩ := tree_two hl (by rw [h])
      rw [h] at e0
      rcases over_or (treeD d (l.take (fst l.length))).1 (treeD d (l.drop (fst l.length))).1 with ⟨_, _, _, _, h2, h3⟩ | ⟨h2, _⟩
      · rw [h3] at e0; rw [(Prod.mk.inj e0).1]; exact ⟨rfl, h2⟩
      · rw [← e0] at h2; exact absurd rfl h2
theorem two_one {d : Nat} {l l' : List Tm} {x : Tm} (hl' : ∀ t ∈ l', isLeaf t = true) (h1 : l'.length = 1) (h2 : ¬ l.length = 1) (e1 : treeD (d + 1) l = (x, 0)) (e2 : treeD (d + 1) l' = (x, 0)) : False := by
  obtain ⟨ha, hb, e0⟩ := tree_two h2 (by rw [e1])
  rw [e1] at e0
  rw [treeD_succ, if_pos h1] at e2
  obtain ⟨a, rfl⟩ : ∃ a, l' = [a] := List.length_eq_one_iff.1 h1
  obtain ⟨u, v, hu, h116, ha2⟩ := leaf_parts (hl' a (by simp))
  rcases one_or a with ⟨_, _, _, h3⟩ | ⟨h3, _⟩
  · have e3 : one 104 a = (x, 0) := e2
    rw [h3] at e3
    rcases over_or (treeD d (l.take (fst l.length))).1 (treeD d (l.drop (fst l.length))).1 with ⟨_, g1, _, _, _, g3⟩ | ⟨g3, _⟩
    · rw [g3, ← (Prod.mk.inj e3).1, ha2] at e0
      have e4 := (List.cons.inj (List.cons.inj (Prod.mk.inj e0).1).2).2
      obtain ⟨e5, _⟩ := right_cut hu g1 e4
      have hd : d ≠ 0 := fun h => by
        subst h
        exact absurd (show right ([] : Tm) = true from g1) (by decide)
      have := (tree_head (d := d) (l := l.take (fst l.length)) (x := (treeD d (l.take (fst l.length))).1) (Prod.ext rfl ha) hd).1
      rw [← e5, h116] at this
      exact absurd this (by decide)
    · rw [← e0] at g3; exact absurd rfl g3
  · have e3 : one 104 a = (x, 0) := e2
    rw [e3] at h3; exact absurd rfl h3
/-- Rows of leaves with one tree are one row. -/
theorem tree_inj : ∀ {d : Nat} {l l' : List Tm} {x : Tm}, (∀ t ∈ l, isLeaf t = true) → (∀ t ∈ l', isLeaf t = true) → 1 ≤ l.length → l.length ≤ 8 → 1 ≤ l'.length → l'.length ≤ 8 → treeD (d + 1) l = (x, 0) → treeD (d + 1) l' = (x, 0) → l = l' := by
  intro d
  induction d with
  | zero =>
    intro l l' x hl hl' h1 h8 h1' h8' e1 e2
    by_cases c1 : l.length = 1
    · by_cases c2 : l'.length = 1
      · obtain ⟨a, rfl⟩ := List.length_eq_one_iff.1 c1
        obtain ⟨b, rfl⟩ := List.length_eq_one_iff.1 c2
        rw [treeD_succ, if_pos c1] at e1
        rw [treeD_succ, if_pos c2] at e2
        have e3 : (one 104 a).1 = (one 104 b).1 := by
          have e4 : one 104 a = (x, 0) := e1
          have e5 : one 104 b = (x, 0) := e2
          rw [e4, e5]
        rw [one_inj e3 (fun h => by
          rcases one_or a with ⟨_, _, _, h3⟩ | ⟨h3, _⟩
          · rw [h3] at h; cases h
          · have e4 : one 104 a = (x, 0) := e1
            rw [e4] at h3; exact absurd rfl h3)]
      · exact (two_one hl c1 c2 e2 e1).elim
    · by_cases c2 : l'.length = 1
      · exact (two_one hl' c2 c1 e1 e2).elim
      · obtain ⟨_, _, e0⟩ := tree_two c1 (by rw [e1])
        rcases over_or (treeD 0 (l.take (fst l.length))).1 (treeD 0 (l.drop (fst l.length))).1 with ⟨_, g1, _⟩ | ⟨g3, _⟩
        · exact absurd g1 (show ¬ right [] = true by decide)
        · rw [← e0, e1] at g3; exact absurd rfl g3
  | succ d ih =>
    intro l l' x hl hl' h1 h8 h1' h8' e1 e2
    by_cases c1 : l.length = 1
    · by_cases c2 : l'.length = 1
      · obtain ⟨a, rfl⟩ := List.length_eq_one_iff.1 c1
        obtain ⟨b, rfl⟩ := List.length_eq_one_iff.1 c2
        rw [treeD_succ, if_pos c1] at e1
        rw [treeD_succ, if_pos c2] at e2
        have e3 : (one 104 a).1 = (one 104 b).1 := by
          have e4 : one 104 a = (x, 0) := e1
          have e5 : one 104 b = (x, 0) := e2
          rw [e4, e5]
        rw [one_inj e3 (fun h => by
          rcases one_or a with ⟨_, _, _, h3⟩ | ⟨h3, _⟩
          · rw [h3] at h; cases h
          · have e4 : one 104 a = (x, 0) := e1
            rw [e4] at h3; exact absurd rfl h3)]
      · exact (two_one hl c1 c2 e2 e1).elim
    · by_cases c2 : l'.length = 1
      · exact (two_one hl' c2 c1 e1 e2).elim
      · obtain ⟨ha, hb, e0⟩ := tree_two c1 (by rw [e1])
        obtain ⟨ha', hb', e0'⟩ := tree_two c2 (by rw [e2])
        obtain ⟨k0, k1⟩ := fst_lt (n := l.length) (by omega) h8
        obtain ⟨k0', k1'⟩ := fst_lt (n := l'.length) (by omega) h8'
        rw [e1] at e0
        rw [e2] at e0'
        have hne : (over (treeD (d + 1) (l.take (fst l.length))).1 (treeD (d + 1) (l.drop (fst l.length))).1).1 ≠ [] := fun h => by
          rcases over_or (treeD (d + 1) (l.take (fst l.length))).1 (treeD (d + 1) (l.drop (fst l.length))).1 with ⟨_, _, _, _, _, g3⟩ | ⟨g3, _⟩
          · rw [g3] at h; cases h
          · rw [← e0] at g3; exact absurd rfl g3
        obtain ⟨e3, e4⟩ := over_inj (congrArg Prod.fst (e0.symm.trans e0')) hne
        have lt1 : (l.take (fst l.length)).length = fst l.length := by rw [List.length_take]; omega
        have lt2 : (l'.take (fst l'.length)).length = fst l'.length := by rw [List.length_take]; omega
        have ld1 : (l.drop (fst l.length)).length = l.length - fst l.length := List.length_drop
        have ld2 : (l'.drop (fst l'.length)).length = l'.length - fst l'.length := List.length_drop
        have r1 := ih (l := l.take (fst l.length)) (l' := l'.take (fst l'.length)) (x := (treeD (d + 1) (l.take (fst l.length))).1) (fun t ht => hl t (List.mem_of_mem_take ht)) (fun t ht => hl' t (List.mem_of_mem_take ht)) (by omega) (by omega) (by omega) (by omega) (Prod.ext rfl ha) (Prod.ext e3.symm ha')
        have r2 := ih (l := l.drop (fst l.length)) (l' := l'.drop (fst l'.length)) (x := (treeD (d + 1) (l.drop (fst l.length))).1) (fun t ht => hl t (List.mem_of_mem_drop ht)) (fun t ht => hl' t (List.mem_of_mem_drop ht)) (by omega) (by omega) (by omega) (by omega) (Prod.ext rfl hb) (Prod.ext e4.symm hb')
        rw [← List.take_append_drop (fst l.length) l, ← List.take_append_drop (fst l'.length) l', r1, r2]
end Go.Proofs.Ytblgcpopcgnncaa.Tre
