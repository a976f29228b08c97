/-
  PLAIN FACTS, OF NO PROGRAM: leaves of files; trees of small leaves are no error; a proof proves its leaf alone. By an AI agent; no person has read it.
-/
import Derived.Test.YtblgcpopcgnncaaEPure
namespace Go.Proofs.Ytblgcpopcgnncaa.Tre
open Wire Term Draw Reg Clo

set_option linter.unusedVariables false
theorem sz_text (d : Nat) {s : List UInt8} (h : s.length ≤ 3900) : Sz (d + 1) (116 :: putText s) := by
  refine ⟨List.cons_ne_nil _ _, ?_⟩
  have h1 : text (putText s) 4000 = (s, [], 0) := by
    have := text_put (t := s) (by omega) [] 4000 (by omega)
    rw [List.append_nil] at this
    exact this
  show up (body (size d) 116 (putText s)) = _
  have h2 : body (size d) 116 (putText s) = some (putText s).length := by
    show leaf 116 (putText s) = _
    unfold leaf
    rw [if_neg (by decide), h1, if_pos rfl]
    rfl
  rw [h2]
  simp only [up, List.length_cons]; omega
theorem sz_text1 {f : Tm} (hf : f.length ≤ 100) : Sz 1 (116 :: putText f) := sz_text 0 (by omega)
/-- A file's leaf. -/
def lf (f : Tm) (v : Nat) : Tm := 112 :: (116 :: putText f ++ ofAtom v)
theorem lf_sz {f : Tm} {v : Nat} (hf : f.length ≤ 100) (hv : v < 18446744073709551616) : Sz 2 (lf f v) ∧ (lf f v).length ≤ f.length + 21 := by
  have h1 : Sz 1 (116 :: putText f) := sz_text1 hf
  refine ⟨sz_pair h1 (sz_atom 0 hv), ?_⟩
  have h2 := (put_le hv).2
  have h3 := (put_le (n := f.length) (by omega)).2
  unfold lf ofAtom
  rw [List.length_cons, List.length_append, List.length_cons, List.length_cons, putText_len]
  omega
theorem lf_right {f : Tm} {v : Nat} (hf : f.length ≤ 100) (hv : v < 18446744073709551616) : right (lf f v) = true := sz_right (lf_sz hf hv).1 (by omega) (by have := (lf_sz hf hv).2; omega)
theorem leafT_is {f : Tm} {v : Nat} (hf : f.length ≤ 100) (hv : v < 18446744073709551616) : leafT f v = (lf f v, 0) := by
  unfold leafT
  rw [ofText_small (by omega), if_neg (fun h => h rfl)]
  unfold two
  rw [if_pos ⟨ofText_small_right (by omega), atom_ok hv⟩]
  exact made_yes (lf_right hf hv)
theorem lf_pts {f : Tm} {v : Nat} (hf : f.length ≤ 100) (hv : v < 18446744073709551616) : pts (lf f v) = [116 :: putText f, ofAtom v] := by
  obtain ⟨x, y, e1, e2, e3, _, _⟩ := pts_two (lf_right hf hv) (.inl rfl)
  obtain ⟨e5, e6⟩ := right_cut (ofText_small_right (s := f) (by omega)) e3 e1
  show pts (112 :: (116 :: putText f ++ ofAtom v)) = _
  rw [e2, ← e5, ← e6]
theorem lf_leaf {f : Tm} {v : Nat} (hf : f.length ≤ 100) (hv : v < 18446744073709551616) : isLeaf (lf f v) = true := by
  unfold isLeaf
  rw [kind_right (lf_right hf hv), lf_pts hf hv]
  rfl
theorem lf_inj {f g : Tm} {v u : Nat} (hf : f.length ≤ 100) (hg : g.length ≤ 100) (hv : v < 18446744073709551616) (hu : u < 18446744073709551616) (h : lf f v = lf g u) : f = g ∧ v = u := by
  have e1 := (List.cons.inj h).2
  obtain ⟨e2, e3⟩ := right_cut (ofText_small_right (s := f) (by omega)) (ofText_small_right (s := g) (by omega)) e1
  have e4 : put f.length ++ f = put g.length ++ g := (List.cons.inj e2).2
  refine ⟨(put_inj (by omega) (by omega) e4).2, ?_⟩
  exact (put_inj hv hu (r := []) (q := []) (by rw [List.append_nil, List.append_nil]; exact (List.cons.inj e3).2)).1
theorem fst_half {n d : Nat} (h1 : 2 ≤ n) (hd : d ≤ 2) (h : n ≤ 2 ^ (d + 1)) : fst n ≤ 2 ^ d ∧ n - fst n ≤ 2 ^ d ∧ n ≤ 8 ∧ 2 ^ (d + 1) = 2 * 2 ^ d ∧ 2 ^ d ≤ 4 := by
  have h8 : n ≤ 8 := Nat.le_trans h (by
    have : d = 0 ∨ d = 1 ∨ d = 2 := by omega
    rcases this with rfl | rfl | rfl <;> decide)
  have hn : n = 2 ∨ n = 3 ∨ n = 4 ∨ n = 5 ∨ n = 6 ∨ n = 7 ∨ n = 8 := by omega
  have hdd : d = 0 ∨ d = 1 ∨ d = 2 := by omega
  rcases hdd with rfl | rfl | rfl <;> rcases hn with rfl | rfl | rfl | rfl | rfl | rfl | rfl <;> first | decide | exact absurd h (by decide)
theorem over_is {x y : Tm} (hx : right x = true) (hy : right y = true) (h1 : right (112 :: (x ++ y)) = true) (h2 : right (104 :: 112 :: (x ++ y)) = true) : over x y = (104 :: 112 :: (x ++ y), 0) := by
  have e : two 112 x y = (112 :: (x ++ y), 0) := by
    unfold two
    rw [if_pos ⟨hx, hy⟩]
    exact made_yes h1
  unfold over
  rw [e, if_neg (fun h => h rfl)]
  unfold one
  rw [if_pos h1]
  exact made_yes h2
theorem one_is {a : Tm} (s1 : Sz 2 a) (s2 : a.length ≤ 121) : one 104 a = (104 :: a, 0) := by
  have s3 : Sz 3 (104 :: a) := sz_one (.inl rfl) s1
  unfold one
  rw [if_pos (sz_right s1 (by omega) (by omega))]
  exact made_yes (sz_right s3 (by omega) (by rw [List.length_cons]; omega))
/-- Trees of small leaves are no error. -/
theorem tree_small : ∀ {d : Nat} {l : List Tm}, d ≤ 3 → 1 ≤ l.length → l.length ≤ 2 ^ d → (∀ t ∈ l, Sz 2 t ∧ t.length ≤ 121) → ∃ x, treeD (d + 1) l = (x, 0) ∧ Sz (3 + 2 * d) x ∧ x.length + 2 ≤ 2 ^ d * 124
  | 0, l, _, h1, h2, hl => by
    have h1' : l.length = 1 := by omega
    obtain ⟨a, rfl⟩ := List.length_eq_one_iff.1 h1'
    obtain ⟨s1, s2⟩ := hl a (by simp)
    refine ⟨104 :: a, ?_, sz_one (.inl rfl) s1, by rw [List.length_cons]; omega⟩
    rw [treeD_succ, if_pos h1']
    exact one_is s1 s2
  | d + 1, l, hd, h1, h2, hl => by
    by_cases h1' : l.length = 1
    · obtain ⟨a, rfl⟩ := List.length_eq_one_iff.1 h1'
      obtain ⟨s1, s2⟩ := hl a (by simp)
      refine ⟨104 :: a, ?_, sz_up (sz_one (.inl rfl) s1) (by omega), ?_⟩
      · rw [treeD_succ, if_pos h1']
        exact one_is s1 s2
      · have : 1 ≤ 2 ^ (d + 1) := Nat.one_le_two_pow
        rw [List.length_cons]; omega
    · obtain ⟨p1, p2, p3, p4, p5⟩ := fst_half (n := l.length) (d := d) (by omega) (by omega) h2
      obtain ⟨k0, k1⟩ := fst_lt (n := l.length) (by omega) p3
      have lt1 : (l.take (fst l.length)).length = fst l.length := by rw [List.length_take]; omega
      have ld1 : (l.drop (fst l.length)).length = l.length - fst l.length := List.length_drop
      obtain ⟨x, ex, sx, lx⟩ := tree_small (d := d) (l := l.take (fst l.length)) (by omega) (by omega) (by omega) (fun t ht => hl t (List.mem_of_mem_take ht))
      obtain ⟨y, ey, sy, ly⟩ := tree_small (d := d) (l := l.drop (fst l.length)) (by omega) (by omega) (by omega) (fun t ht => hl t (List.mem_of_mem_drop ht))
      have s1 : Sz (3 + 2 * d + 1) (112 :: (x ++ y)) := sz_pair sx sy
      have s2 : Sz (3 + 2 * d + 1 + 1) (104 :: 112 :: (x ++ y)) := sz_one (.inl rfl) s1
      have l1 : (112 :: (x ++ y) : Tm).length = x.length + y.length + 1 := by rw [List.length_cons, List.length_append]
      have l2 : (104 :: 112 :: (x ++ y) : Tm).length = x.length + y.length + 2 := by rw [List.length_cons, l1]
      refine ⟨104 :: 112 :: (x ++ y), ?_, sz_up s2 (by omega), by rw [l2]; omega⟩
      rw [treeD_succ, if_neg h1', ex, ey, if_neg (fun h => h rfl), if_neg (fun h => h rfl)]
      show over x y = _
      exact over_is (sz_right sx (by omega) (by omega)) (sz_right sy (by omega) (by omega)) (sz_right s1 (by omega) (by rw [l1]; omega)) (sz_right s2 (by omega) (by rw [l2]; omega))
/-- The tree of up to eight small leaves. -/
theorem root_small {l : List Tm} (h1 : 1 ≤ l.length) (h8 : l.length ≤ 8) (hl : ∀ t ∈ l, Sz 2 t ∧ t.length ≤ 121) (hf : ∀ t ∈ l, isLeaf t = true) : ∃ x, root l = (x, 0) ∧ treeD 4 l = (x, 0) ∧ right x = true ∧ x.headD 0 = 104 := by
  obtain ⟨x, e, s, hlen⟩ := tree_small (d := 3) (by omega) h1 h8 hl
  refine ⟨x, ?_, e, sz_right s (by omega) (by omega), (tree_head e (by omega)).1⟩
  unfold root
  rw [if_neg (by omega), if_neg (fun h => h hf)]
  exact e
/-- The trees beside a way are right terms, few of them. -/
theorem beside_right : ∀ {d : Nat} {l : List Tm} {i : Nat}, 1 ≤ l.length → l.length ≤ 8 → i < l.length → (treeD (d + 1) l).2 = 0 → ∀ x ∈ besideD (d + 1) l i, right x = true := by
  intro d
  induction d with
  | zero =>
    intro l i h1 h8 hi h0 x hx
    by_cases hl : l.length = 1
    · rw [besideD_succ, if_pos hl] at hx; cases hx
    · obtain ⟨_, _, e0⟩ := tree_two hl h0
      rcases over_or (treeD 0 (l.take (fst l.length))).1 (treeD 0 (l.drop (fst l.length))).1 with ⟨_, g1, _⟩ | ⟨g3, _⟩
      · exact absurd (show right ([] : Tm) = true from g1) (by decide)
      · rw [← e0] at g3; exact absurd h0 g3
  | succ d ih =>
    intro l i h1 h8 hi h0 x hx
    by_cases hl : l.length = 1
    · rw [besideD_succ, if_pos hl] at hx; cases hx
    · obtain ⟨ha, hb, _⟩ := tree_two hl h0
      obtain ⟨k0, k1⟩ := fst_lt (n := l.length) (by omega) h8
      have lt1 : (l.take (fst l.length)).length = fst l.length := by rw [List.length_take]; omega
      have ld1 : (l.drop (fst l.length)).length = l.length - fst l.length := List.length_drop
      rw [besideD_succ, if_neg hl] at hx
      by_cases hk : i < fst l.length
      · rw [if_pos hk] at hx
        rcases List.mem_append.1 hx with h | h
        · exact ih (by omega) (by omega) (by omega) ha x h
        · rw [List.mem_singleton.1 h]; exact (tree_head (Prod.ext rfl hb) (by omega)).2
      · rw [if_neg hk] at hx
        rcases List.mem_append.1 hx with h | h
        · exact ih (by omega) (by omega) (by omega) hb x h
        · rw [List.mem_singleton.1 h]; exact (tree_head (Prod.ext rfl ha) (by omega)).2
/-- Each leaf is proved at its place. -/
theorem verify_yes {l : List Tm} {r : Tm} {i : Nat} (h1 : 1 ≤ l.length) (h8 : l.length ≤ 8) (hi : i < l.length) (hf : ∀ t ∈ l, isLeaf t = true) (h : treeD 4 l = (r, 0)) : verifyT r (l.length : Int) (i : Int) (l.getD i []) (besideD 4 l i) = true := by
  unfold verifyT
  rw [decide_eq_true_eq]
  refine ⟨by omega, by omega, by omega, by omega, hf _ (by rw [List.getD, List.getElem?_eq_getElem hi]; exact List.getElem_mem hi), (tree_head h (by omega)).2, beside_right h1 h8 hi (by rw [h]), ?_⟩
  rw [show ((l.length : Int)).toNat = l.length by omega, show ((i : Int)).toNat = i by omega, up_beside h1 h8 hi (by rw [h]), h]
/-- .. and nothing else is, with no other proof. -/
theorem verify_only {l : List Tm} {r t : Tm} {i : Nat} {p : List Tm} (h1 : 1 ≤ l.length) (h8 : l.length ≤ 8) (hi : i < l.length) (h : treeD 4 l = (r, 0)) (hv : verifyT r (l.length : Int) (i : Int) t p = true) : t = l.getD i [] ∧ p = besideD 4 l i := by
  unfold verifyT at hv
  rw [decide_eq_true_eq] at hv
  have e := hv.2.2.2.2.2.2.2
  rw [show ((l.length : Int)).toNat = l.length by omega, show ((i : Int)).toNat = i by omega] at e
  have e2 := up_beside h1 h8 hi (by rw [h])
  rw [h] at e2
  have e3 : upD 4 l.length i t p = upD 4 l.length i (l.getD i []) (besideD 4 l i) := by rw [e, e2]
  refine up_inj e3 ?_
  rw [e]
  exact (right_iff.1 (tree_head h (by omega)).2).1
end Go.Proofs.Ytblgcpopcgnncaa.Tre
