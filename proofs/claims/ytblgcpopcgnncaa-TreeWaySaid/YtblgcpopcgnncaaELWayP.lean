/-
  WHAT TreeWay LEANS ON: the trees beside a leaf's way are those of the rows beside it, one after another; rows of unlike leaves that have one tree are one row at one place. By an AI agent; no person has read it.
-/
import Derived.Test.YtblgcpopcgnncaaELProvesP
namespace Go.Proofs.Ytblgcpopcgnncaa.Tre
open Go Go.RowKit Wire Term Draw Reg Clo

set_option linter.unusedSimpArgs false
set_option linter.unusedVariables false
/-- k leaves of l, from place a on. -/
def sl (l : List Tm) (a k : Nat) : List Tm := (l.drop a).take k
theorem sl_len {l : List Tm} {a k : Nat} (h : a + k ≤ l.length) : (sl l a k).length = k := by
  unfold sl; rw [List.length_take, List.length_drop]; omega
theorem sl_get {l : List Tm} {a k j : Nat} (h : j < k) : (sl l a k)[j]? = l[a + j]? := by
  unfold sl; rw [List.getElem?_take, if_pos h, List.getElem?_drop]
theorem sl_mem {l : List Tm} {a k : Nat} {t : Tm} (h : t ∈ sl l a k) : t ∈ l := List.mem_of_mem_drop (List.mem_of_mem_take h)
theorem sl_take {l : List Tm} {a k f : Nat} (h : f ≤ k) : (sl l a k).take f = sl l a f := by
  unfold sl; rw [List.take_take, Nat.min_eq_left h]
theorem sl_drop {l : List Tm} {a k f : Nat} : (sl l a k).drop f = sl l (a + f) (k - f) := by
  unfold sl; rw [List.drop_take, List.drop_drop]
/-- The row around a leaf grows by each tree on one of its sides. -/
def Steps (l : List Tm) : List Tm → Nat → Nat → Nat → Nat → Prop
  | [], lo, hi, A, B => lo = A ∧ hi = B
  | p :: ps, lo, hi, A, B => (∃ k, 1 ≤ k ∧ hi + k ≤ l.length ∧ root (sl l hi k) = (p, 0) ∧ Steps l ps lo (hi + k) A B) ∨ (∃ k, 1 ≤ k ∧ k ≤ lo ∧ root (sl l (lo - k) k) = (p, 0) ∧ Steps l ps (lo - k) hi A B)
theorem Steps.snoc {l : List Tm} : ∀ {ps : List Tm} {p : Tm} {lo hi a b A B : Nat}, Steps l ps lo hi a b → Steps l [p] a b A B → Steps l (ps ++ [p]) lo hi A B
  | [], _, _, _, _, _, _, _, h, h2 => by obtain ⟨rfl, rfl⟩ := h; exact h2
  | q :: ps, p, lo, hi, a, b, A, B, h, h2 => by
    rcases h with ⟨k, h1, h3, h4, h5⟩ | ⟨k, h1, h3, h4, h5⟩
    · exact .inl ⟨k, h1, h3, h4, Steps.snoc h5 h2⟩
    · exact .inr ⟨k, h1, h3, h4, Steps.snoc h5 h2⟩
theorem steps_way : ∀ {d : Nat} {l : List Tm} {s n i : Nat}, d ≤ 3 → (∀ t ∈ l, isLeaf t = true) → 1 ≤ n → n ≤ 2 ^ d → s + n ≤ l.length → i < n → (treeD (d + 1) (sl l s n)).2 = 0 → Steps l (besideD (d + 1) (sl l s n) i) (s + i) (s + i + 1) s (s + n)
  | 0, l, s, n, i, hd, hl, h1, h2, h3, hi, h0 => by
    have h2' : n ≤ 1 := h2
    rw [besideD_succ, if_pos (by rw [sl_len h3]; omega)]
    exact ⟨by omega, by omega⟩
  | d + 1, l, s, n, i, hd, hl, h1, h2, h3, hi, h0 => by
    have hlen := sl_len h3
    by_cases h1' : n = 1
    · rw [besideD_succ, if_pos (by rw [hlen]; exact h1')]
      exact ⟨by omega, by omega⟩
    · obtain ⟨ha, hb, _⟩ := tree_two (d := d + 1) (by rw [hlen]; exact h1') h0
      obtain ⟨p1, p2, p3, _, _⟩ := fst_half (n := n) (d := d) (by omega) (by omega) h2
      obtain ⟨k0, k1⟩ := fst_lt (n := n) (by omega) p3
      rw [hlen, sl_take (by omega)] at ha
      rw [hlen, sl_drop] at hb
      have rt : ∀ {a k : Nat}, 1 ≤ k → k ≤ 2 ^ d → a + k ≤ l.length → (treeD (d + 1) (sl l a k)).2 = 0 → root (sl l a k) = ((treeD (d + 1) (sl l a k)).1, 0) := fun {a k} g1 g2 g3 g4 => by
        have e := sl_len g3
        have h8 : k ≤ 8 := by omega
        unfold root
        rw [if_neg (by omega), if_neg (fun h => h (fun t ht => hl t (sl_mem ht))), ← tree_four (d := d) (by omega) (by omega) (by omega)]
        exact Prod.ext rfl g4
      rw [besideD_succ, hlen, if_neg h1', sl_take (by omega), sl_drop]
      by_cases hk : i < fst n
      · rw [if_pos hk]
        have r := steps_way (d := d) (l := l) (s := s) (n := fst n) (i := i) (by omega) hl (by omega) p1 (by omega) hk ha
        refine r.snoc (.inl ⟨n - fst n, by omega, by omega, rt (by omega) p2 (by omega) hb, rfl, by omega⟩)
      · rw [if_neg hk]
        have r := steps_way (d := d) (l := l) (s := s + fst n) (n := n - fst n) (i := i - fst n) (by omega) hl (by omega) p2 (by omega) (by omega) hb
        rw [show s + fst n + (i - fst n) = s + i by omega, show s + fst n + (n - fst n) = s + n by omega] at r
        refine r.snoc (.inr ⟨fst n, by omega, by omega, ?_, by omega, rfl⟩)
        rw [show s + fst n - fst n = s by omega]
        exact rt (by omega) p1 (by omega) ha
/-- No two leaves of l are alike. -/
def Unlike (l : List Tm) : Prop := ∀ i j, j < i → i < l.length → l[i]? ≠ l[j]?
theorem sl_one {l : List Tm} (hu : Unlike l) {a b k m : Nat} (hk : 1 ≤ k) (hm : 1 ≤ m) (ha : a + k ≤ l.length) (hb : b + m ≤ l.length) (h : sl l a k = sl l b m) : a = b ∧ k = m := by
  have h1 := congrArg List.length h
  rw [sl_len ha, sl_len hb] at h1
  have h2 : (sl l a k)[0]? = (sl l b m)[0]? := by rw [h]
  rw [sl_get (by omega), sl_get (by omega)] at h2
  refine ⟨?_, h1⟩
  rcases Nat.lt_trichotomy a b with h3 | h3 | h3
  · exact absurd h2.symm (hu (b + 0) (a + 0) (by omega) (by omega))
  · exact h3
  · exact absurd h2 (hu (a + 0) (b + 0) (by omega) (by omega))
theorem way_right {l : List Tm} (hu : Unlike l) {p : Tm} {ps : List Tm} {lo hi A B k : Nat} (hs : Steps l (p :: ps) lo hi A B) (hlh : lo < hi) (hhi : hi ≤ l.length) (hk : 1 ≤ k) (hl : hi + k ≤ l.length) (h : root (sl l hi k) = (p, 0)) : Steps l ps lo (hi + k) A B := by
  rcases hs with ⟨m, h1, h2, h3, h4⟩ | ⟨m, h1, h2, h3, h4⟩
  · obtain ⟨_, e⟩ := sl_one hu hk h1 hl h2 (root_inj h h3)
    rw [e]; exact h4
  · obtain ⟨e, _⟩ := sl_one hu hk h1 hl (by omega) (root_inj h h3)
    omega
theorem way_left {l : List Tm} (hu : Unlike l) {p : Tm} {ps : List Tm} {lo hi A B k : Nat} (hs : Steps l (p :: ps) lo hi A B) (hlh : lo < hi) (hhi : hi ≤ l.length) (hk : 1 ≤ k) (hl : k ≤ lo) (h : root (sl l (lo - k) k) = (p, 0)) : Steps l ps (lo - k) hi A B := by
  rcases hs with ⟨m, h1, h2, h3, h4⟩ | ⟨m, h1, h2, h3, h4⟩
  · obtain ⟨e, _⟩ := sl_one hu hk h1 (by omega) h2 (root_inj h h3)
    omega
  · obtain ⟨e1, e⟩ := sl_one hu hk h1 (by omega) (by omega) (root_inj h h3)
    rw [e]; exact h4
/-- Is k the length of the next tree's row? -/
def Hit (l : List Tm) (p : Tm) (lo hi k : Nat) : Prop := (hi + k ≤ l.length ∧ root (sl l hi k) = (p, 0)) ∨ (k ≤ lo ∧ root (sl l (lo - k) k) = (p, 0))
theorem way_hit {l : List Tm} {p : Tm} {ps : List Tm} {lo hi A B : Nat} (hs : Steps l (p :: ps) lo hi A B) (hhi : hi ≤ l.length) (hlh : lo < hi) : ∃ k, 1 ≤ k ∧ k ≤ l.length ∧ Hit l p lo hi k := by
  rcases hs with ⟨m, h1, h2, h3, h4⟩ | ⟨m, h1, h2, h3, h4⟩
  · exact ⟨m, h1, by omega, .inl ⟨h2, h3⟩⟩
  · exact ⟨m, h1, by omega, .inr ⟨h2, h3⟩⟩
theorem sl_root {l : List Tm} (h8 : l.length ≤ 8) (hs : ∀ t ∈ l, (Sz 2 t ∧ t.length ≤ 121) ∧ isLeaf t = true) {a k : Nat} (hk : 1 ≤ k) (h : a + k ≤ l.length) : ∃ x, root (sl l a k) = (x, 0) := by
  obtain ⟨x, e, _⟩ := small_root (l := sl l a k) (by rw [sl_len h]; exact hk) (by rw [sl_len h]; omega) (fun t ht => hs t (sl_mem ht))
  exact ⟨x, e⟩
set_option maxHeartbeats 2000000 in
set_option maxRecDepth 1000000 in
theorem same1_any (a : Option Addr) (c : Nat) (xs : List ByteArray) (w : World) (hr : SReads w a xs) (hn : xs.length ≤ 100) :
    Calls Try.prog 25 #[.slice a xs.length c] w fun e w' => (e = .returned (.bool true) ∨ (e = .returned (.bool false) ∧ Unlike (bl xs))) ∧ Below w.heap.size w w' := by
  have HR := Lib.hid hr
  clear hr
  obtain ⟨n, hxn⟩ : ∃ n, xs.length = n := ⟨_, rfl⟩
  rw [hxn] at hn ⊢
  have HX := Lib.hid hxn
  clear hxn
  go_enter Try.func25, Try.ntmps25
  go_wp2
  go_loopw [3] (fun i wr => ∃ m d : Nat, m ≤ n ∧ i = .int .i64 m ∧ wr = w.drewN d ∧ Hid (∀ i j, j < i → i < m → (bl xs)[i]? ≠ (bl xs)[j]?)) (fun i _ => n - (intOf i).toNat)
  case atStart => exact ⟨0, 0, Nat.zero_le _, rfl, rfl, Lib.hid fun i j h1 h2 => absurd h2 (Nat.not_lt_zero _)⟩
  case round =>
    obtain ⟨m, d, hm, rfl, rfl, HA⟩ := hrel
    by_cases hlt : m < n
    · have hm1 : (m : Int) < (n : Int) := by omega
      have hm0 : (0 : Int) ≤ (m : Int) := Int.natCast_nonneg m
      go_wp2
      go_loopw [4] (fun k wr => ∃ q d : Nat, q ≤ m ∧ k = .int .i64 q ∧ wr = w.drewN d ∧ Hid (∀ j, j < q → (bl xs)[m]? ≠ (bl xs)[j]?)) (fun k _ => m - (intOf k).toNat)
      case atStart => exact ⟨0, _, Nat.zero_le _, rfl, rfl, Lib.hid fun j h => absurd h (Nat.not_lt_zero _)⟩
      case round =>
        obtain ⟨q, d2, hq, rfl, rfl, HB⟩ := hrel
        by_cases hlq : q < m
        · have hlx : m < xs.length := by rw [HX.out]; exact hlt
          have hly : q < xs.length := by rw [HX.out]; omega
          obtain ⟨b1, o1, rfl, hb1, hc1⟩ := HR.out m hlx
          have hc2 := cell_at HR.out hly
          obtain ⟨x, hx⟩ : ∃ x, xs.getD m ByteArray.empty = x := ⟨_, rfl⟩
          obtain ⟨y, hy⟩ : ∃ y, xs.getD q ByteArray.empty = y := ⟨_, rfl⟩
          rw [hx] at hc1
          rw [hy] at hc2
          have GX : Hid ((bl xs)[m]? = some x.data.toList) := Lib.hid (by rw [← hx]; simp [bl, List.getD, hlx])
          have GY : Hid ((bl xs)[q]? = some y.data.toList) := Lib.hid (by rw [← hy]; simp [bl, List.getD, hly])
          have hq0 : (0 : Int) ≤ (q : Int) := Int.natCast_nonneg q
          have hq1 : (q : Int) < (m : Int) := by omega
          have hq2 : (q : Int) < (n : Int) := by omega
          clear hx hy hlx hly
          by_cases he : x.data.toList = y.data.toList
          · have hb := eq_bool he
            clear he
            go_wp2
            go_quiet (fail)
            go_wp2
            go_ret
            exact ⟨.inl rfl, (bdrew w d2).trans (bdrew _ _)⟩
          · have hb := ne_bool he
            have HE := Lib.hid he
            clear he
            go_wp2
            go_quiet (fail)
            go_wp2
            go_roundw
            case rel =>
              refine ⟨q + 1, _, by omega, by go_num, rfl, Lib.hid fun j hj => ?_⟩
              rcases Nat.lt_or_ge j q with h | h
              · exact HB.out j h
              · obtain rfl : j = q := by omega
                rw [GX.out, GY.out]
                exact fun e => HE.out (Option.some.inj e)
            case measure => simp [intOf]; omega
        · obtain rfl : q = m := by omega
          have hlq2 : ¬ (q : Int) < (q : Int) := by omega
          go_wp2
          go_roundw
          case rel =>
            refine ⟨q + 1, _, by omega, by go_num, rfl, Lib.hid fun i j h1 h2 => ?_⟩
            rcases Nat.lt_or_ge i q with h | h
            · exact HA.out i j h1 h
            · obtain rfl : i = q := by omega
              exact HB.out j h1
          case measure => simp [intOf]; omega
    · obtain rfl : m = n := by omega
      go_wp2
      go_ret
      exact ⟨.inr ⟨rfl, fun i j h1 h2 => HA.out i j h1 (by have := HX.out; simp [bl] at h2; omega)⟩, bdrew _ _⟩
end Go.Proofs.Ytblgcpopcgnncaa.Tre
