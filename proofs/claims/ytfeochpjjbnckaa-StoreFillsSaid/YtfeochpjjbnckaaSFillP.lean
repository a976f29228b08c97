/-
  PLAIN FACTS, OF NO PROGRAM: a store that is filled with so many letters, in turns. By an AI agent; no person has read it.
-/
import Derived.Test.YtfeochpjjbnckaaSPure
namespace Go.Proofs.Ytfeochpjjbnckaa.Sto
open Wire

set_option linter.unusedVariables false

def lt (j : Nat) : Tm := [(97 + j).toUInt8]
theorem lt_inj {i j : Nat} (hi : i < 26) (hj : j < 26) (h : lt i = lt j) : i = j := by
  have h1 := congrArg UInt8.toNat (List.cons.inj h).1
  rw [u8_nat _ (by omega), u8_nat _ (by omega)] at h1
  omega
theorem putS_err {s : Stt} {k b : Tm} (h : putE s k b ≠ 0) : putS s k b = s := by unfold putS; rw [if_neg h]
structure Fill (n i : Nat) (s : Stt) : Prop where
  cnt : s.n = i
  is : ∀ x, s.is x = true ↔ ∃ j, j < n ∧ j < i ∧ x = lt j
theorem fill0 (n : Nat) : Fill n 0 s0 := ⟨rfl, fun x => ⟨fun h => (by cases h), fun ⟨j, _, h, _⟩ => absurd h (Nat.not_lt_zero _)⟩⟩
theorem fill_step {n i : Nat} {s : Stt} (h1 : 1 ≤ n) (h26 : n ≤ 26) (hi : i < 2000) (h : Fill n i s) : putE s (lt (i % n)) [120] = 0 ∧ Fill n (i + 1) (putS s (lt (i % n)) [120]) := by
  have hm : i % n < n := Nat.mod_lt _ h1
  have e : putE s (lt (i % n)) [120] = 0 := putE_ok.2 ⟨⟨List.cons_ne_nil _ _, by show 1 ≤ 200; decide⟩, by show 1 ≤ 40000; decide, by rw [h.cnt]; exact hi⟩
  refine ⟨e, ?_⟩
  unfold putS
  rw [if_pos e]
  refine ⟨by show s.n + 1 = i + 1; rw [h.cnt], fun x => ?_⟩
  show (decide (x = lt (i % n)) || s.is x) = true ↔ _
  rw [Bool.or_eq_true, decide_eq_true_eq, h.is]
  constructor
  · rintro (rfl | ⟨j, a, b, c⟩)
    · exact ⟨i % n, hm, Nat.lt_succ_of_le (Nat.mod_le _ _), rfl⟩
    · exact ⟨j, a, by omega, c⟩
  · rintro ⟨j, a, b, rfl⟩
    by_cases hj : j < i
    · exact .inr ⟨j, a, hj, rfl⟩
    · left
      have : j = i := by omega
      subst this
      rw [Nat.mod_eq_of_lt a]
theorem len_of {l m : List Tm} (h1 : l.Nodup) (h2 : m.Nodup) (h : ∀ x, x ∈ l ↔ x ∈ m) : l.length = m.length := ((List.perm_ext_iff_of_nodup h1 h2).2 h).length_eq
theorem map_nodup {f : Nat → Tm} {n : Nat} (h : ∀ i j, i < n → j < n → f i = f j → i = j) : ((List.range n).map f).Nodup := by
  unfold List.Nodup
  refine List.pairwise_map.2 ?_
  have := List.nodup_range (n := n)
  refine List.Pairwise.imp_of_mem ?_ this
  intro a b ha hb hne he
  exact hne (h a b (List.mem_range.1 ha) (List.mem_range.1 hb) he)
theorem fill_list {n i : Nat} {s : Stt} (h26 : n ≤ 26) (hi : n ≤ i) (h : Fill n i s) {l : List Tm} (hl : Lists s [] l) : l.length = n := by
  have := len_of (rising_nodup hl.1) (map_nodup (f := lt) (n := n) fun a b ha hb e => lt_inj (by omega) (by omega) e) fun x => by
    rw [hl.2, h.is, List.mem_map]
    constructor
    · rintro ⟨⟨j, a, b, rfl⟩, _⟩; exact ⟨j, List.mem_range.2 a, rfl⟩
    · rintro ⟨j, a, rfl⟩; exact ⟨⟨j, List.mem_range.1 a, by have := List.mem_range.1 a; omega, rfl⟩, List.nil_prefix⟩
  rw [this, List.length_map, List.length_range]
theorem fill_del {n i : Nat} {s : Stt} (h1 : 1 ≤ n) (h26 : n ≤ 26) (hi : n ≤ i) (h : Fill n i s) : delE s [97] = 0 ∧ ∀ {l : List Tm}, Lists (delS s [97]) [] l → l.length = n - 1 := by
  have e0 : ([97] : Tm) = lt 0 := rfl
  refine ⟨?_, fun {l} hl => ?_⟩
  · unfold delE
    rw [if_pos ((h.is _).2 ⟨0, by omega, by omega, e0⟩)]
  · have := len_of (rising_nodup hl.1) (map_nodup (f := fun j => lt (j + 1)) (n := n - 1) fun a b ha hb e => by have := lt_inj (by omega) (by omega) e; omega) fun x => by
      rw [hl.2, List.mem_map]
      show ((!decide (x = [97]) && s.is x) = true ∧ _) ↔ _
      rw [Bool.and_eq_true, h.is]
      constructor
      · rintro ⟨⟨hx, j, a, b, rfl⟩, _⟩
        have hj : j ≠ 0 := fun h0 => by subst h0; simp [e0] at hx
        exact ⟨j - 1, List.mem_range.2 (by omega), by show lt (j - 1 + 1) = lt j; rw [Nat.sub_add_cancel (by omega)]⟩
      · rintro ⟨j, a, rfl⟩
        have ha := List.mem_range.1 a
        refine ⟨⟨?_, j + 1, by omega, by omega, rfl⟩, List.nil_prefix⟩
        simp only [Bool.not_eq_true', decide_eq_false_iff_not]
        intro he
        have := lt_inj (by omega) (by omega) (he.trans e0)
        omega
    rw [this, List.length_map, List.length_range]
theorem fill_full {n : Nat} {s : Stt} (h : Fill n 2000 s) : putE s [97] [121] = 11 ∧ putE s [] [121] = 1 ∧ putE (delS s [97]) [97] [121] = 11 := by
  have hn := h.cnt
  have hd : (delS s [97]).n = 2000 := hn
  refine ⟨?_, rfl, ?_⟩
  · unfold putE; rw [if_neg (by decide), if_neg (by decide), if_pos (by omega)]
  · unfold putE; rw [if_neg (by decide), if_neg (by decide), if_pos (by omega)]
end Go.Proofs.Ytfeochpjjbnckaa.Sto
