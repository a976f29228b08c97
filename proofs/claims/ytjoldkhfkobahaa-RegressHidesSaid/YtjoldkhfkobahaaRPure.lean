/-
  PLAIN FACTS, OF NO PROGRAM: chains of states (layer 6): a hash of a hash of .. a term; a state's key; who can tell them. By an AI agent; no person has read it.
-/
import Derived.Test.YtjoldkhfkobahaaB5
namespace Go.Proofs.Ytjoldkhfkobahaa.Reg
open Wire Term Clo Draw

/-! ### terms of a depth at most -/
/-- A term's bytes, of that depth at most. -/
def Sz (d : Nat) (l : List UInt8) : Prop := l ≠ [] ∧ size d l = l.length
theorem sz_right {d : Nat} {l : List UInt8} (h : Sz d l) (hd : d ≤ 40) (hl : l.length ≤ 4000) : right l = true := by
  refine right_iff.2 ⟨h.1, hl, ?_⟩
  rw [← h.2]
  exact size_mono hd (by rw [h.2]; exact fun e => h.1 (List.eq_nil_of_length_eq_zero e))
theorem sz_up {d e : Nat} {l : List UInt8} (h : Sz d l) (hd : d ≤ e) : Sz e l :=
  ⟨h.1, by rw [size_mono hd (by rw [h.2]; exact fun e => h.1 (List.eq_nil_of_length_eq_zero e))]; exact h.2⟩
theorem sz_one {d : Nat} {k : UInt8} {a : List UInt8} (hk : k = 104 ∨ k = 117) (h : Sz d a) : Sz (d + 1) (k :: a) := ⟨List.cons_ne_nil _ _, size_one hk h.2 h.1⟩
theorem sz_pair {d : Nat} {a b : List UInt8} (ha : Sz d a) (hb : Sz d b) : Sz (d + 1) (112 :: (a ++ b)) := ⟨List.cons_ne_nil _ _, size_pair ha.2 ha.1 hb.2 hb.1⟩
theorem sz_atom (d : Nat) {n : Nat} (hn : n < 18446744073709551616) : Sz (d + 1) (ofAtom n) := ⟨List.cons_ne_nil _ _, size_atom d hn⟩
theorem sz_txt (d : Nat) {use who : List UInt8} (h : (use ++ 58 :: who).length ≤ 3000) : Sz (d + 1) (txt use who) := ⟨List.cons_ne_nil _ _, size_txt d h⟩

/-! ### back -/
/-- The hash of the hash of .. a term. -/
def hs (k : Nat) (t : List UInt8) : List UInt8 := List.replicate k 104 ++ t
theorem hs_zero (t : List UInt8) : hs 0 t = t := rfl
theorem hs_succ (k : Nat) (t : List UInt8) : hs (k + 1) t = 104 :: hs k t := rfl
theorem hs_len (k : Nat) (t : List UInt8) : (hs k t).length = k + t.length := by simp [hs]
theorem hs_add : ∀ (i j : Nat) (t : List UInt8), hs (i + j) t = hs i (hs j t)
  | 0, j, t => by rw [Nat.zero_add]; rfl
  | i + 1, j, t => by rw [show i + 1 + j = (i + j) + 1 by omega, hs_succ, hs_add i j t]; rfl
theorem hs_out (k : Nat) (t : List UInt8) : hs (k + 1) t = hs k (104 :: t) := hs_add k 1 t
theorem hs_inj {i j : Nat} {t : List UInt8} (h : hs i t = hs j t) : i = j := by
  have := congrArg List.length h
  rw [hs_len, hs_len] at this; omega
theorem hs_down {k : Nat} {t : List UInt8} (h : right (hs (k + 1) t) = true) : right (hs k t) = true := (pts_one h (.inl rfl)).2
theorem hs_less {j k : Nat} {t : List UInt8} (hjk : j ≤ k) (h : right (hs k t) = true) : right (hs j t) = true := by
  induction k with
  | zero => rw [Nat.le_zero.1 hjk]; exact h
  | succ k ih =>
    rcases Nat.lt_or_ge k j with h1 | h1
    · rw [show j = k + 1 by omega]; exact h
    · exact ih h1 (hs_down h)
theorem sz_hs {d : Nat} {t : List UInt8} (h : Sz d t) : ∀ k, Sz (d + k) (hs k t)
  | 0 => h
  | k + 1 => sz_one (.inl rfl) (sz_hs h k)
/-- So many steps back of a right term. -/
def backN (t : List UInt8) (k : Nat) : List UInt8 × Int := if right (hs k t) = true then (hs k t, 0) else ([], 10)
def back (t : List UInt8) (steps : Int) : List UInt8 × Int := if right t = true ∧ 0 ≤ steps then backN t steps.toNat else ([], 1)
def state (t : List UInt8) (ep : Int) : List UInt8 × Int := if right t = true then (if 0 ≤ ep ∧ ep ≤ 7 then backN t (7 - ep).toNat else ([], 9)) else ([], 1)
theorem backN_yes {t : List UInt8} {k : Nat} (h : right (hs k t) = true) : backN t k = (hs k t, 0) := by unfold backN; rw [if_pos h]
theorem backN_no {t : List UInt8} {k : Nat} (h : ¬ right (hs k t) = true) : backN t k = ([], 10) := by unfold backN; rw [if_neg h]
theorem backN_cases (t : List UInt8) (k : Nat) : (right (hs k t) = true ∧ backN t k = (hs k t, 0)) ∨ (right (hs k t) = false ∧ backN t k = ([], 10)) := by
  by_cases h : right (hs k t) = true
  · exact .inl ⟨h, backN_yes h⟩
  · exact .inr ⟨by simpa using h, backN_no h⟩
theorem back_of {t : List UInt8} {steps : Int} (hr : right t = true) (hs : 0 ≤ steps) : back t steps = backN t steps.toNat := by unfold back; rw [if_pos ⟨hr, hs⟩]
theorem back_not {t : List UInt8} {steps : Int} (h : ¬ (right t = true ∧ 0 ≤ steps)) : back t steps = ([], 1) := by unfold back; rw [if_neg h]
theorem state_of {t : List UInt8} {ep : Int} (hr : right t = true) (h0 : 0 ≤ ep) (h7 : ep ≤ 7) : state t ep = back t (7 - ep) := by
  unfold state; rw [if_pos hr, if_pos ⟨h0, h7⟩, back_of hr (by omega)]
theorem state_out {t : List UInt8} {ep : Int} (hr : right t = true) (h : ¬ (0 ≤ ep ∧ ep ≤ 7)) : state t ep = ([], 9) := by unfold state; rw [if_pos hr, if_neg h]
theorem state_not {t : List UInt8} {ep : Int} (hr : ¬ right t = true) : state t ep = ([], 1) := by unfold state; rw [if_neg hr]
/-- One step of a loop: what is hashed once more. -/
theorem one_hs {t : List UInt8} {i : Nat} (h : right (hs i t) = true) : one 104 (hs i t) = made (hs (i + 1) t) := by unfold one; rw [if_pos h]; rfl
theorem backN_short {t : List UInt8} {i k : Nat} (hik : i ≤ k) (h : ¬ right (hs i t) = true) : backN t k = ([], 10) := backN_no fun h2 => h (hs_less hik h2)

/-! ### key -/
theorem put_byte {n : Nat} (h1 : 0 < n) (h2 : n ≤ 255) : put n = [1, n.toUInt8] := by
  unfold put
  rw [dig_pos (by omega), show n / 256 = 0 by omega, dig_zero, show n % 256 = n by omega]; rfl
def keyT : List UInt8 := [116, 1, 3, 107, 101, 121]
theorem keyT_eq : 116 :: putText [107, 101, 121] = keyT := by unfold putText; rw [put_byte (by decide) (by decide)]; rfl
def keyp (t : List UInt8) : List UInt8 := 112 :: (keyT ++ t)
def keyh (t : List UInt8) : List UInt8 := 104 :: keyp t
def key (t : List UInt8) : List UInt8 × Int := if right t = true then (if right (keyp t) = true then made (keyh t) else ([], 10)) else ([], 1)
theorem keyT_right : right keyT = true := rfl
theorem ofText_key : ofText [107, 101, 121] = (keyT, 0) := by unfold ofText; rw [keyT_eq]; exact made_yes keyT_right
theorem key_pair {t : List UInt8} (h : right t = true) : two 112 keyT t = made (keyp t) := by unfold two; rw [if_pos ⟨keyT_right, h⟩]; rfl
theorem key_hash {t : List UInt8} (h : right (keyp t) = true) : one 104 (keyp t) = made (keyh t) := by unfold one; rw [if_pos h]; rfl
theorem key_not {t : List UInt8} (h : ¬ right t = true) : key t = ([], 1) := by unfold key; rw [if_neg h]
theorem key_of {t : List UInt8} (h : right t = true) (h2 : right (keyp t) = true) : key t = made (keyh t) := by unfold key; rw [if_pos h, if_pos h2]
theorem key_big {t : List UInt8} (h : right t = true) (h2 : ¬ right (keyp t) = true) : key t = ([], 10) := by unfold key; rw [if_pos h, if_neg h2]
theorem pts_keyp {t : List UInt8} (h : right (keyp t) = true) : pts (keyp t) = [keyT, t] := by
  obtain ⟨x, y, e, hp, hx, _, _⟩ := pts_two h (.inl rfl)
  obtain ⟨a, b⟩ := right_cut keyT_right hx e
  unfold keyp
  rw [hp, a, b]
theorem keyh_inj {s t : List UInt8} (h : keyh s = keyh t) : s = t := by
  have e1 := (List.cons.inj (List.cons.inj h).2).2
  exact List.append_cancel_left e1

/-! ### the chain of a secret root -/
def rootS (n : Nat) : List UInt8 := sech [114, 111, 111, 116] [120] n
theorem root_eq : txt [114, 111, 111, 116] [120] = [116, 1, 6, 114, 111, 111, 116, 58, 120] := by
  show 116 :: (put 6 ++ [114, 111, 111, 116, 58, 120]) = _
  rw [put_byte (by decide) (by decide)]; rfl
theorem root_txt : right (txt [114, 111, 111, 116] [120]) = true := by rw [root_eq]; rfl
theorem root_sz {n : Nat} (hn : n < 18446744073709551616) : Sz 3 (rootS n) ∧ (rootS n).length ≤ 40 := by
  have h1 : Sz 1 (txt [114, 111, 111, 116] [120]) := sz_txt 0 (by simp)
  have h2 : Sz 1 (ofAtom n) := sz_atom 0 hn
  refine ⟨sz_one (.inl rfl) (sz_pair h1 h2), ?_⟩
  have h3 := (put_le hn).2
  have h4 : (txt [114, 111, 111, 116] [120]).length = 9 := by rw [root_eq]; rfl
  unfold rootS sech prs ofAtom
  rw [List.length_cons, List.length_cons, List.length_append, List.length_cons, h4]
  omega
theorem st_right {n k : Nat} (hn : n < 18446744073709551616) (hk : k ≤ 7) : right (hs k (rootS n)) = true := by
  obtain ⟨h1, h2⟩ := root_sz hn
  exact sz_right (sz_hs h1 k) (by omega) (by rw [hs_len]; omega)
theorem st_key {n k : Nat} (hn : n < 18446744073709551616) (hk : k ≤ 7) : right (keyp (hs k (rootS n))) = true ∧ right (keyh (hs k (rootS n))) = true := by
  obtain ⟨h1, h2⟩ := root_sz hn
  have h3 : Sz (3 + k) keyT := sz_up (d := 1) ⟨List.cons_ne_nil _ _, rfl⟩ (by omega)
  have h4 : Sz (3 + k + 1) (keyp (hs k (rootS n))) := sz_pair h3 (sz_hs h1 k)
  have h5 : keyT.length = 6 := rfl
  have h6 : (keyp (hs k (rootS n))).length ≤ 60 := by unfold keyp; rw [List.length_cons, List.length_append, h5, hs_len]; omega
  exact ⟨sz_right h4 (by omega) (by omega), sz_right (sz_one (.inl rfl) h4) (by omega) (by unfold keyh; rw [List.length_cons]; omega)⟩
theorem st_state {n : Nat} (hn : n < 18446744073709551616) {e : Nat} (he : e ≤ 7) : state (rootS n) e = (hs (7 - e) (rootS n), 0) := by
  have hr : right (rootS n) = true := st_right hn (k := 0) (by omega)
  rw [state_of hr (by omega) (by omega), back_of hr (by omega), show ((7 : Int) - (e : Int)).toNat = 7 - e by omega]
  exact backN_yes (st_right hn (by omega))
theorem st_keyed {n : Nat} (hn : n < 18446744073709551616) {k : Nat} (hk : k ≤ 7) : key (hs k (rootS n)) = (keyh (hs k (rootS n)), 0) := by
  rw [key_of (st_right hn hk) (st_key hn hk).1, made_yes (st_key hn hk).2]
theorem hs_head (k n : Nat) : (hs k (rootS n)).headD 0 = 104 := by cases k <;> rfl
/-- A key is no state. -/
theorem key_state {n k j : Nat} : keyh (hs k (rootS n)) ≠ hs j (rootS n) := by
  intro h
  cases j with
  | zero =>
    have e1 : keyT ++ hs k (rootS n) = txt [114, 111, 111, 116] [120] ++ ofAtom n := (List.cons.inj (List.cons.inj h).2).2
    obtain ⟨e2, _⟩ := right_cut keyT_right root_txt e1
    rw [root_eq] at e2
    exact absurd e2 (by decide)
  | succ j =>
    have e1 : keyp (hs k (rootS n)) = hs j (rootS n) := (List.cons.inj h).2
    have e2 := hs_head j n
    rw [← e1] at e2
    exact absurd e2 (by show ¬ (112 : UInt8) = 104; decide)
/-- Who holds hashes and atoms, not the root's own: which states can be told. -/
theorem der_state {n : Nat} (hn : n < 18446744073709551616) {held : List (List UInt8)} (hh : ∀ x ∈ held, x.headD 0 = 104 ∨ x.headD 0 = 97) (hat : ofAtom n ∉ held) : ∀ {k : Nat}, k ≤ 7 → (Der held (hs k (rootS n)) ↔ ∃ j, j ≤ k ∧ hs j (rootS n) ∈ held) := by
  have hs' : ∀ x, Had held x ↔ x ∈ held := had_still fun x hx => (hh x hx).elim .inl (fun h => .inr (.inr h))
  have base : Der held (rootS n) → rootS n ∈ held := by
    intro hd
    have r1 : right (rootS n) = true := st_right hn (k := 0) (by omega)
    have e1 := pts_one (b := 104) (t := prs [114, 111, 111, 116] [120] n) r1 (.inl rfl)
    rcases tog_iff.1 hd with h | h | ⟨_, h⟩
    · exact (hs' _).1 h
    · exact absurd h (by show ¬ (104 : UInt8) = 116; decide)
    · have h4 := h (prs [114, 111, 111, 116] [120] n) (by show _ ∈ pts (104 :: prs [114, 111, 111, 116] [120] n); rw [e1.1]; simp)
      rcases tog_iff.1 h4 with h | h | ⟨_, h⟩
      · rcases hh _ ((hs' _).1 h) with h5 | h5 <;> (rw [prs_head] at h5; exact absurd h5 (by decide))
      · rw [prs_head] at h; exact absurd h (by decide)
      · have h5 := h (ofAtom n) (by rw [pts_prs root_txt e1.2]; simp)
        rcases tog_iff.1 h5 with h | h | ⟨h, _⟩
        · exact absurd ((hs' _).1 h) hat
        · rw [atom_head] at h; exact absurd h (by decide)
        · exact absurd (atom_head n) h
  intro k
  induction k with
  | zero =>
    intro _
    exact ⟨fun h => ⟨0, Nat.le_refl _, base h⟩, fun ⟨j, hj, hm⟩ => by rw [Nat.le_zero.1 hj] at hm; exact der_held hm⟩
  | succ k ih =>
    intro hk
    have e1 := (pts_one (b := 104) (t := hs k (rootS n)) (st_right hn (k := k + 1) hk) (.inl rfl)).1
    constructor
    · intro hd
      rcases tog_iff.1 hd with h | h | ⟨_, h⟩
      · exact ⟨k + 1, Nat.le_refl _, (hs' _).1 h⟩
      · rw [hs_head] at h; exact absurd h (by decide)
      · obtain ⟨j, hj, hm⟩ := (ih (by omega)).1 (h (hs k (rootS n)) (by rw [hs_succ, e1]; simp))
        exact ⟨j, by omega, hm⟩
    · rintro ⟨j, hj, hm⟩
      rcases Nat.lt_or_ge k j with h1 | h1
      · rw [show k + 1 = j by omega]; exact der_held hm
      · refine der_parts (by rw [hs_head]; decide) fun q hq => ?_
        rw [hs_succ, e1] at hq
        rw [List.mem_singleton.1 hq]
        exact (ih (by omega)).2 ⟨j, h1, hm⟩
/-- .. and which keys. -/
theorem der_key {n : Nat} (hn : n < 18446744073709551616) {held : List (List UInt8)} (hh : ∀ x ∈ held, x.headD 0 = 104 ∨ x.headD 0 = 97) {k : Nat} (hk : k ≤ 7) : Der held (keyh (hs k (rootS n))) ↔ keyh (hs k (rootS n)) ∈ held ∨ Der held (hs k (rootS n)) := by
  have hs' : ∀ x, Had held x ↔ x ∈ held := had_still fun x hx => (hh x hx).elim .inl (fun h => .inr (.inr h))
  obtain ⟨r1, r2⟩ := st_key hn hk
  have e1 := (pts_one (b := 104) (t := keyp (hs k (rootS n))) r2 (.inl rfl)).1
  have e2 := pts_keyp r1
  constructor
  · intro hd
    rcases tog_iff.1 hd with h | h | ⟨_, h⟩
    · exact .inl ((hs' _).1 h)
    · exact absurd h (by show ¬ (104 : UInt8) = 116; decide)
    · have h4 := h (keyp (hs k (rootS n))) (by unfold keyh; rw [e1]; simp)
      rcases tog_iff.1 h4 with h | h | ⟨_, h⟩
      · rcases hh _ ((hs' _).1 h) with h5 | h5
        · exact absurd h5 (by show ¬ (112 : UInt8) = 104; decide)
        · exact absurd h5 (by show ¬ (112 : UInt8) = 97; decide)
      · exact absurd h (by show ¬ (112 : UInt8) = 116; decide)
      · exact .inr (h _ (by rw [e2]; simp))
  · rintro (h | h)
    · exact der_held h
    · refine der_parts (by show ¬ (104 : UInt8) = 97; decide) fun q hq => ?_
      unfold keyh at hq
      rw [e1] at hq
      rw [List.mem_singleton.1 hq]
      refine der_parts (by show ¬ (112 : UInt8) = 97; decide) fun r hr => ?_
      rw [e2] at hr
      have : r = keyT ∨ r = hs k (rootS n) := by simpa using hr
      rcases this with rfl | rfl
      · exact tog_iff.2 (.inr (.inl rfl))
      · exact h
end Go.Proofs.Ytjoldkhfkobahaa.Reg
