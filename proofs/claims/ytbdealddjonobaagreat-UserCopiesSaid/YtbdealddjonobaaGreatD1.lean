/-
  One text of several, in their order: Clo, DMix, DPure, DSmall, DRef, DSecR, RPure, RRef. By an AI agent; no person has read it.
-/
import Derived.Test.YtbdealddjonobaaGreatT1
import Derived.Laws.Bits64
/-
  PLAIN FACTS, OF NO PROGRAM: what can be told of terms that are held (layer 4), rising rows of bytes. By an AI agent; no person has read it.
-/
namespace Go.Proofs.YtbdealddjonobaaGreat.Clo
open Wire Term

/-- The parts of a term. -/
def pts (t : List UInt8) : List (List UInt8) := (parts t).1
theorem pts_wrong {t : List UInt8} (h : right t = false) : pts t = [] := by unfold pts parts; rw [if_neg (by rw [h]; decide)]
theorem pts_eq {b : UInt8} {t : List UInt8} (h : right (b :: t) = true) : pts (b :: t) = cuts ((arity b).getD 0) t := by unfold pts parts; rw [if_pos h]; rfl
theorem pts_zero {t : List UInt8} (h : right t = true) (h0 : t.headD 0 = 97 ∨ t.headD 0 = 116) : pts t = [] := by
  obtain ⟨b, r, m, rfl, ha, _⟩ := right_parts h
  rw [pts_eq h]
  have : arity b = some 0 := by unfold arity; rw [if_pos (show b = 97 ∨ b = 116 from h0)]
  rw [this]; rfl
theorem pts_one {b : UInt8} {t : List UInt8} (h : right (b :: t) = true) (hb : b = 104 ∨ b = 117) : pts (b :: t) = [t] ∧ right t = true := by
  have ha : arity b = some 1 := by rcases hb with rfl | rfl <;> rfl
  have hb8 : b ≠ 98 := by rcases hb with rfl | rfl <;> decide
  obtain ⟨h1, h2⟩ := one_part h ha hb8
  rw [pts_eq h, ha]
  exact ⟨h2, h1⟩
theorem pts_two {b : UInt8} {t : List UInt8} (h : right (b :: t) = true) (hb : b = 112 ∨ b = 115 ∨ b = 98 ∨ b = 103) : ∃ x y, t = x ++ y ∧ pts (b :: t) = [x, y] ∧ right x = true ∧ right y = true ∧ (b = 98 → x.head? = some 117) := by
  have ha : arity b = some 2 := by rcases hb with rfl | rfl | rfl | rfl <;> rfl
  obtain ⟨x, y, h1, h2, h3, h4, h5⟩ := two_parts h ha
  refine ⟨x, y, h1, ?_, h3, h4, h5⟩
  rw [pts_eq h, ha]
  exact h2
theorem kinds {t : List UInt8} (h : right t = true) : ∃ b r, t = b :: r ∧ (b = 97 ∨ b = 116 ∨ (b = 104 ∨ b = 117) ∨ (b = 112 ∨ b = 115 ∨ b = 98 ∨ b = 103)) := by
  obtain ⟨b, r, m, rfl, ha, _⟩ := right_parts h
  refine ⟨b, r, rfl, ?_⟩
  unfold arity at ha
  split at ha
  · rename_i h; rcases h with h | h <;> simp [h]
  · split at ha
    · rename_i h; rcases h with h | h <;> simp [h]
    · split at ha
      · rename_i h; rcases h with h | h | h | h <;> simp [h]
      · cases ha
/-- Parts are right, and shorter. -/
theorem pts_right {t p : List UInt8} (hp : p ∈ pts t) : right p = true ∧ p.length < t.length := by
  cases h : right t with
  | false => rw [pts_wrong h] at hp; cases hp
  | true =>
    obtain ⟨b, r, rfl, hb | hb | hb | hb⟩ := kinds h
    · rw [pts_zero h (.inl hb)] at hp; cases hp
    · rw [pts_zero h (.inr hb)] at hp; cases hp
    · obtain ⟨h1, h2⟩ := pts_one h hb
      rw [h1] at hp
      obtain rfl : p = r := by simpa using hp
      exact ⟨h2, by simp⟩
    · obtain ⟨x, y, rfl, h1, h2, h3, _⟩ := pts_two h hb
      rw [h1] at hp
      have : p = x ∨ p = y := by simpa using hp
      rcases this with rfl | rfl
      · exact ⟨h2, by simp; omega⟩
      · exact ⟨h3, by simp; omega⟩

theorem pts_le (t : List UInt8) : (pts t).length ≤ 2 := by
  cases h : right t with
  | false => rw [pts_wrong h]; simp
  | true =>
    obtain ⟨b, r, rfl, hb | hb | hb | hb⟩ := kinds h
    · rw [pts_zero h (.inl hb)]; simp
    · rw [pts_zero h (.inr hb)]; simp
    · rw [(pts_one h hb).1]; simp
    · obtain ⟨x, y, rfl, h1, _⟩ := pts_two h hb
      rw [h1]; simp

/-! ### put together -/
def TogN (S : List UInt8 → Prop) : Nat → List UInt8 → Prop
  | 0, _ => False
  | n + 1, t => S t ∨ t.headD 0 = 116 ∨ (t.headD 0 ≠ 97 ∧ ∀ p ∈ pts t, TogN S n p)
/-- A term can be put together of what is in S. -/
def Tog (S : List UInt8 → Prop) (t : List UInt8) : Prop := TogN S (t.length + 1) t
theorem togN_fuel {S : List UInt8 → Prop} : ∀ (n m : Nat) (t : List UInt8), t.length < n → t.length < m → (TogN S n t → TogN S m t)
  | 0, _, _, h, _ => absurd h (Nat.not_lt_zero _)
  | _ + 1, 0, _, _, h => absurd h (Nat.not_lt_zero _)
  | n + 1, m + 1, t, h1, h2 => fun h => by
    rcases h with h | h | ⟨h, h3⟩
    · exact .inl h
    · exact .inr (.inl h)
    · refine .inr (.inr ⟨h, fun p hp => ?_⟩)
      have := (pts_right hp).2
      exact togN_fuel n m p (by omega) (by omega) (h3 p hp)
theorem tog_iff {S : List UInt8 → Prop} {t : List UInt8} : Tog S t ↔ S t ∨ t.headD 0 = 116 ∨ (t.headD 0 ≠ 97 ∧ ∀ p ∈ pts t, Tog S p) := by
  constructor
  · rintro (h | h | ⟨h, h3⟩)
    · exact .inl h
    · exact .inr (.inl h)
    · refine .inr (.inr ⟨h, fun p hp => ?_⟩)
      have := (pts_right hp).2
      exact togN_fuel _ _ p (by omega) (by omega) (h3 p hp)
  · rintro (h | h | ⟨h, h3⟩)
    · exact .inl h
    · exact .inr (.inl h)
    · refine .inr (.inr ⟨h, fun p hp => ?_⟩)
      have := (pts_right hp).2
      exact togN_fuel _ _ p (by omega) (by omega) (h3 p hp)
theorem tog_of {S : List UInt8 → Prop} {t : List UInt8} (h : S t) : Tog S t := tog_iff.2 (.inl h)
/-- Induction along what is put together. -/
theorem tog_ind {S P : List UInt8 → Prop} (h1 : ∀ t, S t → P t) (h2 : ∀ t, t.headD 0 = 116 → P t) (h3 : ∀ t, t.headD 0 ≠ 97 → (∀ p ∈ pts t, Tog S p ∧ P p) → P t) : ∀ (n : Nat) (t : List UInt8), t.length < n → Tog S t → P t
  | 0, _, h, _ => absurd h (Nat.not_lt_zero _)
  | n + 1, t, hn, h => by
    rcases tog_iff.1 h with h | h | ⟨h, h4⟩
    · exact h1 t h
    · exact h2 t h
    · refine h3 t h fun p hp => ⟨h4 p hp, ?_⟩
      have := (pts_right hp).2
      exact tog_ind h1 h2 h3 n p (by omega) (h4 p hp)
theorem tog_mono {S S' : List UInt8 → Prop} (hs : ∀ x, S x → S' x) {t : List UInt8} (h : Tog S t) : Tog S' t :=
  tog_ind (P := Tog S') (fun t h => tog_of (hs t h)) (fun _ h => tog_iff.2 (.inr (.inl h))) (fun _ h h2 => tog_iff.2 (.inr (.inr ⟨h, fun p hp => (h2 p hp).2⟩))) _ t (Nat.lt_succ_self _) h
theorem tog_idem {S : List UInt8 → Prop} {t : List UInt8} (h : Tog (Tog S) t) : Tog S t :=
  tog_ind (P := Tog S) (fun _ h => h) (fun _ h => tog_iff.2 (.inr (.inl h))) (fun _ h h2 => tog_iff.2 (.inr (.inr ⟨h, fun p hp => (h2 p hp).2⟩))) _ t (Nat.lt_succ_self _) h

/-! ### what is had -/
/-- What a term that is had gives, where S is had. -/
def Gives (S : List UInt8 → Prop) (t x : List UInt8) : Prop :=
  (t.headD 0 = 112 ∧ x ∈ pts t) ∨ (t.headD 0 = 103 ∧ x ∈ (pts t).drop 1) ∨ (t.headD 0 = 115 ∧ Tog S ((pts t).headD []) ∧ x ∈ (pts t).drop 1) ∨ (t.headD 0 = 98 ∧ Tog S ((pts t).headD []).tail ∧ x ∈ (pts t).drop 1)
theorem gives_pts {S : List UInt8 → Prop} {t x : List UInt8} (h : Gives S t x) : x ∈ pts t := by
  rcases h with ⟨_, h⟩ | ⟨_, h⟩ | ⟨_, _, h⟩ | ⟨_, _, h⟩
  · exact h
  all_goals exact List.mem_of_mem_drop h
theorem gives_mono {S S' : List UInt8 → Prop} (hs : ∀ x, S x → S' x) {t x : List UInt8} (h : Gives S t x) : Gives S' t x := by
  rcases h with h | h | ⟨h, h2, h3⟩ | ⟨h, h2, h3⟩
  · exact .inl h
  · exact .inr (.inl h)
  · exact .inr (.inr (.inl ⟨h, tog_mono hs h2, h3⟩))
  · exact .inr (.inr (.inr ⟨h, tog_mono hs h2, h3⟩))
def Closed (S : List UInt8 → Prop) : Prop := ∀ t x, S t → Gives S t x → S x
/-- All that is had of what is held. -/
def Had (held : List (List UInt8)) (x : List UInt8) : Prop := ∀ S : List UInt8 → Prop, (∀ h ∈ held, S h) → Closed S → S x
theorem had_held {held : List (List UInt8)} {x : List UInt8} (h : x ∈ held) : Had held x := fun _ h1 _ => h1 x h
theorem had_closed (held : List (List UInt8)) : Closed (Had held) := fun t x ht hg S h1 h2 => h2 t x (ht S h1 h2) (gives_mono (fun _ hy => hy S h1 h2) hg)
theorem had_mono {a b : List (List UInt8)} (h : ∀ x ∈ a, x ∈ b) {x : List UInt8} (hx : Had a x) : Had b x := fun S h1 h2 => hx S (fun y hy => h1 y (h y hy)) h2
theorem had_idem {a b : List (List UInt8)} (h : ∀ x, x ∈ b ↔ Had a x) {x : List UInt8} : Had b x ↔ Had a x :=
  ⟨fun hx => hx (Had a) (fun y hy => (h y).1 hy) (had_closed a), fun hx => had_held ((h x).2 hx)⟩
theorem had_right {held : List (List UInt8)} (h : ∀ x ∈ held, right x = true) {x : List UInt8} (hx : Had held x) : right x = true :=
  hx (fun x => right x = true) h (fun _ _ _ hg => (pts_right (gives_pts hg)).1)
/-- Whether t can be put together of what is had. -/
def Der (held : List (List UInt8)) (t : List UInt8) : Prop := Tog (Had held) t
theorem der_mono {a b : List (List UInt8)} (h : ∀ x ∈ a, x ∈ b) {x : List UInt8} (hx : Der a x) : Der b x := tog_mono (fun _ h1 => had_mono h h1) hx
theorem had_same {a b : List (List UInt8)} (h : ∀ x, x ∈ a ↔ x ∈ b) : Had a = Had b := funext fun _ => propext ⟨had_mono (fun _ hy => (h _).1 hy), had_mono (fun _ hy => (h _).2 hy)⟩
theorem der_same {a b : List (List UInt8)} (h : ∀ x, x ∈ a ↔ x ∈ b) (t : List UInt8) : Der a t ↔ Der b t := by unfold Der; rw [had_same h]
/-- What can be put together is closed. -/
theorem der_closed (held : List (List UInt8)) : Closed (Der held) := by
  intro t x ht hg
  rcases tog_iff.1 ht with h | h | ⟨h, h3⟩
  · refine tog_of (had_closed held t x h ?_)
    rcases hg with h | h | ⟨h, h2, h3⟩ | ⟨h, h2, h3⟩
    · exact .inl h
    · exact .inr (.inl h)
    · exact .inr (.inr (.inl ⟨h, tog_idem h2, h3⟩))
    · exact .inr (.inr (.inr ⟨h, tog_idem h2, h3⟩))
  · rcases hg with ⟨h2, _⟩ | ⟨h2, _⟩ | ⟨h2, _⟩ | ⟨h2, _⟩ <;> (rw [h2] at h; exact absurd h (by decide))
  · exact h3 x (gives_pts hg)
/-- What can be put together, and is held, too, makes nothing more. -/
theorem der_more {held : List (List UInt8)} {x y : List UInt8} (hx : Der held x) : Der (held ++ [x]) y ↔ Der held y := by
  refine ⟨fun h => ?_, der_mono (fun z hz => List.mem_append_left _ hz)⟩
  refine tog_idem (tog_mono (fun z hz => ?_) h)
  refine hz (Der held) (fun u hu => ?_) (der_closed held)
  rcases List.mem_append.1 hu with h | h
  · exact tog_of (had_held h)
  · obtain rfl : u = x := by simpa using h
    exact hx

/-! ### what stands in a term -/
def Sub (y z : List UInt8) : Prop := ∀ S : List UInt8 → Prop, S z → (∀ t p, S t → p ∈ pts t → S p) → S y
theorem sub_refl (z : List UInt8) : Sub z z := fun _ h _ => h
theorem sub_step {y z p : List UInt8} (h : Sub y z) (hp : p ∈ pts y) : Sub p z := fun S h1 h2 => h2 y p (h S h1 h2) hp
theorem sub_trans {x y z : List UInt8} (h : Sub x y) (h2 : Sub y z) : Sub x z := h (fun x => Sub x z) h2 (fun _ _ h hp => sub_step h hp)
theorem sub_part {y z : List UInt8} (h : y ∈ pts z) : Sub y z := sub_step (sub_refl z) h
theorem sub_cases {y z : List UInt8} (h : Sub y z) : y = z ∨ ∃ p ∈ pts z, Sub y p := by
  refine h (fun y => y = z ∨ ∃ p ∈ pts z, Sub y p) (.inl rfl) ?_
  rintro t p (rfl | ⟨q, hq, hs⟩) hp
  · exact .inr ⟨p, hp, sub_refl p⟩
  · exact .inr ⟨q, hq, sub_step hs hp⟩
theorem had_sub {held : List (List UInt8)} {x : List UInt8} (hx : Had held x) : ∃ h ∈ held, Sub x h := by
  refine hx (fun x => ∃ h ∈ held, Sub x h) (fun h hh => ⟨h, hh, sub_refl h⟩) ?_
  rintro t x ⟨h, hh, hs⟩ hg
  exact ⟨h, hh, sub_step hs (gives_pts hg)⟩
/-- The term a stands nowhere in z. -/
def Clean (a z : List UInt8) : Prop := ¬ Sub a z
theorem clean_part {a z p : List UInt8} (h : Clean a z) (hp : p ∈ pts z) : Clean a p := fun hs => h (sub_trans hs (sub_part hp))
theorem had_clean {held : List (List UInt8)} {a x : List UInt8} (h : ∀ z ∈ held, Clean a z) (hx : Had held x) : Clean a x := fun hs => by
  obtain ⟨z, hz, hxz⟩ := had_sub hx
  exact h z hz (sub_trans hs hxz)
/-- An atom that stands nowhere in what is held can't be put together. -/
theorem der_clean {held : List (List UInt8)} {a : List UInt8} (h : ∀ z ∈ held, Clean a z) (h97 : a.headD 0 = 97) : ¬ Der held a := fun hd => by
  rcases tog_iff.1 hd with h1 | h1 | ⟨h1, _⟩
  · exact had_clean h h1 (sub_refl a)
  · rw [h97] at h1; exact absurd h1 (by decide)
  · exact h1 h97
/-- Of c, in which a stands, nothing is put together in which a doesn't stand. -/
theorem tog_clean {S : List UInt8 → Prop} {a c : List UInt8} (hc : Sub a c) : ∀ (n : Nat) (t : List UInt8), t.length < n → Clean a t → Tog (fun x => S x ∨ x = c) t → Tog S t
  | 0, _, h, _, _ => absurd h (Nat.not_lt_zero _)
  | n + 1, t, hn, hcl, h => by
    rcases tog_iff.1 h with (h | rfl) | h | ⟨h, h3⟩
    · exact tog_of h
    · exact absurd hc hcl
    · exact tog_iff.2 (.inr (.inl h))
    · refine tog_iff.2 (.inr (.inr ⟨h, fun p hp => ?_⟩))
      have := (pts_right hp).2
      exact tog_clean hc n p (by omega) (clean_part hcl hp) (h3 p hp)
/-- What is sealed or boxed, c, with the atom a in it alone, is told with the key, and not without. -/
theorem der_key {held : List (List UInt8)} {a c key : List UInt8} (h : ∀ z ∈ held, Clean a z) (hk : Clean a key) (h97 : a.headD 0 = 97)
    (hc : (c.headD 0 = 115 ∧ pts c = [key, a]) ∨ (c.headD 0 = 98 ∧ ∃ u, u.tail = key ∧ pts c = [u, a])) : Der (held ++ [c]) a ↔ Der held key := by
  have hac : a ∈ pts c := by rcases hc with ⟨_, h⟩ | ⟨_, u, _, h⟩ <;> simp [h]
  have hsc : Sub a c := sub_part hac
  constructor
  · intro hd
    refine Classical.byContradiction fun hn => ?_
    have hcl : Closed (fun x => Had held x ∨ x = c) := by
      rintro t x (ht | rfl) hg
      · refine .inl (had_closed held t x ht ?_)
        have hct := had_clean h ht
        rcases hg with h | h | ⟨h, h2, h3⟩ | ⟨h, h2, h3⟩
        · exact .inl h
        · exact .inr (.inl h)
        · refine .inr (.inr (.inl ⟨h, ?_, h3⟩))
          cases hp : pts t with
          | nil => rw [hp] at h3; simp at h3
          | cons p r =>
            rw [hp] at h2
            exact tog_clean hsc _ _ (Nat.lt_succ_self _) (clean_part hct (by rw [hp]; simp)) h2
        · refine .inr (.inr (.inr ⟨h, ?_, h3⟩))
          cases hp : pts t with
          | nil => rw [hp] at h3; simp at h3
          | cons p r =>
            rw [hp] at h2
            refine tog_clean hsc _ _ (Nat.lt_succ_self _) ?_ h2
            -- the secret of a public term is its part
            cases hr : right t with
            | false => rw [pts_wrong hr] at hp; cases hp
            | true =>
              obtain ⟨b, r', rfl, hb⟩ := kinds hr
              obtain rfl : b = 98 := h
              obtain ⟨x', y', _, he, hx', _, hu⟩ := pts_two hr (by simp)
              rw [he] at hp
              obtain rfl : x' = p := by injection hp
              have hu := hu rfl
              cases hxc : x' with
              | nil => rw [hxc] at hu; cases hu
              | cons b2 r2 =>
                rw [hxc] at hu
                obtain rfl : b2 = 117 := by simpa using hu
                have h4 := pts_one (by rw [← hxc]; exact hx') (.inr rfl)
                refine clean_part (z := x') (clean_part hct (by rw [he]; simp)) ?_
                rw [hxc, h4.1]; simp
      · rcases hg with ⟨h1, _⟩ | ⟨h1, _⟩ | ⟨h1, h2, h3⟩ | ⟨h1, h2, h3⟩
        · rcases hc with ⟨h, _⟩ | ⟨h, _⟩ <;> (rw [h1] at h; exact absurd h (by decide))
        · rcases hc with ⟨h, _⟩ | ⟨h, _⟩ <;> (rw [h1] at h; exact absurd h (by decide))
        · rcases hc with ⟨_, he⟩ | ⟨h, _⟩
          · rw [he] at h2
            exact absurd (tog_clean hsc _ _ (Nat.lt_succ_self _) hk h2) hn
          · rw [h1] at h; exact absurd h (by decide)
        · rcases hc with ⟨h, _⟩ | ⟨_, u, hu, he⟩
          · rw [h1] at h; exact absurd h (by decide)
          · rw [he] at h2
            have h2' : Tog (fun x => Had held x ∨ x = t) u.tail := h2
            rw [hu] at h2'
            exact absurd (tog_clean hsc _ _ (Nat.lt_succ_self _) hk h2') hn
    have hsub : ∀ x, Had (held ++ [c]) x → Had held x ∨ x = c := fun x hx => by
      refine hx _ (fun y hy => ?_) hcl
      rcases List.mem_append.1 hy with h | h
      · exact .inl (had_held h)
      · exact .inr (by simpa using h)
    rcases tog_iff.1 (tog_mono hsub hd) with (h1 | h1) | h1 | ⟨h1, _⟩
    · exact had_clean h h1 (sub_refl a)
    · rw [h1] at h97
      rcases hc with ⟨h, _⟩ | ⟨h, _⟩ <;> (rw [h97] at h; exact absurd h (by decide))
    · rw [h97] at h1; exact absurd h1 (by decide)
    · exact h1 h97
  · intro hd
    have hd' : Der (held ++ [c]) key := der_mono (fun z hz => List.mem_append_left _ hz) hd
    refine tog_of (had_closed _ c a (had_held (by simp)) ?_)
    rcases hc with ⟨h, he⟩ | ⟨h, u, hu, he⟩
    · exact .inr (.inr (.inl ⟨h, by rw [he]; exact hd', by rw [he]; simp⟩))
    · exact .inr (.inr (.inr ⟨h, by rw [he]; show Tog _ u.tail; rw [hu]; exact hd', by rw [he]; simp⟩))
/-- With the key beside, a is told. -/
theorem der_with {held : List (List UInt8)} {a c key : List UInt8}
    (hc : (c.headD 0 = 115 ∧ pts c = [key, a]) ∨ (c.headD 0 = 98 ∧ ∃ u, u.tail = key ∧ pts c = [u, a])) : Der (held ++ [c, key]) a := by
  have hk : Tog (Had (held ++ [c, key])) key := tog_of (had_held (by simp))
  refine tog_of (had_closed _ c a (had_held (by simp)) ?_)
  rcases hc with ⟨h, he⟩ | ⟨h, u, hu, he⟩
  · exact .inr (.inr (.inl ⟨h, by rw [he]; exact hk, by rw [he]; simp⟩))
  · exact .inr (.inr (.inr ⟨h, by rw [he]; show Tog _ u.tail; rw [hu]; exact hk, by rw [he]; simp⟩))

/-! ### pairs, many atoms -/
theorem der_pair {held : List (List UInt8)} {p a b : List UInt8} (h : p.headD 0 = 112) (hp : pts p = [a, b]) : Der held p ↔ Der held a ∧ Der held b := by
  constructor
  · intro hd
    rcases tog_iff.1 hd with h1 | h1 | ⟨_, h2⟩
    · exact ⟨tog_of (had_closed held p a h1 (.inl ⟨h, by rw [hp]; simp⟩)), tog_of (had_closed held p b h1 (.inl ⟨h, by rw [hp]; simp⟩))⟩
    · rw [h] at h1; exact absurd h1 (by decide)
    · exact ⟨h2 a (by rw [hp]; simp), h2 b (by rw [hp]; simp)⟩
  · rintro ⟨h1, h2⟩
    refine tog_iff.2 (.inr (.inr ⟨by rw [h]; decide, fun q hq => ?_⟩))
    rw [hp] at hq
    have : q = a ∨ q = b := by simpa using hq
    rcases this with rfl | rfl
    · exact h1
    · exact h2
theorem der_parts {held : List (List UInt8)} {p : List UInt8} (h : p.headD 0 ≠ 97) (hp : ∀ q ∈ pts p, Der held q) : Der held p := tog_iff.2 (.inr (.inr ⟨h, hp⟩))
theorem der_held {held : List (List UInt8)} {p : List UInt8} (h : p ∈ held) : Der held p := tog_of (had_held h)
/-- Atoms give nothing. -/
theorem had_atoms {held : List (List UInt8)} (h : ∀ x ∈ held, x.headD 0 = 97) (x : List UInt8) : Had held x ↔ x ∈ held := by
  refine ⟨fun hx => hx (fun x => x ∈ held) (fun _ h => h) ?_, had_held⟩
  intro t x ht hg
  have h97 := h t ht
  rcases hg with ⟨h2, _⟩ | ⟨h2, _⟩ | ⟨h2, _⟩ | ⟨h2, _⟩ <;> (rw [h97] at h2; exact absurd h2 (by decide))
theorem der_atoms {held : List (List UInt8)} (h : ∀ x ∈ held, x.headD 0 = 97) {a : List UInt8} (ha : a.headD 0 = 97) : Der held a ↔ a ∈ held := by
  constructor
  · intro hd
    rcases tog_iff.1 hd with h1 | h1 | ⟨h1, _⟩
    · exact (had_atoms h a).1 h1
    · rw [ha] at h1; exact absurd h1 (by decide)
    · exact absurd ha h1
  · exact der_held

/-! ### rising rows of bytes -/
open Op (bytesLess)
theorem less_irrefl : ∀ a : List UInt8, bytesLess a a = false
  | [] => rfl
  | x :: a => by
    unfold bytesLess
    rw [less_irrefl a]
    simp
theorem less_trans : ∀ {a b c : List UInt8}, bytesLess a b = true → bytesLess b c = true → bytesLess a c = true
  | _, [], _, h, _ => by rw [show bytesLess _ [] = false by unfold bytesLess; rfl] at h; cases h
  | _, _ :: _, [], _, h => by rw [show bytesLess _ [] = false by unfold bytesLess; rfl] at h; cases h
  | [], _ :: _, _ :: _, _, _ => rfl
  | x :: a, y :: b, z :: c, h1, h2 => by
    unfold bytesLess at h1 h2 ⊢
    simp only [Bool.or_eq_true, decide_eq_true_eq, Bool.and_eq_true, beq_iff_eq] at h1 h2 ⊢
    rcases h1 with h1 | ⟨rfl, h1⟩
    · rcases h2 with h2 | ⟨rfl, h2⟩
      · exact .inl (UInt8.lt_trans h1 h2)
      · exact .inl h1
    · rcases h2 with h2 | ⟨rfl, h2⟩
      · exact .inl h2
      · exact .inr ⟨rfl, less_trans h1 h2⟩
theorem less_tri : ∀ a b : List UInt8, bytesLess a b = true ∨ a = b ∨ bytesLess b a = true
  | [], [] => .inr (.inl rfl)
  | [], _ :: _ => .inl rfl
  | _ :: _, [] => .inr (.inr rfl)
  | x :: a, y :: b => by
    unfold bytesLess
    simp only [Bool.or_eq_true, decide_eq_true_eq, Bool.and_eq_true, beq_iff_eq, List.cons.injEq]
    by_cases h : x = y
    · subst h
      rcases less_tri a b with h | h | h
      · exact .inl (.inr ⟨rfl, h⟩)
      · exact .inr (.inl ⟨rfl, h⟩)
      · exact .inr (.inr (.inr ⟨rfl, h⟩))
    · have h' : x.toNat ≠ y.toNat := fun e => h (UInt8.toNat_inj.1 e)
      rcases Nat.lt_or_gt_of_ne h' with h2 | h2
      · exact .inl (.inl (UInt8.lt_iff_toNat_lt.2 h2))
      · exact .inr (.inr (.inl (UInt8.lt_iff_toNat_lt.2 h2)))
theorem less_asymm {a b : List UInt8} (h : bytesLess a b = true) : bytesLess b a = false := by
  rw [← Bool.not_eq_true]; intro h2
  have := less_trans h h2
  rw [less_irrefl] at this; cases this
/-- Rising, each once. -/
def Rising (l : List (List UInt8)) : Prop := l.Pairwise (fun a b => bytesLess a b = true)
theorem rising_eq : ∀ {a b : List (List UInt8)}, Rising a → Rising b → (∀ x, x ∈ a ↔ x ∈ b) → a = b
  | [], [], _, _, _ => rfl
  | [], y :: b, _, _, h => by have := (h y).2 (by simp); cases this
  | x :: a, [], _, _, h => by have := (h x).1 (by simp); cases this
  | x :: a, y :: b, ha, hb, h => by
    obtain ⟨ha1, ha2⟩ := List.pairwise_cons.1 ha
    obtain ⟨hb1, hb2⟩ := List.pairwise_cons.1 hb
    have e : x = y := by
      have h1 : x ∈ y :: b := (h x).1 (by simp)
      have h2 : y ∈ x :: a := (h y).2 (by simp)
      rcases List.mem_cons.1 h1 with h1 | h1
      · exact h1
      · rcases List.mem_cons.1 h2 with h2 | h2
        · exact h2.symm
        · have := less_trans (ha1 y h2) (hb1 x h1)
          rw [less_irrefl] at this; cases this
    subst e
    have hn1 : x ∉ a := fun hx => by have := ha1 x hx; rw [less_irrefl] at this; cases this
    have hn2 : x ∉ b := fun hx => by have := hb1 x hx; rw [less_irrefl] at this; cases this
    rw [rising_eq ha2 hb2 fun z => ?_]
    constructor
    · intro hz
      rcases List.mem_cons.1 ((h z).1 (List.mem_cons_of_mem _ hz)) with h1 | h1
      · subst h1; exact absurd hz hn1
      · exact h1
    · intro hz
      rcases List.mem_cons.1 ((h z).2 (List.mem_cons_of_mem _ hz)) with h1 | h1
      · subst h1; exact absurd hz hn2
      · exact h1
theorem rising_nodup {l : List (List UInt8)} (h : Rising l) : l.Nodup := List.Pairwise.imp (fun {a b} hab e => by subst e; rw [less_irrefl] at hab; cases hab) h
end Go.Proofs.YtbdealddjonobaaGreat.Clo

/-
  PLAIN FACTS, OF NO PROGRAM: a number that is mixed (layer 5): the document's steps as arithmetic, and that no two numbers are mixed to the same. By an AI agent; no person has read it.
-/
namespace Go.Proofs.YtbdealddjonobaaGreat.Draw
open Wire Term

/-- A number that is mixed. -/
def mixA (n : Nat) : Nat := (n + 11400714819323198485) % 18446744073709551616
def mixB (a : Nat) : Nat := (a ^^^ a / 1073741824) * 13787848793156543929 % 18446744073709551616
def mixC (b : Nat) : Nat := (b ^^^ b / 134217728) * 10723151780598845931 % 18446744073709551616
def mixD (c : Nat) : Nat := c ^^^ c / 2147483648
def mix (n : Nat) : Nat := mixD (mixC (mixB (mixA n)))
theorem mixA_lt (n : Nat) : mixA n < 18446744073709551616 := Nat.mod_lt _ (by decide)
theorem mixB_lt (n : Nat) : mixB n < 18446744073709551616 := Nat.mod_lt _ (by decide)
theorem mixC_lt (n : Nat) : mixC n < 18446744073709551616 := Nat.mod_lt _ (by decide)
theorem xs_lt {x k : Nat} (h : x < 18446744073709551616) : x ^^^ x / k < 18446744073709551616 :=
  Nat.xor_lt_two_pow (n := 64) h (Nat.lt_of_le_of_lt (Nat.div_le_self _ _) h)
theorem mix_lt (n : Nat) : mix n < 18446744073709551616 := xs_lt (mixC_lt _)
theorem mix_zero : mix 0 = 16294208416658607535 := by decide
/-- A number with itself, moved down, in it: told again from the top. -/
theorem xs_inj {k : Nat} (hk : 0 < k) {x y : Nat} (hx : x < 18446744073709551616) (hy : y < 18446744073709551616) (h : x ^^^ x / 2 ^ k = y ^^^ y / 2 ^ k) : x = y := by
  have key : ∀ d i : Nat, 64 ≤ i + d → x.testBit i = y.testBit i := by
    intro d
    induction d with
    | zero =>
      intro i hi
      rw [Nat.testBit_lt_two_pow (Nat.lt_of_lt_of_le hx (Nat.pow_le_pow_right (show 2 > 0 by decide) (show 64 ≤ i by omega))), Nat.testBit_lt_two_pow (Nat.lt_of_lt_of_le hy (Nat.pow_le_pow_right (show 2 > 0 by decide) (show 64 ≤ i by omega)))]
    | succ d ih =>
      intro i hi
      have h1 := congrArg (fun n => Nat.testBit n i) h
      simp only [Nat.testBit_xor, Nat.testBit_div_two_pow] at h1
      have h2 := ih (i + k) (by omega)
      rw [h2] at h1
      revert h1
      cases x.testBit i <;> cases y.testBit i <;> cases y.testBit (i + k) <;> simp
  exact Nat.eq_of_testBit_eq fun i => key 64 i (by omega)
theorem mul_inj {c d : Nat} (hc : c * d % 18446744073709551616 = 1) {x y : Nat} (hx : x < 18446744073709551616) (hy : y < 18446744073709551616) (h : x * c % 18446744073709551616 = y * c % 18446744073709551616) : x = y := by
  have key : ∀ z, z < 18446744073709551616 → z * c % 18446744073709551616 * d % 18446744073709551616 = z := fun z hz => by
    rw [Nat.mod_mul_mod, Nat.mul_assoc, ← Nat.mul_mod_mod, hc, Nat.mul_one, Nat.mod_eq_of_lt hz]
  rw [← key x hx, h, key y hy]
theorem mix_inj {x y : Nat} (hx : x < 18446744073709551616) (hy : y < 18446744073709551616) (h : mix x = mix y) : x = y := by
  have h1 : mixC (mixB (mixA x)) = mixC (mixB (mixA y)) := xs_inj (k := 31) (by decide) (mixC_lt _) (mixC_lt _) h
  have h2 : mixB (mixA x) = mixB (mixA y) := xs_inj (k := 27) (by decide) (mixB_lt _) (mixB_lt _) (mul_inj (d := 3573116690164977347) (by decide) (xs_lt (mixB_lt _)) (xs_lt (mixB_lt _)) h1)
  have h3 : mixA x = mixA y := xs_inj (k := 30) (by decide) (mixA_lt _) (mixA_lt _) (mul_inj (d := 10871156337175269513) (by decide) (xs_lt (mixA_lt _)) (xs_lt (mixA_lt _)) h2)
  unfold mixA at h3
  omega
/-- The draw of a seed with i ahead of it. -/
def draw (seed i : Nat) : Nat := mix ((seed + i * 11400714819323198485) % 18446744073709551616)
theorem mix_mod (n : Nat) : mix (n % 18446744073709551616) = mix n := by
  unfold mix mixA
  rw [Nat.mod_add_mod]
theorem draw_first {seed : Nat} : draw seed 0 = mix seed := by unfold draw; rw [Nat.zero_mul, Nat.add_zero, mix_mod]
end Go.Proofs.YtbdealddjonobaaGreat.Draw

/-
  PLAIN FACTS, OF NO PROGRAM: a secret (layer 5): the hash of a pair of a text and an atom; when two are one, and who can tell one. By an AI agent; no person has read it.
-/
namespace Go.Proofs.YtbdealddjonobaaGreat.Draw
open Wire Term Clo

/-- The document's secret. -/
def secret (use who : List UInt8) (n : Nat) : List UInt8 × Int :=
  if (ofText (use ++ 58 :: who)).2 ≠ 0 then ([], (ofText (use ++ 58 :: who)).2)
  else if (two 112 (ofText (use ++ 58 :: who)).1 (ofAtom n)).2 ≠ 0 then ([], (two 112 (ofText (use ++ 58 :: who)).1 (ofAtom n)).2)
  else one 104 (two 112 (ofText (use ++ 58 :: who)).1 (ofAtom n)).1
def txt (use who : List UInt8) : List UInt8 := 116 :: putText (use ++ 58 :: who)
def prs (use who : List UInt8) (n : Nat) : List UInt8 := 112 :: (txt use who ++ ofAtom n)
def sech (use who : List UInt8) (n : Nat) : List UInt8 := 104 :: prs use who n
theorem sech_head (use who : List UInt8) (n : Nat) : (sech use who n).headD 0 = 104 := rfl
theorem prs_head (use who : List UInt8) (n : Nat) : (prs use who n).headD 0 = 112 := rfl
theorem atom_head (n : Nat) : (ofAtom n).headD 0 = 97 := rfl
theorem atom_ok {n : Nat} (hn : n < 18446744073709551616) : right (ofAtom n) = true := ofAtom_right hn
theorem made_yes {l : List UInt8} (h : right l = true) : made l = (l, 0) := by unfold made; rw [if_pos h]
theorem made_no {l : List UInt8} (h : ¬ right l = true) : made l = ([], 10) := by unfold made; rw [if_neg h]
theorem secret_ok {use who : List UInt8} {n : Nat} (hn : n < 18446744073709551616) (h1 : right (txt use who) = true) (h2 : right (prs use who n) = true) (h3 : right (sech use who n) = true) : secret use who n = (sech use who n, 0) := by
  have e1 : ofText (use ++ 58 :: who) = (txt use who, 0) := made_yes h1
  have e2 : two 112 (txt use who) (ofAtom n) = (prs use who n, 0) := by unfold two; rw [if_pos ⟨h1, atom_ok hn⟩]; exact made_yes h2
  have e3 : one 104 (prs use who n) = (sech use who n, 0) := by unfold one; rw [if_pos h2]; exact made_yes h3
  unfold secret
  rw [e1, if_neg (by simp), e2, if_neg (by simp), e3]
theorem secret_no {use who : List UInt8} {n : Nat} (hn : n < 18446744073709551616) (h : ¬ (right (txt use who) = true ∧ right (prs use who n) = true ∧ right (sech use who n) = true)) : secret use who n = ([], 10) := by
  unfold secret
  by_cases h1 : right (txt use who) = true
  · have e1 : ofText (use ++ 58 :: who) = (txt use who, 0) := made_yes h1
    rw [e1, if_neg (by simp)]
    by_cases h2 : right (prs use who n) = true
    · have e2 : two 112 (txt use who) (ofAtom n) = (prs use who n, 0) := by unfold two; rw [if_pos ⟨h1, atom_ok hn⟩]; exact made_yes h2
      rw [e2, if_neg (by simp)]
      unfold one
      rw [if_pos h2]
      exact made_no (fun h3 => h ⟨h1, h2, h3⟩)
    · have e2 : two 112 (txt use who) (ofAtom n) = ([], 10) := by unfold two; rw [if_pos ⟨h1, atom_ok hn⟩]; exact made_no h2
      rw [e2, if_pos (by simp)]
  · have e1 : ofText (use ++ 58 :: who) = ([], 10) := made_no h1
    rw [e1, if_pos (by simp)]
theorem secret_cases {use who : List UInt8} {n : Nat} (hn : n < 18446744073709551616) :
    (secret use who n = (sech use who n, 0) ∧ right (txt use who) = true ∧ right (prs use who n) = true ∧ right (sech use who n) = true) ∨ (secret use who n = ([], 10) ∧ ¬ (right (txt use who) = true ∧ right (prs use who n) = true ∧ right (sech use who n) = true)) := by
  by_cases h : right (txt use who) = true ∧ right (prs use who n) = true ∧ right (sech use who n) = true
  · exact .inl ⟨secret_ok hn h.1 h.2.1 h.2.2, h⟩
  · exact .inr ⟨secret_no hn h, h⟩
theorem colon_cut : ∀ {a b c d : List UInt8}, 58 ∉ a → 58 ∉ c → a ++ 58 :: b = c ++ 58 :: d → a = c ∧ b = d
  | [], b, [], d, _, _, h => ⟨rfl, (List.cons.inj h).2⟩
  | [], b, y :: c, d, _, hc, h => by
    have := (List.cons.inj h).1
    exact absurd (by rw [← this]; simp) hc
  | x :: a, b, [], d, ha, _, h => by
    have := (List.cons.inj h).1
    exact absurd (by rw [this]; simp) ha
  | x :: a, b, y :: c, d, ha, hc, h => by
    obtain ⟨h1, h2⟩ := List.cons.inj h
    obtain ⟨h3, h4⟩ := colon_cut (fun e => ha (List.mem_cons_of_mem _ e)) (fun e => hc (List.mem_cons_of_mem _ e)) h2
    exact ⟨by rw [h1, h3], h4⟩
/-- Two secrets are one just if all is the same. -/
theorem sech_inj {use who use' who' : List UInt8} {n m : Nat} (hn : n < 18446744073709551616) (hm : m < 18446744073709551616) (h1 : right (txt use who) = true) (h2 : right (txt use' who') = true) (hu : 58 ∉ use) (hu' : 58 ∉ use')
    (hl : (use ++ 58 :: who).length < 18446744073709551616) (hl' : (use' ++ 58 :: who').length < 18446744073709551616) (h : sech use who n = sech use' who' m) : use = use' ∧ who = who' ∧ n = m := by
  have e1 := (List.cons.inj (List.cons.inj h).2).2
  obtain ⟨e2, e3⟩ := right_cut h1 h2 e1
  have e4 : putText (use ++ 58 :: who) = putText (use' ++ 58 :: who') := (List.cons.inj e2).2
  have e5 : use ++ 58 :: who = use' ++ 58 :: who' := (put_inj hl hl' e4).2
  obtain ⟨a, b⟩ := colon_cut hu hu' e5
  exact ⟨a, b, (put_inj hn hm (r := []) (q := []) (by rw [List.append_nil, List.append_nil]; exact (List.cons.inj e3).2)).1⟩
/-- Of terms that give nothing nothing more is had. -/
theorem had_still {held : List (List UInt8)} (h : ∀ x ∈ held, x.headD 0 = 104 ∨ x.headD 0 = 117 ∨ x.headD 0 = 97) (x : List UInt8) : Had held x ↔ x ∈ held := by
  refine ⟨fun hx => hx (fun x => x ∈ held) (fun _ h => h) ?_, had_held⟩
  intro t x ht hg
  rcases h t ht with h1 | h1 | h1 <;> rcases hg with ⟨h2, _⟩ | ⟨h2, _⟩ | ⟨h2, _⟩ | ⟨h2, _⟩ <;> (rw [h1] at h2; exact absurd h2 (by decide))
theorem pts_prs {use who : List UInt8} {n : Nat} (h1 : right (txt use who) = true) (h2 : right (prs use who n) = true) : pts (prs use who n) = [txt use who, ofAtom n] := by
  obtain ⟨x, y, e, hp, hx, _, _⟩ := pts_two h2 (.inl rfl)
  obtain ⟨a, b⟩ := right_cut h1 hx e
  unfold prs
  rw [hp, a, b]
/-- None can be told without its atom .. -/
theorem der_not {use who : List UInt8} {n : Nat} {u t : List UInt8} (h1 : right (txt use who) = true) (h2 : right (prs use who n) = true) (h3 : right (sech use who n) = true) (hu : u.headD 0 = 117) (ht : t.headD 0 = 104) : Der [u, t] (sech use who n) ↔ sech use who n = t := by
  have hs : ∀ x ∈ [u, t], x.headD 0 = 104 ∨ x.headD 0 = 117 ∨ x.headD 0 = 97 := fun x hx => by
    have : x = u ∨ x = t := by simpa using hx
    rcases this with rfl | rfl
    · exact .inr (.inl hu)
    · exact .inl ht
  constructor
  · intro hd
    rcases tog_iff.1 hd with h | h | ⟨_, h⟩
    · have := (had_still hs _).1 h
      have : sech use who n = u ∨ sech use who n = t := by simpa using this
      rcases this with e | e
      · rw [← e, sech_head] at hu; exact absurd hu (by decide)
      · exact e
    · rw [sech_head] at h; exact absurd h (by decide)
    · have e1 := (pts_one h3 (.inl rfl)).1
      have h4 := h (prs use who n) (by unfold sech; rw [e1]; simp)
      rcases tog_iff.1 h4 with h | h | ⟨_, h⟩
      · have := (had_still hs _).1 h
        have : prs use who n = u ∨ prs use who n = t := by simpa using this
        rcases this with e | e
        · rw [← e, prs_head] at hu; exact absurd hu (by decide)
        · rw [← e, prs_head] at ht; exact absurd ht (by decide)
      · rw [prs_head] at h; exact absurd h (by decide)
      · have h5 := h (ofAtom n) (by rw [pts_prs h1 h2]; simp)
        rcases tog_iff.1 h5 with h | h | ⟨h, _⟩
        · have := (had_still hs _).1 h
          have : ofAtom n = u ∨ ofAtom n = t := by simpa using this
          rcases this with e | e
          · rw [← e, atom_head] at hu; exact absurd hu (by decide)
          · rw [← e, atom_head] at ht; exact absurd ht (by decide)
        · rw [atom_head] at h; exact absurd h (by decide)
        · exact absurd rfl h
  · intro e
    exact der_held (by rw [e]; simp)
/-- .. and with it each can. -/
theorem der_atom {use who : List UInt8} {n : Nat} (h1 : right (txt use who) = true) (h2 : right (prs use who n) = true) (h3 : right (sech use who n) = true) : Der [ofAtom n] (sech use who n) := by
  have e1 := (pts_one h3 (.inl rfl)).1
  refine der_parts (by rw [sech_head]; decide) fun q hq => ?_
  have : q = prs use who n := by unfold sech at hq; rw [e1] at hq; simpa using hq
  rw [this]
  refine der_parts (by rw [prs_head]; decide) fun r hr => ?_
  rw [pts_prs h1 h2] at hr
  have : r = txt use who ∨ r = ofAtom n := by simpa using hr
  rcases this with rfl | rfl
  · exact tog_iff.2 (.inr (.inl rfl))
  · exact der_held (by simp)
end Go.Proofs.YtbdealddjonobaaGreat.Draw

/-
  PLAIN FACTS, OF NO PROGRAM: a secret of short texts is one, and its public one is a term. By an AI agent; no person has read it.
-/
namespace Go.Proofs.YtbdealddjonobaaGreat.Draw
open Wire Term Clo

theorem size_txt (d : Nat) {use who : List UInt8} (h : (use ++ 58 :: who).length ≤ 3000) : size (d + 1) (txt use who) = (txt use who).length := by
  have h1 := put_le (n := (use ++ 58 :: who).length) (by omega)
  unfold txt
  generalize use ++ 58 :: who = s at h h1
  show up (body (size d) 116 (putText s)) = _
  have h2 : body (size d) 116 (putText s) = some (putText s).length := by
    have h3 := text_put (t := s) (by omega) [] 4000 (by omega)
    rw [List.append_nil] at h3
    show leaf 116 (putText s) = _
    unfold leaf
    rw [if_neg (by decide), h3]
    simp
  rw [h2]
  simp only [up, List.length_cons]; omega
theorem size_atom (d : Nat) {n : Nat} (hn : n < 18446744073709551616) : size (d + 1) (ofAtom n) = (ofAtom n).length := by
  show up (body (size d) 97 (put n)) = _
  have h2 : body (size d) 97 (put n) = some (put n).length := by
    have h3 := take_put hn []
    rw [List.append_nil] at h3
    show leaf 97 (put n) = _
    unfold leaf
    rw [if_pos rfl, h3]
    simp
  rw [h2]
  simp only [up, ofAtom, List.length_cons]; omega
theorem size_pair {d : Nat} {a b : List UInt8} (ha : size d a = a.length) (ha0 : a ≠ []) (hb : size d b = b.length) (hb0 : b ≠ []) : size (d + 1) (112 :: (a ++ b)) = (112 :: (a ++ b)).length := by
  have hal : a.length ≠ 0 := fun h => ha0 (List.eq_nil_of_length_eq_zero h)
  have hbl : b.length ≠ 0 := fun h => hb0 (List.eq_nil_of_length_eq_zero h)
  show up (body (size d) 112 (a ++ b)) = _
  have h1 : body (size d) 112 (a ++ b) = sizes (size d) 2 (a ++ b) := by
    show (if (112 : UInt8) = 98 ∧ (a ++ b).head? ≠ some 117 then none else sizes (size d) 2 (a ++ b)) = _
    rw [if_neg (fun h => absurd h.1 (by decide))]
  have h2 : size d (a ++ b) = a.length := by
    have := size_ext d a b (by rw [ha]; exact hal)
    rw [ha, List.take_length] at this
    exact this
  have h3 : sizes (size d) 1 b = some b.length := by
    unfold sizes
    rw [hb, if_neg hbl]
    unfold sizes
    rfl
  have h4 : sizes (size d) 2 (a ++ b) = some (a.length + b.length) := by
    unfold sizes
    rw [h2, if_neg hal, List.drop_left, h3]
    rfl
  rw [h1, h4]
  simp only [up, List.length_cons, List.length_append]; omega
theorem size_one {d : Nat} {k : UInt8} {a : List UInt8} (hk : k = 104 ∨ k = 117) (ha : size d a = a.length) (ha0 : a ≠ []) : size (d + 1) (k :: a) = (k :: a).length := by
  have hal : a.length ≠ 0 := fun h => ha0 (List.eq_nil_of_length_eq_zero h)
  have hk1 : arity k = some 1 := by rcases hk with rfl | rfl <;> rfl
  have hk2 : k ≠ 98 := by rcases hk with rfl | rfl <;> decide
  show up (body (size d) k a) = _
  have h1 : body (size d) k a = sizes (size d) 1 a := by
    unfold body
    rw [hk1]
    show (if k = 98 ∧ a.head? ≠ some 117 then none else sizes (size d) 1 a) = _
    rw [if_neg (fun h => absurd h.1 hk2)]
  have h2 : sizes (size d) 1 a = some a.length := by
    unfold sizes
    rw [ha, if_neg hal]
    unfold sizes
    rfl
  rw [h1, h2]
  simp only [up, List.length_cons]; omega
/-- A secret of short texts. -/
theorem secret_small {use who : List UInt8} {n : Nat} (h : use.length + who.length ≤ 1000) (hn : n < 18446744073709551616) :
    right (txt use who) = true ∧ right (prs use who n) = true ∧ right (sech use who n) = true ∧ right (117 :: sech use who n) = true := by
  have hl : (use ++ 58 :: who).length ≤ 1001 := by rw [List.length_append, List.length_cons]; omega
  have h1 := (put_le (n := (use ++ 58 :: who).length) (by omega)).2
  have h2 := (put_le hn).2
  have ht : (txt use who).length ≤ 1020 := by unfold txt; rw [List.length_cons, putText_len]; omega
  have ha : (ofAtom n).length ≤ 20 := by unfold ofAtom; rw [List.length_cons]; omega
  have hp : (prs use who n).length ≤ 1041 := by unfold prs; rw [List.length_cons, List.length_append]; omega
  have hs : (sech use who n).length ≤ 1042 := by unfold sech; rw [List.length_cons]; omega
  have t1 := fun d => size_txt d (use := use) (who := who) (by omega)
  have a1 := fun d => size_atom d hn
  have tn : txt use who ≠ [] := by unfold txt; exact List.cons_ne_nil _ _
  have an : ofAtom n ≠ [] := by unfold ofAtom; exact List.cons_ne_nil _ _
  have p1 : ∀ d, size (d + 2) (prs use who n) = (prs use who n).length := fun d => size_pair (t1 d) tn (a1 d) an
  have pn : prs use who n ≠ [] := List.cons_ne_nil _ _
  have s1 : ∀ d, size (d + 3) (sech use who n) = (sech use who n).length := fun d => size_one (.inl rfl) (p1 d) pn
  have sn : sech use who n ≠ [] := List.cons_ne_nil _ _
  exact ⟨right_iff.2 ⟨tn, by omega, t1 39⟩, right_iff.2 ⟨pn, by omega, p1 38⟩, right_iff.2 ⟨sn, by omega, s1 37⟩, right_iff.2 ⟨List.cons_ne_nil _ _, by rw [List.length_cons]; omega, size_one (.inr rfl) (s1 36) sn⟩⟩
end Go.Proofs.YtbdealddjonobaaGreat.Draw

/-
  CONTRACTS of the document's Mix, Draw, Secret (letterlockref5) at this program. By an AI agent; no person has read it.
-/
namespace Go.Proofs.YtbdealddjonobaaGreat.Draw
open Go.RowKit Wire Term Clo

theorem mixA_eq {n : Nat} : IntKind.u64.wrap ((n : Int) + 11400714819323198485) = ((mixA n : Nat) : Int) := by
  rw [IntKind.wrap_u64]; unfold mixA; omega
theorem mixB_eq {a : Nat} (ha : a < 18446744073709551616) : IntKind.u64.wrap (bits .xor .u64 (a : Int) ((a : Int) / 1073741824) * 13787848793156543929) = ((mixB a : Nat) : Int) := mixStep_u64 a 1073741824 13787848793156543929 ha
theorem mixC_eq {a : Nat} (ha : a < 18446744073709551616) : IntKind.u64.wrap (bits .xor .u64 (a : Int) ((a : Int) / 134217728) * 10723151780598845931) = ((mixC a : Nat) : Int) := mixStep_u64 a 134217728 10723151780598845931 ha
theorem mixD_eq {a : Nat} (ha : a < 18446744073709551616) : bits .xor .u64 (a : Int) ((a : Int) / 2147483648) = ((mixD a : Nat) : Int) := xorShift_u64 a 2147483648 ha
set_option maxHeartbeats 2000000 in
set_option maxRecDepth 1000000 in
theorem rmix_any (n : Nat) (w : World) : Calls Tryz.prog 138 #[.int .u64 (n : Int)] w fun e w' => e = .returned (.int .u64 ((mix n : Nat) : Int)) ∧ w' = w := by
  obtain ⟨a, ha⟩ : ∃ a, mixA n = a := ⟨_, rfl⟩
  obtain ⟨b, hb⟩ : ∃ b, mixB a = b := ⟨_, rfl⟩
  obtain ⟨c, hc⟩ : ∃ c, mixC b = c := ⟨_, rfl⟩
  obtain ⟨d, hd⟩ : ∃ d, mixD c = d := ⟨_, rfl⟩
  have h1 : IntKind.u64.wrap ((n : Int) + 11400714819323198485) = (a : Int) := by rw [← ha]; exact mixA_eq
  have h2 : IntKind.u64.wrap (bits .xor .u64 (a : Int) ((a : Int) / 1073741824) * 13787848793156543929) = (b : Int) := by rw [← hb]; exact mixB_eq (by rw [← ha]; exact mixA_lt n)
  have h3 : IntKind.u64.wrap (bits .xor .u64 (b : Int) ((b : Int) / 134217728) * 10723151780598845931) = (c : Int) := by rw [← hc]; exact mixC_eq (by rw [← hb]; exact mixB_lt a)
  have h4 : bits .xor .u64 (c : Int) ((c : Int) / 2147483648) = (d : Int) := by rw [← hd]; exact mixD_eq (by rw [← hc]; exact mixC_lt b)
  have HM : Hid (mix n = d) := by show mixD (mixC (mixB (mixA n))) = d; rw [ha, hb, hc, hd]
  clear ha hb hc hd
  go_enter Tryz.func138, Tryz.ntmps138
  go_wp2
  go_ret
  exact ⟨by rw [HM.out]; rfl, rfl⟩
theorem draw_eq {s i : Nat} : IntKind.u64.wrap ((s : Int) + IntKind.u64.wrap ((i : Int) * 11400714819323198485)) = (((s + i * 11400714819323198485) % 18446744073709551616 : Nat) : Int) := by
  rw [IntKind.wrap_u64, IntKind.wrap_u64]; omega
set_option maxHeartbeats 2000000 in
set_option maxRecDepth 1000000 in
theorem rdraw_any (s i : Nat) (hi : i ≤ 4611686018427387904) (w : World) : Calls Tryz.prog 93 #[.int .u64 (s : Int), .int .i64 (i : Int)] w fun e w' => e = .returned (.int .u64 ((draw s i : Nat) : Int)) ∧ w' = w := by
  have h0 : IntKind.u64.wrap (i : Int) = (i : Int) := by rw [IntKind.wrap_u64]; omega
  obtain ⟨m, hm⟩ : ∃ m, IntKind.u64.wrap ((i : Int) * 11400714819323198485) = m := ⟨_, rfl⟩
  obtain ⟨x, hx⟩ : ∃ x, (s + i * 11400714819323198485) % 18446744073709551616 = x := ⟨_, rfl⟩
  have h1 : IntKind.u64.wrap ((s : Int) + m) = (x : Int) := by rw [← hm, ← hx]; exact draw_eq
  have HX : Hid (draw s i = mix x) := by show mix _ = _; rw [hx]
  clear hx
  go_enter Tryz.func93, Tryz.ntmps93
  go_wp2_with (go_at_call 138; refine (rmix_any x _).mono ?_; rintro e w1 ⟨rfl, rfl⟩)
  go_ret
  exact ⟨by rw [HX.out]; rfl, rfl⟩
end Go.Proofs.YtbdealddjonobaaGreat.Draw

/-
  CONTRACT of the document's Secret (letterlockref5) at this program. By an AI agent; no person has read it.
-/
namespace Go.Proofs.YtbdealddjonobaaGreat.Draw
open Go.RowKit Wire Term Clo

theorem made_len (l : List UInt8) : (made l).1.length ≤ 4000 := by
  unfold made
  split
  · exact (right_len (by assumption)).2
  · exact Nat.zero_le _
theorem two_len (k : UInt8) (a b : List UInt8) : (two k a b).1.length ≤ 4000 := by
  unfold two
  split
  · exact made_len _
  · exact Nat.zero_le _
theorem ofText_eq (use who : List UInt8) : ofText (use ++ 58 :: who) = made (txt use who) := rfl
theorem one_eq {use who : List UInt8} {n : Nat} (h2 : right (prs use who n) = true) : one 104 (prs use who n) = made (sech use who n) := by unfold one; rw [if_pos h2]; rfl
theorem two_eq {use who : List UInt8} {n : Nat} (hn : n < 18446744073709551616) (h1 : right (txt use who) = true) : two 112 (txt use who) (ofAtom n) = made (prs use who n) := by unfold two; rw [if_pos ⟨h1, atom_ok hn⟩]; rfl
/-- A secret's text: use, colon, whose. -/
theorem colon_text (use who : ByteArray) {UC X : ByteArray} (h1 : use ++ (ByteArray.mk #[58]) = UC) (h2 : UC ++ who = X) : X.data.toList = use.data.toList ++ 58 :: who.data.toList ∧ UC.size = use.size + 1 ∧ X.size = use.size + who.size + 1 := by
  have e1 : UC.data.toList = use.data.toList ++ [58] := by rw [← h1, app_data]
  have e2 : X.data.toList = use.data.toList ++ 58 :: who.data.toList := by rw [← h2, app_data, e1, List.append_assoc]; rfl
  refine ⟨e2, ?_, ?_⟩
  · rw [Lib.size_eq UC, e1, List.length_append, Lib.size_eq use]; rfl
  · rw [Lib.size_eq X, e2, List.length_append, List.length_cons, Lib.size_eq use, Lib.size_eq who]; omega
set_option maxHeartbeats 4000000 in
set_option maxRecDepth 1000000 in
theorem rsecret_any (use who : ByteArray) (n : Nat) (w : World) (hu : use.size ≤ 140737488300000) (hw : who.size ≤ 140737488300000) (huw : use.size + who.size ≤ 140737488300000) (hn : n < 18446744073709551616) :
    Calls Tryz.prog 49 #[.string use, .string who, .int .u64 (n : Int)] w fun e w' => Sr (secret use.data.toList who.data.toList n) e ∧ Below w.heap.size w w' := by
  obtain ⟨UC, huc⟩ : ∃ UC, use ++ (ByteArray.mk #[58]) = UC := ⟨_, rfl⟩
  obtain ⟨X, hX⟩ : ∃ X, UC ++ who = X := ⟨_, rfl⟩
  obtain ⟨hXd, hucz, hXz⟩ := colon_text use who huc hX
  have hucz1 : UC.size ≤ 140737488300001 := by omega
  have hXz1 : X.size ≤ 140737488355000 := by omega
  have HC := Lib.hid (ofText_any X w hXz1)
  rw [hXd, ofText_eq] at HC
  clear hXd hucz hXz huw hXz1
  by_cases h1 : right (txt use.data.toList who.data.toList) = true
  · have hz1 := (right_len h1).2
    have HC2 : Hid (∀ (T A : ByteArray) (w : World), T.data.toList = txt use.data.toList who.data.toList → A.data.toList = ofAtom n → Calls Tryz.prog 95 #[.string T, .string A] w fun e w' => Sr (made (prs use.data.toList who.data.toList n)) e ∧ Below w.heap.size w w') := by
      intro T A w hT hA
      have := ofPair_any T A w (by rw [Lib.size_eq, hT]; omega) (by rw [Lib.size_eq, hA]; have := (right_len (atom_ok hn)).2; omega)
      rw [hT, hA, two_eq hn h1] at this
      exact this
    rw [made_yes h1] at HC
    by_cases h2 : right (prs use.data.toList who.data.toList n) = true
    · have HS : secret use.data.toList who.data.toList n = made (sech use.data.toList who.data.toList n) := by
        by_cases h3 : right (sech use.data.toList who.data.toList n) = true
        · rw [secret_ok hn h1 h2 h3, made_yes h3]
        · rw [secret_no hn (fun h => h3 h.2.2), made_no h3]
      have HC3 : Hid (∀ (T : ByteArray) (w : World), T.data.toList = prs use.data.toList who.data.toList n → Calls Tryz.prog 97 #[.string T] w fun e w' => Sr (made (sech use.data.toList who.data.toList n)) e ∧ Below w.heap.size w w') := by
        intro T w hT
        have := ofHash_any T w (by rw [Lib.size_eq, hT]; have := (right_len h2).2; omega)
        rw [hT, one_eq h2] at this
        exact this
      rw [made_yes h2] at HC2
      rw [HS]
      obtain ⟨x, f, hx⟩ : ∃ x f, made (sech use.data.toList who.data.toList n) = (x, f) := ⟨_, _, rfl⟩
      rw [hx] at HC3 ⊢
      have HN := Lib.hid hn
      clear HS h1 h2 hz1 hx hn
      go_enter Tryz.func49, Tryz.ntmps49
      go_wp2_with fail
      refine HC.out.mono ?_
      rintro e w1 ⟨⟨T, hT, rfl⟩, hb1⟩
      have HB1 := Lib.hid hb1
      have HT := Lib.hid hT
      clear hb1 hT
      dsimp only
      go_wp2_with fail
      refine (ofAtom_any n _ HN.out).mono ?_
      rintro e w2 ⟨⟨A, hA, rfl⟩, hb2⟩
      have HB2 := Lib.hid (HB1.out.trans (hb2.mono HB1.out.size))
      have HA := Lib.hid hA
      clear hb2 hA
      dsimp only
      go_wp2_with fail
      refine (HC2.out T A _ HT.out HA.out).mono ?_
      rintro e w3 ⟨⟨P, hP, rfl⟩, hb3⟩
      have HB3 := Lib.hid (HB2.out.trans (hb3.mono HB2.out.size))
      have HP := Lib.hid hP
      clear hb3 hP
      dsimp only
      go_wp2_with fail
      refine (HC3.out P _ HP.out).mono ?_
      rintro e w4 ⟨⟨H, hH, rfl⟩, hb4⟩
      have HB4 := Lib.hid (HB3.out.trans (hb4.mono HB3.out.size))
      have HH := Lib.hid hH
      clear hb4 hH
      dsimp only
      go_wp2
      go_ret2
      exact ⟨⟨H, HH.out, rfl⟩, HB4.out⟩
    · rw [secret_no hn (fun h => h2 h.2.1)]
      rw [made_no h2] at HC2
      have HN := Lib.hid hn
      clear h1 h2 hz1 hn
      go_enter Tryz.func49, Tryz.ntmps49
      go_wp2_with fail
      refine HC.out.mono ?_
      rintro e w1 ⟨⟨T, hT, rfl⟩, hb1⟩
      have HB1 := Lib.hid hb1
      have HT := Lib.hid hT
      clear hb1 hT
      dsimp only
      go_wp2_with fail
      refine (ofAtom_any n _ HN.out).mono ?_
      rintro e w2 ⟨⟨A, hA, rfl⟩, hb2⟩
      have HB2 := Lib.hid (HB1.out.trans (hb2.mono HB1.out.size))
      have HA := Lib.hid hA
      clear hb2 hA
      dsimp only
      go_wp2_with fail
      refine (HC2.out T A _ HT.out HA.out).mono ?_
      rintro e w3 ⟨⟨P, hP, rfl⟩, hb3⟩
      have HB3 := Lib.hid (HB2.out.trans (hb3.mono HB2.out.size))
      clear hb3 hP
      dsimp only
      go_wp2
      go_ret2
      exact ⟨sr_nil _, HB3.out⟩
  · rw [secret_no hn (fun h => h1 h.1)]
    rw [made_no h1] at HC
    clear h1 hn
    go_enter Tryz.func49, Tryz.ntmps49
    go_wp2_with fail
    refine HC.out.mono ?_
    rintro e w1 ⟨⟨T, hT, rfl⟩, hb1⟩
    have HB1 := Lib.hid hb1
    clear hb1 hT
    dsimp only
    go_wp2
    go_ret2
    exact ⟨sr_nil _, HB1.out⟩
end Go.Proofs.YtbdealddjonobaaGreat.Draw

/-
  PLAIN FACTS, OF NO PROGRAM: chains of states (layer 6): a hash of a hash of .. a term; a state's key; who can tell them. By an AI agent; no person has read it.
-/
namespace Go.Proofs.YtbdealddjonobaaGreat.Reg
open Wire Term Clo Draw

/-! ### terms of a depth at most -/
/-- A term's bytes, of that depth at most. -/
def Sz (d : Nat) (l : List UInt8) : Prop := l ≠ [] ∧ size d l = l.length
theorem sz_right {d : Nat} {l : List UInt8} (h : Sz d l) (hd : d ≤ 40) (hl : l.length ≤ 4000) : right l = true := by
  refine right_iff.2 ⟨h.1, hl, ?_⟩
  rw [← h.2]
  exact size_mono hd (by rw [h.2]; exact fun e => h.1 (List.eq_nil_of_length_eq_zero e))
theorem sz_up {d e : Nat} {l : List UInt8} (h : Sz d l) (hd : d ≤ e) : Sz e l :=
  ⟨h.1, by rw [size_mono hd (by rw [h.2]; exact fun e => h.1 (List.eq_nil_of_length_eq_zero e))]; exact h.2⟩
theorem sz_one {d : Nat} {k : UInt8} {a : List UInt8} (hk : k = 104 ∨ k = 117) (h : Sz d a) : Sz (d + 1) (k :: a) := ⟨List.cons_ne_nil _ _, size_one hk h.2 h.1⟩
theorem sz_pair {d : Nat} {a b : List UInt8} (ha : Sz d a) (hb : Sz d b) : Sz (d + 1) (112 :: (a ++ b)) := ⟨List.cons_ne_nil _ _, size_pair ha.2 ha.1 hb.2 hb.1⟩
theorem sz_atom (d : Nat) {n : Nat} (hn : n < 18446744073709551616) : Sz (d + 1) (ofAtom n) := ⟨List.cons_ne_nil _ _, size_atom d hn⟩
theorem sz_txt (d : Nat) {use who : List UInt8} (h : (use ++ 58 :: who).length ≤ 3000) : Sz (d + 1) (txt use who) := ⟨List.cons_ne_nil _ _, size_txt d h⟩

/-! ### back -/
/-- The hash of the hash of .. a term. -/
def hs (k : Nat) (t : List UInt8) : List UInt8 := List.replicate k 104 ++ t
theorem hs_zero (t : List UInt8) : hs 0 t = t := rfl
theorem hs_succ (k : Nat) (t : List UInt8) : hs (k + 1) t = 104 :: hs k t := rfl
theorem hs_len (k : Nat) (t : List UInt8) : (hs k t).length = k + t.length := by simp [hs]
theorem hs_add : ∀ (i j : Nat) (t : List UInt8), hs (i + j) t = hs i (hs j t)
  | 0, j, t => by rw [Nat.zero_add]; rfl
  | i + 1, j, t => by rw [show i + 1 + j = (i + j) + 1 by omega, hs_succ, hs_add i j t]; rfl
theorem hs_out (k : Nat) (t : List UInt8) : hs (k + 1) t = hs k (104 :: t) := hs_add k 1 t
theorem hs_inj {i j : Nat} {t : List UInt8} (h : hs i t = hs j t) : i = j := by
  have := congrArg List.length h
  rw [hs_len, hs_len] at this; omega
theorem hs_down {k : Nat} {t : List UInt8} (h : right (hs (k + 1) t) = true) : right (hs k t) = true := (pts_one h (.inl rfl)).2
theorem hs_less {j k : Nat} {t : List UInt8} (hjk : j ≤ k) (h : right (hs k t) = true) : right (hs j t) = true := by
  induction k with
  | zero => rw [Nat.le_zero.1 hjk]; exact h
  | succ k ih =>
    rcases Nat.lt_or_ge k j with h1 | h1
    · rw [show j = k + 1 by omega]; exact h
    · exact ih h1 (hs_down h)
theorem sz_hs {d : Nat} {t : List UInt8} (h : Sz d t) : ∀ k, Sz (d + k) (hs k t)
  | 0 => h
  | k + 1 => sz_one (.inl rfl) (sz_hs h k)
/-- So many steps back of a right term. -/
def backN (t : List UInt8) (k : Nat) : List UInt8 × Int := if right (hs k t) = true then (hs k t, 0) else ([], 10)
def back (t : List UInt8) (steps : Int) : List UInt8 × Int := if right t = true ∧ 0 ≤ steps then backN t steps.toNat else ([], 1)
def state (t : List UInt8) (ep : Int) : List UInt8 × Int := if right t = true then (if 0 ≤ ep ∧ ep ≤ 7 then backN t (7 - ep).toNat else ([], 9)) else ([], 1)
theorem backN_yes {t : List UInt8} {k : Nat} (h : right (hs k t) = true) : backN t k = (hs k t, 0) := by unfold backN; rw [if_pos h]
theorem backN_no {t : List UInt8} {k : Nat} (h : ¬ right (hs k t) = true) : backN t k = ([], 10) := by unfold backN; rw [if_neg h]
theorem backN_cases (t : List UInt8) (k : Nat) : (right (hs k t) = true ∧ backN t k = (hs k t, 0)) ∨ (right (hs k t) = false ∧ backN t k = ([], 10)) := by
  by_cases h : right (hs k t) = true
  · exact .inl ⟨h, backN_yes h⟩
  · exact .inr ⟨by simpa using h, backN_no h⟩
theorem back_of {t : List UInt8} {steps : Int} (hr : right t = true) (hs : 0 ≤ steps) : back t steps = backN t steps.toNat := by unfold back; rw [if_pos ⟨hr, hs⟩]
theorem back_not {t : List UInt8} {steps : Int} (h : ¬ (right t = true ∧ 0 ≤ steps)) : back t steps = ([], 1) := by unfold back; rw [if_neg h]
theorem state_of {t : List UInt8} {ep : Int} (hr : right t = true) (h0 : 0 ≤ ep) (h7 : ep ≤ 7) : state t ep = back t (7 - ep) := by
  unfold state; rw [if_pos hr, if_pos ⟨h0, h7⟩, back_of hr (by omega)]
theorem state_out {t : List UInt8} {ep : Int} (hr : right t = true) (h : ¬ (0 ≤ ep ∧ ep ≤ 7)) : state t ep = ([], 9) := by unfold state; rw [if_pos hr, if_neg h]
theorem state_not {t : List UInt8} {ep : Int} (hr : ¬ right t = true) : state t ep = ([], 1) := by unfold state; rw [if_neg hr]
/-- One step of a loop: what is hashed once more. -/
theorem one_hs {t : List UInt8} {i : Nat} (h : right (hs i t) = true) : one 104 (hs i t) = made (hs (i + 1) t) := by unfold one; rw [if_pos h]; rfl
theorem backN_short {t : List UInt8} {i k : Nat} (hik : i ≤ k) (h : ¬ right (hs i t) = true) : backN t k = ([], 10) := backN_no fun h2 => h (hs_less hik h2)

/-! ### key -/
theorem put_byte {n : Nat} (h1 : 0 < n) (h2 : n ≤ 255) : put n = [1, n.toUInt8] := by
  unfold put
  rw [dig_pos (by omega), show n / 256 = 0 by omega, dig_zero, show n % 256 = n by omega]; rfl
def keyT : List UInt8 := [116, 1, 3, 107, 101, 121]
theorem keyT_eq : 116 :: putText [107, 101, 121] = keyT := by unfold putText; rw [put_byte (by decide) (by decide)]; rfl
def keyp (t : List UInt8) : List UInt8 := 112 :: (keyT ++ t)
def keyh (t : List UInt8) : List UInt8 := 104 :: keyp t
def key (t : List UInt8) : List UInt8 × Int := if right t = true then (if right (keyp t) = true then made (keyh t) else ([], 10)) else ([], 1)
theorem keyT_right : right keyT = true := rfl
theorem ofText_key : ofText [107, 101, 121] = (keyT, 0) := by unfold ofText; rw [keyT_eq]; exact made_yes keyT_right
theorem key_pair {t : List UInt8} (h : right t = true) : two 112 keyT t = made (keyp t) := by unfold two; rw [if_pos ⟨keyT_right, h⟩]; rfl
theorem key_hash {t : List UInt8} (h : right (keyp t) = true) : one 104 (keyp t) = made (keyh t) := by unfold one; rw [if_pos h]; rfl
theorem key_not {t : List UInt8} (h : ¬ right t = true) : key t = ([], 1) := by unfold key; rw [if_neg h]
theorem key_of {t : List UInt8} (h : right t = true) (h2 : right (keyp t) = true) : key t = made (keyh t) := by unfold key; rw [if_pos h, if_pos h2]
theorem key_big {t : List UInt8} (h : right t = true) (h2 : ¬ right (keyp t) = true) : key t = ([], 10) := by unfold key; rw [if_pos h, if_neg h2]
theorem pts_keyp {t : List UInt8} (h : right (keyp t) = true) : pts (keyp t) = [keyT, t] := by
  obtain ⟨x, y, e, hp, hx, _, _⟩ := pts_two h (.inl rfl)
  obtain ⟨a, b⟩ := right_cut keyT_right hx e
  unfold keyp
  rw [hp, a, b]
theorem keyh_inj {s t : List UInt8} (h : keyh s = keyh t) : s = t := by
  have e1 := (List.cons.inj (List.cons.inj h).2).2
  exact List.append_cancel_left e1

/-! ### the chain of a secret root -/
def rootS (n : Nat) : List UInt8 := sech [114, 111, 111, 116] [120] n
theorem root_eq : txt [114, 111, 111, 116] [120] = [116, 1, 6, 114, 111, 111, 116, 58, 120] := by
  show 116 :: (put 6 ++ [114, 111, 111, 116, 58, 120]) = _
  rw [put_byte (by decide) (by decide)]; rfl
theorem root_txt : right (txt [114, 111, 111, 116] [120]) = true := by rw [root_eq]; rfl
theorem root_sz {n : Nat} (hn : n < 18446744073709551616) : Sz 3 (rootS n) ∧ (rootS n).length ≤ 40 := by
  have h1 : Sz 1 (txt [114, 111, 111, 116] [120]) := sz_txt 0 (by simp)
  have h2 : Sz 1 (ofAtom n) := sz_atom 0 hn
  refine ⟨sz_one (.inl rfl) (sz_pair h1 h2), ?_⟩
  have h3 := (put_le hn).2
  have h4 : (txt [114, 111, 111, 116] [120]).length = 9 := by rw [root_eq]; rfl
  unfold rootS sech prs ofAtom
  rw [List.length_cons, List.length_cons, List.length_append, List.length_cons, h4]
  omega
theorem st_right {n k : Nat} (hn : n < 18446744073709551616) (hk : k ≤ 7) : right (hs k (rootS n)) = true := by
  obtain ⟨h1, h2⟩ := root_sz hn
  exact sz_right (sz_hs h1 k) (by omega) (by rw [hs_len]; omega)
theorem st_key {n k : Nat} (hn : n < 18446744073709551616) (hk : k ≤ 7) : right (keyp (hs k (rootS n))) = true ∧ right (keyh (hs k (rootS n))) = true := by
  obtain ⟨h1, h2⟩ := root_sz hn
  have h3 : Sz (3 + k) keyT := sz_up (d := 1) ⟨List.cons_ne_nil _ _, rfl⟩ (by omega)
  have h4 : Sz (3 + k + 1) (keyp (hs k (rootS n))) := sz_pair h3 (sz_hs h1 k)
  have h5 : keyT.length = 6 := rfl
  have h6 : (keyp (hs k (rootS n))).length ≤ 60 := by unfold keyp; rw [List.length_cons, List.length_append, h5, hs_len]; omega
  exact ⟨sz_right h4 (by omega) (by omega), sz_right (sz_one (.inl rfl) h4) (by omega) (by unfold keyh; rw [List.length_cons]; omega)⟩
theorem st_state {n : Nat} (hn : n < 18446744073709551616) {e : Nat} (he : e ≤ 7) : state (rootS n) e = (hs (7 - e) (rootS n), 0) := by
  have hr : right (rootS n) = true := st_right hn (k := 0) (by omega)
  rw [state_of hr (by omega) (by omega), back_of hr (by omega), show ((7 : Int) - (e : Int)).toNat = 7 - e by omega]
  exact backN_yes (st_right hn (by omega))
theorem st_keyed {n : Nat} (hn : n < 18446744073709551616) {k : Nat} (hk : k ≤ 7) : key (hs k (rootS n)) = (keyh (hs k (rootS n)), 0) := by
  rw [key_of (st_right hn hk) (st_key hn hk).1, made_yes (st_key hn hk).2]
theorem hs_head (k n : Nat) : (hs k (rootS n)).headD 0 = 104 := by cases k <;> rfl
/-- A key is no state. -/
theorem key_state {n k j : Nat} : keyh (hs k (rootS n)) ≠ hs j (rootS n) := by
  intro h
  cases j with
  | zero =>
    have e1 : keyT ++ hs k (rootS n) = txt [114, 111, 111, 116] [120] ++ ofAtom n := (List.cons.inj (List.cons.inj h).2).2
    obtain ⟨e2, _⟩ := right_cut keyT_right root_txt e1
    rw [root_eq] at e2
    exact absurd e2 (by decide)
  | succ j =>
    have e1 : keyp (hs k (rootS n)) = hs j (rootS n) := (List.cons.inj h).2
    have e2 := hs_head j n
    rw [← e1] at e2
    exact absurd e2 (by show ¬ (112 : UInt8) = 104; decide)
/-- Who holds hashes and atoms, not the root's own: which states can be told. -/
theorem der_state {n : Nat} (hn : n < 18446744073709551616) {held : List (List UInt8)} (hh : ∀ x ∈ held, x.headD 0 = 104 ∨ x.headD 0 = 97) (hat : ofAtom n ∉ held) : ∀ {k : Nat}, k ≤ 7 → (Der held (hs k (rootS n)) ↔ ∃ j, j ≤ k ∧ hs j (rootS n) ∈ held) := by
  have hs' : ∀ x, Had held x ↔ x ∈ held := had_still fun x hx => (hh x hx).elim .inl (fun h => .inr (.inr h))
  have base : Der held (rootS n) → rootS n ∈ held := by
    intro hd
    have r1 : right (rootS n) = true := st_right hn (k := 0) (by omega)
    have e1 := pts_one (b := 104) (t := prs [114, 111, 111, 116] [120] n) r1 (.inl rfl)
    rcases tog_iff.1 hd with h | h | ⟨_, h⟩
    · exact (hs' _).1 h
    · exact absurd h (by show ¬ (104 : UInt8) = 116; decide)
    · have h4 := h (prs [114, 111, 111, 116] [120] n) (by show _ ∈ pts (104 :: prs [114, 111, 111, 116] [120] n); rw [e1.1]; simp)
      rcases tog_iff.1 h4 with h | h | ⟨_, h⟩
      · rcases hh _ ((hs' _).1 h) with h5 | h5 <;> (rw [prs_head] at h5; exact absurd h5 (by decide))
      · rw [prs_head] at h; exact absurd h (by decide)
      · have h5 := h (ofAtom n) (by rw [pts_prs root_txt e1.2]; simp)
        rcases tog_iff.1 h5 with h | h | ⟨h, _⟩
        · exact absurd ((hs' _).1 h) hat
        · rw [atom_head] at h; exact absurd h (by decide)
        · exact absurd (atom_head n) h
  intro k
  induction k with
  | zero =>
    intro _
    exact ⟨fun h => ⟨0, Nat.le_refl _, base h⟩, fun ⟨j, hj, hm⟩ => by rw [Nat.le_zero.1 hj] at hm; exact der_held hm⟩
  | succ k ih =>
    intro hk
    have e1 := (pts_one (b := 104) (t := hs k (rootS n)) (st_right hn (k := k + 1) hk) (.inl rfl)).1
    constructor
    · intro hd
      rcases tog_iff.1 hd with h | h | ⟨_, h⟩
      · exact ⟨k + 1, Nat.le_refl _, (hs' _).1 h⟩
      · rw [hs_head] at h; exact absurd h (by decide)
      · obtain ⟨j, hj, hm⟩ := (ih (by omega)).1 (h (hs k (rootS n)) (by rw [hs_succ, e1]; simp))
        exact ⟨j, by omega, hm⟩
    · rintro ⟨j, hj, hm⟩
      rcases Nat.lt_or_ge k j with h1 | h1
      · rw [show k + 1 = j by omega]; exact der_held hm
      · refine der_parts (by rw [hs_head]; decide) fun q hq => ?_
        rw [hs_succ, e1] at hq
        rw [List.mem_singleton.1 hq]
        exact (ih (by omega)).2 ⟨j, h1, hm⟩
/-- .. and which keys. -/
theorem der_key {n : Nat} (hn : n < 18446744073709551616) {held : List (List UInt8)} (hh : ∀ x ∈ held, x.headD 0 = 104 ∨ x.headD 0 = 97) {k : Nat} (hk : k ≤ 7) : Der held (keyh (hs k (rootS n))) ↔ keyh (hs k (rootS n)) ∈ held ∨ Der held (hs k (rootS n)) := by
  have hs' : ∀ x, Had held x ↔ x ∈ held := had_still fun x hx => (hh x hx).elim .inl (fun h => .inr (.inr h))
  obtain ⟨r1, r2⟩ := st_key hn hk
  have e1 := (pts_one (b := 104) (t := keyp (hs k (rootS n))) r2 (.inl rfl)).1
  have e2 := pts_keyp r1
  constructor
  · intro hd
    rcases tog_iff.1 hd with h | h | ⟨_, h⟩
    · exact .inl ((hs' _).1 h)
    · exact absurd h (by show ¬ (104 : UInt8) = 116; decide)
    · have h4 := h (keyp (hs k (rootS n))) (by unfold keyh; rw [e1]; simp)
      rcases tog_iff.1 h4 with h | h | ⟨_, h⟩
      · rcases hh _ ((hs' _).1 h) with h5 | h5
        · exact absurd h5 (by show ¬ (112 : UInt8) = 104; decide)
        · exact absurd h5 (by show ¬ (112 : UInt8) = 97; decide)
      · exact absurd h (by show ¬ (112 : UInt8) = 116; decide)
      · exact .inr (h _ (by rw [e2]; simp))
  · rintro (h | h)
    · exact der_held h
    · refine der_parts (by show ¬ (104 : UInt8) = 97; decide) fun q hq => ?_
      unfold keyh at hq
      rw [e1] at hq
      rw [List.mem_singleton.1 hq]
      refine der_parts (by show ¬ (112 : UInt8) = 97; decide) fun r hr => ?_
      rw [e2] at hr
      have : r = keyT ∨ r = hs k (rootS n) := by simpa using hr
      rcases this with rfl | rfl
      · exact tog_iff.2 (.inr (.inl rfl))
      · exact h
end Go.Proofs.YtbdealddjonobaaGreat.Reg

/-
  CONTRACTS of the document's Back, State, Key (letterlockref6) at this program. By an AI agent; no person has read it.
-/
namespace Go.Proofs.YtbdealddjonobaaGreat.Reg
open Go.RowKit Wire Term Clo Draw

theorem backN_step {t : List UInt8} {i : Nat} (hi : right (hs i t) = true) : (right (hs (i + 1) t) = true ∧ one 104 (hs i t) = (hs (i + 1) t, 0)) ∨ (¬ right (hs (i + 1) t) = true ∧ one 104 (hs i t) = ([], 10)) := by
  rw [one_hs hi]
  by_cases h : right (hs (i + 1) t) = true
  · exact .inl ⟨h, made_yes h⟩
  · exact .inr ⟨h, made_no h⟩
theorem Bel.call {w0 w1 w2 : World} (h : Below w0.heap.size w0 w1) (h2 : Below w1.heap.size w1 w2) : Below w0.heap.size w0 w2 := h.trans (h2.mono h.size)
/-- In a loop's round: the state so many steps back. -/
def At (s : ByteArray) (w0 : World) (i : Nat) (v : Value) (wr : World) : Prop := ∃ T : ByteArray, v = .string T ∧ T.data.toList = hs i s.data.toList ∧ right (hs i s.data.toList) = true ∧ Below w0.heap.size w0 wr
set_option maxHeartbeats 4000000 in
set_option maxRecDepth 1000000 in
theorem rback_any (s : ByteArray) (steps : Int) (w : World) (hz : s.size ≤ 140737488355328) (hst : -9223372036854775808 ≤ steps ∧ steps ≤ 9223372036854775807) :
    Calls Tryz.prog 78 #[.string s, .int .i64 steps] w fun e w' => Sr (back s.data.toList steps) e ∧ Below w.heap.size w w' := by
  obtain ⟨hst1, hst2⟩ := hst
  cases hr : right s.data.toList with
  | false =>
    have HR := Lib.hid hr
    rw [back_not (fun h => by rw [hr] at h; exact absurd h.1 (by decide))]
    clear hr
    go_enter Tryz.func78, Tryz.ntmps78
    go_wp2_with fail
    refine (Term.right_any s _ hz).mono ?_
    rw [HR.out]
    rintro e w1 ⟨rfl, hb1⟩
    have HB1 := Lib.hid hb1
    clear hb1
    dsimp only
    go_wp2
    go_ret2
    exact ⟨sr_nil _, HB1.out⟩
  | true =>
    have HR := Lib.hid hr
    by_cases hneg : steps < 0
    · rw [back_not (fun h => by omega)]
      clear hr
      go_enter Tryz.func78, Tryz.ntmps78
      go_wp2_with fail
      refine (Term.right_any s _ hz).mono ?_
      rw [HR.out]
      rintro e w1 ⟨rfl, hb1⟩
      have HB1 := Lib.hid hb1
      clear hb1
      dsimp only
      go_wp2
      go_ret2
      exact ⟨sr_nil _, HB1.out⟩
    · obtain ⟨k, rfl⟩ : ∃ k : Nat, steps = (k : Int) := ⟨steps.toNat, by omega⟩
      rw [back_of hr (by omega), show ((k : Int)).toNat = k by omega]
      obtain ⟨r, hrr⟩ : ∃ r, backN s.data.toList k = r := ⟨_, rfl⟩
      have HRR := Lib.hid hrr
      have HRS := Lib.hid hr
      rw [hrr]
      clear hr hrr
      go_enter Tryz.func78, Tryz.ntmps78
      go_wp2_with fail
      refine (Term.right_any s _ hz).mono ?_
      rw [HR.out]
      rintro e w1 ⟨rfl, hb1⟩
      have HB1 := Lib.hid hb1
      clear hb1
      dsimp only
      have HAT : Hid (At s w 0 (.string s) w1) := ⟨s, rfl, rfl, HRS.out, HB1.out⟩
      clear HB1
      go_wp2_with fail
      go_loopw [0, 1] (fun v i wr => ∃ j : Nat, j ≤ k ∧ i = .int .i64 ((k : Int) - j) ∧ Hid (At s w j v wr)) (fun _ i _ => (intOf i).toNat)
      case atStart => exact ⟨0, Nat.zero_le _, by simp, HAT⟩
      case round =>
        clear HAT
        obtain ⟨j, hj, rfl, HAT⟩ := hrel
        obtain ⟨T, rfl, hT, hrT, hb⟩ := HAT.out
        have hTz : T.size ≤ 4000 := by rw [Lib.size_eq, hT]; exact (right_len hrT).2
        have HB := Lib.hid hb
        have HT := Lib.hid hT
        have HRT := Lib.hid hrT
        clear HAT hT hrT hb
        by_cases hlt : (j : Int) < (k : Int)
        · rcases backN_step HRT.out with ⟨h1, h2⟩ | ⟨h1, h2⟩
          · have H1 := Lib.hid h1
            have H2 := Lib.hid h2
            clear h1 h2
            go_wp2_with fail
            refine (ofHash_any T _ (by omega)).mono ?_
            rw [HT.out, H2.out]
            rintro e w2 ⟨⟨T2, hT2, rfl⟩, hb2⟩
            have HAT : Hid (At s w (j + 1) (.string T2) w2) := ⟨T2, rfl, hT2, H1.out, Bel.call HB.out hb2⟩
            clear hT2 hb2
            dsimp only
            go_wp2
            go_roundw
            case rel => exact ⟨j + 1, by omega, by go_num, HAT⟩
            case measure => simp [intOf]; omega
          · have HNO : Hid (r = ([], 10)) := by rw [← HRR.out]; exact backN_short (i := j + 1) (by omega) h1
            have H2 := Lib.hid h2
            clear h1 h2
            go_wp2_with fail
            refine (ofHash_any T _ (by omega)).mono ?_
            rw [HT.out, H2.out]
            rintro e w2 ⟨⟨T2, hT2, rfl⟩, hb2⟩
            have HB2 := Lib.hid (Bel.call HB.out hb2)
            clear hT2 hb2
            dsimp only
            go_wp2
            go_ret2
            exact ⟨by rw [HNO.out]; exact sr_nil _, HB2.out⟩
        · obtain rfl : j = k := by omega
          have HNO : Hid (r = (hs j s.data.toList, 0)) := by rw [← HRR.out]; exact backN_yes HRT.out
          go_wp2
          go_ret2
          exact ⟨by rw [HNO.out]; exact ⟨T, HT.out, rfl⟩, HB.out⟩
set_option maxHeartbeats 4000000 in
set_option maxRecDepth 1000000 in
theorem rstate_any (s : ByteArray) (ep : Int) (w : World) (hz : s.size ≤ 140737488355328) (hep : -9223372036854775808 ≤ ep ∧ ep ≤ 9223372036854775807) :
    Calls Tryz.prog 38 #[.string s, .int .i64 ep] w fun e w' => Sr (state s.data.toList ep) e ∧ Below w.heap.size w w' := by
  obtain ⟨hep1, hep2⟩ := hep
  cases hr : right s.data.toList with
  | false =>
    have HR := Lib.hid hr
    rw [state_not (by rw [hr]; decide)]
    clear hr
    go_enter Tryz.func38, Tryz.ntmps38
    go_wp2_with fail
    refine (Term.right_any s _ hz).mono ?_
    rw [HR.out]
    rintro e w1 ⟨rfl, hb1⟩
    have HB1 := Lib.hid hb1
    clear hb1
    dsimp only
    go_wp2
    go_ret2
    exact ⟨sr_nil _, HB1.out⟩
  | true =>
    have HR := Lib.hid hr
    by_cases h0 : ep < 0
    · rw [state_out hr (by omega)]
      clear hr
      go_enter Tryz.func38, Tryz.ntmps38
      go_wp2_with fail
      refine (Term.right_any s _ hz).mono ?_
      rw [HR.out]
      rintro e w1 ⟨rfl, hb1⟩
      have HB1 := Lib.hid hb1
      clear hb1
      dsimp only
      go_wp2
      go_ret2
      exact ⟨sr_nil _, HB1.out⟩
    by_cases h7 : 7 < ep
    · rw [state_out hr (by omega)]
      clear hr
      go_enter Tryz.func38, Tryz.ntmps38
      go_wp2_with fail
      refine (Term.right_any s _ hz).mono ?_
      rw [HR.out]
      rintro e w1 ⟨rfl, hb1⟩
      have HB1 := Lib.hid hb1
      clear hb1
      dsimp only
      go_wp2
      go_ret2
      exact ⟨sr_nil _, HB1.out⟩
    · rw [state_of hr (by omega) (by omega)]
      have HBK := Lib.hid fun w => rback_any s (7 - ep) w hz (by omega)
      obtain ⟨x, f, hx⟩ : ∃ x f, back s.data.toList (7 - ep) = (x, f) := ⟨_, _, rfl⟩
      rw [hx] at HBK ⊢
      clear hr hx
      go_enter Tryz.func38, Tryz.ntmps38
      go_wp2_with fail
      refine (Term.right_any s _ hz).mono ?_
      rw [HR.out]
      rintro e w1 ⟨rfl, hb1⟩
      have HB1 := Lib.hid hb1
      clear hb1
      dsimp only
      go_wp2_with fail
      refine (HBK.out _).mono ?_
      rintro e w2 ⟨⟨T, hT, rfl⟩, hb2⟩
      have HB2 := Lib.hid (Bel.call HB1.out hb2)
      have HT := Lib.hid hT
      clear hT hb2
      dsimp only
      go_wp2
      go_ret2
      exact ⟨⟨T, HT.out, rfl⟩, HB2.out⟩
end Go.Proofs.YtbdealddjonobaaGreat.Reg
