/-
  PLAIN FACTS, OF NO PROGRAM: what can be told of terms that are held (layer 4), rising rows of bytes. By an AI agent; no person has read it.
-/
import Derived.Test.YtahlilhdiklemaaTPure
namespace Go.Proofs.Ytahlilhdiklemaa.Clo
open Wire Term

/-- The parts of a term. -/
def pts (t : List UInt8) : List (List UInt8) := (parts t).1
theorem pts_wrong {t : List UInt8} (h : right t = false) : pts t = [] := by unfold pts parts; rw [if_neg (by rw [h]; decide)]
theorem pts_eq {b : UInt8} {t : List UInt8} (h : right (b :: t) = true) : pts (b :: t) = cuts ((arity b).getD 0) t := by unfold pts parts; rw [if_pos h]; rfl
theorem pts_zero {t : List UInt8} (h : right t = true) (h0 : t.headD 0 = 97 ∨ t.headD 0 = 116) : pts t = [] := by
  obtain ⟨b, r, m, rfl, ha, _⟩ := right_parts h
  rw [pts_eq h]
  have : arity b = some 0 := by unfold arity; rw [if_pos (show b = 97 ∨ b = 116 from h0)]
  rw [this]; rfl
theorem pts_one {b : UInt8} {t : List UInt8} (h : right (b :: t) = true) (hb : b = 104 ∨ b = 117) : pts (b :: t) = [t] ∧ right t = true := by
  have ha : arity b = some 1 := by rcases hb with rfl | rfl <;> rfl
  have hb8 : b ≠ 98 := by rcases hb with rfl | rfl <;> decide
  obtain ⟨h1, h2⟩ := one_part h ha hb8
  rw [pts_eq h, ha]
  exact ⟨h2, h1⟩
theorem pts_two {b : UInt8} {t : List UInt8} (h : right (b :: t) = true) (hb : b = 112 ∨ b = 115 ∨ b = 98 ∨ b = 103) : ∃ x y, t = x ++ y ∧ pts (b :: t) = [x, y] ∧ right x = true ∧ right y = true ∧ (b = 98 → x.head? = some 117) := by
  have ha : arity b = some 2 := by rcases hb with rfl | rfl | rfl | rfl <;> rfl
  obtain ⟨x, y, h1, h2, h3, h4, h5⟩ := two_parts h ha
  refine ⟨x, y, h1, ?_, h3, h4, h5⟩
  rw [pts_eq h, ha]
  exact h2
theorem kinds {t : List UInt8} (h : right t = true) : ∃ b r, t = b :: r ∧ (b = 97 ∨ b = 116 ∨ (b = 104 ∨ b = 117) ∨ (b = 112 ∨ b = 115 ∨ b = 98 ∨ b = 103)) := by
  obtain ⟨b, r, m, rfl, ha, _⟩ := right_parts h
  refine ⟨b, r, rfl, ?_⟩
  unfold arity at ha
  split at ha
  · rename_i h; rcases h with h | h <;> simp [h]
  · split at ha
    · rename_i h; rcases h with h | h <;> simp [h]
    · split at ha
      · rename_i h; rcases h with h | h | h | h <;> simp [h]
      · cases ha
/-- Parts are right, and shorter. -/
theorem pts_right {t p : List UInt8} (hp : p ∈ pts t) : right p = true ∧ p.length < t.length := by
  cases h : right t with
  | false => rw [pts_wrong h] at hp; cases hp
  | true =>
    obtain ⟨b, r, rfl, hb | hb | hb | hb⟩ := kinds h
    · rw [pts_zero h (.inl hb)] at hp; cases hp
    · rw [pts_zero h (.inr hb)] at hp; cases hp
    · obtain ⟨h1, h2⟩ := pts_one h hb
      rw [h1] at hp
      obtain rfl : p = r := by simpa using hp
      exact ⟨h2, by simp⟩
    · obtain ⟨x, y, rfl, h1, h2, h3, _⟩ := pts_two h hb
      rw [h1] at hp
      have : p = x ∨ p = y := by simpa using hp
      rcases this with rfl | rfl
      · exact ⟨h2, by simp; omega⟩
      · exact ⟨h3, by simp; omega⟩

theorem pts_le (t : List UInt8) : (pts t).length ≤ 2 := by
  cases h : right t with
  | false => rw [pts_wrong h]; simp
  | true =>
    obtain ⟨b, r, rfl, hb | hb | hb | hb⟩ := kinds h
    · rw [pts_zero h (.inl hb)]; simp
    · rw [pts_zero h (.inr hb)]; simp
    · rw [(pts_one h hb).1]; simp
    · obtain ⟨x, y, rfl, h1, _⟩ := pts_two h hb
      rw [h1]; simp

/-! ### put together -/
def TogN (S : List UInt8 → Prop) : Nat → List UInt8 → Prop
  | 0, _ => False
  | n + 1, t => S t ∨ t.headD 0 = 116 ∨ (t.headD 0 ≠ 97 ∧ ∀ p ∈ pts t, TogN S n p)
/-- A term can be put together of what is in S. -/
def Tog (S : List UInt8 → Prop) (t : List UInt8) : Prop := TogN S (t.length + 1) t
theorem togN_fuel {S : List UInt8 → Prop} : ∀ (n m : Nat) (t : List UInt8), t.length < n → t.length < m → (TogN S n t → TogN S m t)
  | 0, _, _, h, _ => absurd h (Nat.not_lt_zero _)
  | _ + 1, 0, _, _, h => absurd h (Nat.not_lt_zero _)
  | n + 1, m + 1, t, h1, h2 => fun h => by
    rcases h with h | h | ⟨h, h3⟩
    · exact .inl h
    · exact .inr (.inl h)
    · refine .inr (.inr ⟨h, fun p hp => ?_⟩)
      have := (pts_right hp).2
      exact togN_fuel n m p (by omega) (by omega) (h3 p hp)
theorem tog_iff {S : List UInt8 → Prop} {t : List UInt8} : Tog S t ↔ S t ∨ t.headD 0 = 116 ∨ (t.headD 0 ≠ 97 ∧ ∀ p ∈ pts t, Tog S p) := by
  constructor
  · rintro (h | h | ⟨h, h3⟩)
    · exact .inl h
    · exact .inr (.inl h)
    · refine .inr (.inr ⟨h, fun p hp => ?_⟩)
      have := (pts_right hp).2
      exact togN_fuel _ _ p (by omega) (by omega) (h3 p hp)
  · rintro (h | h | ⟨h, h3⟩)
    · exact .inl h
    · exact .inr (.inl h)
    · refine .inr (.inr ⟨h, fun p hp => ?_⟩)
      have := (pts_right hp).2
      exact togN_fuel _ _ p (by omega) (by omega) (h3 p hp)
theorem tog_of {S : List UInt8 → Prop} {t : List UInt8} (h : S t) : Tog S t := tog_iff.2 (.inl h)
/-- Induction along what is put together. -/
theorem tog_ind {S P : List UInt8 → Prop} (h1 : ∀ t, S t → P t) (h2 : ∀ t, t.headD 0 = 116 → P t) (h3 : ∀ t, t.headD 0 ≠ 97 → (∀ p ∈ pts t, Tog S p ∧ P p) → P t) : ∀ (n : Nat) (t : List UInt8), t.length < n → Tog S t → P t
  | 0, _, h, _ => absurd h (Nat.not_lt_zero _)
  | n + 1, t, hn, h => by
    rcases tog_iff.1 h with h | h | ⟨h, h4⟩
    · exact h1 t h
    · exact h2 t h
    · refine h3 t h fun p hp => ⟨h4 p hp, ?_⟩
      have := (pts_right hp).2
      exact tog_ind h1 h2 h3 n p (by omega) (h4 p hp)
theorem tog_mono {S S' : List UInt8 → Prop} (hs : ∀ x, S x → S' x) {t : List UInt8} (h : Tog S t) : Tog S' t :=
  tog_ind (P := Tog S') (fun t h => tog_of (hs t h)) (fun _ h => tog_iff.2 (.inr (.inl h))) (fun _ h h2 => tog_iff.2 (.inr (.inr ⟨h, fun p hp => (h2 p hp).2⟩))) _ t (Nat.lt_succ_self _) h
theorem tog_idem {S : List UInt8 → Prop} {t : List UInt8} (h : Tog (Tog S) t) : Tog S t :=
  tog_ind (P := Tog S) (fun _ h => h) (fun _ h => tog_iff.2 (.inr (.inl h))) (fun _ h h2 => tog_iff.2 (.inr (.inr ⟨h, fun p hp => (h2 p hp).2⟩))) _ t (Nat.lt_succ_self _) h

/-! ### what is had -/
/-- What a term that is had gives, where S is had. -/
def Gives (S : List UInt8 → Prop) (t x : List UInt8) : Prop :=
  (t.headD 0 = 112 ∧ x ∈ pts t) ∨ (t.headD 0 = 103 ∧ x ∈ (pts t).drop 1) ∨ (t.headD 0 = 115 ∧ Tog S ((pts t).headD []) ∧ x ∈ (pts t).drop 1) ∨ (t.headD 0 = 98 ∧ Tog S ((pts t).headD []).tail ∧ x ∈ (pts t).drop 1)
theorem gives_pts {S : List UInt8 → Prop} {t x : List UInt8} (h : Gives S t x) : x ∈ pts t := by
  rcases h with ⟨_, h⟩ | ⟨_, h⟩ | ⟨_, _, h⟩ | ⟨_, _, h⟩
  · exact h
  all_goals exact List.mem_of_mem_drop h
theorem gives_mono {S S' : List UInt8 → Prop} (hs : ∀ x, S x → S' x) {t x : List UInt8} (h : Gives S t x) : Gives S' t x := by
  rcases h with h | h | ⟨h, h2, h3⟩ | ⟨h, h2, h3⟩
  · exact .inl h
  · exact .inr (.inl h)
  · exact .inr (.inr (.inl ⟨h, tog_mono hs h2, h3⟩))
  · exact .inr (.inr (.inr ⟨h, tog_mono hs h2, h3⟩))
def Closed (S : List UInt8 → Prop) : Prop := ∀ t x, S t → Gives S t x → S x
/-- All that is had of what is held. -/
def Had (held : List (List UInt8)) (x : List UInt8) : Prop := ∀ S : List UInt8 → Prop, (∀ h ∈ held, S h) → Closed S → S x
theorem had_held {held : List (List UInt8)} {x : List UInt8} (h : x ∈ held) : Had held x := fun _ h1 _ => h1 x h
theorem had_closed (held : List (List UInt8)) : Closed (Had held) := fun t x ht hg S h1 h2 => h2 t x (ht S h1 h2) (gives_mono (fun _ hy => hy S h1 h2) hg)
theorem had_mono {a b : List (List UInt8)} (h : ∀ x ∈ a, x ∈ b) {x : List UInt8} (hx : Had a x) : Had b x := fun S h1 h2 => hx S (fun y hy => h1 y (h y hy)) h2
theorem had_idem {a b : List (List UInt8)} (h : ∀ x, x ∈ b ↔ Had a x) {x : List UInt8} : Had b x ↔ Had a x :=
  ⟨fun hx => hx (Had a) (fun y hy => (h y).1 hy) (had_closed a), fun hx => had_held ((h x).2 hx)⟩
theorem had_right {held : List (List UInt8)} (h : ∀ x ∈ held, right x = true) {x : List UInt8} (hx : Had held x) : right x = true :=
  hx (fun x => right x = true) h (fun _ _ _ hg => (pts_right (gives_pts hg)).1)
/-- Whether t can be put together of what is had. -/
def Der (held : List (List UInt8)) (t : List UInt8) : Prop := Tog (Had held) t
theorem der_mono {a b : List (List UInt8)} (h : ∀ x ∈ a, x ∈ b) {x : List UInt8} (hx : Der a x) : Der b x := tog_mono (fun _ h1 => had_mono h h1) hx
theorem had_same {a b : List (List UInt8)} (h : ∀ x, x ∈ a ↔ x ∈ b) : Had a = Had b := funext fun _ => propext ⟨had_mono (fun _ hy => (h _).1 hy), had_mono (fun _ hy => (h _).2 hy)⟩
theorem der_same {a b : List (List UInt8)} (h : ∀ x, x ∈ a ↔ x ∈ b) (t : List UInt8) : Der a t ↔ Der b t := by unfold Der; rw [had_same h]
/-- What can be put together is closed. -/
theorem der_closed (held : List (List UInt8)) : Closed (Der held) := by
  intro t x ht hg
  rcases tog_iff.1 ht with h | h | ⟨h, h3⟩
  · refine tog_of (had_closed held t x h ?_)
    rcases hg with h | h | ⟨h, h2, h3⟩ | ⟨h, h2, h3⟩
    · exact .inl h
    · exact .inr (.inl h)
    · exact .inr (.inr (.inl ⟨h, tog_idem h2, h3⟩))
    · exact .inr (.inr (.inr ⟨h, tog_idem h2, h3⟩))
  · rcases hg with ⟨h2, _⟩ | ⟨h2, _⟩ | ⟨h2, _⟩ | ⟨h2, _⟩ <;> (rw [h2] at h; exact absurd h (by decide))
  · exact h3 x (gives_pts hg)
/-- What can be put together, and is held, too, makes nothing more. -/
theorem der_more {held : List (List UInt8)} {x y : List UInt8} (hx : Der held x) : Der (held ++ [x]) y ↔ Der held y := by
  refine ⟨fun h => ?_, der_mono (fun z hz => List.mem_append_left _ hz)⟩
  refine tog_idem (tog_mono (fun z hz => ?_) h)
  refine hz (Der held) (fun u hu => ?_) (der_closed held)
  rcases List.mem_append.1 hu with h | h
  · exact tog_of (had_held h)
  · obtain rfl : u = x := by simpa using h
    exact hx

/-! ### what stands in a term -/
def Sub (y z : List UInt8) : Prop := ∀ S : List UInt8 → Prop, S z → (∀ t p, S t → p ∈ pts t → S p) → S y
theorem sub_refl (z : List UInt8) : Sub z z := fun _ h _ => h
theorem sub_step {y z p : List UInt8} (h : Sub y z) (hp : p ∈ pts y) : Sub p z := fun S h1 h2 => h2 y p (h S h1 h2) hp
theorem sub_trans {x y z : List UInt8} (h : Sub x y) (h2 : Sub y z) : Sub x z := h (fun x => Sub x z) h2 (fun _ _ h hp => sub_step h hp)
theorem sub_part {y z : List UInt8} (h : y ∈ pts z) : Sub y z := sub_step (sub_refl z) h
theorem sub_cases {y z : List UInt8} (h : Sub y z) : y = z ∨ ∃ p ∈ pts z, Sub y p := by
  refine h (fun y => y = z ∨ ∃ p ∈ pts z, Sub y p) (.inl rfl) ?_
  rintro t p (rfl | ⟨q, hq, hs⟩) hp
  · exact .inr ⟨p, hp, sub_refl p⟩
  · exact .inr ⟨q, hq, sub_step hs hp⟩
theorem had_sub {held : List (List UInt8)} {x : List UInt8} (hx : Had held x) : ∃ h ∈ held, Sub x h := by
  refine hx (fun x => ∃ h ∈ held, Sub x h) (fun h hh => ⟨h, hh, sub_refl h⟩) ?_
  rintro t x ⟨h, hh, hs⟩ hg
  exact ⟨h, hh, sub_step hs (gives_pts hg)⟩
/-- The term a stands nowhere in z. -/
def Clean (a z : List UInt8) : Prop := ¬ Sub a z
theorem clean_part {a z p : List UInt8} (h : Clean a z) (hp : p ∈ pts z) : Clean a p := fun hs => h (sub_trans hs (sub_part hp))
theorem had_clean {held : List (List UInt8)} {a x : List UInt8} (h : ∀ z ∈ held, Clean a z) (hx : Had held x) : Clean a x := fun hs => by
  obtain ⟨z, hz, hxz⟩ := had_sub hx
  exact h z hz (sub_trans hs hxz)
/-- An atom that stands nowhere in what is held can't be put together. -/
theorem der_clean {held : List (List UInt8)} {a : List UInt8} (h : ∀ z ∈ held, Clean a z) (h97 : a.headD 0 = 97) : ¬ Der held a := fun hd => by
  rcases tog_iff.1 hd with h1 | h1 | ⟨h1, _⟩
  · exact had_clean h h1 (sub_refl a)
  · rw [h97] at h1; exact absurd h1 (by decide)
  · exact h1 h97
/-- Of c, in which a stands, nothing is put together in which a doesn't stand. -/
theorem tog_clean {S : List UInt8 → Prop} {a c : List UInt8} (hc : Sub a c) : ∀ (n : Nat) (t : List UInt8), t.length < n → Clean a t → Tog (fun x => S x ∨ x = c) t → Tog S t
  | 0, _, h, _, _ => absurd h (Nat.not_lt_zero _)
  | n + 1, t, hn, hcl, h => by
    rcases tog_iff.1 h with (h | rfl) | h | ⟨h, h3⟩
    · exact tog_of h
    · exact absurd hc hcl
    · exact tog_iff.2 (.inr (.inl h))
    · refine tog_iff.2 (.inr (.inr ⟨h, fun p hp => ?_⟩))
      have := (pts_right hp).2
      exact tog_clean hc n p (by omega) (clean_part hcl hp) (h3 p hp)
/-- What is sealed or boxed, c, with the atom a in it alone, is told with the key, and not without. -/
theorem der_key {held : List (List UInt8)} {a c key : List UInt8} (h : ∀ z ∈ held, Clean a z) (hk : Clean a key) (h97 : a.headD 0 = 97)
    (hc : (c.headD 0 = 115 ∧ pts c = [key, a]) ∨ (c.headD 0 = 98 ∧ ∃ u, u.tail = key ∧ pts c = [u, a])) : Der (held ++ [c]) a ↔ Der held key := by
  have hac : a ∈ pts c := by rcases hc with ⟨_, h⟩ | ⟨_, u, _, h⟩ <;> simp [h]
  have hsc : Sub a c := sub_part hac
  constructor
  · intro hd
    refine Classical.byContradiction fun hn => ?_
    have hcl : Closed (fun x => Had held x ∨ x = c) := by
      rintro t x (ht | rfl) hg
      · refine .inl (had_closed held t x ht ?_)
        have hct := had_clean h ht
        rcases hg with h | h | ⟨h, h2, h3⟩ | ⟨h, h2, h3⟩
        · exact .inl h
        · exact .inr (.inl h)
        · refine .inr (.inr (.inl ⟨h, ?_, h3⟩))
          cases hp : pts t with
          | nil => rw [hp] at h3; simp at h3
          | cons p r =>
            rw [hp] at h2
            exact tog_clean hsc _ _ (Nat.lt_succ_self _) (clean_part hct (by rw [hp]; simp)) h2
        · refine .inr (.inr (.inr ⟨h, ?_, h3⟩))
          cases hp : pts t with
          | nil => rw [hp] at h3; simp at h3
          | cons p r =>
            rw [hp] at h2
            refine tog_clean hsc _ _ (Nat.lt_succ_self _) ?_ h2
            -- the secret of a public term is its part
            cases hr : right t with
            | false => rw [pts_wrong hr] at hp; cases hp
            | true =>
              obtain ⟨b, r', rfl, hb⟩ := kinds hr
              obtain rfl : b = 98 := h
              obtain ⟨x', y', _, he, hx', _, hu⟩ := pts_two hr (by simp)
              rw [he] at hp
              obtain rfl : x' = p := by injection hp
              have hu := hu rfl
              cases hxc : x' with
              | nil => rw [hxc] at hu; cases hu
              | cons b2 r2 =>
                rw [hxc] at hu
                obtain rfl : b2 = 117 := by simpa using hu
                have h4 := pts_one (by rw [← hxc]; exact hx') (.inr rfl)
                refine clean_part (z := x') (clean_part hct (by rw [he]; simp)) ?_
                rw [hxc, h4.1]; simp
      · rcases hg with ⟨h1, _⟩ | ⟨h1, _⟩ | ⟨h1, h2, h3⟩ | ⟨h1, h2, h3⟩
        · rcases hc with ⟨h, _⟩ | ⟨h, _⟩ <;> (rw [h1] at h; exact absurd h (by decide))
        · rcases hc with ⟨h, _⟩ | ⟨h, _⟩ <;> (rw [h1] at h; exact absurd h (by decide))
        · rcases hc with ⟨_, he⟩ | ⟨h, _⟩
          · rw [he] at h2
            exact absurd (tog_clean hsc _ _ (Nat.lt_succ_self _) hk h2) hn
          · rw [h1] at h; exact absurd h (by decide)
        · rcases hc with ⟨h, _⟩ | ⟨_, u, hu, he⟩
          · rw [h1] at h; exact absurd h (by decide)
          · rw [he] at h2
            have h2' : Tog (fun x => Had held x ∨ x = t) u.tail := h2
            rw [hu] at h2'
            exact absurd (tog_clean hsc _ _ (Nat.lt_succ_self _) hk h2') hn
    have hsub : ∀ x, Had (held ++ [c]) x → Had held x ∨ x = c := fun x hx => by
      refine hx _ (fun y hy => ?_) hcl
      rcases List.mem_append.1 hy with h | h
      · exact .inl (had_held h)
      · exact .inr (by simpa using h)
    rcases tog_iff.1 (tog_mono hsub hd) with (h1 | h1) | h1 | ⟨h1, _⟩
    · exact had_clean h h1 (sub_refl a)
    · rw [h1] at h97
      rcases hc with ⟨h, _⟩ | ⟨h, _⟩ <;> (rw [h97] at h; exact absurd h (by decide))
    · rw [h97] at h1; exact absurd h1 (by decide)
    · exact h1 h97
  · intro hd
    have hd' : Der (held ++ [c]) key := der_mono (fun z hz => List.mem_append_left _ hz) hd
    refine tog_of (had_closed _ c a (had_held (by simp)) ?_)
    rcases hc with ⟨h, he⟩ | ⟨h, u, hu, he⟩
    · exact .inr (.inr (.inl ⟨h, by rw [he]; exact hd', by rw [he]; simp⟩))
    · exact .inr (.inr (.inr ⟨h, by rw [he]; show Tog _ u.tail; rw [hu]; exact hd', by rw [he]; simp⟩))
/-- With the key beside, a is told. -/
theorem der_with {held : List (List UInt8)} {a c key : List UInt8}
    (hc : (c.headD 0 = 115 ∧ pts c = [key, a]) ∨ (c.headD 0 = 98 ∧ ∃ u, u.tail = key ∧ pts c = [u, a])) : Der (held ++ [c, key]) a := by
  have hk : Tog (Had (held ++ [c, key])) key := tog_of (had_held (by simp))
  refine tog_of (had_closed _ c a (had_held (by simp)) ?_)
  rcases hc with ⟨h, he⟩ | ⟨h, u, hu, he⟩
  · exact .inr (.inr (.inl ⟨h, by rw [he]; exact hk, by rw [he]; simp⟩))
  · exact .inr (.inr (.inr ⟨h, by rw [he]; show Tog _ u.tail; rw [hu]; exact hk, by rw [he]; simp⟩))

/-! ### pairs, many atoms -/
theorem der_pair {held : List (List UInt8)} {p a b : List UInt8} (h : p.headD 0 = 112) (hp : pts p = [a, b]) : Der held p ↔ Der held a ∧ Der held b := by
  constructor
  · intro hd
    rcases tog_iff.1 hd with h1 | h1 | ⟨_, h2⟩
    · exact ⟨tog_of (had_closed held p a h1 (.inl ⟨h, by rw [hp]; simp⟩)), tog_of (had_closed held p b h1 (.inl ⟨h, by rw [hp]; simp⟩))⟩
    · rw [h] at h1; exact absurd h1 (by decide)
    · exact ⟨h2 a (by rw [hp]; simp), h2 b (by rw [hp]; simp)⟩
  · rintro ⟨h1, h2⟩
    refine tog_iff.2 (.inr (.inr ⟨by rw [h]; decide, fun q hq => ?_⟩))
    rw [hp] at hq
    have : q = a ∨ q = b := by simpa using hq
    rcases this with rfl | rfl
    · exact h1
    · exact h2
theorem der_parts {held : List (List UInt8)} {p : List UInt8} (h : p.headD 0 ≠ 97) (hp : ∀ q ∈ pts p, Der held q) : Der held p := tog_iff.2 (.inr (.inr ⟨h, hp⟩))
theorem der_held {held : List (List UInt8)} {p : List UInt8} (h : p ∈ held) : Der held p := tog_of (had_held h)
/-- Atoms give nothing. -/
theorem had_atoms {held : List (List UInt8)} (h : ∀ x ∈ held, x.headD 0 = 97) (x : List UInt8) : Had held x ↔ x ∈ held := by
  refine ⟨fun hx => hx (fun x => x ∈ held) (fun _ h => h) ?_, had_held⟩
  intro t x ht hg
  have h97 := h t ht
  rcases hg with ⟨h2, _⟩ | ⟨h2, _⟩ | ⟨h2, _⟩ | ⟨h2, _⟩ <;> (rw [h97] at h2; exact absurd h2 (by decide))
theorem der_atoms {held : List (List UInt8)} (h : ∀ x ∈ held, x.headD 0 = 97) {a : List UInt8} (ha : a.headD 0 = 97) : Der held a ↔ a ∈ held := by
  constructor
  · intro hd
    rcases tog_iff.1 hd with h1 | h1 | ⟨h1, _⟩
    · exact (had_atoms h a).1 h1
    · rw [ha] at h1; exact absurd h1 (by decide)
    · exact absurd ha h1
  · exact der_held

/-! ### rising rows of bytes -/
open Op (bytesLess)
theorem less_irrefl : ∀ a : List UInt8, bytesLess a a = false
  | [] => rfl
  | x :: a => by
    unfold bytesLess
    rw [less_irrefl a]
    simp
theorem less_trans : ∀ {a b c : List UInt8}, bytesLess a b = true → bytesLess b c = true → bytesLess a c = true
  | _, [], _, h, _ => by rw [show bytesLess _ [] = false by unfold bytesLess; rfl] at h; cases h
  | _, _ :: _, [], _, h => by rw [show bytesLess _ [] = false by unfold bytesLess; rfl] at h; cases h
  | [], _ :: _, _ :: _, _, _ => rfl
  | x :: a, y :: b, z :: c, h1, h2 => by
    unfold bytesLess at h1 h2 ⊢
    simp only [Bool.or_eq_true, decide_eq_true_eq, Bool.and_eq_true, beq_iff_eq] at h1 h2 ⊢
    rcases h1 with h1 | ⟨rfl, h1⟩
    · rcases h2 with h2 | ⟨rfl, h2⟩
      · exact .inl (UInt8.lt_trans h1 h2)
      · exact .inl h1
    · rcases h2 with h2 | ⟨rfl, h2⟩
      · exact .inl h2
      · exact .inr ⟨rfl, less_trans h1 h2⟩
theorem less_tri : ∀ a b : List UInt8, bytesLess a b = true ∨ a = b ∨ bytesLess b a = true
  | [], [] => .inr (.inl rfl)
  | [], _ :: _ => .inl rfl
  | _ :: _, [] => .inr (.inr rfl)
  | x :: a, y :: b => by
    unfold bytesLess
    simp only [Bool.or_eq_true, decide_eq_true_eq, Bool.and_eq_true, beq_iff_eq, List.cons.injEq]
    by_cases h : x = y
    · subst h
      rcases less_tri a b with h | h | h
      · exact .inl (.inr ⟨rfl, h⟩)
      · exact .inr (.inl ⟨rfl, h⟩)
      · exact .inr (.inr (.inr ⟨rfl, h⟩))
    · have h' : x.toNat ≠ y.toNat := fun e => h (UInt8.toNat_inj.1 e)
      rcases Nat.lt_or_gt_of_ne h' with h2 | h2
      · exact .inl (.inl (UInt8.lt_iff_toNat_lt.2 h2))
      · exact .inr (.inr (.inl (UInt8.lt_iff_toNat_lt.2 h2)))
theorem less_asymm {a b : List UInt8} (h : bytesLess a b = true) : bytesLess b a = false := by
  rw [← Bool.not_eq_true]; intro h2
  have := less_trans h h2
  rw [less_irrefl] at this; cases this
/-- Rising, each once. -/
def Rising (l : List (List UInt8)) : Prop := l.Pairwise (fun a b => bytesLess a b = true)
theorem rising_eq : ∀ {a b : List (List UInt8)}, Rising a → Rising b → (∀ x, x ∈ a ↔ x ∈ b) → a = b
  | [], [], _, _, _ => rfl
  | [], y :: b, _, _, h => by have := (h y).2 (by simp); cases this
  | x :: a, [], _, _, h => by have := (h x).1 (by simp); cases this
  | x :: a, y :: b, ha, hb, h => by
    obtain ⟨ha1, ha2⟩ := List.pairwise_cons.1 ha
    obtain ⟨hb1, hb2⟩ := List.pairwise_cons.1 hb
    have e : x = y := by
      have h1 : x ∈ y :: b := (h x).1 (by simp)
      have h2 : y ∈ x :: a := (h y).2 (by simp)
      rcases List.mem_cons.1 h1 with h1 | h1
      · exact h1
      · rcases List.mem_cons.1 h2 with h2 | h2
        · exact h2.symm
        · have := less_trans (ha1 y h2) (hb1 x h1)
          rw [less_irrefl] at this; cases this
    subst e
    have hn1 : x ∉ a := fun hx => by have := ha1 x hx; rw [less_irrefl] at this; cases this
    have hn2 : x ∉ b := fun hx => by have := hb1 x hx; rw [less_irrefl] at this; cases this
    rw [rising_eq ha2 hb2 fun z => ?_]
    constructor
    · intro hz
      rcases List.mem_cons.1 ((h z).1 (List.mem_cons_of_mem _ hz)) with h1 | h1
      · subst h1; exact absurd hz hn1
      · exact h1
    · intro hz
      rcases List.mem_cons.1 ((h z).2 (List.mem_cons_of_mem _ hz)) with h1 | h1
      · subst h1; exact absurd hz hn2
      · exact h1
theorem rising_nodup {l : List (List UInt8)} (h : Rising l) : l.Nodup := List.Pairwise.imp (fun {a b} hab e => by subst e; rw [less_irrefl] at hab; cases hab) h
end Go.Proofs.Ytahlilhdiklemaa.Clo
