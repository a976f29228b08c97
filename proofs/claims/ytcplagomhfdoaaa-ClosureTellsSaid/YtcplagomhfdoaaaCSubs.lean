/-
  PLAIN FACTS: the terms that stand in what is held are finitely many; when nothing more is given, all is had. By an AI agent; no person has read it.
-/
import Derived.Test.YtcplagomhfdoaaaClo
namespace Go.Proofs.Ytcplagomhfdoaaa.Clo
open Wire Term

/-- The terms that stand in a term. -/
def subsN : Nat → List UInt8 → List (List UInt8)
  | 0, _ => []
  | n + 1, t => t :: (pts t).flatMap (subsN n)
def subs (t : List UInt8) : List (List UInt8) := subsN (t.length + 1) t
theorem subsN_fuel : ∀ (n m : Nat) (t : List UInt8), t.length < n → t.length < m → subsN n t = subsN m t
  | 0, _, _, h, _ => absurd h (Nat.not_lt_zero _)
  | _ + 1, 0, _, _, h => absurd h (Nat.not_lt_zero _)
  | n + 1, m + 1, t, h1, h2 => by
    show t :: (pts t).flatMap (subsN n) = t :: (pts t).flatMap (subsN m)
    congr 1
    have : ∀ l : List (List UInt8), (∀ p ∈ l, p ∈ pts t) → l.flatMap (subsN n) = l.flatMap (subsN m) := fun l hl => by
      induction l with
      | nil => rfl
      | cons p r ih =>
        have hp := (pts_right (hl p (by simp))).2
        rw [List.flatMap_cons, List.flatMap_cons, ih (fun q hq => hl q (by simp [hq])), subsN_fuel n m p (by omega) (by omega)]
    exact this _ (fun _ h => h)
theorem subs_eq (t : List UInt8) : subs t = t :: (pts t).flatMap subs := by
  show t :: (pts t).flatMap (subsN t.length) = _
  congr 1
  have : ∀ l : List (List UInt8), (∀ p ∈ l, p ∈ pts t) → l.flatMap (subsN t.length) = l.flatMap subs := fun l hl => by
    induction l with
    | nil => rfl
    | cons p r ih =>
      have hp := (pts_right (hl p (by simp))).2
      rw [List.flatMap_cons, List.flatMap_cons, ih (fun q hq => hl q (by simp [hq]))]
      unfold subs
      rw [subsN_fuel t.length (p.length + 1) p (by omega) (by omega)]
  exact this _ (fun _ h => h)
theorem subs_self (t : List UInt8) : t ∈ subs t := by rw [subs_eq]; simp
theorem subs_step : ∀ (n : Nat) {t y p : List UInt8}, t.length < n → y ∈ subs t → p ∈ pts y → p ∈ subs t
  | 0, _, _, _, h, _, _ => absurd h (Nat.not_lt_zero _)
  | n + 1, t, y, p, hn, hy, hp => by
    rw [subs_eq] at hy
    rcases List.mem_cons.1 hy with rfl | hy
    · rw [subs_eq]
      exact List.mem_cons_of_mem _ (List.mem_flatMap.2 ⟨p, hp, subs_self p⟩)
    · obtain ⟨q, hq, hyq⟩ := List.mem_flatMap.1 hy
      have hl := (pts_right hq).2
      rw [subs_eq]
      exact List.mem_cons_of_mem _ (List.mem_flatMap.2 ⟨q, hq, subs_step n (by omega) hyq hp⟩)
theorem sub_subs {x t : List UInt8} (h : Sub x t) : x ∈ subs t := h (fun x => x ∈ subs t) (subs_self t) (fun _ _ hy hp => subs_step _ (Nat.lt_succ_self _) hy hp)
theorem pts_sum {t : List UInt8} (h : right t = true) : 1 + ((pts t).map List.length).sum ≤ t.length := by
  obtain ⟨b, r, rfl, hb | hb | hb | hb⟩ := kinds h
  · rw [pts_zero h (.inl hb)]; simp
  · rw [pts_zero h (.inr hb)]; simp
  · rw [(pts_one h hb).1]; simp; omega
  · obtain ⟨x, y, rfl, h1, _⟩ := pts_two h hb
    rw [h1]; simp; omega
theorem subs_len : ∀ (n : Nat) {t : List UInt8}, t.length < n → right t = true → (subs t).length ≤ t.length
  | 0, _, h, _ => absurd h (Nat.not_lt_zero _)
  | n + 1, t, hn, h => by
    have hs := pts_sum h
    have : ∀ l : List (List UInt8), (∀ p ∈ l, p ∈ pts t) → (l.flatMap subs).length ≤ (l.map List.length).sum := fun l hl => by
      induction l with
      | nil => simp
      | cons p r ih =>
        have hp := pts_right (hl p (by simp))
        have h1 := subs_len n (t := p) (by omega) hp.1
        have h2 := ih (fun q hq => hl q (by simp [hq]))
        rw [List.flatMap_cons, List.length_append, List.map_cons, List.sum_cons]
        omega
    have h2 := this _ (fun _ h => h)
    rw [subs_eq, List.length_cons]
    omega
/-- All that stands in what is held. -/
def stand (held : List (List UInt8)) : List (List UInt8) := held.flatMap subs
theorem had_stand {held : List (List UInt8)} {x : List UInt8} (h : Had held x) : x ∈ stand held := by
  obtain ⟨y, hy, hs⟩ := had_sub h
  exact List.mem_flatMap.2 ⟨y, hy, sub_subs hs⟩
theorem stand_len {held : List (List UInt8)} (h : ∀ x ∈ held, right x = true) : (stand held).length ≤ held.flatten.length := by
  unfold stand
  induction held with
  | nil => simp
  | cons x r ih =>
    have h1 := subs_len _ (Nat.lt_succ_self _) (h x (by simp))
    have h2 := ih (fun y hy => h y (by simp [hy]))
    rw [List.flatMap_cons, List.length_append, List.flatten_cons, List.length_append]
    omega
theorem nodup_len : ∀ {a b : List (List UInt8)}, a.Nodup → (∀ x ∈ a, x ∈ b) → a.length ≤ b.length
  | [], b, _, _ => Nat.zero_le _
  | x :: a, b, hn, h => by
    obtain ⟨h1, h2⟩ := List.nodup_cons.1 hn
    have hx : x ∈ b := h x (by simp)
    have h3 := nodup_len (b := b.erase x) h2 (fun y hy => (List.mem_erase_of_ne (fun e => h1 (by rw [← e]; exact hy))).2 (h y (List.mem_cons_of_mem _ hy)))
    rw [List.length_erase_of_mem hx] at h3
    have : 0 < b.length := List.length_pos_of_mem hx
    simp only [List.length_cons]; omega
/-- A row each once, of what is had alone: it is no longer than what is held has bytes. -/
theorem had_many {held l : List (List UInt8)} (hr : ∀ x ∈ held, right x = true) (hn : l.Nodup) (hl : ∀ x ∈ l, Had held x) : l.length ≤ held.flatten.length :=
  Nat.le_trans (nodup_len hn (fun x hx => had_stand (hl x hx))) (stand_len hr)
/-- Where all that is held stands, nothing but what is had, and nothing more is given, that is all. -/
theorem had_all {held l : List (List UInt8)} (h1 : ∀ x ∈ held, x ∈ l) (h2 : ∀ x ∈ l, Had held x) (h3 : ∀ t ∈ l, ∀ x, Gives (fun y => y ∈ l) t x → x ∈ l) (x : List UInt8) : x ∈ l ↔ Had held x :=
  ⟨h2 x, fun hx => hx (fun y => y ∈ l) h1 (fun t y ht hg => h3 t ht y hg)⟩
/-- What is given of what is had is had. -/
theorem had_gives {held l : List (List UInt8)} (h : ∀ x ∈ l, Had held x) {t x : List UInt8} (ht : t ∈ l) (hg : Gives (fun y => y ∈ l) t x) : Had held x :=
  had_closed held t x (h t ht) (gives_mono (fun y hy => h y hy) hg)
end Go.Proofs.Ytcplagomhfdoaaa.Clo
