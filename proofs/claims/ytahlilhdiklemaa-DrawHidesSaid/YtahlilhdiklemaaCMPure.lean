/-
  PLAIN FACTS, OF NO PROGRAM: a work list over what is known of terms: what is learnt of a term, what is told of it when it comes to be had or made, and that what is known in the end is what is had (Had) and can be put together (Der). By an AI agent; no person has read it.
-/
import Derived.Test.YtahlilhdiklemaaClo
namespace Go.Proofs.Ytahlilhdiklemaa.Clo
open Wire Term

abbrev Tm := List UInt8
/-- Of a term: had, made, the terms that it is a part of, the terms that it is the key to. -/
abbrev Fa := Bool × Bool × List Tm × List Tm
def fa0 : Fa := (false, false, [], [])
def upd (F : Tm → Fa) (t : Tm) (x : Fa) : Tm → Fa := fun y => if y = t then x else F y
theorem upd_same (F : Tm → Fa) (t : Tm) (x : Fa) : upd F t x t = x := by unfold upd; rw [if_pos rfl]
theorem upd_other (F : Tm → Fa) {t y : Tm} (x : Fa) (h : y ≠ t) : upd F t x y = F y := by unfold upd; rw [if_neg h]

/-- The key, or the secret, to a term. -/
def keyT (t : Tm) : Option Tm := if t.headD 0 = 115 then some ((pts t).headD []) else if t.headD 0 = 98 then some ((pts t).headD []).tail else none

theorem two_drop {x y : Tm} : [x, y].drop 1 = [y] := rfl
/-- The key of a right term, and where it stands. -/
theorem key_cases {t k : Tm} (h : right t = true) (hk : keyT t = some k) :
    (t.headD 0 = 115 ∧ ∃ y, pts t = [k, y]) ∨ (t.headD 0 = 98 ∧ ∃ u y, pts t = [u, y] ∧ pts u = [k] ∧ u ∈ pts t ∧ k ∈ pts u) := by
  obtain ⟨b, r, rfl, hb⟩ := kinds h
  unfold keyT at hk
  split at hk
  · rename_i h1
    obtain rfl : b = 115 := h1
    obtain ⟨x, y, _, h2, _⟩ := pts_two h (.inr (.inl rfl))
    rw [h2] at hk
    obtain rfl : x = k := by simpa using hk
    exact .inl ⟨rfl, y, h2⟩
  · split at hk
    · rename_i h1
      obtain rfl : b = 98 := h1
      obtain ⟨x, y, _, h2, hx, _, hu⟩ := pts_two h (.inr (.inr (.inl rfl)))
      rw [h2] at hk
      have hu := hu rfl
      cases hxc : x with
      | nil => rw [hxc] at hu; cases hu
      | cons b2 r2 =>
        rw [hxc] at hu hx hk
        obtain rfl : b2 = 117 := by simpa using hu
        obtain rfl : r2 = k := by simpa using hk
        have h4 := pts_one hx (.inr rfl)
        refine .inr ⟨rfl, 117 :: r2, y, by rw [h2, hxc], h4.1, by rw [h2, hxc]; simp, by rw [h4.1]; simp⟩
    · cases hk

/-! ### what is told of a term when it is worked off -/
def O2 (F : Tm → Fa) (N : List Tm) (t : Tm) : Prop := (F t).1 = true → t ∉ N → (t.headD 0 = 112 → ∀ p ∈ pts t, (F p).1 = true) ∧ (t.headD 0 = 103 → ∀ p ∈ (pts t).drop 1, (F p).1 = true)
def O3 (F : Tm → Fa) (N : List Tm) (t : Tm) : Prop := ∀ k, keyT t = some k → (F t).1 = true → t ∉ N → (F k).2.1 = true → k ∉ N → ∀ p ∈ (pts t).drop 1, (F p).1 = true
def O4 (F : Tm → Fa) (N : List Tm) (t : Tm) : Prop := pts t ≠ [] → (∀ p ∈ pts t, (F p).2.1 = true ∧ p ∉ N) → (F t).2.1 = true
/-- What is known is so. -/
def Snd (held : List Tm) (F : Tm → Fa) : Prop := (∀ x, (F x).1 = true → Had held x ∧ (F x).2.1 = true) ∧ ∀ x, (F x).2.1 = true → Der held x
/-- How many marks are not set yet. -/
def uns (F : Tm → Fa) : List Tm → Nat
  | [] => 0
  | t :: K => (if (F t).1 = true then 0 else 1) + (if (F t).2.1 = true then 0 else 1) + uns F K
theorem uns_le (F : Tm → Fa) : ∀ K : List Tm, uns F K ≤ 2 * K.length
  | [] => Nat.le_refl _
  | t :: K => by
    have := uns_le F K
    simp only [uns, List.length_cons]
    split <;> split <;> omega
theorem uns_mono {F F' : Tm → Fa} (h1 : ∀ t, (F t).1 = true → (F' t).1 = true) (h2 : ∀ t, (F t).2.1 = true → (F' t).2.1 = true) : ∀ K, uns F' K ≤ uns F K
  | [] => Nat.le_refl _
  | t :: K => by
    have := uns_mono h1 h2 K
    have a := h1 t
    have b := h2 t
    simp only [uns]
    cases e1 : (F t).1 <;> cases e2 : (F t).2.1 <;> simp_all <;> (repeat' split) <;> omega
theorem uns_less {F F' : Tm → Fa} (h1 : ∀ t, (F t).1 = true → (F' t).1 = true) (h2 : ∀ t, (F t).2.1 = true → (F' t).2.1 = true) {x : Tm}
    (hx : ((F x).1 = false ∧ (F' x).1 = true) ∨ ((F x).2.1 = false ∧ (F' x).2.1 = true)) : ∀ K, x ∈ K → uns F' K + 1 ≤ uns F K
  | [], h => by cases h
  | t :: K, h => by
    rcases List.mem_cons.1 h with rfl | h
    · have := uns_mono h1 h2 K
      have a := h1 x
      have b := h2 x
      simp only [uns]
      rcases hx with ⟨e1, e2⟩ | ⟨e1, e2⟩
      · rw [e1, e2]
        cases e3 : (F x).2.1
        · simp; split <;> omega
        · rw [b e3]; simp; omega
      · rw [e1, e2]
        cases e3 : (F x).1
        · simp; split <;> omega
        · rw [a e3]; simp; omega
    · have := uns_less h1 h2 hx K h
      have a := h1 t
      have b := h2 t
      simp only [uns]
      cases e1 : (F t).1 <;> cases e2 : (F t).2.1 <;> simp_all <;> (repeat' split) <;> omega
/-- A step of the work: marks are set, each new one is on the list. -/
structure Gr (held K : List Tm) (F : Tm → Fa) (N : List Tm) (F' : Tm → Fa) (N' : List Tm) : Prop where
  rest : ∀ t, (F' t).2.2 = (F t).2.2
  had : ∀ t, (F t).1 = true → (F' t).1 = true
  made : ∀ t, (F t).2.1 = true → (F' t).2.1 = true
  newHad : ∀ t, (F' t).1 = true → (F t).1 = true ∨ t ∈ N'
  newMade : ∀ t, (F' t).2.1 = true → (F t).2.1 = true ∨ t ∈ N'
  kept : ∀ x ∈ N, x ∈ N'
  known : ∀ x ∈ N', x ∈ N ∨ x ∈ K
  less : N'.length + uns F' K ≤ N.length + uns F K
  sound : Snd held F → Snd held F'
theorem Gr.refl (held K : List Tm) (F : Tm → Fa) (N : List Tm) : Gr held K F N F N :=
  ⟨fun _ => rfl, fun _ h => h, fun _ h => h, fun _ h => .inl h, fun _ h => .inl h, fun _ h => h, fun _ h => .inl h, Nat.le_refl _, fun h => h⟩
theorem Gr.trans {held K : List Tm} {F F1 F2 : Tm → Fa} {N N1 N2 : List Tm} (h : Gr held K F N F1 N1) (g : Gr held K F1 N1 F2 N2) : Gr held K F N F2 N2 where
  rest t := (g.rest t).trans (h.rest t)
  had t ht := g.had t (h.had t ht)
  made t ht := g.made t (h.made t ht)
  newHad t ht := (g.newHad t ht).elim (fun h1 => (h.newHad t h1).imp id (g.kept t)) .inr
  newMade t ht := (g.newMade t ht).elim (fun h1 => (h.newMade t h1).imp id (g.kept t)) .inr
  kept x hx := g.kept x (h.kept x hx)
  known x hx := (g.known x hx).elim (h.known x) .inr
  less := Nat.le_trans g.less h.less
  sound hs := g.sound (h.sound hs)
def hvF (F : Tm → Fa) (t : Tm) : Tm → Fa := if (F t).1 = true then F else upd F t (true, true, (F t).2.2)
def hvN (F : Tm → Fa) (N : List Tm) (t : Tm) : List Tm := if (F t).1 = true then N else N ++ [t]
def mkF (F : Tm → Fa) (t : Tm) : Tm → Fa := if (F t).2.1 = true then F else upd F t ((F t).1, true, (F t).2.2)
def mkN (F : Tm → Fa) (N : List Tm) (t : Tm) : List Tm := if (F t).2.1 = true then N else N ++ [t]
theorem gr_hv {held K : List Tm} {F : Tm → Fa} (N : List Tm) {t : Tm} (ht : t ∈ K) (hh : Had held t) : Gr held K F N (hvF F t) (hvN F N t) ∧ (hvF F t t).1 = true := by
  unfold hvF hvN
  split
  · rename_i h
    exact ⟨Gr.refl _ _ _ _, h⟩
  · rename_i h
    have h1 : ∀ x, (F x).1 = true → (upd F t (true, true, (F t).2.2) x).1 = true := fun x hx => by
      unfold upd; split
      · rfl
      · exact hx
    have h2 : ∀ x, (F x).2.1 = true → (upd F t (true, true, (F t).2.2) x).2.1 = true := fun x hx => by
      unfold upd; split
      · rfl
      · exact hx
    have e0 : (F t).1 = false := by cases e : (F t).1 <;> simp_all
    refine ⟨⟨fun x => ?_, h1, h2, fun x hx => ?_, fun x hx => ?_, fun x hx => List.mem_append_left _ hx, fun x hx => ?_, ?_, fun hs => ⟨fun x hx => ?_, fun x hx => ?_⟩⟩, by rw [upd_same]⟩
    · unfold upd; split
      · rename_i e; rw [e]
      · rfl
    · by_cases e : x = t
      · exact .inr (by rw [e]; simp)
      · rw [upd_other _ _ e] at hx; exact .inl hx
    · by_cases e : x = t
      · exact .inr (by rw [e]; simp)
      · rw [upd_other _ _ e] at hx; exact .inl hx
    · rcases List.mem_append.1 hx with h | h
      · exact .inl h
      · rw [List.mem_singleton.1 h]; exact .inr ht
    · have := uns_less h1 h2 (x := t) (.inl ⟨e0, by rw [upd_same]⟩) K ht
      rw [List.length_append, List.length_singleton]
      omega
    · by_cases e : x = t
      · rw [e, upd_same]; exact ⟨hh, rfl⟩
      · rw [upd_other _ _ e] at hx ⊢; exact hs.1 x hx
    · by_cases e : x = t
      · rw [e]; exact tog_of hh
      · rw [upd_other _ _ e] at hx; exact hs.2 x hx
theorem gr_mk {held K : List Tm} {F : Tm → Fa} (N : List Tm) {t : Tm} (ht : t ∈ K) (hh : Der held t) : Gr held K F N (mkF F t) (mkN F N t) ∧ (mkF F t t).2.1 = true := by
  unfold mkF mkN
  split
  · rename_i h
    exact ⟨Gr.refl _ _ _ _, h⟩
  · rename_i h
    have h1 : ∀ x, (F x).1 = true → (upd F t ((F t).1, true, (F t).2.2) x).1 = true := fun x hx => by
      unfold upd; split
      · rename_i e; rw [e] at hx; exact hx
      · exact hx
    have h2 : ∀ x, (F x).2.1 = true → (upd F t ((F t).1, true, (F t).2.2) x).2.1 = true := fun x hx => by
      unfold upd; split
      · rfl
      · exact hx
    have e0 : (F t).2.1 = false := by cases e : (F t).2.1 <;> simp_all
    refine ⟨⟨fun x => ?_, h1, h2, fun x hx => ?_, fun x hx => ?_, fun x hx => List.mem_append_left _ hx, fun x hx => ?_, ?_, fun hs => ⟨fun x hx => ?_, fun x hx => ?_⟩⟩, by rw [upd_same]⟩
    · unfold upd; split
      · rename_i e; rw [e]
      · rfl
    · by_cases e : x = t
      · rw [e, upd_same] at hx; rw [e]; exact .inl hx
      · rw [upd_other _ _ e] at hx; exact .inl hx
    · by_cases e : x = t
      · exact .inr (by rw [e]; simp)
      · rw [upd_other _ _ e] at hx; exact .inl hx
    · rcases List.mem_append.1 hx with h | h
      · exact .inl h
      · rw [List.mem_singleton.1 h]; exact .inr ht
    · have := uns_less h1 h2 (x := t) (.inr ⟨e0, by rw [upd_same]⟩) K ht
      rw [List.length_append, List.length_singleton]
      omega
    · by_cases e : x = t
      · rw [e, upd_same] at hx ⊢; exact ⟨(hs.1 t hx).1, rfl⟩
      · rw [upd_other _ _ e] at hx ⊢; exact hs.1 x hx
    · by_cases e : x = t
      · rw [e]; exact hh
      · rw [upd_other _ _ e] at hx; exact hs.2 x hx
section
variable {held K : List Tm} {F F' : Tm → Fa} {N N' : List Tm} {t : Tm}
theorem Gr.o2 (g : Gr held K F N F' N') (h : O2 F N t) : O2 F' N' t := fun h1 h2 => by
  have a := (g.newHad t h1).resolve_right h2
  obtain ⟨x, y⟩ := h a (fun e => h2 (g.kept t e))
  exact ⟨fun e p hp => g.had p (x e p hp), fun e p hp => g.had p (y e p hp)⟩
theorem Gr.o3 (g : Gr held K F N F' N') (h : O3 F N t) : O3 F' N' t := fun k hk h1 h2 h3 h4 p hp =>
  g.had p (h k hk ((g.newHad t h1).resolve_right h2) (fun e => h2 (g.kept t e)) ((g.newMade k h3).resolve_right h4) (fun e => h4 (g.kept k e)) p hp)
theorem Gr.o4 (g : Gr held K F N F' N') (h : O4 F N t) : O4 F' N' t := fun h1 h2 =>
  g.made t (h h1 fun p hp => ⟨(g.newMade p (h2 p hp).1).resolve_right (h2 p hp).2, fun e => (h2 p hp).2 (g.kept p e)⟩)
theorem pop_not {x t0 : Tm} (h : x ∉ N) (hne : x ≠ t0) : x ∉ N ++ [t0] := fun e => by
  rcases List.mem_append.1 e with e | e
  · exact h e
  · exact hne (List.mem_singleton.1 e)
theorem o2_pop {t0 : Tm} (h : O2 F (N ++ [t0]) t) (hne : t ≠ t0) : O2 F N t := fun h1 h2 => h h1 (pop_not h2 hne)
theorem o3_pop {t0 : Tm} (h : O3 F (N ++ [t0]) t) (hne : t ≠ t0) (hk : keyT t ≠ some t0) : O3 F N t := fun k ek h1 h2 h3 h4 =>
  h k ek h1 (pop_not h2 hne) h3 (pop_not h4 fun e => hk (by rw [ek, e]))
theorem o4_pop {t0 : Tm} (h : O4 F (N ++ [t0]) t) (hk : t0 ∉ pts t) : O4 F N t := fun h1 h2 =>
  h h1 fun p hp => ⟨(h2 p hp).1, pop_not (h2 p hp).2 fun e => hk (e ▸ hp)⟩
end

/-! ### what is known of terms, all learnt -/
structure Kf (K : List Tm) (F : Tm → Fa) (A : List Tm) : Prop where
  good : ∀ t ∈ K, right t = true
  parts : ∀ t ∈ K, t ∉ A → ∀ p ∈ pts t, p ∈ K ∧ t ∈ (F p).2.2.1
  keys : ∀ t ∈ K, t ∉ A → ∀ k, keyT t = some k → t ∈ (F k).2.2.2
  ins : ∀ p, ∀ t ∈ (F p).2.2.1, t ∈ K ∧ p ∈ pts t
  opens : ∀ p, ∀ t ∈ (F p).2.2.2, t ∈ K
  text : ∀ t ∈ K, t ∉ A → t.headD 0 = 116 → (F t).2.1 = true
  known : ∀ x, (F x).1 = true ∨ (F x).2.1 = true → x ∈ K
theorem Kf.key_in {K : List Tm} {F : Tm → Fa} (h : Kf K F []) {t k : Tm} (ht : t ∈ K) (hk : keyT t = some k) : k ∈ K := by
  rcases key_cases (h.good t ht) hk with ⟨_, y, e⟩ | ⟨_, u, y, _, _, hu, hk⟩
  · exact (h.parts t ht List.not_mem_nil k (by rw [e]; simp)).1
  · exact (h.parts u (h.parts t ht List.not_mem_nil u hu).1 List.not_mem_nil k hk).1
theorem Kf.gr {held K : List Tm} {F F' : Tm → Fa} {N N' : List Tm} (h : Kf K F []) (hN : ∀ x ∈ N, x ∈ K) (g : Gr held K F N F' N') : Kf K F' [] ∧ ∀ x ∈ N', x ∈ K := by
  have hN' : ∀ x ∈ N', x ∈ K := fun x hx => (g.known x hx).elim (hN x) id
  refine ⟨⟨h.good, fun t ht h0 p hp => ?_, fun t ht h0 k hk => ?_, fun p t ht => ?_, fun p t ht => ?_, fun t ht h0 h1 => g.made t (h.text t ht h0 h1), fun x hx => ?_⟩, hN'⟩
  · rw [g.rest p]; exact h.parts t ht h0 p hp
  · rw [g.rest k]; exact h.keys t ht h0 k hk
  · rw [g.rest p] at ht; exact h.ins p t ht
  · rw [g.rest p] at ht; exact h.opens p t ht
  · rcases hx with hx | hx
    · exact (g.newHad x hx).elim (fun e => h.known x (.inl e)) (hN' x)
    · exact (g.newMade x hx).elim (fun e => h.known x (.inr e)) (hN' x)
/-- The state of the work. -/
structure Wk (held K : List Tm) (F : Tm → Fa) (N : List Tm) : Prop where
  kf : Kf K F []
  list : ∀ x ∈ N, x ∈ K
  has : ∀ h ∈ held, (F h).1 = true
  sound : Snd held F
  o2 : ∀ t ∈ K, O2 F N t
  o3 : ∀ t ∈ K, O3 F N t
  o4 : ∀ t ∈ K, O4 F N t
theorem has_parts {t : Tm} (h : right t = true) (h1 : t.headD 0 ≠ 97) (h2 : t.headD 0 ≠ 116) : pts t ≠ [] := by
  obtain ⟨b, r, rfl, hb | hb | hb | hb⟩ := kinds h
  · exact absurd hb h1
  · exact absurd hb h2
  · rw [(pts_one h hb).1]; simp
  · obtain ⟨x, y, _, e, _⟩ := pts_two h hb
    rw [e]; simp
theorem wk_tog {held K : List Tm} {F : Tm → Fa} (h : Wk held K F []) : ∀ (n : Nat) (t : Tm), t.length < n → t ∈ K → Tog (fun x => (F x).1 = true) t → (F t).2.1 = true
  | 0, _, h, _, _ => absurd h (Nat.not_lt_zero _)
  | n + 1, t, hn, hK, ht => by
    rcases tog_iff.1 ht with h1 | h1 | ⟨h1, h2⟩
    · exact (h.sound.1 t h1).2
    · exact h.kf.text t hK List.not_mem_nil h1
    · by_cases h116 : t.headD 0 = 116
      · exact h.kf.text t hK List.not_mem_nil h116
      · refine h.o4 t hK (has_parts (h.kf.good t hK) h1 h116) fun p hp => ⟨?_, List.not_mem_nil⟩
        have := (pts_right hp).2
        exact wk_tog h n p (by omega) (h.kf.parts t hK List.not_mem_nil p hp).1 (h2 p hp)
theorem wk_closed {held K : List Tm} {F : Tm → Fa} (h : Wk held K F []) : Closed (fun x => (F x).1 = true) := by
  intro t x ht hg
  have hK := h.kf.known t (.inl ht)
  obtain ⟨a, b⟩ := h.o2 t hK ht List.not_mem_nil
  rcases hg with ⟨h1, h2⟩ | ⟨h1, h2⟩ | ⟨h1, h2, h3⟩ | ⟨h1, h2, h3⟩
  · exact a h1 x h2
  · exact b h1 x h2
  · have e : keyT t = some ((pts t).headD []) := by unfold keyT; rw [if_pos h1]
    exact h.o3 t hK _ e ht List.not_mem_nil (wk_tog h _ _ (Nat.lt_succ_self _) (h.kf.key_in hK e) h2) List.not_mem_nil x h3
  · have e : keyT t = some ((pts t).headD []).tail := by unfold keyT; rw [if_neg (by rw [h1]; decide), if_pos h1]
    exact h.o3 t hK _ e ht List.not_mem_nil (wk_tog h _ _ (Nat.lt_succ_self _) (h.kf.key_in hK e) h2) List.not_mem_nil x h3
/-- In the end what is marked is what is had, and what can be put together. -/
theorem wk_had {held K : List Tm} {F : Tm → Fa} (h : Wk held K F []) (x : Tm) : (F x).1 = true ↔ Had held x :=
  ⟨fun hx => (h.sound.1 x hx).1, fun hx => hx _ h.has (wk_closed h)⟩
theorem wk_der {held K : List Tm} {F : Tm → Fa} (h : Wk held K F []) {x : Tm} (hx : x ∈ K) : (F x).2.1 = true ↔ Der held x :=
  ⟨h.sound.2 x, fun hd => wk_tog h _ _ (Nat.lt_succ_self _) hx (tog_mono (fun y hy => (wk_had h y).2 hy) hd)⟩

/-! ### taking apart, putting together -/
theorem o_idle {F : Tm → Fa} {t : Tm} (N : List Tm) (h : (F t).1 = false) : O2 F N t ∧ O3 F N t :=
  ⟨fun h1 => by (rw [h] at h1; cases h1), fun _ _ h1 => by (rw [h] at h1; cases h1)⟩
theorem key_none {t : Tm} (h1 : t.headD 0 ≠ 115) (h2 : t.headD 0 ≠ 98) : keyT t = none := by unfold keyT; rw [if_neg h1, if_neg h2]
theorem o3_none {F : Tm → Fa} {t : Tm} (N : List Tm) (h : keyT t = none) : O3 F N t := fun k hk => by (rw [h] at hk; cases hk)
theorem o2_other {F : Tm → Fa} {t : Tm} (N : List Tm) (h1 : t.headD 0 ≠ 112) (h2 : t.headD 0 ≠ 103) : O2 F N t := fun _ _ => ⟨fun h => absurd h h1, fun h => absurd h h2⟩
theorem had_pair {held : List Tm} {t x : Tm} (h : Had held t) (h1 : t.headD 0 = 112) (hx : x ∈ pts t) : Had held x := had_closed held t x h (.inl ⟨h1, hx⟩)
theorem had_signed {held : List Tm} {t x : Tm} (h : Had held t) (h1 : t.headD 0 = 103) (hx : x ∈ (pts t).drop 1) : Had held x := had_closed held t x h (.inr (.inl ⟨h1, hx⟩))
theorem had_opened {held : List Tm} {t x k : Tm} (h : Had held t) (hk : keyT t = some k) (hd : Der held k) (hx : x ∈ (pts t).drop 1) : Had held x := by
  refine had_closed held t x h ?_
  unfold keyT at hk
  split at hk
  · rename_i h1
    refine .inr (.inr (.inl ⟨h1, ?_, hx⟩))
    rw [Option.some.inj hk]; exact hd
  · split at hk
    · rename_i h1
      refine .inr (.inr (.inr ⟨h1, ?_, hx⟩))
      rw [Option.some.inj hk]; exact hd
    · cases hk
section
variable {held K : List Tm} {F : Tm → Fa} {N : List Tm} {t : Tm}
/-- A step of the work, and what was asked of it. -/
def Ta1 (held K : List Tm) (F : Tm → Fa) (N : List Tm) (t : Tm) (F' : Tm → Fa) (N' : List Tm) : Prop := Gr held K F N F' N' ∧ O2 F' N' t ∧ O3 F' N' t
theorem ta_idle (h : (F t).1 = false) : Ta1 held K F N t F N := ⟨Gr.refl _ _ _ _, o_idle N h⟩
theorem ta_leaf (h1 : t.headD 0 ≠ 112) (h2 : t.headD 0 ≠ 103) (h3 : t.headD 0 ≠ 115) (h4 : t.headD 0 ≠ 98) : Ta1 held K F N t F N := ⟨Gr.refl _ _ _ _, o2_other N h1 h2, o3_none N (key_none h3 h4)⟩
theorem ta_pair {x y : Tm} (h1 : t.headD 0 = 112) (hp : pts t = [x, y]) (hx : x ∈ K) (hy : y ∈ K) (hh : Had held t) : Ta1 held K F N t (hvF (hvF F x) y) (hvN (hvF F x) (hvN F N x) y) := by
  obtain ⟨g1, a1⟩ := gr_hv (F := F) N hx (had_pair hh h1 (by rw [hp]; simp))
  obtain ⟨g2, a2⟩ := gr_hv (F := hvF F x) (hvN F N x) hy (had_pair hh h1 (by rw [hp]; simp))
  refine ⟨g1.trans g2, fun _ _ => ⟨fun _ p hq => ?_, fun h => absurd (h1.symm.trans h) (by decide)⟩, o3_none _ (key_none (by rw [h1]; decide) (by rw [h1]; decide))⟩
  rw [hp] at hq
  have : p = x ∨ p = y := by simpa using hq
  rcases this with rfl | rfl
  · exact g2.had p a1
  · exact a2
theorem ta_signed {x y : Tm} (h1 : t.headD 0 = 103) (hp : pts t = [x, y]) (hy : y ∈ K) (hh : Had held t) : Ta1 held K F N t (hvF F y) (hvN F N y) := by
  obtain ⟨g1, a1⟩ := gr_hv (F := F) N hy (had_signed hh h1 (by rw [hp]; simp))
  refine ⟨g1, fun _ _ => ⟨fun h => absurd (h1.symm.trans h) (by decide), fun _ p hq => ?_⟩, o3_none _ (key_none (by rw [h1]; decide) (by rw [h1]; decide))⟩
  rw [hp] at hq
  have : p = y := by simpa using hq
  rw [this]; exact a1
theorem key_kind {k : Tm} (hk : keyT t = some k) : t.headD 0 = 115 ∨ t.headD 0 = 98 := by
  unfold keyT at hk
  split at hk
  · rename_i h; exact .inl h
  · split at hk
    · rename_i h; exact .inr h
    · cases hk
theorem ta_shut {k : Tm} (hk : keyT t = some k) (hm : (F k).2.1 = false) : Ta1 held K F N t F N := by
  refine ⟨Gr.refl _ _ _ _, o2_other N ?_ ?_, fun k' hk' _ _ h => ?_⟩
  · rcases key_kind hk with h | h <;> (rw [h]; decide)
  · rcases key_kind hk with h | h <;> (rw [h]; decide)
  · rw [hk] at hk'
    rw [← Option.some.inj hk', hm] at h
    cases h
theorem ta_opened {k x y : Tm} (hk : keyT t = some k) (hp : pts t = [x, y]) (hd : Der held k) (hy : y ∈ K) (hh : Had held t) : Ta1 held K F N t (hvF F y) (hvN F N y) := by
  obtain ⟨g1, a1⟩ := gr_hv (F := F) N hy (had_opened hh hk hd (by rw [hp]; simp))
  refine ⟨g1, o2_other _ ?_ ?_, fun k' _ _ _ _ _ p hq => ?_⟩
  · rcases key_kind hk with h | h <;> (rw [h]; decide)
  · rcases key_kind hk with h | h <;> (rw [h]; decide)
  · rw [hp] at hq
    have : p = y := by simpa using hq
    rw [this]; exact a1
theorem pt_not {p : Tm} (hp : p ∈ pts t) (hm : (F p).2.1 = false) : O4 F N t := fun _ h => by
  have := (h p hp).1
  rw [hm] at this; cases this
theorem pt_made (hr : right t = true) (hn : pts t ≠ []) (ht : t ∈ K) (hs : Snd held F) (hm : ∀ p ∈ pts t, (F p).2.1 = true) : Gr held K F N (mkF F t) (mkN F N t) ∧ O4 (mkF F t) (mkN F N t) t := by
  have hd : Der held t := by
    refine tog_iff.2 (.inr (.inr ⟨fun h => hn (pts_zero hr (.inl h)), fun p hp => hs.2 p (hm p hp)⟩))
  obtain ⟨g, a⟩ := gr_mk (F := F) N ht hd
  exact ⟨g, fun _ _ => a⟩
end

/-- A round of the work: t is worked off. -/
theorem wk_round {held K : List Tm} {F F1 F3 : Tm → Fa} {N0 N1 N3 : List Tm} {t : Tm} (h : Wk held K F (N0 ++ [t])) (a : Ta1 held K F N0 t F1 N1) (g : Gr held K F1 N1 F3 N3) (h4 : ∀ x ∈ (F t).2.2.1, O4 F3 N3 x) (h3 : ∀ x ∈ (F t).2.2.2, O3 F3 N3 x) : Wk held K F3 N3 ∧ N3.length + uns F3 K < (N0 ++ [t]).length + uns F K := by
  have G := a.1.trans g
  have hN0 : ∀ x ∈ N0, x ∈ K := fun x hx => h.list x (List.mem_append_left _ hx)
  obtain ⟨k1, k2⟩ := h.kf.gr hN0 G
  refine ⟨⟨k1, k2, fun x hx => G.had x (h.has x hx), G.sound h.sound, fun x hx => ?_, fun x hx => ?_, fun x hx => ?_⟩, ?_⟩
  · by_cases e : x = t
    · rw [e]; exact g.o2 a.2.1
    · exact G.o2 (o2_pop (h.o2 x hx) e)
  · by_cases e : x = t
    · rw [e]; exact g.o3 a.2.2
    · by_cases hk : keyT x = some t
      · exact h3 x (h.kf.keys x hx List.not_mem_nil t hk)
      · exact G.o3 (o3_pop (h.o3 x hx) e hk)
  · by_cases hp : t ∈ pts x
    · exact h4 x (h.kf.parts x hx List.not_mem_nil t hp).2
    · exact G.o4 (o4_pop (h.o4 x hx) hp)
  · have := G.less
    rw [List.length_append, List.length_singleton]
    omega

/-- On the way through a round. -/
theorem wk_way {held K : List Tm} {F F2 : Tm → Fa} {N0 N2 : List Tm} {t : Tm} (h : Wk held K F (N0 ++ [t])) (g : Gr held K F N0 F2 N2) : Kf K F2 [] ∧ Snd held F2 ∧ N2.length + uns F2 K ≤ N0.length + uns F K :=
  ⟨(h.kf.gr (fun x hx => h.list x (List.mem_append_left _ hx)) g).1, g.sound h.sound, g.less⟩

/-! ### learning -/
/-- Learning under way: A is what is being learnt. -/
structure Ln (held K : List Tm) (F : Tm → Fa) (N : List Tm) (A : List Tm) : Prop where
  kf : Kf K F A
  once : K.Nodup
  list : ∀ x ∈ N, x ∈ K
  marked : ∀ x, (F x).1 = true ∨ (F x).2.1 = true → x ∈ N
  sound : Snd held F
  new : ∀ x, x ∉ K → F x = fa0
/-- How much there is. -/
def Bd (X : Nat) (K : List Tm) (F : Tm → Fa) (N : List Tm) : Prop := K.length ≤ X ∧ (∀ p, (F p).2.2.1.length ≤ X ∧ (F p).2.2.2.length ≤ X) ∧ N.length ≤ X
theorem Bd.mono {X Y : Nat} {K : List Tm} {F : Tm → Fa} {N : List Tm} (h : Bd X K F N) (hx : X ≤ Y) : Bd Y K F N :=
  ⟨Nat.le_trans h.1 hx, fun p => ⟨Nat.le_trans (h.2.1 p).1 hx, Nat.le_trans (h.2.1 p).2 hx⟩, Nat.le_trans h.2.2 hx⟩
/-- The work begins where all is learnt. -/
theorem wk_start {held K : List Tm} {F : Tm → Fa} {N : List Tm} (h : Ln held K F N []) (hh : ∀ x ∈ held, (F x).1 = true) : Wk held K F N where
  kf := h.kf
  list := h.list
  has := hh
  sound := h.sound
  o2 t _ h1 h2 := absurd (h.marked t (.inl h1)) h2
  o3 t _ k _ h1 h2 := absurd (h.marked t (.inl h1)) h2
  o4 t _ h1 h2 := by
    cases hp : pts t with
    | nil => exact absurd hp h1
    | cons p r =>
      have := h2 p (by rw [hp]; simp)
      exact absurd (h.marked p (.inr this.1)) this.2
/-- A new term. -/
theorem ln_add {held K : List Tm} {F : Tm → Fa} {N A : List Tm} {t : Tm} (h : Ln held K F N A) (ht : t ∉ K) (hr : right t = true) : Ln held (K ++ [t]) F N (t :: A) := by
  have inK : ∀ x ∈ K ++ [t], x ∉ t :: A → x ∈ K ∧ x ∉ A := fun x hx hn => by
    rcases List.mem_append.1 hx with hx | hx
    · exact ⟨hx, fun e => hn (List.mem_cons_of_mem _ e)⟩
    · rw [List.mem_singleton.1 hx] at hn; exact absurd (List.mem_cons_self ..) hn
  refine ⟨⟨fun x hx => ?_, fun x hx hn p hp => ?_, fun x hx hn k hk => ?_, fun p x hx => ⟨List.mem_append_left _ (h.kf.ins p x hx).1, (h.kf.ins p x hx).2⟩, fun p x hx => List.mem_append_left _ (h.kf.opens p x hx), fun x hx hn h1 => ?_, fun x hx => List.mem_append_left _ (h.kf.known x hx)⟩, ?_, fun x hx => List.mem_append_left _ (h.list x hx), h.marked, h.sound, fun x hx => h.new x fun e => hx (List.mem_append_left _ e)⟩
  · rcases List.mem_append.1 hx with hx | hx
    · exact h.kf.good x hx
    · rw [List.mem_singleton.1 hx]; exact hr
  · obtain ⟨a, b⟩ := inK x hx hn
    exact ⟨List.mem_append_left _ (h.kf.parts x a b p hp).1, (h.kf.parts x a b p hp).2⟩
  · obtain ⟨a, b⟩ := inK x hx hn
    exact h.kf.keys x a b k hk
  · obtain ⟨a, b⟩ := inK x hx hn
    exact h.kf.text x a b h1
  · refine List.nodup_append.2 ⟨h.once, by simp, fun a ha b hb => ?_⟩
    rw [List.mem_singleton.1 hb]
    exact fun e => ht (e ▸ ha)
def inF (F : Tm → Fa) (p t : Tm) : Tm → Fa := upd F p ((F p).1, (F p).2.1, (F p).2.2.1 ++ [t], (F p).2.2.2)
def opF (F : Tm → Fa) (p t : Tm) : Tm → Fa := upd F p ((F p).1, (F p).2.1, (F p).2.2.1, (F p).2.2.2 ++ [t])
theorem inF_flags (F : Tm → Fa) (p t x : Tm) : (inF F p t x).1 = (F x).1 ∧ (inF F p t x).2.1 = (F x).2.1 ∧ (inF F p t x).2.2.2 = (F x).2.2.2 ∧ (∀ y ∈ (F x).2.2.1, y ∈ (inF F p t x).2.2.1) ∧ ∀ y ∈ (inF F p t x).2.2.1, y ∈ (F x).2.2.1 ∨ y = t := by
  unfold inF upd
  split
  · rename_i e; subst e
    exact ⟨rfl, rfl, rfl, fun y hy => List.mem_append_left _ hy, fun y hy => by simpa using hy⟩
  · exact ⟨rfl, rfl, rfl, fun _ hy => hy, fun _ hy => .inl hy⟩
theorem opF_flags (F : Tm → Fa) (p t x : Tm) : (opF F p t x).1 = (F x).1 ∧ (opF F p t x).2.1 = (F x).2.1 ∧ (opF F p t x).2.2.1 = (F x).2.2.1 ∧ (∀ y ∈ (F x).2.2.2, y ∈ (opF F p t x).2.2.2) ∧ ∀ y ∈ (opF F p t x).2.2.2, y ∈ (F x).2.2.2 ∨ y = t := by
  unfold opF upd
  split
  · rename_i e; subst e
    exact ⟨rfl, rfl, rfl, fun y hy => List.mem_append_left _ hy, fun y hy => by simpa using hy⟩
  · exact ⟨rfl, rfl, rfl, fun _ hy => hy, fun _ hy => .inl hy⟩
theorem ln_in {held K : List Tm} {F : Tm → Fa} {N A : List Tm} {p t : Tm} (h : Ln held K F N A) (hp : p ∈ K) (ht : t ∈ K) (hpt : p ∈ pts t) : Ln held K (inF F p t) N A ∧ t ∈ (inF F p t p).2.2.1 := by
  refine ⟨⟨⟨h.kf.good, fun x hx hn q hq => ?_, fun x hx hn k hk => ?_, fun q x hx => ?_, fun q x hx => ?_, fun x hx hn h1 => ?_, fun x hx => ?_⟩, h.once, h.list, fun x hx => ?_, ⟨fun x hx => ?_, fun x hx => ?_⟩, fun x hx => ?_⟩, by rw [inF, upd_same]; simp⟩
  · exact ⟨(h.kf.parts x hx hn q hq).1, (inF_flags F p t q).2.2.2.1 x (h.kf.parts x hx hn q hq).2⟩
  · rw [(inF_flags F p t k).2.2.1]; exact h.kf.keys x hx hn k hk
  · by_cases e : q = p
    · subst e
      rcases (inF_flags F q t q).2.2.2.2 x hx with h1 | rfl
      · exact h.kf.ins q x h1
      · exact ⟨ht, hpt⟩
    · rw [inF, upd_other _ _ e] at hx
      exact h.kf.ins q x hx
  · rw [(inF_flags F p t q).2.2.1] at hx; exact h.kf.opens q x hx
  · rw [(inF_flags F p t x).2.1]; exact h.kf.text x hx hn h1
  · rw [(inF_flags F p t x).1, (inF_flags F p t x).2.1] at hx; exact h.kf.known x hx
  · rw [(inF_flags F p t x).1, (inF_flags F p t x).2.1] at hx; exact h.marked x hx
  · rw [(inF_flags F p t x).1] at hx; rw [(inF_flags F p t x).2.1]; exact h.sound.1 x hx
  · rw [(inF_flags F p t x).2.1] at hx; exact h.sound.2 x hx
  · rw [inF, upd_other _ _ (fun e => hx (by rw [e]; exact hp))]; exact h.new x hx
theorem ln_op {held K : List Tm} {F : Tm → Fa} {N A : List Tm} {p t : Tm} (h : Ln held K F N A) (hp : p ∈ K) (ht : t ∈ K) : Ln held K (opF F p t) N A ∧ t ∈ (opF F p t p).2.2.2 := by
  refine ⟨⟨⟨h.kf.good, fun x hx hn q hq => ?_, fun x hx hn k hk => ?_, fun q x hx => ?_, fun q x hx => ?_, fun x hx hn h1 => ?_, fun x hx => ?_⟩, h.once, h.list, fun x hx => ?_, ⟨fun x hx => ?_, fun x hx => ?_⟩, fun x hx => ?_⟩, by rw [opF, upd_same]; simp⟩
  · rw [(opF_flags F p t q).2.2.1]; exact h.kf.parts x hx hn q hq
  · exact (opF_flags F p t k).2.2.2.1 x (h.kf.keys x hx hn k hk)
  · rw [(opF_flags F p t q).2.2.1] at hx; exact h.kf.ins q x hx
  · rcases (opF_flags F p t q).2.2.2.2 x hx with h1 | rfl
    · exact h.kf.opens q x h1
    · exact ht
  · rw [(opF_flags F p t x).2.1]; exact h.kf.text x hx hn h1
  · rw [(opF_flags F p t x).1, (opF_flags F p t x).2.1] at hx; exact h.kf.known x hx
  · rw [(opF_flags F p t x).1, (opF_flags F p t x).2.1] at hx; exact h.marked x hx
  · rw [(opF_flags F p t x).1] at hx; rw [(opF_flags F p t x).2.1]; exact h.sound.1 x hx
  · rw [(opF_flags F p t x).2.1] at hx; exact h.sound.2 x hx
  · rw [opF, upd_other _ _ (fun e => hx (by rw [e]; exact hp))]; exact h.new x hx
/-- A step of the work while learning goes on. -/
theorem ln_gr {held K : List Tm} {F F' : Tm → Fa} {N N' A : List Tm} (h : Ln held K F N A) (g : Gr held K F N F' N') : Ln held K F' N' A := by
  have hN' : ∀ x ∈ N', x ∈ K := fun x hx => (g.known x hx).elim (h.list x) id
  have hm : ∀ x, (F' x).1 = true ∨ (F' x).2.1 = true → x ∈ N' := fun x hx => by
    rcases hx with hx | hx
    · exact (g.newHad x hx).elim (fun e => g.kept x (h.marked x (.inl e))) id
    · exact (g.newMade x hx).elim (fun e => g.kept x (h.marked x (.inr e))) id
  refine ⟨⟨h.kf.good, fun t ht h0 p hp => ?_, fun t ht h0 k hk => ?_, fun p t ht => ?_, fun p t ht => ?_, fun t ht h0 h1 => g.made t (h.kf.text t ht h0 h1), fun x hx => hN' x (hm x hx)⟩, h.once, hN', hm, g.sound h.sound, fun x hx => ?_⟩
  · rw [g.rest p]; exact h.kf.parts t ht h0 p hp
  · rw [g.rest k]; exact h.kf.keys t ht h0 k hk
  · rw [g.rest p] at ht; exact h.kf.ins p t ht
  · rw [g.rest p] at ht; exact h.kf.opens p t ht
  · have e := h.new x hx
    have e1 : (F' x).1 = false := by
      rw [← Bool.not_eq_true]; exact fun e1 => hx (hN' x (hm x (.inl e1)))
    have e2 : (F' x).2.1 = false := by
      rw [← Bool.not_eq_true]; exact fun e1 => hx (hN' x (hm x (.inr e1)))
    have e3 := g.rest x
    rw [e] at e3
    refine Prod.ext e1 (Prod.ext e2 e3)
/-- A term is learnt. -/
theorem ln_done {held K : List Tm} {F : Tm → Fa} {N A : List Tm} {t : Tm} (h : Ln held K F N (t :: A)) (hp : ∀ p ∈ pts t, p ∈ K ∧ t ∈ (F p).2.2.1) (hk : ∀ k, keyT t = some k → t ∈ (F k).2.2.2) (ht : t.headD 0 = 116 → (F t).2.1 = true) : Ln held K F N A := by
  have out : ∀ x, x ∉ A → x ≠ t → x ∉ t :: A := fun x h1 h2 h3 => (List.mem_cons.1 h3).elim h2 h1
  refine ⟨⟨h.kf.good, fun x hx hn p hq => ?_, fun x hx hn k hq => ?_, h.kf.ins, h.kf.opens, fun x hx hn h1 => ?_, h.kf.known⟩, h.once, h.list, h.marked, h.sound, h.new⟩
  · by_cases e : x = t
    · rw [e] at hq ⊢; exact hp p hq
    · exact h.kf.parts x hx (out x hn e) p hq
  · by_cases e : x = t
    · rw [e] at hq ⊢; exact hk k hq
    · exact h.kf.keys x hx (out x hn e) k hq
  · by_cases e : x = t
    · rw [e] at h1 ⊢; exact ht h1
    · exact h.kf.text x hx (out x hn e) h1
theorem ln_none (held : List Tm) : Ln held [] (fun _ => fa0) [] [] where
  kf := ⟨fun _ h => (List.not_mem_nil h).elim, fun _ h => (List.not_mem_nil h).elim, fun _ h => (List.not_mem_nil h).elim, fun _ _ h => (List.not_mem_nil h).elim, fun _ _ h => (List.not_mem_nil h).elim, fun _ h => (List.not_mem_nil h).elim, fun _ h => h.elim (fun h => nomatch h) (fun h => nomatch h)⟩
  once := List.nodup_nil
  list _ h := (List.not_mem_nil h).elim
  marked _ h := h.elim (fun h => nomatch h) (fun h => nomatch h)
  sound := ⟨fun _ h => (nomatch h), fun _ h => (nomatch h)⟩
  new _ _ := rfl
/-- The key of a term that is being learnt, whose parts are learnt. -/
theorem key_known {held K : List Tm} {F : Tm → Fa} {N A : List Tm} {t k : Tm} (h : Ln held K F N (t :: A)) (hr : right t = true) (hA : ∀ a ∈ A, t.length < a.length) (hp : ∀ p ∈ pts t, p ∈ K) (hk : keyT t = some k) : k ∈ K := by
  rcases key_cases hr hk with ⟨_, y, e⟩ | ⟨_, u, y, _, _, hu, hk⟩
  · exact hp k (by rw [e]; simp)
  · refine (h.kf.parts u (hp u hu) (fun e => ?_) k hk).1
    have := (pts_right hu).2
    rcases List.mem_cons.1 e with e | e
    · rw [e] at this; omega
    · have := hA u e; omega
/-! ### how much is learnt -/
def cost (l : List Tm) : Nat := (l.map fun p => 4 * p.length + 1).sum
theorem cost_app (l : List Tm) (p : Tm) : cost (l ++ [p]) = cost l + (4 * p.length + 1) := by simp [cost]
theorem cost_append (a b : List Tm) : cost (a ++ b) = cost a + cost b := by simp [cost]
theorem cost_take (l : List Tm) (k : Nat) : cost (l.take k) ≤ cost l := by
  have := cost_append (l.take k) (l.drop k)
  rw [List.take_append_drop] at this
  omega
theorem cost_le {t : Tm} (h : right t = true) : cost (pts t) + 2 ≤ 4 * t.length := by
  obtain ⟨b, r, rfl, hb | hb | hb | hb⟩ := kinds h
  · rw [pts_zero h (.inl hb)]; simp [cost]; omega
  · rw [pts_zero h (.inr hb)]; simp [cost]; omega
  · rw [(pts_one h hb).1]; simp [cost]; omega
  · obtain ⟨x, y, rfl, e, _⟩ := pts_two h hb
    rw [e]; simp [cost]; omega
theorem bd_add {B : Nat} {K : List Tm} {F : Tm → Fa} {N : List Tm} (h : Bd B K F N) (t : Tm) : Bd (B + 1) (K ++ [t]) F N :=
  ⟨by rw [List.length_append, List.length_singleton]; have := h.1; omega, fun p => ⟨Nat.le_succ_of_le (h.2.1 p).1, Nat.le_succ_of_le (h.2.1 p).2⟩, Nat.le_succ_of_le h.2.2⟩
theorem bd_in {B : Nat} {K : List Tm} {F : Tm → Fa} {N : List Tm} (h : Bd B K F N) (p t : Tm) : Bd (B + 1) K (inF F p t) N := by
  refine ⟨Nat.le_succ_of_le h.1, fun q => ?_, Nat.le_succ_of_le h.2.2⟩
  obtain ⟨a, b⟩ := h.2.1 q
  by_cases e : q = p
  · rw [e] at a b ⊢
    rw [inF, upd_same]
    exact ⟨by simp only [List.length_append, List.length_singleton]; omega, Nat.le_succ_of_le b⟩
  · rw [inF, upd_other _ _ e]
    exact ⟨Nat.le_succ_of_le a, Nat.le_succ_of_le b⟩
theorem bd_op {B : Nat} {K : List Tm} {F : Tm → Fa} {N : List Tm} (h : Bd B K F N) (p t : Tm) : Bd (B + 1) K (opF F p t) N := by
  refine ⟨Nat.le_succ_of_le h.1, fun q => ?_, Nat.le_succ_of_le h.2.2⟩
  obtain ⟨a, b⟩ := h.2.1 q
  by_cases e : q = p
  · rw [e] at a b ⊢
    rw [opF, upd_same]
    exact ⟨Nat.le_succ_of_le a, by simp only [List.length_append, List.length_singleton]; omega⟩
  · rw [opF, upd_other _ _ e]
    exact ⟨Nat.le_succ_of_le a, Nat.le_succ_of_le b⟩
theorem bd_gr {held : List Tm} {B : Nat} {K : List Tm} {F F' : Tm → Fa} {N N' : List Tm} (h : Bd B K F N) (g : Gr held K F N F' N') (hN : N'.length ≤ N.length + 1) : Bd (B + 1) K F' N' := by
  refine ⟨Nat.le_succ_of_le h.1, fun q => ?_, by have := h.2.2; omega⟩
  rw [g.rest q]
  exact ⟨Nat.le_succ_of_le (h.2.1 q).1, Nat.le_succ_of_le (h.2.1 q).2⟩
theorem mkN_len (F : Tm → Fa) (N : List Tm) (t : Tm) : (mkN F N t).length ≤ N.length + 1 := by
  unfold mkN; split
  · omega
  · rw [List.length_append, List.length_singleton]; omega
theorem hvN_len (F : Tm → Fa) (N : List Tm) (t : Tm) : (hvN F N t).length ≤ N.length + 1 := by
  unfold hvN; split
  · omega
  · rw [List.length_append, List.length_singleton]; omega
theorem mkF_had (F : Tm → Fa) (t x : Tm) : (mkF F t x).1 = (F x).1 := by
  unfold mkF; split
  · rfl
  · unfold upd; split
    · rename_i e; rw [e]
    · rfl
theorem mkF_ins (F : Tm → Fa) (t x : Tm) : (mkF F t x).2.2 = (F x).2.2 := by
  unfold mkF; split
  · rfl
  · unfold upd; split
    · rename_i e; rw [e]
    · rfl
end Go.Proofs.Ytahlilhdiklemaa.Clo
