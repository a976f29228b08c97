/-
  PLAIN FACTS, OF NO PROGRAM: a user (layer 14): what it holds of its files, and what each act makes of it. By an AI agent; no person has read it.
-/
import Derived.Test.YtbdealddjonobaaGreatH1
import Derived.Test.YtbdealddjonobaaGreatD1
namespace Go.Proofs.YtbdealddjonobaaGreat.Usr
open Wire Rig Draw

set_option linter.unusedVariables false
/-- What is held of a file. -/
structure Ow where
  r : Rt
  ver : Nat
  root : Tm
  sg : List Tm
  gone : Bool
def ow0 : Ow := ⟨zero, 0, [], [], false⟩
/-- A user: its name, seed, how much it drew, the files that it ever owned, what it holds of them. -/
structure Us where
  nm : Tm
  sd : Nat
  dr : Nat
  ns : List Tm
  of : Tm → Ow
def us0 (n : Tm) (sd : Nat) : Us := ⟨n, sd, 1, [], fun _ => ow0⟩
def Us.sec (u : Us) : Tm := (secret [117, 115, 101, 114] u.nm (draw u.sd 0)).1
def Us.live (u : Us) (f : Tm) : Bool := decide (f ∈ u.ns) && !(u.of f).gone
def Us.lives (u : Us) : List Tm := u.ns.filter u.live
def Us.path (u : Us) (f : Tm) : Tm := u.nm ++ 47 :: f
def Us.sc (u : Us) (use f : Tm) (k : Nat) : Tm := (secret use (u.path f) (draw u.sd k)).1
def uRoot : Tm := [114, 111, 111, 116]
def uSign : Tm := [115, 105, 103, 110]
def updO (of : Tm → Ow) (f : Tm) (o : Ow) : Tm → Ow := fun x => if x = f then o else of x
def Us.set (u : Us) (f : Tm) (o : Ow) : Us := { u with of := updO u.of f o }
def Us.made (u : Us) (f : Tm) : Ow := ⟨⟨u.nm, f, 0, [], []⟩, (if f ∈ u.ns then (u.of f).ver else 0) + 1, u.sc uRoot f u.dr, [u.sc uSign f (u.dr + 1)], false⟩
def create (u : Us) (f : Tm) : Us × Int :=
  if nm f = false then (u, 3) else if u.live f = true then (u, 5) else if 8 ≤ u.lives.length then (u, 10)
  else (⟨u.nm, u.sd, u.dr + 2, if f ∈ u.ns then u.ns else u.ns ++ [f], updO u.of f (u.made f)⟩, 0)
def grant (u : Us) (f who : Tm) (wr : Bool) : Us × Int :=
  if u.live f = false then (u, 4) else if (gr (u.of f).r who wr).2 ≠ 0 then (u, (gr (u.of f).r who wr).2)
  else (u.set f ⟨(gr (u.of f).r who wr).1, (u.of f).ver + 1, (u.of f).root, (u.of f).sg, false⟩, 0)
def revoke (u : Us) (f who : Tm) : Us × Int :=
  if u.live f = false then (u, 4) else if (rv (u.of f).r who).2 ≠ 0 then (u, (rv (u.of f).r who).2)
  else (⟨u.nm, u.sd, u.dr + 1, u.ns, updO u.of f ⟨(rv (u.of f).r who).1, (u.of f).ver + 1, (u.of f).root, (u.of f).sg ++ [u.sc uSign f u.dr], false⟩⟩, 0)
def remove (u : Us) (f : Tm) : Us × Int :=
  if u.live f = false then (u, 4) else (u.set f { u.of f with gone := true }, 0)
def own (u : Us) (f : Tm) : Ow × Int := if u.live f = false then (ow0, 4) else (u.of f, 0)
/-- What a user can be after n acts. -/
structure Fine (n : Nat) (u : Us) : Prop where
  nm : nm u.nm = true
  sd : u.sd < 18446744073709551616
  dr : 1 ≤ u.dr ∧ u.dr ≤ 1 + 2 * n
  few : u.ns.length ≤ n
  one : u.ns.Nodup
  each : ∀ f ∈ u.ns, RR (u.of f).r ∧ (u.of f).r.o = u.nm ∧ (u.of f).r.f = f ∧ 1 ≤ (u.of f).ver ∧ (u.of f).ver ≤ n ∧ ((u.of f).sg.length : Int) = (u.of f).r.ep + 1
  none : ∀ f, f ∉ u.ns → u.of f = ow0
  eight : u.lives.length ≤ 8
theorem fine0 {n : Tm} {sd : Nat} (h : Rig.nm n = true) (hs : sd < 18446744073709551616) : Fine 0 (us0 n sd) :=
  ⟨h, hs, ⟨Nat.le_refl _, Nat.le_refl _⟩, Nat.le_refl _, List.nodup_nil, fun f hf => (List.not_mem_nil hf).elim, fun _ _ => rfl, Nat.zero_le _⟩
theorem Fine.up {n : Nat} {u : Us} (h : Fine n u) : Fine (n + 1) u :=
  ⟨h.nm, h.sd, ⟨h.dr.1, by have := h.dr.2; omega⟩, by have := h.few; omega, h.one, fun f hf => by obtain ⟨a, b, c, d, e, g⟩ := h.each f hf; exact ⟨a, b, c, d, by omega, g⟩, h.none, h.eight⟩
theorem live_in {u : Us} {f : Tm} (h : u.live f = true) : f ∈ u.ns ∧ (u.of f).gone = false := by
  unfold Us.live at h
  simpa using h
theorem rr_new {o f : Tm} (h : nm o = true) (h2 : nm f = true) : RR ⟨o, f, 0, [], []⟩ := ⟨h, h2, ⟨by simp, by simp⟩, by simp, lsd_nil _, lsd_nil _, fun x hx => (List.not_mem_nil hx).elim⟩
theorem live_no {u : Us} {f : Tm} (h : f ∉ u.ns) : u.live f = false := by unfold Us.live; simp [h]
theorem updO_self (of : Tm → Ow) (f : Tm) (o : Ow) : updO of f o f = o := by unfold updO; rw [if_pos rfl]
theorem updO_ne {of : Tm → Ow} {f x : Tm} {o : Ow} (h : x ≠ f) : updO of f o x = of x := by unfold updO; rw [if_neg h]
theorem filter_le {p q : Tm → Bool} {l : List Tm} (h : ∀ x ∈ l, p x = true → q x = true) : (l.filter p).length ≤ (l.filter q).length := by
  rw [← List.countP_eq_length_filter, ← List.countP_eq_length_filter]
  exact List.countP_mono_left h
theorem filter_one {p q : Tm → Bool} {f : Tm} : ∀ {l : List Tm}, l.Nodup → (∀ x, x ≠ f → p x = true → q x = true) → (l.filter p).length ≤ (l.filter q).length + 1
  | [], _, _ => Nat.zero_le _
  | x :: l, hn, h => by
    obtain ⟨h1, h2⟩ := List.nodup_cons.1 hn
    by_cases e : x = f
    · have h3 : (l.filter p).length ≤ (l.filter q).length := filter_le fun y hy => h y fun e2 => h1 (by rw [e, ← e2]; exact hy)
      rw [List.filter_cons, List.filter_cons]
      split <;> split <;> (try simp only [List.length_cons]) <;> omega
    · have h3 := filter_one h2 h
      rw [List.filter_cons, List.filter_cons]
      have h4 := h x e
      by_cases hp : p x = true
      · rw [if_pos hp, if_pos (h4 hp)]; (try simp only [List.length_cons]); omega
      · rw [if_neg hp]; split <;> (try simp only [List.length_cons]) <;> omega
/-- Another thing held of a file that is owned, as live as it was or gone. -/
theorem fine_set {n : Nat} {u : Us} (h : Fine n u) {f : Tm} (hf : f ∈ u.ns) {o : Ow} {dr : Nat} (hd : u.dr ≤ dr ∧ dr ≤ u.dr + 2) (hr : RR o.r) (h1 : o.r.o = u.nm) (h2 : o.r.f = f) (h3 : 1 ≤ o.ver ∧ o.ver ≤ n + 1) (h4 : (o.sg.length : Int) = o.r.ep + 1) (h5 : (o.gone = false → (u.of f).gone = false) ∨ u.lives.length < 8) : Fine (n + 1) ⟨u.nm, u.sd, dr, u.ns, updO u.of f o⟩ where
  nm := h.nm
  sd := h.sd
  dr := ⟨by have := h.dr.1; show 1 ≤ dr; omega, by have := h.dr.2; show dr ≤ _; omega⟩
  few := by have := h.few; show u.ns.length ≤ n + 1; omega
  one := h.one
  each x hx := by
    show RR (updO u.of f o x).r ∧ (updO u.of f o x).r.o = u.nm ∧ (updO u.of f o x).r.f = x ∧ 1 ≤ (updO u.of f o x).ver ∧ (updO u.of f o x).ver ≤ n + 1 ∧ ((updO u.of f o x).sg.length : Int) = (updO u.of f o x).r.ep + 1
    by_cases e : x = f
    · subst e
      rw [updO_self]
      exact ⟨hr, h1, h2, h3.1, h3.2, h4⟩
    · rw [updO_ne e]
      obtain ⟨a, b, c, d, e, g⟩ := h.each x hx
      exact ⟨a, b, c, d, by omega, g⟩
  none x hx := by
    show updO u.of f o x = ow0
    rw [updO_ne (fun e => hx (by rw [e]; exact hf))]
    exact h.none x hx
  eight := by
    show (u.ns.filter _).length ≤ 8
    have hl : ∀ x, x ≠ f → (⟨u.nm, u.sd, dr, u.ns, updO u.of f o⟩ : Us).live x = true → u.live x = true := fun x hx h => by
      unfold Us.live at h ⊢
      rw [show (⟨u.nm, u.sd, dr, u.ns, updO u.of f o⟩ : Us).of x = u.of x from updO_ne hx] at h
      exact h
    rcases h5 with h5 | h5
    · refine Nat.le_trans (filter_le fun x hx h => ?_) h.eight
      by_cases e : x = f
      · subst e
        obtain ⟨h6, h7⟩ := live_in h
        rw [show (⟨u.nm, u.sd, dr, u.ns, updO u.of x o⟩ : Us).of x = o from updO_self _ _ _] at h7
        unfold Us.live
        simp [hf, h5 h7]
      · exact hl x e h
    · have := filter_one (p := (⟨u.nm, u.sd, dr, u.ns, updO u.of f o⟩ : Us).live) (q := u.live) h.one hl
      unfold Us.lives at h5
      omega
/-- A file that was never owned, owned. -/
theorem fine_more {n : Nat} {u : Us} (h : Fine n u) {f : Tm} (hf : f ∉ u.ns) {o : Ow} {dr : Nat} (hd : u.dr ≤ dr ∧ dr ≤ u.dr + 2) (hr : RR o.r) (h1 : o.r.o = u.nm) (h2 : o.r.f = f) (h3 : o.ver = 1) (h4 : (o.sg.length : Int) = o.r.ep + 1) (h5 : u.lives.length < 8) : Fine (n + 1) ⟨u.nm, u.sd, dr, u.ns ++ [f], updO u.of f o⟩ where
  nm := h.nm
  sd := h.sd
  dr := ⟨by have := h.dr.1; show 1 ≤ dr; omega, by have := h.dr.2; show dr ≤ _; omega⟩
  few := by have := h.few; show (u.ns ++ [f]).length ≤ n + 1; rw [List.length_append]; simp; omega
  one := by
    show (u.ns ++ [f]).Nodup
    rw [List.nodup_append]
    exact ⟨h.one, by simp, fun a ha b hb e => hf (by rw [List.mem_singleton] at hb; rw [← hb, ← e]; exact ha)⟩
  each x hx := by
    show RR (updO u.of f o x).r ∧ (updO u.of f o x).r.o = u.nm ∧ (updO u.of f o x).r.f = x ∧ 1 ≤ (updO u.of f o x).ver ∧ (updO u.of f o x).ver ≤ n + 1 ∧ ((updO u.of f o x).sg.length : Int) = (updO u.of f o x).r.ep + 1
    by_cases e : x = f
    · subst e
      rw [updO_self]
      exact ⟨hr, h1, h2, by omega, by omega, h4⟩
    · rw [updO_ne e]
      obtain ⟨a, b, c, d, e, g⟩ := h.each x (by
        rcases List.mem_append.1 hx with h6 | h6
        · exact h6
        · exact absurd (List.mem_singleton.1 h6) e)
      exact ⟨a, b, c, d, by omega, g⟩
  none x hx := by
    have hx' : x ∉ u.ns ++ [f] := hx
    rw [List.mem_append, List.mem_singleton] at hx'
    show updO u.of f o x = ow0
    rw [updO_ne (fun e => hx' (.inr e))]
    exact h.none x fun h6 => hx' (.inl h6)
  eight := by
    have hl : ∀ x ∈ u.ns, (⟨u.nm, u.sd, dr, u.ns ++ [f], updO u.of f o⟩ : Us).live x = true → u.live x = true := fun x hx h => by
      unfold Us.live at h ⊢
      rw [show (⟨u.nm, u.sd, dr, u.ns ++ [f], updO u.of f o⟩ : Us).of x = u.of x from updO_ne (fun e => hf (by rw [← e]; exact hx))] at h
      simp only [Bool.and_eq_true, decide_eq_true_eq] at h ⊢
      exact ⟨hx, h.2⟩
    show ((u.ns ++ [f]).filter _).length ≤ 8
    rw [List.filter_append, List.length_append]
    have h6 := filter_le hl
    have h7 : ([f].filter (⟨u.nm, u.sd, dr, u.ns ++ [f], updO u.of f o⟩ : Us).live).length ≤ 1 := List.length_filter_le _ _
    unfold Us.lives at h5
    omega
/-! ### each act -/
theorem create_err {u : Us} {f : Tm} (h : (create u f).2 ≠ 0) : (create u f).1 = u := by
  unfold create at h ⊢
  split
  · rfl
  · split
    · rfl
    · split
      · rfl
      · rename_i h1 h2 h3; rw [if_neg h1, if_neg h2, if_neg h3] at h; exact absurd rfl h
theorem grant_err {u : Us} {f x : Tm} {b : Bool} (h : (grant u f x b).2 ≠ 0) : (grant u f x b).1 = u := by
  unfold grant at h ⊢
  split
  · rfl
  · split
    · rfl
    · rename_i h1 h2; rw [if_neg h1, if_neg h2] at h; exact absurd rfl h
theorem revoke_err {u : Us} {f x : Tm} (h : (revoke u f x).2 ≠ 0) : (revoke u f x).1 = u := by
  unfold revoke at h ⊢
  split
  · rfl
  · split
    · rfl
    · rename_i h1 h2; rw [if_neg h1, if_neg h2] at h; exact absurd rfl h
theorem remove_err {u : Us} {f : Tm} (h : (remove u f).2 ≠ 0) : (remove u f).1 = u := by
  unfold remove at h ⊢
  split
  · rfl
  · rename_i h1; rw [if_neg h1] at h; exact absurd rfl h
theorem fine_create {n : Nat} {u : Us} (h : Fine n u) (f : Tm) : Fine (n + 1) (create u f).1 := by
  by_cases he : (create u f).2 = 0
  case neg => rw [create_err he]; exact h.up
  unfold create at he ⊢
  by_cases h1 : nm f = false
  · rw [if_pos h1] at he; exact absurd (show (3 : Int) = 0 from he) (by decide)
  rw [if_neg h1] at he ⊢
  by_cases h2 : u.live f = true
  · rw [if_pos h2] at he; exact absurd (show (5 : Int) = 0 from he) (by decide)
  rw [if_neg h2] at he ⊢
  by_cases h3 : 8 ≤ u.lives.length
  · rw [if_pos h3] at he; exact absurd (show (10 : Int) = 0 from he) (by decide)
  rw [if_neg h3]
  have hr : RR ⟨u.nm, f, 0, [], []⟩ := rr_new h.nm (by simpa using h1)
  by_cases hf : f ∈ u.ns
  · simp only [if_pos hf]
    have hv := (h.each f hf).2.2.2
    exact fine_set h hf ⟨by omega, by omega⟩ hr rfl rfl ⟨by show 1 ≤ (if f ∈ u.ns then _ else _) + 1; omega, by show (if f ∈ u.ns then _ else _) + 1 ≤ n + 1; rw [if_pos hf]; omega⟩ rfl (.inr (by omega))
  · simp only [if_neg hf]
    exact fine_more h hf ⟨by omega, by omega⟩ hr rfl rfl (by show (if f ∈ u.ns then _ else _) + 1 = 1; rw [if_neg hf]) rfl (by omega)
theorem fine_grant {n : Nat} {u : Us} (h : Fine n u) (f x : Tm) (b : Bool) : Fine (n + 1) (grant u f x b).1 := by
  by_cases he : (grant u f x b).2 = 0
  case neg => rw [grant_err he]; exact h.up
  unfold grant at he ⊢
  by_cases h1 : u.live f = false
  · rw [if_pos h1] at he; exact absurd (show (4 : Int) = 0 from he) (by decide)
  rw [if_neg h1] at he ⊢
  obtain ⟨hf, hg⟩ := live_in (by simpa using h1)
  by_cases h2 : (gr (u.of f).r x b).2 ≠ 0
  · rw [if_pos h2] at he; exact absurd he h2
  rw [if_neg h2]
  obtain ⟨a1, a2, a3, a4, a5, a6⟩ := h.each f hf
  obtain ⟨s, e, hs⟩ : ∃ s e, gr (u.of f).r x b = (s, e) := ⟨_, _, rfl⟩
  have he0 : e = 0 := by rw [hs] at h2; simpa using h2
  subst he0
  rcases gr_right hs with ⟨_, b2, b3, _⟩ | ⟨_, b2⟩
  case inr => exact absurd rfl b2
  have hgr := gr_ok a1 b2 hs
  simp only [hs]
  exact fine_set h hf ⟨by omega, by omega⟩ b3 (by show s.o = _; rw [hgr.owner]; exact a2) (by show s.f = _; rw [hgr.file]; exact a3) ⟨by show 1 ≤ (u.of f).ver + 1; omega, by show (u.of f).ver + 1 ≤ n + 1; omega⟩ (by show (_ : Int) = s.ep + 1; rw [hgr.epoch]; exact a6) (.inl fun _ => hg)
theorem fine_revoke {n : Nat} {u : Us} (h : Fine n u) (f x : Tm) : Fine (n + 1) (revoke u f x).1 := by
  by_cases he : (revoke u f x).2 = 0
  case neg => rw [revoke_err he]; exact h.up
  unfold revoke at he ⊢
  by_cases h1 : u.live f = false
  · rw [if_pos h1] at he; exact absurd (show (4 : Int) = 0 from he) (by decide)
  rw [if_neg h1] at he ⊢
  obtain ⟨hf, hg⟩ := live_in (by simpa using h1)
  by_cases h2 : (rv (u.of f).r x).2 ≠ 0
  · rw [if_pos h2] at he; exact absurd he h2
  rw [if_neg h2]
  obtain ⟨a1, a2, a3, a4, a5, a6⟩ := h.each f hf
  obtain ⟨s, e, hs⟩ : ∃ s e, rv (u.of f).r x = (s, e) := ⟨_, _, rfl⟩
  have he0 : e = 0 := by rw [hs] at h2; simpa using h2
  subst he0
  rcases rv_right hs with ⟨_, b2, b3, _⟩ | ⟨_, b2⟩
  case inr => exact absurd rfl b2
  have hrv := rv_ok a1 b2 hs
  simp only [hs]
  exact fine_set h hf ⟨by omega, by omega⟩ b3 (by show s.o = _; rw [hrv.is]; exact a2) (by show s.f = _; rw [hrv.is]; exact a3) ⟨by show 1 ≤ (u.of f).ver + 1; omega, by show (u.of f).ver + 1 ≤ n + 1; omega⟩ (by show ((((u.of f).sg ++ [_]).length : Nat) : Int) = s.ep + 1; rw [hrv.epoch, List.length_append, List.length_singleton]; omega) (.inl fun _ => hg)
theorem fine_remove {n : Nat} {u : Us} (h : Fine n u) (f : Tm) : Fine (n + 1) (remove u f).1 := by
  by_cases he : (remove u f).2 = 0
  case neg => rw [remove_err he]; exact h.up
  unfold remove at he ⊢
  by_cases h1 : u.live f = false
  · rw [if_pos h1] at he; exact absurd (show (4 : Int) = 0 from he) (by decide)
  rw [if_neg h1]
  obtain ⟨hf, hg⟩ := live_in (by simpa using h1)
  obtain ⟨a1, a2, a3, a4, a5, a6⟩ := h.each f hf
  exact fine_set h hf ⟨Nat.le_refl _, by omega⟩ a1 a2 a3 ⟨a4, by show (u.of f).ver ≤ n + 1; omega⟩ a6 (.inl fun e => absurd e (by simp))
theorem Fine.le {n m : Nat} {u : Us} (h : Fine n u) (hm : n ≤ m) : Fine m u := by
  induction m with
  | zero => obtain rfl : n = 0 := by omega
            exact h
  | succ m ih =>
    by_cases e : n = m + 1
    · subst e; exact h
    · exact (ih (by omega)).up
theorem create_who (u : Us) (f : Tm) : (create u f).1.nm = u.nm ∧ (create u f).1.sd = u.sd := by
  unfold create; split
  · exact ⟨rfl, rfl⟩
  · split
    · exact ⟨rfl, rfl⟩
    · split <;> exact ⟨rfl, rfl⟩
theorem grant_who (u : Us) (f x : Tm) (b : Bool) : (grant u f x b).1.nm = u.nm ∧ (grant u f x b).1.sd = u.sd := by
  unfold grant; split
  · exact ⟨rfl, rfl⟩
  · split <;> exact ⟨rfl, rfl⟩
theorem revoke_who (u : Us) (f x : Tm) : (revoke u f x).1.nm = u.nm ∧ (revoke u f x).1.sd = u.sd := by
  unfold revoke; split
  · exact ⟨rfl, rfl⟩
  · split <;> exact ⟨rfl, rfl⟩
theorem remove_who (u : Us) (f : Tm) : (remove u f).1.nm = u.nm ∧ (remove u f).1.sd = u.sd := by
  unfold remove; split <;> exact ⟨rfl, rfl⟩
theorem own_few {n : Nat} {u : Us} (h : Fine n u) (f : Tm) : ((own u f).1.r.rs.length ≤ 1000000 ∧ (own u f).1.r.ws.length ≤ 1000000) ∧ (own u f).1.sg.length ≤ 1000000 := by
  unfold own
  split
  · exact ⟨⟨Nat.zero_le _, Nat.zero_le _⟩, Nat.zero_le _⟩
  · rename_i h1
    obtain ⟨hf, _⟩ := live_in (u := u) (f := f) (by simpa using h1)
    obtain ⟨a1, _, _, _, _, a6⟩ := h.each f hf
    obtain ⟨_, _, b3, b4, _⟩ := a1
    show ((u.of f).r.rs.length ≤ 1000000 ∧ (u.of f).r.ws.length ≤ 1000000) ∧ (u.of f).sg.length ≤ 1000000
    exact ⟨⟨by omega, by omega⟩, by omega⟩
end Go.Proofs.YtbdealddjonobaaGreat.Usr
