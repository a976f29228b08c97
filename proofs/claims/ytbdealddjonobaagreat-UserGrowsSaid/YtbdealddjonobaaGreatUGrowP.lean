/-
  PLAIN FACTS, OF NO PROGRAM: what UserGrows counts: versions of each of ten files; secrets, each of a draw of its own. By an AI agent; no person has read it.
-/
import Derived.Test.YtbdealddjonobaaGreatUDo
import Derived.Test.YtbdealddjonobaaGreatD1
import Derived.Test.YtbdealddjonobaaGreatG3
import Derived.Test.YtbdealddjonobaaGreatG2
namespace Go.Proofs.YtbdealddjonobaaGreat.Usr
open Go Go.RowKit Wire Rig Draw

set_option linter.unusedVariables false
/-- The version that a name is at, gone or not. -/
def vf (u : Us) (f : Tm) : Nat := if f ∈ u.ns then (u.of f).ver else 0
theorem vf_held {u : Us} {f : Tm} (h : f ∈ u.ns) : vf u f = (u.of f).ver := by unfold vf; rw [if_pos h]
theorem vf_le {n : Nat} {u : Us} (h : Fine n u) (f : Tm) : vf u f ≤ n := by
  unfold vf; split
  · rename_i hf; exact (h.each f hf).2.2.2.2.1
  · exact Nat.zero_le _
/-- A file that is held, and lives. -/
theorem own_live {u : Us} {f : Tm} (h1 : f ∈ u.ns) (h2 : (u.of f).gone = false) : own u f = (u.of f, 0) := by
  unfold own
  rw [if_neg (by simp [Us.live, h1, h2])]
theorem own_gone {u : Us} {f : Tm} (h : u.live f = false) : own u f = (ow0, 4) := by unfold own; rw [if_pos h]
/-- What an act that does not err makes of a file and of its secrets: how many more, which. -/
structure Made (u v : Us) (f : Tm) (new : List Tm) : Prop where
  here : own v f = (v.of f, 0)
  held : f ∈ v.ns
  ver : (v.of f).ver = vf u f + 1
  nm : v.nm = u.nm
  sd : v.sd = u.sd
  others : ∀ x, x ≠ f → vf v x = vf u x
  dr : v.dr = u.dr + new.length
theorem vf_set {u : Us} {f : Tm} {o : Ow} (hf : f ∈ u.ns) {x : Tm} (hx : x ≠ f) (dr : Nat) : vf ⟨u.nm, u.sd, dr, u.ns, updO u.of f o⟩ x = vf u x := by
  unfold vf
  rw [show (⟨u.nm, u.sd, dr, u.ns, updO u.of f o⟩ : Us).of x = u.of x from updO_ne hx]
theorem vf_more {u : Us} {f : Tm} {o : Ow} {x : Tm} (hx : x ≠ f) (dr : Nat) : vf ⟨u.nm, u.sd, dr, u.ns ++ [f], updO u.of f o⟩ x = vf u x := by
  unfold vf
  rw [show (⟨u.nm, u.sd, dr, u.ns ++ [f], updO u.of f o⟩ : Us).of x = u.of x from updO_ne hx]
  have : x ∈ u.ns ++ [f] ↔ x ∈ u.ns := by simp [hx]
  simp only [this]
theorem create_made {u : Us} {f : Tm} (h : (create u f).2 = 0) : Made u (create u f).1 f [u.sc uRoot f u.dr, u.sc uSign f (u.dr + 1)] ∧ ((create u f).1.of f).root = u.sc uRoot f u.dr ∧ ((create u f).1.of f).sg = [u.sc uSign f (u.dr + 1)] := by
  unfold create at h ⊢
  by_cases h1 : nm f = false
  · rw [if_pos h1] at h; exact absurd (show (3 : Int) = 0 from h) (by decide)
  rw [if_neg h1] at h ⊢
  by_cases h2 : u.live f = true
  · rw [if_pos h2] at h; exact absurd (show (5 : Int) = 0 from h) (by decide)
  rw [if_neg h2] at h ⊢
  by_cases h3 : 8 ≤ u.lives.length
  · rw [if_pos h3] at h; exact absurd (show (10 : Int) = 0 from h) (by decide)
  rw [if_neg h3]
  have e : ∀ ns, (⟨u.nm, u.sd, u.dr + 2, ns, updO u.of f (u.made f)⟩ : Us).of f = u.made f := fun ns => updO_self _ _ _
  refine ⟨⟨?_, ?_, ?_, rfl, rfl, fun x hx => ?_, rfl⟩, ?_, ?_⟩
  · refine own_live ?_ ?_
    · show f ∈ (if f ∈ u.ns then u.ns else u.ns ++ [f])
      split
      · assumption
      · simp
    · rw [e]; rfl
  · show f ∈ (if f ∈ u.ns then u.ns else u.ns ++ [f])
    split
    · assumption
    · simp
  · rw [e]; unfold Us.made vf; rfl
  · by_cases hf : f ∈ u.ns
    · simp only [if_pos hf]; exact vf_set hf hx _
    · simp only [if_neg hf]; exact vf_more hx _
  · rw [e]; rfl
  · rw [e]; rfl
theorem grant_made {u : Us} {f x : Tm} {b : Bool} (h : (grant u f x b).2 = 0) : Made u (grant u f x b).1 f [] := by
  unfold grant at h ⊢
  by_cases h1 : u.live f = false
  · rw [if_pos h1] at h; exact absurd (show (4 : Int) = 0 from h) (by decide)
  rw [if_neg h1] at h ⊢
  by_cases h2 : (gr (u.of f).r x b).2 ≠ 0
  · rw [if_pos h2] at h; exact absurd h h2
  rw [if_neg h2]
  obtain ⟨hf, hg⟩ := live_in (u := u) (f := f) (by simpa using h1)
  have e : ∀ o, (u.set f o).of f = o := fun o => updO_self _ _ _
  exact ⟨own_live hf (by rw [e]), hf, by rw [e]; unfold vf; rw [if_pos hf], rfl, rfl, fun y hy => vf_set hf hy _, rfl⟩
theorem revoke_made {u : Us} {f x : Tm} (h : (revoke u f x).2 = 0) : Made u (revoke u f x).1 f [u.sc uSign f u.dr] ∧ ∃ l, ((revoke u f x).1.of f).sg = l ++ [u.sc uSign f u.dr] := by
  unfold revoke at h ⊢
  by_cases h1 : u.live f = false
  · rw [if_pos h1] at h; exact absurd (show (4 : Int) = 0 from h) (by decide)
  rw [if_neg h1] at h ⊢
  by_cases h2 : (rv (u.of f).r x).2 ≠ 0
  · rw [if_pos h2] at h; exact absurd h h2
  rw [if_neg h2]
  obtain ⟨hf, hg⟩ := live_in (u := u) (f := f) (by simpa using h1)
  have e : ∀ o, (⟨u.nm, u.sd, u.dr + 1, u.ns, updO u.of f o⟩ : Us).of f = o := fun o => updO_self _ _ _
  exact ⟨⟨own_live hf (by rw [e]), hf, by rw [e]; unfold vf; rw [if_pos hf], rfl, rfl, fun y hy => vf_set hf hy _, rfl⟩, (u.of f).sg, by rw [e]⟩
theorem remove_made {u : Us} {f : Tm} (h : (remove u f).2 = 0) : (own u f).2 = 0 ∧ (own (remove u f).1 f).2 = 4 ∧ (remove u f).1.nm = u.nm ∧ (remove u f).1.sd = u.sd ∧ (remove u f).1.dr = u.dr ∧ ∀ x, vf (remove u f).1 x = vf u x := by
  unfold remove at h ⊢
  by_cases h1 : u.live f = false
  · rw [if_pos h1] at h; exact absurd (show (4 : Int) = 0 from h) (by decide)
  rw [if_neg h1]
  obtain ⟨hf, hg⟩ := live_in (u := u) (f := f) (by simpa using h1)
  refine ⟨by rw [own_live hf hg], ?_, rfl, rfl, rfl, fun x => ?_⟩
  · rw [own_gone (by simp [Us.live, Us.set, updO])]
  · by_cases hx : x = f
    · subst hx
      unfold vf Us.set
      simp only [updO, if_pos]
    · exact vf_set hf hx _
/-- A row of secrets, each of a use, of one of some texts, and of its own draw. -/
def Secs (sd : Nat) (l : List Tm) : Prop := ∀ k, k < l.length → ∃ use who : Tm, (use.length + who.length ≤ 1000 ∧ 58 ∉ use) ∧ l.getD k [] = (secret use who (draw sd k)).1
theorem secs_more {sd : Nat} {l new : List Tm} (h : Secs sd l) (hn : ∀ j, j < new.length → ∃ use who : Tm, (use.length + who.length ≤ 1000 ∧ 58 ∉ use) ∧ new.getD j [] = (secret use who (draw sd (l.length + j))).1) : Secs sd (l ++ new) := fun k hk => by
  by_cases e : k < l.length
  · obtain ⟨use, who, h1, h2⟩ := h k e
    exact ⟨use, who, h1, by rw [← h2]; simp [List.getD, List.getElem?_append_left e]⟩
  · rw [List.length_append] at hk
    obtain ⟨use, who, h1, h2⟩ := hn (k - l.length) (by omega)
    refine ⟨use, who, h1, ?_⟩
    rw [show l.length + (k - l.length) = k by omega] at h2
    rw [← h2]; simp [List.getD, List.getElem?_append_right (Nat.le_of_not_lt e)]
theorem add_mod_inj {s a b m : Nat} (h : (s + a) % m = (s + b) % m) : a % m = b % m := by
  have h1 := Nat.sub_mod_eq_zero_of_mod_eq h
  rcases Nat.le_total a b with h2 | h2
  · have h3 := Nat.sub_mod_eq_zero_of_mod_eq h.symm
    rw [Nat.add_sub_add_left] at h3
    have h4 : b = a + (b - a) := by omega
    rw [h4, Nat.add_mod, h3, Nat.add_zero, Nat.mod_mod]
  · rw [Nat.add_sub_add_left] at h1
    have h4 : a = b + (a - b) := by omega
    rw [h4, Nat.add_mod, h1, Nat.add_zero, Nat.mod_mod]
theorem draw_inj {s i j : Nat} (hi : i < 1000000) (hj : j < 1000000) (h : draw s i = draw s j) : i = j := by
  unfold draw at h
  have h1 := mix_inj (Nat.mod_lt _ (by decide)) (Nat.mod_lt _ (by decide)) h
  exact mul_inj (d := 17428512612931826493) (by decide) (Nat.lt_trans hi (by decide)) (Nat.lt_trans hj (by decide)) (add_mod_inj h1)
theorem dlt (s k : Nat) : draw s k < 18446744073709551616 := mix_lt _
theorem secs_apart {sd : Nat} {l : List Tm} (h : Secs sd l) (hl : l.length ≤ 1000000) {i j : Nat} (hi : i < l.length) (hj : j < l.length) (hne : i ≠ j) : l.getD i [] ≠ l.getD j [] := fun e => by
  obtain ⟨u1, w1, ⟨h1, h2⟩, h3⟩ := h i hi
  obtain ⟨u2, w2, ⟨g1, g2⟩, g3⟩ := h j hj
  obtain ⟨a1, a2, a3, _⟩ := secret_small h1 (dlt sd i)
  obtain ⟨b1, b2, b3, _⟩ := secret_small g1 (dlt sd j)
  rw [h3, g3, secret_ok (dlt sd i) a1 a2 a3, secret_ok (dlt sd j) b1 b2 b3] at e
  obtain ⟨_, _, e2⟩ := sech_inj (dlt sd i) (dlt sd j) a1 b1 h2 g2 (by rw [List.length_append, List.length_cons]; omega) (by rw [List.length_append, List.length_cons]; omega) e
  exact hne (draw_inj (by omega) (by omega) e2)
theorem path_len {u : Us} (h : nm u.nm = true) {f : ByteArray} (hf : f.size ≤ 5) (use : Tm) (hu : use.length ≤ 4) : use.length + (u.path f.data.toList).length ≤ 1000 := by
  have h1 := (Txt.right_len h).2
  have h2 : (u.path f.data.toList).length = u.nm.length + (f.data.toList.length + 1) := by unfold Us.path; rw [List.length_append, List.length_cons]
  rw [← Lib.size_eq] at h2
  omega
theorem secs_first {u : Us} (h : nm u.nm = true) : Secs u.sd [u.sec] := fun k hk => by
  obtain rfl : k = 0 := by simpa using hk
  have h1 := (Txt.right_len h).2
  exact ⟨[117, 115, 101, 114], u.nm, ⟨by simp only [List.length_cons, List.length_nil]; omega, by decide⟩, rfl⟩
theorem secs_one {u : Us} (h : nm u.nm = true) {f : ByteArray} (hf : f.size ≤ 5) {l : List Tm} (hl : Secs u.sd l) (hd : u.dr = l.length) : Secs u.sd (l ++ [u.sc uSign f.data.toList u.dr]) := secs_more hl fun j hj => by
  obtain rfl : j = 0 := by simpa using hj
  exact ⟨uSign, _, ⟨path_len h hf uSign (by decide), by decide⟩, by rw [← hd]; rfl⟩
theorem secs_two {u : Us} (h : nm u.nm = true) {f : ByteArray} (hf : f.size ≤ 5) {l : List Tm} (hl : Secs u.sd l) (hd : u.dr = l.length) : Secs u.sd (l ++ [u.sc uRoot f.data.toList u.dr, u.sc uSign f.data.toList (u.dr + 1)]) := secs_more hl fun j hj => by
  have : j = 0 ∨ j = 1 := by simp only [List.length_cons, List.length_nil] at hj; omega
  rcases this with rfl | rfl
  · exact ⟨uRoot, _, ⟨path_len h hf uRoot (by decide), by decide⟩, by rw [← hd]; rfl⟩
  · exact ⟨uSign, _, ⟨path_len h hf uSign (by decide), by decide⟩, by rw [← hd]; rfl⟩
/-- Where the names of files differ. -/
theorem file_inj {a b : Nat} (ha : a < 10) (hb : b < 10) (h : (fileK.getD a ByteArray.empty).data.toList = (fileK.getD b ByteArray.empty).data.toList) : a = b := by
  have : ∀ x : Fin 10, ∀ y : Fin 10, (fileK.getD x.1 ByteArray.empty).data.toList = (fileK.getD y.1 ByteArray.empty).data.toList → x.1 = y.1 := by decide +kernel
  exact this ⟨a, ha⟩ ⟨b, hb⟩ h
/-- The versions of ten files, as they stand in memory. -/
def verA (u : Us) : List Value := (List.range 10).map fun j => .int .u64 ((vf u (fileK.getD j ByteArray.empty).data.toList : Nat) : Int)
theorem verA_at (u : Us) {j : Nat} (h : j < 10) : (verA u).toArray[j]? = some (.int .u64 ((vf u (fileK.getD j ByteArray.empty).data.toList : Nat) : Int)) := by
  unfold verA
  rw [List.getElem?_toArray, List.getElem?_map, List.getElem?_range h]
  rfl
theorem verA_up {u v : Us} {m : Nat} (hm : m < 10) {f : Tm} (hf : (fileK.getD m ByteArray.empty).data.toList = f) (hv : vf v f = vf u f + 1) (ho : ∀ x, x ≠ f → vf v x = vf u x) : (verA u).toArray.setIfInBounds m (.int .u64 ((vf u f : Nat) + 1 : Int)) = (verA v).toArray := by
  unfold verA
  rw [List.setIfInBounds_toArray]
  congr 1
  refine List.ext_getElem? fun j => ?_
  by_cases hj : j < 10
  · by_cases e : m = j
    · subst e
      rw [List.getElem?_set_self (by simpa using hm), List.getElem?_map, List.getElem?_range hm]
      simp only [Option.map_some, hf, hv]
      rfl
    · rw [List.getElem?_set_ne e, List.getElem?_map, List.getElem?_map, List.getElem?_range hj]
      simp only [Option.map_some]
      rw [ho _ fun e2 => e (file_inj hm hj (hf.trans e2.symm))]
  · rw [List.getElem?_eq_none (by simpa using Nat.le_of_not_lt hj), List.getElem?_eq_none (by simpa using Nat.le_of_not_lt hj)]
theorem verA_same {u v : Us} (ho : ∀ x, vf v x = vf u x) : verA v = verA u := by unfold verA; simp only [ho]
/-- What an act that does not err, and removes nothing, makes. -/
theorem do_made {s s1 : Us} {m : Nat} {f x : Tm} {b : Bool} (hd : (if m < 2 then create s f else if m < 5 then grant s f x b else if m < 8 then revoke s f x else remove s f) = (s1, 0)) (h8 : m < 8) : ∃ new, Made s s1 f new ∧
    ((m < 2 ∧ new = [s.sc uRoot f s.dr, s.sc uSign f (s.dr + 1)] ∧ (s1.of f).root = s.sc uRoot f s.dr ∧ (s1.of f).sg = [s.sc uSign f (s.dr + 1)]) ∨ (2 ≤ m ∧ m < 5 ∧ new = []) ∨ (5 ≤ m ∧ new = [s.sc uSign f s.dr] ∧ ∃ l, (s1.of f).sg = l ++ [s.sc uSign f s.dr])) := by
  by_cases h2 : m < 2
  · rw [if_pos h2] at hd
    obtain ⟨a, b, c⟩ := create_made (u := s) (f := f) (by rw [hd])
    rw [hd] at a b c
    exact ⟨_, a, .inl ⟨h2, rfl, b, c⟩⟩
  rw [if_neg h2] at hd
  by_cases h5 : m < 5
  · rw [if_pos h5] at hd
    have a := grant_made (u := s) (f := f) (by rw [hd])
    rw [hd] at a
    exact ⟨_, a, .inr (.inl ⟨by omega, h5, rfl⟩)⟩
  rw [if_neg h5, if_pos h8] at hd
  obtain ⟨a, b⟩ := revoke_made (u := s) (f := f) (by rw [hd])
  rw [hd] at a b
  exact ⟨_, a, .inr (.inr ⟨by omega, rfl, b⟩)⟩
/-- The document's Right of what was told. -/
theorem right14_any {w : World} {o f : ByteArray} {ep : Int} {A : Option Addr} {m c : Nat} {B : Option Addr} {p d : Nat} {ver : Int} {R : ByteArray} {S : Option Addr} {q e : Nat} {g : Bool} {x : Ow} (h : IsO w [.string o, .string f, .int .i64 ep, .slice A m c, .slice B p d, .int .u64 ver, .string R, .slice S q e, .bool g] x) (hr : RR x.r) : Calls Tryz.prog 35 #[.agg #[.string o, .string f, .int .i64 ep, .slice A m c, .slice B p d]] w fun z w' => z = .returned (.bool true) ∧ Below w.heap.size w w' := by
  obtain ⟨o', f', A', c', rs, B', d', ws, R', S', e', ss, h1, h2, h3, h4, _⟩ := h
  unfold OV at h1
  simp only [List.cons.injEq, Value.string.injEq, Value.int.injEq, Value.slice.injEq, true_and] at h1
  obtain ⟨rfl, rfl, rfl, ⟨rfl, rfl, rfl⟩, ⟨rfl, rfl, rfl⟩, _⟩ := h1
  have e2 : x.r = ⟨o.data.toList, f.data.toList, x.r.ep, bl rs, bl ws⟩ := congrArg Ow.r h2
  have hrr : RR ⟨o.data.toList, f.data.toList, x.r.ep, bl rs, bl ws⟩ := by rw [← e2]; exact hr
  have := rright_any o f x.r.ep A c rs B d ws w h3 h4 (few_right hrr)
  rw [decide_eq_true hrr] at this
  exact this
theorem signers_at {w : World} {o f : ByteArray} {ep : Int} {A : Option Addr} {m c : Nat} {B : Option Addr} {p d : Nat} {ver : Int} {R : ByteArray} {S : Option Addr} {q e : Nat} {g : Bool} {x : Ow} (h : IsO w [.string o, .string f, .int .i64 ep, .slice A m c, .slice B p d, .int .u64 ver, .string R, .slice S q e, .bool g] x) : ∃ ss, bl ss = x.sg ∧ ss.length = q ∧ SReads w S ss := by
  obtain ⟨o', f', A', c', rs, B', d', ws, R', S', e', ss, h1, h2, h3, h4, h5, _⟩ := h
  unfold OV at h1
  simp only [List.cons.injEq, Value.string.injEq, Value.int.injEq, Value.slice.injEq, true_and] at h1
  obtain ⟨_, _, _, _, _, _, _, ⟨rfl, rfl, rfl⟩, _⟩ := h1
  exact ⟨ss, (congrArg Ow.sg h2).symm, rfl, h5⟩
theorem signer_cell {w : World} {o f : ByteArray} {ep : Int} {A : Option Addr} {m c : Nat} {B : Option Addr} {p d : Nat} {ver : Int} {R : ByteArray} {b off q e : Nat} {g : Bool} {x : Ow} (h : IsO w [.string o, .string f, .int .i64 ep, .slice A m c, .slice B p d, .int .u64 ver, .string R, .slice (some ⟨b, off, none⟩) q e, .bool g] x) {ss : List ByteArray} (hs : bl ss = x.sg) {k : Nat} (hk : k < ss.length) : w.cell? ⟨b, off + k, none⟩ = some (.string (ss.getD k ByteArray.empty)) := by
  obtain ⟨s2, h1, _, h3⟩ := signers_at h
  obtain rfl := bl_inj (hs.trans h1.symm)
  obtain ⟨b2, o2, e2, _, h4⟩ := h3 k hk
  injection e2 with e2
  injection e2 with e2 e3 _
  subst e2 e3
  exact h4
theorem last_signer {ss : List ByteArray} {l0 : List Tm} {t : Tm} {sg : List Tm} {q : Nat} (h1 : bl ss = sg) (h2 : sg = l0 ++ [t]) (h3 : ss.length = q + 1) : ∃ s0, ss.getD q ByteArray.empty = s0 ∧ s0.data.toList = t := by
  refine ⟨_, rfl, ?_⟩
  have hq : q < ss.length := by omega
  have h4 : (bl ss)[q]? = some (ss.getD q ByteArray.empty).data.toList := by
    unfold bl
    rw [List.getElem?_map, List.getElem?_eq_getElem hq]
    simp [List.getD, hq]
  have h5 : l0.length = q := by
    have := congrArg List.length (h1.trans h2)
    rw [bl_len, List.length_append, List.length_singleton] at this
    omega
  rw [h1, h2, List.getElem?_append_right (by omega), h5, Nat.sub_self] at h4
  exact (Option.some.inj h4).symm
theorem row_cell {w : World} {g : Nat} {ys : List ByteArray} (h : SReads w (some ⟨g, 0, none⟩) ys) {j : Nat} (hj : j < ys.length) : w.cell? ⟨g, j, none⟩ = some (.string (ys.getD j ByteArray.empty)) ∧ g < w.heap.size := by
  obtain ⟨b, o, e, hlt, hc⟩ := h j hj
  injection e with e
  injection e with e1 e2 _
  subst e1 e2
  rw [Nat.zero_add] at hc
  exact ⟨hc, hlt⟩
theorem bl_getD (ys : List ByteArray) (j : Nat) : (bl ys).getD j [] = (ys.getD j ByteArray.empty).data.toList := by
  unfold bl
  rw [List.getD_eq_getElem?_getD, List.getElem?_map, List.getD_eq_getElem?_getD]
  cases ys[j]? <;> rfl
end Go.Proofs.YtbdealddjonobaaGreat.Usr
