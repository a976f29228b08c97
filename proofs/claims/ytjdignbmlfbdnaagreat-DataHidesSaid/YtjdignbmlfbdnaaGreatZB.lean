/-
  One text of several, in their order: CGrown, CHelp, CSpec, CMPure, CMind, CHave, CStand, CKey. By an AI agent; no person has read it.
-/
import Derived.Test.YtjdignbmlfbdnaaGreatZ9
import Derived.Test.YtjdignbmlfbdnaaGreatZ7
import Derived.Test.YtjdignbmlfbdnaaGreatZ8
import Derived.Test.YtjdignbmlfbdnaaGreatZ6
import Derived.Maps.RangeWalk
import Derived.Sort.KeysCollected
import Derived.Deep.AppendLies
import Derived.StillTailTactics
import Derived.BigQuiet
import Derived.Deep.QuietTactic
/-
  CONTRACTS of the laws' own helpers joined, grown: right terms in which no atom of 5 or more stands. By an AI agent; no person has read it.
-/
namespace Go.Proofs.YtjdignbmlfbdnaaGreat.Clo
open Go.RowKit Wire Term

/-- A right term in which no atom of 5 or more stands. -/
def Good (x : List UInt8) : Prop := right x = true ∧ ∀ n, 5 ≤ n → n < 18446744073709551616 → Clean (97 :: put n) x
theorem put_inj {n m : Nat} (hn : n < 18446744073709551616) (hm : m < 18446744073709551616) (h : put n = put m) : n = m := by
  have h1 := take_put hn []
  have h2 := take_put hm []
  rw [h, h2] at h1
  have := Option.some.inj h1
  injection this with h3 _
  exact h3.symm
theorem good_of {x : List UInt8} (h : right x = true) (h97 : x.headD 0 ≠ 97) (hp : ∀ p ∈ pts x, Good p) : Good x := by
  refine ⟨h, fun n h5 hn hs => ?_⟩
  rcases sub_cases hs with h1 | ⟨p, hpp, h1⟩
  · rw [← h1] at h97; exact h97 rfl
  · exact (hp p hpp).2 n h5 hn h1
theorem good_atom {v : Nat} (hv : v < 5) : Good (ofAtom v) := by
  have hr : right (ofAtom v) = true := ofAtom_right (by omega)
  refine ⟨hr, fun n h5 hn hs => ?_⟩
  rcases sub_cases hs with h1 | ⟨p, hpp, _⟩
  · have h2 : put n = put v := by injection h1
    have := put_inj hn (by omega) h2
    omega
  · rw [pts_zero hr (.inl rfl)] at hpp; cases hpp
theorem good_text {s : List UInt8} (h : right (116 :: s) = true) : Good (116 :: s) := good_of h (by simp) (fun p hp => by rw [pts_zero h (.inr rfl)] at hp; cases hp)
theorem pts_bi {k : UInt8} {a b : List UInt8} (hk : k = 112 ∨ k = 115 ∨ k = 98 ∨ k = 103) (h : right (k :: (a ++ b)) = true) (ha : right a = true) : pts (k :: (a ++ b)) = [a, b] := by
  obtain ⟨x, y, h1, h2, h3, h4, _⟩ := pts_two h hk
  obtain ⟨rfl, rfl⟩ := right_cut ha h3 h1
  exact h2
theorem one_made {k : UInt8} {a x : List UInt8} {f : Int} (h : one k a = (x, f)) (h0 : f = 0) : x = k :: a ∧ right (k :: a) = true ∧ right a = true := by
  unfold one at h
  split at h
  · rename_i ha
    rcases made_err h with ⟨_, h1, h2⟩ | ⟨h1, _⟩
    · exact ⟨h1, h2, ha⟩
    · omega
  · simp only [Prod.mk.injEq] at h; omega
theorem two_made {k : UInt8} {a b x : List UInt8} {f : Int} (h : two k a b = (x, f)) (h0 : f = 0) : x = k :: (a ++ b) ∧ right (k :: (a ++ b)) = true ∧ right a = true ∧ right b = true := by
  unfold two at h
  split at h
  · rename_i ha
    rcases made_err h with ⟨_, h1, h2⟩ | ⟨h1, _⟩
    · exact ⟨h1, h2, ha.1, ha.2⟩
    · omega
  · simp only [Prod.mk.injEq] at h; omega
theorem one_good {k : UInt8} {a x : List UInt8} {f : Int} (hk : k = 104 ∨ k = 117) (ha : Good a) (h : one k a = (x, f)) : f = 0 → Good x := fun h0 => by
  obtain ⟨rfl, h1, _⟩ := one_made h h0
  refine good_of h1 (by rcases hk with rfl | rfl <;> simp) fun p hp => ?_
  rw [(pts_one h1 hk).1] at hp
  rw [List.mem_singleton.1 hp]; exact ha
theorem bi_good {k : UInt8} {a b : List UInt8} (hk : k = 112 ∨ k = 115 ∨ k = 98 ∨ k = 103) (h : right (k :: (a ++ b)) = true) (ha : Good a) (hb : Good b) : Good (k :: (a ++ b)) := by
  refine good_of h (by rcases hk with rfl | rfl | rfl | rfl <;> simp) fun p hp => ?_
  rw [pts_bi hk h ha.1] at hp
  have : p = a ∨ p = b := by simpa using hp
  rcases this with rfl | rfl
  · exact ha
  · exact hb
theorem two_good {k : UInt8} {a b x : List UInt8} {f : Int} (hk : k = 112 ∨ k = 115 ∨ k = 98 ∨ k = 103) (ha : Good a) (hb : Good b) (h : two k a b = (x, f)) : f = 0 → Good x := fun h0 => by
  obtain ⟨rfl, h1, _⟩ := two_made h h0
  exact bi_good hk h1 ha hb
theorem one_empty {k : UInt8} {a x : List UInt8} {f : Int} (h : one k a = (x, f)) : f ≠ 0 → right x = false := fun h0 => by
  unfold one at h
  split at h
  · rcases made_err h with ⟨h1, _⟩ | ⟨_, h1, _⟩
    · exact absurd h1 h0
    · rw [h1]; rfl
  · simp only [Prod.mk.injEq] at h; rw [← h.1]; rfl
theorem box_good {y b x : List UInt8} {g f : Int} (hy : g = 0 → Good y) (hye : g ≠ 0 → right y = false) (hb : Good b) (h : box y b = (x, f)) : f = 0 → Good x := fun h0 => by
  unfold box at h
  split at h
  · rename_i hr
    by_cases hg : g = 0
    · exact two_good (by simp) (hy hg) hb h h0
    · have := hye hg
      rw [hr.1] at this; cases this
  · simp only [Prod.mk.injEq] at h; omega
def AGood (e : Ending) : Prop := ∃ T : ByteArray, Good T.data.toList ∧ e = .returned (.string T)
/-- The stack of good terms. -/
def GStack (w : World) (n : Nat) (v : Value) (wr : World) : Prop := ∃ ys : List ByteArray, ys.length = n ∧ wr.ownsRow w.heap.size 9 1 v n (sv ys) ∧ (∀ y ∈ ys, Good y.data.toList) ∧ Below w.heap.size w wr
theorem getD_good {ys : List ByteArray} {n j : Nat} (hy : ys.length = n) (hj : j < n) (h : ∀ y ∈ ys, Good y.data.toList) : Good (ys.getD j ByteArray.empty).data.toList :=
  h _ (getD_mem (by omega) rfl)

end Go.Proofs.YtjdignbmlfbdnaaGreat.Clo

/-
  CONTRACTS of the laws' own helpers some, few, same (letterlocklaw4) at this program. By an AI agent; no person has read it.
-/
namespace Go.Proofs.YtjdignbmlfbdnaaGreat.Clo
open Go.RowKit Wire Term

/-- A slice of slices of ints that can be read. -/
def RReads (w : World) (a : Option Addr) (rows : List (List Int)) : Prop :=
  ∀ j, j < rows.length → ∃ b off A C, a = some ⟨b, off, none⟩ ∧ b < w.heap.size ∧ w.cell? ⟨b, off + j, none⟩ = some (.slice A (rows.getD j []).length C) ∧ IReads w A (rows.getD j [])
theorem RReads.below {w w' : World} {B : Nat} {a : Option Addr} {rows : List (List Int)} (h : RReads w a rows) (hb : Below B w w') (hB : w.heap.size ≤ B) : RReads w' a rows := fun j hj => by
  obtain ⟨b, off, A, C, e, hlt, hc, hz⟩ := h j hj
  exact ⟨b, off, A, C, e, Nat.lt_of_lt_of_le hlt hb.size, by rw [hb.cell (p := ⟨b, off + j, none⟩) (Nat.lt_of_lt_of_le hlt hB)]; exact hc, hz.below hb hB⟩
/-- What the frame tells of a slice of slices of ints that came in. -/
theorem rreads_of {w : World} {a : Option Addr} {len cap : Nat}
    (h : (a = none ∧ len = 0 ∧ cap = 0) ∨ ∃ x, a = some x ∧ len ≤ cap ∧ cap ≤ maxLen ∧ ∀ r, r < len → ∃ A L C Z, w.cell? (x.add r) = some (.slice A L C) ∧
      ((A = none ∧ L = 0 ∧ C = 0 ∧ Z = []) ∨ ∃ y, A = some y ∧ L ≤ C ∧ C ≤ maxLen ∧ Z.length = C ∧ (∀ i, i < Z.length → w.cell? (y.add i) = some (.int .i64 (Z.getD i 0))) ∧ ∀ n ∈ Z, (Lit.int .i64 n).wf = true)) :
    ∃ rows : List (List Int), rows.length = len ∧ len ≤ cap ∧ cap ≤ maxLen ∧ RReads w a rows := by
  rcases h with ⟨rfl, rfl, rfl⟩ | ⟨x, rfl, h1, h2, h3⟩
  · exact ⟨[], rfl, Nat.le_refl _, Nat.zero_le _, fun j hj => by simp at hj⟩
  · have each : ∀ r, r < len → ∃ zs : List Int, ∃ A C, w.cell? (x.add r) = some (.slice A zs.length C) ∧ IReads w A zs := fun r hr => by
      obtain ⟨A, L, C, Z, hc, hz⟩ := h3 r hr
      obtain ⟨ys, rfl, _, _, hi⟩ := ireads_of hz
      exact ⟨ys, A, C, hc, hi⟩
    have hf : ∃ f : Nat → List Int, ∀ r, r < len → ∃ A C, w.cell? (x.add r) = some (.slice A (f r).length C) ∧ IReads w A (f r) := by
      refine ⟨fun r => if hr : r < len then Classical.choose (each r hr) else [], fun r hr => ?_⟩
      have := Classical.choose_spec (each r hr)
      simp only [dif_pos hr]
      exact this
    obtain ⟨f, hf⟩ := hf
    refine ⟨(List.range len).map f, by simp, h1, h2, fun j hj => ?_⟩
    have hjl : j < len := by simpa using hj
    obtain ⟨A0, C0, c0, _⟩ := hf 0 (by omega)
    obtain ⟨A, C, cj, hi⟩ := hf j hjl
    have e : ((List.range len).map f).getD j [] = f j := by simp [List.getD, hjl]
    rw [e]
    obtain ⟨b, off, sp⟩ := x
    have hb : sp = none ∧ b < w.heap.size := by
      have e0 : (⟨b, off, sp⟩ : Addr).add 0 = ⟨b, off, sp⟩ := by simp [Addr.add]
      rw [e0] at c0
      unfold World.cell? at c0
      simp only at c0
      split at c0
      · rename_i h0
        refine ⟨?_, (Array.getElem?_eq_some_iff.1 h0).1⟩
        cases sp with
        | none => rfl
        | some q => simp at c0
      · cases c0
    obtain ⟨rfl, hlt⟩ := hb
    rw [add_none] at cj
    exact ⟨b, off, A, C, rfl, hlt, cj, hi⟩
theorem own_nil {w : World} {base : Nat} {e : TypeId} {a : Option Addr} {n c : Nat} {xs : List Value} (h : w.ownsRow base e 1 (.slice a n c) n xs) : a = none → c = 0 := by
  rintro rfl
  rcases h.2 with ⟨hv, _⟩ | ⟨g, cap, _, hv, _⟩
  · injection hv
  · injection hv with h1; cases h1
/-- Terms that some has made. -/
def Made (w : World) (n : Nat) (v : Value) (wr : World) : Prop := ∃ ys : List ByteArray, ys.length = n ∧ wr.ownsRow w.heap.size 9 1 v n (sv ys) ∧ (∀ y ∈ ys, Good y.data.toList) ∧ Below w.heap.size w wr
/-- Good terms as an answer: at most six. -/
def Some6 (e : Ending) (w' : World) : Prop := ∃ (A : Option Addr) (c : Nat) (ys : List ByteArray), ys.length ≤ 6 ∧ ys.length ≤ c ∧ (A = none → c = 0) ∧ SReads w' A ys ∧ (∀ y ∈ ys, Good y.data.toList) ∧ e = .returned (.slice A ys.length c)
/-- What few tells, where it is so. -/
def Few (ys : List ByteArray) : Prop := (∀ y ∈ ys, y.size ≤ 1000) ∧ ys.length ≤ 250 ∧ (bl ys).flatten.length ≤ 1500
def FewE (ys : List ByteArray) (e : Ending) : Prop := ∃ b, (b = true → Few ys) ∧ e = .returned (.bool b)
theorem fewE_no (ys : List ByteArray) : FewE ys (.returned (.bool false)) := ⟨false, by simp, rfl⟩
theorem sum_step {ys : List ByteArray} {k : Nat} {y : ByteArray} (hk : k < ys.length) (hy : ys.getD k ByteArray.empty = y) : (bl (ys.take (k + 1))).flatten.length = (bl (ys.take k)).flatten.length + y.size := by
  have e : ys[k] = y := by rw [← hy]; simp [List.getD, hk]
  rw [List.take_succ_eq_append_getElem hk, e]
  rw [show y.size = y.data.toList.length from Lib.size_eq y]
  simp [bl]
theorem sum_le {ys : List ByteArray} {k : Nat} (h : ∀ y ∈ ys.take k, y.size ≤ 1000) : (bl (ys.take k)).flatten.length ≤ 1000 * k := by
  have h2 : ∀ l : List ByteArray, (∀ y ∈ l, y.size ≤ 1000) → (bl l).flatten.length ≤ 1000 * l.length := fun l hl => by
    induction l with
    | nil => simp [bl]
    | cons y r ih =>
      have h1 := hl y (by simp)
      have h2 := ih (fun x hx => hl x (by simp [hx]))
      have e : (bl (y :: r)).flatten.length = y.size + (bl r).flatten.length := by rw [show y.size = y.data.toList.length from Lib.size_eq y]; simp [bl]
      rw [e, List.length_cons]; omega
  have h3 := h2 _ h
  rw [List.length_take] at h3
  have : 1000 * min k ys.length ≤ 1000 * k := Nat.mul_le_mul_left _ (Nat.min_le_left _ _)
  omega
end Go.Proofs.YtjdignbmlfbdnaaGreat.Clo

/-
  WHAT closure.Apart and closure.Derives are held to: as propositions that the laws' walks take (ApartOK, DerivesOK); the chapter's example. By an AI agent; no person has read it.
-/
namespace Go.Proofs.YtjdignbmlfbdnaaGreat.Clo
open Go.RowKit Wire Term

/-- Apart's answer. -/
def Ap (held : List (List UInt8)) (x : List (List UInt8) × Int) : Prop :=
  ((∃ h ∈ held, right h = false) ∧ x = ([], 1)) ∨ ((∀ h ∈ held, right h = true) ∧ 200 < held.length ∧ x = ([], 10)) ∨
  ((∀ h ∈ held, right h = true) ∧ held.length ≤ 200 ∧ x.2 = 0 ∧ Rising x.1 ∧ ∀ y, y ∈ x.1 ↔ Had held y)
theorem wrong_not {held : List (List UInt8)} (h : ∃ h ∈ held, right h = false) (h2 : ∀ h ∈ held, right h = true) : False := by
  obtain ⟨x, hx, h3⟩ := h
  rw [h2 x hx] at h3; cases h3
theorem ap_ok {held : List (List UInt8)} {x : List (List UInt8) × Int} (h : Ap held x) (hr : ∀ h ∈ held, right h = true) (hn : held.length ≤ 200) : x.2 = 0 ∧ Rising x.1 ∧ ∀ y, y ∈ x.1 ↔ Had held y := by
  rcases h with ⟨h, _⟩ | ⟨_, h, _⟩ | ⟨_, _, h⟩
  · exact (wrong_not h hr).elim
  · omega
  · exact h
theorem ap_fun {held : List (List UInt8)} {x y : List (List UInt8) × Int} (hx : Ap held x) (hy : Ap held y) : x = y := by
  rcases hx with ⟨h1, h2⟩ | ⟨h1, h2, h3⟩ | ⟨h1, h2, h3, h4, h5⟩ <;> rcases hy with ⟨g1, g2⟩ | ⟨g1, g2, g3⟩ | ⟨g1, g2, g3, g4, g5⟩
  · rw [h2, g2]
  · exact (wrong_not h1 g1).elim
  · exact (wrong_not h1 g1).elim
  · exact (wrong_not g1 h1).elim
  · rw [h3, g3]
  · omega
  · exact (wrong_not g1 h1).elim
  · omega
  · obtain ⟨x1, x2⟩ := x
    obtain ⟨y1, y2⟩ := y
    have e1 : x1 = y1 := rising_eq h4 g4 fun z => (h5 z).trans (g5 z).symm
    have e2 : x2 = y2 := by rw [show x2 = 0 from h3, show y2 = 0 from g3]
    rw [e1, e2]
/-- Derives' answer. -/
def Dv (held : List (List UInt8)) (t : List UInt8) (b : Bool) (f : Int) : Prop :=
  ((∃ h ∈ held, right h = false) ∧ b = false ∧ f = 1) ∨ ((∀ h ∈ held, right h = true) ∧ 200 < held.length ∧ b = false ∧ f = 10) ∨
  ((∀ h ∈ held, right h = true) ∧ held.length ≤ 200 ∧ right t = false ∧ b = false ∧ f = 1) ∨
  ((∀ h ∈ held, right h = true) ∧ held.length ≤ 200 ∧ right t = true ∧ f = 0 ∧ (b = true ↔ Der held t))
theorem dv_ok {held : List (List UInt8)} {t : List UInt8} {b : Bool} {f : Int} (h : Dv held t b f) (hr : ∀ h ∈ held, right h = true) (hn : held.length ≤ 200) (ht : right t = true) : f = 0 ∧ (b = true ↔ Der held t) := by
  rcases h with ⟨h, _⟩ | ⟨_, h, _⟩ | ⟨_, _, h, _⟩ | ⟨_, _, _, h⟩
  · exact (wrong_not h hr).elim
  · omega
  · rw [ht] at h; cases h
  · exact h
theorem bool_iff {a b : Bool} {p : Prop} (h1 : a = true ↔ p) (h2 : b = true ↔ p) : a = b := by
  cases a <;> cases b
  · rfl
  · exact absurd (h1.2 (h2.1 rfl)) (by decide)
  · exact absurd (h2.2 (h1.1 rfl)) (by decide)
  · rfl
theorem dv_fun {held : List (List UInt8)} {t : List UInt8} {a b : Bool} {f g : Int} (hx : Dv held t a f) (hy : Dv held t b g) : a = b ∧ f = g := by
  rcases hx with ⟨h1, h2, h3⟩ | ⟨h1, h2, h3, h4⟩ | ⟨h1, h2, h3, h4, h5⟩ | ⟨h1, h2, h3, h4, h5⟩
  · rcases hy with ⟨_, g2, g3⟩ | ⟨g1, _⟩ | ⟨g1, _⟩ | ⟨g1, _⟩
    · rw [h2, h3, g2, g3]; exact ⟨rfl, rfl⟩
    all_goals exact (wrong_not h1 g1).elim
  · rcases hy with ⟨g1, _⟩ | ⟨_, _, g3, g4⟩ | ⟨_, g2, _⟩ | ⟨_, g2, _⟩
    · exact (wrong_not g1 h1).elim
    · rw [h3, h4, g3, g4]; exact ⟨rfl, rfl⟩
    · omega
    · omega
  · rcases hy with ⟨g1, _⟩ | ⟨_, g2, _⟩ | ⟨_, _, _, g4, g5⟩ | ⟨_, _, g3, _⟩
    · exact (wrong_not g1 h1).elim
    · omega
    · rw [h4, h5, g4, g5]; exact ⟨rfl, rfl⟩
    · rw [h3] at g3; cases g3
  · rcases hy with ⟨g1, _⟩ | ⟨_, g2, _⟩ | ⟨_, _, g3, _⟩ | ⟨_, _, _, g4, g5⟩
    · exact (wrong_not g1 h1).elim
    · omega
    · rw [h3] at g3; cases g3
    · rw [h4, g4]; exact ⟨bool_iff h5 g5, rfl⟩
/-- Apart's answer as an ending: a list that can be read. -/
def ApE (held : List (List UInt8)) (e : Ending) (w' : World) : Prop := ∃ (A : Option Addr) (c : Nat) (ys : List ByteArray) (f : Int), Ap held (bl ys, f) ∧ ys.length ≤ c ∧ ys.length ≤ 140737488355328 ∧ SReads w' A ys ∧ e = .returned (.tuple #[.slice A ys.length c, .int .i64 f])
def DvE (held : List (List UInt8)) (t : List UInt8) (e : Ending) : Prop := ∃ b f, Dv held t b f ∧ e = .returned (.tuple #[.bool b, .int .i64 f])
/-- .. and of its Derives. -/
def DerivesOK : Prop := ∀ (a : Option Addr) (c : Nat) (ys : List ByteArray) (t : ByteArray) (w : World), SReads w a ys → ys.length ≤ c → ys.length ≤ 140737488355328 → (∀ y ∈ ys, y.size ≤ 140737488355328) → t.size ≤ 140737488355328 →
  Calls Tryz.prog 25 #[.slice a ys.length c, .string t] w fun e w' => DvE (bl ys) t.data.toList e ∧ Below w.heap.size w w'

/-- A call's world behind another one, told from the first. -/
theorem Bel.call {w0 w1 w2 : World} (h : Below w0.heap.size w0 w1) (h2 : Below w1.heap.size w1 w2) : Below w0.heap.size w0 w2 := h.trans (h2.mono h.size)

theorem bl_app (xs ys : List ByteArray) : bl (xs ++ ys) = bl xs ++ bl ys := by simp [bl]

/-! ### the chapter's example -/
theorem ex1 {b : Bool} {f : Int} (h : Dv [[115, 97, 0, 116, 1, 1, 120], [97, 0]] [116, 1, 1, 120] b f) : b = true ∧ f = 0 := by
  have hr : ∀ h ∈ ([[115, 97, 0, 116, 1, 1, 120], [97, 0]] : List (List UInt8)), right h = true := by
    intro h hh
    have : h = [115, 97, 0, 116, 1, 1, 120] ∨ h = [97, 0] := by simpa using hh
    rcases this with rfl | rfl <;> rfl
  obtain ⟨h1, h2⟩ := dv_ok h hr (by simp) rfl
  exact ⟨h2.2 (tog_iff.2 (.inr (.inl rfl))), h1⟩
theorem ex2 {b : Bool} {f : Int} (h : Dv [[115, 97, 0, 97, 1, 1]] [97, 1, 1] b f) : b = false ∧ f = 0 := by
  have hr : ∀ h ∈ ([[115, 97, 0, 97, 1, 1]] : List (List UInt8)), right h = true := by
    intro h hh
    rw [List.mem_singleton.1 hh]; rfl
  obtain ⟨h1, h2⟩ := dv_ok h hr (by simp) rfl
  refine ⟨?_, h1⟩
  rw [← Bool.not_eq_true]; intro hb
  have hp : pts [115, 97, 0, 97, 1, 1] = [[97, 0], [97, 1, 1]] := rfl
  have hc : Closed (fun x => x = [115, 97, 0, 97, 1, 1]) := by
    rintro t x rfl hg
    rcases hg with ⟨h, _⟩ | ⟨h, _⟩ | ⟨_, h, _⟩ | ⟨h, _⟩
    · exact absurd h (by decide)
    · exact absurd h (by decide)
    · rw [hp] at h
      rcases tog_iff.1 h with h | h | ⟨h, _⟩
      · exact absurd h (by decide)
      · exact absurd h (by decide)
      · exact absurd rfl h
    · exact absurd h (by decide)
  have hs : ∀ x, Had [[115, 97, 0, 97, 1, 1]] x → x = [115, 97, 0, 97, 1, 1] := fun x hx => hx _ (fun h hh => List.mem_singleton.1 hh) hc
  rcases tog_iff.1 (h2.1 hb) with h | h | ⟨h, _⟩
  · exact absurd (hs _ h) (by decide)
  · exact absurd h (by decide)
  · exact absurd rfl h
end Go.Proofs.YtjdignbmlfbdnaaGreat.Clo

/-
  PLAIN FACTS, OF NO PROGRAM: a work list over what is known of terms: what is learnt of a term, what is told of it when it comes to be had or made, and that what is known in the end is what is had (Had) and can be put together (Der). By an AI agent; no person has read it.
-/
namespace Go.Proofs.YtjdignbmlfbdnaaGreat.Clo
open Wire Term

abbrev Tm := List UInt8
/-- Of a term: had, made, the terms that it is a part of, the terms that it is the key to. -/
abbrev Fa := Bool × Bool × List Tm × List Tm
def fa0 : Fa := (false, false, [], [])
def upd (F : Tm → Fa) (t : Tm) (x : Fa) : Tm → Fa := fun y => if y = t then x else F y
theorem upd_same (F : Tm → Fa) (t : Tm) (x : Fa) : upd F t x t = x := by unfold upd; rw [if_pos rfl]
theorem upd_other (F : Tm → Fa) {t y : Tm} (x : Fa) (h : y ≠ t) : upd F t x y = F y := by unfold upd; rw [if_neg h]

/-- The key, or the secret, to a term. -/
def keyT (t : Tm) : Option Tm := if t.headD 0 = 115 then some ((pts t).headD []) else if t.headD 0 = 98 then some ((pts t).headD []).tail else none

theorem two_drop {x y : Tm} : [x, y].drop 1 = [y] := rfl
/-- The key of a right term, and where it stands. -/
theorem key_cases {t k : Tm} (h : right t = true) (hk : keyT t = some k) :
    (t.headD 0 = 115 ∧ ∃ y, pts t = [k, y]) ∨ (t.headD 0 = 98 ∧ ∃ u y, pts t = [u, y] ∧ pts u = [k] ∧ u ∈ pts t ∧ k ∈ pts u) := by
  obtain ⟨b, r, rfl, hb⟩ := kinds h
  unfold keyT at hk
  split at hk
  · rename_i h1
    obtain rfl : b = 115 := h1
    obtain ⟨x, y, _, h2, _⟩ := pts_two h (.inr (.inl rfl))
    rw [h2] at hk
    obtain rfl : x = k := by simpa using hk
    exact .inl ⟨rfl, y, h2⟩
  · split at hk
    · rename_i h1
      obtain rfl : b = 98 := h1
      obtain ⟨x, y, _, h2, hx, _, hu⟩ := pts_two h (.inr (.inr (.inl rfl)))
      rw [h2] at hk
      have hu := hu rfl
      cases hxc : x with
      | nil => rw [hxc] at hu; cases hu
      | cons b2 r2 =>
        rw [hxc] at hu hx hk
        obtain rfl : b2 = 117 := by simpa using hu
        obtain rfl : r2 = k := by simpa using hk
        have h4 := pts_one hx (.inr rfl)
        refine .inr ⟨rfl, 117 :: r2, y, by rw [h2, hxc], h4.1, by rw [h2, hxc]; simp, by rw [h4.1]; simp⟩
    · cases hk

/-! ### what is told of a term when it is worked off -/
def O2 (F : Tm → Fa) (N : List Tm) (t : Tm) : Prop := (F t).1 = true → t ∉ N → (t.headD 0 = 112 → ∀ p ∈ pts t, (F p).1 = true) ∧ (t.headD 0 = 103 → ∀ p ∈ (pts t).drop 1, (F p).1 = true)
def O3 (F : Tm → Fa) (N : List Tm) (t : Tm) : Prop := ∀ k, keyT t = some k → (F t).1 = true → t ∉ N → (F k).2.1 = true → k ∉ N → ∀ p ∈ (pts t).drop 1, (F p).1 = true
def O4 (F : Tm → Fa) (N : List Tm) (t : Tm) : Prop := pts t ≠ [] → (∀ p ∈ pts t, (F p).2.1 = true ∧ p ∉ N) → (F t).2.1 = true
/-- What is known is so. -/
def Snd (held : List Tm) (F : Tm → Fa) : Prop := (∀ x, (F x).1 = true → Had held x ∧ (F x).2.1 = true) ∧ ∀ x, (F x).2.1 = true → Der held x
/-- How many marks are not set yet. -/
def uns (F : Tm → Fa) : List Tm → Nat
  | [] => 0
  | t :: K => (if (F t).1 = true then 0 else 1) + (if (F t).2.1 = true then 0 else 1) + uns F K
theorem uns_le (F : Tm → Fa) : ∀ K : List Tm, uns F K ≤ 2 * K.length
  | [] => Nat.le_refl _
  | t :: K => by
    have := uns_le F K
    simp only [uns, List.length_cons]
    split <;> split <;> omega
theorem uns_mono {F F' : Tm → Fa} (h1 : ∀ t, (F t).1 = true → (F' t).1 = true) (h2 : ∀ t, (F t).2.1 = true → (F' t).2.1 = true) : ∀ K, uns F' K ≤ uns F K
  | [] => Nat.le_refl _
  | t :: K => by
    have := uns_mono h1 h2 K
    have a := h1 t
    have b := h2 t
    simp only [uns]
    cases e1 : (F t).1 <;> cases e2 : (F t).2.1 <;> simp_all <;> (repeat' split) <;> omega
theorem uns_less {F F' : Tm → Fa} (h1 : ∀ t, (F t).1 = true → (F' t).1 = true) (h2 : ∀ t, (F t).2.1 = true → (F' t).2.1 = true) {x : Tm}
    (hx : ((F x).1 = false ∧ (F' x).1 = true) ∨ ((F x).2.1 = false ∧ (F' x).2.1 = true)) : ∀ K, x ∈ K → uns F' K + 1 ≤ uns F K
  | [], h => by cases h
  | t :: K, h => by
    rcases List.mem_cons.1 h with rfl | h
    · have := uns_mono h1 h2 K
      have a := h1 x
      have b := h2 x
      simp only [uns]
      rcases hx with ⟨e1, e2⟩ | ⟨e1, e2⟩
      · rw [e1, e2]
        cases e3 : (F x).2.1
        · simp; split <;> omega
        · rw [b e3]; simp; omega
      · rw [e1, e2]
        cases e3 : (F x).1
        · simp; split <;> omega
        · rw [a e3]; simp; omega
    · have := uns_less h1 h2 hx K h
      have a := h1 t
      have b := h2 t
      simp only [uns]
      cases e1 : (F t).1 <;> cases e2 : (F t).2.1 <;> simp_all <;> (repeat' split) <;> omega
/-- A step of the work: marks are set, each new one is on the list. -/
structure Gr (held K : List Tm) (F : Tm → Fa) (N : List Tm) (F' : Tm → Fa) (N' : List Tm) : Prop where
  rest : ∀ t, (F' t).2.2 = (F t).2.2
  had : ∀ t, (F t).1 = true → (F' t).1 = true
  made : ∀ t, (F t).2.1 = true → (F' t).2.1 = true
  newHad : ∀ t, (F' t).1 = true → (F t).1 = true ∨ t ∈ N'
  newMade : ∀ t, (F' t).2.1 = true → (F t).2.1 = true ∨ t ∈ N'
  kept : ∀ x ∈ N, x ∈ N'
  known : ∀ x ∈ N', x ∈ N ∨ x ∈ K
  less : N'.length + uns F' K ≤ N.length + uns F K
  sound : Snd held F → Snd held F'
theorem Gr.refl (held K : List Tm) (F : Tm → Fa) (N : List Tm) : Gr held K F N F N :=
  ⟨fun _ => rfl, fun _ h => h, fun _ h => h, fun _ h => .inl h, fun _ h => .inl h, fun _ h => h, fun _ h => .inl h, Nat.le_refl _, fun h => h⟩
theorem Gr.trans {held K : List Tm} {F F1 F2 : Tm → Fa} {N N1 N2 : List Tm} (h : Gr held K F N F1 N1) (g : Gr held K F1 N1 F2 N2) : Gr held K F N F2 N2 where
  rest t := (g.rest t).trans (h.rest t)
  had t ht := g.had t (h.had t ht)
  made t ht := g.made t (h.made t ht)
  newHad t ht := (g.newHad t ht).elim (fun h1 => (h.newHad t h1).imp id (g.kept t)) .inr
  newMade t ht := (g.newMade t ht).elim (fun h1 => (h.newMade t h1).imp id (g.kept t)) .inr
  kept x hx := g.kept x (h.kept x hx)
  known x hx := (g.known x hx).elim (h.known x) .inr
  less := Nat.le_trans g.less h.less
  sound hs := g.sound (h.sound hs)
def hvF (F : Tm → Fa) (t : Tm) : Tm → Fa := if (F t).1 = true then F else upd F t (true, true, (F t).2.2)
def hvN (F : Tm → Fa) (N : List Tm) (t : Tm) : List Tm := if (F t).1 = true then N else N ++ [t]
def mkF (F : Tm → Fa) (t : Tm) : Tm → Fa := if (F t).2.1 = true then F else upd F t ((F t).1, true, (F t).2.2)
def mkN (F : Tm → Fa) (N : List Tm) (t : Tm) : List Tm := if (F t).2.1 = true then N else N ++ [t]
theorem gr_hv {held K : List Tm} {F : Tm → Fa} (N : List Tm) {t : Tm} (ht : t ∈ K) (hh : Had held t) : Gr held K F N (hvF F t) (hvN F N t) ∧ (hvF F t t).1 = true := by
  unfold hvF hvN
  split
  · rename_i h
    exact ⟨Gr.refl _ _ _ _, h⟩
  · rename_i h
    have h1 : ∀ x, (F x).1 = true → (upd F t (true, true, (F t).2.2) x).1 = true := fun x hx => by
      unfold upd; split
      · rfl
      · exact hx
    have h2 : ∀ x, (F x).2.1 = true → (upd F t (true, true, (F t).2.2) x).2.1 = true := fun x hx => by
      unfold upd; split
      · rfl
      · exact hx
    have e0 : (F t).1 = false := by cases e : (F t).1 <;> simp_all
    refine ⟨⟨fun x => ?_, h1, h2, fun x hx => ?_, fun x hx => ?_, fun x hx => List.mem_append_left _ hx, fun x hx => ?_, ?_, fun hs => ⟨fun x hx => ?_, fun x hx => ?_⟩⟩, by rw [upd_same]⟩
    · unfold upd; split
      · rename_i e; rw [e]
      · rfl
    · by_cases e : x = t
      · exact .inr (by rw [e]; simp)
      · rw [upd_other _ _ e] at hx; exact .inl hx
    · by_cases e : x = t
      · exact .inr (by rw [e]; simp)
      · rw [upd_other _ _ e] at hx; exact .inl hx
    · rcases List.mem_append.1 hx with h | h
      · exact .inl h
      · rw [List.mem_singleton.1 h]; exact .inr ht
    · have := uns_less h1 h2 (x := t) (.inl ⟨e0, by rw [upd_same]⟩) K ht
      rw [List.length_append, List.length_singleton]
      omega
    · by_cases e : x = t
      · rw [e, upd_same]; exact ⟨hh, rfl⟩
      · rw [upd_other _ _ e] at hx ⊢; exact hs.1 x hx
    · by_cases e : x = t
      · rw [e]; exact tog_of hh
      · rw [upd_other _ _ e] at hx; exact hs.2 x hx
theorem gr_mk {held K : List Tm} {F : Tm → Fa} (N : List Tm) {t : Tm} (ht : t ∈ K) (hh : Der held t) : Gr held K F N (mkF F t) (mkN F N t) ∧ (mkF F t t).2.1 = true := by
  unfold mkF mkN
  split
  · rename_i h
    exact ⟨Gr.refl _ _ _ _, h⟩
  · rename_i h
    have h1 : ∀ x, (F x).1 = true → (upd F t ((F t).1, true, (F t).2.2) x).1 = true := fun x hx => by
      unfold upd; split
      · rename_i e; rw [e] at hx; exact hx
      · exact hx
    have h2 : ∀ x, (F x).2.1 = true → (upd F t ((F t).1, true, (F t).2.2) x).2.1 = true := fun x hx => by
      unfold upd; split
      · rfl
      · exact hx
    have e0 : (F t).2.1 = false := by cases e : (F t).2.1 <;> simp_all
    refine ⟨⟨fun x => ?_, h1, h2, fun x hx => ?_, fun x hx => ?_, fun x hx => List.mem_append_left _ hx, fun x hx => ?_, ?_, fun hs => ⟨fun x hx => ?_, fun x hx => ?_⟩⟩, by rw [upd_same]⟩
    · unfold upd; split
      · rename_i e; rw [e]
      · rfl
    · by_cases e : x = t
      · rw [e, upd_same] at hx; rw [e]; exact .inl hx
      · rw [upd_other _ _ e] at hx; exact .inl hx
    · by_cases e : x = t
      · exact .inr (by rw [e]; simp)
      · rw [upd_other _ _ e] at hx; exact .inl hx
    · rcases List.mem_append.1 hx with h | h
      · exact .inl h
      · rw [List.mem_singleton.1 h]; exact .inr ht
    · have := uns_less h1 h2 (x := t) (.inr ⟨e0, by rw [upd_same]⟩) K ht
      rw [List.length_append, List.length_singleton]
      omega
    · by_cases e : x = t
      · rw [e, upd_same] at hx ⊢; exact ⟨(hs.1 t hx).1, rfl⟩
      · rw [upd_other _ _ e] at hx ⊢; exact hs.1 x hx
    · by_cases e : x = t
      · rw [e]; exact hh
      · rw [upd_other _ _ e] at hx; exact hs.2 x hx
section
variable {held K : List Tm} {F F' : Tm → Fa} {N N' : List Tm} {t : Tm}
theorem Gr.o2 (g : Gr held K F N F' N') (h : O2 F N t) : O2 F' N' t := fun h1 h2 => by
  have a := (g.newHad t h1).resolve_right h2
  obtain ⟨x, y⟩ := h a (fun e => h2 (g.kept t e))
  exact ⟨fun e p hp => g.had p (x e p hp), fun e p hp => g.had p (y e p hp)⟩
theorem Gr.o3 (g : Gr held K F N F' N') (h : O3 F N t) : O3 F' N' t := fun k hk h1 h2 h3 h4 p hp =>
  g.had p (h k hk ((g.newHad t h1).resolve_right h2) (fun e => h2 (g.kept t e)) ((g.newMade k h3).resolve_right h4) (fun e => h4 (g.kept k e)) p hp)
theorem Gr.o4 (g : Gr held K F N F' N') (h : O4 F N t) : O4 F' N' t := fun h1 h2 =>
  g.made t (h h1 fun p hp => ⟨(g.newMade p (h2 p hp).1).resolve_right (h2 p hp).2, fun e => (h2 p hp).2 (g.kept p e)⟩)
theorem pop_not {x t0 : Tm} (h : x ∉ N) (hne : x ≠ t0) : x ∉ N ++ [t0] := fun e => by
  rcases List.mem_append.1 e with e | e
  · exact h e
  · exact hne (List.mem_singleton.1 e)
theorem o2_pop {t0 : Tm} (h : O2 F (N ++ [t0]) t) (hne : t ≠ t0) : O2 F N t := fun h1 h2 => h h1 (pop_not h2 hne)
theorem o3_pop {t0 : Tm} (h : O3 F (N ++ [t0]) t) (hne : t ≠ t0) (hk : keyT t ≠ some t0) : O3 F N t := fun k ek h1 h2 h3 h4 =>
  h k ek h1 (pop_not h2 hne) h3 (pop_not h4 fun e => hk (by rw [ek, e]))
theorem o4_pop {t0 : Tm} (h : O4 F (N ++ [t0]) t) (hk : t0 ∉ pts t) : O4 F N t := fun h1 h2 =>
  h h1 fun p hp => ⟨(h2 p hp).1, pop_not (h2 p hp).2 fun e => hk (e ▸ hp)⟩
end

/-! ### what is known of terms, all learnt -/
structure Kf (K : List Tm) (F : Tm → Fa) (A : List Tm) : Prop where
  good : ∀ t ∈ K, right t = true
  parts : ∀ t ∈ K, t ∉ A → ∀ p ∈ pts t, p ∈ K ∧ t ∈ (F p).2.2.1
  keys : ∀ t ∈ K, t ∉ A → ∀ k, keyT t = some k → t ∈ (F k).2.2.2
  ins : ∀ p, ∀ t ∈ (F p).2.2.1, t ∈ K ∧ p ∈ pts t
  opens : ∀ p, ∀ t ∈ (F p).2.2.2, t ∈ K
  text : ∀ t ∈ K, t ∉ A → t.headD 0 = 116 → (F t).2.1 = true
  known : ∀ x, (F x).1 = true ∨ (F x).2.1 = true → x ∈ K
theorem Kf.key_in {K : List Tm} {F : Tm → Fa} (h : Kf K F []) {t k : Tm} (ht : t ∈ K) (hk : keyT t = some k) : k ∈ K := by
  rcases key_cases (h.good t ht) hk with ⟨_, y, e⟩ | ⟨_, u, y, _, _, hu, hk⟩
  · exact (h.parts t ht List.not_mem_nil k (by rw [e]; simp)).1
  · exact (h.parts u (h.parts t ht List.not_mem_nil u hu).1 List.not_mem_nil k hk).1
theorem Kf.gr {held K : List Tm} {F F' : Tm → Fa} {N N' : List Tm} (h : Kf K F []) (hN : ∀ x ∈ N, x ∈ K) (g : Gr held K F N F' N') : Kf K F' [] ∧ ∀ x ∈ N', x ∈ K := by
  have hN' : ∀ x ∈ N', x ∈ K := fun x hx => (g.known x hx).elim (hN x) id
  refine ⟨⟨h.good, fun t ht h0 p hp => ?_, fun t ht h0 k hk => ?_, fun p t ht => ?_, fun p t ht => ?_, fun t ht h0 h1 => g.made t (h.text t ht h0 h1), fun x hx => ?_⟩, hN'⟩
  · rw [g.rest p]; exact h.parts t ht h0 p hp
  · rw [g.rest k]; exact h.keys t ht h0 k hk
  · rw [g.rest p] at ht; exact h.ins p t ht
  · rw [g.rest p] at ht; exact h.opens p t ht
  · rcases hx with hx | hx
    · exact (g.newHad x hx).elim (fun e => h.known x (.inl e)) (hN' x)
    · exact (g.newMade x hx).elim (fun e => h.known x (.inr e)) (hN' x)
/-- The state of the work. -/
structure Wk (held K : List Tm) (F : Tm → Fa) (N : List Tm) : Prop where
  kf : Kf K F []
  list : ∀ x ∈ N, x ∈ K
  has : ∀ h ∈ held, (F h).1 = true
  sound : Snd held F
  o2 : ∀ t ∈ K, O2 F N t
  o3 : ∀ t ∈ K, O3 F N t
  o4 : ∀ t ∈ K, O4 F N t
theorem has_parts {t : Tm} (h : right t = true) (h1 : t.headD 0 ≠ 97) (h2 : t.headD 0 ≠ 116) : pts t ≠ [] := by
  obtain ⟨b, r, rfl, hb | hb | hb | hb⟩ := kinds h
  · exact absurd hb h1
  · exact absurd hb h2
  · rw [(pts_one h hb).1]; simp
  · obtain ⟨x, y, _, e, _⟩ := pts_two h hb
    rw [e]; simp
theorem wk_tog {held K : List Tm} {F : Tm → Fa} (h : Wk held K F []) : ∀ (n : Nat) (t : Tm), t.length < n → t ∈ K → Tog (fun x => (F x).1 = true) t → (F t).2.1 = true
  | 0, _, h, _, _ => absurd h (Nat.not_lt_zero _)
  | n + 1, t, hn, hK, ht => by
    rcases tog_iff.1 ht with h1 | h1 | ⟨h1, h2⟩
    · exact (h.sound.1 t h1).2
    · exact h.kf.text t hK List.not_mem_nil h1
    · by_cases h116 : t.headD 0 = 116
      · exact h.kf.text t hK List.not_mem_nil h116
      · refine h.o4 t hK (has_parts (h.kf.good t hK) h1 h116) fun p hp => ⟨?_, List.not_mem_nil⟩
        have := (pts_right hp).2
        exact wk_tog h n p (by omega) (h.kf.parts t hK List.not_mem_nil p hp).1 (h2 p hp)
theorem wk_closed {held K : List Tm} {F : Tm → Fa} (h : Wk held K F []) : Closed (fun x => (F x).1 = true) := by
  intro t x ht hg
  have hK := h.kf.known t (.inl ht)
  obtain ⟨a, b⟩ := h.o2 t hK ht List.not_mem_nil
  rcases hg with ⟨h1, h2⟩ | ⟨h1, h2⟩ | ⟨h1, h2, h3⟩ | ⟨h1, h2, h3⟩
  · exact a h1 x h2
  · exact b h1 x h2
  · have e : keyT t = some ((pts t).headD []) := by unfold keyT; rw [if_pos h1]
    exact h.o3 t hK _ e ht List.not_mem_nil (wk_tog h _ _ (Nat.lt_succ_self _) (h.kf.key_in hK e) h2) List.not_mem_nil x h3
  · have e : keyT t = some ((pts t).headD []).tail := by unfold keyT; rw [if_neg (by rw [h1]; decide), if_pos h1]
    exact h.o3 t hK _ e ht List.not_mem_nil (wk_tog h _ _ (Nat.lt_succ_self _) (h.kf.key_in hK e) h2) List.not_mem_nil x h3
/-- In the end what is marked is what is had, and what can be put together. -/
theorem wk_had {held K : List Tm} {F : Tm → Fa} (h : Wk held K F []) (x : Tm) : (F x).1 = true ↔ Had held x :=
  ⟨fun hx => (h.sound.1 x hx).1, fun hx => hx _ h.has (wk_closed h)⟩
theorem wk_der {held K : List Tm} {F : Tm → Fa} (h : Wk held K F []) {x : Tm} (hx : x ∈ K) : (F x).2.1 = true ↔ Der held x :=
  ⟨h.sound.2 x, fun hd => wk_tog h _ _ (Nat.lt_succ_self _) hx (tog_mono (fun y hy => (wk_had h y).2 hy) hd)⟩

/-! ### taking apart, putting together -/
theorem o_idle {F : Tm → Fa} {t : Tm} (N : List Tm) (h : (F t).1 = false) : O2 F N t ∧ O3 F N t :=
  ⟨fun h1 => by (rw [h] at h1; cases h1), fun _ _ h1 => by (rw [h] at h1; cases h1)⟩
theorem key_none {t : Tm} (h1 : t.headD 0 ≠ 115) (h2 : t.headD 0 ≠ 98) : keyT t = none := by unfold keyT; rw [if_neg h1, if_neg h2]
theorem o3_none {F : Tm → Fa} {t : Tm} (N : List Tm) (h : keyT t = none) : O3 F N t := fun k hk => by (rw [h] at hk; cases hk)
theorem o2_other {F : Tm → Fa} {t : Tm} (N : List Tm) (h1 : t.headD 0 ≠ 112) (h2 : t.headD 0 ≠ 103) : O2 F N t := fun _ _ => ⟨fun h => absurd h h1, fun h => absurd h h2⟩
theorem had_pair {held : List Tm} {t x : Tm} (h : Had held t) (h1 : t.headD 0 = 112) (hx : x ∈ pts t) : Had held x := had_closed held t x h (.inl ⟨h1, hx⟩)
theorem had_signed {held : List Tm} {t x : Tm} (h : Had held t) (h1 : t.headD 0 = 103) (hx : x ∈ (pts t).drop 1) : Had held x := had_closed held t x h (.inr (.inl ⟨h1, hx⟩))
theorem had_opened {held : List Tm} {t x k : Tm} (h : Had held t) (hk : keyT t = some k) (hd : Der held k) (hx : x ∈ (pts t).drop 1) : Had held x := by
  refine had_closed held t x h ?_
  unfold keyT at hk
  split at hk
  · rename_i h1
    refine .inr (.inr (.inl ⟨h1, ?_, hx⟩))
    rw [Option.some.inj hk]; exact hd
  · split at hk
    · rename_i h1
      refine .inr (.inr (.inr ⟨h1, ?_, hx⟩))
      rw [Option.some.inj hk]; exact hd
    · cases hk
section
variable {held K : List Tm} {F : Tm → Fa} {N : List Tm} {t : Tm}
/-- A step of the work, and what was asked of it. -/
def Ta1 (held K : List Tm) (F : Tm → Fa) (N : List Tm) (t : Tm) (F' : Tm → Fa) (N' : List Tm) : Prop := Gr held K F N F' N' ∧ O2 F' N' t ∧ O3 F' N' t
theorem ta_idle (h : (F t).1 = false) : Ta1 held K F N t F N := ⟨Gr.refl _ _ _ _, o_idle N h⟩
theorem ta_leaf (h1 : t.headD 0 ≠ 112) (h2 : t.headD 0 ≠ 103) (h3 : t.headD 0 ≠ 115) (h4 : t.headD 0 ≠ 98) : Ta1 held K F N t F N := ⟨Gr.refl _ _ _ _, o2_other N h1 h2, o3_none N (key_none h3 h4)⟩
theorem ta_pair {x y : Tm} (h1 : t.headD 0 = 112) (hp : pts t = [x, y]) (hx : x ∈ K) (hy : y ∈ K) (hh : Had held t) : Ta1 held K F N t (hvF (hvF F x) y) (hvN (hvF F x) (hvN F N x) y) := by
  obtain ⟨g1, a1⟩ := gr_hv (F := F) N hx (had_pair hh h1 (by rw [hp]; simp))
  obtain ⟨g2, a2⟩ := gr_hv (F := hvF F x) (hvN F N x) hy (had_pair hh h1 (by rw [hp]; simp))
  refine ⟨g1.trans g2, fun _ _ => ⟨fun _ p hq => ?_, fun h => absurd (h1.symm.trans h) (by decide)⟩, o3_none _ (key_none (by rw [h1]; decide) (by rw [h1]; decide))⟩
  rw [hp] at hq
  have : p = x ∨ p = y := by simpa using hq
  rcases this with rfl | rfl
  · exact g2.had p a1
  · exact a2
theorem ta_signed {x y : Tm} (h1 : t.headD 0 = 103) (hp : pts t = [x, y]) (hy : y ∈ K) (hh : Had held t) : Ta1 held K F N t (hvF F y) (hvN F N y) := by
  obtain ⟨g1, a1⟩ := gr_hv (F := F) N hy (had_signed hh h1 (by rw [hp]; simp))
  refine ⟨g1, fun _ _ => ⟨fun h => absurd (h1.symm.trans h) (by decide), fun _ p hq => ?_⟩, o3_none _ (key_none (by rw [h1]; decide) (by rw [h1]; decide))⟩
  rw [hp] at hq
  have : p = y := by simpa using hq
  rw [this]; exact a1
theorem key_kind {k : Tm} (hk : keyT t = some k) : t.headD 0 = 115 ∨ t.headD 0 = 98 := by
  unfold keyT at hk
  split at hk
  · rename_i h; exact .inl h
  · split at hk
    · rename_i h; exact .inr h
    · cases hk
theorem ta_shut {k : Tm} (hk : keyT t = some k) (hm : (F k).2.1 = false) : Ta1 held K F N t F N := by
  refine ⟨Gr.refl _ _ _ _, o2_other N ?_ ?_, fun k' hk' _ _ h => ?_⟩
  · rcases key_kind hk with h | h <;> (rw [h]; decide)
  · rcases key_kind hk with h | h <;> (rw [h]; decide)
  · rw [hk] at hk'
    rw [← Option.some.inj hk', hm] at h
    cases h
theorem ta_opened {k x y : Tm} (hk : keyT t = some k) (hp : pts t = [x, y]) (hd : Der held k) (hy : y ∈ K) (hh : Had held t) : Ta1 held K F N t (hvF F y) (hvN F N y) := by
  obtain ⟨g1, a1⟩ := gr_hv (F := F) N hy (had_opened hh hk hd (by rw [hp]; simp))
  refine ⟨g1, o2_other _ ?_ ?_, fun k' _ _ _ _ _ p hq => ?_⟩
  · rcases key_kind hk with h | h <;> (rw [h]; decide)
  · rcases key_kind hk with h | h <;> (rw [h]; decide)
  · rw [hp] at hq
    have : p = y := by simpa using hq
    rw [this]; exact a1
theorem pt_not {p : Tm} (hp : p ∈ pts t) (hm : (F p).2.1 = false) : O4 F N t := fun _ h => by
  have := (h p hp).1
  rw [hm] at this; cases this
theorem pt_made (hr : right t = true) (hn : pts t ≠ []) (ht : t ∈ K) (hs : Snd held F) (hm : ∀ p ∈ pts t, (F p).2.1 = true) : Gr held K F N (mkF F t) (mkN F N t) ∧ O4 (mkF F t) (mkN F N t) t := by
  have hd : Der held t := by
    refine tog_iff.2 (.inr (.inr ⟨fun h => hn (pts_zero hr (.inl h)), fun p hp => hs.2 p (hm p hp)⟩))
  obtain ⟨g, a⟩ := gr_mk (F := F) N ht hd
  exact ⟨g, fun _ _ => a⟩
end

/-- A round of the work: t is worked off. -/
theorem wk_round {held K : List Tm} {F F1 F3 : Tm → Fa} {N0 N1 N3 : List Tm} {t : Tm} (h : Wk held K F (N0 ++ [t])) (a : Ta1 held K F N0 t F1 N1) (g : Gr held K F1 N1 F3 N3) (h4 : ∀ x ∈ (F t).2.2.1, O4 F3 N3 x) (h3 : ∀ x ∈ (F t).2.2.2, O3 F3 N3 x) : Wk held K F3 N3 ∧ N3.length + uns F3 K < (N0 ++ [t]).length + uns F K := by
  have G := a.1.trans g
  have hN0 : ∀ x ∈ N0, x ∈ K := fun x hx => h.list x (List.mem_append_left _ hx)
  obtain ⟨k1, k2⟩ := h.kf.gr hN0 G
  refine ⟨⟨k1, k2, fun x hx => G.had x (h.has x hx), G.sound h.sound, fun x hx => ?_, fun x hx => ?_, fun x hx => ?_⟩, ?_⟩
  · by_cases e : x = t
    · rw [e]; exact g.o2 a.2.1
    · exact G.o2 (o2_pop (h.o2 x hx) e)
  · by_cases e : x = t
    · rw [e]; exact g.o3 a.2.2
    · by_cases hk : keyT x = some t
      · exact h3 x (h.kf.keys x hx List.not_mem_nil t hk)
      · exact G.o3 (o3_pop (h.o3 x hx) e hk)
  · by_cases hp : t ∈ pts x
    · exact h4 x (h.kf.parts x hx List.not_mem_nil t hp).2
    · exact G.o4 (o4_pop (h.o4 x hx) hp)
  · have := G.less
    rw [List.length_append, List.length_singleton]
    omega

/-- On the way through a round. -/
theorem wk_way {held K : List Tm} {F F2 : Tm → Fa} {N0 N2 : List Tm} {t : Tm} (h : Wk held K F (N0 ++ [t])) (g : Gr held K F N0 F2 N2) : Kf K F2 [] ∧ Snd held F2 ∧ N2.length + uns F2 K ≤ N0.length + uns F K :=
  ⟨(h.kf.gr (fun x hx => h.list x (List.mem_append_left _ hx)) g).1, g.sound h.sound, g.less⟩

/-! ### learning -/
/-- Learning under way: A is what is being learnt. -/
structure Ln (held K : List Tm) (F : Tm → Fa) (N : List Tm) (A : List Tm) : Prop where
  kf : Kf K F A
  once : K.Nodup
  list : ∀ x ∈ N, x ∈ K
  marked : ∀ x, (F x).1 = true ∨ (F x).2.1 = true → x ∈ N
  sound : Snd held F
  new : ∀ x, x ∉ K → F x = fa0
/-- How much there is. -/
def Bd (X : Nat) (K : List Tm) (F : Tm → Fa) (N : List Tm) : Prop := K.length ≤ X ∧ (∀ p, (F p).2.2.1.length ≤ X ∧ (F p).2.2.2.length ≤ X) ∧ N.length ≤ X
theorem Bd.mono {X Y : Nat} {K : List Tm} {F : Tm → Fa} {N : List Tm} (h : Bd X K F N) (hx : X ≤ Y) : Bd Y K F N :=
  ⟨Nat.le_trans h.1 hx, fun p => ⟨Nat.le_trans (h.2.1 p).1 hx, Nat.le_trans (h.2.1 p).2 hx⟩, Nat.le_trans h.2.2 hx⟩
/-- The work begins where all is learnt. -/
theorem wk_start {held K : List Tm} {F : Tm → Fa} {N : List Tm} (h : Ln held K F N []) (hh : ∀ x ∈ held, (F x).1 = true) : Wk held K F N where
  kf := h.kf
  list := h.list
  has := hh
  sound := h.sound
  o2 t _ h1 h2 := absurd (h.marked t (.inl h1)) h2
  o3 t _ k _ h1 h2 := absurd (h.marked t (.inl h1)) h2
  o4 t _ h1 h2 := by
    cases hp : pts t with
    | nil => exact absurd hp h1
    | cons p r =>
      have := h2 p (by rw [hp]; simp)
      exact absurd (h.marked p (.inr this.1)) this.2
/-- A new term. -/
theorem ln_add {held K : List Tm} {F : Tm → Fa} {N A : List Tm} {t : Tm} (h : Ln held K F N A) (ht : t ∉ K) (hr : right t = true) : Ln held (K ++ [t]) F N (t :: A) := by
  have inK : ∀ x ∈ K ++ [t], x ∉ t :: A → x ∈ K ∧ x ∉ A := fun x hx hn => by
    rcases List.mem_append.1 hx with hx | hx
    · exact ⟨hx, fun e => hn (List.mem_cons_of_mem _ e)⟩
    · rw [List.mem_singleton.1 hx] at hn; exact absurd (List.mem_cons_self ..) hn
  refine ⟨⟨fun x hx => ?_, fun x hx hn p hp => ?_, fun x hx hn k hk => ?_, fun p x hx => ⟨List.mem_append_left _ (h.kf.ins p x hx).1, (h.kf.ins p x hx).2⟩, fun p x hx => List.mem_append_left _ (h.kf.opens p x hx), fun x hx hn h1 => ?_, fun x hx => List.mem_append_left _ (h.kf.known x hx)⟩, ?_, fun x hx => List.mem_append_left _ (h.list x hx), h.marked, h.sound, fun x hx => h.new x fun e => hx (List.mem_append_left _ e)⟩
  · rcases List.mem_append.1 hx with hx | hx
    · exact h.kf.good x hx
    · rw [List.mem_singleton.1 hx]; exact hr
  · obtain ⟨a, b⟩ := inK x hx hn
    exact ⟨List.mem_append_left _ (h.kf.parts x a b p hp).1, (h.kf.parts x a b p hp).2⟩
  · obtain ⟨a, b⟩ := inK x hx hn
    exact h.kf.keys x a b k hk
  · obtain ⟨a, b⟩ := inK x hx hn
    exact h.kf.text x a b h1
  · refine List.nodup_append.2 ⟨h.once, by simp, fun a ha b hb => ?_⟩
    rw [List.mem_singleton.1 hb]
    exact fun e => ht (e ▸ ha)
def inF (F : Tm → Fa) (p t : Tm) : Tm → Fa := upd F p ((F p).1, (F p).2.1, (F p).2.2.1 ++ [t], (F p).2.2.2)
def opF (F : Tm → Fa) (p t : Tm) : Tm → Fa := upd F p ((F p).1, (F p).2.1, (F p).2.2.1, (F p).2.2.2 ++ [t])
theorem inF_flags (F : Tm → Fa) (p t x : Tm) : (inF F p t x).1 = (F x).1 ∧ (inF F p t x).2.1 = (F x).2.1 ∧ (inF F p t x).2.2.2 = (F x).2.2.2 ∧ (∀ y ∈ (F x).2.2.1, y ∈ (inF F p t x).2.2.1) ∧ ∀ y ∈ (inF F p t x).2.2.1, y ∈ (F x).2.2.1 ∨ y = t := by
  unfold inF upd
  split
  · rename_i e; subst e
    exact ⟨rfl, rfl, rfl, fun y hy => List.mem_append_left _ hy, fun y hy => by simpa using hy⟩
  · exact ⟨rfl, rfl, rfl, fun _ hy => hy, fun _ hy => .inl hy⟩
theorem opF_flags (F : Tm → Fa) (p t x : Tm) : (opF F p t x).1 = (F x).1 ∧ (opF F p t x).2.1 = (F x).2.1 ∧ (opF F p t x).2.2.1 = (F x).2.2.1 ∧ (∀ y ∈ (F x).2.2.2, y ∈ (opF F p t x).2.2.2) ∧ ∀ y ∈ (opF F p t x).2.2.2, y ∈ (F x).2.2.2 ∨ y = t := by
  unfold opF upd
  split
  · rename_i e; subst e
    exact ⟨rfl, rfl, rfl, fun y hy => List.mem_append_left _ hy, fun y hy => by simpa using hy⟩
  · exact ⟨rfl, rfl, rfl, fun _ hy => hy, fun _ hy => .inl hy⟩
theorem ln_in {held K : List Tm} {F : Tm → Fa} {N A : List Tm} {p t : Tm} (h : Ln held K F N A) (hp : p ∈ K) (ht : t ∈ K) (hpt : p ∈ pts t) : Ln held K (inF F p t) N A ∧ t ∈ (inF F p t p).2.2.1 := by
  refine ⟨⟨⟨h.kf.good, fun x hx hn q hq => ?_, fun x hx hn k hk => ?_, fun q x hx => ?_, fun q x hx => ?_, fun x hx hn h1 => ?_, fun x hx => ?_⟩, h.once, h.list, fun x hx => ?_, ⟨fun x hx => ?_, fun x hx => ?_⟩, fun x hx => ?_⟩, by rw [inF, upd_same]; simp⟩
  · exact ⟨(h.kf.parts x hx hn q hq).1, (inF_flags F p t q).2.2.2.1 x (h.kf.parts x hx hn q hq).2⟩
  · rw [(inF_flags F p t k).2.2.1]; exact h.kf.keys x hx hn k hk
  · by_cases e : q = p
    · subst e
      rcases (inF_flags F q t q).2.2.2.2 x hx with h1 | rfl
      · exact h.kf.ins q x h1
      · exact ⟨ht, hpt⟩
    · rw [inF, upd_other _ _ e] at hx
      exact h.kf.ins q x hx
  · rw [(inF_flags F p t q).2.2.1] at hx; exact h.kf.opens q x hx
  · rw [(inF_flags F p t x).2.1]; exact h.kf.text x hx hn h1
  · rw [(inF_flags F p t x).1, (inF_flags F p t x).2.1] at hx; exact h.kf.known x hx
  · rw [(inF_flags F p t x).1, (inF_flags F p t x).2.1] at hx; exact h.marked x hx
  · rw [(inF_flags F p t x).1] at hx; rw [(inF_flags F p t x).2.1]; exact h.sound.1 x hx
  · rw [(inF_flags F p t x).2.1] at hx; exact h.sound.2 x hx
  · rw [inF, upd_other _ _ (fun e => hx (by rw [e]; exact hp))]; exact h.new x hx
theorem ln_op {held K : List Tm} {F : Tm → Fa} {N A : List Tm} {p t : Tm} (h : Ln held K F N A) (hp : p ∈ K) (ht : t ∈ K) : Ln held K (opF F p t) N A ∧ t ∈ (opF F p t p).2.2.2 := by
  refine ⟨⟨⟨h.kf.good, fun x hx hn q hq => ?_, fun x hx hn k hk => ?_, fun q x hx => ?_, fun q x hx => ?_, fun x hx hn h1 => ?_, fun x hx => ?_⟩, h.once, h.list, fun x hx => ?_, ⟨fun x hx => ?_, fun x hx => ?_⟩, fun x hx => ?_⟩, by rw [opF, upd_same]; simp⟩
  · rw [(opF_flags F p t q).2.2.1]; exact h.kf.parts x hx hn q hq
  · exact (opF_flags F p t k).2.2.2.1 x (h.kf.keys x hx hn k hk)
  · rw [(opF_flags F p t q).2.2.1] at hx; exact h.kf.ins q x hx
  · rcases (opF_flags F p t q).2.2.2.2 x hx with h1 | rfl
    · exact h.kf.opens q x h1
    · exact ht
  · rw [(opF_flags F p t x).2.1]; exact h.kf.text x hx hn h1
  · rw [(opF_flags F p t x).1, (opF_flags F p t x).2.1] at hx; exact h.kf.known x hx
  · rw [(opF_flags F p t x).1, (opF_flags F p t x).2.1] at hx; exact h.marked x hx
  · rw [(opF_flags F p t x).1] at hx; rw [(opF_flags F p t x).2.1]; exact h.sound.1 x hx
  · rw [(opF_flags F p t x).2.1] at hx; exact h.sound.2 x hx
  · rw [opF, upd_other _ _ (fun e => hx (by rw [e]; exact hp))]; exact h.new x hx
/-- A step of the work while learning goes on. -/
theorem ln_gr {held K : List Tm} {F F' : Tm → Fa} {N N' A : List Tm} (h : Ln held K F N A) (g : Gr held K F N F' N') : Ln held K F' N' A := by
  have hN' : ∀ x ∈ N', x ∈ K := fun x hx => (g.known x hx).elim (h.list x) id
  have hm : ∀ x, (F' x).1 = true ∨ (F' x).2.1 = true → x ∈ N' := fun x hx => by
    rcases hx with hx | hx
    · exact (g.newHad x hx).elim (fun e => g.kept x (h.marked x (.inl e))) id
    · exact (g.newMade x hx).elim (fun e => g.kept x (h.marked x (.inr e))) id
  refine ⟨⟨h.kf.good, fun t ht h0 p hp => ?_, fun t ht h0 k hk => ?_, fun p t ht => ?_, fun p t ht => ?_, fun t ht h0 h1 => g.made t (h.kf.text t ht h0 h1), fun x hx => hN' x (hm x hx)⟩, h.once, hN', hm, g.sound h.sound, fun x hx => ?_⟩
  · rw [g.rest p]; exact h.kf.parts t ht h0 p hp
  · rw [g.rest k]; exact h.kf.keys t ht h0 k hk
  · rw [g.rest p] at ht; exact h.kf.ins p t ht
  · rw [g.rest p] at ht; exact h.kf.opens p t ht
  · have e := h.new x hx
    have e1 : (F' x).1 = false := by
      rw [← Bool.not_eq_true]; exact fun e1 => hx (hN' x (hm x (.inl e1)))
    have e2 : (F' x).2.1 = false := by
      rw [← Bool.not_eq_true]; exact fun e1 => hx (hN' x (hm x (.inr e1)))
    have e3 := g.rest x
    rw [e] at e3
    refine Prod.ext e1 (Prod.ext e2 e3)
/-- A term is learnt. -/
theorem ln_done {held K : List Tm} {F : Tm → Fa} {N A : List Tm} {t : Tm} (h : Ln held K F N (t :: A)) (hp : ∀ p ∈ pts t, p ∈ K ∧ t ∈ (F p).2.2.1) (hk : ∀ k, keyT t = some k → t ∈ (F k).2.2.2) (ht : t.headD 0 = 116 → (F t).2.1 = true) : Ln held K F N A := by
  have out : ∀ x, x ∉ A → x ≠ t → x ∉ t :: A := fun x h1 h2 h3 => (List.mem_cons.1 h3).elim h2 h1
  refine ⟨⟨h.kf.good, fun x hx hn p hq => ?_, fun x hx hn k hq => ?_, h.kf.ins, h.kf.opens, fun x hx hn h1 => ?_, h.kf.known⟩, h.once, h.list, h.marked, h.sound, h.new⟩
  · by_cases e : x = t
    · rw [e] at hq ⊢; exact hp p hq
    · exact h.kf.parts x hx (out x hn e) p hq
  · by_cases e : x = t
    · rw [e] at hq ⊢; exact hk k hq
    · exact h.kf.keys x hx (out x hn e) k hq
  · by_cases e : x = t
    · rw [e] at h1 ⊢; exact ht h1
    · exact h.kf.text x hx (out x hn e) h1
theorem ln_none (held : List Tm) : Ln held [] (fun _ => fa0) [] [] where
  kf := ⟨fun _ h => (List.not_mem_nil h).elim, fun _ h => (List.not_mem_nil h).elim, fun _ h => (List.not_mem_nil h).elim, fun _ _ h => (List.not_mem_nil h).elim, fun _ _ h => (List.not_mem_nil h).elim, fun _ h => (List.not_mem_nil h).elim, fun _ h => h.elim (fun h => nomatch h) (fun h => nomatch h)⟩
  once := List.nodup_nil
  list _ h := (List.not_mem_nil h).elim
  marked _ h := h.elim (fun h => nomatch h) (fun h => nomatch h)
  sound := ⟨fun _ h => (nomatch h), fun _ h => (nomatch h)⟩
  new _ _ := rfl
/-- The key of a term that is being learnt, whose parts are learnt. -/
theorem key_known {held K : List Tm} {F : Tm → Fa} {N A : List Tm} {t k : Tm} (h : Ln held K F N (t :: A)) (hr : right t = true) (hA : ∀ a ∈ A, t.length < a.length) (hp : ∀ p ∈ pts t, p ∈ K) (hk : keyT t = some k) : k ∈ K := by
  rcases key_cases hr hk with ⟨_, y, e⟩ | ⟨_, u, y, _, _, hu, hk⟩
  · exact hp k (by rw [e]; simp)
  · refine (h.kf.parts u (hp u hu) (fun e => ?_) k hk).1
    have := (pts_right hu).2
    rcases List.mem_cons.1 e with e | e
    · rw [e] at this; omega
    · have := hA u e; omega
/-! ### how much is learnt -/
def cost (l : List Tm) : Nat := (l.map fun p => 4 * p.length + 1).sum
theorem cost_app (l : List Tm) (p : Tm) : cost (l ++ [p]) = cost l + (4 * p.length + 1) := by simp [cost]
theorem cost_append (a b : List Tm) : cost (a ++ b) = cost a + cost b := by simp [cost]
theorem cost_take (l : List Tm) (k : Nat) : cost (l.take k) ≤ cost l := by
  have := cost_append (l.take k) (l.drop k)
  rw [List.take_append_drop] at this
  omega
theorem cost_le {t : Tm} (h : right t = true) : cost (pts t) + 2 ≤ 4 * t.length := by
  obtain ⟨b, r, rfl, hb | hb | hb | hb⟩ := kinds h
  · rw [pts_zero h (.inl hb)]; simp [cost]; omega
  · rw [pts_zero h (.inr hb)]; simp [cost]; omega
  · rw [(pts_one h hb).1]; simp [cost]; omega
  · obtain ⟨x, y, rfl, e, _⟩ := pts_two h hb
    rw [e]; simp [cost]; omega
theorem bd_add {B : Nat} {K : List Tm} {F : Tm → Fa} {N : List Tm} (h : Bd B K F N) (t : Tm) : Bd (B + 1) (K ++ [t]) F N :=
  ⟨by rw [List.length_append, List.length_singleton]; have := h.1; omega, fun p => ⟨Nat.le_succ_of_le (h.2.1 p).1, Nat.le_succ_of_le (h.2.1 p).2⟩, Nat.le_succ_of_le h.2.2⟩
theorem bd_in {B : Nat} {K : List Tm} {F : Tm → Fa} {N : List Tm} (h : Bd B K F N) (p t : Tm) : Bd (B + 1) K (inF F p t) N := by
  refine ⟨Nat.le_succ_of_le h.1, fun q => ?_, Nat.le_succ_of_le h.2.2⟩
  obtain ⟨a, b⟩ := h.2.1 q
  by_cases e : q = p
  · rw [e] at a b ⊢
    rw [inF, upd_same]
    exact ⟨by simp only [List.length_append, List.length_singleton]; omega, Nat.le_succ_of_le b⟩
  · rw [inF, upd_other _ _ e]
    exact ⟨Nat.le_succ_of_le a, Nat.le_succ_of_le b⟩
theorem bd_op {B : Nat} {K : List Tm} {F : Tm → Fa} {N : List Tm} (h : Bd B K F N) (p t : Tm) : Bd (B + 1) K (opF F p t) N := by
  refine ⟨Nat.le_succ_of_le h.1, fun q => ?_, Nat.le_succ_of_le h.2.2⟩
  obtain ⟨a, b⟩ := h.2.1 q
  by_cases e : q = p
  · rw [e] at a b ⊢
    rw [opF, upd_same]
    exact ⟨Nat.le_succ_of_le a, by simp only [List.length_append, List.length_singleton]; omega⟩
  · rw [opF, upd_other _ _ e]
    exact ⟨Nat.le_succ_of_le a, Nat.le_succ_of_le b⟩
theorem bd_gr {held : List Tm} {B : Nat} {K : List Tm} {F F' : Tm → Fa} {N N' : List Tm} (h : Bd B K F N) (g : Gr held K F N F' N') (hN : N'.length ≤ N.length + 1) : Bd (B + 1) K F' N' := by
  refine ⟨Nat.le_succ_of_le h.1, fun q => ?_, by have := h.2.2; omega⟩
  rw [g.rest q]
  exact ⟨Nat.le_succ_of_le (h.2.1 q).1, Nat.le_succ_of_le (h.2.1 q).2⟩
theorem mkN_len (F : Tm → Fa) (N : List Tm) (t : Tm) : (mkN F N t).length ≤ N.length + 1 := by
  unfold mkN; split
  · omega
  · rw [List.length_append, List.length_singleton]; omega
theorem hvN_len (F : Tm → Fa) (N : List Tm) (t : Tm) : (hvN F N t).length ≤ N.length + 1 := by
  unfold hvN; split
  · omega
  · rw [List.length_append, List.length_singleton]; omega
theorem mkF_had (F : Tm → Fa) (t x : Tm) : (mkF F t x).1 = (F x).1 := by
  unfold mkF; split
  · rfl
  · unfold upd; split
    · rename_i e; rw [e]
    · rfl
theorem mkF_ins (F : Tm → Fa) (t x : Tm) : (mkF F t x).2.2 = (F x).2.2 := by
  unfold mkF; split
  · rfl
  · unfold upd; split
    · rename_i e; rw [e]
    · rfl
end Go.Proofs.YtjdignbmlfbdnaaGreat.Clo

/-
  WHAT THE CODE'S mind IS IN MEMORY: a struct of a map and a slice; the map's values are structs with slices; whose block is whose is told by a tag. By an AI agent; no person has read it.
-/
namespace Go.Proofs.YtjdignbmlfbdnaaGreat.Clo
open Go.RowKit Wire Term

/-- An element of the map, read as itself. -/
def Rv (v : Value) : Option (DataW Value × List MemPlace) := some (.held v, [])
theorem lawS : Go.Maps.Keyed Tryz.prog 9 := Go.Maps.string_keyed Tryz.underlying9
/-- A fact as the map holds it. -/
def fv (t : Tm) (x : Fa) (pv iv ov : Value) : Value := .agg #[.int .u8 ((t.headD 0).toNat : Int), pv, .bool x.1, .bool x.2.1, iv, ov]
theorem zero_fact (w : World) : (zeroValue 80).run Tryz.prog w = .ok (.agg #[.int .u8 0, .slice none 0 0, .bool false, .bool false, .slice none 0 0, .slice none 0 0]) w := by kernel_rfl
/-- The fields of a fact that is no variable. -/
theorem field_parts (kb : Int) (b1 b2 : Bool) (a ia oa : Option Addr) (n c il ic ol oc : Nat) (w : World) : (Instr.field 80 (.agg #[.int .u8 kb, .slice a n c, .bool b1, .bool b2, .slice ia il ic, .slice oa ol oc]) 1).run Tryz.prog w = .ok (.slice a n c) w := by kernel_rfl
theorem field_made (kb : Int) (b1 b2 : Bool) (a ia oa : Option Addr) (n c il ic ol oc : Nat) (w : World) : (Instr.field 80 (.agg #[.int .u8 kb, .slice a n c, .bool b1, .bool b2, .slice ia il ic, .slice oa ol oc]) 3).run Tryz.prog w = .ok (.bool b2) w := by kernel_rfl

/-! ### the map -/
def MapIs (w : World) (mb : Nat) (K : List Tm) (V : Tm → Value) : Prop :=
  ∃ D, w.ownsMap Tryz.prog 9 Rv mb K.length D ∧ Maps.size D = K.length ∧ (∀ t, Maps.has D (.string t) = true ↔ t ∈ K) ∧ ∀ t ∈ K, ∀ z, D.atKey (.string t) z = .held (V t)
theorem MapIs.lt {w : World} {mb : Nat} {K : List Tm} {V : Tm → Value} (h : MapIs w mb K V) : mb < w.heap.size := by
  obtain ⟨D, h, _⟩ := h
  exact h.lt
theorem MapIs.block {w w' : World} {mb : Nat} {K : List Tm} {V : Tm → Value} (h : MapIs w mb K V) (hb : w'.heap[mb]? = w.heap[mb]?) : MapIs w' mb K V := by
  obtain ⟨D, ⟨es, clock, h1, h2⟩, h3⟩ := h
  exact ⟨D, ⟨es, clock, hb.trans h1, h2⟩, h3⟩
theorem MapIs.congr {w : World} {mb : Nat} {K : List Tm} {V V' : Tm → Value} (h : MapIs w mb K V) (hv : ∀ t ∈ K, V t = V' t) : MapIs w mb K V' := by
  obtain ⟨D, h1, h2, h3, h4⟩ := h
  exact ⟨D, h1, h2, h3, fun t ht z => by rw [h4 t ht z, hv t ht]⟩
theorem mapIs_made (w : World) (V : Tm → Value) : MapIs (w.alloc (.map #[] 0)) w.heap.size [] V :=
  ⟨.map [], World.ownsMap_made _ _ _ _, rfl, fun t => ⟨fun h => by simp [Maps.has] at h, fun h => (List.not_mem_nil h).elim⟩, fun _ h => (List.not_mem_nil h).elim⟩
/-- How many there are, as the bound. -/
theorem World.ownsMap.exact {P : Program} {k : TypeId} {w : World} {b n : Nat} {D : DataW Value} (h : w.ownsMap P k Rv b n D) : w.ownsMap P k Rv b (Maps.size D) D := by
  obtain ⟨es, clock, hb, F, _, hD⟩ := h
  refine ⟨es, clock, hb, F, ?_, hD⟩
  rw [hD]
  simp [Maps.size, length_sorted]
theorem key_mk {s : ByteArray} (h : s.size ≤ 4000) : keyOf Tryz.prog 9 (.string s) = some (.string s.data.toList) :=
  Go.WideMaps.keyOf_string_mk Tryz.underlying9 (Nat.le_trans h (by decide))
section
variable {w : World} {mb : Nat} {K : List Tm} {V : Tm → Value}
theorem MapIs.look (h : MapIs w mb K V) {s : ByteArray} (hs : s.size ≤ 4000) (ht : s.data.toList ∈ K) : (Instr.lookup 81 (.map (some mb)) (.string s) false).run Tryz.prog w = .ok (V s.data.toList) w := by
  obtain ⟨D, h1, _, _, h4⟩ := h
  obtain ⟨v, ps, hrun, hv⟩ := h1.lookup lawS Tryz.underlying81 (zero_fact w) rfl (key_mk hs)
  rw [h4 _ ht] at hv
  obtain rfl : v = V s.data.toList := by
    have := congrArg Prod.fst (Option.some.inj hv)
    exact DataW.held.inj this
  exact hrun
theorem MapIs.look_in (h : MapIs w mb K V) {s : ByteArray} (hs : s.size ≤ 4000) (ht : s.data.toList ∈ K) : (Instr.lookup 81 (.map (some mb)) (.string s) true).run Tryz.prog w = .ok (.tuple #[V s.data.toList, .bool true]) w := by
  obtain ⟨D, h1, _, h3, h4⟩ := h
  obtain ⟨v, ps, hrun, hv⟩ := h1.look_ok lawS Tryz.underlying81 (zero_fact w) rfl (key_mk hs)
  rw [h4 _ ht] at hv
  obtain rfl : v = V s.data.toList := by
    have := congrArg Prod.fst (Option.some.inj hv)
    exact DataW.held.inj this
  rw [(h3 _).2 ht] at hrun
  exact hrun
theorem MapIs.look_out (h : MapIs w mb K V) {s : ByteArray} (hs : s.size ≤ 4000) (ht : s.data.toList ∉ K) : (Instr.lookup 81 (.map (some mb)) (.string s) true).run Tryz.prog w = .ok (.tuple #[.agg #[.int .u8 0, .slice none 0 0, .bool false, .bool false, .slice none 0 0, .slice none 0 0], .bool false]) w := by
  obtain ⟨D, h1, _, h3, h4⟩ := h
  have hf : Maps.has D (.string s.data.toList) = false := by
    rw [← Bool.not_eq_true]; exact fun e => ht ((h3 _).1 e)
  obtain ⟨v, ps, hrun, hv⟩ := h1.look_ok lawS Tryz.underlying81 (zero_fact w) rfl (key_mk hs)
  rw [Maps.atKey_of_not_has hf] at hv
  obtain rfl : v = _ := (DataW.held.inj (congrArg Prod.fst (Option.some.inj hv)))
  rw [hf] at hrun
  exact hrun
def updV (V : Tm → Value) (t : Tm) (v : Value) : Tm → Value := fun y => if y = t then v else V y
theorem updV_same (V : Tm → Value) (t : Tm) (v : Value) : updV V t v t = v := by unfold updV; rw [if_pos rfl]
theorem updV_other (V : Tm → Value) {t y : Tm} (v : Value) (h : y ≠ t) : updV V t v y = V y := by unfold updV; rw [if_neg h]
theorem str_ne {t y : Tm} (h : y ≠ t) : (Lit.string y) ≠ .string t := fun e => h (Lit.string.inj e)
theorem MapIs.put_old (h : MapIs w mb K V) {s : ByteArray} (hs : s.size ≤ 4000) (ht : s.data.toList ∈ K) (hK : K.length < maxLen) (v : Value) :
    ∃ w', (Instr.mapUpdate 81 (.map (some mb)) (.string s) v).run Tryz.prog w = .ok () w' ∧ MapIs w' mb K (updV V s.data.toList v) ∧ w.grownBy w' (some mb) := by
  obtain ⟨D, h1, h2, h3, h4⟩ := h
  obtain ⟨w', hrun, hown, hg⟩ := h1.update (d := .held v) (ps := []) lawS Tryz.underlying81 hK (key_mk hs) rfl
  have hsz : Maps.size (D.put (.string s.data.toList) (.held v)) = K.length := by
    rw [Maps.size_put (h1.tidy lawS), (h3 _).2 ht, if_pos rfl, h2]
  refine ⟨w', hrun, ⟨_, ?_, hsz, fun t => ?_, fun t ht2 z => ?_⟩, hg⟩
  · have := World.ownsMap.exact hown
    rw [hsz] at this; exact this
  · by_cases e : t = s.data.toList
    · rw [e, Maps.has_put_same h1.isMap (lawS.key (key_mk hs))]; exact ⟨fun _ => ht, fun _ => rfl⟩
    · rw [Maps.has_put_other (str_ne e)]; exact h3 t
  · by_cases e : t = s.data.toList
    · rw [e, Maps.atKey_put_same h1.isMap (lawS.key (key_mk hs)), updV_same]
    · rw [Maps.atKey_put_other (str_ne e), updV_other _ _ e]; exact h4 t ht2 z
theorem MapIs.put_new (h : MapIs w mb K V) {s : ByteArray} (hs : s.size ≤ 4000) (ht : s.data.toList ∉ K) (hK : K.length < maxLen) (v : Value) :
    ∃ w', (Instr.mapUpdate 81 (.map (some mb)) (.string s) v).run Tryz.prog w = .ok () w' ∧ MapIs w' mb (K ++ [s.data.toList]) (updV V s.data.toList v) ∧ w.grownBy w' (some mb) := by
  obtain ⟨D, h1, h2, h3, h4⟩ := h
  have hf : Maps.has D (.string s.data.toList) = false := by
    rw [← Bool.not_eq_true]; exact fun e => ht ((h3 _).1 e)
  obtain ⟨w', hrun, hown, hg⟩ := h1.update (d := .held v) (ps := []) lawS Tryz.underlying81 hK (key_mk hs) rfl
  have hsz : Maps.size (D.put (.string s.data.toList) (.held v)) = (K ++ [s.data.toList]).length := by
    rw [Maps.size_put (h1.tidy lawS), hf, h2]; simp
  refine ⟨w', hrun, ⟨_, ?_, hsz, fun t => ?_, fun t ht2 z => ?_⟩, hg⟩
  · have := World.ownsMap.exact hown
    rw [hsz] at this; exact this
  · by_cases e : t = s.data.toList
    · rw [e, Maps.has_put_same h1.isMap (lawS.key (key_mk hs))]; simp
    · rw [Maps.has_put_other (str_ne e), h3 t]; simp [e]
  · by_cases e : t = s.data.toList
    · rw [e, Maps.atKey_put_same h1.isMap (lawS.key (key_mk hs)), updV_same]
    · rw [Maps.atKey_put_other (str_ne e), updV_other _ _ e]
      rcases List.mem_append.1 ht2 with h | h
      · exact h4 t h z
      · exact absurd (List.mem_singleton.1 h) e
end

/-- A region that only reads ahead of its tail (the kit's law, the draw written as such). -/
theorem wp_still_drew {P : Program} {id : Nat} {Q : Exit → Act → World → Prop} {a : Act} {w : World} {l : List Oper} (n : Nat) (hm : P.follows .mixedOrders = true) (hB : Region.lexTailB .any l.toArray n = true)
    (h : wpStill P l.toArray w.drew (fun a' => wpList P l.toArray Q (l.drop n) a' w.drew) (l.take n) a) : (Code.region id l.toArray true).wp P Q a w :=
  wp_region_still_tail n hm hB h

/-! ### the map's operations, for a walk -/
section
variable {w : World} {mb : Nat} {K : List Tm} {V : Tm → Value} {ops : Array Oper} {rest : List Oper} {o : Oper} {a : Act} {Q : Exit → Act → World → Prop}
theorem wpList_put_old (hg : o.guard = none) (m x v : Operand) (hop : o.op = Op.mapUpdate 81 m x v) (hm : a.eval m = .map (some mb)) (h : MapIs w mb K V) {s : ByteArray} (hx : a.eval x = .string s) (hs : s.size ≤ 4000) (ht : s.data.toList ∈ K)
    (hK : K.length < maxLen) {val : Value} (hv : a.eval v = val) (hC : ∀ w', MapIs w' mb K (updV V s.data.toList val) → w.grownBy w' (some mb) → wpList Tryz.prog ops Q rest (a.put o.dst undef) w') : wpList Tryz.prog ops Q (o :: rest) a w := by
  refine wpList_plain hg fun K' hK' => ?_
  obtain ⟨w', hrun, r1, r2⟩ := h.put_old hs ht hK val
  unfold Oper.wp
  simp [execOp, hop, hm, hx, hv, hrun, Result.andThen]
  exact hK' _ _ (hC w' r1 r2)
theorem wpList_put_new (hg : o.guard = none) (m x v : Operand) (hop : o.op = Op.mapUpdate 81 m x v) (hm : a.eval m = .map (some mb)) (h : MapIs w mb K V) {s : ByteArray} (hx : a.eval x = .string s) (hs : s.size ≤ 4000) (ht : s.data.toList ∉ K)
    (hK : K.length < maxLen) {val : Value} (hv : a.eval v = val) (hC : ∀ w', MapIs w' mb (K ++ [s.data.toList]) (updV V s.data.toList val) → w.grownBy w' (some mb) → wpList Tryz.prog ops Q rest (a.put o.dst undef) w') : wpList Tryz.prog ops Q (o :: rest) a w := by
  refine wpList_plain hg fun K' hK' => ?_
  obtain ⟨w', hrun, r1, r2⟩ := h.put_new hs ht hK val
  unfold Oper.wp
  simp [execOp, hop, hm, hx, hv, hrun, Result.andThen]
  exact hK' _ _ (hC w' r1 r2)
end

/-! ### whose block is whose -/
abbrev Tag := Nat × Tm
/-- The world moves on; nothing turns but blocks of one tag; no old block changes its tag. -/
def Mv (g : Tag) (own own' : Nat → Tag) (w w' : World) : Prop := w.heap.size ≤ w'.heap.size ∧ ∀ b, b < w.heap.size → own b ≠ g → own' b = own b ∧ w'.heap[b]? = w.heap[b]?
theorem mv_alloc (g : Tag) (own : Nat → Tag) (w : World) (o : Obj) : Mv g own own w (w.alloc o) :=
  ⟨(World.grownBy_alloc w o none).size, fun b hb _ => ⟨rfl, (MapKept.heap_alloc w o).2 b hb⟩⟩
theorem mv_grown {own : Nat → Tag} {w w' : World} {r : Nat} (h : w.grownBy w' (some r)) : Mv (own r) own own w w' :=
  ⟨h.size, fun b hb hne => ⟨rfl, h.block b hb fun e => hne (by rw [Option.some.inj e])⟩⟩
theorem mv_below {g : Tag} {own : Nat → Tag} {w w' : World} (h : Below w.heap.size w w') : Mv g own own w w' := ⟨h.size, fun b hb _ => ⟨rfl, h.block b hb⟩⟩
theorem lit_cells_at (W : World) (cs : Array Value) (t : TypeId) (g : Nat) (hg : g = W.heap.size) : ∀ j u, cs.toList[j]? = some u → (W.alloc (.cells cs t)).cell? ((⟨g, 0, none⟩ : Addr).add j) = some u := by
  subst hg
  exact lit_cells W cs t
theorem cell_off (w : World) (b : Nat) {j k : Nat} (v : Value) (h : j ≠ k) : (w.setCell ⟨b, k, none⟩ v).cell? ⟨b, j, none⟩ = w.cell? ⟨b, j, none⟩ :=
  World.cell?_setCell_other _ _ _ _ (fun e => h (by injection e with _ e _; exact e.symm))
theorem cell_block (w : World) {b b' : Nat} (j k : Nat) (v : Value) (h : b' ≠ b) : (w.setCell ⟨b, k, none⟩ v).cell? ⟨b', j, none⟩ = w.cell? ⟨b', j, none⟩ :=
  World.cell?_setCell_other _ _ _ _ (fun e => h (by injection e with e _ _; exact e.symm))
theorem cell_same (w : World) (b k : Nat) {u : Value} (v : Value) (h : w.cell? ⟨b, k, none⟩ = some u) : (w.setCell ⟨b, k, none⟩ v).cell? ⟨b, k, none⟩ = some v :=
  World.cell?_setCell_same _ _ _ h
theorem two_new (w : World) (o1 o2 : Obj) : Below w.heap.size w ((w.alloc o1).alloc o2) := by
  have h1 := (Below.refl w.heap.size w).alloc (Nat.le_refl _) o1
  exact h1.alloc h1.size o2
/-- A row is appended to: where the new one lies bears the tag. -/
def setT (own : Nat → Tag) (b : Nat) (g : Tag) : Nat → Tag := fun x => if x = b then g else own x
theorem setT_same (own : Nat → Tag) (b : Nat) (g : Tag) : setT own b g b = g := by unfold setT; rw [if_pos rfl]
theorem mv_row {own : Nat → Tag} {w w' : World} {v : Value} {g : Nat} {tag : Tag} (h : w.grownBy w' v.ownBlock) (ht : ∀ b, v.ownBlock = some b → own b = tag) (hat : v.ownBlock = some g ∨ g = w.heap.size) : Mv tag own (setT own g tag) w w' := by
  refine ⟨h.size, fun b hb hne => ⟨?_, h.block b hb fun e => hne (ht b e.symm)⟩⟩
  unfold setT
  rw [if_neg]
  rintro rfl
  rcases hat with e | e
  · exact hne (ht _ e)
  · omega
theorem bl_app' (xs : List ByteArray) (y : ByteArray) : bl (xs ++ [y]) = bl xs ++ [y.data.toList] := by simp [bl]
/-- A slice of strings that only its owner writes. -/
def IsRow (w : World) (base : Nat) (own : Nat → Tag) (v : Value) (g : Tag) (l : List Tm) : Prop :=
  ∃ ys : List ByteArray, bl ys = l ∧ w.ownsRow base 9 1 v ys.length (sv ys) ∧ ∀ b, v.ownBlock = some b → own b = g
theorem IsRow.nil (w : World) (base : Nat) (own : Nat → Tag) (g : Tag) : IsRow w base own (.slice none 0 0) g [] := ⟨[], rfl, World.ownsRow_nil _ _ _ _, fun b h => by cases h⟩
theorem IsRow.move {w w' : World} {base : Nat} {own own' : Nat → Tag} {v : Value} {g tag : Tag} {l : List Tm} (h : IsRow w base own v g l) (m : Mv tag own own' w w') (hne : g ≠ tag) : IsRow w' base own' v g l := by
  obtain ⟨ys, h1, h2, h3⟩ := h
  have hb : ∀ b, v.ownBlock = some b → own' b = g ∧ w'.heap[b]? = w.heap[b]? := fun b e => by
    obtain ⟨_, hlt⟩ := h2.lt b e
    obtain ⟨m1, m2⟩ := m.2 b hlt (by rw [h3 b e]; exact hne)
    exact ⟨m1.trans (h3 b e), m2⟩
  refine ⟨ys, h1, ⟨h2.1, ?_⟩, fun b e => (hb b e).1⟩
  rcases h2.2 with h | ⟨x, cap, cur, rfl, a1, a2, a3⟩
  · exact .inl h
  · exact .inr ⟨x, cap, cur, rfl, a1, (hb x rfl).2.trans a2, a3⟩
/-- A slice of strings that nobody writes any more. -/
def IsParts (w : World) (own : Nat → Tag) (v : Value) (l : List Tm) : Prop :=
  ∃ (a : Option Addr) (c : Nat) (ys : List ByteArray), v = .slice a ys.length c ∧ ys.length ≤ c ∧ bl ys = l ∧ SReads w a ys ∧ ∀ b off, 0 < ys.length → a = some ⟨b, off, none⟩ → own b = (6, [])
theorem IsParts.move {w w' : World} {own own' : Nat → Tag} {v : Value} {tag : Tag} {l : List Tm} (h : IsParts w own v l) (m : Mv tag own own' w w') (hne : ((6, []) : Tag) ≠ tag) : IsParts w' own' v l := by
  obtain ⟨a, c, ys, rfl, h1, h2, h3, h4⟩ := h
  have hb : ∀ b off, 0 < ys.length → a = some ⟨b, off, none⟩ → b < w.heap.size ∧ own' b = (6, []) ∧ w'.heap[b]? = w.heap[b]? := fun b off h0 e => by
    obtain ⟨b', off', e', hlt, _⟩ := h3 0 h0
    rw [e] at e'
    injection e' with e'
    injection e' with e1 _ _
    subst e1
    obtain ⟨m1, m2⟩ := m.2 b hlt (by rw [h4 b off h0 e]; exact hne)
    exact ⟨hlt, m1.trans (h4 b off h0 e), m2⟩
  refine ⟨a, c, ys, rfl, h1, h2, fun j hj => ?_, fun b off h0 e => (hb b off h0 e).2.1⟩
  obtain ⟨b, off, e, hlt, hc⟩ := h3 j hj
  refine ⟨b, off, e, Nat.lt_of_lt_of_le hlt m.1, ?_⟩
  rw [World.cell?_of_block (a := ⟨b, off + j, none⟩) (w := w) (hb b off (by omega) e).2.2]; exact hc
theorem IsRow.form {w : World} {base : Nat} {own : Nat → Tag} {v : Value} {g : Tag} {l : List Tm} (h : IsRow w base own v g l) : ∃ A c, v = .slice A l.length c := by
  obtain ⟨ys, rfl, h2, _⟩ := h
  rw [bl_len]
  exact own_value h2
theorem IsParts.form {w : World} {own : Nat → Tag} {v : Value} {l : List Tm} (h : IsParts w own v l) : ∃ A c, v = .slice A l.length c := by
  obtain ⟨a, c, ys, rfl, _, rfl, _⟩ := h
  rw [bl_len]
  exact ⟨a, c, rfl⟩
def Rows (w : World) (base : Nat) (own : Nat → Tag) (K : List Tm) (F : Tm → Fa) (V : Tm → Value) : Prop :=
  ∀ t ∈ K, ∃ pv iv ov, V t = fv t (F t) pv iv ov ∧ IsParts w own pv (pts t) ∧ IsRow w base own iv (4, t) (F t).2.2.1 ∧ IsRow w base own ov (5, t) (F t).2.2.2
theorem Rows.move {w w' : World} {base : Nat} {own own' : Nat → Tag} {K : List Tm} {F : Tm → Fa} {V : Tm → Value} {n : Nat} {x : Tm} (h : Rows w base own K F V) (m : Mv (n, x) own own' w w') (hn : n < 4 ∨ 6 < n) : Rows w' base own' K F V := fun t ht => by
  obtain ⟨pv, iv, ov, h1, h2, h3, h4⟩ := h t ht
  have ne : ∀ (k : Nat) (y : Tm), 4 ≤ k → k ≤ 6 → ((k, y) : Tag) ≠ (n, x) := fun k y a b e => by
    have := congrArg Prod.fst e
    simp only at this
    omega
  exact ⟨pv, iv, ov, h1, h2.move m (ne 6 [] (by omega) (by omega)), h3.move m (ne 4 t (by omega) (by omega)), h4.move m (ne 5 t (by omega) (by omega))⟩
/-- The mind in memory. -/
structure Mind (base pb mb : Nat) (own : Nat → Tag) (nv : Value) (K : List Tm) (F : Tm → Fa) (N : List Tm) (V : Tm → Value) (w : World) : Prop where
  here : w.heap[pb]? = some (.cells #[.map (some mb), nv] 83 (0, 0))
  pbT : own pb = (1, []) ∧ base ≤ pb
  mbT : own mb = (2, []) ∧ base ≤ mb
  map : MapIs w mb K V
  next : IsRow w base own nv (3, []) N
  rows : Rows w base own K F V
theorem Mind.pb_lt {base pb mb : Nat} {own : Nat → Tag} {nv : Value} {K : List Tm} {F : Tm → Fa} {N : List Tm} {V : Tm → Value} {w : World} (h : Mind base pb mb own nv K F N V w) : pb < w.heap.size := (Array.getElem?_eq_some_iff.1 h.here).1
/-- New blocks, or blocks of a tag that is none of the mind's. -/
theorem Mind.move {base pb mb : Nat} {own own' : Nat → Tag} {nv : Value} {K : List Tm} {F : Tm → Fa} {N : List Tm} {V : Tm → Value} {w w' : World} {n : Nat} {x : Tm} (h : Mind base pb mb own nv K F N V w) (m : Mv (n, x) own own' w w') (hn : 6 < n) : Mind base pb mb own' nv K F N V w' := by
  have ne : ∀ (k : Nat) (y : Tm), k ≤ 6 → ((k, y) : Tag) ≠ (n, x) := fun k y a e => by
    have := congrArg Prod.fst e
    simp only at this
    omega
  have h1 := m.2 pb h.pb_lt (by rw [h.pbT.1]; exact ne _ _ (by omega))
  have h2 := m.2 mb h.map.lt (by rw [h.mbT.1]; exact ne _ _ (by omega))
  exact ⟨h1.2.trans h.here, ⟨h1.1.trans h.pbT.1, h.pbT.2⟩, ⟨h2.1.trans h.mbT.1, h.mbT.2⟩, h.map.block h2.2, h.next.move m (ne _ _ (by omega)), h.rows.move m (.inr hn)⟩
/-- The mind, whatever its blocks. -/
def MindE (base pb : Nat) (K : List Tm) (F : Tm → Fa) (N : List Tm) (w : World) : Prop := ∃ mb own nv V, Mind base pb mb own nv K F N V w
theorem MindE.below {base pb : Nat} {K : List Tm} {F : Tm → Fa} {N : List Tm} {w w' : World} (h : MindE base pb K F N w) (hb : Below w.heap.size w w') : MindE base pb K F N w' := by
  obtain ⟨mb, own, nv, V, h⟩ := h
  exact ⟨mb, own, nv, V, h.move (mv_below (g := (7, [])) hb) (by omega)⟩
theorem tag6 {t : Tag} {lv k : Nat} {x : Tm} (h : lv ≤ t.1) (hk : k < lv) (e : t = (k, x)) : False := by
  rw [e] at h
  simp only at h
  omega
/-- The mind, beside blocks X that it does not write. -/
def MindX (lv base pb : Nat) (X : Nat → Prop) (K : List Tm) (F : Tm → Fa) (N : List Tm) (w : World) : Prop := ∃ mb own nv V, Mind base pb mb own nv K F N V w ∧ ∀ b, X b → b < w.heap.size ∧ lv ≤ (own b).1
/-- These blocks stay as they were. -/
def Kp (X : Nat → Prop) (w w' : World) : Prop := ∀ b, X b → w'.heap[b]? = w.heap[b]?
theorem Kp.trans {X : Nat → Prop} {w w1 w2 : World} (h : Kp X w w1) (k : Kp X w1 w2) : Kp X w w2 := fun b hb => (k b hb).trans (h b hb)
theorem Kp.less {X Y : Nat → Prop} {w w' : World} (h : Kp X w w') (hs : ∀ b, Y b → X b) : Kp Y w w' := fun b hb => h b (hs b hb)
theorem MindX.toE {lv base pb : Nat} {X : Nat → Prop} {K : List Tm} {F : Tm → Fa} {N : List Tm} {w : World} (h : MindX lv base pb X K F N w) : MindE base pb K F N w := by
  obtain ⟨mb, own, nv, V, h, _⟩ := h
  exact ⟨mb, own, nv, V, h⟩
theorem MindX.less {lv base pb : Nat} {X Y : Nat → Prop} {K : List Tm} {F : Tm → Fa} {N : List Tm} {w : World} (h : MindX lv base pb X K F N w) (hs : ∀ b, Y b → X b) : MindX lv base pb Y K F N w := by
  obtain ⟨mb, own, nv, V, h, hx⟩ := h
  exact ⟨mb, own, nv, V, h, fun b hb => hx b (hs b hb)⟩
theorem MindX.below {lv base pb : Nat} {X : Nat → Prop} {K : List Tm} {F : Tm → Fa} {N : List Tm} {w w' : World} (h : MindX lv base pb X K F N w) (hb : Below w.heap.size w w') : MindX lv base pb X K F N w' ∧ Kp X w w' := by
  obtain ⟨mb, own, nv, V, h, hx⟩ := h
  exact ⟨⟨mb, own, nv, V, h.move (mv_below (g := (7, [])) hb) (by omega), fun b hxb => ⟨Nat.lt_of_lt_of_le (hx b hxb).1 hb.size, (hx b hxb).2⟩⟩, fun b hxb => hb.block b (hx b hxb).1⟩
/-- A new block, which is not the mind's. -/
theorem MindX.new {lv base pb : Nat} {X : Nat → Prop} {K : List Tm} {F : Tm → Fa} {N : List Tm} {w : World} (h : MindX lv base pb X K F N w) (hlv : lv ≤ 6) (o : Obj) : MindX lv base pb (fun b => X b ∨ b = w.heap.size) K F N (w.alloc o) := by
  obtain ⟨mb, own, nv, V, h, hx⟩ := h
  have hb : Below w.heap.size w (w.alloc o) := (Below.refl _ _).alloc (Nat.le_refl _) o
  refine ⟨mb, setT own w.heap.size (7, []), nv, V, h.move (n := 7) (x := []) ⟨hb.size, fun b hlt _ => ⟨by unfold setT; rw [if_neg (by omega)], hb.block b hlt⟩⟩ (by omega), fun b hxb => ?_⟩
  have hs : (w.alloc o).heap.size = w.heap.size + 1 := by simp
  rcases hxb with h1 | rfl
  · have := hx b h1
    refine ⟨by omega, ?_⟩
    unfold setT; rw [if_neg (by omega)]; exact this.2
  · exact ⟨by omega, by rw [setT_same]; show lv ≤ 7; omega⟩
/-- What is found of a known term. -/
theorem MindX.look {lv base pb : Nat} {X : Nat → Prop} {K : List Tm} {F : Tm → Fa} {N : List Tm} {w : World} (h : MindX lv base pb X K F N w) (hlv : lv ≤ 6) {s : ByteArray} (hs : s.size ≤ 4000) (ht : s.data.toList ∈ K) :
    ∃ (mb : Nat) (kb : Int) (a : Option Addr) (c : Nat) (ys : List ByteArray) (ia oa : Option Addr) (ic oc : Nat), w.cell? ⟨pb, 0, none⟩ = some (.map (some mb)) ∧ pb < w.heap.size ∧ base ≤ w.heap.size ∧ kb = (((s.data.toList).headD 0).toNat : Int) ∧ bl ys = pts s.data.toList ∧ SReads w a ys ∧ ys.length ≤ c ∧
      (∀ b off, 0 < ys.length → a = some ⟨b, off, none⟩ → MindX lv base pb (fun x => X x ∨ x = b) K F N w) ∧
      (Instr.lookup 81 (.map (some mb)) (.string s) false).run Tryz.prog w = .ok (.agg #[.int .u8 kb, .slice a ys.length c, .bool (F s.data.toList).1, .bool (F s.data.toList).2.1, .slice ia (F s.data.toList).2.2.1.length ic, .slice oa (F s.data.toList).2.2.2.length oc]) w := by
  obtain ⟨mb, own, nv, V, hm, hx⟩ := h
  obtain ⟨pv, iv, ov, hv, hp, hi, ho⟩ := hm.rows _ ht
  have hrun := hm.map.look hs ht
  rw [hv] at hrun
  unfold fv at hrun
  obtain ⟨ia, ic, rfl⟩ := hi.form
  obtain ⟨oa, oc, rfl⟩ := ho.form
  obtain ⟨a, c, ys, rfl, h1, h2, h3, h4⟩ := hp
  refine ⟨mb, _, a, c, ys, ia, oa, ic, oc, cell_of_row w pb 0 _ _ (0, 0) hm.here, hm.pb_lt, Nat.le_trans hm.pbT.2 (Nat.le_of_lt hm.pb_lt), rfl, h2, h3, h1, fun b off h0 e => ⟨mb, own, nv, V, hm, fun x hxx => ?_⟩, hrun⟩
  rcases hxx with h | rfl
  · exact hx x h
  · obtain ⟨b', off', e', hlt, _⟩ := h3 0 h0
    rw [e] at e'
    injection e' with e'
    injection e' with e1 _ _
    subst e1
    exact ⟨hlt, by rw [h4 _ _ h0 e]; exact hlv⟩
section
variable {base pb mb : Nat} {own : Nat → Tag} {nv : Value} {K : List Tm} {F : Tm → Fa} {N : List Tm} {V : Tm → Value} {w : World} {t : Tm}
theorem Mind.cell0 (h : Mind base pb mb own nv K F N V w) : w.cell? ⟨pb, 0, none⟩ = some (.map (some mb)) := cell_of_row w pb 0 _ _ (0, 0) h.here
theorem Mind.cell1 (h : Mind base pb mb own nv K F N V w) : w.cell? ⟨pb, 1, none⟩ = some nv := cell_of_row w pb 1 _ _ (0, 0) h.here
theorem Mind.soft (h : Mind base pb mb own nv K F N V w) (j : Nat) : w.frozen? ⟨pb, j, none⟩ = false := by simp [World.frozen?, h.here]
theorem Mind.size (h : Mind base pb mb own nv K F N V w) : base ≤ w.heap.size := Nat.le_trans h.pbT.2 (Nat.le_of_lt h.pb_lt)
theorem tag_ne {k n : Nat} {x y : Tm} (h : k ≠ n) : ((k, x) : Tag) ≠ (n, y) := fun e => h (congrArg Prod.fst e)
/-- The map is written. -/
theorem Mind.put (h : Mind base pb mb own nv K F N V w) {w' : World} {K' : List Tm} {F' : Tm → Fa} {V' : Tm → Value} (hg : w.grownBy w' (some mb)) (hmap : MapIs w' mb K' V') (hrows : Rows w base own K' F' V') : Mind base pb mb own nv K' F' N V' w' := by
  have m : Mv (2, []) own own w w' := by
    have := mv_grown (own := own) hg
    rw [h.mbT.1] at this; exact this
  exact ⟨(m.2 pb h.pb_lt (by rw [h.pbT.1]; exact tag_ne (by decide))).2.trans h.here, h.pbT, h.mbT, hmap, h.next.move m (tag_ne (by decide)), hrows.move m (.inl (by decide))⟩
/-- The marks of one term are turned. -/
theorem Rows.mark (h : Rows w base own K F V) {t : Tm} {b1 b2 : Bool} {pv iv ov : Value} (hv : V t = fv t (F t) pv iv ov) (ht : t ∈ K) {v' : Value} (hv' : v' = fv t (b1, b2, (F t).2.2) pv iv ov) : Rows w base own K (upd F t (b1, b2, (F t).2.2)) (updV V t v') := fun y hy => by
  by_cases e : y = t
  · subst e
    obtain ⟨pv', iv', ov', h1, h2, h3, h4⟩ := h y ht
    rw [h1] at hv
    unfold fv at hv
    injection hv with hv
    injection hv with hv
    simp only [List.cons.injEq, and_true, true_and] at hv
    obtain ⟨rfl, rfl, rfl⟩ := hv
    rw [updV_same, upd_same]
    exact ⟨_, _, _, hv', h2, h3, h4⟩
  · obtain ⟨pv', iv', ov', h1, h2, h3, h4⟩ := h y hy
    rw [updV_other _ _ e, upd_other _ _ e]
    exact ⟨_, _, _, h1, h2, h3, h4⟩
/-- The list is appended to, and stored. -/
theorem Mind.push (h : Mind base pb mb own nv K F N V w) {g cap : Nat} {w' : World} {ys : List ByteArray} {s : ByteArray} (hy : bl ys = N) (hown : w'.ownsRow base 9 1 (.slice (some ⟨g, 0, none⟩) (ys.length + 1) cap) (ys.length + 1) (sv ys ++ [.string s]))
    (hgrow : w.grownBy w' nv.ownBlock) (hat : nv.ownBlock = some g ∨ g = w.heap.size) : Mind base pb mb (setT own g (3, [])) (.slice (some ⟨g, 0, none⟩) (ys.length + 1) cap) K F (N ++ [s.data.toList]) V (w'.setCell ⟨pb, 1, none⟩ (.slice (some ⟨g, 0, none⟩) (ys.length + 1) cap)) := by
  obtain ⟨_, _, _, hT⟩ := h.next
  have m : Mv (3, []) own (setT own g (3, [])) w w' := mv_row hgrow hT hat
  have p1 := m.2 pb h.pb_lt (by rw [h.pbT.1]; exact tag_ne (by decide))
  have p2 := m.2 mb h.map.lt (by rw [h.mbT.1]; exact tag_ne (by decide))
  have m2 : Mv (1, []) (setT own g (3, [])) (setT own g (3, [])) w' (w'.setCell ⟨pb, 1, none⟩ (.slice (some ⟨g, 0, none⟩) (ys.length + 1) cap)) :=
    ⟨by simp [World.setCell], fun b hb hne => ⟨rfl, Below.heap_setCell _ _ _ _ (by rintro rfl; exact hne (p1.1.trans h.pbT.1))⟩⟩
  refine ⟨?_, ⟨p1.1.trans h.pbT.1, h.pbT.2⟩, ⟨p2.1.trans h.mbT.1, h.mbT.2⟩, ?_, ?_, (h.rows.move m (.inl (by decide))).move m2 (.inl (by decide))⟩
  · rw [heap_setCell_same _ _ _ _ _ _ (p1.2.trans h.here)]; rfl
  · exact h.map.block ((m2.2 mb (Nat.lt_of_lt_of_le h.map.lt m.1) (by rw [p2.1, h.mbT.1]; exact tag_ne (by decide))).2.trans p2.2)
  · refine IsRow.move (w := w') ⟨ys ++ [s], by rw [bl_app', hy], ?_, fun b hb => ?_⟩ m2 (tag_ne (by decide))
    · rw [List.length_append, List.length_singleton]
      simpa [sv] using hown
    · have : g = b := Option.some.inj hb
      rw [← this, setT_same]
/-- The list's last one. -/
theorem Mind.last (h : Mind base pb mb own nv K F (N ++ [t]) V w) : ∃ (g cap : Nat) (Y : ByteArray), nv = .slice (some ⟨g, 0, none⟩) (N.length + 1) cap ∧ N.length + 1 ≤ cap ∧ Y.data.toList = t ∧ g < w.heap.size ∧ w.cell? ⟨g, N.length, none⟩ = some (.string Y) ∧
    Mind base pb mb own (.slice (some ⟨g, 0, none⟩) N.length cap) K F N V (w.setCell ⟨pb, 1, none⟩ (.slice (some ⟨g, 0, none⟩) N.length cap)) := by
  obtain ⟨ys, hy, hown, hT⟩ := h.next
  rcases List.eq_nil_or_concat ys with rfl | ⟨ys0, Y, rfl⟩
  · simp [bl] at hy
  rw [List.concat_eq_append] at hy hown
  rw [bl_app'] at hy
  obtain ⟨hy0, hY⟩ := List.append_inj' hy rfl
  have hY : Y.data.toList = t := by simpa using hY
  have hl : ys0.length = N.length := by rw [← bl_len, hy0]
  have hown' := hown
  obtain ⟨hlen, hr⟩ := hown
  rcases hr with ⟨_, h0⟩ | ⟨g, cap, cur, hv, hbase, hheap, hn, hcap, hsz, htake⟩
  · simp at h0
  subst hv
  have hs := (sreads_own hown').1
  rw [List.length_append, List.length_singleton] at hn htake
  have hlt := (Array.getElem?_eq_some_iff.1 hheap).1
  have hgp : own g = (3, []) := hT g rfl
  refine ⟨g, cap, Y, by rw [List.length_append, List.length_singleton, hl], by omega, hY, hlt, ?_, ?_⟩
  · obtain ⟨b, off, e, _, hc⟩ := hs ys0.length (by simp)
    injection e with e
    injection e with e1 e2 _
    subst e1 e2
    rw [Nat.zero_add, hl] at hc
    rw [hc]
    simp [List.getD, ← hl]
  · have m : Mv (1, []) own own w (w.setCell ⟨pb, 1, none⟩ (.slice (some ⟨g, 0, none⟩) N.length cap)) :=
      ⟨by simp [World.setCell], fun b hb hne => ⟨rfl, Below.heap_setCell _ _ _ _ (by rintro rfl; exact hne h.pbT.1)⟩⟩
    refine ⟨?_, h.pbT, h.mbT, h.map.block (m.2 mb h.map.lt (by rw [h.mbT.1]; exact tag_ne (by decide))).2, ?_, h.rows.move m (.inl (by decide))⟩
    · rw [heap_setCell_same _ _ _ _ _ _ h.here]; rfl
    · refine IsRow.move (w := w) ⟨ys0, hy0, ⟨by simp [sv], .inr ⟨g, cap, cur, by rw [hl], hbase, hheap, by omega, hcap, hsz, ?_⟩⟩, fun b e => by rw [← Option.some.inj e]; exact hgp⟩ m (tag_ne (by decide))
      have e2 := congrArg (List.take ys0.length) htake
      rw [List.take_take, Nat.min_eq_left (by omega)] at e2
      rw [Nat.mul_one, e2]
      simp [sv]
/-- What a row of the mind's lies in is not the struct. -/
theorem Mind.off (h : Mind base pb mb own nv K F N V w) {v : Value} {k : Nat} {x : Tm} {l : List Tm} (hr : IsRow w base own v (k, x) l) (hk : k ≠ 1) : some pb ≠ v.ownBlock := fun e => by
  obtain ⟨_, _, _, hT⟩ := hr
  exact hk (congrArg Prod.fst ((hT pb e.symm).symm.trans h.pbT.1))
end
theorem row_len {w : World} {base : Nat} {e : TypeId} {v : Value} {n : Nat} {xs : List Value} (h : w.ownsRow base e 1 v n xs) : n ≤ maxLen := by
  rcases h.2 with ⟨_, rfl⟩ | ⟨g, cap, cur, _, _, _, h1, h2, _⟩
  · exact Nat.zero_le _
  · exact Nat.le_trans h1 h2
/-- What is found of a known term, with what it stands in and what it opens. -/
theorem MindX.look2 {base pb : Nat} {X : Nat → Prop} {K : List Tm} {F : Tm → Fa} {N : List Tm} {w : World} (h : MindX 4 base pb X K F N w) {s : ByteArray} (hs : s.size ≤ 4000) (ht : s.data.toList ∈ K) :
    ∃ (mb : Nat) (kb : Int) (a : Option Addr) (n c : Nat) (ia oa : Option Addr) (zs us : List ByteArray) (ic oc : Nat), w.cell? ⟨pb, 0, none⟩ = some (.map (some mb)) ∧ bl zs = (F s.data.toList).2.2.1 ∧ SReads w ia zs ∧ bl us = (F s.data.toList).2.2.2 ∧ SReads w oa us ∧ zs.length ≤ maxLen ∧ us.length ≤ maxLen ∧
      MindX 4 base pb (fun b => X b ∨ (∃ off, ia = some ⟨b, off, none⟩) ∨ ∃ off, oa = some ⟨b, off, none⟩) K F N w ∧
      (Instr.lookup 81 (.map (some mb)) (.string s) false).run Tryz.prog w = .ok (.agg #[.int .u8 kb, .slice a n c, .bool (F s.data.toList).1, .bool (F s.data.toList).2.1, .slice ia zs.length ic, .slice oa us.length oc]) w := by
  obtain ⟨mb, own, nv, V, hm, hx⟩ := h
  obtain ⟨pv, iv, ov, hv, hp, hi, ho⟩ := hm.rows _ ht
  have hrun := hm.map.look hs ht
  rw [hv] at hrun
  unfold fv at hrun
  obtain ⟨a, c, ys, rfl, h1, h2, h3, h4⟩ := hp
  obtain ⟨zs, hz, hzo, hzt⟩ := hi
  obtain ⟨us, hu, huo, hut⟩ := ho
  obtain ⟨ia, ic, rfl⟩ := own_value hzo
  obtain ⟨oa, oc, rfl⟩ := own_value huo
  refine ⟨mb, _, a, _, c, ia, oa, zs, us, ic, oc, cell_of_row w pb 0 _ _ (0, 0) hm.here, hz, (sreads_own hzo).1, hu, (sreads_own huo).1, row_len hzo, row_len huo, ⟨mb, own, nv, V, hm, fun b hb => ?_⟩, hrun⟩
  rcases hb with h | ⟨off, rfl⟩ | ⟨off, rfl⟩
  · exact hx b h
  · exact ⟨(hzo.lt b rfl).2, by rw [hzt b rfl]; exact Nat.le_refl 4⟩
  · exact ⟨(huo.lt b rfl).2, by rw [hut b rfl]; exact (by decide : 4 ≤ 5)⟩
theorem sreads_kp {X : Nat → Prop} {w w' : World} {a : Option Addr} {ys : List ByteArray} (h : SReads w a ys) (hk : Kp X w w') (hs : w.heap.size ≤ w'.heap.size) (hX : ∀ b off, 0 < ys.length → a = some ⟨b, off, none⟩ → X b) : SReads w' a ys := fun j hj => by
  obtain ⟨b, off, e, hlt, hc⟩ := h j hj
  exact ⟨b, off, e, Nat.lt_of_lt_of_le hlt hs, by rw [World.cell?_of_block (a := ⟨b, off + j, none⟩) (w := w) (hk b (hX b off (by omega) e))]; exact hc⟩
/-- The list, and its last one taken off. -/
theorem MindX.last {lv base pb : Nat} (hlv : 4 ≤ lv) {X : Nat → Prop} {K : List Tm} {F : Tm → Fa} {N : List Tm} {t : Tm} {w : World} (h : MindX lv base pb X K F (N ++ [t]) w) : ∃ (g cap : Nat) (Y : ByteArray), w.cell? ⟨pb, 1, none⟩ = some (.slice (some ⟨g, 0, none⟩) (N.length + 1) cap) ∧ w.frozen? ⟨pb, 1, none⟩ = false ∧ N.length + 1 ≤ cap ∧ Y.data.toList = t ∧ g < w.heap.size ∧ w.cell? ⟨g, N.length, none⟩ = some (.string Y) ∧
    base ≤ pb ∧ pb < w.heap.size ∧ MindX lv base pb X K F N (w.setCell ⟨pb, 1, none⟩ (.slice (some ⟨g, 0, none⟩) N.length cap)) ∧ Kp X w (w.setCell ⟨pb, 1, none⟩ (.slice (some ⟨g, 0, none⟩) N.length cap)) := by
  obtain ⟨mb, own, nv, V, hm, hx⟩ := h
  obtain ⟨g, cap, Y, rfl, h1, h2, h3, h4, h5⟩ := hm.last
  exact ⟨g, cap, Y, cell_of_row w pb 1 _ _ (0, 0) hm.here, by simp [World.frozen?, hm.here], h1, h2, h3, h4, hm.pbT.2, hm.pb_lt, ⟨mb, own, _, V, h5, fun b hb => ⟨by simpa [World.setCell] using (hx b hb).1, (hx b hb).2⟩⟩,
    fun b hb => Below.heap_setCell _ _ _ _ (fun e => tag6 (hx b hb).2 (by omega) ((congrArg own e).trans hm.pbT.1))⟩
theorem MindX.bare {lv base pb : Nat} {X : Nat → Prop} {K : List Tm} {F : Tm → Fa} {w : World} (h : MindX lv base pb X K F [] w) : ∃ a c, w.cell? ⟨pb, 1, none⟩ = some (.slice a 0 c) := by
  obtain ⟨mb, own, nv, V, hm, hx⟩ := h
  obtain ⟨a, c, rfl⟩ := hm.next.form
  exact ⟨a, c, cell_of_row w pb 1 _ _ (0, 0) hm.here⟩
/-- A new term is written down. -/
theorem Mind.add {base pb mb : Nat} {own : Nat → Tag} {nv : Value} {K : List Tm} {F : Tm → Fa} {N : List Tm} {V : Tm → Value} {w : World} (hm : Mind base pb mb own nv K F N V w) {t : Tm} (ht : t ∉ K) (hF : F t = fa0) {wD wE : World} {A : Option Addr} {c fb : Nat} {ys : List ByteArray} (hb : Below w.heap.size w wD)
    (hsr : SReads wD A ys) (hys : bl ys = pts t) (hc : ys.length ≤ c) (hfresh : ∀ b off, A = some ⟨b, off, none⟩ → w.heap.size ≤ b) (hfb : w.heap.size ≤ fb) (hfA : ∀ b off, 0 < ys.length → A = some ⟨b, off, none⟩ → b ≠ fb) (hg : wD.grownBy wE (some mb))
    (hmap : MapIs wE mb (K ++ [t]) (updV V t (fv t fa0 (.slice A ys.length c) (.slice none 0 0) (.slice none 0 0)))) :
    ∃ own', Mind base pb mb own' nv (K ++ [t]) F N (updV V t (fv t fa0 (.slice A ys.length c) (.slice none 0 0) (.slice none 0 0))) wE ∧ (∀ b, b < w.heap.size → own' b = own b) ∧ own' fb = (7, []) ∧ ∀ b off, 0 < ys.length → A = some ⟨b, off, none⟩ → own' b = (6, []) := by
  obtain ⟨own', hown⟩ : ∃ own' : Nat → Tag, own' = fun b => if b < w.heap.size then own b else if b = fb then (7, []) else (6, []) := ⟨_, rfl⟩
  have h1 : ∀ b, b < w.heap.size → own' b = own b := fun b hb => by rw [hown]; simp only; rw [if_pos hb]
  have h2 : own' fb = (7, []) := by rw [hown]; show (if fb < w.heap.size then own fb else if fb = fb then ((7, []) : Tag) else (6, [])) = _; rw [if_neg (by omega), if_pos rfl]
  have h3 : ∀ b off, 0 < ys.length → A = some ⟨b, off, none⟩ → own' b = (6, []) := fun b off h0 e => by
    rw [hown]; simp only
    rw [if_neg (by have := hfresh b off e; omega), if_neg (hfA b off h0 e)]
  have m : Mv (7, []) own own' w wD := ⟨hb.size, fun b hlt _ => ⟨h1 b hlt, hb.block b hlt⟩⟩
  have hD := hm.move m (by omega)
  refine ⟨own', hD.put hg hmap (fun y hy => ?_), h1, h2, h3⟩
  by_cases e : y = t
  · subst e
    rw [updV_same, hF]
    exact ⟨_, _, _, rfl, ⟨A, c, ys, rfl, hc, hys, hsr, h3⟩, IsRow.nil _ _ _ _, IsRow.nil _ _ _ _⟩
  · have hyK : y ∈ K := by
      rcases List.mem_append.1 hy with h | h
      · exact h
      · exact absurd (List.mem_singleton.1 h) e
    obtain ⟨pv, iv, ov, r1, r2, r3, r4⟩ := hD.rows y hyK
    rw [updV_other _ _ e]
    exact ⟨pv, iv, ov, r1, r2, r3, r4⟩
end Go.Proofs.YtjdignbmlfbdnaaGreat.Clo

/-
  CONTRACTS of the code's have, make (package closure). By an AI agent; no person has read it.
-/
namespace Go.Proofs.YtjdignbmlfbdnaaGreat.Clo
open Go.RowKit Wire Term

set_option maxHeartbeats 2000000 in
set_option maxRecDepth 1000000 in
theorem have_any (lv base pb : Nat) (hlv : 4 ≤ lv) (X : Nat → Prop) (K : List Tm) (F : Tm → Fa) (N : List Tm) (s : ByteArray) (w : World) (h : MindX lv base pb X K F N w) (hs : s.size ≤ 4000) (ht : s.data.toList ∈ K) (hK : K.length ≤ 100000000) (hN : N.length ≤ 100000000) :
    Calls Tryz.prog 92 #[.pointer (some ⟨pb, 0, none⟩), .string s] w fun e w' => e = .returned (.tuple #[]) ∧ MindX lv base pb X K (hvF F s.data.toList) (hvN F N s.data.toList) w' ∧ Below base w w' ∧ Kp X w w' := by
  obtain ⟨mb, own, nv, V, hm, hx⟩ := h
  have HX := Lib.hid hx
  clear hx
  obtain ⟨pv, iv, ov, hv, hp, hi, ho⟩ := hm.rows _ ht
  have hlt := hm.pb_lt
  have hbs := hm.size
  have c0 := hm.cell0
  have hrun := hm.map.look hs ht
  rw [hv] at hrun
  unfold fv at hrun
  obtain ⟨pa, pc, rfl⟩ := hp.form
  obtain ⟨ia, ic, rfl⟩ := hi.form
  obtain ⟨oa, oc, rfl⟩ := ho.form
  obtain ⟨na, nc, rfl⟩ := hm.next.form
  have HM := Lib.hid hm
  have HT : Hid (s.data.toList ∈ K) := ht
  obtain ⟨t, et⟩ : ∃ t, s.data.toList = t := ⟨_, rfl⟩
  have HV : Hid (V t = fv t (F t) (.slice pa (pts t).length pc) (.slice ia (F t).2.2.1.length ic) (.slice oa (F t).2.2.2.length oc)) := by subst et; exact hv
  rw [et] at hrun ⊢
  obtain ⟨kb, ek⟩ : ∃ kb : Int, ((t.headD 0).toNat : Int) = kb := ⟨_, rfl⟩
  rw [ek] at hrun
  have EK := Lib.hid ek
  have ET := Lib.hid et
  obtain ⟨i0, hi0, hz0, hz1, hz2⟩ := info_parts str_info
  cases hh : (F t).1 with
  | true =>
    rw [hh] at hrun
    have HH := Lib.hid hh
    clear hm ht hv hp hi ho hh ek et
    go_enter Tryz.func92, Tryz.ntmps92
    go_wp2
    refine bodyPost_ret (results_none rfl _ _ _) rfl ?_
    have HZ := MindX.below (X := X) (w' := w.alloc (.cells #[.int .u8 kb, .slice pa (pts t).length pc, .bool true, .bool (F t).2.1, .slice ia (F t).2.2.1.length ic, .slice oa (F t).2.2.2.length oc] 80)) ⟨_, _, _, _, HM.out, HX.out⟩ ((Below.refl _ _).alloc (Nat.le_refl _) _)
    refine ⟨rfl, ?_, (Below.refl _ _).alloc hbs _, HZ.2⟩
    unfold hvF hvN
    rw [if_pos HH.out, if_pos HH.out]
    exact HZ.1
  | false =>
    rw [hh] at hrun
    have HH := Lib.hid hh
    clear hm ht hv hp hi ho hh ek et
    go_enter Tryz.func92, Tryz.ntmps92
    go_wp2
    refine wp_still_drew 6 (by kernel_rfl) (by kernel_rfl) ?_
    simp only [List.take_succ_cons, List.take_zero, List.drop_succ_cons, List.drop_zero]
    repeat still_step
    refine wpStill_nil ?_
    have HB1 : Hid (Below w.heap.size w (w.alloc (.cells #[.int .u8 kb, .slice pa (pts t).length pc, .bool true, .bool true, .slice ia (F t).2.2.1.length ic, .slice oa (F t).2.2.2.length oc] 80)).drew) := ((Below.refl _ _).alloc (Nat.le_refl _) _).drew
    have HM1 := Lib.hid (HM.out.move (mv_below (g := (7, [])) HB1.out) (by omega))
    refine wpList_put_old (val := .agg #[.int .u8 kb, .slice pa (pts t).length pc, .bool true, .bool true, .slice ia (F t).2.2.1.length ic, .slice oa (F t).2.2.2.length oc]) rfl _ _ _ rfl rfl HM1.out.map rfl hs HT.out (by simp only [maxLen]; omega) rfl ?_
    intro w2 hm2 hg2
    rw [ET.out] at hm2
    have HM2 := Lib.hid (HM1.out.put hg2 hm2 (HM1.out.rows.mark (b1 := true) (b2 := true) HV.out (by have := HT.out; rw [ET.out] at this; exact this) (by unfold fv; rw [EK.out])))
    have HB2 : Hid (Below base w w2) := (HB1.out.mono hbs).grown hg2 HM1.out.size (fun k e => by rw [← Option.some.inj e]; exact HM.out.mbT.2)
    have HK2 : Hid (∀ b, X b → b < w2.heap.size ∧ w2.heap[b]? = w.heap[b]?) := fun b hb => by
      obtain ⟨x1, x2⟩ := HX.out b hb
      have x3 := Nat.lt_of_lt_of_le x1 HB1.out.size
      exact ⟨Nat.lt_of_lt_of_le x3 hg2.size, (hg2.block b x3 (fun e => tag6 x2 (by omega) ((congrArg own (Option.some.inj e)).trans HM.out.mbT.1))).trans (HB1.out.block b x1)⟩
    clear hm2 hg2 hrun
    obtain ⟨ys, hys, hown, hT⟩ := HM2.out.next
    have HTT := Lib.hid hT
    clear hT
    have HYS := Lib.hid hys
    have HO := Lib.hid hown
    have hyl : ys.length = N.length := by rw [← bl_len, hys]
    have hnc := HM2.out.off HM2.out.next (by decide)
    have d1 := HM2.out.cell1
    have d2 := HM2.out.soft 1
    have d3 := HM2.out.pb_lt
    have d4 := HM2.out.size
    clear hown hys c0
    go_wp2_with (
      at_builtin
      refine wpList_append_lies _ rfl _ _ _ rfl base 9 i0 _ 1 16 Tryz.underlying24 hi0 hz0 hz1 hz2 rfl (by decide) _ ys.length (sv ys) rfl (HO.out.alloc _) _ 1 1 [.string s] rfl rfl (lit_cells _ _ _) (sv_one [s]) (by decide) (by simp only [maxLen]; omega) (by omega) ?h6 _ rfl ?_
      case h6 =>
        simp only [World.alloc, Array.size_push]
        omega
      intro gg cap2 w6 hown6 hgrow6 hat6 hlt6
      have HO6 := Lib.hid hown6
      have HG6 := Lib.hid hgrow6
      have HAT6 := Lib.hid hat6
      have e1 := (hgrow6.cell (a := ⟨pb, 1, none⟩) (by rw [World.cell?_alloc_past _ _ _ d3]; exact d1) hnc)
      have e2 : w6.frozen? ⟨pb, 1, none⟩ = false := by
        rw [World.frozen?_of_block (a := ⟨pb, 1, none⟩) (hgrow6.block pb (by simp only [World.alloc, Array.size_push]; omega) hnc), World.frozen?_alloc_past _ _ _ d3]; exact d2
      clear hown6 hgrow6 hat6)
    go_end0
    have HP := (HM2.out.move (mv_alloc (7, []) own w2 (.cells #[.string s] 9)) (by omega)).push HYS.out HO6.out HG6.out HAT6.out
    rw [hyl, ET.out] at HP
    have M6 := mv_row HG6.out HTT.out HAT6.out
    have hsz : (w2.alloc (.cells #[.string s] 9)).heap.size = w2.heap.size + 1 := by simp
    have HKX : ∀ b, X b → (b < w6.heap.size ∧ w6.heap[b]? = w.heap[b]?) ∧ lv ≤ (setT own gg (3, []) b).1 := fun b hb => by
      obtain ⟨x1, x2⟩ := HK2.out b hb
      obtain ⟨y1, y2⟩ := M6.2 b (by omega) (tag6 (HX.out b hb).2 (by omega))
      exact ⟨⟨Nat.lt_of_lt_of_le x1 (by have := M6.1; omega), y2.trans (((MapKept.heap_alloc w2 _).2 b x1).trans x2)⟩, by rw [y1]; exact (HX.out b hb).2⟩
    refine ⟨rfl, ?_, ((HB2.out.alloc d4 _).grown HG6.out (by simp only [World.alloc, Array.size_push]; omega) fun k e => (HO.out.lt k e).1).setCell HM2.out.pbT.2 _, fun b hb => (Below.heap_setCell _ _ _ _ (fun e => tag6 (HX.out b hb).2 (by omega) ((congrArg own e).trans HM.out.pbT.1))).trans (HKX b hb).1.2⟩
    unfold hvF hvN
    rw [if_neg (by rw [HH.out]; decide), if_neg (by rw [HH.out]; decide)]
    exact ⟨_, _, _, _, HP, fun b hb => ⟨by have := (HKX b hb).1.1; simpa [World.setCell] using this, (HKX b hb).2⟩⟩
set_option maxHeartbeats 2000000 in
set_option maxRecDepth 1000000 in
theorem make_any (lv base pb : Nat) (hlv : 4 ≤ lv) (X : Nat → Prop) (K : List Tm) (F : Tm → Fa) (N : List Tm) (s : ByteArray) (w : World) (h : MindX lv base pb X K F N w) (hs : s.size ≤ 4000) (ht : s.data.toList ∈ K) (hK : K.length ≤ 100000000) (hN : N.length ≤ 100000000) :
    Calls Tryz.prog 96 #[.pointer (some ⟨pb, 0, none⟩), .string s] w fun e w' => e = .returned (.tuple #[]) ∧ MindX lv base pb X K (mkF F s.data.toList) (mkN F N s.data.toList) w' ∧ Below base w w' ∧ Kp X w w' := by
  obtain ⟨mb, own, nv, V, hm, hx⟩ := h
  have HX := Lib.hid hx
  clear hx
  obtain ⟨pv, iv, ov, hv, hp, hi, ho⟩ := hm.rows _ ht
  have hlt := hm.pb_lt
  have hbs := hm.size
  have c0 := hm.cell0
  have hrun := hm.map.look hs ht
  rw [hv] at hrun
  unfold fv at hrun
  obtain ⟨pa, pc, rfl⟩ := hp.form
  obtain ⟨ia, ic, rfl⟩ := hi.form
  obtain ⟨oa, oc, rfl⟩ := ho.form
  obtain ⟨na, nc, rfl⟩ := hm.next.form
  have HM := Lib.hid hm
  have HT : Hid (s.data.toList ∈ K) := ht
  obtain ⟨t, et⟩ : ∃ t, s.data.toList = t := ⟨_, rfl⟩
  have HV : Hid (V t = fv t (F t) (.slice pa (pts t).length pc) (.slice ia (F t).2.2.1.length ic) (.slice oa (F t).2.2.2.length oc)) := by subst et; exact hv
  rw [et] at hrun ⊢
  obtain ⟨kb, ek⟩ : ∃ kb : Int, ((t.headD 0).toNat : Int) = kb := ⟨_, rfl⟩
  rw [ek] at hrun
  have EK := Lib.hid ek
  have ET := Lib.hid et
  obtain ⟨i0, hi0, hz0, hz1, hz2⟩ := info_parts str_info
  cases hh : (F t).2.1 with
  | true =>
    rw [hh] at hrun
    have HH := Lib.hid hh
    clear hm ht hv hp hi ho hh ek et
    go_enter Tryz.func96, Tryz.ntmps96
    go_wp2
    refine bodyPost_ret (results_none rfl _ _ _) rfl ?_
    have HZ := MindX.below (X := X) (w' := w.alloc (.cells #[.int .u8 kb, .slice pa (pts t).length pc, .bool (F t).1, .bool true, .slice ia (F t).2.2.1.length ic, .slice oa (F t).2.2.2.length oc] 80)) ⟨_, _, _, _, HM.out, HX.out⟩ ((Below.refl _ _).alloc (Nat.le_refl _) _)
    refine ⟨rfl, ?_, (Below.refl _ _).alloc hbs _, HZ.2⟩
    unfold mkF mkN
    rw [if_pos HH.out, if_pos HH.out]
    exact HZ.1
  | false =>
    rw [hh] at hrun
    have HH := Lib.hid hh
    clear hm ht hv hp hi ho hh ek et
    go_enter Tryz.func96, Tryz.ntmps96
    go_wp2
    refine wp_still_drew 6 (by kernel_rfl) (by kernel_rfl) ?_
    simp only [List.take_succ_cons, List.take_zero, List.drop_succ_cons, List.drop_zero]
    repeat still_step
    refine wpStill_nil ?_
    have HB1 : Hid (Below w.heap.size w (w.alloc (.cells #[.int .u8 kb, .slice pa (pts t).length pc, .bool (F t).1, .bool true, .slice ia (F t).2.2.1.length ic, .slice oa (F t).2.2.2.length oc] 80)).drew) := ((Below.refl _ _).alloc (Nat.le_refl _) _).drew
    have HM1 := Lib.hid (HM.out.move (mv_below (g := (7, [])) HB1.out) (by omega))
    refine wpList_put_old (val := .agg #[.int .u8 kb, .slice pa (pts t).length pc, .bool (F t).1, .bool true, .slice ia (F t).2.2.1.length ic, .slice oa (F t).2.2.2.length oc]) rfl _ _ _ rfl rfl HM1.out.map rfl hs HT.out (by simp only [maxLen]; omega) rfl ?_
    intro w2 hm2 hg2
    rw [ET.out] at hm2
    have HM2 := Lib.hid (HM1.out.put hg2 hm2 (HM1.out.rows.mark (b1 := (F t).1) (b2 := true) HV.out (by have := HT.out; rw [ET.out] at this; exact this) (by unfold fv; rw [EK.out])))
    have HB2 : Hid (Below base w w2) := (HB1.out.mono hbs).grown hg2 HM1.out.size (fun k e => by rw [← Option.some.inj e]; exact HM.out.mbT.2)
    have HK2 : Hid (∀ b, X b → b < w2.heap.size ∧ w2.heap[b]? = w.heap[b]?) := fun b hb => by
      obtain ⟨x1, x2⟩ := HX.out b hb
      have x3 := Nat.lt_of_lt_of_le x1 HB1.out.size
      exact ⟨Nat.lt_of_lt_of_le x3 hg2.size, (hg2.block b x3 (fun e => tag6 x2 (by omega) ((congrArg own (Option.some.inj e)).trans HM.out.mbT.1))).trans (HB1.out.block b x1)⟩
    clear hm2 hg2 hrun
    obtain ⟨ys, hys, hown, hT⟩ := HM2.out.next
    have HTT := Lib.hid hT
    clear hT
    have HYS := Lib.hid hys
    have HO := Lib.hid hown
    have hyl : ys.length = N.length := by rw [← bl_len, hys]
    have hnc := HM2.out.off HM2.out.next (by decide)
    have d1 := HM2.out.cell1
    have d2 := HM2.out.soft 1
    have d3 := HM2.out.pb_lt
    have d4 := HM2.out.size
    clear hown hys c0
    go_wp2_with (
      at_builtin
      refine wpList_append_lies _ rfl _ _ _ rfl base 9 i0 _ 1 16 Tryz.underlying24 hi0 hz0 hz1 hz2 rfl (by decide) _ ys.length (sv ys) rfl (HO.out.alloc _) _ 1 1 [.string s] rfl rfl (lit_cells _ _ _) (sv_one [s]) (by decide) (by simp only [maxLen]; omega) (by omega) ?h6 _ rfl ?_
      case h6 =>
        simp only [World.alloc, Array.size_push]
        omega
      intro gg cap2 w6 hown6 hgrow6 hat6 hlt6
      have HO6 := Lib.hid hown6
      have HG6 := Lib.hid hgrow6
      have HAT6 := Lib.hid hat6
      have e1 := (hgrow6.cell (a := ⟨pb, 1, none⟩) (by rw [World.cell?_alloc_past _ _ _ d3]; exact d1) hnc)
      have e2 : w6.frozen? ⟨pb, 1, none⟩ = false := by
        rw [World.frozen?_of_block (a := ⟨pb, 1, none⟩) (hgrow6.block pb (by simp only [World.alloc, Array.size_push]; omega) hnc), World.frozen?_alloc_past _ _ _ d3]; exact d2
      clear hown6 hgrow6 hat6)
    go_end0
    have HP := (HM2.out.move (mv_alloc (7, []) own w2 (.cells #[.string s] 9)) (by omega)).push HYS.out HO6.out HG6.out HAT6.out
    rw [hyl, ET.out] at HP
    have M6 := mv_row HG6.out HTT.out HAT6.out
    have hsz : (w2.alloc (.cells #[.string s] 9)).heap.size = w2.heap.size + 1 := by simp
    have HKX : ∀ b, X b → (b < w6.heap.size ∧ w6.heap[b]? = w.heap[b]?) ∧ lv ≤ (setT own gg (3, []) b).1 := fun b hb => by
      obtain ⟨x1, x2⟩ := HK2.out b hb
      obtain ⟨y1, y2⟩ := M6.2 b (by omega) (tag6 (HX.out b hb).2 (by omega))
      exact ⟨⟨Nat.lt_of_lt_of_le x1 (by have := M6.1; omega), y2.trans (((MapKept.heap_alloc w2 _).2 b x1).trans x2)⟩, by rw [y1]; exact (HX.out b hb).2⟩
    refine ⟨rfl, ?_, ((HB2.out.alloc d4 _).grown HG6.out (by simp only [World.alloc, Array.size_push]; omega) fun k e => (HO.out.lt k e).1).setCell HM2.out.pbT.2 _, fun b hb => (Below.heap_setCell _ _ _ _ (fun e => tag6 (HX.out b hb).2 (by omega) ((congrArg own e).trans HM.out.pbT.1))).trans (HKX b hb).1.2⟩
    unfold mkF mkN
    rw [if_neg (by rw [HH.out]; decide), if_neg (by rw [HH.out]; decide)]
    exact ⟨_, _, _, _, HP, fun b hb => ⟨by have := (HKX b hb).1.1; simpa [World.setCell] using this, (HKX b hb).2⟩⟩
end Go.Proofs.YtjdignbmlfbdnaaGreat.Clo

/-
  CONTRACTS of the code's standsIn, isKeyTo (package closure). By an AI agent; no person has read it.
-/
namespace Go.Proofs.YtjdignbmlfbdnaaGreat.Clo
open Go.RowKit Wire Term

section
variable {base pb mb : Nat} {own : Nat → Tag} {nv : Value} {K : List Tm} {F : Tm → Fa} {N : List Tm} {V : Tm → Value} {w : World}
/-- A term is written down with another one. -/
theorem Mind.stand (h : Mind base pb mb own nv K F N V w) {p : Tm} {s : ByteArray} {pv iv ov : Value} {ys : List ByteArray} {g cap : Nat} {w3 w4 w5 : World} (hp : IsParts w own pv (pts p)) (hy : bl ys = (F p).2.2.1) (hT : ∀ b, iv.ownBlock = some b → own b = (4, p)) (ho : IsRow w base own ov (5, p) (F p).2.2.2)
    (hown : w3.ownsRow base 9 1 (.slice (some ⟨g, 0, none⟩) (ys.length + 1) cap) (ys.length + 1) (sv ys ++ [.string s])) (hgrow : w.grownBy w3 iv.ownBlock) (hat : iv.ownBlock = some g ∨ g = w.heap.size)
    (m3 : Mv (7, []) (setT own g (4, p)) (setT own g (4, p)) w3 w4) (hg : w4.grownBy w5 (some mb)) (hmap : MapIs w5 mb K (updV V p (fv p (F p) pv (.slice (some ⟨g, 0, none⟩) (ys.length + 1) cap) ov))) :
    Mind base pb mb (setT own g (4, p)) nv K (inF F p s.data.toList) N (updV V p (fv p (F p) pv (.slice (some ⟨g, 0, none⟩) (ys.length + 1) cap) ov)) w5 := by
  have m2 : Mv (4, p) own (setT own g (4, p)) w w3 := mv_row hgrow hT hat
  have a1 := m2.2 pb h.pb_lt (by rw [h.pbT.1]; exact tag_ne (by decide))
  have a2 := m3.2 pb (Nat.lt_of_lt_of_le h.pb_lt m2.1) (by rw [a1.1, h.pbT.1]; exact tag_ne (by decide))
  have b1 := m2.2 mb h.map.lt (by rw [h.mbT.1]; exact tag_ne (by decide))
  have hmT : setT own g (4, p) mb = (2, []) := b1.1.trans h.mbT.1
  have m4 : Mv (2, []) (setT own g (4, p)) (setT own g (4, p)) w4 w5 := by
    have := mv_grown (own := setT own g (4, p)) hg
    rw [hmT] at this; exact this
  have a3 := m4.2 pb (Nat.lt_of_lt_of_le (Nat.lt_of_lt_of_le h.pb_lt m2.1) m3.1) (by rw [a1.1, h.pbT.1]; exact tag_ne (by decide))
  refine ⟨a3.2.trans (a2.2.trans (a1.2.trans h.here)), ⟨a1.1.trans h.pbT.1, h.pbT.2⟩, ⟨hmT, h.mbT.2⟩, hmap, ((h.next.move m2 (tag_ne (by decide))).move m3 (tag_ne (by decide))).move m4 (tag_ne (by decide)), fun y hyK => ?_⟩
  by_cases e : y = p
  · subst e
    refine ⟨pv, .slice (some ⟨g, 0, none⟩) (ys.length + 1) cap, ov, ?_, ((hp.move m2 (tag_ne (by decide))).move m3 (tag_ne (by decide))).move m4 (tag_ne (by decide)), ?_, ?_⟩
    · rw [updV_same, inF, upd_same]; rfl
    · rw [inF, upd_same]
      refine IsRow.move (w := w4) (IsRow.move (w := w3) ⟨ys ++ [s], by rw [bl_app', hy], ?_, fun b hb => ?_⟩ m3 (tag_ne (by decide))) m4 (tag_ne (by decide))
      · rw [List.length_append, List.length_singleton]
        simpa [sv] using hown
      · have : g = b := Option.some.inj hb
        rw [← this, setT_same]
    · rw [inF, upd_same]
      exact ((ho.move m2 (tag_ne (by decide))).move m3 (tag_ne (by decide))).move m4 (tag_ne (by decide))
  · obtain ⟨pv', iv', ov', h1, h2, h3, h4⟩ := h.rows y hyK
    rw [updV_other _ _ e, inF, upd_other _ _ e]
    have ne4 : ((4, y) : Tag) ≠ (4, p) := fun e2 => e (congrArg Prod.snd e2)
    exact ⟨pv', iv', ov', h1, ((h2.move m2 (tag_ne (by decide))).move m3 (tag_ne (by decide))).move m4 (tag_ne (by decide)), ((h3.move m2 ne4).move m3 (tag_ne (by decide))).move m4 (tag_ne (by decide)),
      ((h4.move m2 (tag_ne (by decide))).move m3 (tag_ne (by decide))).move m4 (tag_ne (by decide))⟩
/-- A term is written down with its key. -/
theorem Mind.open (h : Mind base pb mb own nv K F N V w) {p : Tm} {s : ByteArray} {pv iv ov : Value} {ys : List ByteArray} {g cap : Nat} {w3 w4 w5 : World} (hp : IsParts w own pv (pts p)) (hy : bl ys = (F p).2.2.2) (hT : ∀ b, ov.ownBlock = some b → own b = (5, p)) (ho : IsRow w base own iv (4, p) (F p).2.2.1)
    (hown : w3.ownsRow base 9 1 (.slice (some ⟨g, 0, none⟩) (ys.length + 1) cap) (ys.length + 1) (sv ys ++ [.string s])) (hgrow : w.grownBy w3 ov.ownBlock) (hat : ov.ownBlock = some g ∨ g = w.heap.size)
    (m3 : Mv (7, []) (setT own g (5, p)) (setT own g (5, p)) w3 w4) (hg : w4.grownBy w5 (some mb)) (hmap : MapIs w5 mb K (updV V p (fv p (F p) pv iv (.slice (some ⟨g, 0, none⟩) (ys.length + 1) cap)))) :
    Mind base pb mb (setT own g (5, p)) nv K (opF F p s.data.toList) N (updV V p (fv p (F p) pv iv (.slice (some ⟨g, 0, none⟩) (ys.length + 1) cap))) w5 := by
  have m2 : Mv (5, p) own (setT own g (5, p)) w w3 := mv_row hgrow hT hat
  have a1 := m2.2 pb h.pb_lt (by rw [h.pbT.1]; exact tag_ne (by decide))
  have a2 := m3.2 pb (Nat.lt_of_lt_of_le h.pb_lt m2.1) (by rw [a1.1, h.pbT.1]; exact tag_ne (by decide))
  have b1 := m2.2 mb h.map.lt (by rw [h.mbT.1]; exact tag_ne (by decide))
  have hmT : setT own g (5, p) mb = (2, []) := b1.1.trans h.mbT.1
  have m4 : Mv (2, []) (setT own g (5, p)) (setT own g (5, p)) w4 w5 := by
    have := mv_grown (own := setT own g (5, p)) hg
    rw [hmT] at this; exact this
  have a3 := m4.2 pb (Nat.lt_of_lt_of_le (Nat.lt_of_lt_of_le h.pb_lt m2.1) m3.1) (by rw [a1.1, h.pbT.1]; exact tag_ne (by decide))
  refine ⟨a3.2.trans (a2.2.trans (a1.2.trans h.here)), ⟨a1.1.trans h.pbT.1, h.pbT.2⟩, ⟨hmT, h.mbT.2⟩, hmap, ((h.next.move m2 (tag_ne (by decide))).move m3 (tag_ne (by decide))).move m4 (tag_ne (by decide)), fun y hyK => ?_⟩
  by_cases e : y = p
  · subst e
    refine ⟨pv, iv, .slice (some ⟨g, 0, none⟩) (ys.length + 1) cap, ?_, ((hp.move m2 (tag_ne (by decide))).move m3 (tag_ne (by decide))).move m4 (tag_ne (by decide)), ?_, ?_⟩
    · rw [updV_same, opF, upd_same]; rfl
    · rw [opF, upd_same]
      exact ((ho.move m2 (tag_ne (by decide))).move m3 (tag_ne (by decide))).move m4 (tag_ne (by decide))
    · rw [opF, upd_same]
      refine IsRow.move (w := w4) (IsRow.move (w := w3) ⟨ys ++ [s], by rw [bl_app', hy], ?_, fun b hb => ?_⟩ m3 (tag_ne (by decide))) m4 (tag_ne (by decide))
      · rw [List.length_append, List.length_singleton]
        simpa [sv] using hown
      · have : g = b := Option.some.inj hb
        rw [← this, setT_same]
  · obtain ⟨pv', iv', ov', h1, h2, h3, h4⟩ := h.rows y hyK
    rw [updV_other _ _ e, opF, upd_other _ _ e]
    have ne4 : ((5, y) : Tag) ≠ (5, p) := fun e2 => e (congrArg Prod.snd e2)
    exact ⟨pv', iv', ov', h1, ((h2.move m2 (tag_ne (by decide))).move m3 (tag_ne (by decide))).move m4 (tag_ne (by decide)), ((h3.move m2 (tag_ne (by decide))).move m3 (tag_ne (by decide))).move m4 (tag_ne (by decide)),
      ((h4.move m2 ne4).move m3 (tag_ne (by decide))).move m4 (tag_ne (by decide))⟩
end
set_option maxHeartbeats 4000000 in
set_option maxRecDepth 1000000 in
theorem stands_any (base pb : Nat) (X : Nat → Prop) (K : List Tm) (F : Tm → Fa) (N : List Tm) (p s : ByteArray) (w : World) (h : MindX 6 base pb X K F N w) (hs : p.size ≤ 4000) (ht : p.data.toList ∈ K) (hK : K.length ≤ 100000000) (hN : (F p.data.toList).2.2.1.length ≤ 100000000) :
    Calls Tryz.prog 93 #[.pointer (some ⟨pb, 0, none⟩), .string p, .string s] w fun e w' => e = .returned (.tuple #[]) ∧ MindX 6 base pb X K (inF F p.data.toList s.data.toList) N w' ∧ Below base w w' ∧ Kp X w w' := by
  obtain ⟨mb, own, nv, V, hm, hx⟩ := h
  have HX := Lib.hid hx
  clear hx
  obtain ⟨pv, iv, ov, hv, hp, hi, ho⟩ := hm.rows _ ht
  have hlt := hm.pb_lt
  have hbs := hm.size
  have hne : pb ≠ w.heap.size := by omega
  have c0 := hm.cell0
  have hrun := hm.map.look hs ht
  rw [hv] at hrun
  unfold fv at hrun
  obtain ⟨pa, pc, rfl⟩ := hp.form
  obtain ⟨ia, ic, rfl⟩ := hi.form
  obtain ⟨oa, oc, rfl⟩ := ho.form
  have HM := Lib.hid hm
  have HT : Hid (p.data.toList ∈ K) := ht
  obtain ⟨t, et⟩ : ∃ t, p.data.toList = t := ⟨_, rfl⟩
  rw [et] at hrun hp hi ho hv hN ⊢
  obtain ⟨kb, ek⟩ : ∃ kb : Int, ((t.headD 0).toNat : Int) = kb := ⟨_, rfl⟩
  rw [ek] at hrun
  have EK := Lib.hid ek
  have ET := Lib.hid et
  obtain ⟨i0, hi0, hz0, hz1, hz2⟩ := info_parts str_info
  -- the world ahead of the append, and what is whose in it
  have HB1 : Hid (Mv (7, []) own (setT own w.heap.size (7, [])) w ((w.alloc (.cells #[.int .u8 kb, .slice pa (pts t).length pc, .bool (F t).1, .bool (F t).2.1, .slice ia (F t).2.2.1.length ic, .slice oa (F t).2.2.2.length oc] 80)).alloc (.cells #[.string s] 9))) := by
    have b1 : Below w.heap.size w ((w.alloc (.cells #[.int .u8 kb, .slice pa (pts t).length pc, .bool (F t).1, .bool (F t).2.1, .slice ia (F t).2.2.1.length ic, .slice oa (F t).2.2.2.length oc] 80)).alloc (.cells #[.string s] 9)) := two_new _ _ _
    exact ⟨b1.size, fun b hb _ => ⟨by unfold setT; rw [if_neg (by omega)], b1.block b hb⟩⟩
  have HM1 := Lib.hid (HM.out.move HB1.out (by omega))
  have HP1 := Lib.hid (hp.move HB1.out (tag_ne (by decide)))
  have HI1 := Lib.hid (hi.move HB1.out (tag_ne (by decide)))
  have HO1 := Lib.hid (ho.move HB1.out (tag_ne (by decide)))
  have HBB : Hid (Below base w ((w.alloc (.cells #[.int .u8 kb, .slice pa (pts t).length pc, .bool (F t).1, .bool (F t).2.1, .slice ia (F t).2.2.1.length ic, .slice oa (F t).2.2.2.length oc] 80)).alloc (.cells #[.string s] 9))) := (two_new _ _ _).mono hbs
  have HV : Hid (V t = fv t (F t) (.slice pa (pts t).length pc) (.slice ia (F t).2.2.1.length ic) (.slice oa (F t).2.2.2.length oc)) := hv
  obtain ⟨ys, hys, hown, hT⟩ := HI1.out
  have HYS := Lib.hid hys
  have HO := Lib.hid hown
  have HTT := Lib.hid hT
  have hyl : ys.length = (F t).2.2.1.length := by rw [← bl_len, hys]
  have hoff : some w.heap.size ≠ (Value.slice ia (F t).2.2.1.length ic).ownBlock := fun e => by
    obtain ⟨_, _, h2, _⟩ := hi
    have := (h2.lt _ e.symm).2
    omega
  have hnc := HM1.out.off HI1.out (by decide)
  clear hm ht hv hp hi ho ek et hown hys hT
  go_enter Tryz.func93, Tryz.ntmps93
  go_wp2_with (
    at_builtin
    refine wpList_append_lies _ rfl _ _ _ rfl base 9 i0 _ 1 16 Tryz.underlying24 hi0 hz0 hz1 hz2 rfl (by decide) _ ys.length (sv ys) rfl HO.out _ 1 1 [.string s] rfl rfl (lit_cells_at _ _ _ _ (by simp)) (sv_one [s]) (by decide) (by simp only [maxLen]; omega) (by omega) ?h6 _ rfl ?_
    case h6 => exact HM1.out.size
    intro gg cap2 w6 hown6 hgrow6 hat6 hlt6
    have HO6 := Lib.hid hown6
    have HG6 := Lib.hid hgrow6
    have HAT6 := Lib.hid hat6
    have e0 : w6.cell? ⟨pb, 0, none⟩ = some (.map (some mb)) := hgrow6.cell (a := ⟨pb, 0, none⟩) HM1.out.cell0 hnc
    have k0 := hgrow6.cell (a := ⟨w.heap.size, 0, none⟩) (v := .int .u8 kb) (by rw [World.cell?_alloc_past _ _ _ (by simp), World.cell?_alloc_new]; rfl) hoff
    have k1 := hgrow6.cell (a := ⟨w.heap.size, 1, none⟩) (v := .slice pa (pts t).length pc) (by rw [World.cell?_alloc_past _ _ _ (by simp), World.cell?_alloc_new]; rfl) hoff
    have k2 := hgrow6.cell (a := ⟨w.heap.size, 2, none⟩) (v := .bool (F t).1) (by rw [World.cell?_alloc_past _ _ _ (by simp), World.cell?_alloc_new]; rfl) hoff
    have k3 := hgrow6.cell (a := ⟨w.heap.size, 3, none⟩) (v := .bool (F t).2.1) (by rw [World.cell?_alloc_past _ _ _ (by simp), World.cell?_alloc_new]; rfl) hoff
    have k4 := hgrow6.cell (a := ⟨w.heap.size, 4, none⟩) (v := .slice ia (F t).2.2.1.length ic) (by rw [World.cell?_alloc_past _ _ _ (by simp), World.cell?_alloc_new]; rfl) hoff
    have k5 := hgrow6.cell (a := ⟨w.heap.size, 5, none⟩) (v := .slice oa (F t).2.2.2.length oc) (by rw [World.cell?_alloc_past _ _ _ (by simp), World.cell?_alloc_new]; rfl) hoff
    have e2 : w6.frozen? ⟨w.heap.size, 4, none⟩ = false := by
      rw [World.frozen?_of_block (a := ⟨w.heap.size, 4, none⟩) (hgrow6.block w.heap.size (by simp; omega) hoff), World.frozen?_alloc_past _ _ _ (by simp), World.frozen?_alloc_new]
    clear hown6 hgrow6 hat6)
  have M2 : Mv (4, t) (setT own w.heap.size (7, [])) (setT (setT own w.heap.size (7, [])) gg (4, t)) _ w6 := mv_row HG6.out HTT.out HAT6.out
  have hw7 : setT (setT own w.heap.size (7, [])) gg (4, t) w.heap.size = (7, []) := (M2.2 w.heap.size (by simp; omega) (by rw [setT_same]; exact tag_ne (by decide))).1.trans (setT_same _ _ _)
  have HBX : Hid (Below base w w6) := HBB.out.grown HG6.out HM1.out.size fun k e => (HO.out.lt k e).1
  rw [hyl] at HO6
  obtain ⟨w4, hw4⟩ : ∃ w4, w6.setCell ⟨w.heap.size, 4, none⟩ (.slice (some ⟨gg, 0, none⟩) ((F t).2.2.1.length + 1) cap2) = w4 := ⟨_, rfl⟩
  rw [hw4]
  have M3 : Hid (Mv (7, []) (setT (setT own w.heap.size (7, [])) gg (4, t)) (setT (setT own w.heap.size (7, [])) gg (4, t)) w6 w4.drew) := by
    rw [← hw4]
    exact ⟨by simp [World.setCell], fun b hb hne => ⟨rfl, Below.heap_setCell _ _ _ _ (by rintro rfl; exact hne hw7)⟩⟩
  have HBY : Hid (Below base w w4.drew) := by
    rw [← hw4]
    exact (HBX.out.setCell hbs _).drew
  have f0 : w4.cell? ⟨pb, 0, none⟩ = some (.map (some mb)) := by
    rw [← hw4, cell_block _ _ _ _ hne]; exact e0
  have j0 : w4.cell? ⟨w.heap.size, 0, none⟩ = some (.int .u8 kb) := by rw [← hw4, cell_off _ _ _ (by decide)]; exact k0
  have j1 : w4.cell? ⟨w.heap.size, 1, none⟩ = some (.slice pa (pts t).length pc) := by rw [← hw4, cell_off _ _ _ (by decide)]; exact k1
  have j2 : w4.cell? ⟨w.heap.size, 2, none⟩ = some (.bool (F t).1) := by rw [← hw4, cell_off _ _ _ (by decide)]; exact k2
  have j3 : w4.cell? ⟨w.heap.size, 3, none⟩ = some (.bool (F t).2.1) := by rw [← hw4, cell_off _ _ _ (by decide)]; exact k3
  have j4 : w4.cell? ⟨w.heap.size, 4, none⟩ = some (.slice (some ⟨gg, 0, none⟩) ((F t).2.2.1.length + 1) cap2) := by rw [← hw4, cell_same _ _ _ _ k4]
  have j5 : w4.cell? ⟨w.heap.size, 5, none⟩ = some (.slice oa (F t).2.2.2.length oc) := by rw [← hw4, cell_off _ _ _ (by decide)]; exact k5
  have HW4 := Lib.hid hw4
  clear hw4 k0 k1 k2 k3 k4 k5 e0 e2 c0 hrun
  have HKX : Hid (∀ b, X b → (b < w4.drew.heap.size ∧ w4.drew.heap[b]? = w.heap[b]?) ∧ 6 ≤ (setT (setT own w.heap.size (7, [])) gg (4, t) b).1) := fun b hb => by
    obtain ⟨x1, x2⟩ := HX.out b hb
    have x3 : 6 ≤ (setT own w.heap.size (7, []) b).1 := by unfold setT; rw [if_neg (by omega)]; exact x2
    obtain ⟨y1, y2⟩ := M2.2 b (by simp; omega) (tag6 x3 (by decide))
    have y3 : b < w6.heap.size := Nat.lt_of_lt_of_le x1 (Nat.le_trans (two_new _ _ _).size M2.1)
    refine ⟨?_, by rw [y1]; exact x3⟩
    rw [← HW4.out]
    exact ⟨by simpa [World.setCell] using y3, (Below.heap_setCell _ _ _ _ (Nat.ne_of_lt x1)).trans (y2.trans ((two_new w _ _).block b x1))⟩
  have HMAP : Hid (MapIs w4.drew mb K V) := by
    have a := M2.2 mb (Nat.lt_of_lt_of_le HM.out.map.lt HB1.out.1) (by rw [HM1.out.mbT.1]; exact tag_ne (by decide))
    have b := M3.out.2 mb (Nat.lt_of_lt_of_le (Nat.lt_of_lt_of_le HM.out.map.lt HB1.out.1) M2.1) (by rw [a.1, HM1.out.mbT.1]; exact tag_ne (by decide))
    exact (HM1.out.map.block a.2).block b.2
  refine wp_still_drew 6 (by kernel_rfl) (by kernel_rfl) ?_
  simp only [List.take_succ_cons, List.take_zero, List.drop_succ_cons, List.drop_zero]
  repeat still_step
  refine wpStill_nil ?_
  refine wpList_put_old (val := .agg #[.int .u8 kb, .slice pa (pts t).length pc, .bool (F t).1, .bool (F t).2.1, .slice (some ⟨gg, 0, none⟩) ((F t).2.2.1.length + 1) cap2, .slice oa (F t).2.2.2.length oc]) rfl _ _ _ rfl rfl HMAP.out rfl hs HT.out (by simp only [maxLen]; omega) rfl ?_
  intro w5 hm5 hg5
  rw [ET.out] at hm5
  have HF := HM1.out.stand (s := s) HP1.out HYS.out HTT.out HO1.out (by rw [hyl]; exact HO6.out) HG6.out HAT6.out M3.out hg5 (by rw [hyl]; unfold fv; rw [EK.out]; exact hm5)
  have HBZ : Hid (Below base w w5) := HBY.out.grown hg5 (Nat.le_trans hbs HBY.out.size) (fun k e => by rw [← Option.some.inj e]; exact HM.out.mbT.2)
  have HFF := Lib.hid HF
  have HKZ : Hid (∀ b, X b → b < w5.heap.size ∧ w5.heap[b]? = w.heap[b]?) := fun b hb => by
    obtain ⟨⟨x1, x2⟩, _⟩ := HKX.out b hb
    exact ⟨Nat.lt_of_lt_of_le x1 hg5.size, (hg5.block b x1 (fun e => tag6 (HX.out b hb).2 (by decide) ((congrArg own (Option.some.inj e)).trans HM.out.mbT.1))).trans x2⟩
  clear HF hm5 hg5
  go_wp2
  go_end0
  exact ⟨rfl, ⟨_, _, _, _, HFF.out, fun b hb => ⟨(HKZ.out b hb).1, (HKX.out b hb).2⟩⟩, HBZ.out, fun b hb => (HKZ.out b hb).2⟩
set_option maxHeartbeats 4000000 in
set_option maxRecDepth 1000000 in
theorem opens_any' (base pb : Nat) (X : Nat → Prop) (K : List Tm) (F : Tm → Fa) (N : List Tm) (p s : ByteArray) (w : World) (h : MindX 6 base pb X K F N w) (hs : p.size ≤ 4000) (ht : p.data.toList ∈ K) (hK : K.length ≤ 100000000) (hN : (F p.data.toList).2.2.2.length ≤ 100000000) :
    Calls Tryz.prog 95 #[.pointer (some ⟨pb, 0, none⟩), .string p, .string s] w fun e w' => e = .returned (.tuple #[]) ∧ MindX 6 base pb X K (opF F p.data.toList s.data.toList) N w' ∧ Below base w w' ∧ Kp X w w' := by
  obtain ⟨mb, own, nv, V, hm, hx⟩ := h
  have HX := Lib.hid hx
  clear hx
  obtain ⟨pv, iv, ov, hv, hp, hi, ho⟩ := hm.rows _ ht
  have hlt := hm.pb_lt
  have hbs := hm.size
  have hne : pb ≠ w.heap.size := by omega
  have c0 := hm.cell0
  have hrun := hm.map.look hs ht
  rw [hv] at hrun
  unfold fv at hrun
  obtain ⟨pa, pc, rfl⟩ := hp.form
  obtain ⟨ia, ic, rfl⟩ := hi.form
  obtain ⟨oa, oc, rfl⟩ := ho.form
  have HM := Lib.hid hm
  have HT : Hid (p.data.toList ∈ K) := ht
  obtain ⟨t, et⟩ : ∃ t, p.data.toList = t := ⟨_, rfl⟩
  rw [et] at hrun hp hi ho hv hN ⊢
  obtain ⟨kb, ek⟩ : ∃ kb : Int, ((t.headD 0).toNat : Int) = kb := ⟨_, rfl⟩
  rw [ek] at hrun
  have EK := Lib.hid ek
  have ET := Lib.hid et
  obtain ⟨i0, hi0, hz0, hz1, hz2⟩ := info_parts str_info
  -- the world ahead of the append, and what is whose in it
  have HB1 : Hid (Mv (7, []) own (setT own w.heap.size (7, [])) w ((w.alloc (.cells #[.int .u8 kb, .slice pa (pts t).length pc, .bool (F t).1, .bool (F t).2.1, .slice ia (F t).2.2.1.length ic, .slice oa (F t).2.2.2.length oc] 80)).alloc (.cells #[.string s] 9))) := by
    have b1 : Below w.heap.size w ((w.alloc (.cells #[.int .u8 kb, .slice pa (pts t).length pc, .bool (F t).1, .bool (F t).2.1, .slice ia (F t).2.2.1.length ic, .slice oa (F t).2.2.2.length oc] 80)).alloc (.cells #[.string s] 9)) := two_new _ _ _
    exact ⟨b1.size, fun b hb _ => ⟨by unfold setT; rw [if_neg (by omega)], b1.block b hb⟩⟩
  have HM1 := Lib.hid (HM.out.move HB1.out (by omega))
  have HP1 := Lib.hid (hp.move HB1.out (tag_ne (by decide)))
  have HI1 := Lib.hid (hi.move HB1.out (tag_ne (by decide)))
  have HO1 := Lib.hid (ho.move HB1.out (tag_ne (by decide)))
  have HBB : Hid (Below base w ((w.alloc (.cells #[.int .u8 kb, .slice pa (pts t).length pc, .bool (F t).1, .bool (F t).2.1, .slice ia (F t).2.2.1.length ic, .slice oa (F t).2.2.2.length oc] 80)).alloc (.cells #[.string s] 9))) := (two_new _ _ _).mono hbs
  have HV : Hid (V t = fv t (F t) (.slice pa (pts t).length pc) (.slice ia (F t).2.2.1.length ic) (.slice oa (F t).2.2.2.length oc)) := hv
  obtain ⟨ys, hys, hown, hT⟩ := HO1.out
  have HYS := Lib.hid hys
  have HO := Lib.hid hown
  have HTT := Lib.hid hT
  have hyl : ys.length = (F t).2.2.2.length := by rw [← bl_len, hys]
  have hoff : some w.heap.size ≠ (Value.slice oa (F t).2.2.2.length oc).ownBlock := fun e => by
    obtain ⟨_, _, h2, _⟩ := ho
    have := (h2.lt _ e.symm).2
    omega
  have hnc := HM1.out.off HO1.out (by decide)
  clear hm ht hv hp hi ho ek et hown hys hT
  go_enter Tryz.func95, Tryz.ntmps95
  go_wp2_with (
    at_builtin
    refine wpList_append_lies _ rfl _ _ _ rfl base 9 i0 _ 1 16 Tryz.underlying24 hi0 hz0 hz1 hz2 rfl (by decide) _ ys.length (sv ys) rfl HO.out _ 1 1 [.string s] rfl rfl (lit_cells_at _ _ _ _ (by simp)) (sv_one [s]) (by decide) (by simp only [maxLen]; omega) (by omega) ?h6 _ rfl ?_
    case h6 => exact HM1.out.size
    intro gg cap2 w6 hown6 hgrow6 hat6 hlt6
    have HO6 := Lib.hid hown6
    have HG6 := Lib.hid hgrow6
    have HAT6 := Lib.hid hat6
    have e0 : w6.cell? ⟨pb, 0, none⟩ = some (.map (some mb)) := hgrow6.cell (a := ⟨pb, 0, none⟩) HM1.out.cell0 hnc
    have k0 := hgrow6.cell (a := ⟨w.heap.size, 0, none⟩) (v := .int .u8 kb) (by rw [World.cell?_alloc_past _ _ _ (by simp), World.cell?_alloc_new]; rfl) hoff
    have k1 := hgrow6.cell (a := ⟨w.heap.size, 1, none⟩) (v := .slice pa (pts t).length pc) (by rw [World.cell?_alloc_past _ _ _ (by simp), World.cell?_alloc_new]; rfl) hoff
    have k2 := hgrow6.cell (a := ⟨w.heap.size, 2, none⟩) (v := .bool (F t).1) (by rw [World.cell?_alloc_past _ _ _ (by simp), World.cell?_alloc_new]; rfl) hoff
    have k3 := hgrow6.cell (a := ⟨w.heap.size, 3, none⟩) (v := .bool (F t).2.1) (by rw [World.cell?_alloc_past _ _ _ (by simp), World.cell?_alloc_new]; rfl) hoff
    have k4 := hgrow6.cell (a := ⟨w.heap.size, 4, none⟩) (v := .slice ia (F t).2.2.1.length ic) (by rw [World.cell?_alloc_past _ _ _ (by simp), World.cell?_alloc_new]; rfl) hoff
    have k5 := hgrow6.cell (a := ⟨w.heap.size, 5, none⟩) (v := .slice oa (F t).2.2.2.length oc) (by rw [World.cell?_alloc_past _ _ _ (by simp), World.cell?_alloc_new]; rfl) hoff
    have e2 : w6.frozen? ⟨w.heap.size, 5, none⟩ = false := by
      rw [World.frozen?_of_block (a := ⟨w.heap.size, 5, none⟩) (hgrow6.block w.heap.size (by simp; omega) hoff), World.frozen?_alloc_past _ _ _ (by simp), World.frozen?_alloc_new]
    clear hown6 hgrow6 hat6)
  have M2 : Mv (5, t) (setT own w.heap.size (7, [])) (setT (setT own w.heap.size (7, [])) gg (5, t)) _ w6 := mv_row HG6.out HTT.out HAT6.out
  have hw7 : setT (setT own w.heap.size (7, [])) gg (5, t) w.heap.size = (7, []) := (M2.2 w.heap.size (by simp; omega) (by rw [setT_same]; exact tag_ne (by decide))).1.trans (setT_same _ _ _)
  have HBX : Hid (Below base w w6) := HBB.out.grown HG6.out HM1.out.size fun k e => (HO.out.lt k e).1
  rw [hyl] at HO6
  obtain ⟨w4, hw4⟩ : ∃ w4, w6.setCell ⟨w.heap.size, 5, none⟩ (.slice (some ⟨gg, 0, none⟩) ((F t).2.2.2.length + 1) cap2) = w4 := ⟨_, rfl⟩
  rw [hw4]
  have M3 : Hid (Mv (7, []) (setT (setT own w.heap.size (7, [])) gg (5, t)) (setT (setT own w.heap.size (7, [])) gg (5, t)) w6 w4.drew) := by
    rw [← hw4]
    exact ⟨by simp [World.setCell], fun b hb hne => ⟨rfl, Below.heap_setCell _ _ _ _ (by rintro rfl; exact hne hw7)⟩⟩
  have HBY : Hid (Below base w w4.drew) := by
    rw [← hw4]
    exact (HBX.out.setCell hbs _).drew
  have f0 : w4.cell? ⟨pb, 0, none⟩ = some (.map (some mb)) := by
    rw [← hw4, cell_block _ _ _ _ hne]; exact e0
  have j0 : w4.cell? ⟨w.heap.size, 0, none⟩ = some (.int .u8 kb) := by rw [← hw4, cell_off _ _ _ (by decide)]; exact k0
  have j1 : w4.cell? ⟨w.heap.size, 1, none⟩ = some (.slice pa (pts t).length pc) := by rw [← hw4, cell_off _ _ _ (by decide)]; exact k1
  have j2 : w4.cell? ⟨w.heap.size, 2, none⟩ = some (.bool (F t).1) := by rw [← hw4, cell_off _ _ _ (by decide)]; exact k2
  have j3 : w4.cell? ⟨w.heap.size, 3, none⟩ = some (.bool (F t).2.1) := by rw [← hw4, cell_off _ _ _ (by decide)]; exact k3
  have j4 : w4.cell? ⟨w.heap.size, 4, none⟩ = some (.slice ia (F t).2.2.1.length ic) := by rw [← hw4, cell_off _ _ _ (by decide)]; exact k4
  have j5 : w4.cell? ⟨w.heap.size, 5, none⟩ = some (.slice (some ⟨gg, 0, none⟩) ((F t).2.2.2.length + 1) cap2) := by rw [← hw4, cell_same _ _ _ _ k5]
  have HW4 := Lib.hid hw4
  clear hw4 k0 k1 k2 k3 k4 k5 e0 e2 c0 hrun
  have HKX : Hid (∀ b, X b → (b < w4.drew.heap.size ∧ w4.drew.heap[b]? = w.heap[b]?) ∧ 6 ≤ (setT (setT own w.heap.size (7, [])) gg (5, t) b).1) := fun b hb => by
    obtain ⟨x1, x2⟩ := HX.out b hb
    have x3 : 6 ≤ (setT own w.heap.size (7, []) b).1 := by unfold setT; rw [if_neg (by omega)]; exact x2
    obtain ⟨y1, y2⟩ := M2.2 b (by simp; omega) (tag6 x3 (by decide))
    have y3 : b < w6.heap.size := Nat.lt_of_lt_of_le x1 (Nat.le_trans (two_new _ _ _).size M2.1)
    refine ⟨?_, by rw [y1]; exact x3⟩
    rw [← HW4.out]
    exact ⟨by simpa [World.setCell] using y3, (Below.heap_setCell _ _ _ _ (Nat.ne_of_lt x1)).trans (y2.trans ((two_new w _ _).block b x1))⟩
  have HMAP : Hid (MapIs w4.drew mb K V) := by
    have a := M2.2 mb (Nat.lt_of_lt_of_le HM.out.map.lt HB1.out.1) (by rw [HM1.out.mbT.1]; exact tag_ne (by decide))
    have b := M3.out.2 mb (Nat.lt_of_lt_of_le (Nat.lt_of_lt_of_le HM.out.map.lt HB1.out.1) M2.1) (by rw [a.1, HM1.out.mbT.1]; exact tag_ne (by decide))
    exact (HM1.out.map.block a.2).block b.2
  refine wp_still_drew 6 (by kernel_rfl) (by kernel_rfl) ?_
  simp only [List.take_succ_cons, List.take_zero, List.drop_succ_cons, List.drop_zero]
  repeat still_step
  refine wpStill_nil ?_
  refine wpList_put_old (val := .agg #[.int .u8 kb, .slice pa (pts t).length pc, .bool (F t).1, .bool (F t).2.1, .slice ia (F t).2.2.1.length ic, .slice (some ⟨gg, 0, none⟩) ((F t).2.2.2.length + 1) cap2]) rfl _ _ _ rfl rfl HMAP.out rfl hs HT.out (by simp only [maxLen]; omega) rfl ?_
  intro w5 hm5 hg5
  rw [ET.out] at hm5
  have HF := HM1.out.open (s := s) HP1.out HYS.out HTT.out HI1.out (by rw [hyl]; exact HO6.out) HG6.out HAT6.out M3.out hg5 (by rw [hyl]; unfold fv; rw [EK.out]; exact hm5)
  have HBZ : Hid (Below base w w5) := HBY.out.grown hg5 (Nat.le_trans hbs HBY.out.size) (fun k e => by rw [← Option.some.inj e]; exact HM.out.mbT.2)
  have HFF := Lib.hid HF
  have HKZ : Hid (∀ b, X b → b < w5.heap.size ∧ w5.heap[b]? = w.heap[b]?) := fun b hb => by
    obtain ⟨⟨x1, x2⟩, _⟩ := HKX.out b hb
    exact ⟨Nat.lt_of_lt_of_le x1 hg5.size, (hg5.block b x1 (fun e => tag6 (HX.out b hb).2 (by decide) ((congrArg own (Option.some.inj e)).trans HM.out.mbT.1))).trans x2⟩
  clear HF hm5 hg5
  go_wp2
  go_end0
  exact ⟨rfl, ⟨_, _, _, _, HFF.out, fun b hb => ⟨(HKZ.out b hb).1, (HKX.out b hb).2⟩⟩, HBZ.out, fun b hb => (HKZ.out b hb).2⟩
end Go.Proofs.YtjdignbmlfbdnaaGreat.Clo

/-
  CONTRACTS of the code's key (package closure): what opens a term. By an AI agent; no person has read it.
-/
namespace Go.Proofs.YtjdignbmlfbdnaaGreat.Clo
open Go.RowKit Wire Term

theorem bl_sole {ys : List ByteArray} {x : Tm} (h : bl ys = [x]) : ∃ X, ys = [X] ∧ X.data.toList = x := by
  match ys, h with
  | [X], h => exact ⟨X, rfl, by simpa [bl] using h⟩
theorem bl_duo {ys : List ByteArray} {x y : Tm} (h : bl ys = [x, y]) : ∃ X Y, ys = [X, Y] ∧ X.data.toList = x ∧ Y.data.toList = y := by
  match ys, h with
  | [X, Y], h => exact ⟨X, Y, rfl, by simpa [bl] using h⟩
theorem reads_at {w : World} {a : Option Addr} {ys : List ByteArray} (h : SReads w a ys) {Y : ByteArray} (j : Nat) (hj : ys[j]? = some Y) : ∃ b off, a = some ⟨b, off, none⟩ ∧ b < w.heap.size ∧ w.cell? ⟨b, off + j, none⟩ = some (.string Y) := by
  obtain ⟨hlt, e⟩ := List.getElem?_eq_some_iff.1 hj
  obtain ⟨b, off, e1, h1, h2⟩ := h j hlt
  refine ⟨b, off, e1, h1, ?_⟩
  rw [h2]
  simp [List.getD, hlt, e]
set_option maxHeartbeats 2000000 in
set_option maxRecDepth 1000000 in
theorem key_sealed (pb : Nat) (X Y : ByteArray) (a : Option Addr) (c : Nat) (b1 b2 : Bool) (ia oa : Option Addr) (il ic ol oc : Nat) (w : World) (hr : SReads w a [X, Y]) :
    Calls Tryz.prog 94 #[.pointer (some ⟨pb, 0, none⟩), .agg #[.int .u8 115, .slice a 2 c, .bool b1, .bool b2, .slice ia il ic, .slice oa ol oc]] w fun e w' => e = .returned (.tuple #[.string X, .bool true]) ∧ Below w.heap.size w w' := by
  obtain ⟨b, off, rfl, hlt, hc⟩ := reads_at hr 0 rfl
  rw [Nat.add_zero] at hc
  clear hr
  go_enter Tryz.func94, Tryz.ntmps94
  go_wp2
  go_ret2
  exact ⟨rfl, (Below.refl _ _).alloc (Nat.le_refl _) _⟩
set_option maxHeartbeats 2000000 in
set_option maxRecDepth 1000000 in
theorem key_else (pb : Nat) (kb : Int) (h1 : kb ≠ 115) (h2 : kb ≠ 98) (a : Option Addr) (n c : Nat) (b1 b2 : Bool) (ia oa : Option Addr) (il ic ol oc : Nat) (w : World) :
    Calls Tryz.prog 94 #[.pointer (some ⟨pb, 0, none⟩), .agg #[.int .u8 kb, .slice a n c, .bool b1, .bool b2, .slice ia il ic, .slice oa ol oc]] w fun e w' => e = .returned (.tuple #[.string ⟨#[]⟩, .bool false]) ∧ Below w.heap.size w w' := by
  go_enter Tryz.func94, Tryz.ntmps94
  go_wp2
  go_ret2
  exact ⟨rfl, (Below.refl _ _).alloc (Nat.le_refl _) _⟩
set_option maxHeartbeats 2000000 in
set_option maxRecDepth 1000000 in
theorem key_boxed (base pb : Nat) (K : List Tm) (F : Tm → Fa) (N : List Tm) (X Y : ByteArray) (k : Tm) (a : Option Addr) (c : Nat) (b1 b2 : Bool) (ia oa : Option Addr) (il ic ol oc : Nat) (w : World) (h : MindE base pb K F N w) (hs : X.size ≤ 4000) (hX : X.data.toList ∈ K) (hk : pts X.data.toList = [k]) (hr : SReads w a [X, Y]) :
    Calls Tryz.prog 94 #[.pointer (some ⟨pb, 0, none⟩), .agg #[.int .u8 98, .slice a 2 c, .bool b1, .bool b2, .slice ia il ic, .slice oa ol oc]] w fun e w' => (∃ Z : ByteArray, Z.data.toList = k ∧ e = .returned (.tuple #[.string Z, .bool true])) ∧ Below w.heap.size w w' := by
  obtain ⟨mb, own, nv, V, hm⟩ := h
  obtain ⟨pv, iv, ov, hv, hp, hi, ho⟩ := hm.rows _ hX
  have hlt := hm.pb_lt
  have c0 := hm.cell0
  obtain ⟨ia', ic', rfl⟩ := hi.form
  obtain ⟨oa', oc', rfl⟩ := ho.form
  obtain ⟨pa, pc, zs, rfl, _, hz, hzr, _⟩ := hp
  rw [hk] at hz
  obtain ⟨Z, rfl, rfl⟩ := bl_sole hz
  obtain ⟨zb, zoff, rfl, hzlt, hzc⟩ := reads_at hzr 0 rfl
  rw [Nat.add_zero] at hzc
  obtain ⟨b, off, rfl, hblt, hc⟩ := reads_at hr 0 rfl
  rw [Nat.add_zero] at hc
  -- the look-up, in a world with one more block
  obtain ⟨kb, b3, b4, n4, n5, hrun⟩ : ∃ (kb : Int) (b3 b4 : Bool) (n4 n5 : Nat), ∀ o, (Instr.lookup 81 (.map (some mb)) (.string X) false).run Tryz.prog (w.alloc o).drew = .ok (.agg #[.int .u8 kb, .slice (some ⟨zb, zoff, none⟩) 1 pc, .bool b3, .bool b4, .slice ia' n4 ic', .slice oa' n5 oc']) (w.alloc o).drew := ⟨_, _, _, _, _, fun o => by
    have := (hm.map.block (w' := (w.alloc o).drew) ((MapKept.heap_alloc w o).2 mb hm.map.lt)).look hs hX
    rw [hv] at this
    exact this⟩
  clear hm hv hi ho hzr hr hz
  have q1 := field_parts
  go_enter Tryz.func94, Tryz.ntmps94
  go_wp2
  refine wp_still_drew 13 (by kernel_rfl) (by kernel_rfl) ?_
  simp only [List.take_succ_cons, List.take_zero, List.drop_succ_cons, List.drop_zero]
  repeat still_step
  refine wpStill_nil ?_
  go_wp2
  go_ret2
  exact ⟨⟨Z, rfl, rfl⟩, ((Below.refl _ _).alloc (Nat.le_refl _) _).drew⟩
end Go.Proofs.YtjdignbmlfbdnaaGreat.Clo
