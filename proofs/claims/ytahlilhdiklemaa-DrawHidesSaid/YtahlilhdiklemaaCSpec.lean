/-
  WHAT closure.Apart and closure.Derives are held to: as propositions that the laws' walks take (ApartOK, DerivesOK); the chapter's example. By an AI agent; no person has read it.
-/
import Derived.Test.YtahlilhdiklemaaCHelp
import Derived.Test.YtahlilhdiklemaaTCode
namespace Go.Proofs.Ytahlilhdiklemaa.Clo
open Go.RowKit Wire Term

/-- Apart's answer. -/
def Ap (held : List (List UInt8)) (x : List (List UInt8) × Int) : Prop :=
  ((∃ h ∈ held, right h = false) ∧ x = ([], 1)) ∨ ((∀ h ∈ held, right h = true) ∧ 200 < held.length ∧ x = ([], 10)) ∨
  ((∀ h ∈ held, right h = true) ∧ held.length ≤ 200 ∧ x.2 = 0 ∧ Rising x.1 ∧ ∀ y, y ∈ x.1 ↔ Had held y)
theorem wrong_not {held : List (List UInt8)} (h : ∃ h ∈ held, right h = false) (h2 : ∀ h ∈ held, right h = true) : False := by
  obtain ⟨x, hx, h3⟩ := h
  rw [h2 x hx] at h3; cases h3
theorem ap_ok {held : List (List UInt8)} {x : List (List UInt8) × Int} (h : Ap held x) (hr : ∀ h ∈ held, right h = true) (hn : held.length ≤ 200) : x.2 = 0 ∧ Rising x.1 ∧ ∀ y, y ∈ x.1 ↔ Had held y := by
  rcases h with ⟨h, _⟩ | ⟨_, h, _⟩ | ⟨_, _, h⟩
  · exact (wrong_not h hr).elim
  · omega
  · exact h
theorem ap_fun {held : List (List UInt8)} {x y : List (List UInt8) × Int} (hx : Ap held x) (hy : Ap held y) : x = y := by
  rcases hx with ⟨h1, h2⟩ | ⟨h1, h2, h3⟩ | ⟨h1, h2, h3, h4, h5⟩ <;> rcases hy with ⟨g1, g2⟩ | ⟨g1, g2, g3⟩ | ⟨g1, g2, g3, g4, g5⟩
  · rw [h2, g2]
  · exact (wrong_not h1 g1).elim
  · exact (wrong_not h1 g1).elim
  · exact (wrong_not g1 h1).elim
  · rw [h3, g3]
  · omega
  · exact (wrong_not g1 h1).elim
  · omega
  · obtain ⟨x1, x2⟩ := x
    obtain ⟨y1, y2⟩ := y
    have e1 : x1 = y1 := rising_eq h4 g4 fun z => (h5 z).trans (g5 z).symm
    have e2 : x2 = y2 := by rw [show x2 = 0 from h3, show y2 = 0 from g3]
    rw [e1, e2]
/-- Derives' answer. -/
def Dv (held : List (List UInt8)) (t : List UInt8) (b : Bool) (f : Int) : Prop :=
  ((∃ h ∈ held, right h = false) ∧ b = false ∧ f = 1) ∨ ((∀ h ∈ held, right h = true) ∧ 200 < held.length ∧ b = false ∧ f = 10) ∨
  ((∀ h ∈ held, right h = true) ∧ held.length ≤ 200 ∧ right t = false ∧ b = false ∧ f = 1) ∨
  ((∀ h ∈ held, right h = true) ∧ held.length ≤ 200 ∧ right t = true ∧ f = 0 ∧ (b = true ↔ Der held t))
theorem dv_ok {held : List (List UInt8)} {t : List UInt8} {b : Bool} {f : Int} (h : Dv held t b f) (hr : ∀ h ∈ held, right h = true) (hn : held.length ≤ 200) (ht : right t = true) : f = 0 ∧ (b = true ↔ Der held t) := by
  rcases h with ⟨h, _⟩ | ⟨_, h, _⟩ | ⟨_, _, h, _⟩ | ⟨_, _, _, h⟩
  · exact (wrong_not h hr).elim
  · omega
  · rw [ht] at h; cases h
  · exact h
theorem bool_iff {a b : Bool} {p : Prop} (h1 : a = true ↔ p) (h2 : b = true ↔ p) : a = b := by
  cases a <;> cases b
  · rfl
  · exact absurd (h1.2 (h2.1 rfl)) (by decide)
  · exact absurd (h2.2 (h1.1 rfl)) (by decide)
  · rfl
theorem dv_fun {held : List (List UInt8)} {t : List UInt8} {a b : Bool} {f g : Int} (hx : Dv held t a f) (hy : Dv held t b g) : a = b ∧ f = g := by
  rcases hx with ⟨h1, h2, h3⟩ | ⟨h1, h2, h3, h4⟩ | ⟨h1, h2, h3, h4, h5⟩ | ⟨h1, h2, h3, h4, h5⟩
  · rcases hy with ⟨_, g2, g3⟩ | ⟨g1, _⟩ | ⟨g1, _⟩ | ⟨g1, _⟩
    · rw [h2, h3, g2, g3]; exact ⟨rfl, rfl⟩
    all_goals exact (wrong_not h1 g1).elim
  · rcases hy with ⟨g1, _⟩ | ⟨_, _, g3, g4⟩ | ⟨_, g2, _⟩ | ⟨_, g2, _⟩
    · exact (wrong_not g1 h1).elim
    · rw [h3, h4, g3, g4]; exact ⟨rfl, rfl⟩
    · omega
    · omega
  · rcases hy with ⟨g1, _⟩ | ⟨_, g2, _⟩ | ⟨_, _, _, g4, g5⟩ | ⟨_, _, g3, _⟩
    · exact (wrong_not g1 h1).elim
    · omega
    · rw [h4, h5, g4, g5]; exact ⟨rfl, rfl⟩
    · rw [h3] at g3; cases g3
  · rcases hy with ⟨g1, _⟩ | ⟨_, g2, _⟩ | ⟨_, _, g3, _⟩ | ⟨_, _, _, g4, g5⟩
    · exact (wrong_not g1 h1).elim
    · omega
    · rw [h3] at g3; cases g3
    · rw [h4, g4]; exact ⟨bool_iff h5 g5, rfl⟩
/-- Apart's answer as an ending: a list that can be read. -/
def ApE (held : List (List UInt8)) (e : Ending) (w' : World) : Prop := ∃ (A : Option Addr) (c : Nat) (ys : List ByteArray) (f : Int), Ap held (bl ys, f) ∧ ys.length ≤ c ∧ ys.length ≤ 140737488355328 ∧ SReads w' A ys ∧ e = .returned (.tuple #[.slice A ys.length c, .int .i64 f])
def DvE (held : List (List UInt8)) (t : List UInt8) (e : Ending) : Prop := ∃ b f, Dv held t b f ∧ e = .returned (.tuple #[.bool b, .int .i64 f])
/-- .. and of its Derives. -/
def DerivesOK : Prop := ∀ (a : Option Addr) (c : Nat) (ys : List ByteArray) (t : ByteArray) (w : World), SReads w a ys → ys.length ≤ c → ys.length ≤ 140737488355328 → (∀ y ∈ ys, y.size ≤ 140737488355328) → t.size ≤ 140737488355328 →
  Calls Try.prog 19 #[.slice a ys.length c, .string t] w fun e w' => DvE (bl ys) t.data.toList e ∧ Below w.heap.size w w'

/-- A call's world behind another one, told from the first. -/
theorem Bel.call {w0 w1 w2 : World} (h : Below w0.heap.size w0 w1) (h2 : Below w1.heap.size w1 w2) : Below w0.heap.size w0 w2 := h.trans (h2.mono h.size)

theorem bl_app (xs ys : List ByteArray) : bl (xs ++ ys) = bl xs ++ bl ys := by simp [bl]

/-! ### the chapter's example -/
theorem ex1 {b : Bool} {f : Int} (h : Dv [[115, 97, 0, 116, 1, 1, 120], [97, 0]] [116, 1, 1, 120] b f) : b = true ∧ f = 0 := by
  have hr : ∀ h ∈ ([[115, 97, 0, 116, 1, 1, 120], [97, 0]] : List (List UInt8)), right h = true := by
    intro h hh
    have : h = [115, 97, 0, 116, 1, 1, 120] ∨ h = [97, 0] := by simpa using hh
    rcases this with rfl | rfl <;> rfl
  obtain ⟨h1, h2⟩ := dv_ok h hr (by simp) rfl
  exact ⟨h2.2 (tog_iff.2 (.inr (.inl rfl))), h1⟩
theorem ex2 {b : Bool} {f : Int} (h : Dv [[115, 97, 0, 97, 1, 1]] [97, 1, 1] b f) : b = false ∧ f = 0 := by
  have hr : ∀ h ∈ ([[115, 97, 0, 97, 1, 1]] : List (List UInt8)), right h = true := by
    intro h hh
    rw [List.mem_singleton.1 hh]; rfl
  obtain ⟨h1, h2⟩ := dv_ok h hr (by simp) rfl
  refine ⟨?_, h1⟩
  rw [← Bool.not_eq_true]; intro hb
  have hp : pts [115, 97, 0, 97, 1, 1] = [[97, 0], [97, 1, 1]] := rfl
  have hc : Closed (fun x => x = [115, 97, 0, 97, 1, 1]) := by
    rintro t x rfl hg
    rcases hg with ⟨h, _⟩ | ⟨h, _⟩ | ⟨_, h, _⟩ | ⟨h, _⟩
    · exact absurd h (by decide)
    · exact absurd h (by decide)
    · rw [hp] at h
      rcases tog_iff.1 h with h | h | ⟨h, _⟩
      · exact absurd h (by decide)
      · exact absurd h (by decide)
      · exact absurd rfl h
    · exact absurd h (by decide)
  have hs : ∀ x, Had [[115, 97, 0, 97, 1, 1]] x → x = [115, 97, 0, 97, 1, 1] := fun x hx => hx _ (fun h hh => List.mem_singleton.1 hh) hc
  rcases tog_iff.1 (h2.1 hb) with h | h | ⟨h, _⟩
  · exact absurd (hs _ h) (by decide)
  · exact absurd h (by decide)
  · exact absurd rfl h
end Go.Proofs.Ytahlilhdiklemaa.Clo
