/-
  CONTRACTS of the document's Read, Kind, Number, Words, Parts, opens, Open, Unbox, Verify (letterlockref3) at this program. By an AI agent; no person has read it.
-/
import Derived.Test.YtahlilhdiklemaaTMake
import Derived.Test.YtahlilhdiklemaaWStrs
namespace Go.Proofs.Ytahlilhdiklemaa.Term
open Go.RowKit Wire

/-- What is known of a right text. -/
theorem right_head {s : ByteArray} (h : right s.data.toList = true) : ∃ (h0 : 0 < s.size) (b : UInt8) (t : List UInt8), Head s h0 b t ∧ s.size ≤ 4000 := by
  obtain ⟨h0, h1⟩ := right_sz h
  obtain ⟨b, t, hh⟩ := head_of h0
  exact ⟨h0, b, t, hh, h1⟩

/-! ### Parts -/
theorem arity_of_right {s : ByteArray} (h : right s.data.toList = true) {h0 : 0 < s.size} {b : UInt8} {t : List UInt8} (hh : Head s h0 b t) : ∃ m, arity b = some m ∧ m ≤ 2 := by
  have h3 := (right_iff.1 h).2.2
  rw [hh.all, size_cons] at h3
  cases ha : arity b with
  | none => unfold body at h3; rw [ha] at h3; simp [up] at h3
  | some m =>
    refine ⟨m, rfl, ?_⟩
    unfold arity at ha
    split at ha
    · have := Option.some.inj ha; omega
    · split at ha
      · have := Option.some.inj ha; omega
      · split at ha
        · have := Option.some.inj ha; omega
        · cases ha
/-- Parts' loop: so many parts are taken off. -/
def Parted (w : World) (t : List UInt8) (m k : Nat) (R : ByteArray) (v : Value) (wr : World) : Prop :=
  ∃ ys : List ByteArray, wr.ownsRow w.heap.size 9 1 v k (sv ys) ∧ ys.length = k ∧ cuts m t = bl ys ++ cuts (m - k) R.data.toList ∧ Below w.heap.size w wr

/-- A list that can be read, in memory from B on. -/
def TaF (B : Nat) (x : List (List UInt8) × Int) (e : Ending) (w' : World) : Prop := ∃ (A : Option Addr) (c : Nat) (ys : List ByteArray), bl ys = x.1 ∧ ys.length ≤ c ∧ SReads w' A ys ∧ (∀ b off, A = some ⟨b, off, none⟩ → B ≤ b) ∧ e = .returned (.tuple #[.slice A ys.length c, .int .i64 x.2])
theorem taF_nil (B : Nat) (f : Int) (w' : World) : TaF B ([], f) (.returned (.tuple #[.slice none 0 0, .int .i64 f])) w' := ⟨none, 0, [], rfl, Nat.le_refl _, SReads.nil _ _, (fun _ _ h => by cases h), rfl⟩
theorem own_fresh {w : World} {base : Nat} {e : TypeId} {a : Option Addr} {n c : Nat} {xs : List Value} (h : w.ownsRow base e 1 (.slice a n c) n xs) : ∀ b off, a = some ⟨b, off, none⟩ → base ≤ b := by
  rintro b off rfl
  rcases h.2 with ⟨hv, _⟩ | ⟨g, cap, cur, hv, hg, _⟩
  · injection hv with h1; cases h1
  · injection hv with h1
    injection h1 with h1
    injection h1 with h1
    subst h1
    exact hg
end Go.Proofs.Ytahlilhdiklemaa.Term
