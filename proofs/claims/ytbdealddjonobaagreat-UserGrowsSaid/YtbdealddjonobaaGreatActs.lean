/-
  SLICES OF STRUCTS WHOSE FIELDS ARE ALL INTS, as they come in: each field's number at its cell. By an AI agent; no person has read it.
-/
import Derived.Test.YtbdealddjonobaaGreatW0
import Derived.WalkKit
import Derived.Below
import Derived.Deep.Slices
import Derived.Deep.Fields
import Derived.ChangeSame
namespace Go.Proofs.YtbdealddjonobaaGreat.Acts
open Go.RowKit

/-- What the frame tells of a slice of structs of nf ints that came in. -/
def IsActs (nf : Nat) (w : World) (a : Option Addr) (len cap : Nat) (Z : Nat → Nat → Int) : Prop :=
  (a = none ∧ len = 0 ∧ cap = 0) ∨
  ∃ x, a = some x ∧ len ≤ cap ∧ cap ≤ maxLen ∧ ∀ i j, i < len → j < nf → w.cell? ((x.add (i * nf)).add j) = some (.int .i64 (Z i j)) ∧ (Lit.int .i64 (Z i j)).wf = true
section
variable {H : Type} {enc : TypeId × Value → H} {P : Program} {w : World} {base : Nat} {spare : Nat → Bool} {held : Bool}
theorem acts_open {t e : TypeId} {fs : Array Field} {fuel : Nat} {a : Option Addr} {len cap : Nat} {x : DataW H × List MemPlace} (ht : P.underlying t = some (.slice e)) (he : P.underlying e = some (.struct fs))
    (hone : Go.Deep.oneCellFields P fs = true) (hC : P.cellsOf e = fs.size) (hint : ∀ (j : Nat) (f : Field), fs[j]? = some f → P.underlying f.type = some (.int .i64))
    (h : DataW.trod enc P w base spare held fuel t [.slice a len cap] = some x) : ∃ Z, IsActs fs.size w a len cap Z := by
  rcases Go.Deep.open_slice ht h with ⟨h0, _⟩ | ⟨b, l, c, m, n, D, Pl, hcs, _, hl, hm, hmm, _, hi⟩
  · simp only [List.cons.injEq, Value.slice.injEq, and_true] at h0
    exact ⟨fun _ _ => 0, .inl h0⟩
  simp only [List.cons.injEq, Value.slice.injEq, and_true] at hcs
  obtain ⟨rfl, rfl, rfl⟩ := hcs
  have hlm : len ≤ m := by rw [hmm]; split <;> omega
  have key : ∀ i j, ∃ z : Int, i < len → j < fs.size → w.cell? ((b.add (i * fs.size)).add j) = some (.int .i64 z) ∧ (Lit.int .i64 z).wf = true := by
    intro i j
    by_cases hij : i < len ∧ j < fs.size
    · obtain ⟨cs', h1, h2⟩ := hi i (by omega)
      rw [hC] at h1
      obtain ⟨_, hlen, hcell⟩ := World.cells?_some h1
      obtain ⟨xs, k, _, _, _, hxl, hf⟩ := DataW.trod_struct he h2
      have hfj : fs[j]? = some fs[j] := Array.getElem?_eq_getElem hij.2
      obtain ⟨ho, hk⟩ := Go.Deep.hone_of hone j _ hfj
      have h3 := hf j _ hfj
      have hjl : j < cs'.length := by omega
      rw [ho, hk, List.drop_eq_getElem_cons hjl, List.take_succ_cons, List.take_zero] at h3
      cases hx : xs[j]? with
      | none =>
        have := List.getElem?_eq_none_iff.1 hx
        omega
      | some y =>
        rw [hx] at h3
        obtain ⟨z, hz, _, hw⟩ := DataW.trod_int (hint j _ hfj) h3
        refine ⟨z, fun _ _ => ⟨?_, hw⟩⟩
        rw [hcell j hij.2, List.getElem?_eq_getElem hjl]
        exact congrArg some (List.cons.inj hz).1
    · exact ⟨0, fun h1 h2 => absurd ⟨h1, h2⟩ hij⟩
  exact ⟨fun i j => Classical.choose (key i j), .inr ⟨b, rfl, hl, hm, fun i j h1 h2 => Classical.choose_spec (key i j) h1 h2⟩⟩
end
/-- The numbers, read at their cells. -/
def AReads (nf : Nat) (w : World) (a : Option Addr) (n : Nat) (Z : Nat → Nat → Int) : Prop :=
  ∀ i, i < n → ∃ b off, a = some ⟨b, off, none⟩ ∧ b < w.heap.size ∧ ∀ j, j < nf → w.cell? ⟨b, off + i * nf + j, none⟩ = some (.int .i64 (Z i j)) ∧ (-9223372036854775808 ≤ Z i j ∧ Z i j ≤ 9223372036854775807)
theorem AReads.below {nf : Nat} {w w' : World} {B : Nat} {a : Option Addr} {n : Nat} {Z : Nat → Nat → Int} (h : AReads nf w a n Z) (hb : Below B w w') (hB : w.heap.size ≤ B) : AReads nf w' a n Z := fun i hi => by
  obtain ⟨b, off, e, hlt, hc⟩ := h i hi
  exact ⟨b, off, e, Nat.lt_of_lt_of_le hlt hb.size, fun j hj => by rw [hb.cell (p := ⟨b, off + i * nf + j, none⟩) (Nat.lt_of_lt_of_le hlt hB)]; exact hc j hj⟩
theorem acts_of {nf : Nat} {w : World} {a : Option Addr} {len cap : Nat} {Z : Nat → Nat → Int} (hnf : 0 < nf) (h : IsActs nf w a len cap Z) : len ≤ cap ∧ cap ≤ maxLen ∧ AReads nf w a len Z := by
  rcases h with ⟨rfl, rfl, rfl⟩ | ⟨x, rfl, h1, h2, h3⟩
  · exact ⟨Nat.le_refl _, Nat.zero_le _, fun i hi => absurd hi (Nat.not_lt_zero _)⟩
  refine ⟨h1, h2, fun i hi => ?_⟩
  have c0 := (h3 0 0 (by omega) hnf).1
  obtain ⟨b, off, sp⟩ := x
  have z0 : ∀ y : Addr, y.add 0 = y := fun y => by simp [Addr.add]
  rw [Nat.zero_mul, z0, z0] at c0
  have hb : sp = none ∧ b < w.heap.size := by
    unfold World.cell? at c0
    simp only at c0
    split at c0
    · rename_i h0
      refine ⟨?_, (Array.getElem?_eq_some_iff.1 h0).1⟩
      cases sp with
      | none => rfl
      | some q => simp at c0
    · cases c0
  obtain ⟨rfl, hlt⟩ := hb
  have e0 : ∀ k, (⟨b, off, none⟩ : Addr).add k = ⟨b, off + k, none⟩ := fun k => by
    unfold Addr.add
    split
    · rename_i h0; rw [h0]; rfl
    · rfl
  refine ⟨b, off, rfl, hlt, fun j hj => ?_⟩
  obtain ⟨h4, h5⟩ := h3 i j hi hj
  rw [e0] at h4
  have e1 : (⟨b, off + i * nf, none⟩ : Addr).add j = ⟨b, off + i * nf + j, none⟩ := by
    unfold Addr.add
    split
    · rename_i h0; rw [h0]; rfl
    · rfl
  rw [e1] at h4
  exact ⟨h4, Wire.int_i64 h5⟩
end Go.Proofs.YtbdealddjonobaaGreat.Acts
