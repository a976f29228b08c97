/-
  MEMORY: a slice of strings that can be read; the calls' worlds. By an AI agent; no person has read it.
-/
import Derived.Test.YtfjnelfaighdeaaWTake
import Derived.Deep.Draws
import Derived.Maps.AppendAt
import Derived.Deep.AppendLies
import Derived.RegionTactic
import Derived.OwnWalk
import Derived.Lib.Join
namespace Go.Proofs.Ytfjnelfaighdeaa.Wire
open Go.RowKit

/-- A slice's elements: at each place below the length the address is one of a block that lies, and its cell holds the string. -/
def SReads (w : World) (a : Option Addr) (ys : List ByteArray) : Prop :=
  ∀ j, j < ys.length → ∃ b off, a = some ⟨b, off, none⟩ ∧ b < w.heap.size ∧ w.cell? ⟨b, off + j, none⟩ = some (.string (ys.getD j ByteArray.empty))

theorem SReads.below {w w' : World} {B : Nat} {a : Option Addr} {ys : List ByteArray} (h : SReads w a ys) (hb : Below B w w') (hB : w.heap.size ≤ B) : SReads w' a ys := fun j hj => by
  obtain ⟨b, off, e, hlt, hc⟩ := h j hj
  exact ⟨b, off, e, Nat.lt_of_lt_of_le hlt hb.size, by rw [hb.cell (p := ⟨b, off + j, none⟩) (Nat.lt_of_lt_of_le hlt hB)]; exact hc⟩
theorem SReads.nil (w : World) (a : Option Addr) : SReads w a [] := fun j hj => by simp at hj

/-- What the frame tells of a slice of strings that came in. -/
theorem sreads_of {w : World} {a : Option Addr} {len cap : Nat} {zs : List ByteArray}
    (h : (a = none ∧ len = 0 ∧ cap = 0 ∧ zs = []) ∨ ∃ x, a = some x ∧ len ≤ cap ∧ cap ≤ maxLen ∧ zs.length = cap ∧ (∀ i, i < zs.length → w.cell? (x.add i) = some (.string (zs.getD i ByteArray.empty))) ∧ ∀ s ∈ zs, s.size ≤ maxLen) :
    ∃ ys : List ByteArray, ys.length = len ∧ len ≤ cap ∧ cap ≤ maxLen ∧ SReads w a ys ∧ ∀ s ∈ ys, s.size ≤ maxLen := by
  rcases h with ⟨rfl, rfl, rfl, rfl⟩ | ⟨x, rfl, h1, h2, h3, h4, h5⟩
  · exact ⟨[], rfl, Nat.le_refl _, Nat.zero_le _, fun j hj => by simp at hj, fun n hn => by simp at hn⟩
  · refine ⟨zs.take len, by rw [List.length_take]; omega, h1, h2, fun j hj => ?_, fun n hn => h5 n (List.mem_of_mem_take hn)⟩
    rw [List.length_take] at hj
    have c0 := h4 0 (by omega)
    have cj := h4 j (by omega)
    obtain ⟨b, off, sp⟩ := x
    have hb : sp = none ∧ b < w.heap.size := by
      have e0 : (⟨b, off, sp⟩ : Addr).add 0 = ⟨b, off, sp⟩ := by simp [Addr.add]
      rw [e0] at c0
      unfold World.cell? at c0
      simp only at c0
      split at c0
      · rename_i h0
        refine ⟨?_, (Array.getElem?_eq_some_iff.1 h0).1⟩
        cases sp with
        | none => rfl
        | some q => simp at c0
      · cases c0
    obtain ⟨rfl, hlt⟩ := hb
    refine ⟨b, off, rfl, hlt, ?_⟩
    have e : (⟨b, off, none⟩ : Addr).add j = ⟨b, off + j, none⟩ := by
      unfold Addr.add
      split
      · rename_i h0; rw [h0]; rfl
      · rfl
    rw [e] at cj
    rw [cj]
    simp only [List.getD, List.getElem?_take_of_lt (show j < len by omega)]

/-- A row of the call's own, read. -/
theorem sreads_own {w : World} {base : Nat} {e : TypeId} {a : Option Addr} {n c : Nat} {ys : List ByteArray} (h : w.ownsRow base e 1 (.slice a n c) n (ys.map Value.string)) : SReads w a ys ∧ ys.length = n ∧ n ≤ c := by
  obtain ⟨h1, h2⟩ := h
  rw [List.length_map, Nat.mul_one] at h1
  rcases h2 with ⟨hv, rfl⟩ | ⟨g, cap, cur, hv, hg, hh, hn, hm, hs, ht⟩
  · injection hv with e1 e2 e3
    subst e1 e3
    obtain rfl := List.eq_nil_of_length_eq_zero h1
    exact ⟨SReads.nil _ _, rfl, Nat.le_refl _⟩
  · injection hv with e1 e2 e3
    subst e1 e3
    refine ⟨fun j hj => ⟨g, 0, rfl, (Array.getElem?_eq_some_iff.1 hh).1, ?_⟩, h1, hn⟩
    have hc : w.cell? ⟨g, 0 + j, none⟩ = cur[0 + j]? := cell_of_row w g (0 + j) cur e (0, 0) hh
    rw [hc, Nat.zero_add, ← Array.getElem?_toList]
    have hjn : j < n := by omega
    have : (cur.toList.take (n * 1))[j]? = cur.toList[j]? := List.getElem?_take_of_lt (by omega)
    rw [← this, ht]
    simp [List.getD, hj]

theorem bcell {W w1 : World} {B : Nat} (hb : Below B W w1) : (∀ b o, b < B → w1.cell? ⟨b, o, none⟩ = W.cell? ⟨b, o, none⟩) ∧ (∀ b o, b < B → w1.frozen? ⟨b, o, none⟩ = W.frozen? ⟨b, o, none⟩) :=
  ⟨fun b o h => hb.cell (p := ⟨b, o, none⟩) h, fun b o h => hb.frozen (p := ⟨b, o, none⟩) h⟩
theorem bdrew {B : Nat} (w : World) (n : Nat) : Below B w (w.drewN n) := ⟨rfl, rfl, rfl, Nat.le_refl _, fun _ _ => rfl⟩
theorem Below.drewN' {B : Nat} {a w : World} (h : Below B a w) (n : Nat) : Below B a (w.drewN n) := ⟨h.os, h.tape, h.output, h.size, h.block⟩

def cat (ys : List ByteArray) : List UInt8 := ys.flatMap (·.data.toList)
theorem join_cat (ys : List ByteArray) : Lib.join (ys.map (·.data.toList)) [] = cat ys := by
  cases ys with
  | nil => rfl
  | cons y r =>
    rw [List.map_cons, Lib.join_cons]
    simp [Lib.joinTail, cat, List.flatMap]
    rfl
end Go.Proofs.Ytfjnelfaighdeaa.Wire
