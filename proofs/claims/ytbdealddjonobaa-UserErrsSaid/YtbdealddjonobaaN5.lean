/-
  One text of several, in their order: RunesRef, RefCalls, RefSplit. By an AI agent; no person has read it.
-/
import Derived.Test.YtbdealddjonobaaN2
import Derived.Test.YtbdealddjonobaaN3
import Derived.Test.YtbdealddjonobaaN4
/-
  CONTRACTS of the document's first, letter, great and Runes (letterlockref1) at this program. By an AI agent; no person has read it.
-/
namespace Go.Proofs.Ytbdealddjonobaa
open Go.RowKit Txt

end Go.Proofs.Ytbdealddjonobaa

/-
  CONTRACTS of the document's Right and Path (letterlockref1) at this program. By an AI agent; no person has read it.
-/
namespace Go.Proofs.Ytbdealddjonobaa
open Go.RowKit Txt

theorem right_some {l : List UInt8} {rs : List Int} (h : runes l = some rs) : right l = (decide (1 ≤ rs.length ∧ rs.length ≤ 32) && rs.all letter) := by unfold right nameOf; rw [h]
theorem right_none {l : List UInt8} (h : runes l = none) : right l = false := by unfold right nameOf; rw [h]

end Go.Proofs.Ytbdealddjonobaa

/-
  CONTRACTS of the document's Split and Less (letterlockref1) at this program. By an AI agent; no person has read it.
-/
namespace Go.Proofs.Ytbdealddjonobaa
open Go.RowKit Txt

theorem at_byte (s : ByteArray) {k : Nat} (h : k < s.size) : s.data.toList[k]? = some (s[k]'h) := by
  have hk : k < s.data.toList.length := by rw [← Lib.size_eq]; exact h
  rw [List.getElem?_eq_getElem hk]
  have e := get_at s k h
  rw [Nat.add_zero, ← Lib.getD_get!'] at e
  rw [← e]
  simp only [List.getD, List.getElem?_eq_getElem hk, Option.getD_some]
theorem extract_take (s : ByteArray) (k : Nat) : (s.extract 0 k).data.toList = s.data.toList.take k := by
  rw [Lib.extract_data, List.drop_zero, Nat.sub_zero]

theorem bless_at : ∀ {a b : List UInt8} {k : Nat} {x y : UInt8}, a.take k = b.take k → a[k]? = some x → b[k]? = some y → x ≠ y → Op.bytesLess a b = decide (x.toNat < y.toNat)
  | p :: a, q :: b, 0, x, y, _, hx, hy, hne => by
    simp only [List.getElem?_cons_zero, Option.some.injEq] at hx hy
    subst hx hy
    have e1 : decide (p < q) = decide (p.toNat < q.toNat) := decide_eq_decide.2 UInt8.lt_iff_toNat_lt
    have e2 : (p == q) = false := beq_eq_false_iff_ne.2 hne
    simp only [Op.bytesLess, e1, e2, Bool.false_and, Bool.or_false]
  | p :: a, q :: b, k + 1, x, y, ht, hx, hy, hne => by
    simp only [List.take_succ_cons, List.cons.injEq] at ht
    obtain ⟨rfl, ht⟩ := ht
    simp only [List.getElem?_cons_succ] at hx hy
    simp [Op.bytesLess, bless_at ht hx hy hne]
theorem bless_end : ∀ {a b : List UInt8} {k : Nat}, k ≤ a.length → k ≤ b.length → (k = a.length ∨ k = b.length) → a.take k = b.take k → Op.bytesLess a b = decide (a.length < b.length)
  | [], [], _, _, _, _, _ => rfl
  | [], y :: b, _, _, _, _, _ => by simp [Op.bytesLess]
  | x :: a, [], _, _, _, _, _ => by simp [Op.bytesLess]
  | x :: a, y :: b, 0, _, _, h, _ => by simp at h
  | x :: a, y :: b, k + 1, h1, h2, h, ht => by
    simp only [List.take_succ_cons, List.cons.injEq] at ht
    obtain ⟨rfl, ht⟩ := ht
    simp [Op.bytesLess, bless_end (k := k) (by simpa using h1) (by simpa using h2) (by simpa using h) ht]
theorem take_bytes {a b : List UInt8} {k : Nat} {x : UInt8} (ht : a.take k = b.take k) (hx : a[k]? = some x) (hy : b[k]? = some x) : a.take (k + 1) = b.take (k + 1) := by
  rw [List.take_add_one, List.take_add_one, ht, hx, hy]

end Go.Proofs.Ytbdealddjonobaa
