/-
  CONTRACTS of the laws' own helpers pick, joined (letterlocklaw3) at this program. By an AI agent; no person has read it.
-/
import Derived.Test.YtahlilhdiklemaaTMake
import Derived.Test.YtahlilhdiklemaaWStrs
namespace Go.Proofs.Ytahlilhdiklemaa.Term
open Go.RowKit Wire

def Picked (n : Nat) (e : Ending) : Prop := ∃ m : Nat, m < n ∧ e = .returned (.int .i64 (m : Int))
theorem made_right {l x : List UInt8} {f : Int} (h : made l = (x, f)) : f = 0 → right x = true := by
  unfold made at h
  split at h
  · rename_i hr
    simp only [Prod.mk.injEq] at h
    intro _
    rw [← h.1]; exact hr
  · simp only [Prod.mk.injEq] at h
    intro h0; omega
theorem one_right {k : UInt8} {a x : List UInt8} {f : Int} (h : one k a = (x, f)) : f = 0 → right x = true := by
  unfold one at h
  split at h
  · exact made_right h
  · simp only [Prod.mk.injEq] at h
    intro h0; omega
theorem two_right {k : UInt8} {a b x : List UInt8} {f : Int} (h : two k a b = (x, f)) : f = 0 → right x = true := by
  unfold two at h
  split at h
  · exact made_right h
  · simp only [Prod.mk.injEq] at h
    intro h0; omega
theorem box_right {a b x : List UInt8} {f : Int} (h : box a b = (x, f)) : f = 0 → right x = true := by
  unfold box at h
  split at h
  · exact two_right h
  · simp only [Prod.mk.injEq] at h
    intro h0; omega
theorem made_err {l x : List UInt8} {f : Int} (h : made l = (x, f)) : (f = 0 ∧ x = l ∧ right l = true) ∨ (f = 10 ∧ x = [] ∧ right l = false) := by
  unfold made at h
  split at h
  · rename_i hr
    simp only [Prod.mk.injEq] at h
    exact .inl ⟨h.2.symm, h.1.symm, hr⟩
  · rename_i hr
    simp only [Prod.mk.injEq] at h
    exact .inr ⟨h.2.symm, h.1.symm, by simpa using hr⟩
def AText (e : Ending) : Prop := ∃ T : ByteArray, right T.data.toList = true ∧ e = .returned (.string T)
theorem ofAtom_right {n : Nat} (hn : n < 18446744073709551616) : right (ofAtom n) = true := by
  have h1 := put_le hn
  refine right_iff.2 ⟨by simp [ofAtom], by simp only [ofAtom, List.length_cons]; omega, ?_⟩
  show up (body (size 39) 97 (put n)) = _
  have h2 : body (size 39) 97 (put n) = some (put n).length := by
    have h3 := take_put hn []
    rw [List.append_nil] at h3
    show leaf 97 (put n) = _
    unfold leaf
    rw [if_pos rfl, h3]
    simp
  rw [h2]
  simp only [up, ofAtom, List.length_cons]; omega
theorem ofText_right {s x : List UInt8} {f : Int} (h : ofText s = (x, f)) : f = 0 → right x = true := made_right h

end Go.Proofs.Ytahlilhdiklemaa.Term
