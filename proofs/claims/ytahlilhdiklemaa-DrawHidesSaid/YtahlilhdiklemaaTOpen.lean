/-
  CONTRACTS of the document's opens, Open, Unbox, Verify (letterlockref3) at this program. By an AI agent; no person has read it.
-/
import Derived.Test.YtahlilhdiklemaaTTell
namespace Go.Proofs.Ytahlilhdiklemaa.Term
open Go.RowKit Wire

theorem u8_ne {b c : UInt8} (h : b ≠ c) : ((b.toNat : Int) != (c.toNat : Int)) = true := by
  rw [bne_iff_ne]; intro he; exact h (UInt8.toNat_inj.1 (by omega))
theorem u8_eq {b c : UInt8} (h : b = c) : ((b.toNat : Int) != (c.toNat : Int)) = false := by rw [h]; simp
theorem cuts_len : ∀ (k : Nat) (l : List UInt8), (cuts k l).length = k
  | 0, _ => rfl
  | k + 1, l => by simp only [cuts, List.length_cons, cuts_len k]

end Go.Proofs.Ytahlilhdiklemaa.Term
