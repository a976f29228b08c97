/-
  BYTES: string(b) of a slice of bytes at this program. By an AI agent; no person has read it.
-/
import Derived.Test.YtahlilhdiklemaaWBase
namespace Go.Proofs.Ytahlilhdiklemaa.Wire
open Go.RowKit

theorem conv_one (W : World) (a : Addr) (b : Nat) (hb : b < 256) (h : W.cell? a = some (.int .u8 (b : Int))) :
    (convert 65 9 (.slice (some a) 1 1)).run Try.prog W = .ok (.string ⟨#[b.toUInt8]⟩) W := by
  have := run_convert_bytes_back (P := Try.prog) W 65 9 5 a 1 [b.toUInt8] Try.underlying65 Try.underlying5 Try.underlying9 (fun j hj => by
    obtain rfl : j = 0 := by simpa using hj
    have e : a.add 0 = a := by simp [Addr.add]
    rw [e, h]
    simp [u8_nat _ hb])
  simpa using this
theorem conv_tail (W : World) (A : Addr) (c : Nat) (D : List UInt8) (h : ∀ j (hj : j < D.length), W.cell? (A.add j) = some (by8 D[j])) :
    (convert 65 9 (.slice (some A) D.length c)).run Try.prog W = .ok (.string ⟨D.toArray⟩) W :=
  run_convert_bytes_back (P := Try.prog) W 65 9 5 A c D Try.underlying65 Try.underlying5 Try.underlying9 (fun j hj => h j hj)
theorem byte_info : (Try.prog.info? 5).map (fun i => (i.zero, i.size, i.bytes)) = some (some (.int .u8 0), 1, 1) := by kernel_rfl
end Go.Proofs.Ytahlilhdiklemaa.Wire
