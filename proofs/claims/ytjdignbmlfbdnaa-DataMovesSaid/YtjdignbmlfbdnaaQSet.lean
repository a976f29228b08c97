/-
  A BLOB's EPOCH, set to another one. By an AI agent; no person has read it.
-/
import Derived.Test.YtjdignbmlfbdnaaQMem
namespace Go.Proofs.Ytjdignbmlfbdnaa.Dta
open Go.RowKit Wire Term Reg

set_option linter.unusedSimpArgs false
theorem r3_set0 {g : Nat} {w : World} {ep e : Int} {S G : ByteArray} (h : R3 g w ep S G) : R3 g (w.setCell ⟨g, 0, none⟩ (.int .i64 e)) e S G := by
  obtain ⟨⟨h0, h1, h2, h3⟩, h4, h5, h6⟩ := h
  refine ⟨⟨by simp; exact h0, ?_, ?_, ?_⟩, by simp; exact h4, by simp; exact h5, by simp; exact h6⟩ <;> simp [World.cell?_setCell_other, World.cell?_setCell_same', h1, h2, h3]
end Go.Proofs.Ytjdignbmlfbdnaa.Dta
