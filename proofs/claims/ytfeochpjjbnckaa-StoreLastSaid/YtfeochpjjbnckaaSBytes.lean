/-
  BYTES THAT ARE ALL NOUGHT, made and read as a text; an act in a row that came in. By an AI agent; no person has read it.
-/
import Derived.Test.YtfeochpjjbnckaaSBox
import Derived.Laws.IdiomStrings
import Derived.Laws.MakeOwn
namespace Go.Proofs.Ytfeochpjjbnckaa.Sto
open Go Go.RowKit Wire

set_option linter.unusedVariables false
theorem Bel.call {w0 w1 w2 : World} (h : Below w0.heap.size w0 w1) (h2 : Below w1.heap.size w1 w2) : Below w0.heap.size w0 w2 := bel_call h h2
/-- An act at its place in a row. -/
def R4 (g o : Nat) (w : World) (a b c d : Value) : Prop := g < w.heap.size ∧ w.cell? ⟨g, o, none⟩ = some a ∧ w.cell? ⟨g, o + 1, none⟩ = some b ∧ w.cell? ⟨g, o + 2, none⟩ = some c ∧ w.cell? ⟨g, o + 3, none⟩ = some d
theorem R4.below {g o : Nat} {w w1 : World} {a b c d : Value} (h : R4 g o w a b c d) (hb : Below w.heap.size w w1) : R4 g o w1 a b c d := by
  obtain ⟨h0, h1, h2, h3, h4⟩ := h
  have ec := fun j => hb.cell (p := ⟨g, j, none⟩) h0
  exact ⟨Nat.lt_of_lt_of_le h0 hb.size, (ec _).trans h1, (ec _).trans h2, (ec _).trans h3, (ec _).trans h4⟩
theorem R4.next {g o : Nat} {w w1 : World} {X X' : Nat → Prop} {a b c d : Value} (h : R4 g o w a b c d) (hn : Nx X X' w w1) (hx : ¬ X g) : R4 g o w1 a b c d := by
  obtain ⟨h0, h1, h2, h3, h4⟩ := h
  have eb := hn.fr.block g h0 hx
  have ec := fun j => World.cell?_of_block (w := w) (w' := w1) (a := ⟨g, j, none⟩) eb
  exact ⟨Nat.lt_of_lt_of_le h0 hn.fr.size, (ec _).trans h1, (ec _).trans h2, (ec _).trans h3, (ec _).trans h4⟩
/-- So many bytes of nought, in a block. -/
def Zb (n : Nat) : ByteArray := ⟨(List.replicate n (0 : UInt8)).toArray⟩
theorem zb_list (n : Nat) : (Zb n).data.toList = List.replicate n 0 := rfl
theorem zb_size (n : Nat) : (Zb n).size = n := by rw [Lib.size_eq, zb_list, List.length_replicate]
def Bz (g n : Nat) (w : World) : Prop := g < w.heap.size ∧ ∀ j, j < n → w.cell? ⟨g, j, none⟩ = some (.int .u8 0)
theorem Bz.below {g n : Nat} {w w1 : World} (h : Bz g n w) (hb : Below w.heap.size w w1) : Bz g n w1 := ⟨Nat.lt_of_lt_of_le h.1 hb.size, fun j hj => (hb.cell (p := ⟨g, j, none⟩) h.1).trans (h.2 j hj)⟩
theorem Bz.next {g n : Nat} {w w1 : World} {X X' : Nat → Prop} (h : Bz g n w) (hn : Nx X X' w w1) (hx : ¬ X g) : Bz g n w1 :=
  ⟨Nat.lt_of_lt_of_le h.1 hn.fr.size, fun j hj => (World.cell?_of_block (w := w) (w' := w1) (a := ⟨g, j, none⟩) (hn.fr.block g h.1 hx)).trans (h.2 j hj)⟩
def zworld (w : World) (n : Nat) : World := w.alloc (.cells (madeCells #[.int .u8 0] n) 5)
theorem bz_new (w : World) (n : Nat) : Bz w.heap.size n (zworld w n) := by
  refine ⟨by simp [zworld], fun j hj => ?_⟩
  have : ((List.range n).toArray.map fun (x : Nat) => (Value.int .u8 0)).size = n := by simp
  unfold zworld madeCells
  simp [go_sem, hj, Nat.mod_one]
theorem bel_z (w : World) (n : Nat) : Below w.heap.size w (zworld w n) := (Below.refl _ w).alloc (Nat.le_refl _) _
theorem run_z (n : Nat) (hn : n ≤ 1000000) (w : World) : (Instr.makeSlice 42 (.int .i64 (n : Int)) (.int .i64 (n : Int))).run Try.prog w = .ok (.slice (some ⟨w.heap.size, 0, none⟩) n n) (zworld w n) := by
  obtain ⟨i, hi, hzz⟩ := Option.map_eq_some_iff.1 (show (Try.prog.info? 5).map (fun i => (i.zero, i.size, i.bytes)) = some (some (.int .u8 0), 1, 1) by kernel_rfl)
  simp only [Prod.mk.injEq] at hzz
  obtain ⟨hz, hs, hb⟩ := hzz
  have hr := run_make (P := Try.prog) w 42 5 i _ Try.underlying42 hi hz .i64 .i64 n n (by omega) (by omega) (by rw [hb]; omega) (by omega)
  simp only [Int.toNat_natCast, hs, Nat.mul_one] at hr
  exact hr
theorem z_text {g n : Nat} {w : World} (h : Bz g n w) (cap : Nat) : (convert 42 9 (.slice (some ⟨g, 0, none⟩) n cap)).run Try.prog w = .ok (.string (Zb n)) w := by
  have := run_convert_bytes_back (P := Try.prog) w 42 9 5 ⟨g, 0, none⟩ cap (List.replicate n 0) Try.underlying42 Try.underlying5 Try.underlying9 fun j hj => by
    rw [List.length_replicate] at hj
    rw [show ((⟨g, 0, none⟩ : Addr).add j) = ⟨g, j, none⟩ from by unfold Addr.add; split <;> simp_all, h.2 j hj]
    simp
  rw [List.length_replicate] at this
  exact this
end Go.Proofs.Ytfeochpjjbnckaa.Sto
