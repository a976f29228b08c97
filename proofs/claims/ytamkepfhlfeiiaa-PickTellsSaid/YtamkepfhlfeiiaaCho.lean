/-
  A CHOICE BY VALUE, as it comes in: a struct of a byte, a number, and two strings (pick.Choice). By an AI agent; no person has read it.
-/
import Derived.Test.YtamkepfhlfeiiaaMip
namespace Go.Proofs.Ytamkepfhlfeiiaa.Cho
open Go.RowKit Go.ChangeShapes

set_option maxRecDepth 100000 in
theorem choice_in {H : Type} {enc : TypeId × Value → H} {w : World} {base : Nat} {held : Bool} {fuel : Nat} {cs : List Value} {x : DataW H × List MemPlace} (h : DataW.trod enc Try.prog w base (fun _ => true) held fuel 24 cs = some x) :
    ∃ (k b : Int) (Y Z : ByteArray) (d0 d1 : DataW H), cs = [.int .u8 k, .int .i64 b, .string Y, .string Z] ∧ x.1 = .agg [d0, d1, .lit (.string Y.data.toList), .lit (.string Z.data.toList)] ∧ (Lit.int .u8 k).wf = true ∧ (Lit.int .i64 b).wf = true := by
  obtain ⟨xs, k, _, rfl, hl, hxl, hf⟩ := DataW.trod_struct Try.underlying24 h
  rw [show Try.prog.cellsOf 24 = 4 by kernel_rfl] at hl
  have c9 : Try.prog.cellsOf 9 = 1 := by kernel_rfl
  have c3 : Try.prog.cellsOf 3 = 1 := by kernel_rfl
  have c5 : Try.prog.cellsOf 5 = 1 := by kernel_rfl
  have hx4 : xs.length = 4 := hxl
  match cs, hl with
  | [v0, v1, v2, v3], _ =>
    match xs, hx4 with
    | [y0, y1, y2, y3], _ =>
      have h0 : DataW.trod enc Try.prog w base (fun _ => true) held k 5 [v0] = some y0 := by have := hf 0 _ rfl; simpa [c5] using this
      have h1 : DataW.trod enc Try.prog w base (fun _ => true) held k 3 [v1] = some y1 := by have := hf 1 _ rfl; simpa [c5, c3] using this
      have h2 : DataW.trod enc Try.prog w base (fun _ => true) held k 9 [v2] = some y2 := by have := hf 2 _ rfl; simpa [c5, c9, c3] using this
      have h3 : DataW.trod enc Try.prog w base (fun _ => true) held k 9 [v3] = some y3 := by have := hf 3 _ rfl; simpa [c5, c9, c3] using this
      obtain ⟨kd, e0, r0, hw0⟩ := DataW.trod_int Try.underlying5 h0
      obtain ⟨b, e1, r1, hw1⟩ := DataW.trod_int Try.underlying3 h1
      obtain ⟨Y, e2, r2, _⟩ := DataW.trod_string Try.underlying9 h2
      obtain ⟨Z, e3, r3, _⟩ := DataW.trod_string Try.underlying9 h3
      obtain rfl := (List.cons.inj e0).1
      obtain rfl := (List.cons.inj e1).1
      obtain rfl := (List.cons.inj e2).1
      obtain rfl := (List.cons.inj e3).1
      subst r2; subst r3
      exact ⟨kd, b, Y, Z, y0.1, y1.1, rfl, rfl, hw0, hw1⟩
theorem wf_u8 {z : Int} (h : (Lit.int .u8 z).wf = true) : 0 ≤ z ∧ z ≤ 255 := by simpa [Lit.wf, IntKind.min, IntKind.max, IntKind.bits, IntKind.signed] using h
end Go.Proofs.Ytamkepfhlfeiiaa.Cho
