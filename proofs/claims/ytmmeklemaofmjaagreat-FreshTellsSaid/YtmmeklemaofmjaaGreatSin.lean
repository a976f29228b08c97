/-
  STAMPS BY VALUE, as they come in: a struct of a string, two numbers, and two strings. By an AI agent; no person has read it.
-/
import Derived.Test.YtmmeklemaofmjaaGreatBin
namespace Go.Proofs.YtmmeklemaofmjaaGreat.Sin
open Go.RowKit Go.ChangeShapes

set_option maxRecDepth 100000 in
theorem stamp_in {H : Type} {enc : TypeId × Value → H} {w : World} {base : Nat} {held : Bool} {fuel : Nat} {cs : List Value} {x : DataW H × List MemPlace} (h : DataW.trod enc Tryz.prog w base (fun _ => true) held fuel 24 cs = some x) :
    ∃ (O : ByteArray) (t m : Int) (R G : ByteArray) (d1 d2 : DataW H), cs = [.string O, .int .u64 t, .int .i64 m, .string R, .string G] ∧ x.1 = .agg [.lit (.string O.data.toList), d1, d2, .lit (.string R.data.toList), .lit (.string G.data.toList)] ∧ (Lit.int .u64 t).wf = true ∧ (Lit.int .i64 m).wf = true := by
  obtain ⟨xs, k, _, rfl, hl, hxl, hf⟩ := DataW.trod_struct Tryz.underlying24 h
  rw [show Tryz.prog.cellsOf 24 = 5 by kernel_rfl] at hl
  have c9 : Tryz.prog.cellsOf 9 = 1 := by kernel_rfl
  have c3 : Tryz.prog.cellsOf 3 = 1 := by kernel_rfl
  have c8 : Tryz.prog.cellsOf 22 = 1 := by kernel_rfl
  have hx5 : xs.length = 5 := hxl
  match cs, hl with
  | [v0, v1, v2, v3, v4], _ =>
    match xs, hx5 with
    | [y0, y1, y2, y3, y4], _ =>
      have h0 : DataW.trod enc Tryz.prog w base (fun _ => true) held k 9 [v0] = some y0 := by have := hf 0 _ rfl; simpa [c9] using this
      have h1 : DataW.trod enc Tryz.prog w base (fun _ => true) held k 22 [v1] = some y1 := by have := hf 1 _ rfl; simpa [c9, c8] using this
      have h2 : DataW.trod enc Tryz.prog w base (fun _ => true) held k 3 [v2] = some y2 := by have := hf 2 _ rfl; simpa [c9, c8, c3] using this
      have h3 : DataW.trod enc Tryz.prog w base (fun _ => true) held k 9 [v3] = some y3 := by have := hf 3 _ rfl; simpa [c9, c8, c3] using this
      have h4 : DataW.trod enc Tryz.prog w base (fun _ => true) held k 9 [v4] = some y4 := by have := hf 4 _ rfl; simpa [c9, c8, c3] using this
      obtain ⟨O, e0, r0, _⟩ := DataW.trod_string Tryz.underlying9 h0
      obtain ⟨t, e1, r1, hw1⟩ := DataW.trod_int Tryz.underlying22 h1
      obtain ⟨m, e2, r2, hw2⟩ := DataW.trod_int Tryz.underlying3 h2
      obtain ⟨R, e3, r3, _⟩ := DataW.trod_string Tryz.underlying9 h3
      obtain ⟨G, e4, r4, _⟩ := DataW.trod_string Tryz.underlying9 h4
      obtain rfl := (List.cons.inj e0).1
      obtain rfl := (List.cons.inj e1).1
      obtain rfl := (List.cons.inj e2).1
      obtain rfl := (List.cons.inj e3).1
      obtain rfl := (List.cons.inj e4).1
      subst r0; subst r3; subst r4
      exact ⟨O, t, m, R, G, y1.1, y2.1, rfl, rfl, hw1, hw2⟩
end Go.Proofs.YtmmeklemaofmjaaGreat.Sin
