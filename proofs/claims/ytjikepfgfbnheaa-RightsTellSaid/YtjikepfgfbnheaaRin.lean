/-
  RIGHTS BY VALUE, as they come in: a struct of two strings, a number, two slices of strings. By an AI agent; no person has read it.
-/
import Derived.Test.YtjikepfgfbnheaaW0
import Derived.WalkKit
import Derived.Below
import Derived.SliceStrings
import Derived.SizedLaws
import Derived.ChangeSame
namespace Go.Proofs.Ytjikepfgfbnheaa.Rin
open Go.RowKit Go.ChangeShapes

/-- What the frame tells of a slice of strings that came in. -/
def IsStr (w : World) (a : Option Addr) (len cap : Nat) (zs : List ByteArray) : Prop :=
  (a = none ∧ len = 0 ∧ cap = 0 ∧ zs = []) ∨ ∃ x, a = some x ∧ len ≤ cap ∧ cap ≤ maxLen ∧ zs.length = cap ∧ (∀ i, i < zs.length → w.cell? (x.add i) = some (.string (zs.getD i ByteArray.empty))) ∧ ∀ s ∈ zs, s.size ≤ maxLen
section
variable {H : Type} {enc : TypeId × Value → H} {w : World} {base : Nat} {held : Bool}
theorem strs_in {fuel : Nat} {v : Value} {y : DataW H × List MemPlace} (h : DataW.trod enc Try.prog w base (fun _ => true) held fuel 22 [v] = some y) : ∃ a n c zs, v = .slice a n c ∧ IsStr w a n c zs := by
  rcases open_strings Try.underlying22 Try.underlying9 (by kernel_rfl) h with ⟨hcs, _⟩ | ⟨x, l, c, zs, hcs, _, hl, hm, hz, _, hcell, hsz⟩
  · exact ⟨none, 0, 0, [], (List.cons.inj hcs).1, .inl ⟨rfl, rfl, rfl, rfl⟩⟩
  · exact ⟨some x, l, c, zs, (List.cons.inj hcs).1, .inr ⟨x, rfl, hl, hm, by simpa using hz, hcell, hsz⟩⟩
theorem rights_in {fuel : Nat} {cs : List Value} {x : DataW H × List MemPlace} (h : DataW.trod enc Try.prog w base (fun _ => true) held fuel 24 cs = some x) :
    ∃ (o f : ByteArray) (ep : Int) (A : Option Addr) (n c : Nat) (rs : List ByteArray) (B : Option Addr) (m d : Nat) (ws : List ByteArray) (d2 d3 d4 : DataW H),
      cs = [.string o, .string f, .int .i64 ep, .slice A n c, .slice B m d] ∧ x.1 = .agg [.lit (.string o.data.toList), .lit (.string f.data.toList), d2, d3, d4] ∧ (Lit.int .i64 ep).wf = true ∧ IsStr w A n c rs ∧ IsStr w B m d ws := by
  obtain ⟨xs, k, _, rfl, hl, hxl, hf⟩ := DataW.trod_struct Try.underlying24 h
  rw [show Try.prog.cellsOf 24 = 5 by kernel_rfl] at hl
  have c9 : Try.prog.cellsOf 9 = 1 := by kernel_rfl
  have c3 : Try.prog.cellsOf 3 = 1 := by kernel_rfl
  have c22 : Try.prog.cellsOf 22 = 1 := by kernel_rfl
  have hx5 : xs.length = 5 := hxl
  match cs, hl with
  | [v0, v1, v2, v3, v4], _ =>
    match xs, hx5 with
    | [y0, y1, y2, y3, y4], _ =>
      have h0 : DataW.trod enc Try.prog w base (fun _ => true) held k 9 [v0] = some y0 := by have := hf 0 _ rfl; simpa [c9] using this
      have h1 : DataW.trod enc Try.prog w base (fun _ => true) held k 9 [v1] = some y1 := by have := hf 1 _ rfl; simpa [c9] using this
      have h2 : DataW.trod enc Try.prog w base (fun _ => true) held k 3 [v2] = some y2 := by have := hf 2 _ rfl; simpa [c3] using this
      have h3 : DataW.trod enc Try.prog w base (fun _ => true) held k 22 [v3] = some y3 := by have := hf 3 _ rfl; simpa [c22] using this
      have h4 : DataW.trod enc Try.prog w base (fun _ => true) held k 22 [v4] = some y4 := by have := hf 4 _ rfl; simpa [c22] using this
      obtain ⟨o, e0, rfl, _⟩ := DataW.trod_string Try.underlying9 h0
      obtain ⟨f, e1, rfl, _⟩ := DataW.trod_string Try.underlying9 h1
      obtain ⟨ep, e2, _, hw⟩ := DataW.trod_int Try.underlying3 h2
      obtain ⟨A, n, c, rs, rfl, h5⟩ := strs_in h3
      obtain ⟨B, m, d, ws, rfl, h6⟩ := strs_in h4
      obtain rfl := (List.cons.inj e0).1
      obtain rfl := (List.cons.inj e1).1
      obtain rfl := (List.cons.inj e2).1
      exact ⟨o, f, ep, A, n, c, rs, B, m, d, ws, y2.1, y3.1, y4.1, rfl, rfl, hw, h5, h6⟩
/-- A field's weight in a struct that came in. -/
theorem sized_field {P : Program} {ts : List TypeId} {ds parts : List (DataW H)} {j i : Nat} {t tf : TypeId} {fs : Array Field} {d : DataW H} (h : (DataW.weightsEach P ts ds).all (· ≤ reachBytes) = true) (ht : ts[j]? = some t) (hd : ds[j]? = some (.agg parts))
    (hu : P.underlying t = some (.struct fs)) (hp : parts[i]? = some d) (hf : (fs.toList.map (·.type))[i]? = some tf) : ∀ n ∈ DataW.weights P tf d, n ≤ reachBytes := fun n hn => by
  have h1 := DataW.weights_mem_each hf hp n hn
  have h2 := List.all_eq_true.1 h _ (DataW.weights_mem_each ht hd n (by simpa [DataW.weights, hu] using h1))
  simpa using h2
end
end Go.Proofs.Ytjikepfgfbnheaa.Rin
