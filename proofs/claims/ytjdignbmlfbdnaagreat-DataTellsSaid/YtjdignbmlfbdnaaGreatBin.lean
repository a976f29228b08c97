/-
  BLOBS BY VALUE, as they come in: a struct of a number and two strings; beside it a slice of strings. By an AI agent; no person has read it.
-/
import Derived.Test.YtjdignbmlfbdnaaGreatZ6
import Derived.WalkKit
import Derived.Below
import Derived.SliceStrings
import Derived.SizedLaws
import Derived.ChangeSame
namespace Go.Proofs.YtjdignbmlfbdnaaGreat.Bin
open Go.RowKit Go.ChangeShapes

/-- What the frame tells of a slice of strings that came in. -/
def IsStr (w : World) (a : Option Addr) (len cap : Nat) (zs : List ByteArray) : Prop :=
  (a = none ∧ len = 0 ∧ cap = 0 ∧ zs = []) ∨ ∃ x, a = some x ∧ len ≤ cap ∧ cap ≤ maxLen ∧ zs.length = cap ∧ (∀ i, i < zs.length → w.cell? (x.add i) = some (.string (zs.getD i ByteArray.empty))) ∧ ∀ s ∈ zs, s.size ≤ maxLen
set_option maxRecDepth 100000 in
theorem blob_in {H : Type} {enc : TypeId × Value → H} {w : World} {base : Nat} {held : Bool} {fuel : Nat} {cs : List Value} {x : DataW H × List MemPlace} (h : DataW.trod enc Tryz.prog w base (fun _ => true) held fuel 23 cs = some x) :
    ∃ (ep : Int) (S G : ByteArray) (d0 : DataW H), cs = [.int .i64 ep, .string S, .string G] ∧ x.1 = .agg [d0, .lit (.string S.data.toList), .lit (.string G.data.toList)] ∧ (Lit.int .i64 ep).wf = true := by
  obtain ⟨xs, k, _, rfl, hl, hxl, hf⟩ := DataW.trod_struct Tryz.underlying23 h
  rw [show Tryz.prog.cellsOf 23 = 3 by kernel_rfl] at hl
  have c9 : Tryz.prog.cellsOf 9 = 1 := by kernel_rfl
  have c3 : Tryz.prog.cellsOf 3 = 1 := by kernel_rfl
  have hx3 : xs.length = 3 := hxl
  match cs, hl with
  | [v0, v1, v2], _ =>
    match xs, hx3 with
    | [y0, y1, y2], _ =>
      have h0 : DataW.trod enc Tryz.prog w base (fun _ => true) held k 3 [v0] = some y0 := by have := hf 0 _ rfl; simpa [c3] using this
      have h1 : DataW.trod enc Tryz.prog w base (fun _ => true) held k 9 [v1] = some y1 := by have := hf 1 _ rfl; simpa [c9] using this
      have h2 : DataW.trod enc Tryz.prog w base (fun _ => true) held k 9 [v2] = some y2 := by have := hf 2 _ rfl; simpa [c9] using this
      obtain ⟨ep, e0, _, hw⟩ := DataW.trod_int Tryz.underlying3 h0
      obtain ⟨S, e1, rfl, _⟩ := DataW.trod_string Tryz.underlying9 h1
      obtain ⟨G, e2, rfl, _⟩ := DataW.trod_string Tryz.underlying9 h2
      obtain rfl := (List.cons.inj e0).1
      obtain rfl := (List.cons.inj e1).1
      obtain rfl := (List.cons.inj e2).1
      exact ⟨ep, S, G, y0.1, rfl, rfl, hw⟩
/-- A field's weight in a struct that came in. -/
theorem sized_field {H : Type} {P : Program} {ts : List TypeId} {ds parts : List (DataW H)} {j i : Nat} {t tf : TypeId} {fs : Array Field} {d : DataW H} (h : (DataW.weightsEach P ts ds).all (· ≤ reachBytes) = true) (ht : ts[j]? = some t) (hd : ds[j]? = some (.agg parts))
    (hu : P.underlying t = some (.struct fs)) (hp : parts[i]? = some d) (hf : (fs.toList.map (·.type))[i]? = some tf) : ∀ n ∈ DataW.weights P tf d, n ≤ reachBytes := fun n hn => by
  have h1 := DataW.weights_mem_each hf hp n hn
  have h2 := List.all_eq_true.1 h _ (DataW.weights_mem_each ht hd n (by simpa [DataW.weights, hu] using h1))
  simpa using h2
end Go.Proofs.YtjdignbmlfbdnaaGreat.Bin
