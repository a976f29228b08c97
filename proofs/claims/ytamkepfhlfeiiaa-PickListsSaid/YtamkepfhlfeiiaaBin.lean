/-
  BLOBS BY VALUE, as they come in: a struct of a number and two strings; beside it a slice of strings. By an AI agent; no person has read it.
-/
import Derived.Test.YtamkepfhlfeiiaaQ1
import Derived.WalkKit
import Derived.Below
import Derived.SliceStrings
import Derived.SizedLaws
import Derived.ChangeSame
namespace Go.Proofs.Ytamkepfhlfeiiaa.Bin
open Go.RowKit Go.ChangeShapes

/-- What the frame tells of a slice of strings that came in. -/
def IsStr (w : World) (a : Option Addr) (len cap : Nat) (zs : List ByteArray) : Prop :=
  (a = none ∧ len = 0 ∧ cap = 0 ∧ zs = []) ∨ ∃ x, a = some x ∧ len ≤ cap ∧ cap ≤ maxLen ∧ zs.length = cap ∧ (∀ i, i < zs.length → w.cell? (x.add i) = some (.string (zs.getD i ByteArray.empty))) ∧ ∀ s ∈ zs, s.size ≤ maxLen
/-- A field's weight in a struct that came in. -/
theorem sized_field {H : Type} {P : Program} {ts : List TypeId} {ds parts : List (DataW H)} {j i : Nat} {t tf : TypeId} {fs : Array Field} {d : DataW H} (h : (DataW.weightsEach P ts ds).all (· ≤ reachBytes) = true) (ht : ts[j]? = some t) (hd : ds[j]? = some (.agg parts))
    (hu : P.underlying t = some (.struct fs)) (hp : parts[i]? = some d) (hf : (fs.toList.map (·.type))[i]? = some tf) : ∀ n ∈ DataW.weights P tf d, n ≤ reachBytes := fun n hn => by
  have h1 := DataW.weights_mem_each hf hp n hn
  have h2 := List.all_eq_true.1 h _ (DataW.weights_mem_each ht hd n (by simpa [DataW.weights, hu] using h1))
  simpa using h2
end Go.Proofs.Ytamkepfhlfeiiaa.Bin
