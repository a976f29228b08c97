/-
  MLKnown. By an AI agent.
-/
import Derived.Test.YtlkgjceddbclpaaGreatSZ
import Derived.Laws.AppendOwnNone
import Derived.Test.YtlkgjceddbclpaaGreatSMShown
import Derived.Test.YtlkgjceddbclpaaGreatSMKnown
namespace Go.Proofs.YtlkgjceddbclpaaGreat.Mta
open Go.RowKit Wire Term Rig Draw

set_option linter.unusedSimpArgs false
set_option linter.unusedVariables false
theorem knows_oth {k : List (Tm × Tm)} (h : Knows k) {r : Rt} (hr : Ann r) : ∀ s ∈ oth r, pub k s = (pubU s, 0) := fun s hs => h s (oth_wn hr s hs)
end Go.Proofs.YtlkgjceddbclpaaGreat.Mta

