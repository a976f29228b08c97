/-
  No cell of these rows narrows 'for every input' (looked for: loops, veiled, ifaces, maps, wideKeys, modest, calm, conditions, laid).
  DERIVED. THE GIVEN ROWS OF THIS SEAT. 7 by the template 'for every input the law returns true; each argument reads behind the call as it read before'; 0 by the template 'total and deterministic' (their statements: YtjikepfgfbnheaaTotals.lean).
  GIVEN WITH THE SEED: the statements are not yours to turn. If you find one false, say at which input.
  Laid BY PROGRAM, IN A SANDBOX (cutbox-rows.mjs): the forced cells as the released guide's own fill.sh prints them over the translation af32b2654b44df15… (all of the seat's roots in one cut). By AI agents, Wed Nov 11 2026. No macro, syntax, notation, axiom, sorry.
-/
import Derived.Test.YtjikepfgfbnheaaChecked
import GoSem.Claim
import GoSem.ClaimJoined
import GoSem.ClaimMapViews
import Derived.JoinedTies
import Derived.KernelRfl
namespace Go.Proofs.Ytjikepfgfbnheaa
/- THE CELL 'sum', in the pinned program and in every row, IS THE sha256 OF THE DUMP (.gsa) THAT YtjikepfgfbnheaaProg.lean LOADS. Nothing in Lean hashes anything: it is a label: what it is worth is what the hold of that sum in a sandbox is worth. -/
noncomputable def Try.pinned : Pinned := { name := "ytjikepfgfbnheaa", sum := "af32b2654b44df151ad9eb6fe117d775327d60e006192e8fca262b55407b23d5", checked := Try.checked }
namespace Rows
def none {H : Type} : Left H := { results := [], args := [] }

/-- 'letterlocklaw7.RightsTell': WHATEVER THE INPUT: true; the input reads as it did. -/
def rightsTellSpec : ChangeSpec := { name := "rightsTell", fn := fun _ => fun
  | [d1, d2, d3, d4] => { results := [.lit (.bool true)], args := [d1, d2, d3, d4] }
  | _ => none }
def rightsTellRow : OpenClaim := { program := "ytjikepfgfbnheaa", sum := "af32b2654b44df151ad9eb6fe117d775327d60e006192e8fca262b55407b23d5", func := "letterlock/letterlocklaw7.RightsTell", spec := "rightsTell", inPlace := ["internal/abi.NoEscape", "internal/bytealg.MakeNoZero"], unfollowed := true, recurses := true, apart := false }
def RightsTellSaid : Prop := rightsTellRow.holds Try.pinned (OpenSpec.ofChange rightsTellSpec)

/-- ITS FALSE NEIGHBOUR: 'it returns false'. Refute it at one input. -/
def rightsTellWrong : ChangeSpec := { name := "rightsTell", fn := fun _ => fun
  | [d1, d2, d3, d4] => { results := [.lit (.bool false)], args := [d1, d2, d3, d4] }
  | _ => none }
def RightsTellWrongFalsely : Prop := rightsTellRow.holds Try.pinned (OpenSpec.ofChange rightsTellWrong)

/-- 'letterlocklaw7.RightsDo': WHATEVER THE INPUT: true; the input reads as it did. -/
def rightsDoSpec : ChangeSpec := { name := "rightsDo", fn := fun _ => fun
  | [d] => { results := [.lit (.bool true)], args := [d] }
  | _ => none }
def rightsDoRow : OpenClaim := { program := "ytjikepfgfbnheaa", sum := "af32b2654b44df151ad9eb6fe117d775327d60e006192e8fca262b55407b23d5", func := "letterlock/letterlocklaw7.RightsDo", spec := "rightsDo", unfollowed := true, recurses := true, apart := false }
def RightsDoSaid : Prop := rightsDoRow.holds Try.pinned (OpenSpec.ofChange rightsDoSpec)

/-- ITS FALSE NEIGHBOUR: 'it returns false'. Refute it at one input. -/
def rightsDoWrong : ChangeSpec := { name := "rightsDo", fn := fun _ => fun
  | [d] => { results := [.lit (.bool false)], args := [d] }
  | _ => none }
def RightsDoWrongFalsely : Prop := rightsDoRow.holds Try.pinned (OpenSpec.ofChange rightsDoWrong)

/-- 'letterlocklaw7.RightsBack': WHATEVER THE INPUT: true; the input reads as it did. -/
def rightsBackSpec : ChangeSpec := { name := "rightsBack", fn := fun _ => fun
  | [d1, d2, d3] => { results := [.lit (.bool true)], args := [d1, d2, d3] }
  | _ => none }
def rightsBackRow : OpenClaim := { program := "ytjikepfgfbnheaa", sum := "af32b2654b44df151ad9eb6fe117d775327d60e006192e8fca262b55407b23d5", func := "letterlock/letterlocklaw7.RightsBack", spec := "rightsBack", inPlace := ["internal/abi.NoEscape", "internal/bytealg.MakeNoZero"], unfollowed := true, recurses := true, apart := false }
def RightsBackSaid : Prop := rightsBackRow.holds Try.pinned (OpenSpec.ofChange rightsBackSpec)

/-- ITS FALSE NEIGHBOUR: 'it returns false'. Refute it at one input. -/
def rightsBackWrong : ChangeSpec := { name := "rightsBack", fn := fun _ => fun
  | [d1, d2, d3] => { results := [.lit (.bool false)], args := [d1, d2, d3] }
  | _ => none }
def RightsBackWrongFalsely : Prop := rightsBackRow.holds Try.pinned (OpenSpec.ofChange rightsBackWrong)

/-- 'letterlocklaw7.RightsErrs': WHATEVER THE INPUT: true; the input reads as it did. -/
def rightsErrsSpec : ChangeSpec := { name := "rightsErrs", fn := fun _ => fun
  | [d1, d2] => { results := [.lit (.bool true)], args := [d1, d2] }
  | _ => none }
def rightsErrsRow : OpenClaim := { program := "ytjikepfgfbnheaa", sum := "af32b2654b44df151ad9eb6fe117d775327d60e006192e8fca262b55407b23d5", func := "letterlock/letterlocklaw7.RightsErrs", spec := "rightsErrs", inPlace := ["internal/abi.NoEscape", "internal/bytealg.MakeNoZero"], unfollowed := true, recurses := true, apart := false }
def RightsErrsSaid : Prop := rightsErrsRow.holds Try.pinned (OpenSpec.ofChange rightsErrsSpec)

/-- ITS FALSE NEIGHBOUR: 'it returns false'. Refute it at one input. -/
def rightsErrsWrong : ChangeSpec := { name := "rightsErrs", fn := fun _ => fun
  | [d1, d2] => { results := [.lit (.bool false)], args := [d1, d2] }
  | _ => none }
def RightsErrsWrongFalsely : Prop := rightsErrsRow.holds Try.pinned (OpenSpec.ofChange rightsErrsWrong)

/-- 'letterlocklaw7.RightsUndo': WHATEVER THE INPUT: true; the input reads as it did. -/
def rightsUndoSpec : ChangeSpec := { name := "rightsUndo", fn := fun _ => fun
  | [d1, d2, d3] => { results := [.lit (.bool true)], args := [d1, d2, d3] }
  | _ => none }
def rightsUndoRow : OpenClaim := { program := "ytjikepfgfbnheaa", sum := "af32b2654b44df151ad9eb6fe117d775327d60e006192e8fca262b55407b23d5", func := "letterlock/letterlocklaw7.RightsUndo", spec := "rightsUndo", unfollowed := true, recurses := true, apart := false }
def RightsUndoSaid : Prop := rightsUndoRow.holds Try.pinned (OpenSpec.ofChange rightsUndoSpec)

/-- ITS FALSE NEIGHBOUR: 'it returns false'. Refute it at one input. -/
def rightsUndoWrong : ChangeSpec := { name := "rightsUndo", fn := fun _ => fun
  | [d1, d2, d3] => { results := [.lit (.bool false)], args := [d1, d2, d3] }
  | _ => none }
def RightsUndoWrongFalsely : Prop := rightsUndoRow.holds Try.pinned (OpenSpec.ofChange rightsUndoWrong)

/-- 'letterlocklaw7.RightsOrder': WHATEVER THE INPUT: true; the input reads as it did. -/
def rightsOrderSpec : ChangeSpec := { name := "rightsOrder", fn := fun _ => fun
  | [d1, d2, d3, d4, d5] => { results := [.lit (.bool true)], args := [d1, d2, d3, d4, d5] }
  | _ => none }
def rightsOrderRow : OpenClaim := { program := "ytjikepfgfbnheaa", sum := "af32b2654b44df151ad9eb6fe117d775327d60e006192e8fca262b55407b23d5", func := "letterlock/letterlocklaw7.RightsOrder", spec := "rightsOrder", inPlace := ["internal/abi.NoEscape", "internal/bytealg.MakeNoZero"], unfollowed := true, recurses := true, apart := false }
def RightsOrderSaid : Prop := rightsOrderRow.holds Try.pinned (OpenSpec.ofChange rightsOrderSpec)

/-- ITS FALSE NEIGHBOUR: 'it returns false'. Refute it at one input. -/
def rightsOrderWrong : ChangeSpec := { name := "rightsOrder", fn := fun _ => fun
  | [d1, d2, d3, d4, d5] => { results := [.lit (.bool false)], args := [d1, d2, d3, d4, d5] }
  | _ => none }
def RightsOrderWrongFalsely : Prop := rightsOrderRow.holds Try.pinned (OpenSpec.ofChange rightsOrderWrong)

/-- 'letterlocklaw7.RightsEnd': WHATEVER THE INPUT: true; the input reads as it did. -/
def rightsEndSpec : ChangeSpec := { name := "rightsEnd", fn := fun _ => fun
  | [d] => { results := [.lit (.bool true)], args := [d] }
  | _ => none }
def rightsEndRow : OpenClaim := { program := "ytjikepfgfbnheaa", sum := "af32b2654b44df151ad9eb6fe117d775327d60e006192e8fca262b55407b23d5", func := "letterlock/letterlocklaw7.RightsEnd", spec := "rightsEnd", unfollowed := true, recurses := true, apart := false }
def RightsEndSaid : Prop := rightsEndRow.holds Try.pinned (OpenSpec.ofChange rightsEndSpec)

/-- ITS FALSE NEIGHBOUR: 'it returns false'. Refute it at one input. -/
def rightsEndWrong : ChangeSpec := { name := "rightsEnd", fn := fun _ => fun
  | [d] => { results := [.lit (.bool false)], args := [d] }
  | _ => none }
def RightsEndWrongFalsely : Prop := rightsEndRow.holds Try.pinned (OpenSpec.ofChange rightsEndWrong)

/- THE SECOND FORM. 'bulk': how many values and letters a reading holds, each counted each time it is reached (what is shared counts as often as it is met; a slice's spare places count too). A statement '..UptoSaid' is the law's where the arguments, and the package variables that the reading takes, are together of bulk at most 1048576: NARROWER than '..Said'. Prove '..Said' where nothing that the law and all that it calls make is longer than what came in: it says more and counts as full. Else prove '..UptoSaid'. A law counts once. -/
mutual
def uptoBulk {H : Type} : DataW H → Nat
  | .lit (.string bytes) => bytes.length + 1
  | .lit _ => 1
  | .nil => 1
  | .ptr d => uptoBulk d + 1
  | .slice elems spare => uptoBulkAll elems + uptoBulkAll spare + 1
  | .agg parts => uptoBulkAll parts + 1
  | .iface _ d => uptoBulk d + 1
  | .map entries => uptoBulkEntries entries + 1
  | .held _ => 1
def uptoBulkAll {H : Type} : List (DataW H) → Nat
  | [] => 0
  | d :: r => uptoBulk d + uptoBulkAll r
def uptoBulkEntries {H : Type} : List (Lit × DataW H) → Nat
  | [] => 0
  | x :: r => uptoBulkEntry x + uptoBulkEntries r
def uptoBulkEntry {H : Type} : Lit × DataW H → Nat
  | (.string bytes, d) => bytes.length + uptoBulk d + 1
  | (_, d) => uptoBulk d + 1
 end
def uptoSmall : (H : Type) → List (DataW H) → Bool := fun _ ds => decide (uptoBulkAll ds ≤ 1048576)
def OpenSpec.upto (s : _root_.Go.ChangeSpec) : _root_.Go.OpenSpec := { _root_.Go.OpenSpec.ofChange s with cond := some uptoSmall }

/-- 'letterlocklaw7.RightsTell', WHERE WHAT IT READS IS OF BULK AT MOST 1048576: true; the input reads as it did. -/
def rightsTellUptoRow : OpenClaim := { program := "ytjikepfgfbnheaa", sum := "af32b2654b44df151ad9eb6fe117d775327d60e006192e8fca262b55407b23d5", func := "letterlock/letterlocklaw7.RightsTell", spec := "rightsTell", inPlace := ["internal/abi.NoEscape", "internal/bytealg.MakeNoZero"], unfollowed := true, recurses := true, apart := false, narrowed := true }
def RightsTellUptoSaid : Prop := rightsTellUptoRow.holds Try.pinned (OpenSpec.upto rightsTellSpec)

/-- 'letterlocklaw7.RightsDo', WHERE WHAT IT READS IS OF BULK AT MOST 1048576: true; the input reads as it did. -/
def rightsDoUptoRow : OpenClaim := { program := "ytjikepfgfbnheaa", sum := "af32b2654b44df151ad9eb6fe117d775327d60e006192e8fca262b55407b23d5", func := "letterlock/letterlocklaw7.RightsDo", spec := "rightsDo", unfollowed := true, recurses := true, apart := false, narrowed := true }
def RightsDoUptoSaid : Prop := rightsDoUptoRow.holds Try.pinned (OpenSpec.upto rightsDoSpec)

/-- 'letterlocklaw7.RightsBack', WHERE WHAT IT READS IS OF BULK AT MOST 1048576: true; the input reads as it did. -/
def rightsBackUptoRow : OpenClaim := { program := "ytjikepfgfbnheaa", sum := "af32b2654b44df151ad9eb6fe117d775327d60e006192e8fca262b55407b23d5", func := "letterlock/letterlocklaw7.RightsBack", spec := "rightsBack", inPlace := ["internal/abi.NoEscape", "internal/bytealg.MakeNoZero"], unfollowed := true, recurses := true, apart := false, narrowed := true }
def RightsBackUptoSaid : Prop := rightsBackUptoRow.holds Try.pinned (OpenSpec.upto rightsBackSpec)

/-- 'letterlocklaw7.RightsErrs', WHERE WHAT IT READS IS OF BULK AT MOST 1048576: true; the input reads as it did. -/
def rightsErrsUptoRow : OpenClaim := { program := "ytjikepfgfbnheaa", sum := "af32b2654b44df151ad9eb6fe117d775327d60e006192e8fca262b55407b23d5", func := "letterlock/letterlocklaw7.RightsErrs", spec := "rightsErrs", inPlace := ["internal/abi.NoEscape", "internal/bytealg.MakeNoZero"], unfollowed := true, recurses := true, apart := false, narrowed := true }
def RightsErrsUptoSaid : Prop := rightsErrsUptoRow.holds Try.pinned (OpenSpec.upto rightsErrsSpec)

/-- 'letterlocklaw7.RightsUndo', WHERE WHAT IT READS IS OF BULK AT MOST 1048576: true; the input reads as it did. -/
def rightsUndoUptoRow : OpenClaim := { program := "ytjikepfgfbnheaa", sum := "af32b2654b44df151ad9eb6fe117d775327d60e006192e8fca262b55407b23d5", func := "letterlock/letterlocklaw7.RightsUndo", spec := "rightsUndo", unfollowed := true, recurses := true, apart := false, narrowed := true }
def RightsUndoUptoSaid : Prop := rightsUndoUptoRow.holds Try.pinned (OpenSpec.upto rightsUndoSpec)

/-- 'letterlocklaw7.RightsOrder', WHERE WHAT IT READS IS OF BULK AT MOST 1048576: true; the input reads as it did. -/
def rightsOrderUptoRow : OpenClaim := { program := "ytjikepfgfbnheaa", sum := "af32b2654b44df151ad9eb6fe117d775327d60e006192e8fca262b55407b23d5", func := "letterlock/letterlocklaw7.RightsOrder", spec := "rightsOrder", inPlace := ["internal/abi.NoEscape", "internal/bytealg.MakeNoZero"], unfollowed := true, recurses := true, apart := false, narrowed := true }
def RightsOrderUptoSaid : Prop := rightsOrderUptoRow.holds Try.pinned (OpenSpec.upto rightsOrderSpec)

/-- 'letterlocklaw7.RightsEnd', WHERE WHAT IT READS IS OF BULK AT MOST 1048576: true; the input reads as it did. -/
def rightsEndUptoRow : OpenClaim := { program := "ytjikepfgfbnheaa", sum := "af32b2654b44df151ad9eb6fe117d775327d60e006192e8fca262b55407b23d5", func := "letterlock/letterlocklaw7.RightsEnd", spec := "rightsEnd", unfollowed := true, recurses := true, apart := false, narrowed := true }
def RightsEndUptoSaid : Prop := rightsEndUptoRow.holds Try.pinned (OpenSpec.upto rightsEndSpec)

end Rows
end Go.Proofs.Ytjikepfgfbnheaa
