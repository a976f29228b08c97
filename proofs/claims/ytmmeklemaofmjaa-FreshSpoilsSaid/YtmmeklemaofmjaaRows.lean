/-
  No cell of these rows narrows 'for every input' (looked for: loops, veiled, ifaces, maps, wideKeys, modest, calm, conditions, laid).
  DERIVED. THE GIVEN ROWS OF THIS SEAT. 5 by the template 'for every input the law returns true; each argument reads behind the call as it read before'; 0 by the template 'total and deterministic' (their statements: YtmmeklemaofmjaaTotals.lean).
  GIVEN WITH THE SEED: the statements are not yours to turn. If you find one false, say at which input.
  Laid BY PROGRAM, IN A SANDBOX (cutbox-rows.mjs): the forced cells as the released guide's own fill.sh prints them over the translation cf92c98283130549… (all of the seat's roots in one cut). By AI agents, Wed Nov 11 2026. No macro, syntax, notation, axiom, sorry.
-/
import Derived.Test.YtmmeklemaofmjaaChecked
import GoSem.Claim
import GoSem.ClaimJoined
import GoSem.ClaimMapViews
import Derived.JoinedTies
import Derived.KernelRfl
namespace Go.Proofs.Ytmmeklemaofmjaa
/- THE CELL 'sum', in the pinned program and in every row, IS THE sha256 OF THE DUMP (.gsa) THAT YtmmeklemaofmjaaProg.lean LOADS. Nothing in Lean hashes anything: it is a label: what it is worth is what the hold of that sum in a sandbox is worth. -/
noncomputable def Try.pinned : Pinned := { name := "ytmmeklemaofmjaa", sum := "cf92c98283130549c491c0baff2baefb0feb8c8f781af7f5fa71f4e36e7b3336", checked := Try.checked }
namespace Rows
def none {H : Type} : Left H := { results := [], args := [] }

/-- 'letterlocklaw11.FreshChecks': WHATEVER THE INPUT: true; the input reads as it did. -/
def freshChecksSpec : ChangeSpec := { name := "freshChecks", fn := fun _ => fun
  | [d1, d2, d3, d4, d5] => { results := [.lit (.bool true)], args := [d1, d2, d3, d4, d5] }
  | _ => none }
def freshChecksRow : OpenClaim := { program := "ytmmeklemaofmjaa", sum := "cf92c98283130549c491c0baff2baefb0feb8c8f781af7f5fa71f4e36e7b3336", func := "letterlock/letterlocklaw11.FreshChecks", spec := "freshChecks", inPlace := ["internal/abi.NoEscape", "internal/bytealg.MakeNoZero"], unfollowed := true, recurses := true, apart := false }
def FreshChecksSaid : Prop := freshChecksRow.holds Try.pinned (OpenSpec.ofChange freshChecksSpec)

/-- ITS FALSE NEIGHBOUR: 'it returns false'. Refute it at one input. -/
def freshChecksWrong : ChangeSpec := { name := "freshChecks", fn := fun _ => fun
  | [d1, d2, d3, d4, d5] => { results := [.lit (.bool false)], args := [d1, d2, d3, d4, d5] }
  | _ => none }
def FreshChecksWrongFalsely : Prop := freshChecksRow.holds Try.pinned (OpenSpec.ofChange freshChecksWrong)

/-- 'letterlocklaw11.FreshCovers': WHATEVER THE INPUT: true; the input reads as it did. -/
def freshCoversSpec : ChangeSpec := { name := "freshCovers", fn := fun _ => fun
  | [d1, d2, d3] => { results := [.lit (.bool true)], args := [d1, d2, d3] }
  | _ => none }
def freshCoversRow : OpenClaim := { program := "ytmmeklemaofmjaa", sum := "cf92c98283130549c491c0baff2baefb0feb8c8f781af7f5fa71f4e36e7b3336", func := "letterlock/letterlocklaw11.FreshCovers", spec := "freshCovers", inPlace := ["internal/abi.NoEscape", "internal/bytealg.MakeNoZero"], unfollowed := true, recurses := true, apart := false }
def FreshCoversSaid : Prop := freshCoversRow.holds Try.pinned (OpenSpec.ofChange freshCoversSpec)

/-- ITS FALSE NEIGHBOUR: 'it returns false'. Refute it at one input. -/
def freshCoversWrong : ChangeSpec := { name := "freshCovers", fn := fun _ => fun
  | [d1, d2, d3] => { results := [.lit (.bool false)], args := [d1, d2, d3] }
  | _ => none }
def FreshCoversWrongFalsely : Prop := freshCoversRow.holds Try.pinned (OpenSpec.ofChange freshCoversWrong)

/-- 'letterlocklaw11.FreshSpoils': WHATEVER THE INPUT: true; the input reads as it did. -/
def freshSpoilsSpec : ChangeSpec := { name := "freshSpoils", fn := fun _ => fun
  | [d1, d2, d3, d4, d5] => { results := [.lit (.bool true)], args := [d1, d2, d3, d4, d5] }
  | _ => none }
def freshSpoilsRow : OpenClaim := { program := "ytmmeklemaofmjaa", sum := "cf92c98283130549c491c0baff2baefb0feb8c8f781af7f5fa71f4e36e7b3336", func := "letterlock/letterlocklaw11.FreshSpoils", spec := "freshSpoils", inPlace := ["internal/abi.NoEscape", "internal/bytealg.MakeNoZero"], unfollowed := true, recurses := true, apart := false }
def FreshSpoilsSaid : Prop := freshSpoilsRow.holds Try.pinned (OpenSpec.ofChange freshSpoilsSpec)

/-- ITS FALSE NEIGHBOUR: 'it returns false'. Refute it at one input. -/
def freshSpoilsWrong : ChangeSpec := { name := "freshSpoils", fn := fun _ => fun
  | [d1, d2, d3, d4, d5] => { results := [.lit (.bool false)], args := [d1, d2, d3, d4, d5] }
  | _ => none }
def FreshSpoilsWrongFalsely : Prop := freshSpoilsRow.holds Try.pinned (OpenSpec.ofChange freshSpoilsWrong)

/-- 'letterlocklaw11.FreshOwners': WHATEVER THE INPUT: true; the input reads as it did. -/
def freshOwnersSpec : ChangeSpec := { name := "freshOwners", fn := fun _ => fun
  | [d1, d2, d3, d4] => { results := [.lit (.bool true)], args := [d1, d2, d3, d4] }
  | _ => none }
def freshOwnersRow : OpenClaim := { program := "ytmmeklemaofmjaa", sum := "cf92c98283130549c491c0baff2baefb0feb8c8f781af7f5fa71f4e36e7b3336", func := "letterlock/letterlocklaw11.FreshOwners", spec := "freshOwners", inPlace := ["internal/abi.NoEscape", "internal/bytealg.MakeNoZero"], unfollowed := true, recurses := true, apart := false }
def FreshOwnersSaid : Prop := freshOwnersRow.holds Try.pinned (OpenSpec.ofChange freshOwnersSpec)

/-- ITS FALSE NEIGHBOUR: 'it returns false'. Refute it at one input. -/
def freshOwnersWrong : ChangeSpec := { name := "freshOwners", fn := fun _ => fun
  | [d1, d2, d3, d4] => { results := [.lit (.bool false)], args := [d1, d2, d3, d4] }
  | _ => none }
def FreshOwnersWrongFalsely : Prop := freshOwnersRow.holds Try.pinned (OpenSpec.ofChange freshOwnersWrong)

/-- 'letterlocklaw11.FreshSays': WHATEVER THE INPUT: true; the input reads as it did. -/
def freshSaysSpec : ChangeSpec := { name := "freshSays", fn := fun _ => fun
  | [d1, d2, d3, d4, d5] => { results := [.lit (.bool true)], args := [d1, d2, d3, d4, d5] }
  | _ => none }
def freshSaysRow : OpenClaim := { program := "ytmmeklemaofmjaa", sum := "cf92c98283130549c491c0baff2baefb0feb8c8f781af7f5fa71f4e36e7b3336", func := "letterlock/letterlocklaw11.FreshSays", spec := "freshSays", inPlace := ["internal/abi.NoEscape", "internal/bytealg.MakeNoZero"], unfollowed := true, recurses := true, apart := false }
def FreshSaysSaid : Prop := freshSaysRow.holds Try.pinned (OpenSpec.ofChange freshSaysSpec)

/-- ITS FALSE NEIGHBOUR: 'it returns false'. Refute it at one input. -/
def freshSaysWrong : ChangeSpec := { name := "freshSays", fn := fun _ => fun
  | [d1, d2, d3, d4, d5] => { results := [.lit (.bool false)], args := [d1, d2, d3, d4, d5] }
  | _ => none }
def FreshSaysWrongFalsely : Prop := freshSaysRow.holds Try.pinned (OpenSpec.ofChange freshSaysWrong)

/- THE SECOND FORM. 'bulk': how many values and letters a reading holds, each counted each time it is reached (what is shared counts as often as it is met; a slice's spare places count too). A statement '..UptoSaid' is the law's where the arguments, and the package variables that the reading takes, are together of bulk at most 1048576: NARROWER than '..Said'. Prove '..Said' where nothing that the law and all that it calls make is longer than what came in: it says more and counts as full. Else prove '..UptoSaid'. A law counts once. -/
mutual
def uptoBulk {H : Type} : DataW H → Nat
  | .lit (.string bytes) => bytes.length + 1
  | .lit _ => 1
  | .nil => 1
  | .ptr d => uptoBulk d + 1
  | .slice elems spare => uptoBulkAll elems + uptoBulkAll spare + 1
  | .agg parts => uptoBulkAll parts + 1
  | .iface _ d => uptoBulk d + 1
  | .map entries => uptoBulkEntries entries + 1
  | .held _ => 1
def uptoBulkAll {H : Type} : List (DataW H) → Nat
  | [] => 0
  | d :: r => uptoBulk d + uptoBulkAll r
def uptoBulkEntries {H : Type} : List (Lit × DataW H) → Nat
  | [] => 0
  | x :: r => uptoBulkEntry x + uptoBulkEntries r
def uptoBulkEntry {H : Type} : Lit × DataW H → Nat
  | (.string bytes, d) => bytes.length + uptoBulk d + 1
  | (_, d) => uptoBulk d + 1
 end
def uptoSmall : (H : Type) → List (DataW H) → Bool := fun _ ds => decide (uptoBulkAll ds ≤ 1048576)
def OpenSpec.upto (s : _root_.Go.ChangeSpec) : _root_.Go.OpenSpec := { _root_.Go.OpenSpec.ofChange s with cond := some uptoSmall }

/-- 'letterlocklaw11.FreshChecks', WHERE WHAT IT READS IS OF BULK AT MOST 1048576: true; the input reads as it did. -/
def freshChecksUptoRow : OpenClaim := { program := "ytmmeklemaofmjaa", sum := "cf92c98283130549c491c0baff2baefb0feb8c8f781af7f5fa71f4e36e7b3336", func := "letterlock/letterlocklaw11.FreshChecks", spec := "freshChecks", inPlace := ["internal/abi.NoEscape", "internal/bytealg.MakeNoZero"], unfollowed := true, recurses := true, apart := false, narrowed := true }
def FreshChecksUptoSaid : Prop := freshChecksUptoRow.holds Try.pinned (OpenSpec.upto freshChecksSpec)

/-- 'letterlocklaw11.FreshCovers', WHERE WHAT IT READS IS OF BULK AT MOST 1048576: true; the input reads as it did. -/
def freshCoversUptoRow : OpenClaim := { program := "ytmmeklemaofmjaa", sum := "cf92c98283130549c491c0baff2baefb0feb8c8f781af7f5fa71f4e36e7b3336", func := "letterlock/letterlocklaw11.FreshCovers", spec := "freshCovers", inPlace := ["internal/abi.NoEscape", "internal/bytealg.MakeNoZero"], unfollowed := true, recurses := true, apart := false, narrowed := true }
def FreshCoversUptoSaid : Prop := freshCoversUptoRow.holds Try.pinned (OpenSpec.upto freshCoversSpec)

/-- 'letterlocklaw11.FreshSpoils', WHERE WHAT IT READS IS OF BULK AT MOST 1048576: true; the input reads as it did. -/
def freshSpoilsUptoRow : OpenClaim := { program := "ytmmeklemaofmjaa", sum := "cf92c98283130549c491c0baff2baefb0feb8c8f781af7f5fa71f4e36e7b3336", func := "letterlock/letterlocklaw11.FreshSpoils", spec := "freshSpoils", inPlace := ["internal/abi.NoEscape", "internal/bytealg.MakeNoZero"], unfollowed := true, recurses := true, apart := false, narrowed := true }
def FreshSpoilsUptoSaid : Prop := freshSpoilsUptoRow.holds Try.pinned (OpenSpec.upto freshSpoilsSpec)

/-- 'letterlocklaw11.FreshOwners', WHERE WHAT IT READS IS OF BULK AT MOST 1048576: true; the input reads as it did. -/
def freshOwnersUptoRow : OpenClaim := { program := "ytmmeklemaofmjaa", sum := "cf92c98283130549c491c0baff2baefb0feb8c8f781af7f5fa71f4e36e7b3336", func := "letterlock/letterlocklaw11.FreshOwners", spec := "freshOwners", inPlace := ["internal/abi.NoEscape", "internal/bytealg.MakeNoZero"], unfollowed := true, recurses := true, apart := false, narrowed := true }
def FreshOwnersUptoSaid : Prop := freshOwnersUptoRow.holds Try.pinned (OpenSpec.upto freshOwnersSpec)

/-- 'letterlocklaw11.FreshSays', WHERE WHAT IT READS IS OF BULK AT MOST 1048576: true; the input reads as it did. -/
def freshSaysUptoRow : OpenClaim := { program := "ytmmeklemaofmjaa", sum := "cf92c98283130549c491c0baff2baefb0feb8c8f781af7f5fa71f4e36e7b3336", func := "letterlock/letterlocklaw11.FreshSays", spec := "freshSays", inPlace := ["internal/abi.NoEscape", "internal/bytealg.MakeNoZero"], unfollowed := true, recurses := true, apart := false, narrowed := true }
def FreshSaysUptoSaid : Prop := freshSaysUptoRow.holds Try.pinned (OpenSpec.upto freshSaysSpec)

end Rows
end Go.Proofs.Ytmmeklemaofmjaa
