/-
  No cell of these rows narrows 'for every input' (looked for: loops, veiled, ifaces, maps, wideKeys, modest, calm, conditions, laid).
  DERIVED. THE GIVEN ROWS OF THIS SEAT. 5 by the template 'for every input the law returns true; each argument reads behind the call as it read before'; 0 by the template 'total and deterministic' (their statements: YtjdignbmlfbdnaaTotals.lean).
  GIVEN WITH THE SEED: the statements are not yours to turn. If you find one false, say at which input.
  Laid BY PROGRAM, IN A SANDBOX (cutbox-rows.mjs): the forced cells as the released guide's own fill.sh prints them over the translation 6b87c9e42cd429ba… (all of the seat's roots in one cut). By AI agents, Wed Nov 11 2026. No macro, syntax, notation, axiom, sorry.
-/
import Derived.Test.YtjdignbmlfbdnaaChecked
import GoSem.Claim
import GoSem.ClaimJoined
import GoSem.ClaimMapViews
import Derived.JoinedTies
import Derived.KernelRfl
namespace Go.Proofs.Ytjdignbmlfbdnaa
/- THE CELL 'sum', in the pinned program and in every row, IS THE sha256 OF THE DUMP (.gsa) THAT YtjdignbmlfbdnaaProg.lean LOADS. Nothing in Lean hashes anything: it is a label: what it is worth is what the hold of that sum in a sandbox is worth. -/
noncomputable def Try.pinned : Pinned := { name := "ytjdignbmlfbdnaa", sum := "6b87c9e42cd429ba788fe8a91835616ca02dc0463d18ae6d8b7c22ced47241eb", checked := Try.checked }
namespace Rows
def none {H : Type} : Left H := { results := [], args := [] }

/-- 'letterlocklaw9.DataBack': WHATEVER THE INPUT: true; the input reads as it did. -/
def dataBackSpec : ChangeSpec := { name := "dataBack", fn := fun _ => fun
  | [d1, d2, d3, d4] => { results := [.lit (.bool true)], args := [d1, d2, d3, d4] }
  | _ => none }
def dataBackRow : OpenClaim := { program := "ytjdignbmlfbdnaa", sum := "6b87c9e42cd429ba788fe8a91835616ca02dc0463d18ae6d8b7c22ced47241eb", func := "letterlock/letterlocklaw9.DataBack", spec := "dataBack", inPlace := ["internal/bytealg.IndexByteString", "internal/bytealg.IndexString", "internal/abi.NoEscape", "internal/bytealg.MakeNoZero"], unfollowed := true, recurses := true, named := ["internal/bytealg.MaxLen"], apart := false }
def DataBackSaid : Prop := dataBackRow.holds Try.pinned (OpenSpec.ofChange dataBackSpec)

/-- ITS FALSE NEIGHBOUR: 'it returns false'. Refute it at one input. -/
def dataBackWrong : ChangeSpec := { name := "dataBack", fn := fun _ => fun
  | [d1, d2, d3, d4] => { results := [.lit (.bool false)], args := [d1, d2, d3, d4] }
  | _ => none }
def DataBackWrongFalsely : Prop := dataBackRow.holds Try.pinned (OpenSpec.ofChange dataBackWrong)

/-- 'letterlocklaw9.DataSpoils': WHATEVER THE INPUT: true; the input reads as it did. -/
def dataSpoilsSpec : ChangeSpec := { name := "dataSpoils", fn := fun _ => fun
  | [d1, d2, d3, d4, d5] => { results := [.lit (.bool true)], args := [d1, d2, d3, d4, d5] }
  | _ => none }
def dataSpoilsRow : OpenClaim := { program := "ytjdignbmlfbdnaa", sum := "6b87c9e42cd429ba788fe8a91835616ca02dc0463d18ae6d8b7c22ced47241eb", func := "letterlock/letterlocklaw9.DataSpoils", spec := "dataSpoils", inPlace := ["internal/bytealg.IndexByteString", "internal/bytealg.IndexString", "internal/abi.NoEscape", "internal/bytealg.MakeNoZero"], unfollowed := true, recurses := true, named := ["internal/bytealg.MaxLen"], apart := false }
def DataSpoilsSaid : Prop := dataSpoilsRow.holds Try.pinned (OpenSpec.ofChange dataSpoilsSpec)

/-- ITS FALSE NEIGHBOUR: 'it returns false'. Refute it at one input. -/
def dataSpoilsWrong : ChangeSpec := { name := "dataSpoils", fn := fun _ => fun
  | [d1, d2, d3, d4, d5] => { results := [.lit (.bool false)], args := [d1, d2, d3, d4, d5] }
  | _ => none }
def DataSpoilsWrongFalsely : Prop := dataSpoilsRow.holds Try.pinned (OpenSpec.ofChange dataSpoilsWrong)

/-- 'letterlocklaw9.DataLong': WHATEVER THE INPUT: true; the input reads as it did. -/
def dataLongSpec : ChangeSpec := { name := "dataLong", fn := fun _ => fun
  | [d1, d2, d3, d4] => { results := [.lit (.bool true)], args := [d1, d2, d3, d4] }
  | _ => none }
def dataLongRow : OpenClaim := { program := "ytjdignbmlfbdnaa", sum := "6b87c9e42cd429ba788fe8a91835616ca02dc0463d18ae6d8b7c22ced47241eb", func := "letterlock/letterlocklaw9.DataLong", spec := "dataLong", inPlace := ["internal/bytealg.IndexByteString", "internal/bytealg.IndexString", "internal/abi.NoEscape", "internal/bytealg.MakeNoZero"], unfollowed := true, recurses := true, named := ["internal/bytealg.MaxLen"], apart := false }
def DataLongSaid : Prop := dataLongRow.holds Try.pinned (OpenSpec.ofChange dataLongSpec)

/-- ITS FALSE NEIGHBOUR: 'it returns false'. Refute it at one input. -/
def dataLongWrong : ChangeSpec := { name := "dataLong", fn := fun _ => fun
  | [d1, d2, d3, d4] => { results := [.lit (.bool false)], args := [d1, d2, d3, d4] }
  | _ => none }
def DataLongWrongFalsely : Prop := dataLongRow.holds Try.pinned (OpenSpec.ofChange dataLongWrong)

/-- 'letterlocklaw9.DataMoves': WHATEVER THE INPUT: true; the input reads as it did. -/
def dataMovesSpec : ChangeSpec := { name := "dataMoves", fn := fun _ => fun
  | [d1, d2, d3, d4, d5] => { results := [.lit (.bool true)], args := [d1, d2, d3, d4, d5] }
  | _ => none }
def dataMovesRow : OpenClaim := { program := "ytjdignbmlfbdnaa", sum := "6b87c9e42cd429ba788fe8a91835616ca02dc0463d18ae6d8b7c22ced47241eb", func := "letterlock/letterlocklaw9.DataMoves", spec := "dataMoves", inPlace := ["internal/bytealg.IndexByteString", "internal/bytealg.IndexString", "internal/abi.NoEscape", "internal/bytealg.MakeNoZero"], unfollowed := true, recurses := true, named := ["internal/bytealg.MaxLen"], apart := false }
def DataMovesSaid : Prop := dataMovesRow.holds Try.pinned (OpenSpec.ofChange dataMovesSpec)

/-- ITS FALSE NEIGHBOUR: 'it returns false'. Refute it at one input. -/
def dataMovesWrong : ChangeSpec := { name := "dataMoves", fn := fun _ => fun
  | [d1, d2, d3, d4, d5] => { results := [.lit (.bool false)], args := [d1, d2, d3, d4, d5] }
  | _ => none }
def DataMovesWrongFalsely : Prop := dataMovesRow.holds Try.pinned (OpenSpec.ofChange dataMovesWrong)

/-- 'letterlocklaw9.DataArgs': WHATEVER THE INPUT: true; the input reads as it did. -/
def dataArgsSpec : ChangeSpec := { name := "dataArgs", fn := fun _ => fun
  | [d1, d2, d3, d4, d5] => { results := [.lit (.bool true)], args := [d1, d2, d3, d4, d5] }
  | _ => none }
def dataArgsRow : OpenClaim := { program := "ytjdignbmlfbdnaa", sum := "6b87c9e42cd429ba788fe8a91835616ca02dc0463d18ae6d8b7c22ced47241eb", func := "letterlock/letterlocklaw9.DataArgs", spec := "dataArgs", inPlace := ["internal/bytealg.IndexByteString", "internal/bytealg.IndexString", "internal/abi.NoEscape", "internal/bytealg.MakeNoZero"], unfollowed := true, recurses := true, named := ["internal/bytealg.MaxLen"], apart := false }
def DataArgsSaid : Prop := dataArgsRow.holds Try.pinned (OpenSpec.ofChange dataArgsSpec)

/-- ITS FALSE NEIGHBOUR: 'it returns false'. Refute it at one input. -/
def dataArgsWrong : ChangeSpec := { name := "dataArgs", fn := fun _ => fun
  | [d1, d2, d3, d4, d5] => { results := [.lit (.bool false)], args := [d1, d2, d3, d4, d5] }
  | _ => none }
def DataArgsWrongFalsely : Prop := dataArgsRow.holds Try.pinned (OpenSpec.ofChange dataArgsWrong)

/- THE SECOND FORM. 'bulk': how many values and letters a reading holds, each counted each time it is reached (what is shared counts as often as it is met; a slice's spare places count too). A statement '..UptoSaid' is the law's where the arguments, and the package variables that the reading takes, are together of bulk at most 1048576: NARROWER than '..Said'. Prove '..Said' where nothing that the law and all that it calls make is longer than what came in: it says more and counts as full. Else prove '..UptoSaid'. A law counts once. -/
mutual
def uptoBulk {H : Type} : DataW H → Nat
  | .lit (.string bytes) => bytes.length + 1
  | .lit _ => 1
  | .nil => 1
  | .ptr d => uptoBulk d + 1
  | .slice elems spare => uptoBulkAll elems + uptoBulkAll spare + 1
  | .agg parts => uptoBulkAll parts + 1
  | .iface _ d => uptoBulk d + 1
  | .map entries => uptoBulkEntries entries + 1
  | .held _ => 1
def uptoBulkAll {H : Type} : List (DataW H) → Nat
  | [] => 0
  | d :: r => uptoBulk d + uptoBulkAll r
def uptoBulkEntries {H : Type} : List (Lit × DataW H) → Nat
  | [] => 0
  | x :: r => uptoBulkEntry x + uptoBulkEntries r
def uptoBulkEntry {H : Type} : Lit × DataW H → Nat
  | (.string bytes, d) => bytes.length + uptoBulk d + 1
  | (_, d) => uptoBulk d + 1
 end
def uptoSmall : (H : Type) → List (DataW H) → Bool := fun _ ds => decide (uptoBulkAll ds ≤ 1048576)
def OpenSpec.upto (s : _root_.Go.ChangeSpec) : _root_.Go.OpenSpec := { _root_.Go.OpenSpec.ofChange s with cond := some uptoSmall }

/-- 'letterlocklaw9.DataBack', WHERE WHAT IT READS IS OF BULK AT MOST 1048576: true; the input reads as it did. -/
def dataBackUptoRow : OpenClaim := { program := "ytjdignbmlfbdnaa", sum := "6b87c9e42cd429ba788fe8a91835616ca02dc0463d18ae6d8b7c22ced47241eb", func := "letterlock/letterlocklaw9.DataBack", spec := "dataBack", inPlace := ["internal/bytealg.IndexByteString", "internal/bytealg.IndexString", "internal/abi.NoEscape", "internal/bytealg.MakeNoZero"], unfollowed := true, recurses := true, named := ["internal/bytealg.MaxLen"], apart := false, narrowed := true }
def DataBackUptoSaid : Prop := dataBackUptoRow.holds Try.pinned (OpenSpec.upto dataBackSpec)

/-- 'letterlocklaw9.DataSpoils', WHERE WHAT IT READS IS OF BULK AT MOST 1048576: true; the input reads as it did. -/
def dataSpoilsUptoRow : OpenClaim := { program := "ytjdignbmlfbdnaa", sum := "6b87c9e42cd429ba788fe8a91835616ca02dc0463d18ae6d8b7c22ced47241eb", func := "letterlock/letterlocklaw9.DataSpoils", spec := "dataSpoils", inPlace := ["internal/bytealg.IndexByteString", "internal/bytealg.IndexString", "internal/abi.NoEscape", "internal/bytealg.MakeNoZero"], unfollowed := true, recurses := true, named := ["internal/bytealg.MaxLen"], apart := false, narrowed := true }
def DataSpoilsUptoSaid : Prop := dataSpoilsUptoRow.holds Try.pinned (OpenSpec.upto dataSpoilsSpec)

/-- 'letterlocklaw9.DataLong', WHERE WHAT IT READS IS OF BULK AT MOST 1048576: true; the input reads as it did. -/
def dataLongUptoRow : OpenClaim := { program := "ytjdignbmlfbdnaa", sum := "6b87c9e42cd429ba788fe8a91835616ca02dc0463d18ae6d8b7c22ced47241eb", func := "letterlock/letterlocklaw9.DataLong", spec := "dataLong", inPlace := ["internal/bytealg.IndexByteString", "internal/bytealg.IndexString", "internal/abi.NoEscape", "internal/bytealg.MakeNoZero"], unfollowed := true, recurses := true, named := ["internal/bytealg.MaxLen"], apart := false, narrowed := true }
def DataLongUptoSaid : Prop := dataLongUptoRow.holds Try.pinned (OpenSpec.upto dataLongSpec)

/-- 'letterlocklaw9.DataMoves', WHERE WHAT IT READS IS OF BULK AT MOST 1048576: true; the input reads as it did. -/
def dataMovesUptoRow : OpenClaim := { program := "ytjdignbmlfbdnaa", sum := "6b87c9e42cd429ba788fe8a91835616ca02dc0463d18ae6d8b7c22ced47241eb", func := "letterlock/letterlocklaw9.DataMoves", spec := "dataMoves", inPlace := ["internal/bytealg.IndexByteString", "internal/bytealg.IndexString", "internal/abi.NoEscape", "internal/bytealg.MakeNoZero"], unfollowed := true, recurses := true, named := ["internal/bytealg.MaxLen"], apart := false, narrowed := true }
def DataMovesUptoSaid : Prop := dataMovesUptoRow.holds Try.pinned (OpenSpec.upto dataMovesSpec)

/-- 'letterlocklaw9.DataArgs', WHERE WHAT IT READS IS OF BULK AT MOST 1048576: true; the input reads as it did. -/
def dataArgsUptoRow : OpenClaim := { program := "ytjdignbmlfbdnaa", sum := "6b87c9e42cd429ba788fe8a91835616ca02dc0463d18ae6d8b7c22ced47241eb", func := "letterlock/letterlocklaw9.DataArgs", spec := "dataArgs", inPlace := ["internal/bytealg.IndexByteString", "internal/bytealg.IndexString", "internal/abi.NoEscape", "internal/bytealg.MakeNoZero"], unfollowed := true, recurses := true, named := ["internal/bytealg.MaxLen"], apart := false, narrowed := true }
def DataArgsUptoSaid : Prop := dataArgsUptoRow.holds Try.pinned (OpenSpec.upto dataArgsSpec)

end Rows
end Go.Proofs.Ytjdignbmlfbdnaa
