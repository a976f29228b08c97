/-
  No cell of these rows narrows 'for every input' (looked for: loops, veiled, ifaces, maps, wideKeys, modest, calm, conditions, laid).
  DERIVED. THE GIVEN ROWS OF THIS SEAT. 7 by the template 'for every input the law returns true; each argument reads behind the call as it read before'; 0 by the template 'total and deterministic' (their statements: YtlkgjceddbclpaaGreatTotals.lean).
  GIVEN WITH THE SEED: the statements are not yours to turn. If you find one false, say at which input.
  Laid BY PROGRAM, IN A SANDBOX (cutbox-rows.mjs): the forced cells as the released guide's own fill.sh prints them over the translation f2570e12e9e11eaf… (all of the seat's roots in one cut). By AI agents, Wed Nov 11 2026. No macro, syntax, notation, axiom, sorry.
-/
import Derived.Test.YtlkgjceddbclpaaGreatChecked
import GoSem.Claim
import GoSem.ClaimJoined
import GoSem.ClaimMapViews
import Derived.JoinedTies
import Derived.KernelRfl
namespace Go.Proofs.YtlkgjceddbclpaaGreat
/- THE CELL 'sum', in the pinned program and in every row, IS THE sha256 OF THE DUMP (.gsa) THAT YtlkgjceddbclpaaGreatProg.lean LOADS. Nothing in Lean hashes anything: it is a label: what it is worth is what the hold of that sum in a sandbox is worth. -/
noncomputable def Tryz.pinned : Pinned := { name := "ytlkgjceddbclpaagreat", sum := "f2570e12e9e11eaf2c491ee85f4edfdddf9853f5da506820baf53c7610fbf3d5", checked := Tryz.checked }
namespace Rows
def none {H : Type} : Left H := { results := [], args := [] }

/-- 'letterlocklaw8.MetaBuilds': WHATEVER THE INPUT: true; the input reads as it did. -/
def metaBuildsSpec : ChangeSpec := { name := "metaBuilds", fn := fun _ => fun
  | [d1, d2, d3, d4, d5, d6] => { results := [.lit (.bool true)], args := [d1, d2, d3, d4, d5, d6] }
  | _ => none }
def metaBuildsRow : OpenClaim := { program := "ytlkgjceddbclpaagreat", sum := "f2570e12e9e11eaf2c491ee85f4edfdddf9853f5da506820baf53c7610fbf3d5", func := "letterlock/letterlocklaw8.MetaBuilds", spec := "metaBuilds", inPlace := ["internal/abi.NoEscape", "internal/bytealg.MakeNoZero"], unfollowed := true, recurses := true, apart := false }
def MetaBuildsSaid : Prop := metaBuildsRow.holds Tryz.pinned (OpenSpec.ofChange metaBuildsSpec)

/-- ITS FALSE NEIGHBOUR: 'it returns false'. Refute it at one input. -/
def metaBuildsWrong : ChangeSpec := { name := "metaBuilds", fn := fun _ => fun
  | [d1, d2, d3, d4, d5, d6] => { results := [.lit (.bool false)], args := [d1, d2, d3, d4, d5, d6] }
  | _ => none }
def MetaBuildsWrongFalsely : Prop := metaBuildsRow.holds Tryz.pinned (OpenSpec.ofChange metaBuildsWrong)

/-- 'letterlocklaw8.MetaTells': WHATEVER THE INPUT: true; the input reads as it did. -/
def metaTellsSpec : ChangeSpec := { name := "metaTells", fn := fun _ => fun
  | [d1, d2, d3, d4, d5] => { results := [.lit (.bool true)], args := [d1, d2, d3, d4, d5] }
  | _ => none }
def metaTellsRow : OpenClaim := { program := "ytlkgjceddbclpaagreat", sum := "f2570e12e9e11eaf2c491ee85f4edfdddf9853f5da506820baf53c7610fbf3d5", func := "letterlock/letterlocklaw8.MetaTells", spec := "metaTells", inPlace := ["internal/abi.NoEscape", "internal/bytealg.MakeNoZero"], unfollowed := true, recurses := true, apart := false }
def MetaTellsSaid : Prop := metaTellsRow.holds Tryz.pinned (OpenSpec.ofChange metaTellsSpec)

/-- ITS FALSE NEIGHBOUR: 'it returns false'. Refute it at one input. -/
def metaTellsWrong : ChangeSpec := { name := "metaTells", fn := fun _ => fun
  | [d1, d2, d3, d4, d5] => { results := [.lit (.bool false)], args := [d1, d2, d3, d4, d5] }
  | _ => none }
def MetaTellsWrongFalsely : Prop := metaTellsRow.holds Tryz.pinned (OpenSpec.ofChange metaTellsWrong)

/-- 'letterlocklaw8.MetaBack': WHATEVER THE INPUT: true; the input reads as it did. -/
def metaBackSpec : ChangeSpec := { name := "metaBack", fn := fun _ => fun
  | [d1, d2, d3, d4] => { results := [.lit (.bool true)], args := [d1, d2, d3, d4] }
  | _ => none }
def metaBackRow : OpenClaim := { program := "ytlkgjceddbclpaagreat", sum := "f2570e12e9e11eaf2c491ee85f4edfdddf9853f5da506820baf53c7610fbf3d5", func := "letterlock/letterlocklaw8.MetaBack", spec := "metaBack", inPlace := ["internal/abi.NoEscape", "internal/bytealg.MakeNoZero"], unfollowed := true, recurses := true, apart := false }
def MetaBackSaid : Prop := metaBackRow.holds Tryz.pinned (OpenSpec.ofChange metaBackSpec)

/-- ITS FALSE NEIGHBOUR: 'it returns false'. Refute it at one input. -/
def metaBackWrong : ChangeSpec := { name := "metaBack", fn := fun _ => fun
  | [d1, d2, d3, d4] => { results := [.lit (.bool false)], args := [d1, d2, d3, d4] }
  | _ => none }
def MetaBackWrongFalsely : Prop := metaBackRow.holds Tryz.pinned (OpenSpec.ofChange metaBackWrong)

/-- 'letterlocklaw8.MetaOpens': WHATEVER THE INPUT: true; the input reads as it did. -/
def metaOpensSpec : ChangeSpec := { name := "metaOpens", fn := fun _ => fun
  | [d1, d2, d3] => { results := [.lit (.bool true)], args := [d1, d2, d3] }
  | _ => none }
def metaOpensRow : OpenClaim := { program := "ytlkgjceddbclpaagreat", sum := "f2570e12e9e11eaf2c491ee85f4edfdddf9853f5da506820baf53c7610fbf3d5", func := "letterlock/letterlocklaw8.MetaOpens", spec := "metaOpens", inPlace := ["internal/abi.NoEscape", "internal/bytealg.MakeNoZero"], unfollowed := true, recurses := true, apart := false }
def MetaOpensSaid : Prop := metaOpensRow.holds Tryz.pinned (OpenSpec.ofChange metaOpensSpec)

/-- ITS FALSE NEIGHBOUR: 'it returns false'. Refute it at one input. -/
def metaOpensWrong : ChangeSpec := { name := "metaOpens", fn := fun _ => fun
  | [d1, d2, d3] => { results := [.lit (.bool false)], args := [d1, d2, d3] }
  | _ => none }
def MetaOpensWrongFalsely : Prop := metaOpensRow.holds Tryz.pinned (OpenSpec.ofChange metaOpensWrong)

/-- 'letterlocklaw8.MetaKnown': WHATEVER THE INPUT: true; the input reads as it did. -/
def metaKnownSpec : ChangeSpec := { name := "metaKnown", fn := fun _ => fun
  | [d1, d2, d3, d4] => { results := [.lit (.bool true)], args := [d1, d2, d3, d4] }
  | _ => none }
def metaKnownRow : OpenClaim := { program := "ytlkgjceddbclpaagreat", sum := "f2570e12e9e11eaf2c491ee85f4edfdddf9853f5da506820baf53c7610fbf3d5", func := "letterlock/letterlocklaw8.MetaKnown", spec := "metaKnown", inPlace := ["internal/abi.NoEscape", "internal/bytealg.MakeNoZero"], unfollowed := true, recurses := true, apart := false }
def MetaKnownSaid : Prop := metaKnownRow.holds Tryz.pinned (OpenSpec.ofChange metaKnownSpec)

/-- ITS FALSE NEIGHBOUR: 'it returns false'. Refute it at one input. -/
def metaKnownWrong : ChangeSpec := { name := "metaKnown", fn := fun _ => fun
  | [d1, d2, d3, d4] => { results := [.lit (.bool false)], args := [d1, d2, d3, d4] }
  | _ => none }
def MetaKnownWrongFalsely : Prop := metaKnownRow.holds Tryz.pinned (OpenSpec.ofChange metaKnownWrong)

/-- 'letterlocklaw8.MetaSigned': WHATEVER THE INPUT: true; the input reads as it did. -/
def metaSignedSpec : ChangeSpec := { name := "metaSigned", fn := fun _ => fun
  | [d1, d2, d3] => { results := [.lit (.bool true)], args := [d1, d2, d3] }
  | _ => none }
def metaSignedRow : OpenClaim := { program := "ytlkgjceddbclpaagreat", sum := "f2570e12e9e11eaf2c491ee85f4edfdddf9853f5da506820baf53c7610fbf3d5", func := "letterlock/letterlocklaw8.MetaSigned", spec := "metaSigned", inPlace := ["internal/abi.NoEscape", "internal/bytealg.MakeNoZero"], unfollowed := true, recurses := true, apart := false }
def MetaSignedSaid : Prop := metaSignedRow.holds Tryz.pinned (OpenSpec.ofChange metaSignedSpec)

/-- ITS FALSE NEIGHBOUR: 'it returns false'. Refute it at one input. -/
def metaSignedWrong : ChangeSpec := { name := "metaSigned", fn := fun _ => fun
  | [d1, d2, d3] => { results := [.lit (.bool false)], args := [d1, d2, d3] }
  | _ => none }
def MetaSignedWrongFalsely : Prop := metaSignedRow.holds Tryz.pinned (OpenSpec.ofChange metaSignedWrong)

/-- 'letterlocklaw8.MetaEpochs': WHATEVER THE INPUT: true; the input reads as it did. -/
def metaEpochsSpec : ChangeSpec := { name := "metaEpochs", fn := fun _ => fun
  | [d1, d2, d3, d4] => { results := [.lit (.bool true)], args := [d1, d2, d3, d4] }
  | _ => none }
def metaEpochsRow : OpenClaim := { program := "ytlkgjceddbclpaagreat", sum := "f2570e12e9e11eaf2c491ee85f4edfdddf9853f5da506820baf53c7610fbf3d5", func := "letterlock/letterlocklaw8.MetaEpochs", spec := "metaEpochs", inPlace := ["internal/abi.NoEscape", "internal/bytealg.MakeNoZero"], unfollowed := true, recurses := true, apart := false }
def MetaEpochsSaid : Prop := metaEpochsRow.holds Tryz.pinned (OpenSpec.ofChange metaEpochsSpec)

/-- ITS FALSE NEIGHBOUR: 'it returns false'. Refute it at one input. -/
def metaEpochsWrong : ChangeSpec := { name := "metaEpochs", fn := fun _ => fun
  | [d1, d2, d3, d4] => { results := [.lit (.bool false)], args := [d1, d2, d3, d4] }
  | _ => none }
def MetaEpochsWrongFalsely : Prop := metaEpochsRow.holds Tryz.pinned (OpenSpec.ofChange metaEpochsWrong)

/- THE SECOND FORM. 'bulk': how many values and letters a reading holds, each counted each time it is reached (what is shared counts as often as it is met; a slice's spare places count too). A statement '..UptoSaid' is the law's where the arguments, and the package variables that the reading takes, are together of bulk at most 1048576: NARROWER than '..Said'. Prove '..Said' where nothing that the law and all that it calls make is longer than what came in: it says more and counts as full. Else prove '..UptoSaid'. A law counts once. -/
mutual
def uptoBulk {H : Type} : DataW H → Nat
  | .lit (.string bytes) => bytes.length + 1
  | .lit _ => 1
  | .nil => 1
  | .ptr d => uptoBulk d + 1
  | .slice elems spare => uptoBulkAll elems + uptoBulkAll spare + 1
  | .agg parts => uptoBulkAll parts + 1
  | .iface _ d => uptoBulk d + 1
  | .map entries => uptoBulkEntries entries + 1
  | .held _ => 1
def uptoBulkAll {H : Type} : List (DataW H) → Nat
  | [] => 0
  | d :: r => uptoBulk d + uptoBulkAll r
def uptoBulkEntries {H : Type} : List (Lit × DataW H) → Nat
  | [] => 0
  | x :: r => uptoBulkEntry x + uptoBulkEntries r
def uptoBulkEntry {H : Type} : Lit × DataW H → Nat
  | (.string bytes, d) => bytes.length + uptoBulk d + 1
  | (_, d) => uptoBulk d + 1
 end
def uptoSmall : (H : Type) → List (DataW H) → Bool := fun _ ds => decide (uptoBulkAll ds ≤ 1048576)
def OpenSpec.upto (s : _root_.Go.ChangeSpec) : _root_.Go.OpenSpec := { _root_.Go.OpenSpec.ofChange s with cond := some uptoSmall }

/-- 'letterlocklaw8.MetaBuilds', WHERE WHAT IT READS IS OF BULK AT MOST 1048576: true; the input reads as it did. -/
def metaBuildsUptoRow : OpenClaim := { program := "ytlkgjceddbclpaagreat", sum := "f2570e12e9e11eaf2c491ee85f4edfdddf9853f5da506820baf53c7610fbf3d5", func := "letterlock/letterlocklaw8.MetaBuilds", spec := "metaBuilds", inPlace := ["internal/abi.NoEscape", "internal/bytealg.MakeNoZero"], unfollowed := true, recurses := true, apart := false, narrowed := true }
def MetaBuildsUptoSaid : Prop := metaBuildsUptoRow.holds Tryz.pinned (OpenSpec.upto metaBuildsSpec)

/-- 'letterlocklaw8.MetaTells', WHERE WHAT IT READS IS OF BULK AT MOST 1048576: true; the input reads as it did. -/
def metaTellsUptoRow : OpenClaim := { program := "ytlkgjceddbclpaagreat", sum := "f2570e12e9e11eaf2c491ee85f4edfdddf9853f5da506820baf53c7610fbf3d5", func := "letterlock/letterlocklaw8.MetaTells", spec := "metaTells", inPlace := ["internal/abi.NoEscape", "internal/bytealg.MakeNoZero"], unfollowed := true, recurses := true, apart := false, narrowed := true }
def MetaTellsUptoSaid : Prop := metaTellsUptoRow.holds Tryz.pinned (OpenSpec.upto metaTellsSpec)

/-- 'letterlocklaw8.MetaBack', WHERE WHAT IT READS IS OF BULK AT MOST 1048576: true; the input reads as it did. -/
def metaBackUptoRow : OpenClaim := { program := "ytlkgjceddbclpaagreat", sum := "f2570e12e9e11eaf2c491ee85f4edfdddf9853f5da506820baf53c7610fbf3d5", func := "letterlock/letterlocklaw8.MetaBack", spec := "metaBack", inPlace := ["internal/abi.NoEscape", "internal/bytealg.MakeNoZero"], unfollowed := true, recurses := true, apart := false, narrowed := true }
def MetaBackUptoSaid : Prop := metaBackUptoRow.holds Tryz.pinned (OpenSpec.upto metaBackSpec)

/-- 'letterlocklaw8.MetaOpens', WHERE WHAT IT READS IS OF BULK AT MOST 1048576: true; the input reads as it did. -/
def metaOpensUptoRow : OpenClaim := { program := "ytlkgjceddbclpaagreat", sum := "f2570e12e9e11eaf2c491ee85f4edfdddf9853f5da506820baf53c7610fbf3d5", func := "letterlock/letterlocklaw8.MetaOpens", spec := "metaOpens", inPlace := ["internal/abi.NoEscape", "internal/bytealg.MakeNoZero"], unfollowed := true, recurses := true, apart := false, narrowed := true }
def MetaOpensUptoSaid : Prop := metaOpensUptoRow.holds Tryz.pinned (OpenSpec.upto metaOpensSpec)

/-- 'letterlocklaw8.MetaKnown', WHERE WHAT IT READS IS OF BULK AT MOST 1048576: true; the input reads as it did. -/
def metaKnownUptoRow : OpenClaim := { program := "ytlkgjceddbclpaagreat", sum := "f2570e12e9e11eaf2c491ee85f4edfdddf9853f5da506820baf53c7610fbf3d5", func := "letterlock/letterlocklaw8.MetaKnown", spec := "metaKnown", inPlace := ["internal/abi.NoEscape", "internal/bytealg.MakeNoZero"], unfollowed := true, recurses := true, apart := false, narrowed := true }
def MetaKnownUptoSaid : Prop := metaKnownUptoRow.holds Tryz.pinned (OpenSpec.upto metaKnownSpec)

/-- 'letterlocklaw8.MetaSigned', WHERE WHAT IT READS IS OF BULK AT MOST 1048576: true; the input reads as it did. -/
def metaSignedUptoRow : OpenClaim := { program := "ytlkgjceddbclpaagreat", sum := "f2570e12e9e11eaf2c491ee85f4edfdddf9853f5da506820baf53c7610fbf3d5", func := "letterlock/letterlocklaw8.MetaSigned", spec := "metaSigned", inPlace := ["internal/abi.NoEscape", "internal/bytealg.MakeNoZero"], unfollowed := true, recurses := true, apart := false, narrowed := true }
def MetaSignedUptoSaid : Prop := metaSignedUptoRow.holds Tryz.pinned (OpenSpec.upto metaSignedSpec)

/-- 'letterlocklaw8.MetaEpochs', WHERE WHAT IT READS IS OF BULK AT MOST 1048576: true; the input reads as it did. -/
def metaEpochsUptoRow : OpenClaim := { program := "ytlkgjceddbclpaagreat", sum := "f2570e12e9e11eaf2c491ee85f4edfdddf9853f5da506820baf53c7610fbf3d5", func := "letterlock/letterlocklaw8.MetaEpochs", spec := "metaEpochs", inPlace := ["internal/abi.NoEscape", "internal/bytealg.MakeNoZero"], unfollowed := true, recurses := true, apart := false, narrowed := true }
def MetaEpochsUptoSaid : Prop := metaEpochsUptoRow.holds Tryz.pinned (OpenSpec.upto metaEpochsSpec)

end Rows
end Go.Proofs.YtlkgjceddbclpaaGreat
