/-
  No cell of these rows narrows 'for every input' (looked for: loops, veiled, ifaces, maps, wideKeys, modest, calm, conditions, laid).
  DERIVED. THE GIVEN ROWS OF THIS SEAT. 5 by the template 'for every input the law returns true; each argument reads behind the call as it read before'; 0 by the template 'total and deterministic' (their statements: YtbdealddjonobaaGreatTotals.lean).
  GIVEN WITH THE SEED: the statements are not yours to turn. If you find one false, say at which input.
  Laid BY PROGRAM, IN A SANDBOX (cutbox-rows.mjs): the forced cells as the released guide's own fill.sh prints them over the translation f3775920f71b7e94… (all of the seat's roots in one cut). By AI agents, Wed Nov 11 2026. No macro, syntax, notation, axiom, sorry.
-/
import Derived.Test.YtbdealddjonobaaGreatChecked
import GoSem.Claim
import GoSem.ClaimJoined
import GoSem.ClaimMapViews
import Derived.JoinedTies
import Derived.KernelRfl
namespace Go.Proofs.YtbdealddjonobaaGreat
/- THE CELL 'sum', in the pinned program and in every row, IS THE sha256 OF THE DUMP (.gsa) THAT YtbdealddjonobaaGreatProg.lean LOADS. Nothing in Lean hashes anything: it is a label: what it is worth is what the hold of that sum in a sandbox is worth. -/
noncomputable def Tryz.pinned : Pinned := { name := "ytbdealddjonobaagreat", sum := "f3775920f71b7e94dbde065f975c56611d66e644a83f44dcdfff4f478d9a5932", checked := Tryz.checked }
namespace Rows
def none {H : Type} : Left H := { results := [], args := [] }

/-- 'letterlocklaw14.UserPlays': WHATEVER THE INPUT: true; the input reads as it did. -/
def userPlaysSpec : ChangeSpec := { name := "userPlays", fn := fun _ => fun
  | [d1, d2, d3, d4] => { results := [.lit (.bool true)], args := [d1, d2, d3, d4] }
  | _ => none }
def userPlaysRow : OpenClaim := { program := "ytbdealddjonobaagreat", sum := "f3775920f71b7e94dbde065f975c56611d66e644a83f44dcdfff4f478d9a5932", func := "letterlock/letterlocklaw14.UserPlays", spec := "userPlays", inPlace := ["internal/abi.NoEscape", "internal/bytealg.MakeNoZero", "maps.clone"], unfollowed := true, recurses := true, apart := false }
def UserPlaysSaid : Prop := userPlaysRow.holds Tryz.pinned (OpenSpec.ofChange userPlaysSpec)

/-- ITS FALSE NEIGHBOUR: 'it returns false'. Refute it at one input. -/
def userPlaysWrong : ChangeSpec := { name := "userPlays", fn := fun _ => fun
  | [d1, d2, d3, d4] => { results := [.lit (.bool false)], args := [d1, d2, d3, d4] }
  | _ => none }
def UserPlaysWrongFalsely : Prop := userPlaysRow.holds Tryz.pinned (OpenSpec.ofChange userPlaysWrong)

/-- 'letterlocklaw14.UserNames': WHATEVER THE INPUT: true; the input reads as it did. -/
def userNamesSpec : ChangeSpec := { name := "userNames", fn := fun _ => fun
  | [d1, d2] => { results := [.lit (.bool true)], args := [d1, d2] }
  | _ => none }
def userNamesRow : OpenClaim := { program := "ytbdealddjonobaagreat", sum := "f3775920f71b7e94dbde065f975c56611d66e644a83f44dcdfff4f478d9a5932", func := "letterlock/letterlocklaw14.UserNames", spec := "userNames", inPlace := ["internal/abi.NoEscape", "internal/bytealg.MakeNoZero"], unfollowed := true, recurses := true, apart := false }
def UserNamesSaid : Prop := userNamesRow.holds Tryz.pinned (OpenSpec.ofChange userNamesSpec)

/-- ITS FALSE NEIGHBOUR: 'it returns false'. Refute it at one input. -/
def userNamesWrong : ChangeSpec := { name := "userNames", fn := fun _ => fun
  | [d1, d2] => { results := [.lit (.bool false)], args := [d1, d2] }
  | _ => none }
def UserNamesWrongFalsely : Prop := userNamesRow.holds Tryz.pinned (OpenSpec.ofChange userNamesWrong)

/-- 'letterlocklaw14.UserGrows': WHATEVER THE INPUT: true; the input reads as it did. -/
def userGrowsSpec : ChangeSpec := { name := "userGrows", fn := fun _ => fun
  | [d1, d2] => { results := [.lit (.bool true)], args := [d1, d2] }
  | _ => none }
def userGrowsRow : OpenClaim := { program := "ytbdealddjonobaagreat", sum := "f3775920f71b7e94dbde065f975c56611d66e644a83f44dcdfff4f478d9a5932", func := "letterlock/letterlocklaw14.UserGrows", spec := "userGrows", inPlace := ["internal/abi.NoEscape", "internal/bytealg.MakeNoZero"], unfollowed := true, recurses := true, apart := false }
def UserGrowsSaid : Prop := userGrowsRow.holds Tryz.pinned (OpenSpec.ofChange userGrowsSpec)

/-- ITS FALSE NEIGHBOUR: 'it returns false'. Refute it at one input. -/
def userGrowsWrong : ChangeSpec := { name := "userGrows", fn := fun _ => fun
  | [d1, d2] => { results := [.lit (.bool false)], args := [d1, d2] }
  | _ => none }
def UserGrowsWrongFalsely : Prop := userGrowsRow.holds Tryz.pinned (OpenSpec.ofChange userGrowsWrong)

/-- 'letterlocklaw14.UserCopies': WHATEVER THE INPUT: true; the input reads as it did. -/
def userCopiesSpec : ChangeSpec := { name := "userCopies", fn := fun _ => fun
  | [d1, d2, d3, d4] => { results := [.lit (.bool true)], args := [d1, d2, d3, d4] }
  | _ => none }
def userCopiesRow : OpenClaim := { program := "ytbdealddjonobaagreat", sum := "f3775920f71b7e94dbde065f975c56611d66e644a83f44dcdfff4f478d9a5932", func := "letterlock/letterlocklaw14.UserCopies", spec := "userCopies", inPlace := ["internal/abi.NoEscape", "internal/bytealg.MakeNoZero", "maps.clone"], unfollowed := true, recurses := true, apart := false }
def UserCopiesSaid : Prop := userCopiesRow.holds Tryz.pinned (OpenSpec.ofChange userCopiesSpec)

/-- ITS FALSE NEIGHBOUR: 'it returns false'. Refute it at one input. -/
def userCopiesWrong : ChangeSpec := { name := "userCopies", fn := fun _ => fun
  | [d1, d2, d3, d4] => { results := [.lit (.bool false)], args := [d1, d2, d3, d4] }
  | _ => none }
def UserCopiesWrongFalsely : Prop := userCopiesRow.holds Tryz.pinned (OpenSpec.ofChange userCopiesWrong)

/-- 'letterlocklaw14.UserSays': WHATEVER THE INPUT: true; the input reads as it did. -/
def userSaysSpec : ChangeSpec := { name := "userSays", fn := fun _ => fun
  | [d1, d2, d3] => { results := [.lit (.bool true)], args := [d1, d2, d3] }
  | _ => none }
def userSaysRow : OpenClaim := { program := "ytbdealddjonobaagreat", sum := "f3775920f71b7e94dbde065f975c56611d66e644a83f44dcdfff4f478d9a5932", func := "letterlock/letterlocklaw14.UserSays", spec := "userSays", inPlace := ["internal/abi.NoEscape", "internal/bytealg.MakeNoZero"], unfollowed := true, recurses := true, apart := false }
def UserSaysSaid : Prop := userSaysRow.holds Tryz.pinned (OpenSpec.ofChange userSaysSpec)

/-- ITS FALSE NEIGHBOUR: 'it returns false'. Refute it at one input. -/
def userSaysWrong : ChangeSpec := { name := "userSays", fn := fun _ => fun
  | [d1, d2, d3] => { results := [.lit (.bool false)], args := [d1, d2, d3] }
  | _ => none }
def UserSaysWrongFalsely : Prop := userSaysRow.holds Tryz.pinned (OpenSpec.ofChange userSaysWrong)

/- THE SECOND FORM. 'bulk': how many values and letters a reading holds, each counted each time it is reached (what is shared counts as often as it is met; a slice's spare places count too). A statement '..UptoSaid' is the law's where the arguments, and the package variables that the reading takes, are together of bulk at most 1048576: NARROWER than '..Said'. Prove '..Said' where nothing that the law and all that it calls make is longer than what came in: it says more and counts as full. Else prove '..UptoSaid'. A law counts once. -/
mutual
def uptoBulk {H : Type} : DataW H → Nat
  | .lit (.string bytes) => bytes.length + 1
  | .lit _ => 1
  | .nil => 1
  | .ptr d => uptoBulk d + 1
  | .slice elems spare => uptoBulkAll elems + uptoBulkAll spare + 1
  | .agg parts => uptoBulkAll parts + 1
  | .iface _ d => uptoBulk d + 1
  | .map entries => uptoBulkEntries entries + 1
  | .held _ => 1
def uptoBulkAll {H : Type} : List (DataW H) → Nat
  | [] => 0
  | d :: r => uptoBulk d + uptoBulkAll r
def uptoBulkEntries {H : Type} : List (Lit × DataW H) → Nat
  | [] => 0
  | x :: r => uptoBulkEntry x + uptoBulkEntries r
def uptoBulkEntry {H : Type} : Lit × DataW H → Nat
  | (.string bytes, d) => bytes.length + uptoBulk d + 1
  | (_, d) => uptoBulk d + 1
 end
def uptoSmall : (H : Type) → List (DataW H) → Bool := fun _ ds => decide (uptoBulkAll ds ≤ 1048576)
def OpenSpec.upto (s : _root_.Go.ChangeSpec) : _root_.Go.OpenSpec := { _root_.Go.OpenSpec.ofChange s with cond := some uptoSmall }

/-- 'letterlocklaw14.UserPlays', WHERE WHAT IT READS IS OF BULK AT MOST 1048576: true; the input reads as it did. -/
def userPlaysUptoRow : OpenClaim := { program := "ytbdealddjonobaagreat", sum := "f3775920f71b7e94dbde065f975c56611d66e644a83f44dcdfff4f478d9a5932", func := "letterlock/letterlocklaw14.UserPlays", spec := "userPlays", inPlace := ["internal/abi.NoEscape", "internal/bytealg.MakeNoZero", "maps.clone"], unfollowed := true, recurses := true, apart := false, narrowed := true }
def UserPlaysUptoSaid : Prop := userPlaysUptoRow.holds Tryz.pinned (OpenSpec.upto userPlaysSpec)

/-- 'letterlocklaw14.UserNames', WHERE WHAT IT READS IS OF BULK AT MOST 1048576: true; the input reads as it did. -/
def userNamesUptoRow : OpenClaim := { program := "ytbdealddjonobaagreat", sum := "f3775920f71b7e94dbde065f975c56611d66e644a83f44dcdfff4f478d9a5932", func := "letterlock/letterlocklaw14.UserNames", spec := "userNames", inPlace := ["internal/abi.NoEscape", "internal/bytealg.MakeNoZero"], unfollowed := true, recurses := true, apart := false, narrowed := true }
def UserNamesUptoSaid : Prop := userNamesUptoRow.holds Tryz.pinned (OpenSpec.upto userNamesSpec)

/-- 'letterlocklaw14.UserGrows', WHERE WHAT IT READS IS OF BULK AT MOST 1048576: true; the input reads as it did. -/
def userGrowsUptoRow : OpenClaim := { program := "ytbdealddjonobaagreat", sum := "f3775920f71b7e94dbde065f975c56611d66e644a83f44dcdfff4f478d9a5932", func := "letterlock/letterlocklaw14.UserGrows", spec := "userGrows", inPlace := ["internal/abi.NoEscape", "internal/bytealg.MakeNoZero"], unfollowed := true, recurses := true, apart := false, narrowed := true }
def UserGrowsUptoSaid : Prop := userGrowsUptoRow.holds Tryz.pinned (OpenSpec.upto userGrowsSpec)

/-- 'letterlocklaw14.UserCopies', WHERE WHAT IT READS IS OF BULK AT MOST 1048576: true; the input reads as it did. -/
def userCopiesUptoRow : OpenClaim := { program := "ytbdealddjonobaagreat", sum := "f3775920f71b7e94dbde065f975c56611d66e644a83f44dcdfff4f478d9a5932", func := "letterlock/letterlocklaw14.UserCopies", spec := "userCopies", inPlace := ["internal/abi.NoEscape", "internal/bytealg.MakeNoZero", "maps.clone"], unfollowed := true, recurses := true, apart := false, narrowed := true }
def UserCopiesUptoSaid : Prop := userCopiesUptoRow.holds Tryz.pinned (OpenSpec.upto userCopiesSpec)

/-- 'letterlocklaw14.UserSays', WHERE WHAT IT READS IS OF BULK AT MOST 1048576: true; the input reads as it did. -/
def userSaysUptoRow : OpenClaim := { program := "ytbdealddjonobaagreat", sum := "f3775920f71b7e94dbde065f975c56611d66e644a83f44dcdfff4f478d9a5932", func := "letterlock/letterlocklaw14.UserSays", spec := "userSays", inPlace := ["internal/abi.NoEscape", "internal/bytealg.MakeNoZero"], unfollowed := true, recurses := true, apart := false, narrowed := true }
def UserSaysUptoSaid : Prop := userSaysUptoRow.holds Tryz.pinned (OpenSpec.upto userSaysSpec)

end Rows
end Go.Proofs.YtbdealddjonobaaGreat
