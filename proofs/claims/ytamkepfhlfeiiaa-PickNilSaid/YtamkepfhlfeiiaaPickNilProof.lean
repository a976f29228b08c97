/-
  Rows.PickNilSaid: for every input the law PickNil returns true, and each argument reads behind the call as it read before. CONDITIONS: none beside the given row's own.
-/
import Derived.Test.YtamkepfhlfeiiaaRows
import Derived.WalkKit
import Derived.ProofKit
import Derived.OpenShut
import Derived.ShutString
import Derived.SizedLaws
import Derived.Test.YtamkepfhlfeiiaaKLNil
import Derived.Test.YtamkepfhlfeiiaaSTCode
import Derived.Test.YtamkepfhlfeiiaaPCode2
import Derived.Test.YtamkepfhlfeiiaaBin
import Derived.Test.YtamkepfhlfeiiaaCho
import Derived.ChangeOld
import Derived.Below
namespace Go.Proofs.Ytamkepfhlfeiiaa.pickNil
open Go.ChangeShapes Go.WideShapes Go.ChangeAt Go.RowKit
open Go.ChangeMaps (open_string shut_string)
set_option linter.unusedVariables false

theorem own : ownKnob Try.prog.godebug = none := by kernel_rfl
theorem laidOut : laidOutB Try.prog = true := by kernel_rfl

/-- WHAT THE WALK IS TOLD OF A SLICE OF INTEGERS THAT CAME IN: it is nil; or it leads to a row of 'cap' cells, the numbers 'zs' (the first 'len' are its elements, the rest its spare room), each fitting its kind. -/
def IsRow (k : IntKind) (w : World) (a : Option Addr) (len cap : Nat) (zs : List Int) : Prop :=
  (a = none ∧ len = 0 ∧ cap = 0 ∧ zs = []) ∨
  ∃ x, a = some x ∧ len ≤ cap ∧ cap ≤ maxLen ∧ zs.length = cap ∧ (∀ i, i < zs.length → w.cell? (x.add i) = some (.int k (zs.getD i 0))) ∧ ∀ n ∈ zs, (Lit.int k n).wf = true

/-! ### STEP 1: THE WALK: the Go text returns true, AND WRITES NOTHING THAT WAS THERE: 'Below w.heap.size w w'' (Derived/Below.lean: '.refl', '.alloc', '.drew', '.setCell' at a new block, '.trans'). Open each 'IsRow' by 'rcases' AHEAD of 'go_enter'; part every test ahead of the walk. -/
theorem walk (kd0 bk0 : Int) (Y0 Z0 : ByteArray) (a1 : Int) (a2 : ByteArray) (w : World) (w0 : Sto.Ch.Ok ⟨kd0, bk0, Y0, Z0⟩) (w1 : (Lit.int .i64 a1).wf = true) (w2 : a2.size ≤ maxLen) (b2 : a2.size ≤ 140737488351232) :
    Calls Try.prog 6 #[.agg #[.int .u8 kd0, .int .i64 bk0, .string Y0, .string Z0], .int .i64 a1, .string a2] w fun e w' => e = .returned (.bool true) ∧ Below w.heap.size w w' := by
  exact Sto.nil_walk Sto.storeok (Sto.pickok Sto.storeok) kd0 bk0 Y0 Z0 a1 a2 w w0 (Wire.int_i64 w1) b2

/-! ### THE ROW's STEP: WRITTEN OUT: LEAVE IT -/
set_option maxRecDepth 100000 in
theorem lifted (os : Os) (started : os.Started) (H : Type) (enc : TypeId × Value → H) :
    ReturnsInHanded {} Try.checked os 6 .any (Rows.pickNilSpec.pre6 enc Try.prog Try.f6 Rows.pickNilRow.domain false) (Rows.pickNilSpec.post enc Try.prog Try.f6 false true false false) := by
  refine returnsInHanded_of_change_sized (C := Try.checked) own started (by kernel_rfl) Try.func6
    (ChangeSpec.witness6 (enc := enc) (C := Try.checked) false ⟨#[], #[.agg #[.int .u8 0, .int .i64 0, .string ⟨#[]⟩, .string ⟨#[]⟩], .int .i64 0, .string ByteArray.empty], []⟩ 8 (by kernel_rfl) (by kernel_rfl) (by kernel_rfl) (by kernel_rfl)) ?_
  intro W base args ds gs before hval0 hW hcnd hsz0 _
  have hsz : (DataW.weightsEach Try.prog (Try.f6.params.toList ++ Rows.pickNilSpec.plain.varTypes Try.prog) (ds ++ gs)).all (· ≤ reachBytes) = true := hsz0
  clear hsz0
  have hval : ∀ (j : Nat) t v, Try.f6.params[j]? = some t → args[j]? = some v → Value.okWide Try.prog W .any base t v := hval0
  have hW' := hW
  obtain ⟨p, q, hA0, hV, rfl, hfz, hnd⟩ := hW
  have hA : DataW.TrodAll enc Try.prog W 0 (fun _ => true) true Try.f6.params.toList args.toList ds p := hA0
  rw [Try.params6] at hA hval hsz
  obtain ⟨v0, vs0, d0, ds0, p0, q0, hargs, rfl, rfl, h0, r0⟩ := trodAll_cons hA
  obtain ⟨v1, vs1, d1, ds1, p1, q1, rfl, rfl, rfl, h1, r1⟩ := trodAll_cons r0
  obtain ⟨v2, vs2, d2, ds2, p2, q2, rfl, rfl, rfl, h2, r2⟩ := trodAll_cons r1
  obtain ⟨rfl, rfl, rfl⟩ := trodAll_nil r2
  obtain rfl : args = #[v0, v1, v2] := by cases args; simp_all
  obtain ⟨rfl, rfl⟩ := trodVars_none hV
  obtain ⟨cs0, rfl, _⟩ := okWide_struct Try.underlying24 (hval 0 24 v0 rfl rfl)
  have k0 := h0
  have lt0 : ∀ x ∈ p0, x.block < W.heap.size := by obtain ⟨m, hm⟩ := k0; exact DataW.trod_lt m _ _ _ hm
  obtain ⟨fuel0, hf0⟩ := h0
  obtain ⟨kd0, bk0, Y0, Z0, e10, e20, hcs0, hd0, wk0, wb0⟩ := Cho.choice_in hf0
  obtain rfl : cs0 = #[.int .u8 kd0, .int .i64 bk0, .string Y0, .string Z0] := by
    cases cs0
    simpa [Value.cells] using hcs0
  simp only at hd0
  subst hd0
  have bY0 : Y0.size ≤ 140737488351232 := by
    have := Bin.sized_field (j := 0) (i := 2) hsz rfl rfl Try.underlying24 rfl rfl Y0.data.toList.length (by simp [DataW.weights])
    rw [Lib.size_eq]
    simpa [reachBytes] using this
  have bZ0 : Z0.size ≤ 140737488351232 := by
    have := Bin.sized_field (j := 0) (i := 3) hsz rfl rfl Try.underlying24 rfl rfl Z0.data.toList.length (by simp [DataW.weights])
    rw [Lib.size_eq]
    simpa [reachBytes] using this
  have w0 : Sto.Ch.Ok ⟨kd0, bk0, Y0, Z0⟩ := ⟨Cho.wf_u8 wk0, Wire.int_i64 wb0, bY0, bZ0⟩
  obtain ⟨a1, rfl, rfl, rfl, w1⟩ := open_int Try.underlying3 (hval 1 3 v1 rfl rfl) h1
  obtain ⟨a2, rfl, rfl, rfl, w2⟩ := open_string Try.underlying9 (hval 2 9 v2 rfl rfl) h2
  have b2 : a2.size ≤ 140737488351232 := by
    have := sized_string hsz (j := 2) (t := 9) rfl rfl
    simpa [reachBytes] using this
  clear hA0 hval0
  refine (walk kd0 bk0 Y0 Z0 a1 a2 W w0 w1 w2 b2).mono fun e W' ⟨he, bel⟩ => ?_
  subst he
  exact ⟨_, rfl, _, _, _, [], _, [], hW', trodAll_mk1 (shut_bool Try.underlying4 _), (trodAll_cons_mk (Below.trod laidOut (by kernel_rfl) (of_decide_eq_true (by kernel_rfl)) k0 bel lt0) (trodAll_cons_mk (shut_int Try.underlying3 w1) (trodAll_cons_mk (shut_string Try.underlying9 w2) trodAll_mk0))), rfl, bel.frame _, fun h => by cases h⟩

theorem over : Rows.pickNilRow.holds Try.pinned (OpenSpec.ofChange Rows.pickNilSpec) :=
  OpenClaim.holds_of_wide 6 Try.f6 rfl rfl rfl rfl rfl rfl rfl ⟨rfl, rfl, rfl, rfl, rfl⟩ rfl rfl rfl rfl rfl (by kernel_rfl) Try.func6 (by kernel_rfl)
    (of_decide_eq_true (by kernel_rfl)) (by unfold Func.isWrapper; first | (rw [if_pos (by decide +kernel)]; kernel_rfl) | (rw [if_neg (by decide +kernel)]; exact ⟨rfl, rfl⟩))
    (fun os started H enc _ => lifted os started H enc)

/-- ████ THE STATEMENT ████ -/
theorem proved : Rows.PickNilSaid := over
#print axioms proved
end Go.Proofs.Ytamkepfhlfeiiaa.pickNil
