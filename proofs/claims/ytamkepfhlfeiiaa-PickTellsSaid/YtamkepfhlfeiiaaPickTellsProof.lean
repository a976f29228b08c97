/-
  Rows.PickTellsSaid: for every input the law PickTells returns true, and each argument reads behind the call as it read before. CONDITIONS: none beside the given row's own.
-/
import Derived.Test.YtamkepfhlfeiiaaRows
import Derived.WalkKit
import Derived.ProofKit
import Derived.OpenShut
import Derived.ShutString
import Derived.SizedLaws
import Derived.Test.YtamkepfhlfeiiaaMip
import Derived.Test.YtamkepfhlfeiiaaKLTells
import Derived.Test.YtamkepfhlfeiiaaSTCode
import Derived.Test.YtamkepfhlfeiiaaPCode2
import Derived.Test.YtamkepfhlfeiiaaBin
import Derived.Test.YtamkepfhlfeiiaaCho
import Derived.Test.YtamkepfhlfeiiaaMip
import Derived.ChangeOld
import Derived.Below
namespace Go.Proofs.Ytamkepfhlfeiiaa.pickTells
open Go.ChangeShapes Go.WideShapes Go.ChangeAt Go.RowKit
open Go.ChangeMaps (open_string shut_string)
set_option linter.unusedVariables false

theorem own : ownKnob Try.prog.godebug = none := by kernel_rfl
theorem laidOut : laidOutB Try.prog = true := by kernel_rfl

/-- WHAT THE WALK IS TOLD OF A SLICE OF INTEGERS THAT CAME IN: it is nil; or it leads to a row of 'cap' cells, the numbers 'zs' (the first 'len' are its elements, the rest its spare room), each fitting its kind. -/
def IsRow (k : IntKind) (w : World) (a : Option Addr) (len cap : Nat) (zs : List Int) : Prop :=
  (a = none ∧ len = 0 ∧ cap = 0 ∧ zs = []) ∨
  ∃ x, a = some x ∧ len ≤ cap ∧ cap ≤ maxLen ∧ zs.length = cap ∧ (∀ i, i < zs.length → w.cell? (x.add i) = some (.int k (zs.getD i 0))) ∧ ∀ n ∈ zs, (Lit.int k n).wf = true

/-! ### STEP 1: THE WALK: the Go text returns true, AND WRITES NOTHING THAT WAS THERE: 'Below w.heap.size w w'' (Derived/Below.lean: '.refl', '.alloc', '.drew', '.setCell' at a new block, '.trans'). Open each 'IsRow' by 'rcases' AHEAD of 'go_enter'; part every test ahead of the walk. -/
theorem walk (a0 : Option Addr) (len0 cap0 : Nat) (z0 : Nat → Sto.Pu) (kd1 bk1 : Int) (Y1 Z1 : ByteArray) (a2 : Int) (a3 : ByteArray) (w : World) (w0 : Mip.IsPuts w a0 len0 cap0 z0) (w1 : Sto.Ch.Ok ⟨kd1, bk1, Y1, Z1⟩) (w2 : (Lit.int .i64 a2).wf = true) (w3 : a3.size ≤ maxLen) (b3 : a3.size ≤ 140737488351232) :
    Calls Try.prog 3 #[.slice a0 len0 cap0, .agg #[.int .u8 kd1, .int .i64 bk1, .string Y1, .string Z1], .int .i64 a2, .string a3] w fun e w' => e = .returned (.bool true) ∧ Below w.heap.size w w' := by
  exact Sto.tells_walk Sto.storeok (Sto.pickok Sto.storeok) a0 len0 cap0 z0 kd1 bk1 Y1 Z1 a2 a3 w (Nat.le_trans w0.1 w0.2.1) w0.2.2 w1 (Wire.int_i64 w2) b3

/-! ### THE ROW's STEP: WRITTEN OUT: LEAVE IT -/
set_option maxRecDepth 100000 in
theorem lifted (os : Os) (started : os.Started) (H : Type) (enc : TypeId × Value → H) :
    ReturnsInHanded {} Try.checked os 3 .any (Rows.pickTellsSpec.pre6 enc Try.prog Try.f3 Rows.pickTellsRow.domain false) (Rows.pickTellsSpec.post enc Try.prog Try.f3 false true false false) := by
  refine returnsInHanded_of_change_sized (C := Try.checked) own started (by kernel_rfl) Try.func3
    (ChangeSpec.witness6 (enc := enc) (C := Try.checked) false ⟨#[], #[.slice none 0 0, .agg #[.int .u8 0, .int .i64 0, .string ⟨#[]⟩, .string ⟨#[]⟩], .int .i64 0, .string ByteArray.empty], []⟩ 8 (by kernel_rfl) (by kernel_rfl) (by kernel_rfl) (by kernel_rfl)) ?_
  intro W base args ds gs before hval0 hW hcnd hsz0 _
  have hsz : (DataW.weightsEach Try.prog (Try.f3.params.toList ++ Rows.pickTellsSpec.plain.varTypes Try.prog) (ds ++ gs)).all (· ≤ reachBytes) = true := hsz0
  clear hsz0
  have hval : ∀ (j : Nat) t v, Try.f3.params[j]? = some t → args[j]? = some v → Value.okWide Try.prog W .any base t v := hval0
  have hW' := hW
  obtain ⟨p, q, hA0, hV, rfl, hfz, hnd⟩ := hW
  have hA : DataW.TrodAll enc Try.prog W 0 (fun _ => true) true Try.f3.params.toList args.toList ds p := hA0
  rw [Try.params3] at hA hval hsz
  obtain ⟨v0, vs0, d0, ds0, p0, q0, hargs, rfl, rfl, h0, r0⟩ := trodAll_cons hA
  obtain ⟨v1, vs1, d1, ds1, p1, q1, rfl, rfl, rfl, h1, r1⟩ := trodAll_cons r0
  obtain ⟨v2, vs2, d2, ds2, p2, q2, rfl, rfl, rfl, h2, r2⟩ := trodAll_cons r1
  obtain ⟨v3, vs3, d3, ds3, p3, q3, rfl, rfl, rfl, h3, r3⟩ := trodAll_cons r2
  obtain ⟨rfl, rfl, rfl⟩ := trodAll_nil r3
  obtain rfl : args = #[v0, v1, v2, v3] := by cases args; simp_all
  obtain ⟨rfl, rfl⟩ := trodVars_none hV
  obtain ⟨a0, len0, cap0, rfl⟩ := okWide_slice Try.underlying22 (hval 0 22 v0 rfl rfl)
  have k0 := h0
  have lt0 : ∀ x ∈ p0, x.block < W.heap.size := by obtain ⟨m, hm⟩ := k0; exact DataW.trod_lt m _ _ _ hm
  obtain ⟨z0, w0⟩ : ∃ zs, Mip.IsPuts W a0 len0 cap0 zs := by
    obtain ⟨fuel, hf⟩ := h0
    exact Mip.puts_in (j := 0) hf hsz rfl rfl
  obtain ⟨cs1, rfl, _⟩ := okWide_struct Try.underlying24 (hval 1 24 v1 rfl rfl)
  have k1 := h1
  have lt1 : ∀ x ∈ p1, x.block < W.heap.size := by obtain ⟨m, hm⟩ := k1; exact DataW.trod_lt m _ _ _ hm
  obtain ⟨fuel1, hf1⟩ := h1
  obtain ⟨kd1, bk1, Y1, Z1, e11, e21, hcs1, hd1, wk1, wb1⟩ := Cho.choice_in hf1
  obtain rfl : cs1 = #[.int .u8 kd1, .int .i64 bk1, .string Y1, .string Z1] := by
    cases cs1
    simpa [Value.cells] using hcs1
  simp only at hd1
  subst hd1
  have bY1 : Y1.size ≤ 140737488351232 := by
    have := Bin.sized_field (j := 1) (i := 2) hsz rfl rfl Try.underlying24 rfl rfl Y1.data.toList.length (by simp [DataW.weights])
    rw [Lib.size_eq]
    simpa [reachBytes] using this
  have bZ1 : Z1.size ≤ 140737488351232 := by
    have := Bin.sized_field (j := 1) (i := 3) hsz rfl rfl Try.underlying24 rfl rfl Z1.data.toList.length (by simp [DataW.weights])
    rw [Lib.size_eq]
    simpa [reachBytes] using this
  have w1 : Sto.Ch.Ok ⟨kd1, bk1, Y1, Z1⟩ := ⟨Cho.wf_u8 wk1, Wire.int_i64 wb1, bY1, bZ1⟩
  obtain ⟨a2, rfl, rfl, rfl, w2⟩ := open_int Try.underlying3 (hval 2 3 v2 rfl rfl) h2
  obtain ⟨a3, rfl, rfl, rfl, w3⟩ := open_string Try.underlying9 (hval 3 9 v3 rfl rfl) h3
  have b3 : a3.size ≤ 140737488351232 := by
    have := sized_string hsz (j := 3) (t := 9) rfl rfl
    simpa [reachBytes] using this
  clear hA0 hval0
  refine (walk a0 len0 cap0 z0 kd1 bk1 Y1 Z1 a2 a3 W w0 w1 w2 w3 b3).mono fun e W' ⟨he, bel⟩ => ?_
  subst he
  exact ⟨_, rfl, _, _, _, [], _, [], hW', trodAll_mk1 (shut_bool Try.underlying4 _), (trodAll_cons_mk (Below.trod laidOut (by kernel_rfl) (of_decide_eq_true (by kernel_rfl)) k0 bel lt0) (trodAll_cons_mk (Below.trod laidOut (by kernel_rfl) (of_decide_eq_true (by kernel_rfl)) k1 bel lt1) (trodAll_cons_mk (shut_int Try.underlying3 w2) (trodAll_cons_mk (shut_string Try.underlying9 w3) trodAll_mk0)))), rfl, bel.frame _, fun h => by cases h⟩

theorem over : Rows.pickTellsRow.holds Try.pinned (OpenSpec.ofChange Rows.pickTellsSpec) :=
  OpenClaim.holds_of_wide 3 Try.f3 rfl rfl rfl rfl rfl rfl rfl ⟨rfl, rfl, rfl, rfl, rfl⟩ rfl rfl rfl rfl rfl (by kernel_rfl) Try.func3 (by kernel_rfl)
    (of_decide_eq_true (by kernel_rfl)) (by unfold Func.isWrapper; first | (rw [if_pos (by decide +kernel)]; kernel_rfl) | (rw [if_neg (by decide +kernel)]; exact ⟨rfl, rfl⟩))
    (fun os started H enc _ => lifted os started H enc)

/-- ████ THE STATEMENT ████ -/
theorem proved : Rows.PickTellsSaid := over
#print axioms proved
end Go.Proofs.Ytamkepfhlfeiiaa.pickTells
