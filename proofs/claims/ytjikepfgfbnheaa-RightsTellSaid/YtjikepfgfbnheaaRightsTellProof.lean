/-
  Rows.RightsTellSaid: for every input the law RightsTell returns true, and each argument reads behind the call as it read before. CONDITIONS: none beside the given row's own.
-/
import Derived.Test.YtjikepfgfbnheaaRows
import Derived.WalkKit
import Derived.ProofKit
import Derived.OpenShut
import Derived.ShutString
import Derived.SizedLaws
import Derived.Test.YtjikepfgfbnheaaRin
import Derived.Test.YtjikepfgfbnheaaGTell
import Derived.Test.YtjikepfgfbnheaaGCode
import Derived.ChangeOld
import Derived.Below
namespace Go.Proofs.Ytjikepfgfbnheaa.rightsTell
open Go.ChangeShapes Go.WideShapes Go.ChangeAt Go.RowKit
open Go.ChangeMaps (open_string shut_string)
set_option linter.unusedVariables false

theorem own : ownKnob Try.prog.godebug = none := by kernel_rfl
theorem laidOut : laidOutB Try.prog = true := by kernel_rfl

theorem walk (op fp : ByteArray) (pp : Int) (Ap : Option Addr) (np cp : Nat) (zr : List ByteArray) (Bp : Option Addr) (mp dp : Nat) (zw : List ByteArray) (a1 a2 : ByteArray) (a3 : Bool) (w : World) (w0 : (Lit.int .i64 pp).wf = true) (w0r : Rin.IsStr w Ap np cp zr) (w0w : Rin.IsStr w Bp mp dp zw)
    (bo : op.size ≤ 140737488351232) (bf : fp.size ≤ 140737488351232) (b1 : a1.size ≤ 140737488351232) (b2 : a2.size ≤ 140737488351232) :
    Calls Try.prog 3 #[.agg #[.string op, .string fp, .int .i64 pp, .slice Ap np cp, .slice Bp mp dp], .string a1, .string a2, .bool a3] w fun e w' => e = .returned (.bool true) ∧ Below w.heap.size w w' := by
  obtain ⟨rs, hrl, hrc, hcm, hrr, hrs⟩ := Wire.sreads_of w0r
  obtain ⟨ws, hwl, hwc, hdm, hwr, hws⟩ := Wire.sreads_of w0w
  subst hrl
  subst hwl
  have hm : maxLen = 9223372036854775807 := by decide
  have n1 : Ap = none → cp = 0 := fun h => by
    rcases w0r with ⟨_, _, h2, _⟩ | ⟨x, h2, _⟩
    · exact h2
    · rw [h] at h2; cases h2
  have n2 : Bp = none → dp = 0 := fun h => by
    rcases w0w with ⟨_, _, h2, _⟩ | ⟨x, h2, _⟩
    · exact h2
    · rw [h] at h2; cases h2
  exact Rig.tell_walk Rig.rightok Rig.canok Rig.newok Rig.grantok Rig.revokeok Rig.putok Rig.takeok op fp pp Ap cp rs Bp dp ws a1 a2 a3 w hrr hwr ⟨hrc, n1⟩ ⟨hwc, n2⟩ (Wire.int_i64 w0) (by omega) (by omega) (by omega) (by omega) (fun y hy => by have := hrs y hy; omega) (fun y hy => by have := hws y hy; omega) (by omega) (by omega)

set_option maxRecDepth 100000 in
theorem lifted (os : Os) (started : os.Started) (H : Type) (enc : TypeId × Value → H) :
    ReturnsInHanded {} Try.checked os 3 .any (Rows.rightsTellSpec.pre6 enc Try.prog Try.f3 Rows.rightsTellRow.domain false) (Rows.rightsTellSpec.post enc Try.prog Try.f3 false true false false) := by
  refine returnsInHanded_of_change_sized (C := Try.checked) own started (by kernel_rfl) Try.func3
    (ChangeSpec.witness6 (enc := enc) (C := Try.checked) false ⟨#[], #[.agg #[.string ⟨#[]⟩, .string ⟨#[]⟩, .int .i64 0, .slice none 0 0, .slice none 0 0], .string ⟨#[]⟩, .string ⟨#[]⟩, .bool false], []⟩ 3 (by kernel_rfl) (by kernel_rfl) (by kernel_rfl) (by kernel_rfl)) ?_
  intro W base args ds gs before hval0 hW hcnd hsz0 _
  have hsz : (DataW.weightsEach Try.prog (Try.f3.params.toList ++ Rows.rightsTellSpec.plain.varTypes Try.prog) (ds ++ gs)).all (· ≤ reachBytes) = true := hsz0
  clear hsz0
  have hval : ∀ (j : Nat) t v, Try.f3.params[j]? = some t → args[j]? = some v → Value.okWide Try.prog W .any base t v := hval0
  have hW' := hW
  obtain ⟨p, q, hA0, hV, rfl, hfz, hnd⟩ := hW
  have hA : DataW.TrodAll enc Try.prog W 0 (fun _ => true) true Try.f3.params.toList args.toList ds p := hA0
  rw [Try.params3] at hA hval hsz
  obtain ⟨v0, vs0, d0, ds0, p0, q0, hargs, rfl, rfl, h0, r0⟩ := trodAll_cons hA
  obtain ⟨v1, vs1, d1, ds1, p1, q1, rfl, rfl, rfl, h1, r1⟩ := trodAll_cons r0
  obtain ⟨v2, vs2, d2, ds2, p2, q2, rfl, rfl, rfl, h2, r2⟩ := trodAll_cons r1
  obtain ⟨v3, vs3, d3, ds3, p3, q3, rfl, rfl, rfl, h3, r3⟩ := trodAll_cons r2
  obtain ⟨rfl, rfl, rfl⟩ := trodAll_nil r3
  obtain rfl : args = #[v0, v1, v2, v3] := by cases args; simp_all
  obtain ⟨rfl, rfl⟩ := trodVars_none hV
  obtain ⟨cs, rfl, _⟩ := okWide_struct Try.underlying24 (hval 0 24 v0 rfl rfl)
  have k0 := h0
  have lt0 : ∀ x ∈ p0, x.block < W.heap.size := by obtain ⟨m, hm⟩ := k0; exact DataW.trod_lt m _ _ _ hm
  obtain ⟨fuel, hf⟩ := h0
  obtain ⟨op, fp, pp, Ap, np, cp, zr, Bp, mp, dp, zw, e2, e3, e4, hcs, hd, w0, w0r, w0w⟩ := Rin.rights_in hf
  obtain rfl : cs = #[.string op, .string fp, .int .i64 pp, .slice Ap np cp, .slice Bp mp dp] := by
    cases cs
    simpa [Value.cells] using hcs
  simp only at hd
  subst hd
  have bo : op.size ≤ 140737488351232 := by
    have := Rin.sized_field (j := 0) (i := 0) hsz rfl rfl Try.underlying24 rfl rfl op.data.toList.length (by simp [DataW.weights])
    rw [Lib.size_eq]
    simpa [reachBytes] using this
  have bf : fp.size ≤ 140737488351232 := by
    have := Rin.sized_field (j := 0) (i := 1) hsz rfl rfl Try.underlying24 rfl rfl fp.data.toList.length (by simp [DataW.weights])
    rw [Lib.size_eq]
    simpa [reachBytes] using this
  obtain ⟨a1, rfl, rfl, rfl, w1⟩ := open_string Try.underlying9 (hval 1 9 v1 rfl rfl) h1
  obtain ⟨a2, rfl, rfl, rfl, w2⟩ := open_string Try.underlying9 (hval 2 9 v2 rfl rfl) h2
  obtain ⟨a3, rfl, rfl, rfl⟩ := open_bool Try.underlying4 (hval 3 4 v3 rfl rfl) h3
  have b1 : a1.size ≤ 140737488351232 := by
    have := sized_string hsz (j := 1) (t := 9) rfl rfl
    simpa [reachBytes] using this
  have b2 : a2.size ≤ 140737488351232 := by
    have := sized_string hsz (j := 2) (t := 9) rfl rfl
    simpa [reachBytes] using this
  clear hA0 hval0
  refine (walk op fp pp Ap np cp zr Bp mp dp zw a1 a2 a3 W w0 w0r w0w bo bf b1 b2).mono fun e W' ⟨he, bel⟩ => ?_
  subst he
  exact ⟨_, rfl, _, _, _, [], _, [], hW', trodAll_mk1 (shut_bool Try.underlying4 _), (trodAll_cons_mk (Below.trod laidOut (by kernel_rfl) (of_decide_eq_true (by kernel_rfl)) k0 bel lt0) (trodAll_cons_mk (shut_string Try.underlying9 w1) (trodAll_cons_mk (shut_string Try.underlying9 w2) (trodAll_cons_mk (shut_bool Try.underlying4 _) trodAll_mk0)))), rfl, bel.frame _, fun h => by cases h⟩

theorem over : Rows.rightsTellRow.holds Try.pinned (OpenSpec.ofChange Rows.rightsTellSpec) :=
  OpenClaim.holds_of_wide 3 Try.f3 rfl rfl rfl rfl rfl rfl rfl ⟨rfl, rfl, rfl, rfl, rfl⟩ rfl rfl rfl rfl rfl (by kernel_rfl) Try.func3 (by kernel_rfl)
    (of_decide_eq_true (by kernel_rfl)) (by unfold Func.isWrapper; first | (rw [if_pos (by decide +kernel)]; kernel_rfl) | (rw [if_neg (by decide +kernel)]; exact ⟨rfl, rfl⟩))
    (fun os started H enc _ => lifted os started H enc)

/-- ████ THE STATEMENT ████ -/
theorem proved : Rows.RightsTellSaid := over
#print axioms proved
end Go.Proofs.Ytjikepfgfbnheaa.rightsTell
