/-
  Rows.DataTellsSaid: for every input the law DataTells returns true, and each argument reads behind the call as it read before. CONDITIONS: none beside the given row's own.
-/
import Derived.Test.YtjdignbmlfbdnaaGreatRows
import Derived.WalkKit
import Derived.ProofKit
import Derived.OpenShut
import Derived.ShutString
import Derived.SizedLaws
import Derived.Test.YtjdignbmlfbdnaaGreatBin
import Derived.Test.YtjdignbmlfbdnaaGreatQLTells
import Derived.SliceStrings
import Derived.ChangeOld
import Derived.Below
namespace Go.Proofs.YtjdignbmlfbdnaaGreat.dataTells
open Go.ChangeShapes Go.WideShapes Go.ChangeAt Go.RowKit
open Go.ChangeMaps (open_string shut_string)
set_option linter.unusedVariables false

theorem own : ownKnob Tryz.prog.godebug = none := by kernel_rfl
theorem laidOut : laidOutB Tryz.prog = true := by kernel_rfl

theorem walk (pp : Int) (op fp a1 a2 : ByteArray) (a3 : Int) (a4 a5 : ByteArray) (Ap : Option Addr) (np cp : Nat) (zr : List ByteArray) (w : World) (w0 : (Lit.int .i64 pp).wf = true) (w3 : (Lit.int .i64 a3).wf = true) (w6 : Bin.IsStr w Ap np cp zr)
    (bo : op.size ≤ 140737488351232) (bf : fp.size ≤ 140737488351232) (b1 : a1.size ≤ 140737488351232) (b2 : a2.size ≤ 140737488351232) (b4 : a4.size ≤ 140737488351232) (b5 : a5.size ≤ 140737488351232) (n6 : np ≤ 140737488351232) :
    Calls Tryz.prog 3 #[.agg #[.int .i64 pp, .string op, .string fp], .string a1, .string a2, .int .i64 a3, .string a4, .string a5, .slice Ap np cp] w fun e w' => e = .returned (.bool true) ∧ Below w.heap.size w w' := by
  obtain ⟨y, rfl, h0, k0, r0, z0⟩ := Wire.sreads_of w6
  exact Dta.tells_walk pp op fp a1 a2 a3 a4 a5 Ap cp y w (Wire.int_i64 w0) (Wire.int_i64 w3) bo bf b1 b2 b4 b5 n6 r0

set_option maxRecDepth 100000 in
theorem lifted (os : Os) (started : os.Started) (H : Type) (enc : TypeId × Value → H) :
    ReturnsInHanded {} Tryz.checked os 3 .any (Rows.dataTellsSpec.pre6 enc Tryz.prog Tryz.f3 Rows.dataTellsRow.domain false) (Rows.dataTellsSpec.post enc Tryz.prog Tryz.f3 false true false false) := by
  refine returnsInHanded_of_change_sized (C := Tryz.checked) own started (by kernel_rfl) Tryz.func3
    (ChangeSpec.witness6 (enc := enc) (C := Tryz.checked) false ⟨#[], #[.agg #[.int .i64 0, .string ⟨#[]⟩, .string ⟨#[]⟩], .string ⟨#[]⟩, .string ⟨#[]⟩, .int .i64 0, .string ⟨#[]⟩, .string ⟨#[]⟩, .slice none 0 0], []⟩ 8 (by kernel_rfl) (by kernel_rfl) (by kernel_rfl) (by kernel_rfl)) ?_
  intro W base args ds gs before hval0 hW hcnd hsz0 _
  have hsz : (DataW.weightsEach Tryz.prog (Tryz.f3.params.toList ++ Rows.dataTellsSpec.plain.varTypes Tryz.prog) (ds ++ gs)).all (· ≤ reachBytes) = true := hsz0
  clear hsz0
  have hval : ∀ (j : Nat) t v, Tryz.f3.params[j]? = some t → args[j]? = some v → Value.okWide Tryz.prog W .any base t v := hval0
  have hW' := hW
  obtain ⟨p, q, hA0, hV, rfl, hfz, hnd⟩ := hW
  have hA : DataW.TrodAll enc Tryz.prog W 0 (fun _ => true) true Tryz.f3.params.toList args.toList ds p := hA0
  rw [Tryz.params3] at hA hval hsz
  obtain ⟨v0, vs0, d0, ds0, p0, q0, hargs, rfl, rfl, h0, r0⟩ := trodAll_cons hA
  obtain ⟨v1, vs1, d1, ds1, p1, q1, rfl, rfl, rfl, h1, r1⟩ := trodAll_cons r0
  obtain ⟨v2, vs2, d2, ds2, p2, q2, rfl, rfl, rfl, h2, r2⟩ := trodAll_cons r1
  obtain ⟨v3, vs3, d3, ds3, p3, q3, rfl, rfl, rfl, h3, r3⟩ := trodAll_cons r2
  obtain ⟨v4, vs4, d4, ds4, p4, q4, rfl, rfl, rfl, h4, r4⟩ := trodAll_cons r3
  obtain ⟨v5, vs5, d5, ds5, p5, q5, rfl, rfl, rfl, h5, r5⟩ := trodAll_cons r4
  obtain ⟨v6, vs6, d6, ds6, p6, q6, rfl, rfl, rfl, h6, r6⟩ := trodAll_cons r5
  obtain ⟨rfl, rfl, rfl⟩ := trodAll_nil r6
  obtain rfl : args = #[v0, v1, v2, v3, v4, v5, v6] := by cases args; simp_all
  obtain ⟨rfl, rfl⟩ := trodVars_none hV
  obtain ⟨cs, rfl, _⟩ := okWide_struct Tryz.underlying23 (hval 0 23 v0 rfl rfl)
  have k0 := h0
  have lt0 : ∀ x ∈ p0, x.block < W.heap.size := by obtain ⟨m, hm⟩ := k0; exact DataW.trod_lt m _ _ _ hm
  obtain ⟨fuel, hf⟩ := h0
  obtain ⟨pp, op, fp, e2, hcs, hd, w0⟩ := Bin.blob_in hf
  obtain rfl : cs = #[.int .i64 pp, .string op, .string fp] := by
    cases cs
    simpa [Value.cells] using hcs
  simp only at hd
  subst hd
  have bo : op.size ≤ 140737488351232 := by
    have := Bin.sized_field (j := 0) (i := 1) hsz rfl rfl Tryz.underlying23 rfl rfl op.data.toList.length (by simp [DataW.weights])
    rw [Lib.size_eq]
    simpa [reachBytes] using this
  have bf : fp.size ≤ 140737488351232 := by
    have := Bin.sized_field (j := 0) (i := 2) hsz rfl rfl Tryz.underlying23 rfl rfl fp.data.toList.length (by simp [DataW.weights])
    rw [Lib.size_eq]
    simpa [reachBytes] using this
  obtain ⟨a1, rfl, rfl, rfl, w1⟩ := open_string Tryz.underlying9 (hval 1 9 v1 rfl rfl) h1
  obtain ⟨a2, rfl, rfl, rfl, w2⟩ := open_string Tryz.underlying9 (hval 2 9 v2 rfl rfl) h2
  obtain ⟨a3, rfl, rfl, rfl, w3⟩ := open_int Tryz.underlying3 (hval 3 3 v3 rfl rfl) h3
  obtain ⟨a4, rfl, rfl, rfl, w4⟩ := open_string Tryz.underlying9 (hval 4 9 v4 rfl rfl) h4
  obtain ⟨a5, rfl, rfl, rfl, w5⟩ := open_string Tryz.underlying9 (hval 5 9 v5 rfl rfl) h5
  obtain ⟨Ap, np, cp, rfl⟩ := okWide_slice Tryz.underlying24 (hval 6 24 v6 rfl rfl)
  have k6 := h6
  have lt6 : ∀ x ∈ p6, x.block < W.heap.size := by obtain ⟨m, hm⟩ := k6; exact DataW.trod_lt m _ _ _ hm
  obtain ⟨zr, w6, n6⟩ : ∃ zs, Bin.IsStr W Ap np cp zs ∧ np ≤ 140737488351232 := by
    obtain ⟨fuel, hf⟩ := h6
    rcases open_strings Tryz.underlying24 Tryz.underlying9 (by kernel_rfl) hf with ⟨hcs, _⟩ | ⟨x, l, c, zs, hcs, _, hl, hm, hz, hd, hcell, hwz⟩
    · simp [Value.cells] at hcs
      obtain ⟨rfl, rfl, rfl⟩ := hcs
      exact ⟨[], .inl ⟨rfl, rfl, rfl, rfl⟩, Nat.zero_le _⟩
    · simp [Value.cells] at hcs
      obtain ⟨rfl, rfl, rfl⟩ := hcs
      have hh := sized_slice hsz (j := 6) (t := 24) rfl (congrArg some (Prod.mk.inj hd).1) Tryz.underlying24
      have hz2 : zs.length = cp := by simpa using hz
      have hb : Tryz.prog.bytesOf 9 = 16 := by kernel_rfl
      have hq : np ≤ 140737488351232 := by
        rw [hb] at hh
        have hr : reachBytes = 140737488351232 := by decide
        simp [strs, hz2] at hh
        omega
      exact ⟨zs, .inr ⟨_, rfl, hl, hm, hz2, hcell, hwz⟩, hq⟩
  have b1 : a1.size ≤ 140737488351232 := by
    have := sized_string hsz (j := 1) (t := 9) rfl rfl
    simpa [reachBytes] using this
  have b2 : a2.size ≤ 140737488351232 := by
    have := sized_string hsz (j := 2) (t := 9) rfl rfl
    simpa [reachBytes] using this
  have b4 : a4.size ≤ 140737488351232 := by
    have := sized_string hsz (j := 4) (t := 9) rfl rfl
    simpa [reachBytes] using this
  have b5 : a5.size ≤ 140737488351232 := by
    have := sized_string hsz (j := 5) (t := 9) rfl rfl
    simpa [reachBytes] using this
  clear hA0 hval0
  refine (walk pp op fp a1 a2 a3 a4 a5 Ap np cp zr W w0 w3 w6 bo bf b1 b2 b4 b5 n6).mono fun e W' ⟨he, bel⟩ => ?_
  subst he
  exact ⟨_, rfl, _, _, _, [], _, [], hW', trodAll_mk1 (shut_bool Tryz.underlying4 _), (trodAll_cons_mk (Below.trod laidOut (by kernel_rfl) (of_decide_eq_true (by kernel_rfl)) k0 bel lt0) (trodAll_cons_mk (shut_string Tryz.underlying9 w1) (trodAll_cons_mk (shut_string Tryz.underlying9 w2) (trodAll_cons_mk (shut_int Tryz.underlying3 w3) (trodAll_cons_mk (shut_string Tryz.underlying9 w4) (trodAll_cons_mk (shut_string Tryz.underlying9 w5) (trodAll_cons_mk (Below.trod laidOut (by kernel_rfl) (of_decide_eq_true (by kernel_rfl)) k6 bel lt6) trodAll_mk0))))))), rfl, bel.frame _, fun h => by cases h⟩

theorem over : Rows.dataTellsRow.holds Tryz.pinned (OpenSpec.ofChange Rows.dataTellsSpec) :=
  OpenClaim.holds_of_wide 3 Tryz.f3 rfl rfl rfl rfl rfl rfl rfl ⟨rfl, rfl, rfl, rfl, rfl⟩ rfl rfl rfl rfl rfl (by kernel_rfl) Tryz.func3 (by kernel_rfl)
    (of_decide_eq_true (by kernel_rfl)) (by unfold Func.isWrapper; first | (rw [if_pos (by decide +kernel)]; kernel_rfl) | (rw [if_neg (by decide +kernel)]; exact ⟨rfl, rfl⟩))
    (fun os started H enc _ => lifted os started H enc)

/-- ████ THE STATEMENT ████ -/
theorem proved : Rows.DataTellsSaid := over
#print axioms proved
end Go.Proofs.YtjdignbmlfbdnaaGreat.dataTells
