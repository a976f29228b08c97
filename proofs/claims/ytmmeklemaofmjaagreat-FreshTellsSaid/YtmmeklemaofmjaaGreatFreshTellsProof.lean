/-
  Rows.FreshTellsSaid: for every input the law FreshTells returns true, and each argument reads behind the call as it read before. CONDITIONS: none beside the given row's own.
-/
import Derived.Test.YtmmeklemaofmjaaGreatRows
import Derived.WalkKit
import Derived.ProofKit
import Derived.OpenShut
import Derived.ShutString
import Derived.SizedLaws
import Derived.Test.YtmmeklemaofmjaaGreatBin
import Derived.Test.YtmmeklemaofmjaaGreatSin
import Derived.Test.YtmmeklemaofmjaaGreatElm
import Derived.Test.YtmmeklemaofmjaaGreatFLTells
import Derived.SliceStrings
import Derived.ChangeOld
import Derived.Below
namespace Go.Proofs.YtmmeklemaofmjaaGreat.freshTells
open Go.ChangeShapes Go.WideShapes Go.ChangeAt Go.RowKit
open Go.ChangeMaps (open_string shut_string)
set_option linter.unusedVariables false

theorem own : ownKnob Tryz.prog.godebug = none := by kernel_rfl
theorem laidOut : laidOutB Tryz.prog = true := by kernel_rfl

theorem walk (op : ByteArray) (tp mp : Int) (rp gp a1 a2 a3 : ByteArray) (A4 : Option Addr) (n4 c4 : Nat) (z4 : List ByteArray) (a5 a6 a7 : Int) (A8 : Option Addr) (n8 c8 : Nat) (z8 : List ByteArray) (w : World) (wt : (Lit.int .u64 tp).wf = true) (wm : (Lit.int .i64 mp).wf = true) (w4 : Bin.IsStr w A4 n4 c4 z4) (w5 : (Lit.int .u64 a5).wf = true) (w6 : (Lit.int .u64 a6).wf = true) (w7 : (Lit.int .i64 a7).wf = true) (w8 : Bin.IsStr w A8 n8 c8 z8)
    (bo : op.size ≤ 140737488351232) (br : rp.size ≤ 140737488351232) (bg : gp.size ≤ 140737488351232) (b1 : a1.size ≤ 140737488351232) (b2 : a2.size ≤ 140737488351232) (b3 : a3.size ≤ 140737488351232) (m4 : n4 ≤ 140737488351232) (m8 : n8 ≤ 140737488351232) (e4 : ∀ s ∈ z4, s.size ≤ 140737488351232) (e8 : ∀ s ∈ z8, s.size ≤ 140737488351232) :
    Calls Tryz.prog 3 #[.agg #[.string op, .int .u64 tp, .int .i64 mp, .string rp, .string gp], .string a1, .string a2, .string a3, .slice A4 n4 c4, .int .u64 a5, .int .u64 a6, .int .i64 a7, .slice A8 n8 c8] w fun e w' => e = .returned (.bool true) ∧ Below w.heap.size w w' := by
  have hm : maxLen = 9223372036854775807 := by decide
  obtain ⟨nt, rfl, ht⟩ := Wire.nat_u64 wt
  obtain ⟨n5, rfl, h5⟩ := Wire.nat_u64 w5
  obtain ⟨n6, rfl, h6⟩ := Wire.nat_u64 w6
  obtain ⟨ys, rfl, x1, x2, x3, x4⟩ := Elm.sreads_sized w4 e4
  obtain ⟨ps, rfl, y1, y2, y3, y4⟩ := Elm.sreads_sized w8 e8
  exact Frs.tells_walk op nt mp rp gp a1 a2 a3 A4 c4 ys n5 n6 a7 A8 c8 ps w ht h5 h6 bo br bg b1 b2 b3 x3 ⟨x1, by omega⟩ m4 x4 y3 ⟨y1, by omega⟩ m8 y4

set_option maxRecDepth 100000 in
theorem lifted (os : Os) (started : os.Started) (H : Type) (enc : TypeId × Value → H) :
    ReturnsInHanded {} Tryz.checked os 3 .any (Rows.freshTellsSpec.pre6 enc Tryz.prog Tryz.f3 Rows.freshTellsRow.domain false) (Rows.freshTellsSpec.post enc Tryz.prog Tryz.f3 false true false false) := by
  refine returnsInHanded_of_change_sized (C := Tryz.checked) own started (by kernel_rfl) Tryz.func3
    (ChangeSpec.witness6 (enc := enc) (C := Tryz.checked) false ⟨#[], #[.agg #[.string ⟨#[]⟩, .int .u64 0, .int .i64 0, .string ⟨#[]⟩, .string ⟨#[]⟩], .string ⟨#[]⟩, .string ⟨#[]⟩, .string ⟨#[]⟩, .slice none 0 0, .int .u64 0, .int .u64 0, .int .i64 0, .slice none 0 0], []⟩ 8 (by kernel_rfl) (by kernel_rfl) (by kernel_rfl) (by kernel_rfl)) ?_
  intro W base args ds gs before hval0 hW hcnd hsz0 _
  have hsz : (DataW.weightsEach Tryz.prog (Tryz.f3.params.toList ++ Rows.freshTellsSpec.plain.varTypes Tryz.prog) (ds ++ gs)).all (· ≤ reachBytes) = true := hsz0
  clear hsz0
  have hval : ∀ (j : Nat) t v, Tryz.f3.params[j]? = some t → args[j]? = some v → Value.okWide Tryz.prog W .any base t v := hval0
  have hW' := hW
  obtain ⟨p, q, hA0, hV, rfl, hfz, hnd⟩ := hW
  have hA : DataW.TrodAll enc Tryz.prog W 0 (fun _ => true) true Tryz.f3.params.toList args.toList ds p := hA0
  rw [Tryz.params3] at hA hval hsz
  obtain ⟨v0, vs0, d0, ds0, p0, q0, hargs, rfl, rfl, h0, r0⟩ := trodAll_cons hA
  obtain ⟨v1, vs1, d1, ds1, p1, q1, rfl, rfl, rfl, h1, r1⟩ := trodAll_cons r0
  obtain ⟨v2, vs2, d2, ds2, p2, q2, rfl, rfl, rfl, h2, r2⟩ := trodAll_cons r1
  obtain ⟨v3, vs3, d3, ds3, p3, q3, rfl, rfl, rfl, h3, r3⟩ := trodAll_cons r2
  obtain ⟨v4, vs4, d4, ds4, p4, q4, rfl, rfl, rfl, h4, r4⟩ := trodAll_cons r3
  obtain ⟨v5, vs5, d5, ds5, p5, q5, rfl, rfl, rfl, h5, r5⟩ := trodAll_cons r4
  obtain ⟨v6, vs6, d6, ds6, p6, q6, rfl, rfl, rfl, h6, r6⟩ := trodAll_cons r5
  obtain ⟨v7, vs7, d7, ds7, p7, q7, rfl, rfl, rfl, h7, r7⟩ := trodAll_cons r6
  obtain ⟨v8, vs8, d8, ds8, p8, q8, rfl, rfl, rfl, h8, r8⟩ := trodAll_cons r7
  obtain ⟨rfl, rfl, rfl⟩ := trodAll_nil r8
  obtain rfl : args = #[v0, v1, v2, v3, v4, v5, v6, v7, v8] := by cases args; simp_all
  obtain ⟨rfl, rfl⟩ := trodVars_none hV
  obtain ⟨cs, rfl, _⟩ := okWide_struct Tryz.underlying24 (hval 0 24 v0 rfl rfl)
  have k0 := h0
  have lt0 : ∀ x ∈ p0, x.block < W.heap.size := by obtain ⟨m, hm⟩ := k0; exact DataW.trod_lt m _ _ _ hm
  obtain ⟨fuel, hf⟩ := h0
  obtain ⟨op, tp, mp, rp, gp, e1, e2, hcs, hd, wt, wm⟩ := Sin.stamp_in hf
  obtain rfl : cs = #[.string op, .int .u64 tp, .int .i64 mp, .string rp, .string gp] := by
    cases cs
    simpa [Value.cells] using hcs
  simp only at hd
  subst hd
  have bo : op.size ≤ 140737488351232 := by
    have := Bin.sized_field (j := 0) (i := 0) hsz rfl rfl Tryz.underlying24 rfl rfl op.data.toList.length (by simp [DataW.weights])
    rw [Lib.size_eq]
    simpa [reachBytes] using this
  have br : rp.size ≤ 140737488351232 := by
    have := Bin.sized_field (j := 0) (i := 3) hsz rfl rfl Tryz.underlying24 rfl rfl rp.data.toList.length (by simp [DataW.weights])
    rw [Lib.size_eq]
    simpa [reachBytes] using this
  have bg : gp.size ≤ 140737488351232 := by
    have := Bin.sized_field (j := 0) (i := 4) hsz rfl rfl Tryz.underlying24 rfl rfl gp.data.toList.length (by simp [DataW.weights])
    rw [Lib.size_eq]
    simpa [reachBytes] using this
  obtain ⟨a1, rfl, rfl, rfl, w1⟩ := open_string Tryz.underlying9 (hval 1 9 v1 rfl rfl) h1
  obtain ⟨a2, rfl, rfl, rfl, w2⟩ := open_string Tryz.underlying9 (hval 2 9 v2 rfl rfl) h2
  obtain ⟨a3, rfl, rfl, rfl, w3⟩ := open_string Tryz.underlying9 (hval 3 9 v3 rfl rfl) h3
  obtain ⟨a5, rfl, rfl, rfl, w5⟩ := open_int Tryz.underlying22 (hval 5 22 v5 rfl rfl) h5
  obtain ⟨a6, rfl, rfl, rfl, w6⟩ := open_int Tryz.underlying22 (hval 6 22 v6 rfl rfl) h6
  obtain ⟨a7, rfl, rfl, rfl, w7⟩ := open_int Tryz.underlying3 (hval 7 3 v7 rfl rfl) h7
  obtain ⟨A4, n4, c4, rfl⟩ := okWide_slice Tryz.underlying25 (hval 4 25 v4 rfl rfl)
  have k4 := h4
  have lt4 : ∀ x ∈ p4, x.block < W.heap.size := by obtain ⟨m, hm⟩ := k4; exact DataW.trod_lt m _ _ _ hm
  obtain ⟨z4, w4, m4, e4⟩ : ∃ zs, Bin.IsStr W A4 n4 c4 zs ∧ n4 ≤ 140737488351232 ∧ ∀ s ∈ zs, s.size ≤ 140737488351232 := by
    obtain ⟨fuel, hf⟩ := h4
    rcases open_strings Tryz.underlying25 Tryz.underlying9 (by kernel_rfl) hf with ⟨hcs, _⟩ | ⟨x, l, c, zs, hcs, _, hl, hm, hz, hd, hcell, hwz⟩
    · simp [Value.cells] at hcs
      obtain ⟨rfl, rfl, rfl⟩ := hcs
      exact ⟨[], .inl ⟨rfl, rfl, rfl, rfl⟩, Nat.zero_le _, fun s h => by cases h⟩
    · simp [Value.cells] at hcs
      obtain ⟨rfl, rfl, rfl⟩ := hcs
      have hh := sized_slice hsz (j := 4) (t := 25) rfl (congrArg some (Prod.mk.inj hd).1) Tryz.underlying25
      have hz2 : zs.length = c4 := by simpa using hz
      have hb : Tryz.prog.bytesOf 9 = 16 := by kernel_rfl
      have hq : n4 ≤ 140737488351232 := by
        rw [hb] at hh
        have hr : reachBytes = 140737488351232 := by decide
        simp [strs, hz2] at hh
        omega
      have he := Elm.sized_elems hsz (j := 4) (t := 25) rfl (congrArg some (Prod.mk.inj hd).1) Tryz.underlying25
      exact ⟨zs, .inr ⟨_, rfl, hl, hm, hz2, hcell, hwz⟩, hq, fun s h => by
        have := he s (by rw [List.take_append_drop]; exact h)
        simpa [reachBytes] using this⟩
  obtain ⟨A8, n8, c8, rfl⟩ := okWide_slice Tryz.underlying25 (hval 8 25 v8 rfl rfl)
  have k8 := h8
  have lt8 : ∀ x ∈ p8, x.block < W.heap.size := by obtain ⟨m, hm⟩ := k8; exact DataW.trod_lt m _ _ _ hm
  obtain ⟨z8, w8, m8, e8⟩ : ∃ zs, Bin.IsStr W A8 n8 c8 zs ∧ n8 ≤ 140737488351232 ∧ ∀ s ∈ zs, s.size ≤ 140737488351232 := by
    obtain ⟨fuel, hf⟩ := h8
    rcases open_strings Tryz.underlying25 Tryz.underlying9 (by kernel_rfl) hf with ⟨hcs, _⟩ | ⟨x, l, c, zs, hcs, _, hl, hm, hz, hd, hcell, hwz⟩
    · simp [Value.cells] at hcs
      obtain ⟨rfl, rfl, rfl⟩ := hcs
      exact ⟨[], .inl ⟨rfl, rfl, rfl, rfl⟩, Nat.zero_le _, fun s h => by cases h⟩
    · simp [Value.cells] at hcs
      obtain ⟨rfl, rfl, rfl⟩ := hcs
      have hh := sized_slice hsz (j := 8) (t := 25) rfl (congrArg some (Prod.mk.inj hd).1) Tryz.underlying25
      have hz2 : zs.length = c8 := by simpa using hz
      have hb : Tryz.prog.bytesOf 9 = 16 := by kernel_rfl
      have hq : n8 ≤ 140737488351232 := by
        rw [hb] at hh
        have hr : reachBytes = 140737488351232 := by decide
        simp [strs, hz2] at hh
        omega
      have he := Elm.sized_elems hsz (j := 8) (t := 25) rfl (congrArg some (Prod.mk.inj hd).1) Tryz.underlying25
      exact ⟨zs, .inr ⟨_, rfl, hl, hm, hz2, hcell, hwz⟩, hq, fun s h => by
        have := he s (by rw [List.take_append_drop]; exact h)
        simpa [reachBytes] using this⟩
  have b1 : a1.size ≤ 140737488351232 := by
    have := sized_string hsz (j := 1) (t := 9) rfl rfl
    simpa [reachBytes] using this
  have b2 : a2.size ≤ 140737488351232 := by
    have := sized_string hsz (j := 2) (t := 9) rfl rfl
    simpa [reachBytes] using this
  have b3 : a3.size ≤ 140737488351232 := by
    have := sized_string hsz (j := 3) (t := 9) rfl rfl
    simpa [reachBytes] using this
  clear hA0 hval0
  refine (walk op tp mp rp gp a1 a2 a3 A4 n4 c4 z4 a5 a6 a7 A8 n8 c8 z8 W wt wm w4 w5 w6 w7 w8 bo br bg b1 b2 b3 m4 m8 e4 e8).mono fun e W' ⟨he, bel⟩ => ?_
  subst he
  exact ⟨_, rfl, _, _, _, [], _, [], hW', trodAll_mk1 (shut_bool Tryz.underlying4 _), (trodAll_cons_mk (Below.trod laidOut (by kernel_rfl) (of_decide_eq_true (by kernel_rfl)) k0 bel lt0) (trodAll_cons_mk (shut_string Tryz.underlying9 w1) (trodAll_cons_mk (shut_string Tryz.underlying9 w2) (trodAll_cons_mk (shut_string Tryz.underlying9 w3) (trodAll_cons_mk (Below.trod laidOut (by kernel_rfl) (of_decide_eq_true (by kernel_rfl)) k4 bel lt4) (trodAll_cons_mk (shut_int Tryz.underlying22 w5) (trodAll_cons_mk (shut_int Tryz.underlying22 w6) (trodAll_cons_mk (shut_int Tryz.underlying3 w7) (trodAll_cons_mk (Below.trod laidOut (by kernel_rfl) (of_decide_eq_true (by kernel_rfl)) k8 bel lt8) trodAll_mk0))))))))), rfl, bel.frame _, fun h => by cases h⟩

theorem over : Rows.freshTellsRow.holds Tryz.pinned (OpenSpec.ofChange Rows.freshTellsSpec) :=
  OpenClaim.holds_of_wide 3 Tryz.f3 rfl rfl rfl rfl rfl rfl rfl ⟨rfl, rfl, rfl, rfl, rfl⟩ rfl rfl rfl rfl rfl (by kernel_rfl) Tryz.func3 (by kernel_rfl)
    (of_decide_eq_true (by kernel_rfl)) (by unfold Func.isWrapper; first | (rw [if_pos (by decide +kernel)]; kernel_rfl) | (rw [if_neg (by decide +kernel)]; exact ⟨rfl, rfl⟩))
    (fun os started H enc _ => lifted os started H enc)

/-- ████ THE STATEMENT ████ -/
theorem proved : Rows.FreshTellsSaid := over
#print axioms proved
end Go.Proofs.YtmmeklemaofmjaaGreat.freshTells
