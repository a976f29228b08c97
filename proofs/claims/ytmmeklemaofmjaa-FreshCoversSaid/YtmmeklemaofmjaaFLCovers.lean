/-
  THE LAW FreshCovers, walked. By an AI agent; no person has read it.
-/
import Derived.Test.YtmmeklemaofmjaaFShown
import Derived.Test.YtmmeklemaofmjaaP8
namespace Go.Proofs.Ytmmeklemaofmjaa.Frs
open Go Go.RowKit Wire Term Draw Reg Clo

set_option linter.unusedSimpArgs false
set_option linter.unusedVariables false
set_option maxHeartbeats 8000000 in
set_option maxRecDepth 1000000 in
theorem covers_to {O : ByteArray} {t : Nat} {m : Int} {R G : ByteArray} {i : Int} {T : ByteArray} {p : List Tm} {v : Bool} (hv : coversS ⟨O.data.toList, t, m, R.data.toList, G.data.toList⟩ i T.data.toList p = v) (h1 : O.size ≤ 100000) (h2 : R.size ≤ 100000) (h3 : G.size ≤ 100000) (h4 : T.size ≤ 100000) {A : Option Addr} {c : Nat} {ys : List ByteArray} (hy : bl ys = p) (hc : ys.length ≤ c ∧ c ≤ 9223372036854775807) (hz : ∀ y ∈ ys, y.size ≤ 140737488355328) (w : World) (hr : SReads w A ys) :
    Calls Try.prog 19 #[.agg #[.string O, .int .u64 (t : Int), .int .i64 m, .string R, .string G], .int .i64 i, .string T, .slice A ys.length c] w fun e w' => e = .returned (.bool v) ∧ Below w.heap.size w w' := by
  have := fcovers_any O t m R G i T A c ys w hr (by omega) (by omega) (by omega) (by omega) hc.1 hc.2 hz
  rw [hy, hv] at this
  exact this
theorem rootS_ne {l : List Tm} (h : l ≠ []) : rootS l = Tre.root l := by unfold rootS; rw [if_neg h]
set_option maxHeartbeats 8000000 in
set_option maxRecDepth 1000000 in
theorem covers_walk (A1 : Option Addr) (c1 : Nat) (z1 : List Int) (at0 other : Int) (w : World) (hi1 : IReads w A1 z1) (hn1 : z1.length ≤ 9223372036854775807) (ht : -9223372036854775808 ≤ at0 ∧ at0 ≤ 9223372036854775807) (ho : -9223372036854775808 ≤ other ∧ other ≤ 9223372036854775807) :
    Calls Try.prog 4 #[.slice A1 z1.length c1, .int .i64 at0, .int .i64 other] w fun e w' => e = .returned (.bool true) ∧ Below w.heap.size w w' := by
  have HSH := Lib.hid fun w => shown_any w
  have HI := Lib.hid hi1
  have HRO : Hid (∀ w', IReads w' A1 z1 → Calls Try.prog 12 #[.slice A1 z1.length c1] w' fun e w'' => Tre.Ob w' w'' (Tre.rowL z1) e ∧ Below w'.heap.size w' w'') := Lib.hid fun w' h => Tre.row_any A1 c1 z1 w' h hn1
  have hs1 : Smalls (Tre.rowL z1) := Tre.rowL_small
  have hd1 := Tre.rowL_non (zs := z1)
  have h8 : (Tre.rowL z1).length ≤ 8 := by rw [Tre.rowL_len]; omega
  generalize Tre.rowL z1 = la at HRO hs1 hd1 h8
  obtain ⟨O, hO⟩ : ∃ O : ByteArray, O = ⟨#[97, 110, 110, 97]⟩ := ⟨_, rfl⟩
  obtain ⟨R, G, hM⟩ := made_is (O := O) (t := 5) (l := la) (by rw [hO]; decide +kernel) (by rw [hO]; decide) (by decide) h8 hs1
  obtain ⟨K0, hK⟩ := letter_is (secU O.data.toList)
  have HS := Lib.hid fun w => sec_to (s := O) (by rw [hO]; decide) hK w
  have HBD : Hid (∀ (A' : Option Addr) (c' : Nat) (ys : List ByteArray) (w' : World), bl ys = la → (ys.length ≤ c' ∧ c' ≤ 9223372036854775807) → SReads w' A' ys → Calls Try.prog 10 #[.string K0, .string O, .int .u64 5, .slice A' ys.length c'] w' fun e w'' => e = .returned (.tuple #[.agg #[.string O, .int .u64 5, .int .i64 (la.length : Int), .string R, .string G], .int .i64 0]) ∧ Below w'.heap.size w' w'') := Lib.hid fun A' c' ys w' hy hc hr => build_to hM hK hy hs1 hc w' hr
  have HM := Lib.hid hM
  obtain ⟨N, hN⟩ : ∃ N, la.length = N := ⟨_, rfl⟩
  rw [hN] at HBD HM h8
  have HNL := Lib.hid hN
  have HCT : Hid (∀ (i : Int) (T : ByteArray) (p : List Tm) (v : Bool), coversS ⟨O.data.toList, 5, (N : Int), R.data.toList, G.data.toList⟩ i T.data.toList p = v → T.size ≤ 100000 → ∀ (A : Option Addr) (c : Nat) (ys : List ByteArray), bl ys = p → (ys.length ≤ c ∧ c ≤ 9223372036854775807) → (∀ y ∈ ys, y.size ≤ 140737488355328) → ∀ w, SReads w A ys → Calls Try.prog 19 #[.agg #[.string O, .int .u64 5, .int .i64 (N : Int), .string R, .string G], .int .i64 i, .string T, .slice A ys.length c] w fun e w' => e = .returned (.bool v) ∧ Below w.heap.size w w') := Lib.hid fun (i : Int) (T : ByteArray) (p : List Tm) (v : Bool) (hv : coversS ⟨O.data.toList, 5, (N : Int), R.data.toList, G.data.toList⟩ i T.data.toList p = v) hT A c ys hy hc hz w hs => covers_to (O := O) (t := 5) (m := (N : Int)) (R := R) (G := G) (i := i) (T := T) (p := p) hv (by have := HM.out.sizes.1; omega) (by have := HM.out.sizes.2.1; omega) (by have := HM.out.sizes.2.2; omega) hT hy hc hz w hs
  have hSR := HM.out.ok
  have hroot := HM.out.root
  have hov := Tre.pk_lt other (n := 9) (by decide)
  have HP9 : Hid (∀ w', Calls Try.prog 15 #[.int .i64 other, .int .i64 9] w' fun e w'' => e = .returned (.int .i64 (Tre.pk other 9 : Int)) ∧ w'' = w') := Lib.hid fun w' => Tre.pick_any other 9 w' ho (by omega) (by omega)
  generalize Tre.pk other 9 = ov at hov HP9
  have HOT : Hid (∀ w', Calls Try.prog 18 #[.string ⟨#[111, 116, 104, 101, 114]⟩, .int .u64 (ov : Int)] w' fun e w'' => Sr (Tre.ot ov, 0) e ∧ Below w'.heap.size w' w'') := Lib.hid fun w' => by
    have := Tre.cleafT_any Tre.otB ov w' (by decide) (by omega)
    rw [Tre.leafT_is (by decide) (by omega)] at this
    exact this
  have hwo : IntKind.u64.wrap (ov : Int) = (ov : Int) := by rw [IntKind.wrap_u64]; omega
  clear hi1 hn1 hN hK hM
  subst hO
  go_enter Try.func4, Try.ntmps4
  go_wp2_with fail
  with_reducible refine (HSH.out _).mono ?_
  rintro e w1 ⟨rfl, hb1⟩
  have HB1 := Lib.hid hb1
  clear hb1
  try dsimp only
  go_wp2_with fail
  with_reducible refine (HRO.out _ (HI.out.below HB1.out (Nat.le_refl _))).mono ?_
  rintro e w2 ⟨hx, hb2⟩
  have HB2 := Lib.hid (Bel.call HB1.out hb2)
  clear hb2
  obtain ⟨AX, cX, YX, hq, hc, hr, hb, rfl⟩ := Tre.ob_row hx
  have HQX := Lib.hid hq
  have HCX := Lib.hid hc
  have HRX := Lib.hid hr
  clear hx hq hc hr hb
  have hx := (Tre.bl_length HQX.out).symm
  rw [HNL.out] at hx
  subst hx
  try dsimp only
  go_wp2_with fail
  with_reducible refine (HS.out _).mono ?_
  rintro e w3 ⟨rfl, hb3⟩
  have HB3 := Lib.hid (Bel.call HB2.out hb3)
  replace HRX := Lib.hid (HRX.out.below hb3 (Nat.le_refl _))
  clear hb3
  try dsimp only
  go_wp2_with fail
  with_reducible refine (HBD.out AX cX YX _ HQX.out HCX.out HRX.out).mono ?_
  rintro e w4 ⟨rfl, hb4⟩
  have HB4 := Lib.hid (Bel.call HB3.out hb4)
  replace HRX := Lib.hid (HRX.out.below hb4 (Nat.le_refl _))
  clear hb4
  try dsimp only
  go_wp2_with fail
  have hbS : Below w4.heap.size w4 (w4.alloc (.cells #[.string ⟨#[97, 110, 110, 97]⟩, .int .u64 5, .int .i64 (YX.length : Int), .string R, .string G] 27)) := (Below.refl w4.heap.size w4).alloc (Nat.le_refl _) _
  have hxS := c5_new w4 (.string ⟨#[97, 110, 110, 97]⟩) (.int .u64 5) (.int .i64 (YX.length : Int)) (.string R) (.string G) 27
  generalize w4.alloc (.cells #[.string ⟨#[97, 110, 110, 97]⟩, .int .u64 5, .int .i64 (YX.length : Int), .string R, .string G] 27) = wSS at hbS hxS ⊢
  have HB5 := Lib.hid (Bel.call HB4.out hbS)
  replace HRX := Lib.hid (HRX.out.below hbS (Nat.le_refl _))
  have HXS := Lib.hid hxS
  clear hbS hxS
  with_reducible refine (HP9.out _).mono ?_
  rintro e v1 ⟨rfl, hv1⟩
  obtain rfl : wSS = v1 := hv1.symm
  dsimp only
  go_wp2_with fail
  with_reducible refine (HOT.out _).mono ?_
  rintro e w6 ⟨⟨X, hX, rfl⟩, hb6⟩
  have HB6 := Lib.hid (Bel.call HB5.out hb6)
  replace HRX := Lib.hid (HRX.out.below hb6 (Nat.le_refl _))
  replace HXS := Lib.hid (HXS.out.below hb6)
  clear hb6
  try dsimp only at hX
  have HX := Lib.hid hX
  clear hX
  try dsimp only
  have HZX : Hid (X.size ≤ 100000) := Lib.hid (by rw [Lib.size_eq, HX.out]; have := (Tre.ot_sm hov).1.2; omega)
  by_cases h1 : YX.length = 0
  · have hc0 : coversS ⟨(⟨#[97, 110, 110, 97]⟩ : ByteArray).data.toList, 5, (YX.length : Int), R.data.toList, G.data.toList⟩ 0 X.data.toList [] = false := covers_empty (by show (YX.length : Int) = 0; omega)
    have HCV : Hid (∀ w, Calls Try.prog 19 #[.agg #[.string ⟨#[97, 110, 110, 97]⟩, .int .u64 5, .int .i64 (YX.length : Int), .string R, .string G], .int .i64 0, .string X, .slice none 0 0] w fun e w' => e = .returned (.bool false) ∧ Below w.heap.size w w') := Lib.hid fun w => HCT.out 0 X [] false hc0 HZX.out none 0 [] rfl ⟨Nat.le_refl _, by decide⟩ (fun y h => by cases h) w (SReads.nil _ _)
    clear hc0 HCT
    have q0 : ((YX.length : Int) == 0) = true := by rw [beq_iff_eq]; omega
    have q00 : (YX.length : Int) = 0 := by omega
    rw [q00] at HCV
    replace HXS : Hid (C5 w4.heap.size w6 (.string ⟨#[97, 110, 110, 97]⟩) (.int .u64 5) (.int .i64 0) (.string R) (.string G)) := Lib.hid (by have := HXS.out; rw [q00] at this; exact this)
    skip
    obtain ⟨⟨nS, dS0, dS1, dS2, dS3, dS4⟩, kS0, kS1, kS2, kS3, kS4⟩ := HXS.out
    go_wp2_with fail
    with_reducible refine (HCV.out _).mono ?_
    rintro e w7 ⟨rfl, hb7⟩
    clear nS dS0 dS1 dS2 dS3 dS4 kS0 kS1 kS2 kS3 kS4
    have HB7 := Lib.hid (Bel.call HB6.out hb7)
    replace HRX := Lib.hid (HRX.out.below hb7 (Nat.le_refl _))
    replace HXS := Lib.hid (HXS.out.below hb7)
    clear hb7
    try dsimp only
    go_wp2
    go_ret
    exact ⟨rfl, HB7.out⟩
  have q1 : ((YX.length : Int) == 0) = false := by rw [beq_eq_false_iff_ne]; omega
  obtain ⟨gX, oX, rfl, _, _⟩ := HRX.out 0 (by omega)
  have zx := Tre.bl_sizes HQX.out hs1
  have hla : la ≠ [] := fun h => by have := HNL.out; rw [h] at this; exact h1 this.symm
  have ra : Tre.root la = (R.data.toList, 0) := by rw [← rootS_ne hla]; exact hroot
  have hpi := Tre.pk_lt at0 (n := YX.length) (by omega)
  have hpj := Tre.pk_lt other (n := YX.length) (by omega)
  have HPI : Hid (∀ w', Calls Try.prog 15 #[.int .i64 at0, .int .i64 (YX.length : Int)] w' fun e w'' => e = .returned (.int .i64 (Tre.pk at0 YX.length : Int)) ∧ w'' = w') := Lib.hid fun w' => Tre.pick_any at0 YX.length w' ht (by omega) (by omega)
  have HPJ : Hid (∀ w', Calls Try.prog 15 #[.int .i64 other, .int .i64 (YX.length : Int)] w' fun e w'' => e = .returned (.int .i64 (Tre.pk other YX.length : Int)) ∧ w'' = w') := Lib.hid fun w' => Tre.pick_any other YX.length w' ho (by omega) (by omega)
  generalize Tre.pk at0 YX.length = ij at hpi HPI
  generalize Tre.pk other YX.length = jj at hpj HPJ
  have hp := Tre.row_proves (l := la) (x := R.data.toList) (k := ij) (by rw [HNL.out]; omega) (by rw [HNL.out]; omega) hs1 ra (by rw [HNL.out]; omega)
  rw [HNL.out] at hp
  obtain ⟨P, p1, p2, p3, p4, p5, p6, p7, p8, p9, p10⟩ := hp
  have hmem : ∀ {j}, j < YX.length → la.getD j [] ∈ la := fun {j} h => by
    have h2 : j < la.length := by rw [HNL.out]; exact h
    rw [List.getD, List.getElem?_eq_getElem h2]; exact List.getElem_mem h2
  have HPF : Hid (∀ w', SReads w' (some ⟨gX, oX, none⟩) YX → Calls Try.prog 20 #[.slice (some ⟨gX, oX, none⟩) YX.length cX, .int .i64 (ij : Int)] w' fun e w'' => Tre.Pb w' w'' (P, 0) e ∧ Below w'.heap.size w' w'') := Lib.hid fun w' h => Tre.proof_any_to p1 HQX.out HCX.out (fun y h => by have := zx y h; omega) w' h
  obtain ⟨K, hK⟩ : ∃ K, YX.getD ij ByteArray.empty = K := ⟨_, rfl⟩
  obtain ⟨J, hJ⟩ : ∃ J, YX.getD jj ByteArray.empty = J := ⟨_, rfl⟩
  have HKD : Hid (K.data.toList = la.getD ij []) := Lib.hid (by rw [← hK, Tre.getD_bl, HQX.out])
  have HJD : Hid (J.data.toList = la.getD jj []) := Lib.hid (by rw [← hJ, Tre.getD_bl, HQX.out])
  have HKM := hmem hpi
  have HJM := hmem hpj
  have HZK : Hid (K.size ≤ 100000) := Lib.hid (by rw [Lib.size_eq, HKD.out]; have := (hs1 _ HKM).1.2; omega)
  have HZJ : Hid (J.size ≤ 100000) := Lib.hid (by rw [Lib.size_eq, HJD.out]; have := (hs1 _ HJM).1.2; omega)
  have HCK : Hid (∀ w', SReads w' (some ⟨gX, oX, none⟩) YX → w'.cell? ⟨gX, oX + ij, none⟩ = some (.string K)) := Lib.hid fun w' h => by rw [← hK]; exact Tre.cell_at h hpi
  have HCJ : Hid (∀ w', SReads w' (some ⟨gX, oX, none⟩) YX → w'.cell? ⟨gX, oX + jj, none⟩ = some (.string J)) := Lib.hid fun w' h => by rw [← hJ]; exact Tre.cell_at h hpj
  have hck : ∀ i T p, coversS ⟨(⟨#[97, 110, 110, 97]⟩ : ByteArray).data.toList, 5, (YX.length : Int), R.data.toList, G.data.toList⟩ i T p = Tre.verifyT R.data.toList (YX.length : Int) i T p := fun i T p => covers_is hSR
  have HV1 := Lib.hid (HCT.out (ij : Int) K P true (by rw [hck, HKD.out]; exact p2) HZK.out)
  have HV2 := Lib.hid (HCT.out (ij : Int) X P false (by rw [hck, HX.out]; exact p3 _ (fun e => hd1 _ HKM ov hov e)) HZX.out)
  have HV3 := Lib.hid fun (hne : J.data.toList ≠ K.data.toList) => HCT.out (ij : Int) J P false (by rw [hck]; exact p3 _ (by rw [← HKD.out]; exact hne)) HZJ.out
  have HV4 := Lib.hid (HCT.out (YX.length : Int) K P false (by rw [hck]; exact Tre.ver_place (by omega)) HZK.out)
  have HV5 : Hid (∀ (A : Option Addr) (c : Nat) (ys : List ByteArray), bl ys = P → (ys.length ≤ c ∧ c ≤ 9223372036854775807) → (∀ y ∈ ys, y.size ≤ 140737488355328) → ∀ w, SReads w A ys → Calls Try.prog 19 #[.agg #[.string ⟨#[]⟩, .int .u64 0, .int .i64 0, .string ⟨#[]⟩, .string ⟨#[]⟩], .int .i64 (ij : Int), .string K, .slice A ys.length c] w fun e w' => e = .returned (.bool false) ∧ Below w.heap.size w w') := Lib.hid fun (A : Option Addr) (c : Nat) (ys : List ByteArray) hy hc hz w hs => covers_to (O := ⟨#[]⟩) (t := 0) (m := 0) (R := ⟨#[]⟩) (G := ⟨#[]⟩) (i := (ij : Int)) (T := K) (p := P) (v := false) covers_none (by decide) (by decide) (by decide) HZK.out (A := A) (c := c) (ys := ys) hy hc hz w hs
  have hPZ := p8
  have i0 : (0 : Int) ≤ (ij : Int) := Int.natCast_nonneg ij
  have i1 : (ij : Int) < (YX.length : Int) := by omega
  have j0 : (0 : Int) ≤ (jj : Int) := Int.natCast_nonneg jj
  have j1 : (jj : Int) < (YX.length : Int) := by omega
  clear p1 p2 p3 p4 p5 p6 p7 p9 p10 hck HCT hmem zx ra hla hroot hSR hK hJ hd1
  go_wp2_with fail
  with_reducible refine (HPI.out _).mono ?_
  rintro e v2 ⟨rfl, hv2⟩
  obtain rfl : w6 = v2 := hv2.symm
  dsimp only
  go_wp2_with fail
  with_reducible refine (HPF.out _ HRX.out).mono ?_
  rintro e w7 ⟨hx, hb7⟩
  have HB7 := Lib.hid (Bel.call HB6.out hb7)
  replace HRX := Lib.hid (HRX.out.below hb7 (Nat.le_refl _))
  replace HXS := Lib.hid (HXS.out.below hb7)
  clear hb7
  obtain ⟨AP, cP, YP, hq, hc, hr, hb, rfl⟩ := Tre.pb_row hx
  have HQP := Lib.hid hq
  have HCP := Lib.hid hc
  have HRP := Lib.hid hr
  have HZP : Hid (∀ y ∈ YP, y.size ≤ 140737488355328) := Lib.hid fun y h => by
    have := hPZ _ (by rw [← hq]; exact List.mem_map.2 ⟨y, h, rfl⟩)
    rw [Lib.size_eq]; omega
  clear hx hq hc hr hb
  try dsimp only
  go_wp2_with fail
  with_reducible refine (HPJ.out _).mono ?_
  rintro e v3 ⟨rfl, hv3⟩
  obtain rfl : w7 = v3 := hv3.symm
  dsimp only
  by_cases hne : J.data.toList = K.data.toList
  · have hqj := eq_bool hne
    go_wp2_with fail
    have hdr : SReads w7.drew (some ⟨gX, oX, none⟩) YX ∧ C5 w4.heap.size w7.drew (.string ⟨#[97, 110, 110, 97]⟩) (.int .u64 5) (.int .i64 (YX.length : Int)) (.string R) (.string G) ∧ SReads w7.drew AP YP ∧ Below w7.heap.size w7 w7.drew := ⟨HRX.out.below (Below.drewN' (Below.refl w7.heap.size w7) 1) (Nat.le_refl _), HXS.out.below (Below.drewN' (Below.refl w7.heap.size w7) 1), HRP.out.below (Below.drewN' (Below.refl w7.heap.size w7) 1) (Nat.le_refl _), (Below.drewN' (Below.refl w7.heap.size w7) 1)⟩
    refine Ord.region_lit (S := fun w' => SReads w' (some ⟨gX, oX, none⟩) YX ∧ C5 w4.heap.size w' (.string ⟨#[97, 110, 110, 97]⟩) (.int .u64 5) (.int .i64 (YX.length : Int)) (.string R) (.string G) ∧ SReads w' AP YP ∧ Below w7.heap.size w7 w') (by kernel_rfl) (by kernel_rfl) hdr ?_
    clear hdr
    refine Ord.stepR (v := ?_) (by rfl) ?_ ?_
    rotate_left
    · intro w' hSw
      go_simp
      try with_reducible rfl
    try simp only [Act.put, List.setIfInBounds_toArray, List.set_cons_zero, List.set_cons_succ]
    refine Ord.stepR (v := ?_) (by rfl) ?_ ?_
    rotate_left
    · intro w' hSw
      go_simp
      try with_reducible rfl
    try simp only [Act.put, List.setIfInBounds_toArray, List.set_cons_zero, List.set_cons_succ]
    refine Ord.stepR (v := ?_) (by rfl) ?_ ?_
    rotate_left
    · intro w' hSw
      go_simp
      try with_reducible rfl
    try simp only [Act.put, List.setIfInBounds_toArray, List.set_cons_zero, List.set_cons_succ]
    refine Ord.stepR (v := ?_) (by rfl) ?_ ?_
    rotate_left
    · intro w' hSw
      have hck := HCK.out _ hSw.1
      have hcj := HCJ.out _ hSw.1
      obtain ⟨⟨_, q10, q11, q12, q13, q14⟩, _⟩ := hSw.2.1
      go_simp
      try with_reducible rfl
    try simp only [Act.put, List.setIfInBounds_toArray, List.set_cons_zero, List.set_cons_succ]
    refine Ord.stepR (v := ?_) (by rfl) ?_ ?_
    rotate_left
    · intro w' hSw
      go_simp
      try with_reducible rfl
    try simp only [Act.put, List.setIfInBounds_toArray, List.set_cons_zero, List.set_cons_succ]
    refine Ord.stepR (v := ?_) (by rfl) ?_ ?_
    rotate_left
    · intro w' hSw
      go_simp
      try with_reducible rfl
    try simp only [Act.put, List.setIfInBounds_toArray, List.set_cons_zero, List.set_cons_succ]
    refine Ord.stepR (v := ?_) (by rfl) ?_ ?_
    rotate_left
    · intro w' hSw
      go_simp
      try with_reducible rfl
    try simp only [Act.put, List.setIfInBounds_toArray, List.set_cons_zero, List.set_cons_succ]
    refine Ord.stepR (v := ?_) (by rfl) ?_ ?_
    rotate_left
    · intro w' hSw
      go_simp
      try with_reducible rfl
    try simp only [Act.put, List.setIfInBounds_toArray, List.set_cons_zero, List.set_cons_succ]
    refine Ord.stepR (v := ?_) (by rfl) ?_ ?_
    rotate_left
    · intro w' hSw
      have hck := HCK.out _ hSw.1
      have hcj := HCJ.out _ hSw.1
      obtain ⟨⟨_, q10, q11, q12, q13, q14⟩, _⟩ := hSw.2.1
      go_simp
      try with_reducible rfl
    try simp only [Act.put, List.setIfInBounds_toArray, List.set_cons_zero, List.set_cons_succ]
    refine Ord.stepR (v := ?_) (by rfl) ?_ ?_
    rotate_left
    · intro w' hSw
      go_simp
      try with_reducible rfl
    try simp only [Act.put, List.setIfInBounds_toArray, List.set_cons_zero, List.set_cons_succ]
    refine Ord.stepC (v := .bool true) (by rfl) ?_ (fun w1 hS => (HV1.out AP cP YP HQP.out HCP.out HZP.out w1 hS.2.2.1).mono fun e w2 h => ⟨h.1, ⟨hS.1.below (h.2) (Nat.le_refl _), hS.2.1.below (h.2), hS.2.2.1.below (h.2) (Nat.le_refl _), hS.2.2.2.trans ((h.2).mono hS.2.2.2.size)⟩⟩) ?_
    · intro w' hSw
      go_simp
      try with_reducible rfl
    try simp only [Act.put, List.setIfInBounds_toArray, List.set_cons_zero, List.set_cons_succ]
    refine Ord.stepR (v := ?_) (by rfl) ?_ ?_
    rotate_left
    · intro w' hSw
      go_simp
      try with_reducible rfl
    try simp only [Act.put, List.setIfInBounds_toArray, List.set_cons_zero, List.set_cons_succ]
    refine Ord.stepR (v := ?_) (by rfl) ?_ ?_
    rotate_left
    · intro w' hSw
      go_simp
      try with_reducible rfl
    try simp only [Act.put, List.setIfInBounds_toArray, List.set_cons_zero, List.set_cons_succ]
    refine Ord.stepR (v := ?_) (by rfl) ?_ ?_
    rotate_left
    · intro w' hSw
      have hck := HCK.out _ hSw.1
      have hcj := HCJ.out _ hSw.1
      obtain ⟨⟨_, q10, q11, q12, q13, q14⟩, _⟩ := hSw.2.1
      go_simp
      try with_reducible rfl
    try simp only [Act.put, List.setIfInBounds_toArray, List.set_cons_zero, List.set_cons_succ]
    refine Ord.stepR (v := ?_) (by rfl) ?_ ?_
    rotate_left
    · intro w' hSw
      go_simp
      try with_reducible rfl
    try simp only [Act.put, List.setIfInBounds_toArray, List.set_cons_zero, List.set_cons_succ]
    refine Ord.stepR (v := ?_) (by rfl) ?_ ?_
    rotate_left
    · intro w' hSw
      go_simp
      try with_reducible rfl
    try simp only [Act.put, List.setIfInBounds_toArray, List.set_cons_zero, List.set_cons_succ]
    refine Ord.stepR (v := ?_) (by rfl) ?_ ?_
    rotate_left
    · intro w' hSw
      go_simp
      try with_reducible rfl
    try simp only [Act.put, List.setIfInBounds_toArray, List.set_cons_zero, List.set_cons_succ]
    refine Ord.stepC (v := .bool false) (by rfl) ?_ (fun w1 hS => (HV2.out AP cP YP HQP.out HCP.out HZP.out w1 hS.2.2.1).mono fun e w2 h => ⟨h.1, ⟨hS.1.below (h.2) (Nat.le_refl _), hS.2.1.below (h.2), hS.2.2.1.below (h.2) (Nat.le_refl _), hS.2.2.2.trans ((h.2).mono hS.2.2.2.size)⟩⟩) ?_
    · intro w' hSw
      go_simp
      try with_reducible rfl
    try simp only [Act.put, List.setIfInBounds_toArray, List.set_cons_zero, List.set_cons_succ]
    refine Ord.stepR (v := ?_) (by rfl) ?_ ?_
    rotate_left
    · intro w' hSw
      go_simp
      try with_reducible rfl
    try simp only [Act.put, List.setIfInBounds_toArray, List.set_cons_zero, List.set_cons_succ]
    refine Ord.stepR (v := ?_) (by rfl) ?_ ?_
    rotate_left
    · intro w' hSw
      go_simp
      try with_reducible rfl
    try simp only [Act.put, List.setIfInBounds_toArray, List.set_cons_zero, List.set_cons_succ]
    refine Ord.stepR (v := ?_) (by rfl) ?_ ?_
    rotate_left
    · intro w' hSw
      go_simp
      try with_reducible rfl
    try simp only [Act.put, List.setIfInBounds_toArray, List.set_cons_zero, List.set_cons_succ]
    refine Ord.stepR (v := ?_) (by rfl) ?_ ?_
    rotate_left
    · intro w' hSw
      go_simp
      try with_reducible rfl
    try simp only [Act.put, List.setIfInBounds_toArray, List.set_cons_zero, List.set_cons_succ]
    refine Ord.stepR (v := ?_) (by rfl) ?_ ?_
    rotate_left
    · intro w' hSw
      go_simp
      try with_reducible rfl
    try simp only [Act.put, List.setIfInBounds_toArray, List.set_cons_zero, List.set_cons_succ]
    refine Ord.stepR (v := ?_) (by rfl) ?_ ?_
    rotate_left
    · intro w' hSw
      go_simp
      try with_reducible rfl
    try simp only [Act.put, List.setIfInBounds_toArray, List.set_cons_zero, List.set_cons_succ]
    refine Ord.stepR (v := ?_) (by rfl) ?_ ?_
    rotate_left
    · intro w' hSw
      have hck := HCK.out _ hSw.1
      have hcj := HCJ.out _ hSw.1
      obtain ⟨⟨_, q10, q11, q12, q13, q14⟩, _⟩ := hSw.2.1
      go_simp
      try with_reducible rfl
    try simp only [Act.put, List.setIfInBounds_toArray, List.set_cons_zero, List.set_cons_succ]
    refine Ord.stepR (v := ?_) (by rfl) ?_ ?_
    rotate_left
    · intro w' hSw
      go_simp
      try with_reducible rfl
    try simp only [Act.put, List.setIfInBounds_toArray, List.set_cons_zero, List.set_cons_succ]
    refine Ord.stepR (v := ?_) (by rfl) ?_ ?_
    rotate_left
    · intro w' hSw
      go_simp
      try with_reducible rfl
    try simp only [Act.put, List.setIfInBounds_toArray, List.set_cons_zero, List.set_cons_succ]
    refine Ord.stepR (v := ?_) (by rfl) ?_ ?_
    rotate_left
    · intro w' hSw
      go_simp
      try with_reducible rfl
    try simp only [Act.put, List.setIfInBounds_toArray, List.set_cons_zero, List.set_cons_succ]
    refine Ord.stepR (v := ?_) (by rfl) ?_ ?_
    rotate_left
    · intro w' hSw
      have hck := HCK.out _ hSw.1
      have hcj := HCJ.out _ hSw.1
      obtain ⟨⟨_, q10, q11, q12, q13, q14⟩, _⟩ := hSw.2.1
      go_simp
      try with_reducible rfl
    try simp only [Act.put, List.setIfInBounds_toArray, List.set_cons_zero, List.set_cons_succ]
    refine Ord.stepR (v := ?_) (by rfl) ?_ ?_
    rotate_left
    · intro w' hSw
      go_simp
      try with_reducible rfl
    try simp only [Act.put, List.setIfInBounds_toArray, List.set_cons_zero, List.set_cons_succ]
    refine Ord.stepR (v := ?_) (by rfl) ?_ ?_
    rotate_left
    · intro w' hSw
      go_simp
      try with_reducible rfl
    try simp only [Act.put, List.setIfInBounds_toArray, List.set_cons_zero, List.set_cons_succ]
    refine Ord.stepS (by rfl) ?_
    try simp only [Act.put, List.setIfInBounds_toArray, List.set_cons_zero, List.set_cons_succ]
    refine Ord.stepS (by rfl) ?_
    try simp only [Act.put, List.setIfInBounds_toArray, List.set_cons_zero, List.set_cons_succ]
    refine Ord.stepS (by rfl) ?_
    try simp only [Act.put, List.setIfInBounds_toArray, List.set_cons_zero, List.set_cons_succ]
    refine Ord.stepS (by rfl) ?_
    try simp only [Act.put, List.setIfInBounds_toArray, List.set_cons_zero, List.set_cons_succ]
    refine Ord.stepS (by rfl) ?_
    try simp only [Act.put, List.setIfInBounds_toArray, List.set_cons_zero, List.set_cons_succ]
    refine Ord.stepS (by rfl) ?_
    try simp only [Act.put, List.setIfInBounds_toArray, List.set_cons_zero, List.set_cons_succ]
    refine Ord.stepS (by rfl) ?_
    try simp only [Act.put, List.setIfInBounds_toArray, List.set_cons_zero, List.set_cons_succ]
    refine Ord.stepS (by rfl) ?_
    try simp only [Act.put, List.setIfInBounds_toArray, List.set_cons_zero, List.set_cons_succ]
    refine Ord.stepS (by rfl) ?_
    try simp only [Act.put, List.setIfInBounds_toArray, List.set_cons_zero, List.set_cons_succ]
    refine Ord.stepR (v := ?_) (by rfl) ?_ ?_
    rotate_left
    · intro w' hSw
      go_simp
      try with_reducible rfl
    try simp only [Act.put, List.setIfInBounds_toArray, List.set_cons_zero, List.set_cons_succ]
    refine Ord.stepR (v := ?_) (by rfl) ?_ ?_
    rotate_left
    · intro w' hSw
      go_simp
      try with_reducible rfl
    try simp only [Act.put, List.setIfInBounds_toArray, List.set_cons_zero, List.set_cons_succ]
    refine Ord.stepR (v := ?_) (by rfl) ?_ ?_
    rotate_left
    · intro w' hSw
      go_simp
      try with_reducible rfl
    try simp only [Act.put, List.setIfInBounds_toArray, List.set_cons_zero, List.set_cons_succ]
    refine Ord.stepR (v := ?_) (by rfl) ?_ ?_
    rotate_left
    · intro w' hSw
      have hck := HCK.out _ hSw.1
      have hcj := HCJ.out _ hSw.1
      obtain ⟨⟨_, q10, q11, q12, q13, q14⟩, _⟩ := hSw.2.1
      go_simp
      try with_reducible rfl
    try simp only [Act.put, List.setIfInBounds_toArray, List.set_cons_zero, List.set_cons_succ]
    refine Ord.stepR (v := ?_) (by rfl) ?_ ?_
    rotate_left
    · intro w' hSw
      go_simp
      try with_reducible rfl
    try simp only [Act.put, List.setIfInBounds_toArray, List.set_cons_zero, List.set_cons_succ]
    refine Ord.stepR (v := ?_) (by rfl) ?_ ?_
    rotate_left
    · intro w' hSw
      go_simp
      try with_reducible rfl
    try simp only [Act.put, List.setIfInBounds_toArray, List.set_cons_zero, List.set_cons_succ]
    refine Ord.stepR (v := ?_) (by rfl) ?_ ?_
    rotate_left
    · intro w' hSw
      go_simp
      try with_reducible rfl
    try simp only [Act.put, List.setIfInBounds_toArray, List.set_cons_zero, List.set_cons_succ]
    refine Ord.stepR (v := ?_) (by rfl) ?_ ?_
    rotate_left
    · intro w' hSw
      go_simp
      try with_reducible rfl
    try simp only [Act.put, List.setIfInBounds_toArray, List.set_cons_zero, List.set_cons_succ]
    refine Ord.stepR (v := ?_) (by rfl) ?_ ?_
    rotate_left
    · intro w' hSw
      go_simp
      try with_reducible rfl
    try simp only [Act.put, List.setIfInBounds_toArray, List.set_cons_zero, List.set_cons_succ]
    refine Ord.stepR (v := ?_) (by rfl) ?_ ?_
    rotate_left
    · intro w' hSw
      have hck := HCK.out _ hSw.1
      have hcj := HCJ.out _ hSw.1
      obtain ⟨⟨_, q10, q11, q12, q13, q14⟩, _⟩ := hSw.2.1
      go_simp
      try with_reducible rfl
    try simp only [Act.put, List.setIfInBounds_toArray, List.set_cons_zero, List.set_cons_succ]
    refine Ord.stepR (v := ?_) (by rfl) ?_ ?_
    rotate_left
    · intro w' hSw
      go_simp
      try with_reducible rfl
    try simp only [Act.put, List.setIfInBounds_toArray, List.set_cons_zero, List.set_cons_succ]
    refine Ord.stepC (v := .bool false) (by rfl) ?_ (fun w1 hS => (HV4.out AP cP YP HQP.out HCP.out HZP.out w1 hS.2.2.1).mono fun e w2 h => ⟨h.1, ⟨hS.1.below (h.2) (Nat.le_refl _), hS.2.1.below (h.2), hS.2.2.1.below (h.2) (Nat.le_refl _), hS.2.2.2.trans ((h.2).mono hS.2.2.2.size)⟩⟩) ?_
    · intro w' hSw
      go_simp
      try with_reducible rfl
    try simp only [Act.put, List.setIfInBounds_toArray, List.set_cons_zero, List.set_cons_succ]
    refine Ord.stepR (v := ?_) (by rfl) ?_ ?_
    rotate_left
    · intro w' hSw
      go_simp
      try with_reducible rfl
    try simp only [Act.put, List.setIfInBounds_toArray, List.set_cons_zero, List.set_cons_succ]
    refine Ord.stepR (v := ?_) (by rfl) ?_ ?_
    rotate_left
    · intro w' hSw
      go_simp
      try with_reducible rfl
    try simp only [Act.put, List.setIfInBounds_toArray, List.set_cons_zero, List.set_cons_succ]
    refine Ord.stepR (v := ?_) (by rfl) ?_ ?_
    rotate_left
    · intro w' hSw
      go_simp
      try with_reducible rfl
    try simp only [Act.put, List.setIfInBounds_toArray, List.set_cons_zero, List.set_cons_succ]
    refine Ord.stepR (v := ?_) (by rfl) ?_ ?_
    rotate_left
    · intro w' hSw
      go_simp
      try with_reducible rfl
    try simp only [Act.put, List.setIfInBounds_toArray, List.set_cons_zero, List.set_cons_succ]
    refine Ord.stepR (v := ?_) (by rfl) ?_ ?_
    rotate_left
    · intro w' hSw
      go_simp
      try with_reducible rfl
    try simp only [Act.put, List.setIfInBounds_toArray, List.set_cons_zero, List.set_cons_succ]
    refine Ord.stepR (v := ?_) (by rfl) ?_ ?_
    rotate_left
    · intro w' hSw
      go_simp
      try with_reducible rfl
    try simp only [Act.put, List.setIfInBounds_toArray, List.set_cons_zero, List.set_cons_succ]
    refine Ord.stepR (v := ?_) (by rfl) ?_ ?_
    rotate_left
    · intro w' hSw
      go_simp
      try with_reducible rfl
    try simp only [Act.put, List.setIfInBounds_toArray, List.set_cons_zero, List.set_cons_succ]
    refine Ord.stepR (v := ?_) (by rfl) ?_ ?_
    rotate_left
    · intro w' hSw
      go_simp
      try with_reducible rfl
    try simp only [Act.put, List.setIfInBounds_toArray, List.set_cons_zero, List.set_cons_succ]
    refine Ord.stepR (v := ?_) (by rfl) ?_ ?_
    rotate_left
    · intro w' hSw
      have hck := HCK.out _ hSw.1
      have hcj := HCJ.out _ hSw.1
      obtain ⟨⟨_, q10, q11, q12, q13, q14⟩, _⟩ := hSw.2.1
      go_simp
      try with_reducible rfl
    try simp only [Act.put, List.setIfInBounds_toArray, List.set_cons_zero, List.set_cons_succ]
    refine Ord.stepR (v := ?_) (by rfl) ?_ ?_
    rotate_left
    · intro w' hSw
      go_simp
      try with_reducible rfl
    try simp only [Act.put, List.setIfInBounds_toArray, List.set_cons_zero, List.set_cons_succ]
    refine Ord.stepC (v := .bool false) (by rfl) ?_ (fun w1 hS => (HV5.out AP cP YP HQP.out HCP.out HZP.out w1 hS.2.2.1).mono fun e w2 h => ⟨h.1, ⟨hS.1.below (h.2) (Nat.le_refl _), hS.2.1.below (h.2), hS.2.2.1.below (h.2) (Nat.le_refl _), hS.2.2.2.trans ((h.2).mono hS.2.2.2.size)⟩⟩) ?_
    · intro w' hSw
      go_simp
      try with_reducible rfl
    try simp only [Act.put, List.setIfInBounds_toArray, List.set_cons_zero, List.set_cons_succ]
    refine Ord.stepR (v := ?_) (by rfl) ?_ ?_
    rotate_left
    · intro w' hSw
      go_simp
      try with_reducible rfl
    try simp only [Act.put, List.setIfInBounds_toArray, List.set_cons_zero, List.set_cons_succ]
    refine Ord.stepR (v := ?_) (by rfl) ?_ ?_
    rotate_left
    · intro w' hSw
      go_simp
      try with_reducible rfl
    try simp only [Act.put, List.setIfInBounds_toArray, List.set_cons_zero, List.set_cons_succ]
    refine Ord.stepR (v := ?_) (by rfl) ?_ ?_
    rotate_left
    · intro w' hSw
      go_simp
      try with_reducible rfl
    try simp only [Act.put, List.setIfInBounds_toArray, List.set_cons_zero, List.set_cons_succ]
    refine Ord.stepD fun Z4 hZ => ?_
    replace HRX := Lib.hid hZ.1
    replace HXS := Lib.hid hZ.2.1
    replace HRP := Lib.hid hZ.2.2.1
    have HB8 := Lib.hid (Bel.call HB7.out hZ.2.2.2)
    clear hZ
    go_wp2
    go_ret
    exact ⟨rfl, HB8.out⟩
  · have hqj := ne_bool hne
    go_wp2_with fail
    have hdr : SReads w7.drew (some ⟨gX, oX, none⟩) YX ∧ C5 w4.heap.size w7.drew (.string ⟨#[97, 110, 110, 97]⟩) (.int .u64 5) (.int .i64 (YX.length : Int)) (.string R) (.string G) ∧ SReads w7.drew AP YP ∧ Below w7.heap.size w7 w7.drew := ⟨HRX.out.below (Below.drewN' (Below.refl w7.heap.size w7) 1) (Nat.le_refl _), HXS.out.below (Below.drewN' (Below.refl w7.heap.size w7) 1), HRP.out.below (Below.drewN' (Below.refl w7.heap.size w7) 1) (Nat.le_refl _), (Below.drewN' (Below.refl w7.heap.size w7) 1)⟩
    refine Ord.region_lit (S := fun w' => SReads w' (some ⟨gX, oX, none⟩) YX ∧ C5 w4.heap.size w' (.string ⟨#[97, 110, 110, 97]⟩) (.int .u64 5) (.int .i64 (YX.length : Int)) (.string R) (.string G) ∧ SReads w' AP YP ∧ Below w7.heap.size w7 w') (by kernel_rfl) (by kernel_rfl) hdr ?_
    clear hdr
    refine Ord.stepR (v := ?_) (by rfl) ?_ ?_
    rotate_left
    · intro w' hSw
      go_simp
      try with_reducible rfl
    try simp only [Act.put, List.setIfInBounds_toArray, List.set_cons_zero, List.set_cons_succ]
    refine Ord.stepR (v := ?_) (by rfl) ?_ ?_
    rotate_left
    · intro w' hSw
      go_simp
      try with_reducible rfl
    try simp only [Act.put, List.setIfInBounds_toArray, List.set_cons_zero, List.set_cons_succ]
    refine Ord.stepR (v := ?_) (by rfl) ?_ ?_
    rotate_left
    · intro w' hSw
      go_simp
      try with_reducible rfl
    try simp only [Act.put, List.setIfInBounds_toArray, List.set_cons_zero, List.set_cons_succ]
    refine Ord.stepR (v := ?_) (by rfl) ?_ ?_
    rotate_left
    · intro w' hSw
      have hck := HCK.out _ hSw.1
      have hcj := HCJ.out _ hSw.1
      obtain ⟨⟨_, q10, q11, q12, q13, q14⟩, _⟩ := hSw.2.1
      go_simp
      try with_reducible rfl
    try simp only [Act.put, List.setIfInBounds_toArray, List.set_cons_zero, List.set_cons_succ]
    refine Ord.stepR (v := ?_) (by rfl) ?_ ?_
    rotate_left
    · intro w' hSw
      go_simp
      try with_reducible rfl
    try simp only [Act.put, List.setIfInBounds_toArray, List.set_cons_zero, List.set_cons_succ]
    refine Ord.stepR (v := ?_) (by rfl) ?_ ?_
    rotate_left
    · intro w' hSw
      go_simp
      try with_reducible rfl
    try simp only [Act.put, List.setIfInBounds_toArray, List.set_cons_zero, List.set_cons_succ]
    refine Ord.stepR (v := ?_) (by rfl) ?_ ?_
    rotate_left
    · intro w' hSw
      go_simp
      try with_reducible rfl
    try simp only [Act.put, List.setIfInBounds_toArray, List.set_cons_zero, List.set_cons_succ]
    refine Ord.stepR (v := ?_) (by rfl) ?_ ?_
    rotate_left
    · intro w' hSw
      go_simp
      try with_reducible rfl
    try simp only [Act.put, List.setIfInBounds_toArray, List.set_cons_zero, List.set_cons_succ]
    refine Ord.stepR (v := ?_) (by rfl) ?_ ?_
    rotate_left
    · intro w' hSw
      have hck := HCK.out _ hSw.1
      have hcj := HCJ.out _ hSw.1
      obtain ⟨⟨_, q10, q11, q12, q13, q14⟩, _⟩ := hSw.2.1
      go_simp
      try with_reducible rfl
    try simp only [Act.put, List.setIfInBounds_toArray, List.set_cons_zero, List.set_cons_succ]
    refine Ord.stepR (v := ?_) (by rfl) ?_ ?_
    rotate_left
    · intro w' hSw
      go_simp
      try with_reducible rfl
    try simp only [Act.put, List.setIfInBounds_toArray, List.set_cons_zero, List.set_cons_succ]
    refine Ord.stepC (v := .bool true) (by rfl) ?_ (fun w1 hS => (HV1.out AP cP YP HQP.out HCP.out HZP.out w1 hS.2.2.1).mono fun e w2 h => ⟨h.1, ⟨hS.1.below (h.2) (Nat.le_refl _), hS.2.1.below (h.2), hS.2.2.1.below (h.2) (Nat.le_refl _), hS.2.2.2.trans ((h.2).mono hS.2.2.2.size)⟩⟩) ?_
    · intro w' hSw
      go_simp
      try with_reducible rfl
    try simp only [Act.put, List.setIfInBounds_toArray, List.set_cons_zero, List.set_cons_succ]
    refine Ord.stepR (v := ?_) (by rfl) ?_ ?_
    rotate_left
    · intro w' hSw
      go_simp
      try with_reducible rfl
    try simp only [Act.put, List.setIfInBounds_toArray, List.set_cons_zero, List.set_cons_succ]
    refine Ord.stepR (v := ?_) (by rfl) ?_ ?_
    rotate_left
    · intro w' hSw
      go_simp
      try with_reducible rfl
    try simp only [Act.put, List.setIfInBounds_toArray, List.set_cons_zero, List.set_cons_succ]
    refine Ord.stepR (v := ?_) (by rfl) ?_ ?_
    rotate_left
    · intro w' hSw
      have hck := HCK.out _ hSw.1
      have hcj := HCJ.out _ hSw.1
      obtain ⟨⟨_, q10, q11, q12, q13, q14⟩, _⟩ := hSw.2.1
      go_simp
      try with_reducible rfl
    try simp only [Act.put, List.setIfInBounds_toArray, List.set_cons_zero, List.set_cons_succ]
    refine Ord.stepR (v := ?_) (by rfl) ?_ ?_
    rotate_left
    · intro w' hSw
      go_simp
      try with_reducible rfl
    try simp only [Act.put, List.setIfInBounds_toArray, List.set_cons_zero, List.set_cons_succ]
    refine Ord.stepR (v := ?_) (by rfl) ?_ ?_
    rotate_left
    · intro w' hSw
      go_simp
      try with_reducible rfl
    try simp only [Act.put, List.setIfInBounds_toArray, List.set_cons_zero, List.set_cons_succ]
    refine Ord.stepR (v := ?_) (by rfl) ?_ ?_
    rotate_left
    · intro w' hSw
      go_simp
      try with_reducible rfl
    try simp only [Act.put, List.setIfInBounds_toArray, List.set_cons_zero, List.set_cons_succ]
    refine Ord.stepC (v := .bool false) (by rfl) ?_ (fun w1 hS => (HV2.out AP cP YP HQP.out HCP.out HZP.out w1 hS.2.2.1).mono fun e w2 h => ⟨h.1, ⟨hS.1.below (h.2) (Nat.le_refl _), hS.2.1.below (h.2), hS.2.2.1.below (h.2) (Nat.le_refl _), hS.2.2.2.trans ((h.2).mono hS.2.2.2.size)⟩⟩) ?_
    · intro w' hSw
      go_simp
      try with_reducible rfl
    try simp only [Act.put, List.setIfInBounds_toArray, List.set_cons_zero, List.set_cons_succ]
    refine Ord.stepR (v := ?_) (by rfl) ?_ ?_
    rotate_left
    · intro w' hSw
      go_simp
      try with_reducible rfl
    try simp only [Act.put, List.setIfInBounds_toArray, List.set_cons_zero, List.set_cons_succ]
    refine Ord.stepR (v := ?_) (by rfl) ?_ ?_
    rotate_left
    · intro w' hSw
      go_simp
      try with_reducible rfl
    try simp only [Act.put, List.setIfInBounds_toArray, List.set_cons_zero, List.set_cons_succ]
    refine Ord.stepR (v := ?_) (by rfl) ?_ ?_
    rotate_left
    · intro w' hSw
      go_simp
      try with_reducible rfl
    try simp only [Act.put, List.setIfInBounds_toArray, List.set_cons_zero, List.set_cons_succ]
    refine Ord.stepR (v := ?_) (by rfl) ?_ ?_
    rotate_left
    · intro w' hSw
      go_simp
      try with_reducible rfl
    try simp only [Act.put, List.setIfInBounds_toArray, List.set_cons_zero, List.set_cons_succ]
    refine Ord.stepR (v := ?_) (by rfl) ?_ ?_
    rotate_left
    · intro w' hSw
      go_simp
      try with_reducible rfl
    try simp only [Act.put, List.setIfInBounds_toArray, List.set_cons_zero, List.set_cons_succ]
    refine Ord.stepR (v := ?_) (by rfl) ?_ ?_
    rotate_left
    · intro w' hSw
      go_simp
      try with_reducible rfl
    try simp only [Act.put, List.setIfInBounds_toArray, List.set_cons_zero, List.set_cons_succ]
    refine Ord.stepR (v := ?_) (by rfl) ?_ ?_
    rotate_left
    · intro w' hSw
      have hck := HCK.out _ hSw.1
      have hcj := HCJ.out _ hSw.1
      obtain ⟨⟨_, q10, q11, q12, q13, q14⟩, _⟩ := hSw.2.1
      go_simp
      try with_reducible rfl
    try simp only [Act.put, List.setIfInBounds_toArray, List.set_cons_zero, List.set_cons_succ]
    refine Ord.stepR (v := ?_) (by rfl) ?_ ?_
    rotate_left
    · intro w' hSw
      go_simp
      try with_reducible rfl
    try simp only [Act.put, List.setIfInBounds_toArray, List.set_cons_zero, List.set_cons_succ]
    refine Ord.stepR (v := ?_) (by rfl) ?_ ?_
    rotate_left
    · intro w' hSw
      go_simp
      try with_reducible rfl
    try simp only [Act.put, List.setIfInBounds_toArray, List.set_cons_zero, List.set_cons_succ]
    refine Ord.stepR (v := ?_) (by rfl) ?_ ?_
    rotate_left
    · intro w' hSw
      go_simp
      try with_reducible rfl
    try simp only [Act.put, List.setIfInBounds_toArray, List.set_cons_zero, List.set_cons_succ]
    refine Ord.stepR (v := ?_) (by rfl) ?_ ?_
    rotate_left
    · intro w' hSw
      have hck := HCK.out _ hSw.1
      have hcj := HCJ.out _ hSw.1
      obtain ⟨⟨_, q10, q11, q12, q13, q14⟩, _⟩ := hSw.2.1
      go_simp
      try with_reducible rfl
    try simp only [Act.put, List.setIfInBounds_toArray, List.set_cons_zero, List.set_cons_succ]
    refine Ord.stepR (v := ?_) (by rfl) ?_ ?_
    rotate_left
    · intro w' hSw
      go_simp
      try with_reducible rfl
    try simp only [Act.put, List.setIfInBounds_toArray, List.set_cons_zero, List.set_cons_succ]
    refine Ord.stepR (v := ?_) (by rfl) ?_ ?_
    rotate_left
    · intro w' hSw
      go_simp
      try with_reducible rfl
    try simp only [Act.put, List.setIfInBounds_toArray, List.set_cons_zero, List.set_cons_succ]
    refine Ord.stepR (v := ?_) (by rfl) ?_ ?_
    rotate_left
    · intro w' hSw
      have hck := HCK.out _ hSw.1
      have hcj := HCJ.out _ hSw.1
      obtain ⟨⟨_, q10, q11, q12, q13, q14⟩, _⟩ := hSw.2.1
      go_simp
      try with_reducible rfl
    try simp only [Act.put, List.setIfInBounds_toArray, List.set_cons_zero, List.set_cons_succ]
    refine Ord.stepR (v := ?_) (by rfl) ?_ ?_
    rotate_left
    · intro w' hSw
      go_simp
      try with_reducible rfl
    try simp only [Act.put, List.setIfInBounds_toArray, List.set_cons_zero, List.set_cons_succ]
    refine Ord.stepR (v := ?_) (by rfl) ?_ ?_
    rotate_left
    · intro w' hSw
      go_simp
      try with_reducible rfl
    try simp only [Act.put, List.setIfInBounds_toArray, List.set_cons_zero, List.set_cons_succ]
    refine Ord.stepR (v := ?_) (by rfl) ?_ ?_
    rotate_left
    · intro w' hSw
      go_simp
      try with_reducible rfl
    try simp only [Act.put, List.setIfInBounds_toArray, List.set_cons_zero, List.set_cons_succ]
    refine Ord.stepR (v := ?_) (by rfl) ?_ ?_
    rotate_left
    · intro w' hSw
      go_simp
      try with_reducible rfl
    try simp only [Act.put, List.setIfInBounds_toArray, List.set_cons_zero, List.set_cons_succ]
    refine Ord.stepR (v := ?_) (by rfl) ?_ ?_
    rotate_left
    · intro w' hSw
      have hck := HCK.out _ hSw.1
      have hcj := HCJ.out _ hSw.1
      obtain ⟨⟨_, q10, q11, q12, q13, q14⟩, _⟩ := hSw.2.1
      go_simp
      try with_reducible rfl
    try simp only [Act.put, List.setIfInBounds_toArray, List.set_cons_zero, List.set_cons_succ]
    refine Ord.stepR (v := ?_) (by rfl) ?_ ?_
    rotate_left
    · intro w' hSw
      go_simp
      try with_reducible rfl
    try simp only [Act.put, List.setIfInBounds_toArray, List.set_cons_zero, List.set_cons_succ]
    refine Ord.stepC (v := .bool false) (by rfl) ?_ (fun w1 hS => ((HV3.out hne) AP cP YP HQP.out HCP.out HZP.out w1 hS.2.2.1).mono fun e w2 h => ⟨h.1, ⟨hS.1.below (h.2) (Nat.le_refl _), hS.2.1.below (h.2), hS.2.2.1.below (h.2) (Nat.le_refl _), hS.2.2.2.trans ((h.2).mono hS.2.2.2.size)⟩⟩) ?_
    · intro w' hSw
      go_simp
      try with_reducible rfl
    try simp only [Act.put, List.setIfInBounds_toArray, List.set_cons_zero, List.set_cons_succ]
    refine Ord.stepR (v := ?_) (by rfl) ?_ ?_
    rotate_left
    · intro w' hSw
      go_simp
      try with_reducible rfl
    try simp only [Act.put, List.setIfInBounds_toArray, List.set_cons_zero, List.set_cons_succ]
    refine Ord.stepR (v := ?_) (by rfl) ?_ ?_
    rotate_left
    · intro w' hSw
      go_simp
      try with_reducible rfl
    try simp only [Act.put, List.setIfInBounds_toArray, List.set_cons_zero, List.set_cons_succ]
    refine Ord.stepR (v := ?_) (by rfl) ?_ ?_
    rotate_left
    · intro w' hSw
      go_simp
      try with_reducible rfl
    try simp only [Act.put, List.setIfInBounds_toArray, List.set_cons_zero, List.set_cons_succ]
    refine Ord.stepR (v := ?_) (by rfl) ?_ ?_
    rotate_left
    · intro w' hSw
      go_simp
      try with_reducible rfl
    try simp only [Act.put, List.setIfInBounds_toArray, List.set_cons_zero, List.set_cons_succ]
    refine Ord.stepR (v := ?_) (by rfl) ?_ ?_
    rotate_left
    · intro w' hSw
      have hck := HCK.out _ hSw.1
      have hcj := HCJ.out _ hSw.1
      obtain ⟨⟨_, q10, q11, q12, q13, q14⟩, _⟩ := hSw.2.1
      go_simp
      try with_reducible rfl
    try simp only [Act.put, List.setIfInBounds_toArray, List.set_cons_zero, List.set_cons_succ]
    refine Ord.stepR (v := ?_) (by rfl) ?_ ?_
    rotate_left
    · intro w' hSw
      go_simp
      try with_reducible rfl
    try simp only [Act.put, List.setIfInBounds_toArray, List.set_cons_zero, List.set_cons_succ]
    refine Ord.stepR (v := ?_) (by rfl) ?_ ?_
    rotate_left
    · intro w' hSw
      go_simp
      try with_reducible rfl
    try simp only [Act.put, List.setIfInBounds_toArray, List.set_cons_zero, List.set_cons_succ]
    refine Ord.stepR (v := ?_) (by rfl) ?_ ?_
    rotate_left
    · intro w' hSw
      go_simp
      try with_reducible rfl
    try simp only [Act.put, List.setIfInBounds_toArray, List.set_cons_zero, List.set_cons_succ]
    refine Ord.stepR (v := ?_) (by rfl) ?_ ?_
    rotate_left
    · intro w' hSw
      go_simp
      try with_reducible rfl
    try simp only [Act.put, List.setIfInBounds_toArray, List.set_cons_zero, List.set_cons_succ]
    refine Ord.stepR (v := ?_) (by rfl) ?_ ?_
    rotate_left
    · intro w' hSw
      go_simp
      try with_reducible rfl
    try simp only [Act.put, List.setIfInBounds_toArray, List.set_cons_zero, List.set_cons_succ]
    refine Ord.stepR (v := ?_) (by rfl) ?_ ?_
    rotate_left
    · intro w' hSw
      have hck := HCK.out _ hSw.1
      have hcj := HCJ.out _ hSw.1
      obtain ⟨⟨_, q10, q11, q12, q13, q14⟩, _⟩ := hSw.2.1
      go_simp
      try with_reducible rfl
    try simp only [Act.put, List.setIfInBounds_toArray, List.set_cons_zero, List.set_cons_succ]
    refine Ord.stepR (v := ?_) (by rfl) ?_ ?_
    rotate_left
    · intro w' hSw
      go_simp
      try with_reducible rfl
    try simp only [Act.put, List.setIfInBounds_toArray, List.set_cons_zero, List.set_cons_succ]
    refine Ord.stepC (v := .bool false) (by rfl) ?_ (fun w1 hS => (HV4.out AP cP YP HQP.out HCP.out HZP.out w1 hS.2.2.1).mono fun e w2 h => ⟨h.1, ⟨hS.1.below (h.2) (Nat.le_refl _), hS.2.1.below (h.2), hS.2.2.1.below (h.2) (Nat.le_refl _), hS.2.2.2.trans ((h.2).mono hS.2.2.2.size)⟩⟩) ?_
    · intro w' hSw
      go_simp
      try with_reducible rfl
    try simp only [Act.put, List.setIfInBounds_toArray, List.set_cons_zero, List.set_cons_succ]
    refine Ord.stepR (v := ?_) (by rfl) ?_ ?_
    rotate_left
    · intro w' hSw
      go_simp
      try with_reducible rfl
    try simp only [Act.put, List.setIfInBounds_toArray, List.set_cons_zero, List.set_cons_succ]
    refine Ord.stepR (v := ?_) (by rfl) ?_ ?_
    rotate_left
    · intro w' hSw
      go_simp
      try with_reducible rfl
    try simp only [Act.put, List.setIfInBounds_toArray, List.set_cons_zero, List.set_cons_succ]
    refine Ord.stepR (v := ?_) (by rfl) ?_ ?_
    rotate_left
    · intro w' hSw
      go_simp
      try with_reducible rfl
    try simp only [Act.put, List.setIfInBounds_toArray, List.set_cons_zero, List.set_cons_succ]
    refine Ord.stepR (v := ?_) (by rfl) ?_ ?_
    rotate_left
    · intro w' hSw
      go_simp
      try with_reducible rfl
    try simp only [Act.put, List.setIfInBounds_toArray, List.set_cons_zero, List.set_cons_succ]
    refine Ord.stepR (v := ?_) (by rfl) ?_ ?_
    rotate_left
    · intro w' hSw
      go_simp
      try with_reducible rfl
    try simp only [Act.put, List.setIfInBounds_toArray, List.set_cons_zero, List.set_cons_succ]
    refine Ord.stepR (v := ?_) (by rfl) ?_ ?_
    rotate_left
    · intro w' hSw
      go_simp
      try with_reducible rfl
    try simp only [Act.put, List.setIfInBounds_toArray, List.set_cons_zero, List.set_cons_succ]
    refine Ord.stepR (v := ?_) (by rfl) ?_ ?_
    rotate_left
    · intro w' hSw
      go_simp
      try with_reducible rfl
    try simp only [Act.put, List.setIfInBounds_toArray, List.set_cons_zero, List.set_cons_succ]
    refine Ord.stepR (v := ?_) (by rfl) ?_ ?_
    rotate_left
    · intro w' hSw
      go_simp
      try with_reducible rfl
    try simp only [Act.put, List.setIfInBounds_toArray, List.set_cons_zero, List.set_cons_succ]
    refine Ord.stepR (v := ?_) (by rfl) ?_ ?_
    rotate_left
    · intro w' hSw
      have hck := HCK.out _ hSw.1
      have hcj := HCJ.out _ hSw.1
      obtain ⟨⟨_, q10, q11, q12, q13, q14⟩, _⟩ := hSw.2.1
      go_simp
      try with_reducible rfl
    try simp only [Act.put, List.setIfInBounds_toArray, List.set_cons_zero, List.set_cons_succ]
    refine Ord.stepR (v := ?_) (by rfl) ?_ ?_
    rotate_left
    · intro w' hSw
      go_simp
      try with_reducible rfl
    try simp only [Act.put, List.setIfInBounds_toArray, List.set_cons_zero, List.set_cons_succ]
    refine Ord.stepC (v := .bool false) (by rfl) ?_ (fun w1 hS => (HV5.out AP cP YP HQP.out HCP.out HZP.out w1 hS.2.2.1).mono fun e w2 h => ⟨h.1, ⟨hS.1.below (h.2) (Nat.le_refl _), hS.2.1.below (h.2), hS.2.2.1.below (h.2) (Nat.le_refl _), hS.2.2.2.trans ((h.2).mono hS.2.2.2.size)⟩⟩) ?_
    · intro w' hSw
      go_simp
      try with_reducible rfl
    try simp only [Act.put, List.setIfInBounds_toArray, List.set_cons_zero, List.set_cons_succ]
    refine Ord.stepR (v := ?_) (by rfl) ?_ ?_
    rotate_left
    · intro w' hSw
      go_simp
      try with_reducible rfl
    try simp only [Act.put, List.setIfInBounds_toArray, List.set_cons_zero, List.set_cons_succ]
    refine Ord.stepR (v := ?_) (by rfl) ?_ ?_
    rotate_left
    · intro w' hSw
      go_simp
      try with_reducible rfl
    try simp only [Act.put, List.setIfInBounds_toArray, List.set_cons_zero, List.set_cons_succ]
    refine Ord.stepR (v := ?_) (by rfl) ?_ ?_
    rotate_left
    · intro w' hSw
      go_simp
      try with_reducible rfl
    try simp only [Act.put, List.setIfInBounds_toArray, List.set_cons_zero, List.set_cons_succ]
    refine Ord.stepD fun Z4 hZ => ?_
    replace HRX := Lib.hid hZ.1
    replace HXS := Lib.hid hZ.2.1
    replace HRP := Lib.hid hZ.2.2.1
    have HB8 := Lib.hid (Bel.call HB7.out hZ.2.2.2)
    clear hZ
    go_wp2
    go_ret
    exact ⟨rfl, HB8.out⟩
end Go.Proofs.Ytmmeklemaofmjaa.Frs
