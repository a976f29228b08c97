/-
  THE LAW TreeProves, walked. By an AI agent; no person has read it.
-/
import Derived.Test.YtblgcpopcgnncaaELProvesP
import Derived.Test.YtblgcpopcgnncaaE3
namespace Go.Proofs.Ytblgcpopcgnncaa.Tre
open Go Go.RowKit Wire Term Draw Reg Clo

set_option linter.unusedSimpArgs false
set_option linter.unusedVariables false
set_option maxHeartbeats 8000000 in
set_option maxRecDepth 1000000 in
theorem proves_walk (A1 : Option Addr) (c1 : Nat) (z1 : List Int) (at0 other what : Int) (w : World) (hi1 : IReads w A1 z1) (hn1 : z1.length ≤ 9223372036854775807) (ht : -9223372036854775808 ≤ at0 ∧ at0 ≤ 9223372036854775807) (ho : -9223372036854775808 ≤ other ∧ other ≤ 9223372036854775807) (hw : -9223372036854775808 ≤ what ∧ what ≤ 9223372036854775807) :
    Calls Try.prog 4 #[.slice A1 z1.length c1, .int .i64 at0, .int .i64 other, .int .i64 what] w fun e w' => e = .returned (.bool true) ∧ Below w.heap.size w w' := by
  have HI1 := Lib.hid hi1
  have HSH := Lib.hid fun w => shown_any w
  have HRO1 : Hid (∀ w', IReads w' A1 z1 → Calls Try.prog 20 #[.slice A1 z1.length c1] w' fun e w'' => Ob w' w'' (rowL z1) e ∧ Below w'.heap.size w' w'') := Lib.hid fun w' h => row_any A1 c1 z1 w' h hn1
  have hs1 := rowL_small (zs := z1)
  have hd1 := rowL_non (zs := z1)
  have hl1 : (rowL z1).length ≤ 8 := by rw [rowL_len]; omega
  generalize rowL z1 = la at HRO1 hs1 hd1 hl1
  clear hi1 hn1
  go_enter Try.func4, Try.ntmps4
  go_wp2_with fail
  with_reducible refine (HSH.out _).mono ?_
  rintro e w1 ⟨rfl, hb1⟩
  have HB1 := Lib.hid hb1
  replace HI1 := Lib.hid (HI1.out.below hb1 (Nat.le_refl _))
  clear hb1
  dsimp only
  go_wp2_with fail
  with_reducible refine (HRO1.out _ HI1.out).mono ?_
  rintro e w2 ⟨hx, hb2⟩
  have HB2 := Lib.hid (Bel.call HB1.out hb2)
  replace HI1 := Lib.hid (HI1.out.below hb2 (Nat.le_refl _))
  clear hb2
  obtain ⟨AX, cX, YX, hq, hc, hr, hb, rfl⟩ := ob_row hx
  have HQX := Lib.hid hq
  have HCX := Lib.hid hc
  have HRX := Lib.hid hr
  clear hx hq hc hr hb
  dsimp only
  by_cases h1 : YX.length = 0
  · rw [h1]
    go_wp2
    go_ret
    exact ⟨rfl, HB2.out⟩
  · have q1 : ((YX.length : Int) == 0) = false := by rw [beq_eq_false_iff_ne]; omega
    obtain ⟨gX, oX, rfl, _, _⟩ := HRX.out 0 (by omega)
    have hx := bl_length HQX.out
    have zx := bl_sizes HQX.out hs1
    obtain ⟨xa, ra, _, _, _, _⟩ := small_root (l := la) (by omega) (by omega) hs1
    have hpi := pk_lt at0 (n := YX.length) (by omega)
    have hpj := pk_lt other (n := YX.length) (by omega)
    have hov := pk_lt other (n := 9) (by decide)
    have HPI : Hid (∀ w', Calls Try.prog 21 #[.int .i64 at0, .int .i64 (YX.length : Int)] w' fun e w'' => e = .returned (.int .i64 (pk at0 YX.length : Int)) ∧ w'' = w') := Lib.hid fun w' => pick_any at0 YX.length w' ht (by omega) (by omega)
    have HPJ : Hid (∀ w', Calls Try.prog 21 #[.int .i64 other, .int .i64 (YX.length : Int)] w' fun e w'' => e = .returned (.int .i64 (pk other YX.length : Int)) ∧ w'' = w') := Lib.hid fun w' => pick_any other YX.length w' ho (by omega) (by omega)
    have HP9 : Hid (∀ w', Calls Try.prog 21 #[.int .i64 other, .int .i64 9] w' fun e w'' => e = .returned (.int .i64 (pk other 9 : Int)) ∧ w'' = w') := Lib.hid fun w' => pick_any other 9 w' ho (by omega) (by omega)
    generalize hij : pk at0 YX.length = ij at hpi HPI
    generalize hjj : pk other YX.length = jj at hpj HPJ
    generalize hoo : pk other 9 = ov at hov HP9
    clear hij hjj hoo
    have HOT : Hid (∀ w', Calls Try.prog 11 #[.string ⟨#[111, 116, 104, 101, 114]⟩, .int .u64 (ov : Int)] w' fun e w'' => Sr (ot ov, 0) e ∧ Below w'.heap.size w' w'') := Lib.hid fun w' => by
      have := cleafT_any otB ov w' (by decide) (by omega)
      rw [leafT_is (by decide) (by omega)] at this
      exact this
    have hwo : IntKind.u64.wrap (ov : Int) = (ov : Int) := by rw [IntKind.wrap_u64]; omega
    have hp := row_proves (l := la) (x := xa) (k := ij) (by omega) (by omega) hs1 ra (by omega)
    rw [← hx] at hp
    obtain ⟨P, p1, p2, p3, p4, p5, p6, p7, p8, p9, p10⟩ := hp
    have hmem : ∀ {j}, j < YX.length → la.getD j [] ∈ la := fun {j} h => by
      have h2 : j < la.length := by omega
      rw [List.getD, List.getElem?_eq_getElem h2]; exact List.getElem_mem h2
    have HA : Hid (∀ w', SReads w' (some ⟨gX, oX, none⟩) YX → Calls Try.prog 13 #[.slice (some ⟨gX, oX, none⟩) YX.length cX] w' fun e w'' => Sr (xa, 0) e ∧ Below w'.heap.size w' w'') := Lib.hid fun w' h => root_any_to ra HQX.out HCX.out (fun y h => by have := zx y h; omega) w' h
    have HPF : Hid (∀ w', SReads w' (some ⟨gX, oX, none⟩) YX → Calls Try.prog 15 #[.slice (some ⟨gX, oX, none⟩) YX.length cX, .int .i64 (ij : Int)] w' fun e w'' => Pb w' w'' (P, 0) e ∧ Below w'.heap.size w' w'') := Lib.hid fun w' h => proof_any_to p1 HQX.out HCX.out (fun y h => by have := zx y h; omega) w' h
    have HV0 := Lib.hid p2
    have HVt := Lib.hid p3
    have HVp := Lib.hid p4
    have HVh := Lib.hid p5
    have HPZ := Lib.hid p8
    have HXR := Lib.hid p9
    have HXL := Lib.hid p10
    have HXN : Hid (ot ov ≠ la.getD ij []) := Lib.hid (hd1 _ (hmem hpi) ov hov)
    have HQ7 := Lib.hid p7
    obtain ⟨K, hK⟩ : ∃ K, YX.getD ij ByteArray.empty = K := ⟨_, rfl⟩
    obtain ⟨J, hJ⟩ : ∃ J, YX.getD jj ByteArray.empty = J := ⟨_, rfl⟩
    have HK : Hid (K.data.toList = la.getD ij []) := Lib.hid (by rw [← hK, getD_bl, HQX.out])
    have HJ : Hid (J.data.toList = la.getD jj []) := Lib.hid (by rw [← hJ, getD_bl, HQX.out])
    have HZK1 : Hid (K.size ≤ 121) := Lib.hid (by rw [Lib.size_eq, HK.out]; exact (hs1 _ (hmem hpi)).1.2)
    have HZK : Hid (K.size ≤ 140737488355328) := Lib.hid (Nat.le_trans HZK1.out (by decide))
    have HZJ : Hid (J.size ≤ 140737488355328) := Lib.hid (by rw [Lib.size_eq, HJ.out]; exact Nat.le_trans (hs1 _ (hmem hpj)).1.2 (by decide))
    have HCK : Hid (∀ w', SReads w' (some ⟨gX, oX, none⟩) YX → w'.cell? ⟨gX, oX + ij, none⟩ = some (.string K)) := Lib.hid fun w' h => by rw [← hK]; exact cell_at h hpi
    have HCJ : Hid (∀ w', SReads w' (some ⟨gX, oX, none⟩) YX → w'.cell? ⟨gX, oX + jj, none⟩ = some (.string J)) := Lib.hid fun w' h => by rw [← hJ]; exact cell_at h hpj
    have hi0 : (0 : Int) ≤ (ij : Int) := Int.natCast_nonneg ij
    have hi1 : (ij : Int) < (YX.length : Int) := by omega
    have hj0 : (0 : Int) ≤ (jj : Int) := Int.natCast_nonneg jj
    have hj1 : (jj : Int) < (YX.length : Int) := by omega
    have HS := Lib.hid hs1
    have HP3 := Lib.hid p6
    clear p1 p2 p3 p4 p5 p6 p7 p8 p9 p10 hs1 hd1 hK hJ
    have HL := Lib.hid hx
    clear hx hmem zx ra hl1
    clear HI1
    go_wp2_with fail
    with_reducible refine (HPI.out _).mono ?_
    rintro e v1 ⟨rfl, hv1⟩
    obtain rfl : w2 = v1 := hv1.symm
    dsimp only
    go_wp2_with fail
    with_reducible refine (HA.out _ HRX.out).mono ?_
    rintro e w3 ⟨⟨TA, hTA, rfl⟩, hb3⟩
    have HB3 := Lib.hid (Bel.call HB2.out hb3)
    replace HRX := Lib.hid (HRX.out.below hb3 (Nat.le_refl _))
    clear hb3
    try dsimp only at hTA
    have HTA := Lib.hid hTA
    clear hTA
    dsimp only
    have HZA : Hid (TA.size ≤ 140737488355328) := Lib.hid (by rw [Lib.size_eq, HTA.out]; have := HXL.out; omega)
    go_wp2_with fail
    with_reducible refine (HPF.out _ HRX.out).mono ?_
    rintro e w4 ⟨hx, hb4⟩
    have HB4 := Lib.hid (Bel.call HB3.out hb4)
    replace HRX := Lib.hid (HRX.out.below hb4 (Nat.le_refl _))
    clear hb4
    obtain ⟨AP, cP, YP, hq, hc, hr, hb, rfl⟩ := pb_row hx
    have HQP := Lib.hid hq
    have HCP := Lib.hid hc
    have HRP := Lib.hid hr
    have HNP := Lib.hid (own_none hb)
    have HPL := Lib.hid (bl_length hq)
    have HZP : Hid (∀ y ∈ YP, y.size ≤ 140737488355328) := Lib.hid fun y h => by
      have := HPZ.out _ (by rw [← hq]; exact List.mem_map.2 ⟨y, h, rfl⟩)
      rw [Lib.size_eq]; omega
    clear hx hq hc hr hb
    dsimp only
    have ck1 := HCK.out _ HRX.out
    go_wp2_with fail
    with_reducible refine (ver_to (HV0.out) (HTA.out) (HK.out) HQP.out HCP.out HZP.out (HZA.out) (HZK.out) _ HRP.out).mono ?_
    rintro e w5 ⟨rfl, hb5⟩
    have HB5 := Lib.hid (Bel.call HB4.out hb5)
    replace HRX := Lib.hid (HRX.out.below hb5 (Nat.le_refl _))
    replace HRP := Lib.hid (HRP.out.below hb5 (Nat.le_refl _))
    clear hb5
    clear ck1
    dsimp only
    have HP3' := HP3
    replace HP3 : Hid (YP.length ≤ 3) := Lib.hid (by have := HP3'.out; have := HPL.out; omega)
    clear HP3'
    have hp3 : ¬ (3 : Int) < (YP.length : Int) := by have := HP3.out; omega
    have HTA4 : Hid (TA.size ≤ 4000) := Lib.hid (by rw [Lib.size_eq, HTA.out]; exact HXL.out)
    by_cases hn : YX.length = 1
    · obtain rfl : ij = 0 := by omega
      obtain rfl : jj = 0 := by omega
      have HNE := Lib.hid hn
      have q2 : ¬ (1 : Int) < (YX.length : Int) := by omega
      have HJK : Hid (la.getD 0 [] = la.getD 0 []) := Lib.hid rfl
      have q3 : ((YX.length : Int) == 1) = true := by rw [beq_iff_eq]; omega
      clear hn
      replace HCK : Hid (∀ w', SReads w' (some ⟨gX, oX, none⟩) YX → w'.cell? ⟨gX, oX, none⟩ = some (.string K)) := HCK
      replace HCJ : Hid (∀ w', SReads w' (some ⟨gX, oX, none⟩) YX → w'.cell? ⟨gX, oX, none⟩ = some (.string J)) := HCJ
      have HN2 : Hid (∀ (A : Option Addr) w', SReads w' A [TA] → Calls Try.prog 18 #[.string TA, .int .i64 2, .int .i64 0, .string K, .slice A 1 1] w' fun e w'' => e = .returned (.bool false) ∧ Below w'.heap.size w' w'') := Lib.hid fun A w' h => by
        have := ver_to (ver_twice (t := la.getD 0 []) HXR.out) HTA.out HK.out (ys := [TA]) (A := A) (c := 1) (by simp [bl, HTA.out]) ⟨Nat.le_refl _, by omega⟩ (fun y hy => by rw [List.mem_singleton.1 hy]; exact HZA.out) HZA.out HZK.out w' h
        exact this
      have HN1 : Hid (∀ (A : Option Addr) w', SReads w' A [TA] → Calls Try.prog 18 #[.string TA, .int .i64 1, .int .i64 0, .string K, .slice A 1 1] w' fun e w'' => e = .returned (.bool false) ∧ Below w'.heap.size w' w'') := Lib.hid fun A w' h => by
        have := ver_to (ver_more (t := la.getD 0 []) HXR.out) HTA.out HK.out (ys := [TA]) (A := A) (c := 1) (by simp [bl, HTA.out]) ⟨Nat.le_refl _, by omega⟩ (fun y hy => by rw [List.mem_singleton.1 hy]; exact HZA.out) HZA.out HZK.out w' h
        exact this
      go_wp2_with fail
      with_reducible refine (HP9.out _).mono ?_
      rintro e v2 ⟨rfl, hv2⟩
      obtain rfl : w5 = v2 := hv2.symm
      dsimp only
      go_wp2_with fail
      with_reducible refine (HOT.out _).mono ?_
      rintro e w6 ⟨⟨X, hX, rfl⟩, hb6⟩
      have HB6 := Lib.hid (Bel.call HB5.out hb6)
      replace HRX := Lib.hid (HRX.out.below hb6 (Nat.le_refl _))
      replace HRP := Lib.hid (HRP.out.below hb6 (Nat.le_refl _))
      clear hb6
      try dsimp only at hX
      have HX := Lib.hid hX
      clear hX
      dsimp only
      have HZX : Hid (X.size ≤ 140737488355328) := Lib.hid (by rw [Lib.size_eq, HX.out]; have := (ot_sm hov).1.2; omega)
      go_wp2_with fail
      with_reducible refine (HPJ.out _).mono ?_
      rintro e v3 ⟨rfl, hv3⟩
      obtain rfl : w6 = v3 := hv3.symm
      dsimp only
      go_wp2_with fail
      have hqj : (J.toList == K.toList) = true := eq_bool (by rw [HJ.out, HK.out])
      have hdr : SReads w6.drew (some ⟨gX, oX, none⟩) YX ∧ SReads w6.drew AP YP ∧ Below w6.heap.size w6 w6.drew := by
        have h := Below.drewN' (Below.refl w6.heap.size w6) 1
        exact ⟨HRX.out.below h (Nat.le_refl _), HRP.out.below h (Nat.le_refl _), h⟩
      refine Ord.region_lit (S := fun w' => SReads w' (some ⟨gX, oX, none⟩) YX ∧ SReads w' AP YP ∧ Below w6.heap.size w6 w') (by kernel_rfl) (by kernel_rfl) hdr ?_
      clear hdr
      refine Ord.stepR (v := ?_) (by rfl) ?_ ?_
      rotate_left
      · intro w' hSw
        go_simp
        try with_reducible rfl
      try simp only [Act.put, List.setIfInBounds_toArray, List.set_cons_zero, List.set_cons_succ]
      refine Ord.stepR (v := ?_) (by rfl) ?_ ?_
      rotate_left
      · intro w' hSw
        go_simp
        try with_reducible rfl
      try simp only [Act.put, List.setIfInBounds_toArray, List.set_cons_zero, List.set_cons_succ]
      refine Ord.stepR (v := ?_) (by rfl) ?_ ?_
      rotate_left
      · intro w' hSw
        go_simp
        try with_reducible rfl
      try simp only [Act.put, List.setIfInBounds_toArray, List.set_cons_zero, List.set_cons_succ]
      refine Ord.stepR (v := ?_) (by rfl) ?_ ?_
      rotate_left
      · intro w' hSw
        go_simp
        try with_reducible rfl
      try simp only [Act.put, List.setIfInBounds_toArray, List.set_cons_zero, List.set_cons_succ]
      refine Ord.stepR (v := ?_) (by rfl) ?_ ?_
      rotate_left
      · intro w' hSw
        go_simp
        try with_reducible rfl
      try simp only [Act.put, List.setIfInBounds_toArray, List.set_cons_zero, List.set_cons_succ]
      refine Ord.stepC (v := .bool false) (by rfl) ?_ (fun w1 hS => (ver_to (HVt.out _ HXN.out) (HTA.out) (HX.out) HQP.out HCP.out HZP.out (HZA.out) (HZX.out) w1 hS.2.1).mono fun e w2 h => ⟨h.1, hS.1.below h.2 (Nat.le_refl _), hS.2.1.below h.2 (Nat.le_refl _), hS.2.2.trans (h.2.mono hS.2.2.size)⟩) ?_
      · intro w' hSw
        go_simp
        try with_reducible rfl
      try simp only [Act.put, List.setIfInBounds_toArray, List.set_cons_zero, List.set_cons_succ]
      refine Ord.stepR (v := ?_) (by rfl) ?_ ?_
      rotate_left
      · intro w' hSw
        go_simp
        try with_reducible rfl
      try simp only [Act.put, List.setIfInBounds_toArray, List.set_cons_zero, List.set_cons_succ]
      refine Ord.stepR (v := ?_) (by rfl) ?_ ?_
      rotate_left
      · intro w' hSw
        go_simp
        try with_reducible rfl
      try simp only [Act.put, List.setIfInBounds_toArray, List.set_cons_zero, List.set_cons_succ]
      refine Ord.stepR (v := ?_) (by rfl) ?_ ?_
      rotate_left
      · intro w' hSw
        go_simp
        try with_reducible rfl
      try simp only [Act.put, List.setIfInBounds_toArray, List.set_cons_zero, List.set_cons_succ]
      refine Ord.stepR (v := ?_) (by rfl) ?_ ?_
      rotate_left
      · intro w' hSw
        go_simp
        try with_reducible rfl
      try simp only [Act.put, List.setIfInBounds_toArray, List.set_cons_zero, List.set_cons_succ]
      refine Ord.stepR (v := ?_) (by rfl) ?_ ?_
      rotate_left
      · intro w' hSw
        have hck := HCK.out _ hSw.1
        have hcj := HCJ.out _ hSw.1
        go_simp
        try with_reducible rfl
      try simp only [Act.put, List.setIfInBounds_toArray, List.set_cons_zero, List.set_cons_succ]
      refine Ord.stepR (v := ?_) (by rfl) ?_ ?_
      rotate_left
      · intro w' hSw
        go_simp
        try with_reducible rfl
      try simp only [Act.put, List.setIfInBounds_toArray, List.set_cons_zero, List.set_cons_succ]
      refine Ord.stepR (v := ?_) (by rfl) ?_ ?_
      rotate_left
      · intro w' hSw
        go_simp
        try with_reducible rfl
      try simp only [Act.put, List.setIfInBounds_toArray, List.set_cons_zero, List.set_cons_succ]
      refine Ord.stepR (v := ?_) (by rfl) ?_ ?_
      rotate_left
      · intro w' hSw
        go_simp
        try with_reducible rfl
      try simp only [Act.put, List.setIfInBounds_toArray, List.set_cons_zero, List.set_cons_succ]
      refine Ord.stepR (v := ?_) (by rfl) ?_ ?_
      rotate_left
      · intro w' hSw
        have hck := HCK.out _ hSw.1
        have hcj := HCJ.out _ hSw.1
        go_simp
        try with_reducible rfl
      try simp only [Act.put, List.setIfInBounds_toArray, List.set_cons_zero, List.set_cons_succ]
      refine Ord.stepR (v := ?_) (by rfl) ?_ ?_
      rotate_left
      · intro w' hSw
        go_simp
        try with_reducible rfl
      try simp only [Act.put, List.setIfInBounds_toArray, List.set_cons_zero, List.set_cons_succ]
      refine Ord.stepR (v := ?_) (by rfl) ?_ ?_
      rotate_left
      · intro w' hSw
        go_simp
        try with_reducible rfl
      try simp only [Act.put, List.setIfInBounds_toArray, List.set_cons_zero, List.set_cons_succ]
      refine Ord.stepS (by rfl) ?_
      try simp only [Act.put, List.setIfInBounds_toArray, List.set_cons_zero, List.set_cons_succ]
      refine Ord.stepS (by rfl) ?_
      try simp only [Act.put, List.setIfInBounds_toArray, List.set_cons_zero, List.set_cons_succ]
      refine Ord.stepS (by rfl) ?_
      try simp only [Act.put, List.setIfInBounds_toArray, List.set_cons_zero, List.set_cons_succ]
      refine Ord.stepS (by rfl) ?_
      try simp only [Act.put, List.setIfInBounds_toArray, List.set_cons_zero, List.set_cons_succ]
      refine Ord.stepS (by rfl) ?_
      try simp only [Act.put, List.setIfInBounds_toArray, List.set_cons_zero, List.set_cons_succ]
      refine Ord.stepS (by rfl) ?_
      try simp only [Act.put, List.setIfInBounds_toArray, List.set_cons_zero, List.set_cons_succ]
      refine Ord.stepS (by rfl) ?_
      try simp only [Act.put, List.setIfInBounds_toArray, List.set_cons_zero, List.set_cons_succ]
      refine Ord.stepS (by rfl) ?_
      try simp only [Act.put, List.setIfInBounds_toArray, List.set_cons_zero, List.set_cons_succ]
      refine Ord.stepS (by rfl) ?_
      try simp only [Act.put, List.setIfInBounds_toArray, List.set_cons_zero, List.set_cons_succ]
      refine Ord.stepR (v := ?_) (by rfl) ?_ ?_
      rotate_left
      · intro w' hSw
        go_simp
        try with_reducible rfl
      try simp only [Act.put, List.setIfInBounds_toArray, List.set_cons_zero, List.set_cons_succ]
      refine Ord.stepR (v := ?_) (by rfl) ?_ ?_
      rotate_left
      · intro w' hSw
        go_simp
        try with_reducible rfl
      try simp only [Act.put, List.setIfInBounds_toArray, List.set_cons_zero, List.set_cons_succ]
      refine Ord.stepR (v := ?_) (by rfl) ?_ ?_
      rotate_left
      · intro w' hSw
        go_simp
        try with_reducible rfl
      try simp only [Act.put, List.setIfInBounds_toArray, List.set_cons_zero, List.set_cons_succ]
      refine Ord.stepR (v := ?_) (by rfl) ?_ ?_
      rotate_left
      · intro w' hSw
        go_simp
        try with_reducible rfl
      try simp only [Act.put, List.setIfInBounds_toArray, List.set_cons_zero, List.set_cons_succ]
      refine Ord.stepR (v := ?_) (by rfl) ?_ ?_
      rotate_left
      · intro w' hSw
        go_simp
        try with_reducible rfl
      try simp only [Act.put, List.setIfInBounds_toArray, List.set_cons_zero, List.set_cons_succ]
      refine Ord.stepR (v := ?_) (by rfl) ?_ ?_
      rotate_left
      · intro w' hSw
        go_simp
        try with_reducible rfl
      try simp only [Act.put, List.setIfInBounds_toArray, List.set_cons_zero, List.set_cons_succ]
      refine Ord.stepR (v := ?_) (by rfl) ?_ ?_
      rotate_left
      · intro w' hSw
        go_simp
        try with_reducible rfl
      try simp only [Act.put, List.setIfInBounds_toArray, List.set_cons_zero, List.set_cons_succ]
      refine Ord.stepR (v := ?_) (by rfl) ?_ ?_
      rotate_left
      · intro w' hSw
        go_simp
        try with_reducible rfl
      try simp only [Act.put, List.setIfInBounds_toArray, List.set_cons_zero, List.set_cons_succ]
      refine Ord.stepR (v := ?_) (by rfl) ?_ ?_
      rotate_left
      · intro w' hSw
        go_simp
        try with_reducible rfl
      try simp only [Act.put, List.setIfInBounds_toArray, List.set_cons_zero, List.set_cons_succ]
      refine Ord.stepR (v := ?_) (by rfl) ?_ ?_
      rotate_left
      · intro w' hSw
        have hck := HCK.out _ hSw.1
        have hcj := HCJ.out _ hSw.1
        go_simp
        try with_reducible rfl
      try simp only [Act.put, List.setIfInBounds_toArray, List.set_cons_zero, List.set_cons_succ]
      refine Ord.stepR (v := ?_) (by rfl) ?_ ?_
      rotate_left
      · intro w' hSw
        go_simp
        try with_reducible rfl
      try simp only [Act.put, List.setIfInBounds_toArray, List.set_cons_zero, List.set_cons_succ]
      refine Ord.stepC (v := .bool false) (by rfl) ?_ (fun w1 hS => (ver_to (ver_place (x := xa) (t := la.getD 0 []) (p := P) (n := (YX.length : Int)) (i := (YX.length : Int)) (by omega)) (HTA.out) (HK.out) HQP.out HCP.out HZP.out (HZA.out) (HZK.out) w1 hS.2.1).mono fun e w2 h => ⟨h.1, hS.1.below h.2 (Nat.le_refl _), hS.2.1.below h.2 (Nat.le_refl _), hS.2.2.trans (h.2.mono hS.2.2.size)⟩) ?_
      · intro w' hSw
        go_simp
        try with_reducible rfl
      try simp only [Act.put, List.setIfInBounds_toArray, List.set_cons_zero, List.set_cons_succ]
      refine Ord.stepR (v := ?_) (by rfl) ?_ ?_
      rotate_left
      · intro w' hSw
        go_simp
        try with_reducible rfl
      try simp only [Act.put, List.setIfInBounds_toArray, List.set_cons_zero, List.set_cons_succ]
      refine Ord.stepR (v := ?_) (by rfl) ?_ ?_
      rotate_left
      · intro w' hSw
        go_simp
        try with_reducible rfl
      try simp only [Act.put, List.setIfInBounds_toArray, List.set_cons_zero, List.set_cons_succ]
      refine Ord.stepR (v := ?_) (by rfl) ?_ ?_
      rotate_left
      · intro w' hSw
        go_simp
        try with_reducible rfl
      try simp only [Act.put, List.setIfInBounds_toArray, List.set_cons_zero, List.set_cons_succ]
      refine Ord.stepR (v := ?_) (by rfl) ?_ ?_
      rotate_left
      · intro w' hSw
        go_simp
        try with_reducible rfl
      try simp only [Act.put, List.setIfInBounds_toArray, List.set_cons_zero, List.set_cons_succ]
      refine Ord.stepR (v := ?_) (by rfl) ?_ ?_
      rotate_left
      · intro w' hSw
        go_simp
        try with_reducible rfl
      try simp only [Act.put, List.setIfInBounds_toArray, List.set_cons_zero, List.set_cons_succ]
      refine Ord.stepR (v := ?_) (by rfl) ?_ ?_
      rotate_left
      · intro w' hSw
        go_simp
        try with_reducible rfl
      try simp only [Act.put, List.setIfInBounds_toArray, List.set_cons_zero, List.set_cons_succ]
      refine Ord.stepR (v := ?_) (by rfl) ?_ ?_
      rotate_left
      · intro w' hSw
        go_simp
        try with_reducible rfl
      try simp only [Act.put, List.setIfInBounds_toArray, List.set_cons_zero, List.set_cons_succ]
      refine Ord.stepR (v := ?_) (by rfl) ?_ ?_
      rotate_left
      · intro w' hSw
        have hck := HCK.out _ hSw.1
        have hcj := HCJ.out _ hSw.1
        go_simp
        try with_reducible rfl
      try simp only [Act.put, List.setIfInBounds_toArray, List.set_cons_zero, List.set_cons_succ]
      refine Ord.stepR (v := ?_) (by rfl) ?_ ?_
      rotate_left
      · intro w' hSw
        go_simp
        try with_reducible rfl
      try simp only [Act.put, List.setIfInBounds_toArray, List.set_cons_zero, List.set_cons_succ]
      refine Ord.stepC (v := .bool false) (by rfl) ?_ (fun w1 hS => (ver_to (ver_place (x := xa) (t := la.getD 0 []) (p := P) (n := (YX.length : Int)) (i := -1) (by omega)) (HTA.out) (HK.out) HQP.out HCP.out HZP.out (HZA.out) (HZK.out) w1 hS.2.1).mono fun e w2 h => ⟨h.1, hS.1.below h.2 (Nat.le_refl _), hS.2.1.below h.2 (Nat.le_refl _), hS.2.2.trans (h.2.mono hS.2.2.size)⟩) ?_
      · intro w' hSw
        go_simp
        try with_reducible rfl
      try simp only [Act.put, List.setIfInBounds_toArray, List.set_cons_zero, List.set_cons_succ]
      refine Ord.stepR (v := ?_) (by rfl) ?_ ?_
      rotate_left
      · intro w' hSw
        go_simp
        try with_reducible rfl
      try simp only [Act.put, List.setIfInBounds_toArray, List.set_cons_zero, List.set_cons_succ]
      refine Ord.stepR (v := ?_) (by rfl) ?_ ?_
      rotate_left
      · intro w' hSw
        go_simp
        try with_reducible rfl
      try simp only [Act.put, List.setIfInBounds_toArray, List.set_cons_zero, List.set_cons_succ]
      have hcat : ¬ 9223372036854775807 < 1 + TA.size := by have := HTA4.out; omega
      have hcat2 : ¬ 9223372036854775807 < 1 + K.size := by have := HZK1.out; omega
      refine Ord.stepR (v := ?_) (by rfl) ?_ ?_
      rotate_left
      · intro w' hSw
        go_simp
        try with_reducible rfl
      try simp only [Act.put, List.setIfInBounds_toArray, List.set_cons_zero, List.set_cons_succ]
      refine Ord.stepR (v := ?_) (by rfl) ?_ ?_
      rotate_left
      · intro w' hSw
        go_simp
        try with_reducible rfl
      try simp only [Act.put, List.setIfInBounds_toArray, List.set_cons_zero, List.set_cons_succ]
      refine Ord.stepR (v := ?_) (by rfl) ?_ ?_
      rotate_left
      · intro w' hSw
        go_simp
        try with_reducible rfl
      try simp only [Act.put, List.setIfInBounds_toArray, List.set_cons_zero, List.set_cons_succ]
      refine Ord.stepR (v := ?_) (by rfl) ?_ ?_
      rotate_left
      · intro w' hSw
        go_simp
        try with_reducible rfl
      try simp only [Act.put, List.setIfInBounds_toArray, List.set_cons_zero, List.set_cons_succ]
      refine Ord.stepR (v := ?_) (by rfl) ?_ ?_
      rotate_left
      · intro w' hSw
        go_simp
        try with_reducible rfl
      try simp only [Act.put, List.setIfInBounds_toArray, List.set_cons_zero, List.set_cons_succ]
      refine Ord.stepR (v := ?_) (by rfl) ?_ ?_
      rotate_left
      · intro w' hSw
        go_simp
        try with_reducible rfl
      try simp only [Act.put, List.setIfInBounds_toArray, List.set_cons_zero, List.set_cons_succ]
      refine Ord.stepR (v := ?_) (by rfl) ?_ ?_
      rotate_left
      · intro w' hSw
        go_simp
        try with_reducible rfl
      try simp only [Act.put, List.setIfInBounds_toArray, List.set_cons_zero, List.set_cons_succ]
      refine Ord.stepR (v := ?_) (by rfl) ?_ ?_
      rotate_left
      · intro w' hSw
        have hck := HCK.out _ hSw.1
        have hcj := HCJ.out _ hSw.1
        go_simp
        try with_reducible rfl
      try simp only [Act.put, List.setIfInBounds_toArray, List.set_cons_zero, List.set_cons_succ]
      refine Ord.stepR (v := ?_) (by rfl) ?_ ?_
      rotate_left
      · intro w' hSw
        go_simp
        try with_reducible rfl
      try simp only [Act.put, List.setIfInBounds_toArray, List.set_cons_zero, List.set_cons_succ]
      refine Ord.stepC (v := .bool false) (by rfl) ?_ (fun w1 hS => (ver_to (HVh.out) ((show ((⟨#[104]⟩ : ByteArray) ++ TA).data.toList = 104 :: xa by rw [app_data, HTA.out]; rfl)) (HK.out) HQP.out HCP.out HZP.out (by rw [Lib.size_eq, app_data, List.length_append, ← Lib.size_eq, ← Lib.size_eq]; have : (⟨#[104]⟩ : ByteArray).size = 1 := rfl; have := HTA4.out; omega) (HZK.out) w1 hS.2.1).mono fun e w2 h => ⟨h.1, hS.1.below h.2 (Nat.le_refl _), hS.2.1.below h.2 (Nat.le_refl _), hS.2.2.trans (h.2.mono hS.2.2.size)⟩) ?_
      · intro w' hSw
        go_simp
        try with_reducible rfl
      try simp only [Act.put, List.setIfInBounds_toArray, List.set_cons_zero, List.set_cons_succ]
      refine Ord.stepR (v := ?_) (by rfl) ?_ ?_
      rotate_left
      · intro w' hSw
        go_simp
        try with_reducible rfl
      try simp only [Act.put, List.setIfInBounds_toArray, List.set_cons_zero, List.set_cons_succ]
      refine Ord.stepR (v := ?_) (by rfl) ?_ ?_
      rotate_left
      · intro w' hSw
        go_simp
        try with_reducible rfl
      try simp only [Act.put, List.setIfInBounds_toArray, List.set_cons_zero, List.set_cons_succ]
      refine Ord.stepR (v := ?_) (by rfl) ?_ ?_
      rotate_left
      · intro w' hSw
        go_simp
        try with_reducible rfl
      try simp only [Act.put, List.setIfInBounds_toArray, List.set_cons_zero, List.set_cons_succ]
      refine Ord.stepR (v := ?_) (by rfl) ?_ ?_
      rotate_left
      · intro w' hSw
        go_simp
        try with_reducible rfl
      try simp only [Act.put, List.setIfInBounds_toArray, List.set_cons_zero, List.set_cons_succ]
      refine Ord.stepR (v := ?_) (by rfl) ?_ ?_
      rotate_left
      · intro w' hSw
        go_simp
        try with_reducible rfl
      try simp only [Act.put, List.setIfInBounds_toArray, List.set_cons_zero, List.set_cons_succ]
      refine Ord.stepR (v := ?_) (by rfl) ?_ ?_
      rotate_left
      · intro w' hSw
        go_simp
        try with_reducible rfl
      try simp only [Act.put, List.setIfInBounds_toArray, List.set_cons_zero, List.set_cons_succ]
      refine Ord.stepR (v := ?_) (by rfl) ?_ ?_
      rotate_left
      · intro w' hSw
        go_simp
        try with_reducible rfl
      try simp only [Act.put, List.setIfInBounds_toArray, List.set_cons_zero, List.set_cons_succ]
      refine Ord.stepR (v := ?_) (by rfl) ?_ ?_
      rotate_left
      · intro w' hSw
        go_simp
        try with_reducible rfl
      try simp only [Act.put, List.setIfInBounds_toArray, List.set_cons_zero, List.set_cons_succ]
      refine Ord.stepR (v := ?_) (by rfl) ?_ ?_
      rotate_left
      · intro w' hSw
        have hck := HCK.out _ hSw.1
        have hcj := HCJ.out _ hSw.1
        go_simp
        try with_reducible rfl
      try simp only [Act.put, List.setIfInBounds_toArray, List.set_cons_zero, List.set_cons_succ]
      refine Ord.stepR (v := ?_) (by rfl) ?_ ?_
      rotate_left
      · intro w' hSw
        go_simp
        try with_reducible rfl
      try simp only [Act.put, List.setIfInBounds_toArray, List.set_cons_zero, List.set_cons_succ]
      refine Ord.stepR (v := ?_) (by rfl) ?_ ?_
      rotate_left
      · intro w' hSw
        go_simp
        try with_reducible rfl
      try simp only [Act.put, List.setIfInBounds_toArray, List.set_cons_zero, List.set_cons_succ]
      refine Ord.stepC (v := .bool false) (by rfl) ?_ (fun w1 hS => (ver_to (HVt.out (104 :: la.getD 0 []) (fun e => by have := congrArg List.length e; rw [List.length_cons] at this; omega)) (HTA.out) ((show ((⟨#[104]⟩ : ByteArray) ++ K).data.toList = 104 :: la.getD 0 [] by rw [app_data, HK.out]; rfl)) HQP.out HCP.out HZP.out (HZA.out) (by rw [Lib.size_eq, app_data, List.length_append, ← Lib.size_eq, ← Lib.size_eq]; have : (⟨#[104]⟩ : ByteArray).size = 1 := rfl; have := HZK1.out; omega) w1 hS.2.1).mono fun e w2 h => ⟨h.1, hS.1.below h.2 (Nat.le_refl _), hS.2.1.below h.2 (Nat.le_refl _), hS.2.2.trans (h.2.mono hS.2.2.size)⟩) ?_
      · intro w' hSw
        go_simp
        try with_reducible rfl
      try simp only [Act.put, List.setIfInBounds_toArray, List.set_cons_zero, List.set_cons_succ]
      refine Ord.stepR (v := ?_) (by rfl) ?_ ?_
      rotate_left
      · intro w' hSw
        go_simp
        try with_reducible rfl
      try simp only [Act.put, List.setIfInBounds_toArray, List.set_cons_zero, List.set_cons_succ]
      refine Ord.stepD fun Z hZ => ?_
      replace HRX := Lib.hid hZ.1
      replace HRP := Lib.hid hZ.2.1
      have HB7 := Lib.hid (Bel.call HB6.out hZ.2.2)
      clear hZ hcat hcat2
      have ck2 := HCK.out _ HRX.out
      go_wp2_with fail
      have hrow := one_reads Z TA Z.heap.size rfl
      have hbA : Below Z.heap.size Z (Z.alloc (.cells #[.string TA] 9)) := (Below.refl Z.heap.size Z).alloc (Nat.le_refl _) _
      generalize Z.alloc (.cells #[.string TA] 9) = wa0 at hrow hbA ⊢
      have HRW0 := Lib.hid hrow
      have HB8 := Lib.hid (Bel.call HB7.out hbA)
      replace HRX := Lib.hid (HRX.out.below hbA (Nat.le_refl _))
      replace HRP := Lib.hid (HRP.out.below hbA (Nat.le_refl _))
      clear hbA hrow ck2
      with_reducible refine (HN2.out _ _ HRW0.out).mono ?_
      rintro e w9 ⟨rfl, hb9⟩
      have HB9 := Lib.hid (Bel.call HB8.out hb9)
      replace HRX := Lib.hid (HRX.out.below hb9 (Nat.le_refl _))
      replace HRP := Lib.hid (HRP.out.below hb9 (Nat.le_refl _))
      clear hb9
      dsimp only
      clear HRW0
      have ck3 := HCK.out _ HRX.out
      go_wp2_with fail
      have hrow := one_reads w9 TA w9.heap.size rfl
      have hbA : Below w9.heap.size w9 (w9.alloc (.cells #[.string TA] 9)) := (Below.refl w9.heap.size w9).alloc (Nat.le_refl _) _
      generalize w9.alloc (.cells #[.string TA] 9) = wa1 at hrow hbA ⊢
      have HRW1 := Lib.hid hrow
      have HB10 := Lib.hid (Bel.call HB9.out hbA)
      replace HRX := Lib.hid (HRX.out.below hbA (Nat.le_refl _))
      replace HRP := Lib.hid (HRP.out.below hbA (Nat.le_refl _))
      clear hbA hrow ck3
      with_reducible refine (HN1.out _ _ HRW1.out).mono ?_
      rintro e w11 ⟨rfl, hb11⟩
      have HB11 := Lib.hid (Bel.call HB10.out hb11)
      replace HRX := Lib.hid (HRX.out.below hb11 (Nat.le_refl _))
      replace HRP := Lib.hid (HRP.out.below hb11 (Nat.le_refl _))
      clear hb11
      dsimp only
      clear HRW1
      go_wp2
      go_ret
      exact ⟨rfl, HB11.out⟩
    · have q2 : (1 : Int) < (YX.length : Int) := by omega
      have q3 : ((YX.length : Int) == 1) = false := by rw [beq_eq_false_iff_ne]; omega
      have HPQ : Hid (0 < YP.length) := Lib.hid (by
        have := HPL.out
        have h7 := HQ7.out
        cases P with
        | nil => exact absurd (h7.1 rfl) hn
        | cons a t => rw [List.length_cons] at this; omega)
      have q4 : ((YP.length : Int) == 0) = false := by rw [beq_eq_false_iff_ne]; have := HPQ.out; omega
      obtain ⟨gP, oP, rfl, _, _⟩ := HRP.out 0 HPQ.out
      have HM4 : Hid (∀ m, (P.getD m []).length ≤ 4000) := Lib.hid fun m => by
        rw [List.getD]
        cases h : P[m]? with
        | none => exact Nat.zero_le _
        | some y => exact HPZ.out y (List.mem_of_getElem? h)
      have HPM : Hid (∀ (Y : List ByteArray), 0 < Y.length → Y.length ≤ 9223372036854775807 → ∀ w', Calls Try.prog 21 #[.int .i64 what, .int .i64 (Y.length : Int)] w' fun e w'' => e = .returned (.int .i64 (pk what Y.length : Int)) ∧ w'' = w') := Lib.hid fun Y h hm w' => pick_any what Y.length w' hw h hm
      have HVT : Hid (∀ w', SReads w' (some ⟨gP, oP, none⟩) YP → Calls Try.prog 18 #[.string TA, .int .i64 (YX.length : Int), .int .i64 (ij : Int), .string K, .slice (if cP = 1 then some ⟨gP, oP, none⟩ else some ⟨gP, oP + 1, none⟩) (YP.length - 1) (cP - 1)] w' fun e w'' => e = .returned (.bool false) ∧ Below w'.heap.size w' w'') := Lib.hid fun w' h => by
        have hne : P ≠ [] := fun e => by have h1 := HPQ.out; have h2 := HPL.out; rw [e] at h2; rw [h2] at h1; exact absurd h1 (by decide)
        have hs : SReads w' (if cP = 1 then some ⟨gP, oP, none⟩ else some ⟨gP, oP + 1, none⟩) (YP.drop 1) := by
          split
          · intro j hj
            rw [List.length_drop] at hj
            have := HCP.out
            omega
          · exact sreads_drop h 1
        have := ver_to (HVp.out _ (tail_ne hne)) HTA.out HK.out (ys := YP.drop 1) (A := if cP = 1 then some ⟨gP, oP, none⟩ else some ⟨gP, oP + 1, none⟩) (c := cP - 1) (by rw [← bl_drop', HQP.out]) ⟨by rw [List.length_drop]; have := HCP.out; omega, by have := HCP.out; omega⟩ (fun y hy => HZP.out y (List.mem_of_mem_drop hy)) HZA.out HZK.out w' hs
        rw [List.length_drop] at this
        exact this
      have HVS : Hid (∀ (A : Option Addr) (c : Nat) w', (YP ++ [TA]).length ≤ c ∧ c ≤ 9223372036854775807 → SReads w' A (YP ++ [TA]) → Calls Try.prog 18 #[.string TA, .int .i64 (YX.length : Int), .int .i64 (ij : Int), .string K, .slice A (YP.length + 1) c] w' fun e w'' => e = .returned (.bool false) ∧ Below w'.heap.size w' w'') := Lib.hid fun A c w' hc h => by
        have := ver_to (HVp.out _ (snoc_ne (x := xa))) HTA.out HK.out (ys := YP ++ [TA]) (A := A) (c := c) (show bl (YP ++ [TA]) = P ++ [xa] by have h1 := HQP.out; have h2 := HTA.out; simp only [bl, List.map_append, List.map_cons, List.map_nil] at h1 ⊢; rw [h1, h2]) hc (sz_snoc HZP.out HZA.out) HZA.out HZK.out w' h
        rw [List.length_append, List.length_singleton] at this
        exact this
      by_cases hJK : la.getD jj [] = la.getD ij []
      · have HJK := Lib.hid hJK
        clear hJK
        go_wp2_with fail
        with_reducible refine (HP9.out _).mono ?_
        rintro e v2 ⟨rfl, hv2⟩
        obtain rfl : w5 = v2 := hv2.symm
        dsimp only
        go_wp2_with fail
        with_reducible refine (HOT.out _).mono ?_
        rintro e w6 ⟨⟨X, hX, rfl⟩, hb6⟩
        have HB6 := Lib.hid (Bel.call HB5.out hb6)
        replace HRX := Lib.hid (HRX.out.below hb6 (Nat.le_refl _))
        replace HRP := Lib.hid (HRP.out.below hb6 (Nat.le_refl _))
        clear hb6
        try dsimp only at hX
        have HX := Lib.hid hX
        clear hX
        dsimp only
        have HZX : Hid (X.size ≤ 140737488355328) := Lib.hid (by rw [Lib.size_eq, HX.out]; have := (ot_sm hov).1.2; omega)
        go_wp2_with fail
        with_reducible refine (HPJ.out _).mono ?_
        rintro e v3 ⟨rfl, hv3⟩
        obtain rfl : w6 = v3 := hv3.symm
        dsimp only
        go_wp2_with fail
        have hqj : (J.toList == K.toList) = true := eq_bool (by rw [HJ.out, HK.out]; exact HJK.out)
        have hdr : SReads w6.drew (some ⟨gX, oX, none⟩) YX ∧ SReads w6.drew (some ⟨gP, oP, none⟩) YP ∧ Below w6.heap.size w6 w6.drew := by
          have h := Below.drewN' (Below.refl w6.heap.size w6) 1
          exact ⟨HRX.out.below h (Nat.le_refl _), HRP.out.below h (Nat.le_refl _), h⟩
        refine Ord.region_lit (S := fun w' => SReads w' (some ⟨gX, oX, none⟩) YX ∧ SReads w' (some ⟨gP, oP, none⟩) YP ∧ Below w6.heap.size w6 w') (by kernel_rfl) (by kernel_rfl) hdr ?_
        clear hdr
        refine Ord.stepR (v := ?_) (by rfl) ?_ ?_
        rotate_left
        · intro w' hSw
          go_simp
          try with_reducible rfl
        try simp only [Act.put, List.setIfInBounds_toArray, List.set_cons_zero, List.set_cons_succ]
        refine Ord.stepR (v := ?_) (by rfl) ?_ ?_
        rotate_left
        · intro w' hSw
          go_simp
          try with_reducible rfl
        try simp only [Act.put, List.setIfInBounds_toArray, List.set_cons_zero, List.set_cons_succ]
        refine Ord.stepR (v := ?_) (by rfl) ?_ ?_
        rotate_left
        · intro w' hSw
          go_simp
          try with_reducible rfl
        try simp only [Act.put, List.setIfInBounds_toArray, List.set_cons_zero, List.set_cons_succ]
        refine Ord.stepR (v := ?_) (by rfl) ?_ ?_
        rotate_left
        · intro w' hSw
          go_simp
          try with_reducible rfl
        try simp only [Act.put, List.setIfInBounds_toArray, List.set_cons_zero, List.set_cons_succ]
        refine Ord.stepR (v := ?_) (by rfl) ?_ ?_
        rotate_left
        · intro w' hSw
          go_simp
          try with_reducible rfl
        try simp only [Act.put, List.setIfInBounds_toArray, List.set_cons_zero, List.set_cons_succ]
        refine Ord.stepC (v := .bool false) (by rfl) ?_ (fun w1 hS => (ver_to (HVt.out _ HXN.out) (HTA.out) (HX.out) HQP.out HCP.out HZP.out (HZA.out) (HZX.out) w1 hS.2.1).mono fun e w2 h => ⟨h.1, hS.1.below h.2 (Nat.le_refl _), hS.2.1.below h.2 (Nat.le_refl _), hS.2.2.trans (h.2.mono hS.2.2.size)⟩) ?_
        · intro w' hSw
          go_simp
          try with_reducible rfl
        try simp only [Act.put, List.setIfInBounds_toArray, List.set_cons_zero, List.set_cons_succ]
        refine Ord.stepR (v := ?_) (by rfl) ?_ ?_
        rotate_left
        · intro w' hSw
          go_simp
          try with_reducible rfl
        try simp only [Act.put, List.setIfInBounds_toArray, List.set_cons_zero, List.set_cons_succ]
        refine Ord.stepR (v := ?_) (by rfl) ?_ ?_
        rotate_left
        · intro w' hSw
          go_simp
          try with_reducible rfl
        try simp only [Act.put, List.setIfInBounds_toArray, List.set_cons_zero, List.set_cons_succ]
        refine Ord.stepR (v := ?_) (by rfl) ?_ ?_
        rotate_left
        · intro w' hSw
          go_simp
          try with_reducible rfl
        try simp only [Act.put, List.setIfInBounds_toArray, List.set_cons_zero, List.set_cons_succ]
        refine Ord.stepR (v := ?_) (by rfl) ?_ ?_
        rotate_left
        · intro w' hSw
          go_simp
          try with_reducible rfl
        try simp only [Act.put, List.setIfInBounds_toArray, List.set_cons_zero, List.set_cons_succ]
        refine Ord.stepR (v := ?_) (by rfl) ?_ ?_
        rotate_left
        · intro w' hSw
          have hck := HCK.out _ hSw.1
          have hcj := HCJ.out _ hSw.1
          go_simp
          try with_reducible rfl
        try simp only [Act.put, List.setIfInBounds_toArray, List.set_cons_zero, List.set_cons_succ]
        refine Ord.stepR (v := ?_) (by rfl) ?_ ?_
        rotate_left
        · intro w' hSw
          go_simp
          try with_reducible rfl
        try simp only [Act.put, List.setIfInBounds_toArray, List.set_cons_zero, List.set_cons_succ]
        refine Ord.stepR (v := ?_) (by rfl) ?_ ?_
        rotate_left
        · intro w' hSw
          go_simp
          try with_reducible rfl
        try simp only [Act.put, List.setIfInBounds_toArray, List.set_cons_zero, List.set_cons_succ]
        refine Ord.stepR (v := ?_) (by rfl) ?_ ?_
        rotate_left
        · intro w' hSw
          go_simp
          try with_reducible rfl
        try simp only [Act.put, List.setIfInBounds_toArray, List.set_cons_zero, List.set_cons_succ]
        refine Ord.stepR (v := ?_) (by rfl) ?_ ?_
        rotate_left
        · intro w' hSw
          have hck := HCK.out _ hSw.1
          have hcj := HCJ.out _ hSw.1
          go_simp
          try with_reducible rfl
        try simp only [Act.put, List.setIfInBounds_toArray, List.set_cons_zero, List.set_cons_succ]
        refine Ord.stepR (v := ?_) (by rfl) ?_ ?_
        rotate_left
        · intro w' hSw
          go_simp
          try with_reducible rfl
        try simp only [Act.put, List.setIfInBounds_toArray, List.set_cons_zero, List.set_cons_succ]
        refine Ord.stepR (v := ?_) (by rfl) ?_ ?_
        rotate_left
        · intro w' hSw
          go_simp
          try with_reducible rfl
        try simp only [Act.put, List.setIfInBounds_toArray, List.set_cons_zero, List.set_cons_succ]
        refine Ord.stepS (by rfl) ?_
        try simp only [Act.put, List.setIfInBounds_toArray, List.set_cons_zero, List.set_cons_succ]
        refine Ord.stepS (by rfl) ?_
        try simp only [Act.put, List.setIfInBounds_toArray, List.set_cons_zero, List.set_cons_succ]
        refine Ord.stepS (by rfl) ?_
        try simp only [Act.put, List.setIfInBounds_toArray, List.set_cons_zero, List.set_cons_succ]
        refine Ord.stepS (by rfl) ?_
        try simp only [Act.put, List.setIfInBounds_toArray, List.set_cons_zero, List.set_cons_succ]
        refine Ord.stepS (by rfl) ?_
        try simp only [Act.put, List.setIfInBounds_toArray, List.set_cons_zero, List.set_cons_succ]
        refine Ord.stepS (by rfl) ?_
        try simp only [Act.put, List.setIfInBounds_toArray, List.set_cons_zero, List.set_cons_succ]
        refine Ord.stepS (by rfl) ?_
        try simp only [Act.put, List.setIfInBounds_toArray, List.set_cons_zero, List.set_cons_succ]
        refine Ord.stepS (by rfl) ?_
        try simp only [Act.put, List.setIfInBounds_toArray, List.set_cons_zero, List.set_cons_succ]
        refine Ord.stepS (by rfl) ?_
        try simp only [Act.put, List.setIfInBounds_toArray, List.set_cons_zero, List.set_cons_succ]
        refine Ord.stepR (v := ?_) (by rfl) ?_ ?_
        rotate_left
        · intro w' hSw
          go_simp
          try with_reducible rfl
        try simp only [Act.put, List.setIfInBounds_toArray, List.set_cons_zero, List.set_cons_succ]
        refine Ord.stepR (v := ?_) (by rfl) ?_ ?_
        rotate_left
        · intro w' hSw
          go_simp
          try with_reducible rfl
        try simp only [Act.put, List.setIfInBounds_toArray, List.set_cons_zero, List.set_cons_succ]
        refine Ord.stepR (v := ?_) (by rfl) ?_ ?_
        rotate_left
        · intro w' hSw
          go_simp
          try with_reducible rfl
        try simp only [Act.put, List.setIfInBounds_toArray, List.set_cons_zero, List.set_cons_succ]
        refine Ord.stepR (v := ?_) (by rfl) ?_ ?_
        rotate_left
        · intro w' hSw
          go_simp
          try with_reducible rfl
        try simp only [Act.put, List.setIfInBounds_toArray, List.set_cons_zero, List.set_cons_succ]
        refine Ord.stepR (v := ?_) (by rfl) ?_ ?_
        rotate_left
        · intro w' hSw
          go_simp
          try with_reducible rfl
        try simp only [Act.put, List.setIfInBounds_toArray, List.set_cons_zero, List.set_cons_succ]
        refine Ord.stepR (v := ?_) (by rfl) ?_ ?_
        rotate_left
        · intro w' hSw
          go_simp
          try with_reducible rfl
        try simp only [Act.put, List.setIfInBounds_toArray, List.set_cons_zero, List.set_cons_succ]
        refine Ord.stepR (v := ?_) (by rfl) ?_ ?_
        rotate_left
        · intro w' hSw
          go_simp
          try with_reducible rfl
        try simp only [Act.put, List.setIfInBounds_toArray, List.set_cons_zero, List.set_cons_succ]
        refine Ord.stepR (v := ?_) (by rfl) ?_ ?_
        rotate_left
        · intro w' hSw
          go_simp
          try with_reducible rfl
        try simp only [Act.put, List.setIfInBounds_toArray, List.set_cons_zero, List.set_cons_succ]
        refine Ord.stepR (v := ?_) (by rfl) ?_ ?_
        rotate_left
        · intro w' hSw
          go_simp
          try with_reducible rfl
        try simp only [Act.put, List.setIfInBounds_toArray, List.set_cons_zero, List.set_cons_succ]
        refine Ord.stepR (v := ?_) (by rfl) ?_ ?_
        rotate_left
        · intro w' hSw
          have hck := HCK.out _ hSw.1
          have hcj := HCJ.out _ hSw.1
          go_simp
          try with_reducible rfl
        try simp only [Act.put, List.setIfInBounds_toArray, List.set_cons_zero, List.set_cons_succ]
        refine Ord.stepR (v := ?_) (by rfl) ?_ ?_
        rotate_left
        · intro w' hSw
          go_simp
          try with_reducible rfl
        try simp only [Act.put, List.setIfInBounds_toArray, List.set_cons_zero, List.set_cons_succ]
        refine Ord.stepC (v := .bool false) (by rfl) ?_ (fun w1 hS => (ver_to (ver_place (x := xa) (t := la.getD ij []) (p := P) (n := (YX.length : Int)) (i := (YX.length : Int)) (by omega)) (HTA.out) (HK.out) HQP.out HCP.out HZP.out (HZA.out) (HZK.out) w1 hS.2.1).mono fun e w2 h => ⟨h.1, hS.1.below h.2 (Nat.le_refl _), hS.2.1.below h.2 (Nat.le_refl _), hS.2.2.trans (h.2.mono hS.2.2.size)⟩) ?_
        · intro w' hSw
          go_simp
          try with_reducible rfl
        try simp only [Act.put, List.setIfInBounds_toArray, List.set_cons_zero, List.set_cons_succ]
        refine Ord.stepR (v := ?_) (by rfl) ?_ ?_
        rotate_left
        · intro w' hSw
          go_simp
          try with_reducible rfl
        try simp only [Act.put, List.setIfInBounds_toArray, List.set_cons_zero, List.set_cons_succ]
        refine Ord.stepR (v := ?_) (by rfl) ?_ ?_
        rotate_left
        · intro w' hSw
          go_simp
          try with_reducible rfl
        try simp only [Act.put, List.setIfInBounds_toArray, List.set_cons_zero, List.set_cons_succ]
        refine Ord.stepR (v := ?_) (by rfl) ?_ ?_
        rotate_left
        · intro w' hSw
          go_simp
          try with_reducible rfl
        try simp only [Act.put, List.setIfInBounds_toArray, List.set_cons_zero, List.set_cons_succ]
        refine Ord.stepR (v := ?_) (by rfl) ?_ ?_
        rotate_left
        · intro w' hSw
          go_simp
          try with_reducible rfl
        try simp only [Act.put, List.setIfInBounds_toArray, List.set_cons_zero, List.set_cons_succ]
        refine Ord.stepR (v := ?_) (by rfl) ?_ ?_
        rotate_left
        · intro w' hSw
          go_simp
          try with_reducible rfl
        try simp only [Act.put, List.setIfInBounds_toArray, List.set_cons_zero, List.set_cons_succ]
        refine Ord.stepR (v := ?_) (by rfl) ?_ ?_
        rotate_left
        · intro w' hSw
          go_simp
          try with_reducible rfl
        try simp only [Act.put, List.setIfInBounds_toArray, List.set_cons_zero, List.set_cons_succ]
        refine Ord.stepR (v := ?_) (by rfl) ?_ ?_
        rotate_left
        · intro w' hSw
          go_simp
          try with_reducible rfl
        try simp only [Act.put, List.setIfInBounds_toArray, List.set_cons_zero, List.set_cons_succ]
        refine Ord.stepR (v := ?_) (by rfl) ?_ ?_
        rotate_left
        · intro w' hSw
          have hck := HCK.out _ hSw.1
          have hcj := HCJ.out _ hSw.1
          go_simp
          try with_reducible rfl
        try simp only [Act.put, List.setIfInBounds_toArray, List.set_cons_zero, List.set_cons_succ]
        refine Ord.stepR (v := ?_) (by rfl) ?_ ?_
        rotate_left
        · intro w' hSw
          go_simp
          try with_reducible rfl
        try simp only [Act.put, List.setIfInBounds_toArray, List.set_cons_zero, List.set_cons_succ]
        refine Ord.stepC (v := .bool false) (by rfl) ?_ (fun w1 hS => (ver_to (ver_place (x := xa) (t := la.getD ij []) (p := P) (n := (YX.length : Int)) (i := -1) (by omega)) (HTA.out) (HK.out) HQP.out HCP.out HZP.out (HZA.out) (HZK.out) w1 hS.2.1).mono fun e w2 h => ⟨h.1, hS.1.below h.2 (Nat.le_refl _), hS.2.1.below h.2 (Nat.le_refl _), hS.2.2.trans (h.2.mono hS.2.2.size)⟩) ?_
        · intro w' hSw
          go_simp
          try with_reducible rfl
        try simp only [Act.put, List.setIfInBounds_toArray, List.set_cons_zero, List.set_cons_succ]
        refine Ord.stepR (v := ?_) (by rfl) ?_ ?_
        rotate_left
        · intro w' hSw
          go_simp
          try with_reducible rfl
        try simp only [Act.put, List.setIfInBounds_toArray, List.set_cons_zero, List.set_cons_succ]
        refine Ord.stepR (v := ?_) (by rfl) ?_ ?_
        rotate_left
        · intro w' hSw
          go_simp
          try with_reducible rfl
        try simp only [Act.put, List.setIfInBounds_toArray, List.set_cons_zero, List.set_cons_succ]
        have hcat : ¬ 9223372036854775807 < 1 + TA.size := by have := HTA4.out; omega
        have hcat2 : ¬ 9223372036854775807 < 1 + K.size := by have := HZK1.out; omega
        refine Ord.stepR (v := ?_) (by rfl) ?_ ?_
        rotate_left
        · intro w' hSw
          go_simp
          try with_reducible rfl
        try simp only [Act.put, List.setIfInBounds_toArray, List.set_cons_zero, List.set_cons_succ]
        refine Ord.stepR (v := ?_) (by rfl) ?_ ?_
        rotate_left
        · intro w' hSw
          go_simp
          try with_reducible rfl
        try simp only [Act.put, List.setIfInBounds_toArray, List.set_cons_zero, List.set_cons_succ]
        refine Ord.stepR (v := ?_) (by rfl) ?_ ?_
        rotate_left
        · intro w' hSw
          go_simp
          try with_reducible rfl
        try simp only [Act.put, List.setIfInBounds_toArray, List.set_cons_zero, List.set_cons_succ]
        refine Ord.stepR (v := ?_) (by rfl) ?_ ?_
        rotate_left
        · intro w' hSw
          go_simp
          try with_reducible rfl
        try simp only [Act.put, List.setIfInBounds_toArray, List.set_cons_zero, List.set_cons_succ]
        refine Ord.stepR (v := ?_) (by rfl) ?_ ?_
        rotate_left
        · intro w' hSw
          go_simp
          try with_reducible rfl
        try simp only [Act.put, List.setIfInBounds_toArray, List.set_cons_zero, List.set_cons_succ]
        refine Ord.stepR (v := ?_) (by rfl) ?_ ?_
        rotate_left
        · intro w' hSw
          go_simp
          try with_reducible rfl
        try simp only [Act.put, List.setIfInBounds_toArray, List.set_cons_zero, List.set_cons_succ]
        refine Ord.stepR (v := ?_) (by rfl) ?_ ?_
        rotate_left
        · intro w' hSw
          go_simp
          try with_reducible rfl
        try simp only [Act.put, List.setIfInBounds_toArray, List.set_cons_zero, List.set_cons_succ]
        refine Ord.stepR (v := ?_) (by rfl) ?_ ?_
        rotate_left
        · intro w' hSw
          have hck := HCK.out _ hSw.1
          have hcj := HCJ.out _ hSw.1
          go_simp
          try with_reducible rfl
        try simp only [Act.put, List.setIfInBounds_toArray, List.set_cons_zero, List.set_cons_succ]
        refine Ord.stepR (v := ?_) (by rfl) ?_ ?_
        rotate_left
        · intro w' hSw
          go_simp
          try with_reducible rfl
        try simp only [Act.put, List.setIfInBounds_toArray, List.set_cons_zero, List.set_cons_succ]
        refine Ord.stepC (v := .bool false) (by rfl) ?_ (fun w1 hS => (ver_to (HVh.out) ((show ((⟨#[104]⟩ : ByteArray) ++ TA).data.toList = 104 :: xa by rw [app_data, HTA.out]; rfl)) (HK.out) HQP.out HCP.out HZP.out (by rw [Lib.size_eq, app_data, List.length_append, ← Lib.size_eq, ← Lib.size_eq]; have : (⟨#[104]⟩ : ByteArray).size = 1 := rfl; have := HTA4.out; omega) (HZK.out) w1 hS.2.1).mono fun e w2 h => ⟨h.1, hS.1.below h.2 (Nat.le_refl _), hS.2.1.below h.2 (Nat.le_refl _), hS.2.2.trans (h.2.mono hS.2.2.size)⟩) ?_
        · intro w' hSw
          go_simp
          try with_reducible rfl
        try simp only [Act.put, List.setIfInBounds_toArray, List.set_cons_zero, List.set_cons_succ]
        refine Ord.stepR (v := ?_) (by rfl) ?_ ?_
        rotate_left
        · intro w' hSw
          go_simp
          try with_reducible rfl
        try simp only [Act.put, List.setIfInBounds_toArray, List.set_cons_zero, List.set_cons_succ]
        refine Ord.stepR (v := ?_) (by rfl) ?_ ?_
        rotate_left
        · intro w' hSw
          go_simp
          try with_reducible rfl
        try simp only [Act.put, List.setIfInBounds_toArray, List.set_cons_zero, List.set_cons_succ]
        refine Ord.stepR (v := ?_) (by rfl) ?_ ?_
        rotate_left
        · intro w' hSw
          go_simp
          try with_reducible rfl
        try simp only [Act.put, List.setIfInBounds_toArray, List.set_cons_zero, List.set_cons_succ]
        refine Ord.stepR (v := ?_) (by rfl) ?_ ?_
        rotate_left
        · intro w' hSw
          go_simp
          try with_reducible rfl
        try simp only [Act.put, List.setIfInBounds_toArray, List.set_cons_zero, List.set_cons_succ]
        refine Ord.stepR (v := ?_) (by rfl) ?_ ?_
        rotate_left
        · intro w' hSw
          go_simp
          try with_reducible rfl
        try simp only [Act.put, List.setIfInBounds_toArray, List.set_cons_zero, List.set_cons_succ]
        refine Ord.stepR (v := ?_) (by rfl) ?_ ?_
        rotate_left
        · intro w' hSw
          go_simp
          try with_reducible rfl
        try simp only [Act.put, List.setIfInBounds_toArray, List.set_cons_zero, List.set_cons_succ]
        refine Ord.stepR (v := ?_) (by rfl) ?_ ?_
        rotate_left
        · intro w' hSw
          go_simp
          try with_reducible rfl
        try simp only [Act.put, List.setIfInBounds_toArray, List.set_cons_zero, List.set_cons_succ]
        refine Ord.stepR (v := ?_) (by rfl) ?_ ?_
        rotate_left
        · intro w' hSw
          go_simp
          try with_reducible rfl
        try simp only [Act.put, List.setIfInBounds_toArray, List.set_cons_zero, List.set_cons_succ]
        refine Ord.stepR (v := ?_) (by rfl) ?_ ?_
        rotate_left
        · intro w' hSw
          have hck := HCK.out _ hSw.1
          have hcj := HCJ.out _ hSw.1
          go_simp
          try with_reducible rfl
        try simp only [Act.put, List.setIfInBounds_toArray, List.set_cons_zero, List.set_cons_succ]
        refine Ord.stepR (v := ?_) (by rfl) ?_ ?_
        rotate_left
        · intro w' hSw
          go_simp
          try with_reducible rfl
        try simp only [Act.put, List.setIfInBounds_toArray, List.set_cons_zero, List.set_cons_succ]
        refine Ord.stepR (v := ?_) (by rfl) ?_ ?_
        rotate_left
        · intro w' hSw
          go_simp
          try with_reducible rfl
        try simp only [Act.put, List.setIfInBounds_toArray, List.set_cons_zero, List.set_cons_succ]
        refine Ord.stepC (v := .bool false) (by rfl) ?_ (fun w1 hS => (ver_to (HVt.out (104 :: la.getD ij []) (fun e => by have := congrArg List.length e; rw [List.length_cons] at this; omega)) (HTA.out) ((show ((⟨#[104]⟩ : ByteArray) ++ K).data.toList = 104 :: la.getD ij [] by rw [app_data, HK.out]; rfl)) HQP.out HCP.out HZP.out (HZA.out) (by rw [Lib.size_eq, app_data, List.length_append, ← Lib.size_eq, ← Lib.size_eq]; have : (⟨#[104]⟩ : ByteArray).size = 1 := rfl; have := HZK1.out; omega) w1 hS.2.1).mono fun e w2 h => ⟨h.1, hS.1.below h.2 (Nat.le_refl _), hS.2.1.below h.2 (Nat.le_refl _), hS.2.2.trans (h.2.mono hS.2.2.size)⟩) ?_
        · intro w' hSw
          go_simp
          try with_reducible rfl
        try simp only [Act.put, List.setIfInBounds_toArray, List.set_cons_zero, List.set_cons_succ]
        refine Ord.stepR (v := ?_) (by rfl) ?_ ?_
        rotate_left
        · intro w' hSw
          go_simp
          try with_reducible rfl
        try simp only [Act.put, List.setIfInBounds_toArray, List.set_cons_zero, List.set_cons_succ]
        refine Ord.stepD fun Z hZ => ?_
        replace HRX := Lib.hid hZ.1
        replace HRP := Lib.hid hZ.2.1
        have HB7 := Lib.hid (Bel.call HB6.out hZ.2.2)
        clear hZ hcat hcat2
        go_wp2_with fail
        with_reducible refine (HPM.out YP HPQ.out (by have := HP3.out; omega) _).mono ?_
        rintro e v4 ⟨rfl, hv4⟩
        obtain rfl : Z = v4 := hv4.symm
        dsimp only
        go_wp2_with (first
          | (at_builtin
             refine append_strs rfl _ _ rfl Z.heap.size (.slice (some ⟨Z.heap.size, 0, none⟩) 0 0) 0 [] YP rfl ?c1 (rfl) (some ⟨gP, oP, none⟩) YP.length cP rfl (rfl) ((fun h => by cases h)) ?c2 ?c3 ?c4 ?_
             case c1 => exact own_empty Z
             case c2 => exact HRP.out.below ((Below.refl _ Z).alloc (Nat.le_refl _) _) (Nat.le_refl _)
             case c3 => have := HP3.out; omega
             case c4 => simp
             intro vC wC hown hb
             have HOC := Lib.hid hown
             have HXC := Lib.hid hb
             clear hown hb
             have hpm := pk_lt what (n := YP.length) HPQ.out
             generalize pk what YP.length = mm at hpm ⊢
             obtain ⟨p', hp'⟩ : ∃ p', YP.length = p' + 1 := ⟨YP.length - 1, by have := HPQ.out; omega⟩
             have hoC0 : wC.ownsRow Z.heap.size 9 1 vC (p' + 1) (sv YP) := by have := HOC.out; rw [hp', show 0 + (p' + 1) = p' + 1 by omega] at this; simpa using this
             obtain ⟨gC, cC, rfl⟩ := ownsRow_succ hoC0
             have HOW := Lib.hid hoC0
             have hgC := (hoC0.lt gC rfl).1
             have hbC : Below Z.heap.size Z wC := ((Below.refl _ Z).alloc (Nat.le_refl _) _).trans HXC.out
             have HP' := Lib.hid hp'
             have hmm : mm < p' + 1 := by omega
             have hm1 : (mm : Int) < (p' : Int) + 1 := by omega
             have hm0 : (0 : Int) ≤ (mm : Int) := Int.natCast_nonneg mm
             clear hoC0 HOC HXC hp' hpm
             have hget := own_get HOW.out HP'.out hmm
             have hfz := own_frozen HOW.out mm
             obtain ⟨M, hM⟩ : ∃ M, YP.getD mm ByteArray.empty = M := ⟨_, rfl⟩
             rw [hM] at hget
             have HM : Hid (M.data.toList = P.getD mm []) := Lib.hid (by rw [← hM, getD_bl, HQP.out])
             have hZM : M.size ≤ 140737488355328 := HZP.out _ (by rw [← hM, List.getD, List.getElem?_eq_getElem (by rw [HP'.out]; exact hmm)]; exact List.getElem_mem _)
             have hcat3 : ¬ 9223372036854775807 < 1 + M.size := by omega
             clear hM))
        obtain ⟨O, hO⟩ : ∃ O, (⟨#[104]⟩ : ByteArray) ++ M = O := ⟨_, rfl⟩
        have HO : Hid (O.data.toList = 104 :: P.getD mm []) := Lib.hid (by rw [← hO, app_data, HM.out]; rfl)
        have hZO : O.size ≤ 140737488355328 := by rw [Lib.size_eq, HO.out, List.length_cons, ← HM.out, ← Lib.size_eq]; have := HM4.out mm; rw [← HM.out, ← Lib.size_eq] at this; omega
        rw [hO]
        clear hO
        have hst : (wC.setCell ⟨gC, mm, none⟩ (.string O)).ownsRow Z.heap.size 9 1 (.slice (some ⟨gC, 0, none⟩) (p' + 1) cC) (p' + 1) (sv (YP.set mm O)) := by have := (HOW.out.stored mm (.string O)).1; rwa [sv_set] at this
        have hbS : Below Z.heap.size Z (wC.setCell ⟨gC, mm, none⟩ (.string O)) := hbC.setCell hgC _
        generalize wC.setCell ⟨gC, mm, none⟩ (.string O) = wS at hst hbS ⊢
        have HB8 := Lib.hid (Bel.call HB7.out hbS)
        replace HRX := Lib.hid (HRX.out.below hbS (Nat.le_refl _))
        replace HRP := Lib.hid (HRP.out.below hbS (Nat.le_refl _))
        have HCM : Hid (cC ≤ 9223372036854775807) := Lib.hid (own_cap HOW.out)
        clear hbS hbC hgC HOW hget hfz hcat3
        obtain ⟨hrC, _, hcC⟩ := sreads_own hst
        have HRC := Lib.hid hrC
        have hset : bl (YP.set mm O) = P.set mm (104 :: P.getD mm []) := by rw [bl_set, HQP.out, HO.out]
        have hlen : (YP.set mm O).length = p' + 1 := by rw [List.length_set, HP'.out]
        have hPl : P.length = p' + 1 := by rw [← HPL.out, HP'.out]
        have hzS : ∀ y ∈ YP.set mm O, y.size ≤ 140737488355328 := fun y h => by rcases List.mem_or_eq_of_mem_set h with h | rfl; exact HZP.out y h; exact hZO
        have HVQ : Hid (∀ w', SReads w' (some ⟨gC, 0, none⟩) (YP.set mm O) → Calls Try.prog 18 #[.string TA, .int .i64 (YX.length : Int), .int .i64 (ij : Int), .string K, .slice (some ⟨gC, 0, none⟩) (p' + 1) cC] w' fun e w'' => e = .returned (.bool false) ∧ Below w'.heap.size w' w'') := Lib.hid fun w' h => by
          have := ver_to (HVp.out _ (set_ne (m := mm) (by omega))) HTA.out HK.out hset (A := some ⟨gC, 0, none⟩) (c := cC) ⟨by omega, HCM.out⟩ hzS HZA.out HZK.out w' h
          rw [hlen] at this
          exact this
        clear hset hlen hPl hzS hrC hcC hst hZO hZM hm0 hm1 hmm
        have hp1 : (1 : Int) ≤ (YP.length : Int) := by have := HPQ.out; omega
        have hp2 : (YP.length : Int) ≤ (cP : Int) := by have := HCP.out; omega
        have hp4 : (1 : Int) ≤ (cP : Int) := by omega
        go_wp2_with fail
        refine wp_region_held_drew (S := fun w' => w'.cell? ⟨gX, oX + ij, none⟩ = some (.string K)) (by kernel_rfl) (HCK.out _ (HRX.out.below (Below.drewN' (Below.refl wS.heap.size wS) 1) (Nat.le_refl _))) (fun hHeld => ?_)
        have hdr := Below.drewN' (Below.refl wS.heap.size wS) 1
        obtain ⟨wd, hwd⟩ : ∃ wd, wS.drew = wd := ⟨_, rfl⟩
        have hdr2 : Below wS.heap.size wS wd := by rw [← hwd]; exact hdr
        rw [hwd] at hHeld ⊢
        clear hdr hwd
        have HB9 := Lib.hid (Bel.call HB8.out hdr2)
        replace HRX := Lib.hid (HRX.out.below hdr2 (Nat.le_refl _))
        replace HRP := Lib.hid (HRP.out.below hdr2 (Nat.le_refl _))
        replace HRC := Lib.hid (HRC.out.below hdr2 (Nat.le_refl _))
        clear hdr2
        refine wpAnyH_take (i := 0) (v := ?_) (by rw [List.getElem?_toArray]; rfl) (by kernel_rfl) (by kernel_rfl) (by kernel_rfl) (by exact fun _ _ _ h => h) (Or.inl ⟨by rfl, ?_⟩) (by assumption) ?_
        rotate_left
        · intro w' hSw
          go_simp
          try with_reducible rfl
        try simp only [Act.put, List.setIfInBounds_toArray, List.set_cons_zero, List.set_cons_succ]
        refine wpAnyH_take (i := 1) (v := ?_) (by rw [List.getElem?_toArray]; rfl) (by kernel_rfl) (by kernel_rfl) (by kernel_rfl) (by exact fun _ _ _ h => h) (Or.inl ⟨by rfl, ?_⟩) (by assumption) ?_
        rotate_left
        · intro w' hSw
          go_simp
          try with_reducible rfl
        try simp only [Act.put, List.setIfInBounds_toArray, List.set_cons_zero, List.set_cons_succ]
        refine wpAnyH_take (i := 2) (v := ?_) (by rw [List.getElem?_toArray]; rfl) (by kernel_rfl) (by kernel_rfl) (by kernel_rfl) (by exact fun _ _ _ h => h) (Or.inl ⟨by rfl, ?_⟩) (by assumption) ?_
        rotate_left
        · intro w' hSw
          go_simp
          try with_reducible rfl
        try simp only [Act.put, List.setIfInBounds_toArray, List.set_cons_zero, List.set_cons_succ]
        refine wpAnyH_take (i := 3) (v := ?_) (by rw [List.getElem?_toArray]; rfl) (by kernel_rfl) (by kernel_rfl) (by kernel_rfl) (by exact fun _ _ _ h => h) (Or.inl ⟨by rfl, ?_⟩) (by assumption) ?_
        rotate_left
        · intro w' hSw
          go_simp
          try with_reducible rfl
        try simp only [Act.put, List.setIfInBounds_toArray, List.set_cons_zero, List.set_cons_succ]
        refine wpAnyH_take (i := 4) (v := ?_) (by rw [List.getElem?_toArray]; rfl) (by kernel_rfl) (by kernel_rfl) (by kernel_rfl) (by exact fun _ _ _ h => h) (Or.inl ⟨by rfl, ?_⟩) (by assumption) ?_
        rotate_left
        · intro w' hSw
          go_simp
          try with_reducible rfl
        try simp only [Act.put, List.setIfInBounds_toArray, List.set_cons_zero, List.set_cons_succ]
        refine wpAnyH_take (i := 5) (v := ?_) (by rw [List.getElem?_toArray]; rfl) (by kernel_rfl) (by kernel_rfl) (by kernel_rfl) (by exact fun _ _ _ h => h) (Or.inl ⟨by rfl, ?_⟩) (by assumption) ?_
        rotate_left
        · intro w' hSw
          go_simp
          try with_reducible rfl
        try simp only [Act.put, List.setIfInBounds_toArray, List.set_cons_zero, List.set_cons_succ]
        refine wpAnyH_take (i := 6) (v := ?_) (by rw [List.getElem?_toArray]; rfl) (by kernel_rfl) (by kernel_rfl) (by kernel_rfl) (by exact fun _ _ _ h => h) (Or.inl ⟨by rfl, ?_⟩) (by assumption) ?_
        rotate_left
        · intro w' hSw
          go_simp
          try with_reducible rfl
        try simp only [Act.put, List.setIfInBounds_toArray, List.set_cons_zero, List.set_cons_succ]
        refine wpAnyH_take (i := 7) (v := ?_) (by rw [List.getElem?_toArray]; rfl) (by kernel_rfl) (by kernel_rfl) (by kernel_rfl) (by exact fun _ _ _ h => h) (Or.inl ⟨by rfl, ?_⟩) (by assumption) ?_
        rotate_left
        · intro w' hSw
          go_simp
          try with_reducible rfl
        try simp only [Act.put, List.setIfInBounds_toArray, List.set_cons_zero, List.set_cons_succ]
        refine wpAnyH_ready (rs := [8]) (by kernel_rfl) (by simp) ?_
        refine AllReadyH.cons (by rw [List.getElem?_toArray]; rfl) (fun Kn hK => ?_) AllReadyH.nil
        go_simp
        go_at_call 18
        with_reducible refine (HVQ.out _ HRC.out).mono ?_
        rintro e w10 ⟨rfl, hb10⟩
        have HB10 := Lib.hid (Bel.call HB9.out hb10)
        replace HRX := Lib.hid (HRX.out.below hb10 (Nat.le_refl _))
        replace HRP := Lib.hid (HRP.out.below hb10 (Nat.le_refl _))
        replace HRC := Lib.hid (HRC.out.below hb10 (Nat.le_refl _))
        clear hb10
        dsimp only
        refine hK.out _ _ (HCK.out _ HRX.out) (fun hHeld => ?_)
        try simp only [Act.put, List.setIfInBounds_toArray, List.set_cons_zero, List.set_cons_succ]
        clear HRC HVQ
        refine wpAnyH_take (i := 9) (v := ?_) (by rw [List.getElem?_toArray]; rfl) (by kernel_rfl) (by kernel_rfl) (by kernel_rfl) (by exact fun _ _ _ h => h) (Or.inl ⟨by rfl, ?_⟩) (by assumption) ?_
        rotate_left
        · intro w' hSw
          go_simp
          try with_reducible rfl
        try simp only [Act.put, List.setIfInBounds_toArray, List.set_cons_zero, List.set_cons_succ]
        refine wpAnyH_take (i := 10) (v := ?_) (by rw [List.getElem?_toArray]; rfl) (by kernel_rfl) (by kernel_rfl) (by kernel_rfl) (by exact fun _ _ _ h => h) (Or.inl ⟨by rfl, ?_⟩) (by assumption) ?_
        rotate_left
        · intro w' hSw
          go_simp
          try with_reducible rfl
        try simp only [Act.put, List.setIfInBounds_toArray, List.set_cons_zero, List.set_cons_succ]
        refine wpAnyH_take (i := 11) (v := ?_) (by rw [List.getElem?_toArray]; rfl) (by kernel_rfl) (by kernel_rfl) (by kernel_rfl) (by exact fun _ _ _ h => h) (Or.inl ⟨by rfl, ?_⟩) (by assumption) ?_
        rotate_left
        · intro w' hSw
          go_simp
          try with_reducible rfl
        try simp only [Act.put, List.setIfInBounds_toArray, List.set_cons_zero, List.set_cons_succ]
        refine wpAnyH_take (i := 12) (v := ?_) (by rw [List.getElem?_toArray]; rfl) (by kernel_rfl) (by kernel_rfl) (by kernel_rfl) (by exact fun _ _ _ h => h) (Or.inl ⟨by rfl, ?_⟩) (by assumption) ?_
        rotate_left
        · intro w' hSw
          go_simp
          try with_reducible rfl
        try simp only [Act.put, List.setIfInBounds_toArray, List.set_cons_zero, List.set_cons_succ]
        refine wpAnyH_take (i := 13) (v := ?_) (by rw [List.getElem?_toArray]; rfl) (by kernel_rfl) (by kernel_rfl) (by kernel_rfl) (by exact fun _ _ _ h => h) (Or.inl ⟨by rfl, ?_⟩) (by assumption) ?_
        rotate_left
        · intro w' hSw
          go_simp
          try with_reducible rfl
        try simp only [Act.put, List.setIfInBounds_toArray, List.set_cons_zero, List.set_cons_succ]
        refine wpAnyH_take (i := 14) (v := ?_) (by rw [List.getElem?_toArray]; rfl) (by kernel_rfl) (by kernel_rfl) (by kernel_rfl) (by exact fun _ _ _ h => h) (Or.inl ⟨by rfl, ?_⟩) (by assumption) ?_
        rotate_left
        · intro w' hSw
          go_simp
          try with_reducible rfl
        try simp only [Act.put, List.setIfInBounds_toArray, List.set_cons_zero, List.set_cons_succ]
        refine wpAnyH_take (i := 15) (v := ?_) (by rw [List.getElem?_toArray]; rfl) (by kernel_rfl) (by kernel_rfl) (by kernel_rfl) (by exact fun _ _ _ h => h) (Or.inl ⟨by rfl, ?_⟩) (by assumption) ?_
        rotate_left
        · intro w' hSw
          go_simp
          try with_reducible rfl
        try simp only [Act.put, List.setIfInBounds_toArray, List.set_cons_zero, List.set_cons_succ]
        refine wpAnyH_take (i := 16) (v := ?_) (by rw [List.getElem?_toArray]; rfl) (by kernel_rfl) (by kernel_rfl) (by kernel_rfl) (by exact fun _ _ _ h => h) (Or.inl ⟨by rfl, ?_⟩) (by assumption) ?_
        rotate_left
        · intro w' hSw
          go_simp
          try with_reducible rfl
        try simp only [Act.put, List.setIfInBounds_toArray, List.set_cons_zero, List.set_cons_succ]
        refine wpAnyH_take (i := 17) (v := ?_) (by rw [List.getElem?_toArray]; rfl) (by kernel_rfl) (by kernel_rfl) (by kernel_rfl) (by exact fun _ _ _ h => h) (Or.inl ⟨by rfl, ?_⟩) (by assumption) ?_
        rotate_left
        · intro w' hSw
          go_simp
          try with_reducible rfl
        try simp only [Act.put, List.setIfInBounds_toArray, List.set_cons_zero, List.set_cons_succ]
        refine wpAnyH_take (i := 18) (v := ?_) (by rw [List.getElem?_toArray]; rfl) (by kernel_rfl) (by kernel_rfl) (by kernel_rfl) (by exact fun _ _ _ h => h) (Or.inl ⟨by rfl, ?_⟩) (by assumption) ?_
        rotate_left
        · intro w' hSw
          go_simp
          try with_reducible rfl
        try simp only [Act.put, List.setIfInBounds_toArray, List.set_cons_zero, List.set_cons_succ]
        refine wpAnyH_take (i := 19) (v := ?_) (by rw [List.getElem?_toArray]; rfl) (by kernel_rfl) (by kernel_rfl) (by kernel_rfl) (by exact fun _ _ _ h => h) (Or.inl ⟨by rfl, ?_⟩) (by assumption) ?_
        rotate_left
        · intro w' hSw
          go_simp
          try with_reducible rfl
        try simp only [Act.put, List.setIfInBounds_toArray, List.set_cons_zero, List.set_cons_succ]
        generalize (if cP = 1 then some (⟨gP, oP, none⟩ : Addr) else some ⟨gP, oP + 1, none⟩) = AQ at HVT ⊢
        refine wpAnyH_ready (rs := [20]) (by kernel_rfl) (by simp) ?_
        refine AllReadyH.cons (by rw [List.getElem?_toArray]; rfl) (fun Kn hK => ?_) AllReadyH.nil
        go_simp
        go_at_call 18
        with_reducible refine (HVT.out _ HRP.out).mono ?_
        rintro e w11 ⟨rfl, hb11⟩
        have HB11 := Lib.hid (Bel.call HB10.out hb11)
        replace HRX := Lib.hid (HRX.out.below hb11 (Nat.le_refl _))
        replace HRP := Lib.hid (HRP.out.below hb11 (Nat.le_refl _))
        clear hb11
        dsimp only
        refine hK.out _ _ (HCK.out _ HRX.out) (fun hHeld => ?_)
        try simp only [Act.put, List.setIfInBounds_toArray, List.set_cons_zero, List.set_cons_succ]
        refine wpAnyH_take (i := 21) (v := ?_) (by rw [List.getElem?_toArray]; rfl) (by kernel_rfl) (by kernel_rfl) (by kernel_rfl) (by exact fun _ _ _ h => h) (Or.inl ⟨by rfl, ?_⟩) (by assumption) ?_
        rotate_left
        · intro w' hSw
          go_simp
          try with_reducible rfl
        try simp only [Act.put, List.setIfInBounds_toArray, List.set_cons_zero, List.set_cons_succ]
        refine wpAnyH_take (i := 22) (v := ?_) (by rw [List.getElem?_toArray]; rfl) (by kernel_rfl) (by kernel_rfl) (by kernel_rfl) (by exact fun _ _ _ h => h) (Or.inl ⟨by rfl, ?_⟩) (by assumption) ?_
        rotate_left
        · intro w' hSw
          go_simp
          try with_reducible rfl
        try simp only [Act.put, List.setIfInBounds_toArray, List.set_cons_zero, List.set_cons_succ]
        refine wpAnyH_take (i := 23) (v := ?_) (by rw [List.getElem?_toArray]; rfl) (by kernel_rfl) (by kernel_rfl) (by kernel_rfl) (by exact fun _ _ _ h => h) (Or.inl ⟨by rfl, ?_⟩) (by assumption) ?_
        rotate_left
        · intro w' hSw
          go_simp
          try with_reducible rfl
        try simp only [Act.put, List.setIfInBounds_toArray, List.set_cons_zero, List.set_cons_succ]
        refine wpAnyH_take (i := 24) (v := ?_) (by rw [List.getElem?_toArray]; rfl) (by kernel_rfl) (by kernel_rfl) (by kernel_rfl) (by exact fun _ _ _ h => h) (Or.inl ⟨by rfl, ?_⟩) (by assumption) ?_
        rotate_left
        · intro w' hSw
          go_simp
          try with_reducible rfl
        try simp only [Act.put, List.setIfInBounds_toArray, List.set_cons_zero, List.set_cons_succ]
        refine wpAnyH_take (i := 25) (v := ?_) (by rw [List.getElem?_toArray]; rfl) (by kernel_rfl) (by kernel_rfl) (by kernel_rfl) (by exact fun _ _ _ h => h) (Or.inl ⟨by rfl, ?_⟩) (by assumption) ?_
        rotate_left
        · intro w' hSw
          go_simp
          try with_reducible rfl
        try simp only [Act.put, List.setIfInBounds_toArray, List.set_cons_zero, List.set_cons_succ]
        refine wpAnyH_take (i := 26) (v := ?_) (by rw [List.getElem?_toArray]; rfl) (by kernel_rfl) (by kernel_rfl) (by kernel_rfl) (by exact fun _ _ _ h => h) (Or.inl ⟨by rfl, ?_⟩) (by assumption) ?_
        rotate_left
        · intro w' hSw
          go_simp
          try with_reducible rfl
        try simp only [Act.put, List.setIfInBounds_toArray, List.set_cons_zero, List.set_cons_succ]
        refine wpAnyH_take (i := 27) (v := ?_) (by rw [List.getElem?_toArray]; rfl) (by kernel_rfl) (by kernel_rfl) (by kernel_rfl) (by exact fun _ _ _ h => h) (Or.inl ⟨by rfl, ?_⟩) (by assumption) ?_
        rotate_left
        · intro w' hSw
          go_simp
          try with_reducible rfl
        try simp only [Act.put, List.setIfInBounds_toArray, List.set_cons_zero, List.set_cons_succ]
        refine wpAnyH_take (i := 28) (v := ?_) (by rw [List.getElem?_toArray]; rfl) (by kernel_rfl) (by kernel_rfl) (by kernel_rfl) (by exact fun _ _ _ h => h) (Or.inl ⟨by rfl, ?_⟩) (by assumption) ?_
        rotate_left
        · intro w' hSw
          go_simp
          try with_reducible rfl
        try simp only [Act.put, List.setIfInBounds_toArray, List.set_cons_zero, List.set_cons_succ]
        refine wpAnyH_take (i := 29) (v := ?_) (by rw [List.getElem?_toArray]; rfl) (by kernel_rfl) (by kernel_rfl) (by kernel_rfl) (by exact fun _ _ _ h => h) (Or.inl ⟨by rfl, ?_⟩) (by assumption) ?_
        rotate_left
        · intro w' hSw
          go_simp
          try with_reducible rfl
        try simp only [Act.put, List.setIfInBounds_toArray, List.set_cons_zero, List.set_cons_succ]
        refine wpAnyH_take (i := 30) (v := ?_) (by rw [List.getElem?_toArray]; rfl) (by kernel_rfl) (by kernel_rfl) (by kernel_rfl) (by exact fun _ _ _ h => h) (Or.inl ⟨by rfl, ?_⟩) (by assumption) ?_
        rotate_left
        · intro w' hSw
          go_simp
          try with_reducible rfl
        try simp only [Act.put, List.setIfInBounds_toArray, List.set_cons_zero, List.set_cons_succ]
        refine wpAnyH_take (i := 32) (v := ?_) (by rw [List.getElem?_toArray]; rfl) (by kernel_rfl) (by kernel_rfl) (by kernel_rfl) (by exact fun _ _ _ h => h) (Or.inl ⟨by rfl, ?_⟩) (by assumption) ?_
        rotate_left
        · intro w' hSw
          go_simp
          try with_reducible rfl
        try simp only [Act.put, List.setIfInBounds_toArray, List.set_cons_zero, List.set_cons_succ]
        refine wpAnyH_take (i := 34) (v := ?_) (by rw [List.getElem?_toArray]; rfl) (by kernel_rfl) (by kernel_rfl) (by kernel_rfl) (by exact fun _ _ _ h => h) (Or.inl ⟨by rfl, ?_⟩) (by assumption) ?_
        rotate_left
        · intro w' hSw
          go_simp
          try with_reducible rfl
        try simp only [Act.put, List.setIfInBounds_toArray, List.set_cons_zero, List.set_cons_succ]
        refine wpAnyH_ready (rs := [31, 35]) (by kernel_rfl) (by simp) ?_
        have HQ0 : Hid (Below w11.heap.size w11 w11) := Lib.hid (Below.refl _ _)
        refine AllReadyH.cons (by rw [List.getElem?_toArray]; rfl) (fun Kn hK => ?_) ?_
        · go_simp
          have hown := own_empty w11
          have hq1 : Below w11.heap.size w11 (w11.alloc (.cells #[] 9)) := HQ0.out.alloc HQ0.out.size _
          have hsz1 : (w11.alloc (.cells #[] 9)).heap.size = w11.heap.size + 1 := by simp
          generalize w11.alloc (.cells #[] 9) = u1_31 at hown hq1 hsz1 ⊢
          have HQu1_31 := Lib.hid hq1
          have HZu1_31 := Lib.hid hsz1
          have HOE := Lib.hid hown
          clear hown hq1 hsz1
          refine hK.out _ _ (HCK.out _ (HRX.out.below HQu1_31.out (Nat.le_refl _))) (fun hHeld => ?_)
          try simp only [Act.put, List.setIfInBounds_toArray, List.set_cons_zero, List.set_cons_succ]
          refine wpAnyH_ready (rs := [33, 35]) (by kernel_rfl) (by simp) ?_
          refine AllReadyH.cons (by rw [List.getElem?_toArray]; rfl) (fun Kn hK => ?_) ?_
          · rw [if_pos (by rfl)]
            refine wpo_append (.tmp 230) (.tmp 231) rfl w11.heap.size (.slice (some ⟨w11.heap.size, 0, none⟩) 0 0) 0 [] YP rfl ?c1 rfl ⟨gP, oP, none⟩ YP.length cP rfl rfl ?c2 ?c3 ?c4 ?_
            case c1 => exact HOE.out
            case c2 => exact HRP.out.below HQu1_31.out (Nat.le_refl _)
            case c3 => have := HP3.out; omega
            case c4 => have := HZu1_31.out; have := HQu1_31.out.size; omega
            intro vA u2_33 hown hb hkeep
            have HOA := Lib.hid hown
            have HQu2_33 : Hid (Below w11.heap.size w11 u2_33) := Lib.hid (HQu1_31.out.trans (hb.mono (by have := HZu1_31.out; have := HQu1_31.out.size; omega)))
            have HGu2_33 : Hid (u1_31.heap.size ≤ u2_33.heap.size) := Lib.hid hb.size
            clear hown hb hkeep
            refine hK.out _ _ (HCK.out _ (HRX.out.below HQu2_33.out (Nat.le_refl _))) (fun hHeld => ?_)
            try simp only [Act.put, List.setIfInBounds_toArray, List.set_cons_zero, List.set_cons_succ]
            refine wpAnyH_ready (rs := [35]) (by kernel_rfl) (by simp) ?_
            refine AllReadyH.cons (by rw [List.getElem?_toArray]; rfl) (fun Kn hK => ?_) AllReadyH.nil
            go_simp
            have ht1 := one_reads u2_33 TA u2_33.heap.size rfl
            have hq1 : Below w11.heap.size w11 (u2_33.alloc (.cells #[.string TA] 9)) := HQu2_33.out.alloc HQu2_33.out.size _
            have hsz1 : (u2_33.alloc (.cells #[.string TA] 9)).heap.size = u2_33.heap.size + 1 := by simp
            have hown := own_below HOA.out ((Below.refl _ u2_33).alloc (Nat.le_refl _) (.cells #[.string TA] 9)) (Nat.le_refl _)
            generalize u2_33.alloc (.cells #[.string TA] 9) = u3_35 at ht1 hq1 hsz1 hown ⊢
            have HQu3_35 := Lib.hid hq1
            have HZu3_35 := Lib.hid hsz1
            have HT := Lib.hid ht1
            clear ht1 hq1 hsz1
            replace HOA := Lib.hid hown
            clear hown
            refine hK.out _ _ (HCK.out _ (HRX.out.below HQu3_35.out (Nat.le_refl _))) (fun hHeld => ?_)
            try simp only [Act.put, List.setIfInBounds_toArray, List.set_cons_zero, List.set_cons_succ]
            refine wpAnyH_ready (rs := [36]) (by kernel_rfl) (by simp) ?_
            refine AllReadyH.cons (by rw [List.getElem?_toArray]; rfl) (fun Kn hK => ?_) AllReadyH.nil
            rw [if_pos (by rfl)]
            refine wpo_append (.tmp 232) (.tmp 234) rfl w11.heap.size vA (0 + YP.length) ([] ++ YP) [TA] rfl ?c1 (by simp) ⟨u2_33.heap.size, 0, none⟩ 1 1 rfl rfl ?c2 ?c3 ?c4 ?_
            case c1 => exact HOA.out
            case c2 => exact HT.out
            case c3 => have := HP3.out; simp only [List.length_cons, List.length_nil]; omega
            case c4 => have := HZu1_31.out; have := HZu3_35.out; have := HGu2_33.out; have := HQu3_35.out.size; omega
            intro vB u4_36 hown hb hkeep
            have HOB := Lib.hid hown
            have HQu4_36 : Hid (Below w11.heap.size w11 u4_36) := Lib.hid (HQu3_35.out.trans (hb.mono (by have := HZu1_31.out; have := HZu3_35.out; have := HGu2_33.out; have := HQu3_35.out.size; omega)))
            have HGu4_36 : Hid (u3_35.heap.size ≤ u4_36.heap.size) := Lib.hid hb.size
            clear hown hb hkeep
            refine hK.out _ _ (HCK.out _ (HRX.out.below HQu4_36.out (Nat.le_refl _))) (fun hHeld => ?_)
            try simp only [Act.put, List.setIfInBounds_toArray, List.set_cons_zero, List.set_cons_succ]
            have hoB : u4_36.ownsRow w11.heap.size 9 1 vB (YP ++ [TA]).length (sv (YP ++ [TA])) := by simpa using HOB.out
            obtain ⟨AB, cB, rfl, hrB, hcB, _⟩ := own_row (w0 := w11) hoB
            have HRB := Lib.hid hrB
            have HCB := Lib.hid hcB
            have hbq := HQu4_36.out
            have HB12 := Lib.hid (Bel.call HB11.out hbq)
            replace HRX := Lib.hid (HRX.out.below hbq (Nat.le_refl _))
            replace HRP := Lib.hid (HRP.out.below hbq (Nat.le_refl _))
            clear hbq hrB hcB hoB HOB HOA HT
            refine wpAnyH_ready (rs := [37]) (by kernel_rfl) (by simp) ?_
            refine AllReadyH.cons (by rw [List.getElem?_toArray]; rfl) (fun Kn hK => ?_) AllReadyH.nil
            go_simp
            go_at_call 18
            with_reducible refine (HVS.out AB cB _ HCB.out HRB.out).mono ?_
            rintro e w13 ⟨rfl, hb13⟩
            have HB13 := Lib.hid (Bel.call HB12.out hb13)
            replace HRX := Lib.hid (HRX.out.below hb13 (Nat.le_refl _))
            replace HRP := Lib.hid (HRP.out.below hb13 (Nat.le_refl _))
            replace HRB := Lib.hid (HRB.out.below hb13 (Nat.le_refl _))
            clear hb13
            dsimp only
            refine hK.out _ _ (HCK.out _ HRX.out) (fun hHeld => ?_)
            try simp only [Act.put, List.setIfInBounds_toArray, List.set_cons_zero, List.set_cons_succ]
            refine wpAnyH_take (i := 38) (v := ?_) (by rw [List.getElem?_toArray]; rfl) (by kernel_rfl) (by kernel_rfl) (by kernel_rfl) (by exact fun _ _ _ h => h) (Or.inl ⟨by rfl, ?_⟩) (by assumption) ?_
            rotate_left
            · intro w' hSw
              go_simp
              try with_reducible rfl
            try simp only [Act.put, List.setIfInBounds_toArray, List.set_cons_zero, List.set_cons_succ]
            refine wpAnyH_take (i := 39) (v := ?_) (by rw [List.getElem?_toArray]; rfl) (by kernel_rfl) (by kernel_rfl) (by kernel_rfl) (by exact fun _ _ _ h => h) (Or.inl ⟨by rfl, ?_⟩) (by assumption) ?_
            rotate_left
            · intro w' hSw
              go_simp
              try with_reducible rfl
            try simp only [Act.put, List.setIfInBounds_toArray, List.set_cons_zero, List.set_cons_succ]
            refine wpAnyH_take (i := 40) (v := ?_) (by rw [List.getElem?_toArray]; rfl) (by kernel_rfl) (by kernel_rfl) (by kernel_rfl) (by exact fun _ _ _ h => h) (Or.inl ⟨by rfl, ?_⟩) (by assumption) ?_
            rotate_left
            · intro w' hSw
              go_simp
              try with_reducible rfl
            try simp only [Act.put, List.setIfInBounds_toArray, List.set_cons_zero, List.set_cons_succ]
            refine wpAnyH_done (by kernel_rfl) ?_ _
            clear hHeld
            go_wp2
            all_goals (go_ret; exact ⟨rfl, HB13.out⟩)
          refine AllReadyH.cons (by rw [List.getElem?_toArray]; rfl) (fun Kn hK => ?_) AllReadyH.nil
          go_simp
          have ht1 := one_reads u1_31 TA u1_31.heap.size rfl
          have hq1 : Below w11.heap.size w11 (u1_31.alloc (.cells #[.string TA] 9)) := HQu1_31.out.alloc HQu1_31.out.size _
          have hsz1 : (u1_31.alloc (.cells #[.string TA] 9)).heap.size = u1_31.heap.size + 1 := by simp
          have hown := own_below HOE.out ((Below.refl _ u1_31).alloc (Nat.le_refl _) (.cells #[.string TA] 9)) (Nat.le_refl _)
          generalize u1_31.alloc (.cells #[.string TA] 9) = u2_35 at ht1 hq1 hsz1 hown ⊢
          have HQu2_35 := Lib.hid hq1
          have HZu2_35 := Lib.hid hsz1
          have HT := Lib.hid ht1
          clear ht1 hq1 hsz1
          replace HOE := Lib.hid hown
          clear hown
          refine hK.out _ _ (HCK.out _ (HRX.out.below HQu2_35.out (Nat.le_refl _))) (fun hHeld => ?_)
          try simp only [Act.put, List.setIfInBounds_toArray, List.set_cons_zero, List.set_cons_succ]
          refine wpAnyH_ready (rs := [33]) (by kernel_rfl) (by simp) ?_
          refine AllReadyH.cons (by rw [List.getElem?_toArray]; rfl) (fun Kn hK => ?_) AllReadyH.nil
          rw [if_pos (by rfl)]
          refine wpo_append (.tmp 230) (.tmp 231) rfl w11.heap.size (.slice (some ⟨w11.heap.size, 0, none⟩) 0 0) 0 [] YP rfl ?c1 rfl ⟨gP, oP, none⟩ YP.length cP rfl rfl ?c2 ?c3 ?c4 ?_
          case c1 => exact HOE.out
          case c2 => exact HRP.out.below HQu2_35.out (Nat.le_refl _)
          case c3 => have := HP3.out; omega
          case c4 => have := HZu1_31.out; have := HZu2_35.out; have := HQu2_35.out.size; omega
          intro vA u3_33 hown hb hkeep
          have HOA := Lib.hid hown
          have HQu3_33 : Hid (Below w11.heap.size w11 u3_33) := Lib.hid (HQu2_35.out.trans (hb.mono (by have := HZu1_31.out; have := HZu2_35.out; have := HQu2_35.out.size; omega)))
          have HGu3_33 : Hid (u2_35.heap.size ≤ u3_33.heap.size) := Lib.hid hb.size
          replace HT := Lib.hid (hkeep _ _ _ HT.out (by have := HZu1_31.out; have := HZu2_35.out; have := HQu2_35.out.size; simp only [Value.ownBlock]; intro e; injection e; omega))
          clear hown hb hkeep
          refine hK.out _ _ (HCK.out _ (HRX.out.below HQu3_33.out (Nat.le_refl _))) (fun hHeld => ?_)
          try simp only [Act.put, List.setIfInBounds_toArray, List.set_cons_zero, List.set_cons_succ]
          refine wpAnyH_ready (rs := [36]) (by kernel_rfl) (by simp) ?_
          refine AllReadyH.cons (by rw [List.getElem?_toArray]; rfl) (fun Kn hK => ?_) AllReadyH.nil
          rw [if_pos (by rfl)]
          refine wpo_append (.tmp 232) (.tmp 234) rfl w11.heap.size vA (0 + YP.length) ([] ++ YP) [TA] rfl ?c1 (by simp) ⟨u1_31.heap.size, 0, none⟩ 1 1 rfl rfl ?c2 ?c3 ?c4 ?_
          case c1 => exact HOA.out
          case c2 => exact HT.out
          case c3 => have := HP3.out; simp only [List.length_cons, List.length_nil]; omega
          case c4 => have := HZu1_31.out; have := HZu2_35.out; have := HGu3_33.out; have := HQu3_33.out.size; omega
          intro vB u4_36 hown hb hkeep
          have HOB := Lib.hid hown
          have HQu4_36 : Hid (Below w11.heap.size w11 u4_36) := Lib.hid (HQu3_33.out.trans (hb.mono (by have := HZu1_31.out; have := HZu2_35.out; have := HGu3_33.out; have := HQu3_33.out.size; omega)))
          have HGu4_36 : Hid (u3_33.heap.size ≤ u4_36.heap.size) := Lib.hid hb.size
          clear hown hb hkeep
          refine hK.out _ _ (HCK.out _ (HRX.out.below HQu4_36.out (Nat.le_refl _))) (fun hHeld => ?_)
          try simp only [Act.put, List.setIfInBounds_toArray, List.set_cons_zero, List.set_cons_succ]
          have hoB : u4_36.ownsRow w11.heap.size 9 1 vB (YP ++ [TA]).length (sv (YP ++ [TA])) := by simpa using HOB.out
          obtain ⟨AB, cB, rfl, hrB, hcB, _⟩ := own_row (w0 := w11) hoB
          have HRB := Lib.hid hrB
          have HCB := Lib.hid hcB
          have hbq := HQu4_36.out
          have HB12 := Lib.hid (Bel.call HB11.out hbq)
          replace HRX := Lib.hid (HRX.out.below hbq (Nat.le_refl _))
          replace HRP := Lib.hid (HRP.out.below hbq (Nat.le_refl _))
          clear hbq hrB hcB hoB HOB HOA HT
          refine wpAnyH_ready (rs := [37]) (by kernel_rfl) (by simp) ?_
          refine AllReadyH.cons (by rw [List.getElem?_toArray]; rfl) (fun Kn hK => ?_) AllReadyH.nil
          go_simp
          go_at_call 18
          with_reducible refine (HVS.out AB cB _ HCB.out HRB.out).mono ?_
          rintro e w13 ⟨rfl, hb13⟩
          have HB13 := Lib.hid (Bel.call HB12.out hb13)
          replace HRX := Lib.hid (HRX.out.below hb13 (Nat.le_refl _))
          replace HRP := Lib.hid (HRP.out.below hb13 (Nat.le_refl _))
          replace HRB := Lib.hid (HRB.out.below hb13 (Nat.le_refl _))
          clear hb13
          dsimp only
          refine hK.out _ _ (HCK.out _ HRX.out) (fun hHeld => ?_)
          try simp only [Act.put, List.setIfInBounds_toArray, List.set_cons_zero, List.set_cons_succ]
          refine wpAnyH_take (i := 38) (v := ?_) (by rw [List.getElem?_toArray]; rfl) (by kernel_rfl) (by kernel_rfl) (by kernel_rfl) (by exact fun _ _ _ h => h) (Or.inl ⟨by rfl, ?_⟩) (by assumption) ?_
          rotate_left
          · intro w' hSw
            go_simp
            try with_reducible rfl
          try simp only [Act.put, List.setIfInBounds_toArray, List.set_cons_zero, List.set_cons_succ]
          refine wpAnyH_take (i := 39) (v := ?_) (by rw [List.getElem?_toArray]; rfl) (by kernel_rfl) (by kernel_rfl) (by kernel_rfl) (by exact fun _ _ _ h => h) (Or.inl ⟨by rfl, ?_⟩) (by assumption) ?_
          rotate_left
          · intro w' hSw
            go_simp
            try with_reducible rfl
          try simp only [Act.put, List.setIfInBounds_toArray, List.set_cons_zero, List.set_cons_succ]
          refine wpAnyH_take (i := 40) (v := ?_) (by rw [List.getElem?_toArray]; rfl) (by kernel_rfl) (by kernel_rfl) (by kernel_rfl) (by exact fun _ _ _ h => h) (Or.inl ⟨by rfl, ?_⟩) (by assumption) ?_
          rotate_left
          · intro w' hSw
            go_simp
            try with_reducible rfl
          try simp only [Act.put, List.setIfInBounds_toArray, List.set_cons_zero, List.set_cons_succ]
          refine wpAnyH_done (by kernel_rfl) ?_ _
          clear hHeld
          go_wp2
          all_goals (go_ret; exact ⟨rfl, HB13.out⟩)
        refine AllReadyH.cons (by rw [List.getElem?_toArray]; rfl) (fun Kn hK => ?_) AllReadyH.nil
        go_simp
        have ht1 := one_reads w11 TA w11.heap.size rfl
        have hq1 : Below w11.heap.size w11 (w11.alloc (.cells #[.string TA] 9)) := HQ0.out.alloc HQ0.out.size _
        have hsz1 : (w11.alloc (.cells #[.string TA] 9)).heap.size = w11.heap.size + 1 := by simp
        generalize w11.alloc (.cells #[.string TA] 9) = u1_35 at ht1 hq1 hsz1 ⊢
        have HQu1_35 := Lib.hid hq1
        have HZu1_35 := Lib.hid hsz1
        have HT := Lib.hid ht1
        clear ht1 hq1 hsz1
        refine hK.out _ _ (HCK.out _ (HRX.out.below HQu1_35.out (Nat.le_refl _))) (fun hHeld => ?_)
        try simp only [Act.put, List.setIfInBounds_toArray, List.set_cons_zero, List.set_cons_succ]
        refine wpAnyH_ready (rs := [31]) (by kernel_rfl) (by simp) ?_
        refine AllReadyH.cons (by rw [List.getElem?_toArray]; rfl) (fun Kn hK => ?_) AllReadyH.nil
        go_simp
        have hown := own_empty u1_35
        have hq1 : Below w11.heap.size w11 (u1_35.alloc (.cells #[] 9)) := HQu1_35.out.alloc HQu1_35.out.size _
        have hsz1 : (u1_35.alloc (.cells #[] 9)).heap.size = u1_35.heap.size + 1 := by simp
        have ht1 := HT.out.below ((Below.refl _ u1_35).alloc (Nat.le_refl _) (.cells #[] 9)) (Nat.le_refl _)
        generalize u1_35.alloc (.cells #[] 9) = u2_31 at hown hq1 hsz1 ht1 ⊢
        have HQu2_31 := Lib.hid hq1
        have HZu2_31 := Lib.hid hsz1
        have HOE := Lib.hid hown
        replace HT := Lib.hid ht1
        clear ht1
        clear hown hq1 hsz1
        refine hK.out _ _ (HCK.out _ (HRX.out.below HQu2_31.out (Nat.le_refl _))) (fun hHeld => ?_)
        try simp only [Act.put, List.setIfInBounds_toArray, List.set_cons_zero, List.set_cons_succ]
        refine wpAnyH_ready (rs := [33]) (by kernel_rfl) (by simp) ?_
        refine AllReadyH.cons (by rw [List.getElem?_toArray]; rfl) (fun Kn hK => ?_) AllReadyH.nil
        rw [if_pos (by rfl)]
        refine wpo_append (.tmp 230) (.tmp 231) rfl u1_35.heap.size (.slice (some ⟨u1_35.heap.size, 0, none⟩) 0 0) 0 [] YP rfl ?c1 rfl ⟨gP, oP, none⟩ YP.length cP rfl rfl ?c2 ?c3 ?c4 ?_
        case c1 => exact HOE.out
        case c2 => exact HRP.out.below HQu2_31.out (Nat.le_refl _)
        case c3 => have := HP3.out; omega
        case c4 => have := HZu1_35.out; have := HZu2_31.out; have := HQu2_31.out.size; omega
        intro vA u3_33 hown hb hkeep
        have HOA := Lib.hid hown
        have HQu3_33 : Hid (Below w11.heap.size w11 u3_33) := Lib.hid (HQu2_31.out.trans (hb.mono (by have := HZu1_35.out; have := HZu2_31.out; have := HQu2_31.out.size; omega)))
        have HGu3_33 : Hid (u2_31.heap.size ≤ u3_33.heap.size) := Lib.hid hb.size
        replace HT := Lib.hid (hkeep _ _ _ HT.out (by have := HZu1_35.out; have := HZu2_31.out; have := HQu2_31.out.size; simp only [Value.ownBlock]; intro e; injection e; omega))
        clear hown hb hkeep
        refine hK.out _ _ (HCK.out _ (HRX.out.below HQu3_33.out (Nat.le_refl _))) (fun hHeld => ?_)
        try simp only [Act.put, List.setIfInBounds_toArray, List.set_cons_zero, List.set_cons_succ]
        refine wpAnyH_ready (rs := [36]) (by kernel_rfl) (by simp) ?_
        refine AllReadyH.cons (by rw [List.getElem?_toArray]; rfl) (fun Kn hK => ?_) AllReadyH.nil
        rw [if_pos (by rfl)]
        refine wpo_append (.tmp 232) (.tmp 234) rfl u1_35.heap.size vA (0 + YP.length) ([] ++ YP) [TA] rfl ?c1 (by simp) ⟨w11.heap.size, 0, none⟩ 1 1 rfl rfl ?c2 ?c3 ?c4 ?_
        case c1 => exact HOA.out
        case c2 => exact HT.out
        case c3 => have := HP3.out; simp only [List.length_cons, List.length_nil]; omega
        case c4 => have := HZu1_35.out; have := HZu2_31.out; have := HGu3_33.out; have := HQu3_33.out.size; omega
        intro vB u4_36 hown hb hkeep
        have HOB := Lib.hid hown
        have HQu4_36 : Hid (Below w11.heap.size w11 u4_36) := Lib.hid (HQu3_33.out.trans (hb.mono (by have := HZu1_35.out; have := HZu2_31.out; have := HGu3_33.out; have := HQu3_33.out.size; omega)))
        have HGu4_36 : Hid (u3_33.heap.size ≤ u4_36.heap.size) := Lib.hid hb.size
        clear hown hb hkeep
        refine hK.out _ _ (HCK.out _ (HRX.out.below HQu4_36.out (Nat.le_refl _))) (fun hHeld => ?_)
        try simp only [Act.put, List.setIfInBounds_toArray, List.set_cons_zero, List.set_cons_succ]
        have hoB : u4_36.ownsRow u1_35.heap.size 9 1 vB (YP ++ [TA]).length (sv (YP ++ [TA])) := by simpa using HOB.out
        obtain ⟨AB, cB, rfl, hrB, hcB, _⟩ := own_row (w0 := u1_35) hoB
        have HRB := Lib.hid hrB
        have HCB := Lib.hid hcB
        have hbq := HQu4_36.out
        have HB12 := Lib.hid (Bel.call HB11.out hbq)
        replace HRX := Lib.hid (HRX.out.below hbq (Nat.le_refl _))
        replace HRP := Lib.hid (HRP.out.below hbq (Nat.le_refl _))
        clear hbq hrB hcB hoB HOB HOA HT
        refine wpAnyH_ready (rs := [37]) (by kernel_rfl) (by simp) ?_
        refine AllReadyH.cons (by rw [List.getElem?_toArray]; rfl) (fun Kn hK => ?_) AllReadyH.nil
        go_simp
        go_at_call 18
        with_reducible refine (HVS.out AB cB _ HCB.out HRB.out).mono ?_
        rintro e w13 ⟨rfl, hb13⟩
        have HB13 := Lib.hid (Bel.call HB12.out hb13)
        replace HRX := Lib.hid (HRX.out.below hb13 (Nat.le_refl _))
        replace HRP := Lib.hid (HRP.out.below hb13 (Nat.le_refl _))
        replace HRB := Lib.hid (HRB.out.below hb13 (Nat.le_refl _))
        clear hb13
        dsimp only
        refine hK.out _ _ (HCK.out _ HRX.out) (fun hHeld => ?_)
        try simp only [Act.put, List.setIfInBounds_toArray, List.set_cons_zero, List.set_cons_succ]
        refine wpAnyH_take (i := 38) (v := ?_) (by rw [List.getElem?_toArray]; rfl) (by kernel_rfl) (by kernel_rfl) (by kernel_rfl) (by exact fun _ _ _ h => h) (Or.inl ⟨by rfl, ?_⟩) (by assumption) ?_
        rotate_left
        · intro w' hSw
          go_simp
          try with_reducible rfl
        try simp only [Act.put, List.setIfInBounds_toArray, List.set_cons_zero, List.set_cons_succ]
        refine wpAnyH_take (i := 39) (v := ?_) (by rw [List.getElem?_toArray]; rfl) (by kernel_rfl) (by kernel_rfl) (by kernel_rfl) (by exact fun _ _ _ h => h) (Or.inl ⟨by rfl, ?_⟩) (by assumption) ?_
        rotate_left
        · intro w' hSw
          go_simp
          try with_reducible rfl
        try simp only [Act.put, List.setIfInBounds_toArray, List.set_cons_zero, List.set_cons_succ]
        refine wpAnyH_take (i := 40) (v := ?_) (by rw [List.getElem?_toArray]; rfl) (by kernel_rfl) (by kernel_rfl) (by kernel_rfl) (by exact fun _ _ _ h => h) (Or.inl ⟨by rfl, ?_⟩) (by assumption) ?_
        rotate_left
        · intro w' hSw
          go_simp
          try with_reducible rfl
        try simp only [Act.put, List.setIfInBounds_toArray, List.set_cons_zero, List.set_cons_succ]
        refine wpAnyH_done (by kernel_rfl) ?_ _
        clear hHeld
        go_wp2
        all_goals (go_ret; exact ⟨rfl, HB13.out⟩)
      · have HJK := Lib.hid hJK
        clear hJK
        go_wp2_with fail
        with_reducible refine (HP9.out _).mono ?_
        rintro e v2 ⟨rfl, hv2⟩
        obtain rfl : w5 = v2 := hv2.symm
        dsimp only
        go_wp2_with fail
        with_reducible refine (HOT.out _).mono ?_
        rintro e w6 ⟨⟨X, hX, rfl⟩, hb6⟩
        have HB6 := Lib.hid (Bel.call HB5.out hb6)
        replace HRX := Lib.hid (HRX.out.below hb6 (Nat.le_refl _))
        replace HRP := Lib.hid (HRP.out.below hb6 (Nat.le_refl _))
        clear hb6
        try dsimp only at hX
        have HX := Lib.hid hX
        clear hX
        dsimp only
        have HZX : Hid (X.size ≤ 140737488355328) := Lib.hid (by rw [Lib.size_eq, HX.out]; have := (ot_sm hov).1.2; omega)
        go_wp2_with fail
        with_reducible refine (HPJ.out _).mono ?_
        rintro e v3 ⟨rfl, hv3⟩
        obtain rfl : w6 = v3 := hv3.symm
        dsimp only
        go_wp2_with fail
        have hqj : (J.toList == K.toList) = false := ne_bool (by rw [HJ.out, HK.out]; exact HJK.out)
        have hdr : SReads w6.drew (some ⟨gX, oX, none⟩) YX ∧ SReads w6.drew (some ⟨gP, oP, none⟩) YP ∧ Below w6.heap.size w6 w6.drew := by
          have h := Below.drewN' (Below.refl w6.heap.size w6) 1
          exact ⟨HRX.out.below h (Nat.le_refl _), HRP.out.below h (Nat.le_refl _), h⟩
        refine Ord.region_lit (S := fun w' => SReads w' (some ⟨gX, oX, none⟩) YX ∧ SReads w' (some ⟨gP, oP, none⟩) YP ∧ Below w6.heap.size w6 w') (by kernel_rfl) (by kernel_rfl) hdr ?_
        clear hdr
        refine Ord.stepR (v := ?_) (by rfl) ?_ ?_
        rotate_left
        · intro w' hSw
          go_simp
          try with_reducible rfl
        try simp only [Act.put, List.setIfInBounds_toArray, List.set_cons_zero, List.set_cons_succ]
        refine Ord.stepR (v := ?_) (by rfl) ?_ ?_
        rotate_left
        · intro w' hSw
          go_simp
          try with_reducible rfl
        try simp only [Act.put, List.setIfInBounds_toArray, List.set_cons_zero, List.set_cons_succ]
        refine Ord.stepR (v := ?_) (by rfl) ?_ ?_
        rotate_left
        · intro w' hSw
          go_simp
          try with_reducible rfl
        try simp only [Act.put, List.setIfInBounds_toArray, List.set_cons_zero, List.set_cons_succ]
        refine Ord.stepR (v := ?_) (by rfl) ?_ ?_
        rotate_left
        · intro w' hSw
          go_simp
          try with_reducible rfl
        try simp only [Act.put, List.setIfInBounds_toArray, List.set_cons_zero, List.set_cons_succ]
        refine Ord.stepR (v := ?_) (by rfl) ?_ ?_
        rotate_left
        · intro w' hSw
          go_simp
          try with_reducible rfl
        try simp only [Act.put, List.setIfInBounds_toArray, List.set_cons_zero, List.set_cons_succ]
        refine Ord.stepC (v := .bool false) (by rfl) ?_ (fun w1 hS => (ver_to (HVt.out _ HXN.out) (HTA.out) (HX.out) HQP.out HCP.out HZP.out (HZA.out) (HZX.out) w1 hS.2.1).mono fun e w2 h => ⟨h.1, hS.1.below h.2 (Nat.le_refl _), hS.2.1.below h.2 (Nat.le_refl _), hS.2.2.trans (h.2.mono hS.2.2.size)⟩) ?_
        · intro w' hSw
          go_simp
          try with_reducible rfl
        try simp only [Act.put, List.setIfInBounds_toArray, List.set_cons_zero, List.set_cons_succ]
        refine Ord.stepR (v := ?_) (by rfl) ?_ ?_
        rotate_left
        · intro w' hSw
          go_simp
          try with_reducible rfl
        try simp only [Act.put, List.setIfInBounds_toArray, List.set_cons_zero, List.set_cons_succ]
        refine Ord.stepR (v := ?_) (by rfl) ?_ ?_
        rotate_left
        · intro w' hSw
          go_simp
          try with_reducible rfl
        try simp only [Act.put, List.setIfInBounds_toArray, List.set_cons_zero, List.set_cons_succ]
        refine Ord.stepR (v := ?_) (by rfl) ?_ ?_
        rotate_left
        · intro w' hSw
          go_simp
          try with_reducible rfl
        try simp only [Act.put, List.setIfInBounds_toArray, List.set_cons_zero, List.set_cons_succ]
        refine Ord.stepR (v := ?_) (by rfl) ?_ ?_
        rotate_left
        · intro w' hSw
          go_simp
          try with_reducible rfl
        try simp only [Act.put, List.setIfInBounds_toArray, List.set_cons_zero, List.set_cons_succ]
        refine Ord.stepR (v := ?_) (by rfl) ?_ ?_
        rotate_left
        · intro w' hSw
          have hck := HCK.out _ hSw.1
          have hcj := HCJ.out _ hSw.1
          go_simp
          try with_reducible rfl
        try simp only [Act.put, List.setIfInBounds_toArray, List.set_cons_zero, List.set_cons_succ]
        refine Ord.stepR (v := ?_) (by rfl) ?_ ?_
        rotate_left
        · intro w' hSw
          go_simp
          try with_reducible rfl
        try simp only [Act.put, List.setIfInBounds_toArray, List.set_cons_zero, List.set_cons_succ]
        refine Ord.stepR (v := ?_) (by rfl) ?_ ?_
        rotate_left
        · intro w' hSw
          go_simp
          try with_reducible rfl
        try simp only [Act.put, List.setIfInBounds_toArray, List.set_cons_zero, List.set_cons_succ]
        refine Ord.stepR (v := ?_) (by rfl) ?_ ?_
        rotate_left
        · intro w' hSw
          go_simp
          try with_reducible rfl
        try simp only [Act.put, List.setIfInBounds_toArray, List.set_cons_zero, List.set_cons_succ]
        refine Ord.stepR (v := ?_) (by rfl) ?_ ?_
        rotate_left
        · intro w' hSw
          have hck := HCK.out _ hSw.1
          have hcj := HCJ.out _ hSw.1
          go_simp
          try with_reducible rfl
        try simp only [Act.put, List.setIfInBounds_toArray, List.set_cons_zero, List.set_cons_succ]
        refine Ord.stepR (v := ?_) (by rfl) ?_ ?_
        rotate_left
        · intro w' hSw
          go_simp
          try with_reducible rfl
        try simp only [Act.put, List.setIfInBounds_toArray, List.set_cons_zero, List.set_cons_succ]
        refine Ord.stepR (v := ?_) (by rfl) ?_ ?_
        rotate_left
        · intro w' hSw
          go_simp
          try with_reducible rfl
        try simp only [Act.put, List.setIfInBounds_toArray, List.set_cons_zero, List.set_cons_succ]
        refine Ord.stepR (v := ?_) (by rfl) ?_ ?_
        rotate_left
        · intro w' hSw
          go_simp
          try with_reducible rfl
        try simp only [Act.put, List.setIfInBounds_toArray, List.set_cons_zero, List.set_cons_succ]
        refine Ord.stepR (v := ?_) (by rfl) ?_ ?_
        rotate_left
        · intro w' hSw
          go_simp
          try with_reducible rfl
        try simp only [Act.put, List.setIfInBounds_toArray, List.set_cons_zero, List.set_cons_succ]
        refine Ord.stepR (v := ?_) (by rfl) ?_ ?_
        rotate_left
        · intro w' hSw
          go_simp
          try with_reducible rfl
        try simp only [Act.put, List.setIfInBounds_toArray, List.set_cons_zero, List.set_cons_succ]
        refine Ord.stepR (v := ?_) (by rfl) ?_ ?_
        rotate_left
        · intro w' hSw
          go_simp
          try with_reducible rfl
        try simp only [Act.put, List.setIfInBounds_toArray, List.set_cons_zero, List.set_cons_succ]
        refine Ord.stepR (v := ?_) (by rfl) ?_ ?_
        rotate_left
        · intro w' hSw
          go_simp
          try with_reducible rfl
        try simp only [Act.put, List.setIfInBounds_toArray, List.set_cons_zero, List.set_cons_succ]
        refine Ord.stepR (v := ?_) (by rfl) ?_ ?_
        rotate_left
        · intro w' hSw
          go_simp
          try with_reducible rfl
        try simp only [Act.put, List.setIfInBounds_toArray, List.set_cons_zero, List.set_cons_succ]
        refine Ord.stepR (v := ?_) (by rfl) ?_ ?_
        rotate_left
        · intro w' hSw
          have hck := HCK.out _ hSw.1
          have hcj := HCJ.out _ hSw.1
          go_simp
          try with_reducible rfl
        try simp only [Act.put, List.setIfInBounds_toArray, List.set_cons_zero, List.set_cons_succ]
        refine Ord.stepR (v := ?_) (by rfl) ?_ ?_
        rotate_left
        · intro w' hSw
          go_simp
          try with_reducible rfl
        try simp only [Act.put, List.setIfInBounds_toArray, List.set_cons_zero, List.set_cons_succ]
        refine Ord.stepC (v := .bool false) (by rfl) ?_ (fun w1 hS => (ver_to (HVt.out _ HJK.out) (HTA.out) (HJ.out) HQP.out HCP.out HZP.out (HZA.out) (HZJ.out) w1 hS.2.1).mono fun e w2 h => ⟨h.1, hS.1.below h.2 (Nat.le_refl _), hS.2.1.below h.2 (Nat.le_refl _), hS.2.2.trans (h.2.mono hS.2.2.size)⟩) ?_
        · intro w' hSw
          go_simp
          try with_reducible rfl
        try simp only [Act.put, List.setIfInBounds_toArray, List.set_cons_zero, List.set_cons_succ]
        refine Ord.stepR (v := ?_) (by rfl) ?_ ?_
        rotate_left
        · intro w' hSw
          go_simp
          try with_reducible rfl
        try simp only [Act.put, List.setIfInBounds_toArray, List.set_cons_zero, List.set_cons_succ]
        refine Ord.stepR (v := ?_) (by rfl) ?_ ?_
        rotate_left
        · intro w' hSw
          go_simp
          try with_reducible rfl
        try simp only [Act.put, List.setIfInBounds_toArray, List.set_cons_zero, List.set_cons_succ]
        refine Ord.stepR (v := ?_) (by rfl) ?_ ?_
        rotate_left
        · intro w' hSw
          go_simp
          try with_reducible rfl
        try simp only [Act.put, List.setIfInBounds_toArray, List.set_cons_zero, List.set_cons_succ]
        refine Ord.stepR (v := ?_) (by rfl) ?_ ?_
        rotate_left
        · intro w' hSw
          go_simp
          try with_reducible rfl
        try simp only [Act.put, List.setIfInBounds_toArray, List.set_cons_zero, List.set_cons_succ]
        refine Ord.stepR (v := ?_) (by rfl) ?_ ?_
        rotate_left
        · intro w' hSw
          go_simp
          try with_reducible rfl
        try simp only [Act.put, List.setIfInBounds_toArray, List.set_cons_zero, List.set_cons_succ]
        refine Ord.stepR (v := ?_) (by rfl) ?_ ?_
        rotate_left
        · intro w' hSw
          go_simp
          try with_reducible rfl
        try simp only [Act.put, List.setIfInBounds_toArray, List.set_cons_zero, List.set_cons_succ]
        refine Ord.stepR (v := ?_) (by rfl) ?_ ?_
        rotate_left
        · intro w' hSw
          go_simp
          try with_reducible rfl
        try simp only [Act.put, List.setIfInBounds_toArray, List.set_cons_zero, List.set_cons_succ]
        refine Ord.stepR (v := ?_) (by rfl) ?_ ?_
        rotate_left
        · intro w' hSw
          go_simp
          try with_reducible rfl
        try simp only [Act.put, List.setIfInBounds_toArray, List.set_cons_zero, List.set_cons_succ]
        refine Ord.stepR (v := ?_) (by rfl) ?_ ?_
        rotate_left
        · intro w' hSw
          go_simp
          try with_reducible rfl
        try simp only [Act.put, List.setIfInBounds_toArray, List.set_cons_zero, List.set_cons_succ]
        refine Ord.stepR (v := ?_) (by rfl) ?_ ?_
        rotate_left
        · intro w' hSw
          have hck := HCK.out _ hSw.1
          have hcj := HCJ.out _ hSw.1
          go_simp
          try with_reducible rfl
        try simp only [Act.put, List.setIfInBounds_toArray, List.set_cons_zero, List.set_cons_succ]
        refine Ord.stepR (v := ?_) (by rfl) ?_ ?_
        rotate_left
        · intro w' hSw
          go_simp
          try with_reducible rfl
        try simp only [Act.put, List.setIfInBounds_toArray, List.set_cons_zero, List.set_cons_succ]
        refine Ord.stepC (v := .bool false) (by rfl) ?_ (fun w1 hS => (ver_to (ver_place (x := xa) (t := la.getD ij []) (p := P) (n := (YX.length : Int)) (i := (YX.length : Int)) (by omega)) (HTA.out) (HK.out) HQP.out HCP.out HZP.out (HZA.out) (HZK.out) w1 hS.2.1).mono fun e w2 h => ⟨h.1, hS.1.below h.2 (Nat.le_refl _), hS.2.1.below h.2 (Nat.le_refl _), hS.2.2.trans (h.2.mono hS.2.2.size)⟩) ?_
        · intro w' hSw
          go_simp
          try with_reducible rfl
        try simp only [Act.put, List.setIfInBounds_toArray, List.set_cons_zero, List.set_cons_succ]
        refine Ord.stepR (v := ?_) (by rfl) ?_ ?_
        rotate_left
        · intro w' hSw
          go_simp
          try with_reducible rfl
        try simp only [Act.put, List.setIfInBounds_toArray, List.set_cons_zero, List.set_cons_succ]
        refine Ord.stepR (v := ?_) (by rfl) ?_ ?_
        rotate_left
        · intro w' hSw
          go_simp
          try with_reducible rfl
        try simp only [Act.put, List.setIfInBounds_toArray, List.set_cons_zero, List.set_cons_succ]
        refine Ord.stepR (v := ?_) (by rfl) ?_ ?_
        rotate_left
        · intro w' hSw
          go_simp
          try with_reducible rfl
        try simp only [Act.put, List.setIfInBounds_toArray, List.set_cons_zero, List.set_cons_succ]
        refine Ord.stepR (v := ?_) (by rfl) ?_ ?_
        rotate_left
        · intro w' hSw
          go_simp
          try with_reducible rfl
        try simp only [Act.put, List.setIfInBounds_toArray, List.set_cons_zero, List.set_cons_succ]
        refine Ord.stepR (v := ?_) (by rfl) ?_ ?_
        rotate_left
        · intro w' hSw
          go_simp
          try with_reducible rfl
        try simp only [Act.put, List.setIfInBounds_toArray, List.set_cons_zero, List.set_cons_succ]
        refine Ord.stepR (v := ?_) (by rfl) ?_ ?_
        rotate_left
        · intro w' hSw
          go_simp
          try with_reducible rfl
        try simp only [Act.put, List.setIfInBounds_toArray, List.set_cons_zero, List.set_cons_succ]
        refine Ord.stepR (v := ?_) (by rfl) ?_ ?_
        rotate_left
        · intro w' hSw
          go_simp
          try with_reducible rfl
        try simp only [Act.put, List.setIfInBounds_toArray, List.set_cons_zero, List.set_cons_succ]
        refine Ord.stepR (v := ?_) (by rfl) ?_ ?_
        rotate_left
        · intro w' hSw
          have hck := HCK.out _ hSw.1
          have hcj := HCJ.out _ hSw.1
          go_simp
          try with_reducible rfl
        try simp only [Act.put, List.setIfInBounds_toArray, List.set_cons_zero, List.set_cons_succ]
        refine Ord.stepR (v := ?_) (by rfl) ?_ ?_
        rotate_left
        · intro w' hSw
          go_simp
          try with_reducible rfl
        try simp only [Act.put, List.setIfInBounds_toArray, List.set_cons_zero, List.set_cons_succ]
        refine Ord.stepC (v := .bool false) (by rfl) ?_ (fun w1 hS => (ver_to (ver_place (x := xa) (t := la.getD ij []) (p := P) (n := (YX.length : Int)) (i := -1) (by omega)) (HTA.out) (HK.out) HQP.out HCP.out HZP.out (HZA.out) (HZK.out) w1 hS.2.1).mono fun e w2 h => ⟨h.1, hS.1.below h.2 (Nat.le_refl _), hS.2.1.below h.2 (Nat.le_refl _), hS.2.2.trans (h.2.mono hS.2.2.size)⟩) ?_
        · intro w' hSw
          go_simp
          try with_reducible rfl
        try simp only [Act.put, List.setIfInBounds_toArray, List.set_cons_zero, List.set_cons_succ]
        refine Ord.stepR (v := ?_) (by rfl) ?_ ?_
        rotate_left
        · intro w' hSw
          go_simp
          try with_reducible rfl
        try simp only [Act.put, List.setIfInBounds_toArray, List.set_cons_zero, List.set_cons_succ]
        refine Ord.stepR (v := ?_) (by rfl) ?_ ?_
        rotate_left
        · intro w' hSw
          go_simp
          try with_reducible rfl
        try simp only [Act.put, List.setIfInBounds_toArray, List.set_cons_zero, List.set_cons_succ]
        have hcat : ¬ 9223372036854775807 < 1 + TA.size := by have := HTA4.out; omega
        have hcat2 : ¬ 9223372036854775807 < 1 + K.size := by have := HZK1.out; omega
        refine Ord.stepR (v := ?_) (by rfl) ?_ ?_
        rotate_left
        · intro w' hSw
          go_simp
          try with_reducible rfl
        try simp only [Act.put, List.setIfInBounds_toArray, List.set_cons_zero, List.set_cons_succ]
        refine Ord.stepR (v := ?_) (by rfl) ?_ ?_
        rotate_left
        · intro w' hSw
          go_simp
          try with_reducible rfl
        try simp only [Act.put, List.setIfInBounds_toArray, List.set_cons_zero, List.set_cons_succ]
        refine Ord.stepR (v := ?_) (by rfl) ?_ ?_
        rotate_left
        · intro w' hSw
          go_simp
          try with_reducible rfl
        try simp only [Act.put, List.setIfInBounds_toArray, List.set_cons_zero, List.set_cons_succ]
        refine Ord.stepR (v := ?_) (by rfl) ?_ ?_
        rotate_left
        · intro w' hSw
          go_simp
          try with_reducible rfl
        try simp only [Act.put, List.setIfInBounds_toArray, List.set_cons_zero, List.set_cons_succ]
        refine Ord.stepR (v := ?_) (by rfl) ?_ ?_
        rotate_left
        · intro w' hSw
          go_simp
          try with_reducible rfl
        try simp only [Act.put, List.setIfInBounds_toArray, List.set_cons_zero, List.set_cons_succ]
        refine Ord.stepR (v := ?_) (by rfl) ?_ ?_
        rotate_left
        · intro w' hSw
          go_simp
          try with_reducible rfl
        try simp only [Act.put, List.setIfInBounds_toArray, List.set_cons_zero, List.set_cons_succ]
        refine Ord.stepR (v := ?_) (by rfl) ?_ ?_
        rotate_left
        · intro w' hSw
          go_simp
          try with_reducible rfl
        try simp only [Act.put, List.setIfInBounds_toArray, List.set_cons_zero, List.set_cons_succ]
        refine Ord.stepR (v := ?_) (by rfl) ?_ ?_
        rotate_left
        · intro w' hSw
          have hck := HCK.out _ hSw.1
          have hcj := HCJ.out _ hSw.1
          go_simp
          try with_reducible rfl
        try simp only [Act.put, List.setIfInBounds_toArray, List.set_cons_zero, List.set_cons_succ]
        refine Ord.stepR (v := ?_) (by rfl) ?_ ?_
        rotate_left
        · intro w' hSw
          go_simp
          try with_reducible rfl
        try simp only [Act.put, List.setIfInBounds_toArray, List.set_cons_zero, List.set_cons_succ]
        refine Ord.stepC (v := .bool false) (by rfl) ?_ (fun w1 hS => (ver_to (HVh.out) ((show ((⟨#[104]⟩ : ByteArray) ++ TA).data.toList = 104 :: xa by rw [app_data, HTA.out]; rfl)) (HK.out) HQP.out HCP.out HZP.out (by rw [Lib.size_eq, app_data, List.length_append, ← Lib.size_eq, ← Lib.size_eq]; have : (⟨#[104]⟩ : ByteArray).size = 1 := rfl; have := HTA4.out; omega) (HZK.out) w1 hS.2.1).mono fun e w2 h => ⟨h.1, hS.1.below h.2 (Nat.le_refl _), hS.2.1.below h.2 (Nat.le_refl _), hS.2.2.trans (h.2.mono hS.2.2.size)⟩) ?_
        · intro w' hSw
          go_simp
          try with_reducible rfl
        try simp only [Act.put, List.setIfInBounds_toArray, List.set_cons_zero, List.set_cons_succ]
        refine Ord.stepR (v := ?_) (by rfl) ?_ ?_
        rotate_left
        · intro w' hSw
          go_simp
          try with_reducible rfl
        try simp only [Act.put, List.setIfInBounds_toArray, List.set_cons_zero, List.set_cons_succ]
        refine Ord.stepR (v := ?_) (by rfl) ?_ ?_
        rotate_left
        · intro w' hSw
          go_simp
          try with_reducible rfl
        try simp only [Act.put, List.setIfInBounds_toArray, List.set_cons_zero, List.set_cons_succ]
        refine Ord.stepR (v := ?_) (by rfl) ?_ ?_
        rotate_left
        · intro w' hSw
          go_simp
          try with_reducible rfl
        try simp only [Act.put, List.setIfInBounds_toArray, List.set_cons_zero, List.set_cons_succ]
        refine Ord.stepR (v := ?_) (by rfl) ?_ ?_
        rotate_left
        · intro w' hSw
          go_simp
          try with_reducible rfl
        try simp only [Act.put, List.setIfInBounds_toArray, List.set_cons_zero, List.set_cons_succ]
        refine Ord.stepR (v := ?_) (by rfl) ?_ ?_
        rotate_left
        · intro w' hSw
          go_simp
          try with_reducible rfl
        try simp only [Act.put, List.setIfInBounds_toArray, List.set_cons_zero, List.set_cons_succ]
        refine Ord.stepR (v := ?_) (by rfl) ?_ ?_
        rotate_left
        · intro w' hSw
          go_simp
          try with_reducible rfl
        try simp only [Act.put, List.setIfInBounds_toArray, List.set_cons_zero, List.set_cons_succ]
        refine Ord.stepR (v := ?_) (by rfl) ?_ ?_
        rotate_left
        · intro w' hSw
          go_simp
          try with_reducible rfl
        try simp only [Act.put, List.setIfInBounds_toArray, List.set_cons_zero, List.set_cons_succ]
        refine Ord.stepR (v := ?_) (by rfl) ?_ ?_
        rotate_left
        · intro w' hSw
          go_simp
          try with_reducible rfl
        try simp only [Act.put, List.setIfInBounds_toArray, List.set_cons_zero, List.set_cons_succ]
        refine Ord.stepR (v := ?_) (by rfl) ?_ ?_
        rotate_left
        · intro w' hSw
          have hck := HCK.out _ hSw.1
          have hcj := HCJ.out _ hSw.1
          go_simp
          try with_reducible rfl
        try simp only [Act.put, List.setIfInBounds_toArray, List.set_cons_zero, List.set_cons_succ]
        refine Ord.stepR (v := ?_) (by rfl) ?_ ?_
        rotate_left
        · intro w' hSw
          go_simp
          try with_reducible rfl
        try simp only [Act.put, List.setIfInBounds_toArray, List.set_cons_zero, List.set_cons_succ]
        refine Ord.stepR (v := ?_) (by rfl) ?_ ?_
        rotate_left
        · intro w' hSw
          go_simp
          try with_reducible rfl
        try simp only [Act.put, List.setIfInBounds_toArray, List.set_cons_zero, List.set_cons_succ]
        refine Ord.stepC (v := .bool false) (by rfl) ?_ (fun w1 hS => (ver_to (HVt.out (104 :: la.getD ij []) (fun e => by have := congrArg List.length e; rw [List.length_cons] at this; omega)) (HTA.out) ((show ((⟨#[104]⟩ : ByteArray) ++ K).data.toList = 104 :: la.getD ij [] by rw [app_data, HK.out]; rfl)) HQP.out HCP.out HZP.out (HZA.out) (by rw [Lib.size_eq, app_data, List.length_append, ← Lib.size_eq, ← Lib.size_eq]; have : (⟨#[104]⟩ : ByteArray).size = 1 := rfl; have := HZK1.out; omega) w1 hS.2.1).mono fun e w2 h => ⟨h.1, hS.1.below h.2 (Nat.le_refl _), hS.2.1.below h.2 (Nat.le_refl _), hS.2.2.trans (h.2.mono hS.2.2.size)⟩) ?_
        · intro w' hSw
          go_simp
          try with_reducible rfl
        try simp only [Act.put, List.setIfInBounds_toArray, List.set_cons_zero, List.set_cons_succ]
        refine Ord.stepR (v := ?_) (by rfl) ?_ ?_
        rotate_left
        · intro w' hSw
          go_simp
          try with_reducible rfl
        try simp only [Act.put, List.setIfInBounds_toArray, List.set_cons_zero, List.set_cons_succ]
        refine Ord.stepD fun Z hZ => ?_
        replace HRX := Lib.hid hZ.1
        replace HRP := Lib.hid hZ.2.1
        have HB7 := Lib.hid (Bel.call HB6.out hZ.2.2)
        clear hZ hcat hcat2
        go_wp2_with fail
        with_reducible refine (HPM.out YP HPQ.out (by have := HP3.out; omega) _).mono ?_
        rintro e v4 ⟨rfl, hv4⟩
        obtain rfl : Z = v4 := hv4.symm
        dsimp only
        go_wp2_with (first
          | (at_builtin
             refine append_strs rfl _ _ rfl Z.heap.size (.slice (some ⟨Z.heap.size, 0, none⟩) 0 0) 0 [] YP rfl ?c1 (rfl) (some ⟨gP, oP, none⟩) YP.length cP rfl (rfl) ((fun h => by cases h)) ?c2 ?c3 ?c4 ?_
             case c1 => exact own_empty Z
             case c2 => exact HRP.out.below ((Below.refl _ Z).alloc (Nat.le_refl _) _) (Nat.le_refl _)
             case c3 => have := HP3.out; omega
             case c4 => simp
             intro vC wC hown hb
             have HOC := Lib.hid hown
             have HXC := Lib.hid hb
             clear hown hb
             have hpm := pk_lt what (n := YP.length) HPQ.out
             generalize pk what YP.length = mm at hpm ⊢
             obtain ⟨p', hp'⟩ : ∃ p', YP.length = p' + 1 := ⟨YP.length - 1, by have := HPQ.out; omega⟩
             have hoC0 : wC.ownsRow Z.heap.size 9 1 vC (p' + 1) (sv YP) := by have := HOC.out; rw [hp', show 0 + (p' + 1) = p' + 1 by omega] at this; simpa using this
             obtain ⟨gC, cC, rfl⟩ := ownsRow_succ hoC0
             have HOW := Lib.hid hoC0
             have hgC := (hoC0.lt gC rfl).1
             have hbC : Below Z.heap.size Z wC := ((Below.refl _ Z).alloc (Nat.le_refl _) _).trans HXC.out
             have HP' := Lib.hid hp'
             have hmm : mm < p' + 1 := by omega
             have hm1 : (mm : Int) < (p' : Int) + 1 := by omega
             have hm0 : (0 : Int) ≤ (mm : Int) := Int.natCast_nonneg mm
             clear hoC0 HOC HXC hp' hpm
             have hget := own_get HOW.out HP'.out hmm
             have hfz := own_frozen HOW.out mm
             obtain ⟨M, hM⟩ : ∃ M, YP.getD mm ByteArray.empty = M := ⟨_, rfl⟩
             rw [hM] at hget
             have HM : Hid (M.data.toList = P.getD mm []) := Lib.hid (by rw [← hM, getD_bl, HQP.out])
             have hZM : M.size ≤ 140737488355328 := HZP.out _ (by rw [← hM, List.getD, List.getElem?_eq_getElem (by rw [HP'.out]; exact hmm)]; exact List.getElem_mem _)
             have hcat3 : ¬ 9223372036854775807 < 1 + M.size := by omega
             clear hM))
        obtain ⟨O, hO⟩ : ∃ O, (⟨#[104]⟩ : ByteArray) ++ M = O := ⟨_, rfl⟩
        have HO : Hid (O.data.toList = 104 :: P.getD mm []) := Lib.hid (by rw [← hO, app_data, HM.out]; rfl)
        have hZO : O.size ≤ 140737488355328 := by rw [Lib.size_eq, HO.out, List.length_cons, ← HM.out, ← Lib.size_eq]; have := HM4.out mm; rw [← HM.out, ← Lib.size_eq] at this; omega
        rw [hO]
        clear hO
        have hst : (wC.setCell ⟨gC, mm, none⟩ (.string O)).ownsRow Z.heap.size 9 1 (.slice (some ⟨gC, 0, none⟩) (p' + 1) cC) (p' + 1) (sv (YP.set mm O)) := by have := (HOW.out.stored mm (.string O)).1; rwa [sv_set] at this
        have hbS : Below Z.heap.size Z (wC.setCell ⟨gC, mm, none⟩ (.string O)) := hbC.setCell hgC _
        generalize wC.setCell ⟨gC, mm, none⟩ (.string O) = wS at hst hbS ⊢
        have HB8 := Lib.hid (Bel.call HB7.out hbS)
        replace HRX := Lib.hid (HRX.out.below hbS (Nat.le_refl _))
        replace HRP := Lib.hid (HRP.out.below hbS (Nat.le_refl _))
        have HCM : Hid (cC ≤ 9223372036854775807) := Lib.hid (own_cap HOW.out)
        clear hbS hbC hgC HOW hget hfz hcat3
        obtain ⟨hrC, _, hcC⟩ := sreads_own hst
        have HRC := Lib.hid hrC
        have hset : bl (YP.set mm O) = P.set mm (104 :: P.getD mm []) := by rw [bl_set, HQP.out, HO.out]
        have hlen : (YP.set mm O).length = p' + 1 := by rw [List.length_set, HP'.out]
        have hPl : P.length = p' + 1 := by rw [← HPL.out, HP'.out]
        have hzS : ∀ y ∈ YP.set mm O, y.size ≤ 140737488355328 := fun y h => by rcases List.mem_or_eq_of_mem_set h with h | rfl; exact HZP.out y h; exact hZO
        have HVQ : Hid (∀ w', SReads w' (some ⟨gC, 0, none⟩) (YP.set mm O) → Calls Try.prog 18 #[.string TA, .int .i64 (YX.length : Int), .int .i64 (ij : Int), .string K, .slice (some ⟨gC, 0, none⟩) (p' + 1) cC] w' fun e w'' => e = .returned (.bool false) ∧ Below w'.heap.size w' w'') := Lib.hid fun w' h => by
          have := ver_to (HVp.out _ (set_ne (m := mm) (by omega))) HTA.out HK.out hset (A := some ⟨gC, 0, none⟩) (c := cC) ⟨by omega, HCM.out⟩ hzS HZA.out HZK.out w' h
          rw [hlen] at this
          exact this
        clear hset hlen hPl hzS hrC hcC hst hZO hZM hm0 hm1 hmm
        have hp1 : (1 : Int) ≤ (YP.length : Int) := by have := HPQ.out; omega
        have hp2 : (YP.length : Int) ≤ (cP : Int) := by have := HCP.out; omega
        have hp4 : (1 : Int) ≤ (cP : Int) := by omega
        go_wp2_with fail
        refine wp_region_held_drew (S := fun w' => w'.cell? ⟨gX, oX + ij, none⟩ = some (.string K)) (by kernel_rfl) (HCK.out _ (HRX.out.below (Below.drewN' (Below.refl wS.heap.size wS) 1) (Nat.le_refl _))) (fun hHeld => ?_)
        have hdr := Below.drewN' (Below.refl wS.heap.size wS) 1
        obtain ⟨wd, hwd⟩ : ∃ wd, wS.drew = wd := ⟨_, rfl⟩
        have hdr2 : Below wS.heap.size wS wd := by rw [← hwd]; exact hdr
        rw [hwd] at hHeld ⊢
        clear hdr hwd
        have HB9 := Lib.hid (Bel.call HB8.out hdr2)
        replace HRX := Lib.hid (HRX.out.below hdr2 (Nat.le_refl _))
        replace HRP := Lib.hid (HRP.out.below hdr2 (Nat.le_refl _))
        replace HRC := Lib.hid (HRC.out.below hdr2 (Nat.le_refl _))
        clear hdr2
        refine wpAnyH_take (i := 0) (v := ?_) (by rw [List.getElem?_toArray]; rfl) (by kernel_rfl) (by kernel_rfl) (by kernel_rfl) (by exact fun _ _ _ h => h) (Or.inl ⟨by rfl, ?_⟩) (by assumption) ?_
        rotate_left
        · intro w' hSw
          go_simp
          try with_reducible rfl
        try simp only [Act.put, List.setIfInBounds_toArray, List.set_cons_zero, List.set_cons_succ]
        refine wpAnyH_take (i := 1) (v := ?_) (by rw [List.getElem?_toArray]; rfl) (by kernel_rfl) (by kernel_rfl) (by kernel_rfl) (by exact fun _ _ _ h => h) (Or.inl ⟨by rfl, ?_⟩) (by assumption) ?_
        rotate_left
        · intro w' hSw
          go_simp
          try with_reducible rfl
        try simp only [Act.put, List.setIfInBounds_toArray, List.set_cons_zero, List.set_cons_succ]
        refine wpAnyH_take (i := 2) (v := ?_) (by rw [List.getElem?_toArray]; rfl) (by kernel_rfl) (by kernel_rfl) (by kernel_rfl) (by exact fun _ _ _ h => h) (Or.inl ⟨by rfl, ?_⟩) (by assumption) ?_
        rotate_left
        · intro w' hSw
          go_simp
          try with_reducible rfl
        try simp only [Act.put, List.setIfInBounds_toArray, List.set_cons_zero, List.set_cons_succ]
        refine wpAnyH_take (i := 3) (v := ?_) (by rw [List.getElem?_toArray]; rfl) (by kernel_rfl) (by kernel_rfl) (by kernel_rfl) (by exact fun _ _ _ h => h) (Or.inl ⟨by rfl, ?_⟩) (by assumption) ?_
        rotate_left
        · intro w' hSw
          go_simp
          try with_reducible rfl
        try simp only [Act.put, List.setIfInBounds_toArray, List.set_cons_zero, List.set_cons_succ]
        refine wpAnyH_take (i := 4) (v := ?_) (by rw [List.getElem?_toArray]; rfl) (by kernel_rfl) (by kernel_rfl) (by kernel_rfl) (by exact fun _ _ _ h => h) (Or.inl ⟨by rfl, ?_⟩) (by assumption) ?_
        rotate_left
        · intro w' hSw
          go_simp
          try with_reducible rfl
        try simp only [Act.put, List.setIfInBounds_toArray, List.set_cons_zero, List.set_cons_succ]
        refine wpAnyH_take (i := 5) (v := ?_) (by rw [List.getElem?_toArray]; rfl) (by kernel_rfl) (by kernel_rfl) (by kernel_rfl) (by exact fun _ _ _ h => h) (Or.inl ⟨by rfl, ?_⟩) (by assumption) ?_
        rotate_left
        · intro w' hSw
          go_simp
          try with_reducible rfl
        try simp only [Act.put, List.setIfInBounds_toArray, List.set_cons_zero, List.set_cons_succ]
        refine wpAnyH_take (i := 6) (v := ?_) (by rw [List.getElem?_toArray]; rfl) (by kernel_rfl) (by kernel_rfl) (by kernel_rfl) (by exact fun _ _ _ h => h) (Or.inl ⟨by rfl, ?_⟩) (by assumption) ?_
        rotate_left
        · intro w' hSw
          go_simp
          try with_reducible rfl
        try simp only [Act.put, List.setIfInBounds_toArray, List.set_cons_zero, List.set_cons_succ]
        refine wpAnyH_take (i := 7) (v := ?_) (by rw [List.getElem?_toArray]; rfl) (by kernel_rfl) (by kernel_rfl) (by kernel_rfl) (by exact fun _ _ _ h => h) (Or.inl ⟨by rfl, ?_⟩) (by assumption) ?_
        rotate_left
        · intro w' hSw
          go_simp
          try with_reducible rfl
        try simp only [Act.put, List.setIfInBounds_toArray, List.set_cons_zero, List.set_cons_succ]
        refine wpAnyH_ready (rs := [8]) (by kernel_rfl) (by simp) ?_
        refine AllReadyH.cons (by rw [List.getElem?_toArray]; rfl) (fun Kn hK => ?_) AllReadyH.nil
        go_simp
        go_at_call 18
        with_reducible refine (HVQ.out _ HRC.out).mono ?_
        rintro e w10 ⟨rfl, hb10⟩
        have HB10 := Lib.hid (Bel.call HB9.out hb10)
        replace HRX := Lib.hid (HRX.out.below hb10 (Nat.le_refl _))
        replace HRP := Lib.hid (HRP.out.below hb10 (Nat.le_refl _))
        replace HRC := Lib.hid (HRC.out.below hb10 (Nat.le_refl _))
        clear hb10
        dsimp only
        refine hK.out _ _ (HCK.out _ HRX.out) (fun hHeld => ?_)
        try simp only [Act.put, List.setIfInBounds_toArray, List.set_cons_zero, List.set_cons_succ]
        clear HRC HVQ
        refine wpAnyH_take (i := 9) (v := ?_) (by rw [List.getElem?_toArray]; rfl) (by kernel_rfl) (by kernel_rfl) (by kernel_rfl) (by exact fun _ _ _ h => h) (Or.inl ⟨by rfl, ?_⟩) (by assumption) ?_
        rotate_left
        · intro w' hSw
          go_simp
          try with_reducible rfl
        try simp only [Act.put, List.setIfInBounds_toArray, List.set_cons_zero, List.set_cons_succ]
        refine wpAnyH_take (i := 10) (v := ?_) (by rw [List.getElem?_toArray]; rfl) (by kernel_rfl) (by kernel_rfl) (by kernel_rfl) (by exact fun _ _ _ h => h) (Or.inl ⟨by rfl, ?_⟩) (by assumption) ?_
        rotate_left
        · intro w' hSw
          go_simp
          try with_reducible rfl
        try simp only [Act.put, List.setIfInBounds_toArray, List.set_cons_zero, List.set_cons_succ]
        refine wpAnyH_take (i := 11) (v := ?_) (by rw [List.getElem?_toArray]; rfl) (by kernel_rfl) (by kernel_rfl) (by kernel_rfl) (by exact fun _ _ _ h => h) (Or.inl ⟨by rfl, ?_⟩) (by assumption) ?_
        rotate_left
        · intro w' hSw
          go_simp
          try with_reducible rfl
        try simp only [Act.put, List.setIfInBounds_toArray, List.set_cons_zero, List.set_cons_succ]
        refine wpAnyH_take (i := 12) (v := ?_) (by rw [List.getElem?_toArray]; rfl) (by kernel_rfl) (by kernel_rfl) (by kernel_rfl) (by exact fun _ _ _ h => h) (Or.inl ⟨by rfl, ?_⟩) (by assumption) ?_
        rotate_left
        · intro w' hSw
          go_simp
          try with_reducible rfl
        try simp only [Act.put, List.setIfInBounds_toArray, List.set_cons_zero, List.set_cons_succ]
        refine wpAnyH_take (i := 13) (v := ?_) (by rw [List.getElem?_toArray]; rfl) (by kernel_rfl) (by kernel_rfl) (by kernel_rfl) (by exact fun _ _ _ h => h) (Or.inl ⟨by rfl, ?_⟩) (by assumption) ?_
        rotate_left
        · intro w' hSw
          go_simp
          try with_reducible rfl
        try simp only [Act.put, List.setIfInBounds_toArray, List.set_cons_zero, List.set_cons_succ]
        refine wpAnyH_take (i := 14) (v := ?_) (by rw [List.getElem?_toArray]; rfl) (by kernel_rfl) (by kernel_rfl) (by kernel_rfl) (by exact fun _ _ _ h => h) (Or.inl ⟨by rfl, ?_⟩) (by assumption) ?_
        rotate_left
        · intro w' hSw
          go_simp
          try with_reducible rfl
        try simp only [Act.put, List.setIfInBounds_toArray, List.set_cons_zero, List.set_cons_succ]
        refine wpAnyH_take (i := 15) (v := ?_) (by rw [List.getElem?_toArray]; rfl) (by kernel_rfl) (by kernel_rfl) (by kernel_rfl) (by exact fun _ _ _ h => h) (Or.inl ⟨by rfl, ?_⟩) (by assumption) ?_
        rotate_left
        · intro w' hSw
          go_simp
          try with_reducible rfl
        try simp only [Act.put, List.setIfInBounds_toArray, List.set_cons_zero, List.set_cons_succ]
        refine wpAnyH_take (i := 16) (v := ?_) (by rw [List.getElem?_toArray]; rfl) (by kernel_rfl) (by kernel_rfl) (by kernel_rfl) (by exact fun _ _ _ h => h) (Or.inl ⟨by rfl, ?_⟩) (by assumption) ?_
        rotate_left
        · intro w' hSw
          go_simp
          try with_reducible rfl
        try simp only [Act.put, List.setIfInBounds_toArray, List.set_cons_zero, List.set_cons_succ]
        refine wpAnyH_take (i := 17) (v := ?_) (by rw [List.getElem?_toArray]; rfl) (by kernel_rfl) (by kernel_rfl) (by kernel_rfl) (by exact fun _ _ _ h => h) (Or.inl ⟨by rfl, ?_⟩) (by assumption) ?_
        rotate_left
        · intro w' hSw
          go_simp
          try with_reducible rfl
        try simp only [Act.put, List.setIfInBounds_toArray, List.set_cons_zero, List.set_cons_succ]
        refine wpAnyH_take (i := 18) (v := ?_) (by rw [List.getElem?_toArray]; rfl) (by kernel_rfl) (by kernel_rfl) (by kernel_rfl) (by exact fun _ _ _ h => h) (Or.inl ⟨by rfl, ?_⟩) (by assumption) ?_
        rotate_left
        · intro w' hSw
          go_simp
          try with_reducible rfl
        try simp only [Act.put, List.setIfInBounds_toArray, List.set_cons_zero, List.set_cons_succ]
        refine wpAnyH_take (i := 19) (v := ?_) (by rw [List.getElem?_toArray]; rfl) (by kernel_rfl) (by kernel_rfl) (by kernel_rfl) (by exact fun _ _ _ h => h) (Or.inl ⟨by rfl, ?_⟩) (by assumption) ?_
        rotate_left
        · intro w' hSw
          go_simp
          try with_reducible rfl
        try simp only [Act.put, List.setIfInBounds_toArray, List.set_cons_zero, List.set_cons_succ]
        generalize (if cP = 1 then some (⟨gP, oP, none⟩ : Addr) else some ⟨gP, oP + 1, none⟩) = AQ at HVT ⊢
        refine wpAnyH_ready (rs := [20]) (by kernel_rfl) (by simp) ?_
        refine AllReadyH.cons (by rw [List.getElem?_toArray]; rfl) (fun Kn hK => ?_) AllReadyH.nil
        go_simp
        go_at_call 18
        with_reducible refine (HVT.out _ HRP.out).mono ?_
        rintro e w11 ⟨rfl, hb11⟩
        have HB11 := Lib.hid (Bel.call HB10.out hb11)
        replace HRX := Lib.hid (HRX.out.below hb11 (Nat.le_refl _))
        replace HRP := Lib.hid (HRP.out.below hb11 (Nat.le_refl _))
        clear hb11
        dsimp only
        refine hK.out _ _ (HCK.out _ HRX.out) (fun hHeld => ?_)
        try simp only [Act.put, List.setIfInBounds_toArray, List.set_cons_zero, List.set_cons_succ]
        refine wpAnyH_take (i := 21) (v := ?_) (by rw [List.getElem?_toArray]; rfl) (by kernel_rfl) (by kernel_rfl) (by kernel_rfl) (by exact fun _ _ _ h => h) (Or.inl ⟨by rfl, ?_⟩) (by assumption) ?_
        rotate_left
        · intro w' hSw
          go_simp
          try with_reducible rfl
        try simp only [Act.put, List.setIfInBounds_toArray, List.set_cons_zero, List.set_cons_succ]
        refine wpAnyH_take (i := 22) (v := ?_) (by rw [List.getElem?_toArray]; rfl) (by kernel_rfl) (by kernel_rfl) (by kernel_rfl) (by exact fun _ _ _ h => h) (Or.inl ⟨by rfl, ?_⟩) (by assumption) ?_
        rotate_left
        · intro w' hSw
          go_simp
          try with_reducible rfl
        try simp only [Act.put, List.setIfInBounds_toArray, List.set_cons_zero, List.set_cons_succ]
        refine wpAnyH_take (i := 23) (v := ?_) (by rw [List.getElem?_toArray]; rfl) (by kernel_rfl) (by kernel_rfl) (by kernel_rfl) (by exact fun _ _ _ h => h) (Or.inl ⟨by rfl, ?_⟩) (by assumption) ?_
        rotate_left
        · intro w' hSw
          go_simp
          try with_reducible rfl
        try simp only [Act.put, List.setIfInBounds_toArray, List.set_cons_zero, List.set_cons_succ]
        refine wpAnyH_take (i := 24) (v := ?_) (by rw [List.getElem?_toArray]; rfl) (by kernel_rfl) (by kernel_rfl) (by kernel_rfl) (by exact fun _ _ _ h => h) (Or.inl ⟨by rfl, ?_⟩) (by assumption) ?_
        rotate_left
        · intro w' hSw
          go_simp
          try with_reducible rfl
        try simp only [Act.put, List.setIfInBounds_toArray, List.set_cons_zero, List.set_cons_succ]
        refine wpAnyH_take (i := 25) (v := ?_) (by rw [List.getElem?_toArray]; rfl) (by kernel_rfl) (by kernel_rfl) (by kernel_rfl) (by exact fun _ _ _ h => h) (Or.inl ⟨by rfl, ?_⟩) (by assumption) ?_
        rotate_left
        · intro w' hSw
          go_simp
          try with_reducible rfl
        try simp only [Act.put, List.setIfInBounds_toArray, List.set_cons_zero, List.set_cons_succ]
        refine wpAnyH_take (i := 26) (v := ?_) (by rw [List.getElem?_toArray]; rfl) (by kernel_rfl) (by kernel_rfl) (by kernel_rfl) (by exact fun _ _ _ h => h) (Or.inl ⟨by rfl, ?_⟩) (by assumption) ?_
        rotate_left
        · intro w' hSw
          go_simp
          try with_reducible rfl
        try simp only [Act.put, List.setIfInBounds_toArray, List.set_cons_zero, List.set_cons_succ]
        refine wpAnyH_take (i := 27) (v := ?_) (by rw [List.getElem?_toArray]; rfl) (by kernel_rfl) (by kernel_rfl) (by kernel_rfl) (by exact fun _ _ _ h => h) (Or.inl ⟨by rfl, ?_⟩) (by assumption) ?_
        rotate_left
        · intro w' hSw
          go_simp
          try with_reducible rfl
        try simp only [Act.put, List.setIfInBounds_toArray, List.set_cons_zero, List.set_cons_succ]
        refine wpAnyH_take (i := 28) (v := ?_) (by rw [List.getElem?_toArray]; rfl) (by kernel_rfl) (by kernel_rfl) (by kernel_rfl) (by exact fun _ _ _ h => h) (Or.inl ⟨by rfl, ?_⟩) (by assumption) ?_
        rotate_left
        · intro w' hSw
          go_simp
          try with_reducible rfl
        try simp only [Act.put, List.setIfInBounds_toArray, List.set_cons_zero, List.set_cons_succ]
        refine wpAnyH_take (i := 29) (v := ?_) (by rw [List.getElem?_toArray]; rfl) (by kernel_rfl) (by kernel_rfl) (by kernel_rfl) (by exact fun _ _ _ h => h) (Or.inl ⟨by rfl, ?_⟩) (by assumption) ?_
        rotate_left
        · intro w' hSw
          go_simp
          try with_reducible rfl
        try simp only [Act.put, List.setIfInBounds_toArray, List.set_cons_zero, List.set_cons_succ]
        refine wpAnyH_take (i := 30) (v := ?_) (by rw [List.getElem?_toArray]; rfl) (by kernel_rfl) (by kernel_rfl) (by kernel_rfl) (by exact fun _ _ _ h => h) (Or.inl ⟨by rfl, ?_⟩) (by assumption) ?_
        rotate_left
        · intro w' hSw
          go_simp
          try with_reducible rfl
        try simp only [Act.put, List.setIfInBounds_toArray, List.set_cons_zero, List.set_cons_succ]
        refine wpAnyH_take (i := 32) (v := ?_) (by rw [List.getElem?_toArray]; rfl) (by kernel_rfl) (by kernel_rfl) (by kernel_rfl) (by exact fun _ _ _ h => h) (Or.inl ⟨by rfl, ?_⟩) (by assumption) ?_
        rotate_left
        · intro w' hSw
          go_simp
          try with_reducible rfl
        try simp only [Act.put, List.setIfInBounds_toArray, List.set_cons_zero, List.set_cons_succ]
        refine wpAnyH_take (i := 34) (v := ?_) (by rw [List.getElem?_toArray]; rfl) (by kernel_rfl) (by kernel_rfl) (by kernel_rfl) (by exact fun _ _ _ h => h) (Or.inl ⟨by rfl, ?_⟩) (by assumption) ?_
        rotate_left
        · intro w' hSw
          go_simp
          try with_reducible rfl
        try simp only [Act.put, List.setIfInBounds_toArray, List.set_cons_zero, List.set_cons_succ]
        refine wpAnyH_ready (rs := [31, 35]) (by kernel_rfl) (by simp) ?_
        have HQ0 : Hid (Below w11.heap.size w11 w11) := Lib.hid (Below.refl _ _)
        refine AllReadyH.cons (by rw [List.getElem?_toArray]; rfl) (fun Kn hK => ?_) ?_
        · go_simp
          have hown := own_empty w11
          have hq1 : Below w11.heap.size w11 (w11.alloc (.cells #[] 9)) := HQ0.out.alloc HQ0.out.size _
          have hsz1 : (w11.alloc (.cells #[] 9)).heap.size = w11.heap.size + 1 := by simp
          generalize w11.alloc (.cells #[] 9) = u1_31 at hown hq1 hsz1 ⊢
          have HQu1_31 := Lib.hid hq1
          have HZu1_31 := Lib.hid hsz1
          have HOE := Lib.hid hown
          clear hown hq1 hsz1
          refine hK.out _ _ (HCK.out _ (HRX.out.below HQu1_31.out (Nat.le_refl _))) (fun hHeld => ?_)
          try simp only [Act.put, List.setIfInBounds_toArray, List.set_cons_zero, List.set_cons_succ]
          refine wpAnyH_ready (rs := [33, 35]) (by kernel_rfl) (by simp) ?_
          refine AllReadyH.cons (by rw [List.getElem?_toArray]; rfl) (fun Kn hK => ?_) ?_
          · rw [if_pos (by rfl)]
            refine wpo_append (.tmp 230) (.tmp 231) rfl w11.heap.size (.slice (some ⟨w11.heap.size, 0, none⟩) 0 0) 0 [] YP rfl ?c1 rfl ⟨gP, oP, none⟩ YP.length cP rfl rfl ?c2 ?c3 ?c4 ?_
            case c1 => exact HOE.out
            case c2 => exact HRP.out.below HQu1_31.out (Nat.le_refl _)
            case c3 => have := HP3.out; omega
            case c4 => have := HZu1_31.out; have := HQu1_31.out.size; omega
            intro vA u2_33 hown hb hkeep
            have HOA := Lib.hid hown
            have HQu2_33 : Hid (Below w11.heap.size w11 u2_33) := Lib.hid (HQu1_31.out.trans (hb.mono (by have := HZu1_31.out; have := HQu1_31.out.size; omega)))
            have HGu2_33 : Hid (u1_31.heap.size ≤ u2_33.heap.size) := Lib.hid hb.size
            clear hown hb hkeep
            refine hK.out _ _ (HCK.out _ (HRX.out.below HQu2_33.out (Nat.le_refl _))) (fun hHeld => ?_)
            try simp only [Act.put, List.setIfInBounds_toArray, List.set_cons_zero, List.set_cons_succ]
            refine wpAnyH_ready (rs := [35]) (by kernel_rfl) (by simp) ?_
            refine AllReadyH.cons (by rw [List.getElem?_toArray]; rfl) (fun Kn hK => ?_) AllReadyH.nil
            go_simp
            have ht1 := one_reads u2_33 TA u2_33.heap.size rfl
            have hq1 : Below w11.heap.size w11 (u2_33.alloc (.cells #[.string TA] 9)) := HQu2_33.out.alloc HQu2_33.out.size _
            have hsz1 : (u2_33.alloc (.cells #[.string TA] 9)).heap.size = u2_33.heap.size + 1 := by simp
            have hown := own_below HOA.out ((Below.refl _ u2_33).alloc (Nat.le_refl _) (.cells #[.string TA] 9)) (Nat.le_refl _)
            generalize u2_33.alloc (.cells #[.string TA] 9) = u3_35 at ht1 hq1 hsz1 hown ⊢
            have HQu3_35 := Lib.hid hq1
            have HZu3_35 := Lib.hid hsz1
            have HT := Lib.hid ht1
            clear ht1 hq1 hsz1
            replace HOA := Lib.hid hown
            clear hown
            refine hK.out _ _ (HCK.out _ (HRX.out.below HQu3_35.out (Nat.le_refl _))) (fun hHeld => ?_)
            try simp only [Act.put, List.setIfInBounds_toArray, List.set_cons_zero, List.set_cons_succ]
            refine wpAnyH_ready (rs := [36]) (by kernel_rfl) (by simp) ?_
            refine AllReadyH.cons (by rw [List.getElem?_toArray]; rfl) (fun Kn hK => ?_) AllReadyH.nil
            rw [if_pos (by rfl)]
            refine wpo_append (.tmp 232) (.tmp 234) rfl w11.heap.size vA (0 + YP.length) ([] ++ YP) [TA] rfl ?c1 (by simp) ⟨u2_33.heap.size, 0, none⟩ 1 1 rfl rfl ?c2 ?c3 ?c4 ?_
            case c1 => exact HOA.out
            case c2 => exact HT.out
            case c3 => have := HP3.out; simp only [List.length_cons, List.length_nil]; omega
            case c4 => have := HZu1_31.out; have := HZu3_35.out; have := HGu2_33.out; have := HQu3_35.out.size; omega
            intro vB u4_36 hown hb hkeep
            have HOB := Lib.hid hown
            have HQu4_36 : Hid (Below w11.heap.size w11 u4_36) := Lib.hid (HQu3_35.out.trans (hb.mono (by have := HZu1_31.out; have := HZu3_35.out; have := HGu2_33.out; have := HQu3_35.out.size; omega)))
            have HGu4_36 : Hid (u3_35.heap.size ≤ u4_36.heap.size) := Lib.hid hb.size
            clear hown hb hkeep
            refine hK.out _ _ (HCK.out _ (HRX.out.below HQu4_36.out (Nat.le_refl _))) (fun hHeld => ?_)
            try simp only [Act.put, List.setIfInBounds_toArray, List.set_cons_zero, List.set_cons_succ]
            have hoB : u4_36.ownsRow w11.heap.size 9 1 vB (YP ++ [TA]).length (sv (YP ++ [TA])) := by simpa using HOB.out
            obtain ⟨AB, cB, rfl, hrB, hcB, _⟩ := own_row (w0 := w11) hoB
            have HRB := Lib.hid hrB
            have HCB := Lib.hid hcB
            have hbq := HQu4_36.out
            have HB12 := Lib.hid (Bel.call HB11.out hbq)
            replace HRX := Lib.hid (HRX.out.below hbq (Nat.le_refl _))
            replace HRP := Lib.hid (HRP.out.below hbq (Nat.le_refl _))
            clear hbq hrB hcB hoB HOB HOA HT
            refine wpAnyH_ready (rs := [37]) (by kernel_rfl) (by simp) ?_
            refine AllReadyH.cons (by rw [List.getElem?_toArray]; rfl) (fun Kn hK => ?_) AllReadyH.nil
            go_simp
            go_at_call 18
            with_reducible refine (HVS.out AB cB _ HCB.out HRB.out).mono ?_
            rintro e w13 ⟨rfl, hb13⟩
            have HB13 := Lib.hid (Bel.call HB12.out hb13)
            replace HRX := Lib.hid (HRX.out.below hb13 (Nat.le_refl _))
            replace HRP := Lib.hid (HRP.out.below hb13 (Nat.le_refl _))
            replace HRB := Lib.hid (HRB.out.below hb13 (Nat.le_refl _))
            clear hb13
            dsimp only
            refine hK.out _ _ (HCK.out _ HRX.out) (fun hHeld => ?_)
            try simp only [Act.put, List.setIfInBounds_toArray, List.set_cons_zero, List.set_cons_succ]
            refine wpAnyH_take (i := 38) (v := ?_) (by rw [List.getElem?_toArray]; rfl) (by kernel_rfl) (by kernel_rfl) (by kernel_rfl) (by exact fun _ _ _ h => h) (Or.inl ⟨by rfl, ?_⟩) (by assumption) ?_
            rotate_left
            · intro w' hSw
              go_simp
              try with_reducible rfl
            try simp only [Act.put, List.setIfInBounds_toArray, List.set_cons_zero, List.set_cons_succ]
            refine wpAnyH_take (i := 39) (v := ?_) (by rw [List.getElem?_toArray]; rfl) (by kernel_rfl) (by kernel_rfl) (by kernel_rfl) (by exact fun _ _ _ h => h) (Or.inl ⟨by rfl, ?_⟩) (by assumption) ?_
            rotate_left
            · intro w' hSw
              go_simp
              try with_reducible rfl
            try simp only [Act.put, List.setIfInBounds_toArray, List.set_cons_zero, List.set_cons_succ]
            refine wpAnyH_take (i := 40) (v := ?_) (by rw [List.getElem?_toArray]; rfl) (by kernel_rfl) (by kernel_rfl) (by kernel_rfl) (by exact fun _ _ _ h => h) (Or.inl ⟨by rfl, ?_⟩) (by assumption) ?_
            rotate_left
            · intro w' hSw
              go_simp
              try with_reducible rfl
            try simp only [Act.put, List.setIfInBounds_toArray, List.set_cons_zero, List.set_cons_succ]
            refine wpAnyH_done (by kernel_rfl) ?_ _
            clear hHeld
            go_wp2
            all_goals (go_ret; exact ⟨rfl, HB13.out⟩)
          refine AllReadyH.cons (by rw [List.getElem?_toArray]; rfl) (fun Kn hK => ?_) AllReadyH.nil
          go_simp
          have ht1 := one_reads u1_31 TA u1_31.heap.size rfl
          have hq1 : Below w11.heap.size w11 (u1_31.alloc (.cells #[.string TA] 9)) := HQu1_31.out.alloc HQu1_31.out.size _
          have hsz1 : (u1_31.alloc (.cells #[.string TA] 9)).heap.size = u1_31.heap.size + 1 := by simp
          have hown := own_below HOE.out ((Below.refl _ u1_31).alloc (Nat.le_refl _) (.cells #[.string TA] 9)) (Nat.le_refl _)
          generalize u1_31.alloc (.cells #[.string TA] 9) = u2_35 at ht1 hq1 hsz1 hown ⊢
          have HQu2_35 := Lib.hid hq1
          have HZu2_35 := Lib.hid hsz1
          have HT := Lib.hid ht1
          clear ht1 hq1 hsz1
          replace HOE := Lib.hid hown
          clear hown
          refine hK.out _ _ (HCK.out _ (HRX.out.below HQu2_35.out (Nat.le_refl _))) (fun hHeld => ?_)
          try simp only [Act.put, List.setIfInBounds_toArray, List.set_cons_zero, List.set_cons_succ]
          refine wpAnyH_ready (rs := [33]) (by kernel_rfl) (by simp) ?_
          refine AllReadyH.cons (by rw [List.getElem?_toArray]; rfl) (fun Kn hK => ?_) AllReadyH.nil
          rw [if_pos (by rfl)]
          refine wpo_append (.tmp 230) (.tmp 231) rfl w11.heap.size (.slice (some ⟨w11.heap.size, 0, none⟩) 0 0) 0 [] YP rfl ?c1 rfl ⟨gP, oP, none⟩ YP.length cP rfl rfl ?c2 ?c3 ?c4 ?_
          case c1 => exact HOE.out
          case c2 => exact HRP.out.below HQu2_35.out (Nat.le_refl _)
          case c3 => have := HP3.out; omega
          case c4 => have := HZu1_31.out; have := HZu2_35.out; have := HQu2_35.out.size; omega
          intro vA u3_33 hown hb hkeep
          have HOA := Lib.hid hown
          have HQu3_33 : Hid (Below w11.heap.size w11 u3_33) := Lib.hid (HQu2_35.out.trans (hb.mono (by have := HZu1_31.out; have := HZu2_35.out; have := HQu2_35.out.size; omega)))
          have HGu3_33 : Hid (u2_35.heap.size ≤ u3_33.heap.size) := Lib.hid hb.size
          replace HT := Lib.hid (hkeep _ _ _ HT.out (by have := HZu1_31.out; have := HZu2_35.out; have := HQu2_35.out.size; simp only [Value.ownBlock]; intro e; injection e; omega))
          clear hown hb hkeep
          refine hK.out _ _ (HCK.out _ (HRX.out.below HQu3_33.out (Nat.le_refl _))) (fun hHeld => ?_)
          try simp only [Act.put, List.setIfInBounds_toArray, List.set_cons_zero, List.set_cons_succ]
          refine wpAnyH_ready (rs := [36]) (by kernel_rfl) (by simp) ?_
          refine AllReadyH.cons (by rw [List.getElem?_toArray]; rfl) (fun Kn hK => ?_) AllReadyH.nil
          rw [if_pos (by rfl)]
          refine wpo_append (.tmp 232) (.tmp 234) rfl w11.heap.size vA (0 + YP.length) ([] ++ YP) [TA] rfl ?c1 (by simp) ⟨u1_31.heap.size, 0, none⟩ 1 1 rfl rfl ?c2 ?c3 ?c4 ?_
          case c1 => exact HOA.out
          case c2 => exact HT.out
          case c3 => have := HP3.out; simp only [List.length_cons, List.length_nil]; omega
          case c4 => have := HZu1_31.out; have := HZu2_35.out; have := HGu3_33.out; have := HQu3_33.out.size; omega
          intro vB u4_36 hown hb hkeep
          have HOB := Lib.hid hown
          have HQu4_36 : Hid (Below w11.heap.size w11 u4_36) := Lib.hid (HQu3_33.out.trans (hb.mono (by have := HZu1_31.out; have := HZu2_35.out; have := HGu3_33.out; have := HQu3_33.out.size; omega)))
          have HGu4_36 : Hid (u3_33.heap.size ≤ u4_36.heap.size) := Lib.hid hb.size
          clear hown hb hkeep
          refine hK.out _ _ (HCK.out _ (HRX.out.below HQu4_36.out (Nat.le_refl _))) (fun hHeld => ?_)
          try simp only [Act.put, List.setIfInBounds_toArray, List.set_cons_zero, List.set_cons_succ]
          have hoB : u4_36.ownsRow w11.heap.size 9 1 vB (YP ++ [TA]).length (sv (YP ++ [TA])) := by simpa using HOB.out
          obtain ⟨AB, cB, rfl, hrB, hcB, _⟩ := own_row (w0 := w11) hoB
          have HRB := Lib.hid hrB
          have HCB := Lib.hid hcB
          have hbq := HQu4_36.out
          have HB12 := Lib.hid (Bel.call HB11.out hbq)
          replace HRX := Lib.hid (HRX.out.below hbq (Nat.le_refl _))
          replace HRP := Lib.hid (HRP.out.below hbq (Nat.le_refl _))
          clear hbq hrB hcB hoB HOB HOA HT
          refine wpAnyH_ready (rs := [37]) (by kernel_rfl) (by simp) ?_
          refine AllReadyH.cons (by rw [List.getElem?_toArray]; rfl) (fun Kn hK => ?_) AllReadyH.nil
          go_simp
          go_at_call 18
          with_reducible refine (HVS.out AB cB _ HCB.out HRB.out).mono ?_
          rintro e w13 ⟨rfl, hb13⟩
          have HB13 := Lib.hid (Bel.call HB12.out hb13)
          replace HRX := Lib.hid (HRX.out.below hb13 (Nat.le_refl _))
          replace HRP := Lib.hid (HRP.out.below hb13 (Nat.le_refl _))
          replace HRB := Lib.hid (HRB.out.below hb13 (Nat.le_refl _))
          clear hb13
          dsimp only
          refine hK.out _ _ (HCK.out _ HRX.out) (fun hHeld => ?_)
          try simp only [Act.put, List.setIfInBounds_toArray, List.set_cons_zero, List.set_cons_succ]
          refine wpAnyH_take (i := 38) (v := ?_) (by rw [List.getElem?_toArray]; rfl) (by kernel_rfl) (by kernel_rfl) (by kernel_rfl) (by exact fun _ _ _ h => h) (Or.inl ⟨by rfl, ?_⟩) (by assumption) ?_
          rotate_left
          · intro w' hSw
            go_simp
            try with_reducible rfl
          try simp only [Act.put, List.setIfInBounds_toArray, List.set_cons_zero, List.set_cons_succ]
          refine wpAnyH_take (i := 39) (v := ?_) (by rw [List.getElem?_toArray]; rfl) (by kernel_rfl) (by kernel_rfl) (by kernel_rfl) (by exact fun _ _ _ h => h) (Or.inl ⟨by rfl, ?_⟩) (by assumption) ?_
          rotate_left
          · intro w' hSw
            go_simp
            try with_reducible rfl
          try simp only [Act.put, List.setIfInBounds_toArray, List.set_cons_zero, List.set_cons_succ]
          refine wpAnyH_take (i := 40) (v := ?_) (by rw [List.getElem?_toArray]; rfl) (by kernel_rfl) (by kernel_rfl) (by kernel_rfl) (by exact fun _ _ _ h => h) (Or.inl ⟨by rfl, ?_⟩) (by assumption) ?_
          rotate_left
          · intro w' hSw
            go_simp
            try with_reducible rfl
          try simp only [Act.put, List.setIfInBounds_toArray, List.set_cons_zero, List.set_cons_succ]
          refine wpAnyH_done (by kernel_rfl) ?_ _
          clear hHeld
          go_wp2
          all_goals (go_ret; exact ⟨rfl, HB13.out⟩)
        refine AllReadyH.cons (by rw [List.getElem?_toArray]; rfl) (fun Kn hK => ?_) AllReadyH.nil
        go_simp
        have ht1 := one_reads w11 TA w11.heap.size rfl
        have hq1 : Below w11.heap.size w11 (w11.alloc (.cells #[.string TA] 9)) := HQ0.out.alloc HQ0.out.size _
        have hsz1 : (w11.alloc (.cells #[.string TA] 9)).heap.size = w11.heap.size + 1 := by simp
        generalize w11.alloc (.cells #[.string TA] 9) = u1_35 at ht1 hq1 hsz1 ⊢
        have HQu1_35 := Lib.hid hq1
        have HZu1_35 := Lib.hid hsz1
        have HT := Lib.hid ht1
        clear ht1 hq1 hsz1
        refine hK.out _ _ (HCK.out _ (HRX.out.below HQu1_35.out (Nat.le_refl _))) (fun hHeld => ?_)
        try simp only [Act.put, List.setIfInBounds_toArray, List.set_cons_zero, List.set_cons_succ]
        refine wpAnyH_ready (rs := [31]) (by kernel_rfl) (by simp) ?_
        refine AllReadyH.cons (by rw [List.getElem?_toArray]; rfl) (fun Kn hK => ?_) AllReadyH.nil
        go_simp
        have hown := own_empty u1_35
        have hq1 : Below w11.heap.size w11 (u1_35.alloc (.cells #[] 9)) := HQu1_35.out.alloc HQu1_35.out.size _
        have hsz1 : (u1_35.alloc (.cells #[] 9)).heap.size = u1_35.heap.size + 1 := by simp
        have ht1 := HT.out.below ((Below.refl _ u1_35).alloc (Nat.le_refl _) (.cells #[] 9)) (Nat.le_refl _)
        generalize u1_35.alloc (.cells #[] 9) = u2_31 at hown hq1 hsz1 ht1 ⊢
        have HQu2_31 := Lib.hid hq1
        have HZu2_31 := Lib.hid hsz1
        have HOE := Lib.hid hown
        replace HT := Lib.hid ht1
        clear ht1
        clear hown hq1 hsz1
        refine hK.out _ _ (HCK.out _ (HRX.out.below HQu2_31.out (Nat.le_refl _))) (fun hHeld => ?_)
        try simp only [Act.put, List.setIfInBounds_toArray, List.set_cons_zero, List.set_cons_succ]
        refine wpAnyH_ready (rs := [33]) (by kernel_rfl) (by simp) ?_
        refine AllReadyH.cons (by rw [List.getElem?_toArray]; rfl) (fun Kn hK => ?_) AllReadyH.nil
        rw [if_pos (by rfl)]
        refine wpo_append (.tmp 230) (.tmp 231) rfl u1_35.heap.size (.slice (some ⟨u1_35.heap.size, 0, none⟩) 0 0) 0 [] YP rfl ?c1 rfl ⟨gP, oP, none⟩ YP.length cP rfl rfl ?c2 ?c3 ?c4 ?_
        case c1 => exact HOE.out
        case c2 => exact HRP.out.below HQu2_31.out (Nat.le_refl _)
        case c3 => have := HP3.out; omega
        case c4 => have := HZu1_35.out; have := HZu2_31.out; have := HQu2_31.out.size; omega
        intro vA u3_33 hown hb hkeep
        have HOA := Lib.hid hown
        have HQu3_33 : Hid (Below w11.heap.size w11 u3_33) := Lib.hid (HQu2_31.out.trans (hb.mono (by have := HZu1_35.out; have := HZu2_31.out; have := HQu2_31.out.size; omega)))
        have HGu3_33 : Hid (u2_31.heap.size ≤ u3_33.heap.size) := Lib.hid hb.size
        replace HT := Lib.hid (hkeep _ _ _ HT.out (by have := HZu1_35.out; have := HZu2_31.out; have := HQu2_31.out.size; simp only [Value.ownBlock]; intro e; injection e; omega))
        clear hown hb hkeep
        refine hK.out _ _ (HCK.out _ (HRX.out.below HQu3_33.out (Nat.le_refl _))) (fun hHeld => ?_)
        try simp only [Act.put, List.setIfInBounds_toArray, List.set_cons_zero, List.set_cons_succ]
        refine wpAnyH_ready (rs := [36]) (by kernel_rfl) (by simp) ?_
        refine AllReadyH.cons (by rw [List.getElem?_toArray]; rfl) (fun Kn hK => ?_) AllReadyH.nil
        rw [if_pos (by rfl)]
        refine wpo_append (.tmp 232) (.tmp 234) rfl u1_35.heap.size vA (0 + YP.length) ([] ++ YP) [TA] rfl ?c1 (by simp) ⟨w11.heap.size, 0, none⟩ 1 1 rfl rfl ?c2 ?c3 ?c4 ?_
        case c1 => exact HOA.out
        case c2 => exact HT.out
        case c3 => have := HP3.out; simp only [List.length_cons, List.length_nil]; omega
        case c4 => have := HZu1_35.out; have := HZu2_31.out; have := HGu3_33.out; have := HQu3_33.out.size; omega
        intro vB u4_36 hown hb hkeep
        have HOB := Lib.hid hown
        have HQu4_36 : Hid (Below w11.heap.size w11 u4_36) := Lib.hid (HQu3_33.out.trans (hb.mono (by have := HZu1_35.out; have := HZu2_31.out; have := HGu3_33.out; have := HQu3_33.out.size; omega)))
        have HGu4_36 : Hid (u3_33.heap.size ≤ u4_36.heap.size) := Lib.hid hb.size
        clear hown hb hkeep
        refine hK.out _ _ (HCK.out _ (HRX.out.below HQu4_36.out (Nat.le_refl _))) (fun hHeld => ?_)
        try simp only [Act.put, List.setIfInBounds_toArray, List.set_cons_zero, List.set_cons_succ]
        have hoB : u4_36.ownsRow u1_35.heap.size 9 1 vB (YP ++ [TA]).length (sv (YP ++ [TA])) := by simpa using HOB.out
        obtain ⟨AB, cB, rfl, hrB, hcB, _⟩ := own_row (w0 := u1_35) hoB
        have HRB := Lib.hid hrB
        have HCB := Lib.hid hcB
        have hbq := HQu4_36.out
        have HB12 := Lib.hid (Bel.call HB11.out hbq)
        replace HRX := Lib.hid (HRX.out.below hbq (Nat.le_refl _))
        replace HRP := Lib.hid (HRP.out.below hbq (Nat.le_refl _))
        clear hbq hrB hcB hoB HOB HOA HT
        refine wpAnyH_ready (rs := [37]) (by kernel_rfl) (by simp) ?_
        refine AllReadyH.cons (by rw [List.getElem?_toArray]; rfl) (fun Kn hK => ?_) AllReadyH.nil
        go_simp
        go_at_call 18
        with_reducible refine (HVS.out AB cB _ HCB.out HRB.out).mono ?_
        rintro e w13 ⟨rfl, hb13⟩
        have HB13 := Lib.hid (Bel.call HB12.out hb13)
        replace HRX := Lib.hid (HRX.out.below hb13 (Nat.le_refl _))
        replace HRP := Lib.hid (HRP.out.below hb13 (Nat.le_refl _))
        replace HRB := Lib.hid (HRB.out.below hb13 (Nat.le_refl _))
        clear hb13
        dsimp only
        refine hK.out _ _ (HCK.out _ HRX.out) (fun hHeld => ?_)
        try simp only [Act.put, List.setIfInBounds_toArray, List.set_cons_zero, List.set_cons_succ]
        refine wpAnyH_take (i := 38) (v := ?_) (by rw [List.getElem?_toArray]; rfl) (by kernel_rfl) (by kernel_rfl) (by kernel_rfl) (by exact fun _ _ _ h => h) (Or.inl ⟨by rfl, ?_⟩) (by assumption) ?_
        rotate_left
        · intro w' hSw
          go_simp
          try with_reducible rfl
        try simp only [Act.put, List.setIfInBounds_toArray, List.set_cons_zero, List.set_cons_succ]
        refine wpAnyH_take (i := 39) (v := ?_) (by rw [List.getElem?_toArray]; rfl) (by kernel_rfl) (by kernel_rfl) (by kernel_rfl) (by exact fun _ _ _ h => h) (Or.inl ⟨by rfl, ?_⟩) (by assumption) ?_
        rotate_left
        · intro w' hSw
          go_simp
          try with_reducible rfl
        try simp only [Act.put, List.setIfInBounds_toArray, List.set_cons_zero, List.set_cons_succ]
        refine wpAnyH_take (i := 40) (v := ?_) (by rw [List.getElem?_toArray]; rfl) (by kernel_rfl) (by kernel_rfl) (by kernel_rfl) (by exact fun _ _ _ h => h) (Or.inl ⟨by rfl, ?_⟩) (by assumption) ?_
        rotate_left
        · intro w' hSw
          go_simp
          try with_reducible rfl
        try simp only [Act.put, List.setIfInBounds_toArray, List.set_cons_zero, List.set_cons_succ]
        refine wpAnyH_done (by kernel_rfl) ?_ _
        clear hHeld
        go_wp2
        all_goals (go_ret; exact ⟨rfl, HB13.out⟩)
end Go.Proofs.Ytblgcpopcgnncaa.Tre
