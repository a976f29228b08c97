/-
  THE WALK OF NamePaths. By an AI agent; no person has read it.
-/
import Derived.Test.YtgnfnbmdjbmcfaaBack
import Derived.Test.YtgnfnbmdjbmcfaaOdd
namespace Go.Proofs.Ytgnfnbmdjbmcfaa
open Go.RowKit Txt

theorem make_len_yes (a : Option Addr) (cap : Nat) (zs : List Int) {n : Nat} (w : World) (hl : zs.length = n) (hn : n ≤ 35184372088832) (hr : Reads .i32 w a zs) (hv : zs.all Lib.validRune = true) :
    Calls Try.prog 26 #[.slice a n cap] w fun e w' => ∃ T : ByteArray, e = .returned (.tuple #[.string T, .int .i64 0]) ∧ T.data.toList = enc zs ∧ T.size ≤ 4 * n ∧ w = w' := by
  subst hl
  exact make_yes a cap zs w hn hr hv
theorem od_cell {j : Nat} (hj : j < 8) : ∃ O : ByteArray, O.data.toList = od j ∧ O.size ≤ 4 ∧ ∀ w : World,
    (w.alloc (.cells #[.string ⟨#[65]⟩, .string ⟨#[32]⟩, .string ⟨#[47]⟩, .string ⟨#[95]⟩, .string ⟨#[128]⟩, .string ⟨#[195]⟩, .string ⟨#[195, 151]⟩, .string ⟨#[207, 130, 204, 129]⟩] 9)).cell? ⟨w.heap.size, j, none⟩ = some (.string O) := by
  refine ⟨⟨(od j).toArray⟩, rfl, by rw [Lib.size_eq]; exact od_len hj, fun w => ?_⟩
  rw [World.cell?_alloc_at _ _ _ _ rfl]
  match j, hj with
  | 0, _ | 1, _ | 2, _ | 3, _ | 4, _ | 5, _ | 6, _ | 7, _ => rfl

theorem le_mil {n : Nat} (h : n ≤ 999999) : ((n : Int) + 1) ≤ 1000000 := by omega

set_option maxHeartbeats 2000000 in
set_option maxRecDepth 1000000 in
theorem paths_walk (a1 : Option Addr) (cap1 : Nat) (l1 : List Int) (a2 : Option Addr) (cap2 : Nat) (l2 : List Int) (at_ : Int) (w : World)
    (r1 : Reads .i64 w a1 l1) (wf1 : ∀ z ∈ l1, (Lit.int .i64 z).wf = true) (r2 : Reads .i64 w a2 l2) (wf2 : ∀ z ∈ l2, (Lit.int .i64 z).wf = true) (w3 : (Lit.int .i64 at_).wf = true) :
    Calls Try.prog 6 #[.slice a1 l1.length cap1, .slice a2 l2.length cap2, .int .i64 at_] w fun e w' => e = .returned (.bool true) ∧ Below w.heap.size w w' := by
  have R1 := Lib.hid r1; have R2 := Lib.hid r2; have W1 := Lib.hid wf1; have W2 := Lib.hid wf2
  obtain ⟨f0, f1⟩ := bounds_i64 w3
  clear r1 r2 wf1 wf2 w3
  go_enter Try.func6, Try.ntmps6
  go_wp2_with fail
  refine (shown_any _).mono ?_
  rintro e w1 ⟨rfl, B1⟩
  go_wp2_with fail
  refine (named_call a1 cap1 l1 _ (R1.out.below B1) W1.out).mono ?_
  rintro e w4 ⟨X, rfl, hX, sX, b4⟩
  have B4 := B1.trans (b4.mono B1.size)
  have HX := Lib.hid hX
  clear B1 b4 hX
  go_wp2_with fail
  refine (named_call a2 cap2 l2 _ (R2.out.below B4) W2.out).mono ?_
  rintro e w5 ⟨Y, rfl, hY, sY, b5⟩
  have B5 := B4.trans (b5.mono B4.size)
  have HY := Lib.hid hY
  clear B4 b5 hY
  go_wp2_with fail
  refine (path_yes X Y _ HX.out HY.out).mono ?_
  rintro e w6 ⟨Q, rfl, hQ, sQ, b6⟩
  have B6 := B5.trans (b6.mono B5.size)
  have HQ := Lib.hid hQ
  clear B5 b6 hQ
  go_wp2_with fail
  refine (split_yes Q X.data.toList Y.data.toList _ (by omega) (split_some.2 ⟨HQ.out, HX.out, HY.out⟩)).mono ?_
  rw [Lib.mk_data, Lib.mk_data]
  rintro e w7 ⟨rfl, b7⟩
  have B7 := B6.trans (b7.mono B6.size)
  clear B6 b7
  go_wp2_with fail
  refine (right_is X true HX.out _).mono ?_
  rintro e w8 ⟨rfl, b8⟩
  have B8 := B7.trans (b8.mono B7.size)
  clear B7 b8
  go_wp2_with fail
  refine (right_is Y true HY.out _).mono ?_
  rintro e w9 ⟨rfl, b9⟩
  have B9 := B8.trans (b9.mono B8.size)
  clear B8 b9
  go_wp2_with fail
  refine (right_is Q false (by rw [HQ.out]; exact right_slash _ _) _).mono ?_
  rintro e w10 ⟨rfl, b10⟩
  have B10 := B9.trans (b10.mono B9.size)
  clear B9 b10
  go_wp2_with fail
  refine (fold_call X _ (by omega)).mono ?_
  rintro e w11 ⟨U, rfl, hU, sU, b11⟩
  have B11 := B10.trans (b11.mono B10.size)
  have q1 : (U.toList == X.toList) = true := eq_bool (by rw [hU, fold_name HX.out])
  clear B10 b11 hU sU
  go_wp2_with fail
  refine (fold_call Q _ (by omega)).mono ?_
  rintro e w12 ⟨V, rfl, hV, sV, b12⟩
  have B12 := B11.trans (b12.mono B11.size)
  have q2 : (V.toList == Q.toList) = true := eq_bool (by rw [hV, HQ.out, fold_path HX.out HY.out])
  clear B11 b12 hV sV
  go_wp2_with fail
  refine (runes_name X _ HX.out).mono ?_
  rintro e w13 ⟨rs, ra, rcap, hr1, hr2, hr3, hr4, hr5, rfl, hrc, hrr, b13⟩
  have B13 := B12.trans (b13.mono B12.size)
  obtain ⟨b, off, rfl, hz1, hz2⟩ := hrr 0 (by omega)
  have HRR := Lib.hid hrr
  have HR4 := Lib.hid hr4; have HR5 := Lib.hid hr5
  have p0 : (0 : Int) < (rs.length : Int) + 1 := by omega
  obtain ⟨i, hi⟩ : ∃ i : Nat, pk at_ ((rs.length : Int) + 1) = i := ⟨(pk at_ ((rs.length : Int) + 1)).toNat, by have := pk_bd at_ p0; omega⟩
  have hi1 : i ≤ rs.length := by have := pk_bd at_ p0; omega
  obtain ⟨j, hj⟩ : ∃ j : Nat, pk at_ 8 = j := ⟨(pk at_ 8).toNat, by have := pk_bd at_ (n := 8) (by omega); omega⟩
  have hj1 : j < 8 := by have := pk_bd at_ (n := 8) (by omega); omega
  have hpi := fun w => pick_is at_ ((rs.length : Int) + 1) w hi f0 f1 p0 (le_mil (by omega))
  have hpj := fun w => pick_is at_ 8 w hj f0 f1 (by decide) (by decide)
  have HPI := Lib.hid hpi
  have HPJ := Lib.hid hpj
  clear B12 b13 hrr hr1 hr4 hr5 hz1 hz2 hi hj hpi hpj q1 q2
  go_wp2_with fail
  refine (HPI.out _).mono ?_
  rintro e w14 ⟨rfl, rfl⟩
  have hT1 := make_len_yes (some ⟨b, off, none⟩) rcap (rs.take i) w14 (n := i) (by rw [List.length_take]; omega) (by omega) (by have := HRR.out.piece b off rfl 0 i hi1; rw [List.drop_zero, Nat.add_zero] at this; exact this) (all_of fun r hr => letter_valid (HR4.out r (List.mem_of_mem_take hr)))
  have HT1 := Lib.hid hT1
  have hdl : (rs.drop i).length = rs.length - i := List.length_drop
  have hdv : (rs.drop i).all Lib.validRune = true := all_of fun r hr => letter_valid (HR4.out r (List.mem_of_mem_drop hr))
  have hdr : i < rs.length → Reads .i32 w14 (some ⟨b, off + i, none⟩) (rs.drop i) := fun _ => by
    have := HRR.out.piece b off rfl i rs.length (Nat.le_refl _)
    rwa [List.take_length] at this
  have HDL := Lib.hid hdl
  have HDV := Lib.hid hdv
  have HDR := Lib.hid hdr
  obtain ⟨O, hO1, hO2, hO3⟩ := od_cell hj1
  have HO1 := Lib.hid hO1
  have hb1 : ∀ r ∈ rs.take i, letter r = true := fun r hr => HR4.out r (List.mem_of_mem_take hr)
  have hb2 : ∀ r ∈ rs.drop i, letter r = true := fun r hr => HR4.out r (List.mem_of_mem_drop hr)
  have HB1 := Lib.hid hb1
  have HB2 := Lib.hid hb2
  have hoc := hO3 w14
  have j0 : (0 : Int) ≤ ↑j := by omega
  have j1 : (↑j : Int) < 8 := by omega
  clear hT1 hdl hdv hdr hO1 hO3 hb1 hb2
  by_cases hlt : i < rs.length
  · have hic : i ≠ rcap := by omega
    have hT2 := make_len_yes (some ⟨b, off + i, none⟩) (rcap - i) (rs.drop i) w14 HDL.out (by omega) (HDR.out hlt) HDV.out
    have HT2 := Lib.hid hT2
    clear hT2
    go_wp2_with fail
    refine HT1.out.mono ?_
    rintro e w15 ⟨T1, rfl, hT1, sT1, rfl⟩
    have HT1d := Lib.hid hT1
    clear hT1
    go_wp2_with fail
    refine HT2.out.mono ?_
    rintro e w16 ⟨T2, rfl, hT2, sT2, rfl⟩
    have HT2d := Lib.hid hT2
    have sT2' : T2.size ≤ 128 := by omega
    have sT1' : T1.size ≤ 128 := by omega
    have sX5 : X.size + 1 ≤ 200 := by omega
    clear hT2 HT1 HT2
    go_wp2_with fail
    have hpj := HPJ.out (w14.alloc (.cells #[.string ⟨#[65]⟩, .string ⟨#[32]⟩, .string ⟨#[47]⟩, .string ⟨#[95]⟩, .string ⟨#[128]⟩, .string ⟨#[195]⟩, .string ⟨#[195, 151]⟩, .string ⟨#[207, 130, 204, 129]⟩] 9))
    refine hpj.mono ?_
    clear hpj
    rintro e w17 ⟨rfl, rfl⟩
    have BA := B13.alloc B13.size (.cells #[.string ⟨#[65]⟩, .string ⟨#[32]⟩, .string ⟨#[47]⟩, .string ⟨#[95]⟩, .string ⟨#[128]⟩, .string ⟨#[195]⟩, .string ⟨#[195, 151]⟩, .string ⟨#[207, 130, 204, 129]⟩] 9)
    have hC : (T1 ++ O ++ T2).data.toList = enc (rs.take i) ++ od j ++ enc (rs.drop i) := by rw [app_data, app_data, HT1d.out, HO1.out, HT2d.out]
    have HC := Lib.hid hC
    clear hC B13
    go_wp2_with fail
    refine (split_no _ _ (by rw [Lib.size_eq]; simp only [app_data, List.length_append, ← Lib.size_eq]; show T1.size + O.size + T2.size + 1 + Y.size ≤ _; omega) (by rw [app_data, app_data, HC.out, List.append_assoc]; exact split_odd HB1.out HB2.out hj1 _)).mono ?_
    rintro e w18 ⟨rfl, b18⟩
    have B18 := BA.trans (b18.mono BA.size)
    clear b18 BA
    go_wp2_with fail
    refine (right_is _ false (by rw [HC.out]; exact right_odd HB1.out HB2.out hj1) _).mono ?_
    rintro e w19 ⟨rfl, b19⟩
    have B19 := B18.trans (b19.mono B18.size)
    clear b19 B18
    go_wp2_with fail
    refine (right_is _ false right_nil _).mono ?_
    rintro e w20 ⟨rfl, b20⟩
    have B20 := B19.trans (b20.mono B19.size)
    clear b20 B19
    by_cases h32 : (rs.length : Int) < 32
    · go_wp2_with fail
      go_ret
      exact ⟨rfl, B20⟩
    · have h32' : (32 : Int) ≤ ↑rs.length := by omega
      go_wp2_with fail
      refine (right_is _ false (by rw [app_data, ← HR5.out]; exact right_more HR4.out (by omega)) _).mono ?_
      rintro e w21 ⟨rfl, b21⟩
      go_wp2_with fail
      go_ret
      exact ⟨by simp, B20.trans (b21.mono B20.size)⟩
  · obtain rfl : i = rs.length := by omega
    clear hi1 hlt
    by_cases hic : rs.length = rcap
    · subst hic
      have hT2 := make_len_yes (some ⟨b, off, none⟩) 0 (rs.drop rs.length) w14 (n := 0) (by rw [HDL.out]; omega) (by omega) (fun m hm => by rw [HDL.out] at hm; omega) HDV.out
      have HT2 := Lib.hid hT2
      clear hT2
      have hi1 : rs.length ≤ rs.length := Nat.le_refl _
      go_wp2_with fail
      refine HT1.out.mono ?_
      rintro e w15 ⟨T1, rfl, hT1, sT1, rfl⟩
      have HT1d := Lib.hid hT1
      clear hT1
      go_wp2_with fail
      refine HT2.out.mono ?_
      rintro e w16 ⟨T2, rfl, hT2, sT2, rfl⟩
      have HT2d := Lib.hid hT2
      have sT2' : T2.size ≤ 128 := by omega
      have sT1' : T1.size ≤ 128 := by omega
      have sX5 : X.size + 1 ≤ 200 := by omega
      clear hT2 HT1 HT2
      go_wp2_with fail
      have hpj := HPJ.out (w14.alloc (.cells #[.string ⟨#[65]⟩, .string ⟨#[32]⟩, .string ⟨#[47]⟩, .string ⟨#[95]⟩, .string ⟨#[128]⟩, .string ⟨#[195]⟩, .string ⟨#[195, 151]⟩, .string ⟨#[207, 130, 204, 129]⟩] 9))
      refine hpj.mono ?_
      clear hpj
      rintro e w17 ⟨rfl, rfl⟩
      have BA := B13.alloc B13.size (.cells #[.string ⟨#[65]⟩, .string ⟨#[32]⟩, .string ⟨#[47]⟩, .string ⟨#[95]⟩, .string ⟨#[128]⟩, .string ⟨#[195]⟩, .string ⟨#[195, 151]⟩, .string ⟨#[207, 130, 204, 129]⟩] 9)
      have hC : (T1 ++ O ++ T2).data.toList = enc (rs.take rs.length) ++ od j ++ enc (rs.drop rs.length) := by rw [app_data, app_data, HT1d.out, HO1.out, HT2d.out]
      have HC := Lib.hid hC
      clear hC B13
      go_wp2_with fail
      refine (split_no _ _ (by rw [Lib.size_eq]; simp only [app_data, List.length_append, ← Lib.size_eq]; show T1.size + O.size + T2.size + 1 + Y.size ≤ _; omega) (by rw [app_data, app_data, HC.out, List.append_assoc]; exact split_odd HB1.out HB2.out hj1 _)).mono ?_
      rintro e w18 ⟨rfl, b18⟩
      have B18 := BA.trans (b18.mono BA.size)
      clear b18 BA
      go_wp2_with fail
      refine (right_is _ false (by rw [HC.out]; exact right_odd HB1.out HB2.out hj1) _).mono ?_
      rintro e w19 ⟨rfl, b19⟩
      have B19 := B18.trans (b19.mono B18.size)
      clear b19 B18
      go_wp2_with fail
      refine (right_is _ false right_nil _).mono ?_
      rintro e w20 ⟨rfl, b20⟩
      have B20 := B19.trans (b20.mono B19.size)
      clear b20 B19
      by_cases h32 : (rs.length : Int) < 32
      · go_wp2_with fail
        go_ret
        exact ⟨rfl, B20⟩
      · have h32' : (32 : Int) ≤ ↑rs.length := by omega
        go_wp2_with fail
        refine (right_is _ false (by rw [app_data, ← HR5.out]; exact right_more HR4.out (by omega)) _).mono ?_
        rintro e w21 ⟨rfl, b21⟩
        go_wp2_with fail
        go_ret
        exact ⟨by simp, B20.trans (b21.mono B20.size)⟩
    · have hT2 := make_len_yes (some ⟨b, off + rs.length, none⟩) (rcap - rs.length) (rs.drop rs.length) w14 (n := 0) (by rw [HDL.out]; omega) (by omega) (fun m hm => by rw [HDL.out] at hm; omega) HDV.out
      have HT2 := Lib.hid hT2
      clear hT2
      have hi1 : rs.length ≤ rs.length := Nat.le_refl _
      go_wp2_with fail
      refine HT1.out.mono ?_
      rintro e w15 ⟨T1, rfl, hT1, sT1, rfl⟩
      have HT1d := Lib.hid hT1
      clear hT1
      go_wp2_with fail
      refine HT2.out.mono ?_
      rintro e w16 ⟨T2, rfl, hT2, sT2, rfl⟩
      have HT2d := Lib.hid hT2
      have sT2' : T2.size ≤ 128 := by omega
      have sT1' : T1.size ≤ 128 := by omega
      have sX5 : X.size + 1 ≤ 200 := by omega
      clear hT2 HT1 HT2
      go_wp2_with fail
      have hpj := HPJ.out (w14.alloc (.cells #[.string ⟨#[65]⟩, .string ⟨#[32]⟩, .string ⟨#[47]⟩, .string ⟨#[95]⟩, .string ⟨#[128]⟩, .string ⟨#[195]⟩, .string ⟨#[195, 151]⟩, .string ⟨#[207, 130, 204, 129]⟩] 9))
      refine hpj.mono ?_
      clear hpj
      rintro e w17 ⟨rfl, rfl⟩
      have BA := B13.alloc B13.size (.cells #[.string ⟨#[65]⟩, .string ⟨#[32]⟩, .string ⟨#[47]⟩, .string ⟨#[95]⟩, .string ⟨#[128]⟩, .string ⟨#[195]⟩, .string ⟨#[195, 151]⟩, .string ⟨#[207, 130, 204, 129]⟩] 9)
      have hC : (T1 ++ O ++ T2).data.toList = enc (rs.take rs.length) ++ od j ++ enc (rs.drop rs.length) := by rw [app_data, app_data, HT1d.out, HO1.out, HT2d.out]
      have HC := Lib.hid hC
      clear hC B13
      go_wp2_with fail
      refine (split_no _ _ (by rw [Lib.size_eq]; simp only [app_data, List.length_append, ← Lib.size_eq]; show T1.size + O.size + T2.size + 1 + Y.size ≤ _; omega) (by rw [app_data, app_data, HC.out, List.append_assoc]; exact split_odd HB1.out HB2.out hj1 _)).mono ?_
      rintro e w18 ⟨rfl, b18⟩
      have B18 := BA.trans (b18.mono BA.size)
      clear b18 BA
      go_wp2_with fail
      refine (right_is _ false (by rw [HC.out]; exact right_odd HB1.out HB2.out hj1) _).mono ?_
      rintro e w19 ⟨rfl, b19⟩
      have B19 := B18.trans (b19.mono B18.size)
      clear b19 B18
      go_wp2_with fail
      refine (right_is _ false right_nil _).mono ?_
      rintro e w20 ⟨rfl, b20⟩
      have B20 := B19.trans (b20.mono B19.size)
      clear b20 B19
      by_cases h32 : (rs.length : Int) < 32
      · go_wp2_with fail
        go_ret
        exact ⟨rfl, B20⟩
      · have h32' : (32 : Int) ≤ ↑rs.length := by omega
        go_wp2_with fail
        refine (right_is _ false (by rw [app_data, ← HR5.out]; exact right_more HR4.out (by omega)) _).mono ?_
        rintro e w21 ⟨rfl, b21⟩
        go_wp2_with fail
        go_ret
        exact ⟨by simp, B20.trans (b21.mono B20.size)⟩
end Go.Proofs.Ytgnfnbmdjbmcfaa
