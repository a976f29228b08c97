/-
  THE LAW UserCopies, walked over what package user is held to. By an AI agent; no person has read it.
-/
import Derived.Test.YtbdealddjonobaaGreatUDo
import Derived.Test.YtbdealddjonobaaGreatOrd
namespace Go.Proofs.YtbdealddjonobaaGreat.Usr
open Go Go.RowKit Wire Rig Draw Frm

set_option linter.unusedSimpArgs false
set_option linter.unusedVariables false
set_option maxHeartbeats 16000000 in
set_option maxRecDepth 1000000 in
theorem copies_walk {D : UPred} (ok : UserOK D) (sd : Nat) (A : Option Addr) (n c0 : Nat) (Z : Nat → Nat → Int) (B : Option Addr) (p d0 : Nat) (Y : Nat → Nat → Int) (C : Option Addr) (q e0 : Nat) (X : Nat → Nat → Int) (w : World) (hs : sd < 18446744073709551616) (ha : Acts.AReads 3 w A n Z) (hb : Acts.AReads 3 w B p Y) (hc : Acts.AReads 3 w C q X) : Calls Tryz.prog 6 #[.int .u64 (sd : Int), .slice A n c0, .slice B p d0, .slice C q e0] w fun e w' => e = .returned (.bool true) ∧ Below w.heap.size w w' := by
  have HK := Lib.hid ok
  have HSH := Lib.hid fun w => shown14_any ok w
  have HA := Lib.hid ha
  have HB := Lib.hid hb
  have HC := Lib.hid hc
  have HFI := Lib.hid (fine0 (sd := sd) nm_anna hs)
  have HN := fun (w0 w : World) (l : List Part) (h : Fm w0 w l) => Lib.hid (u_new ok h ⟨#[97, 110, 110, 97]⟩ sd (by decide) hs nm_anna)
  have HNM : Hid ((us0 (⟨#[97, 110, 110, 97]⟩ : ByteArray).data.toList sd).nm = (⟨#[97, 110, 110, 97]⟩ : ByteArray).data.toList) := Lib.hid rfl
  clear ha hb hc
  have hn0 : (0 : Int) ≤ (n : Int) := Int.natCast_nonneg n
  have hp0 : (0 : Int) ≤ (p : Int) := Int.natCast_nonneg p
  have hq0 : (0 : Int) ≤ (q : Int) := Int.natCast_nonneg q
  have HF := Lib.hid (fm_refl w)
  go_enter Tryz.func6, Tryz.ntmps6
  go_wp2_with fail
  with_reducible refine (HSH.out _).mono ?_
  rintro e w1 ⟨rfl, hb⟩
  replace HF := Lib.hid (HF.out.go hb)
  clear hb
  try dsimp only
  go_wp2_with fail
  with_reducible refine ((HN _ _ _ HF.out).out).mono ?_
  rintro e w1 ⟨a, S, M, rfl, hF⟩
  replace HF := Lib.hid hF
  clear hF
  try dsimp only
  clear HN
  generalize us0 _ sd = s0 at HF HFI HNM
  by_cases hn2 : (20 : Int) < (n : Int)
  · go_wp2_with fail
    go_ret
    exact ⟨rfl, HF.out.bel⟩
  by_cases hp2 : (15 : Int) < (p : Int)
  · go_wp2_with fail
    go_ret
    exact ⟨rfl, HF.out.bel⟩
  by_cases hq2 : (15 : Int) < (q : Int)
  · go_wp2_with fail
    go_ret
    exact ⟨rfl, HF.out.bel⟩
  go_wp2_with fail
  go_loopw [12] (fun vi wr => ∃ i : Nat, i ≤ n ∧ vi = .int .i64 (i : Int) ∧ ∃ s S M, Fine i s ∧ Hid (s.nm = s0.nm ∧ Hid (Fm w wr [usP ok a S M s]))) (fun i _ => n - (intOf i).toNat)
  case atStart => exact ⟨0, Nat.zero_le _, rfl, s0, S, M, HFI.out, Lib.hid ⟨rfl, HF⟩⟩
  case round =>
    obtain ⟨i, hi, rfl, s, S, M, hfi, hh⟩ := hrel
    have HSN := Lib.hid hh.out.1
    have HF := hh.out.2
    have HFS := Lib.hid hfi
    clear hfi hh HFI
    have hi0 : (0 : Int) ≤ (i : Int) := Int.natCast_nonneg i
    by_cases hlt : (i : Int) < (n : Int)
    · obtain ⟨ba, off, z0, z1, z2, rfl, hl, q0, q1, q2, hz⟩ := act_at HA.out hlt
      have HLC := Lib.hid hl
      clear hl hz
      obtain ⟨s1, e1, hx⟩ : ∃ s1 e1, doU s z0 z1 z2 = (s1, e1) := ⟨_, _, rfl⟩
      have HX := Lib.hid hx
      have hf1 := fine_do HFS.out z0 z1 z2
      rw [hx] at hf1
      have HF1 := Lib.hid hf1
      have hw := do_who s z0 z1 z2
      rw [hx] at hw
      have HW1 : Hid (s1.nm = s.nm ∧ s1.sd = s.sd) := hw
      clear hf1 hx hw
      have hle : i ≤ 200 := by omega
      obtain ⟨l0, l1, l2⟩ := HLC.out _ HF.out.bel
      go_wp2_with fail
      with_reducible refine (does_any HK.out 0 rfl HF.out HFS.out hle z0 z1 z2 q0 q1 q2).mono ?_
      rintro e w1 hT
      rw [HX.out] at hT
      obtain ⟨rfl, S1, M1, hF⟩ := hT
      dsimp only at hF
      replace HF := Lib.hid hF
      clear hF
      try dsimp only
      clear l0 l1 l2
      go_wp2_with fail
      go_roundw
      case rel => exact ⟨i + 1, by omega, by go_num, s1, S1, M1, HF1.out, Lib.hid ⟨HW1.out.1.trans HSN.out, HF⟩⟩
      case measure => simp [intOf]; omega
    have HFT := Lib.hid (HFS.out.le (m := 20) (by omega))
    go_wp2_with fail
    with_reducible refine (u_copy HK.out 0 rfl HF.out HFT.out (by decide)).mono ?_
    rintro e w1 ⟨b, Sb, Mb, rfl, hF⟩
    replace HF := Lib.hid hF
    clear hF
    clear hlt
    try dsimp only
    go_wp2_with fail
    with_reducible refine (u_copy HK.out 1 rfl HF.out HFT.out (by decide)).mono ?_
    rintro e w1 ⟨c, Sc, Mc, rfl, hF⟩
    replace HF := Lib.hid hF
    clear hF
    try dsimp only
    go_wp2_with fail
    go_loopw [15] (fun vi wr => ∃ j : Nat, j ≤ q ∧ vi = .int .i64 (j : Int) ∧ ∃ t S M, Fine (20 + j) t ∧ Hid ((t.nm = s.nm ∧ t.sd = s.sd) ∧ Hid (Fm w wr [usP ok c Sc Mc s, usP ok b Sb Mb s, usP ok a S M t]))) (fun i _ => q - (intOf i).toNat)
    case atStart => exact ⟨0, Nat.zero_le _, rfl, s, S, M, HFT.out, Lib.hid ⟨⟨rfl, rfl⟩, HF⟩⟩
    case round =>
      obtain ⟨j, hj, rfl, t, S, M, hfi, hh⟩ := hrel
      have HTN := Lib.hid hh.out.1
      have HF := hh.out.2
      have HFU := Lib.hid hfi
      clear hfi hh
      have hj0 : (0 : Int) ≤ (j : Int) := Int.natCast_nonneg j
      by_cases hlt : (j : Int) < (q : Int)
      · obtain ⟨ba, off, z0, z1, z2, rfl, hl, q0, q1, q2, hz⟩ := act_at HC.out hlt
        have HLC := Lib.hid hl
        clear hl hz
        obtain ⟨s1, e1, hx⟩ : ∃ s1 e1, doU t z0 z1 z2 = (s1, e1) := ⟨_, _, rfl⟩
        have HX := Lib.hid hx
        have hf1 := fine_do HFU.out z0 z1 z2
        rw [hx] at hf1
        have HF1 := Lib.hid hf1
        have hw := do_who t z0 z1 z2
        rw [hx] at hw
        have HW1 : Hid (s1.nm = t.nm ∧ s1.sd = t.sd) := hw
        clear hf1 hx hw
        have hle : 20 + j ≤ 200 := by omega
        obtain ⟨l0, l1, l2⟩ := HLC.out _ HF.out.bel
        go_wp2_with fail
        with_reducible refine (does_any HK.out 2 rfl HF.out HFU.out hle z0 z1 z2 q0 q1 q2).mono ?_
        rintro e w1 hT
        rw [HX.out] at hT
        obtain ⟨rfl, S1, M1, hF⟩ := hT
        dsimp only at hF
        replace HF := Lib.hid hF
        clear hF
        try dsimp only
        clear l0 l1 l2
        go_wp2_with fail
        go_roundw
        case rel => exact ⟨j + 1, by omega, by go_num, s1, S1, M1, HF1.out, Lib.hid ⟨⟨HW1.out.1.trans HTN.out.1, HW1.out.2.trans HTN.out.2⟩, HF⟩⟩
        case measure => simp [intOf]; omega
      go_wp2_with fail
      clear hlt
      go_loopw [16, 17, 18] (fun vi vx vy wr => ∃ k : Nat, k ≤ p ∧ vi = .int .i64 (k : Int) ∧ ∃ V, V = vx ∧ ∃ V', V' = vy ∧ ∃ r Sb Mb Sc Mc, Fine (20 + k) r ∧ Hid ((r.nm = s.nm ∧ r.sd = s.sd) ∧ Hid (Fm w wr [usP ok c Sc Mc r, usP ok b Sb Mb r, usP ok a S M t]))) (fun i _ _ _ => p - (intOf i).toNat)
      case atStart => exact ⟨0, Nat.zero_le _, rfl, _, rfl, _, rfl, s, Sb, Mb, Sc, Mc, HFT.out, Lib.hid ⟨⟨rfl, rfl⟩, HF⟩⟩
      case round =>
        obtain ⟨k, hk, rfl, vx, rfl, vy, rfl, r, Sb, Mb, Sc, Mc, hfi, hh⟩ := hrel
        have HRN := Lib.hid hh.out.1
        have HF := hh.out.2
        have HFR := Lib.hid hfi
        clear hfi hh
        have hk0 : (0 : Int) ≤ (k : Int) := Int.natCast_nonneg k
        by_cases hlt : (k : Int) < (p : Int)
        · obtain ⟨ba, off, z0, z1, z2, rfl, hl, q0, q1, q2, hz⟩ := act_at HB.out hlt
          have HLC := Lib.hid hl
          clear hl hz
          obtain ⟨s1, e1, hx⟩ : ∃ s1 e1, doU r z0 z1 z2 = (s1, e1) := ⟨_, _, rfl⟩
          have HX := Lib.hid hx
          have hf1 := fine_do HFR.out z0 z1 z2
          rw [hx] at hf1
          have HF1 := Lib.hid hf1
          have hw := do_who r z0 z1 z2
          rw [hx] at hw
          have HW1 : Hid (s1.nm = r.nm ∧ s1.sd = r.sd) := hw
          clear hf1 hx hw
          have hle : 20 + k ≤ 200 := by omega
          obtain ⟨l0, l1, l2⟩ := HLC.out _ HF.out.bel
          go_wp2_with fail
          with_reducible refine (does_any HK.out 1 rfl HF.out HFR.out hle z0 z1 z2 q0 q1 q2).mono ?_
          rintro e w1 hT
          rw [HX.out] at hT
          obtain ⟨rfl, S1, M1, hF⟩ := hT
          dsimp only at hF
          replace HF := Lib.hid hF
          clear hF
          try dsimp only
          clear l0 l1 l2
          obtain ⟨l0, l1, l2⟩ := HLC.out _ HF.out.bel
          go_wp2_with fail
          with_reducible refine (does_any HK.out 0 rfl HF.out HFR.out hle z0 z1 z2 q0 q1 q2).mono ?_
          rintro e w1 hT
          rw [HX.out] at hT
          obtain ⟨rfl, S2, M2, hF⟩ := hT
          dsimp only at hF
          replace HF := Lib.hid hF
          clear hF
          try dsimp only
          clear l0 l1 l2
          have hee : (e1 != e1) = false := by simp
          go_wp2_with fail
          go_roundw
          case rel => exact ⟨k + 1, by omega, by go_num, _, rfl, _, rfl, s1, S1, M1, S2, M2, HF1.out, Lib.hid ⟨⟨HW1.out.1.trans HRN.out.1, HW1.out.2.trans HRN.out.2⟩, HF⟩⟩
          case measure => simp [intOf]; omega
        have hkk : 20 + k ≤ 200 := by omega
        have hjj : 20 + j ≤ 200 := by omega
        have HAN : Hid (r.nm = (⟨#[97, 110, 110, 97]⟩ : ByteArray).data.toList) := Lib.hid (HRN.out.1.trans (HSN.out.trans HNM.out))
        have HSE : Hid (t.sec = r.sec) := Lib.hid (sec_same (HTN.out.1.trans HRN.out.1.symm) (HTN.out.2.trans HRN.out.2.symm))
        obtain ⟨L, hF, hLb, hLa, hLu⟩ : ∃ L, Fm w wr L ∧ L[0]? = some (usP ok c Sc Mc r) ∧ L[1]? = some (usP ok b Sb Mb r) ∧ L[2]? = some (usP ok a S M t) := ⟨_, HF.out, rfl, rfl, rfl⟩
        replace HF := Lib.hid hF
        have HLb := Lib.hid hLb
        have HLa := Lib.hid hLa
        have HLu := Lib.hid hLu
        clear hF hLb hLa hLu
        go_wp2_with fail
        with_reducible refine (u_name HK.out 1 HLa.out HF.out HFR.out hkk).mono ?_
        rintro e w1 ⟨⟨T1, h1, rfl⟩, hF⟩
        replace HF := Lib.hid hF
        clear hF
        obtain rfl : ⟨#[97, 110, 110, 97]⟩ = T1 := (str_eq (h1.trans HAN.out)).symm
        clear h1
        try dsimp only
        go_wp2_with fail
        with_reducible refine (u_secret HK.out 1 HLa.out HF.out HFR.out hkk).mono ?_
        rintro e w1 ⟨⟨T2, h2, rfl⟩, hF⟩
        replace HF := Lib.hid hF
        clear hF
        have HT2 := Lib.hid h2
        clear h2
        have htt : (T2.toList == T2.toList) = true := eq_bool rfl
        try dsimp only
        go_wp2_with fail
        with_reducible refine (u_secret HK.out 2 HLu.out HF.out HFU.out hjj).mono ?_
        rintro e w1 ⟨⟨T3, h3, rfl⟩, hF⟩
        replace HF := Lib.hid hF
        clear hF
        obtain rfl : T2 = T3 := str_eq (HT2.out.trans (HSE.out.symm.trans h3.symm))
        clear h3
        try dsimp only
        go_wp2_with fail
        with_reducible refine (u_files HK.out 1 HLa.out HF.out HFR.out hkk).mono ?_
        rintro e w1 ⟨A1, c1, Y1, h1, hc1, hF, rfl⟩
        replace HF := Lib.hid hF
        clear hF
        have H1 := Lib.hid h1
        have HC1 := Lib.hid hc1
        clear h1 hc1
        try dsimp only
        go_wp2_with fail
        with_reducible refine (u_files HK.out 1 (up HLb.out) HF.out HFR.out hkk).mono ?_
        rintro e w1 ⟨A2, c2, Y2, h2, hc2, hF, rfl⟩
        replace HF := Lib.hid hF
        clear hF
        have HEQ := Lib.hid (lsd_eq H1.out.1 h2.1 fun x => (H1.out.2 x).trans (h2.2 x).symm)
        clear h2 hc2
        try dsimp only
        go_wp2_with fail
        with_reducible refine (same_any A1 A2 c1 c2 Y1 Y2 _ (HF.out.at 1 rfl) (HF.out.at 0 rfl) (Nat.le_trans HC1.out.1 HC1.out.2)).mono ?_
        rintro e w1 ⟨rfl, hb⟩
        replace HF := Lib.hid (HF.out.go hb)
        clear hb
        try dsimp only
        rw [decide_eq_true HEQ.out]
        replace HF := Lib.hid HF.out.tail
        replace HF := Lib.hid HF.out.tail
        go_wp2_with fail
        go_loopw [19, 20, 21, 22, 23] (fun vk vx vg vy vh wr2 => ∃ j : Nat, j ≤ 10 ∧ vk = .int .i64 (j : Int) ∧ ∃ V, V = vx ∧ ∃ V', V' = vg ∧ ∃ V2, V2 = vy ∧ ∃ V3, V3 = vh ∧ Hid (Fm w wr2 L)) (fun i _ _ _ _ _ => 10 - (intOf i).toNat)
        case atStart => exact ⟨0, Nat.zero_le _, rfl, _, rfl, _, rfl, _, rfl, _, rfl, HF⟩
        case round =>
          obtain ⟨j, hj, rfl, vx, rfl, vg, rfl, vy, rfl, vh, rfl, HF⟩ := hrel
          have hj0 : (0 : Int) ≤ (j : Int) := Int.natCast_nonneg j
          by_cases hjl : (j : Int) < 10
          · have HFN := Lib.hid fun w => file_any (j : Int) (by omega) w
            have hfs := fileN_size (j : Int)
            generalize fileN (j : Int) = F at HFN hfs
            have hF5 : F.size ≤ 10000 := by omega
            clear hfs
            obtain ⟨x1, e1, hx⟩ : ∃ x1 e1, own r F.data.toList = (x1, e1) := ⟨_, _, rfl⟩
            have HX := Lib.hid hx
            have hee : (e1 != e1) = false := by simp
            clear hx
            go_wp2_with fail
            with_reducible refine (HFN.out _).mono ?_
            rintro e w1 ⟨rfl, hb⟩
            replace HF := Lib.hid (HF.out.go hb)
            clear hb
            try dsimp only
            go_wp2_with fail
            with_reducible refine (u_own HK.out 1 HLa.out HF.out HFR.out hkk F hF5).mono ?_
            rintro e w1 ⟨vs, hF, rfl⟩
            rw [HX.out] at hF ⊢
            obtain ⟨ox, fx, Ax, cx, Bx, dx, Rx, Tx, ex, rfl, ho, hf, hr⟩ := isO_lit (hF.at 0 rfl)
            have HOx := Lib.hid ho
            have HPx := Lib.hid hf
            have HRx := Lib.hid hr
            clear ho hf hr
            unfold OV at hF ⊢
            replace HF := Lib.hid hF
            clear hF
            dsimp only
            go_wp2_with fail
            have hF := HF.out.box #[.string ox, .string fx, .int .i64 x1.r.ep, .slice Ax x1.r.rs.length cx, .slice Bx x1.r.ws.length dx, .int .u64 (x1.ver : Int), .string Rx, .slice Tx x1.sg.length ex, .bool x1.gone] 50
            generalize w1.alloc (.cells #[.string ox, .string fx, .int .i64 x1.r.ep, .slice Ax x1.r.rs.length cx, .slice Bx x1.r.ws.length dx, .int .u64 (x1.ver : Int), .string Rx, .slice Tx x1.sg.length ex, .bool x1.gone] 50) = w1 at hF ⊢
            replace HF := Lib.hid hF
            clear hF
            go_wp2_with fail
            with_reducible refine (HFN.out _).mono ?_
            rintro e w1 ⟨rfl, hb⟩
            replace HF := Lib.hid (HF.out.go hb)
            clear hb
            try dsimp only
            go_wp2_with fail
            with_reducible refine (u_own HK.out 2 (up (up HLb.out)) HF.out HFR.out hkk F hF5).mono ?_
            rintro e w1 ⟨vs, hF, rfl⟩
            rw [HX.out] at hF ⊢
            obtain ⟨oy, fy, Ay, cy, By, dy, Ry, Ty, ey, rfl, ho, hf, hr⟩ := isO_lit (hF.at 0 rfl)
            have HOy := Lib.hid ho
            have HPy := Lib.hid hf
            have HRy := Lib.hid hr
            clear ho hf hr
            unfold OV at hF ⊢
            replace HF := Lib.hid hF
            clear hF
            dsimp only
            go_wp2_with fail
            have hF := HF.out.box #[.string oy, .string fy, .int .i64 x1.r.ep, .slice Ay x1.r.rs.length cy, .slice By x1.r.ws.length dy, .int .u64 (x1.ver : Int), .string Ry, .slice Ty x1.sg.length ey, .bool x1.gone] 50
            generalize w1.alloc (.cells #[.string oy, .string fy, .int .i64 x1.r.ep, .slice Ay x1.r.rs.length cy, .slice By x1.r.ws.length dy, .int .u64 (x1.ver : Int), .string Ry, .slice Ty x1.sg.length ey, .bool x1.gone] 50) = w1 at hF ⊢
            replace HF := Lib.hid hF
            clear hF
            have hfw := own_few HFR.out F.data.toList
            rw [HX.out] at hfw
            have HFW := Lib.hid hfw
            clear hfw
            go_wp2_with fail
            refine Ord.region_lit (S := fun w' => Fm w w' _) (by kernel_rfl) (by kernel_rfl) (HF.out.go (Below.drewN' (Below.refl _ _) 1)) ?_
            iterate 4 (refine Ord.stepR (v := ?_) (by rfl) ?_ ?_; rotate_left; · (intro w' hSw; go_simp; try with_reducible rfl))
            try simp only [Act.put, List.setIfInBounds_toArray, List.set_cons_zero, List.set_cons_succ]
            (refine Ord.stepR (v := ?_) (by rfl) ?_ ?_; rotate_left; · (intro w' hSw; obtain ⟨q00, q01, q02, q03, q04, q05, q06, q07, q08, q09⟩ := bx9 (hSw.at 2 rfl); obtain ⟨q10, q11, q12, q13, q14, q15, q16, q17, q18, q19⟩ := bx9 (hSw.at 0 rfl); go_simp; try with_reducible rfl))
            try simp only [Act.put, List.setIfInBounds_toArray, List.set_cons_zero, List.set_cons_succ]
            refine Ord.stepC (v := .agg #[.string ox, .string fx, .int .i64 x1.r.ep, .slice Ax x1.r.rs.length cx, .slice Bx x1.r.ws.length dx, .int .u64 (x1.ver : Int), .string Rx, .slice Tx x1.sg.length ex, .bool x1.gone]) (by rfl) ?_ (fun w1 hS => (asowned_any _ _ _ _ _ _ _ _ _ _ _ _ _ _ _ w1).mono fun e w2 h => ⟨h.1, hS.go h.2⟩) ?_
            · (intro w' hSw; go_simp; try with_reducible rfl)
            try simp only [Act.put, List.setIfInBounds_toArray, List.set_cons_zero, List.set_cons_succ]
            (refine Ord.stepR (v := ?_) (by rfl) ?_ ?_; rotate_left; · (intro w' hSw; obtain ⟨q00, q01, q02, q03, q04, q05, q06, q07, q08, q09⟩ := bx9 (hSw.at 2 rfl); obtain ⟨q10, q11, q12, q13, q14, q15, q16, q17, q18, q19⟩ := bx9 (hSw.at 0 rfl); go_simp; try with_reducible rfl))
            try simp only [Act.put, List.setIfInBounds_toArray, List.set_cons_zero, List.set_cons_succ]
            refine Ord.stepC (v := .agg #[.string oy, .string fy, .int .i64 x1.r.ep, .slice Ay x1.r.rs.length cy, .slice By x1.r.ws.length dy, .int .u64 (x1.ver : Int), .string Ry, .slice Ty x1.sg.length ey, .bool x1.gone]) (by rfl) ?_ (fun w1 hS => (asowned_any _ _ _ _ _ _ _ _ _ _ _ _ _ _ _ w1).mono fun e w2 h => ⟨h.1, hS.go h.2⟩) ?_
            · (intro w' hSw; go_simp; try with_reducible rfl)
            try simp only [Act.put, List.setIfInBounds_toArray, List.set_cons_zero, List.set_cons_succ]
            refine Ord.stepC (v := .bool true) (by rfl) ?_ (fun w1 hS => (same14_any [.string ox, .string fx, .int .i64 x1.r.ep, .slice Ax x1.r.rs.length cx, .slice Bx x1.r.ws.length dx, .int .u64 (x1.ver : Int), .string Rx, .slice Tx x1.sg.length ex, .bool x1.gone] [.string oy, .string fy, .int .i64 x1.r.ep, .slice Ay x1.r.rs.length cy, .slice By x1.r.ws.length dy, .int .u64 (x1.ver : Int), .string Ry, .slice Ty x1.sg.length ey, .bool x1.gone] x1 w1 (hS.at 3 rfl) (hS.at 1 rfl) HFW.out.1 HFW.out.2).mono fun e w2 h => ⟨h.1, hS.go h.2⟩) ?_
            · (intro w' hSw; go_simp; try with_reducible rfl)
            try simp only [Act.put, List.setIfInBounds_toArray, List.set_cons_zero, List.set_cons_succ]
            iterate 2 (refine Ord.stepR (v := ?_) (by rfl) ?_ ?_; rotate_left; · (intro w' hSw; go_simp; try with_reducible rfl))
            try simp only [Act.put, List.setIfInBounds_toArray, List.set_cons_zero, List.set_cons_succ]
            refine Ord.stepD fun w1 hZ => ?_
            replace HF := Lib.hid hZ
            clear hZ
            go_wp2_with fail
            replace HF := Lib.hid HF.out.tail
            replace HF := Lib.hid HF.out.tail
            replace HF := Lib.hid HF.out.tail
            replace HF := Lib.hid HF.out.tail
            go_roundw
            case rel => exact ⟨j + 1, by omega, by go_num, _, rfl, _, rfl, _, rfl, _, rfl, HF⟩
            case measure => simp [intOf]; omega
          go_wp2_with fail
          go_ret
          exact ⟨rfl, HF.out.bel⟩
end Go.Proofs.YtbdealddjonobaaGreat.Usr
