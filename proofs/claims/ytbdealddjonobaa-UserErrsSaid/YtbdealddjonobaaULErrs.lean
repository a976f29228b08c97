/-
  THE LAW UserErrs, walked over what package user is held to. By an AI agent; no person has read it.
-/
import Derived.Test.YtbdealddjonobaaUDo
import Derived.Test.YtbdealddjonobaaOrd
namespace Go.Proofs.Ytbdealddjonobaa.Usr
open Go Go.RowKit Wire Rig Draw Frm

set_option linter.unusedSimpArgs false
set_option linter.unusedVariables false
set_option maxHeartbeats 16000000 in
set_option maxRecDepth 1000000 in
theorem errs_walk {D : UPred} (ok : UserOK D) (sd : Nat) (A : Option Addr) (n c : Nat) (Z : Nat → Nat → Int) (w : World) (hs : sd < 18446744073709551616) (ha : Acts.AReads 3 w A n Z) : Calls Try.prog 3 #[.int .u64 (sd : Int), .slice A n c] w fun e w' => e = .returned (.bool true) ∧ Below w.heap.size w w' := by
  have HK := Lib.hid ok
  have HSH := Lib.hid fun w => shown14_any ok w
  have HA := Lib.hid ha
  have HFI := Lib.hid (fine0 (sd := sd) nm_anna hs)
  have HN := fun (w0 w : World) (l : List Part) (h : Fm w0 w l) => Lib.hid (u_new ok h ⟨#[97, 110, 110, 97]⟩ sd (by decide) hs nm_anna)
  clear ha
  have hn0 : (0 : Int) ≤ (n : Int) := Int.natCast_nonneg n
  have HF := Lib.hid (fm_refl w)
  go_enter Try.func3, Try.ntmps3
  go_wp2_with fail
  with_reducible refine (HSH.out _).mono ?_
  rintro e w1 ⟨rfl, hb⟩
  replace HF := Lib.hid (HF.out.go hb)
  clear hb
  try dsimp only
  go_wp2_with fail
  with_reducible refine ((HN _ _ _ HF.out).out).mono ?_
  rintro e w1 ⟨a, S, M, rfl, hF⟩
  replace HF := Lib.hid hF
  clear hF
  try dsimp only
  go_wp2_with fail
  with_reducible refine ((HN _ _ _ HF.out).out).mono ?_
  rintro e w1 ⟨b, S', M', rfl, hF⟩
  replace HF := Lib.hid hF
  clear hF
  try dsimp only
  by_cases h40 : (40 : Int) < (n : Int)
  · go_wp2_with fail
    go_ret
    exact ⟨rfl, HF.out.bel⟩
  go_wp2_with fail
  clear HN
  generalize us0 _ sd = s0 at HF HFI
  go_loopw [10, 11, 12] (fun vi vg vh wr => ∃ i : Nat, i ≤ n ∧ vi = .int .i64 (i : Int) ∧ ∃ V, V = vg ∧ ∃ V', V' = vh ∧ ∃ s S M S' M', Fine i s ∧ Hid (Fm w wr [usP ok b S' M' s, usP ok a S M s])) (fun i _ _ _ => n - (intOf i).toNat)
  case atStart => exact ⟨0, Nat.zero_le _, rfl, _, rfl, _, rfl, s0, S, M, S', M', HFI.out, HF⟩
  case round =>
    obtain ⟨i, hi, rfl, vg, rfl, vh, rfl, s, S, M, S', M', hfi, HF⟩ := hrel
    have HFS := Lib.hid hfi
    clear hfi HFI
    have hi0 : (0 : Int) ≤ (i : Int) := Int.natCast_nonneg i
    by_cases hlt : (i : Int) < (n : Int)
    · obtain ⟨ba, off, z0, z1, z2, rfl, hl, q0, q1, q2, hz⟩ := act_at HA.out hlt
      have HLC := Lib.hid hl
      clear hl hz
      obtain ⟨l0, l1, l2⟩ := HLC.out _ HF.out.bel
      obtain ⟨s1, e1, hx⟩ : ∃ s1 e1, doU s z0 z1 z2 = (s1, e1) := ⟨_, _, rfl⟩
      have HX := Lib.hid hx
      have hf1 := fine_do HFS.out z0 z1 z2
      rw [hx] at hf1
      have HF1 := Lib.hid hf1
      have he := do_err (u := s) (z0 := z0) (z1 := z1) (z2 := z2)
      rw [hx] at he
      have HE : Hid (e1 ≠ 0 → s1 = s) := he
      clear hf1 he hx
      have hi40 : i ≤ 200 := by omega
      go_wp2_with fail
      with_reducible refine (does_any HK.out 1 rfl HF.out HFS.out hi40 z0 z1 z2 q0 q1 q2).mono ?_
      rintro e w1 hT
      rw [HX.out] at hT
      obtain ⟨rfl, S1, M1, hF⟩ := hT
      dsimp only at hF
      replace HF := Lib.hid hF
      clear hF
      try dsimp only
      clear l0 l1 l2
      by_cases he : e1 = 0
      · subst he
        obtain ⟨l0, l1, l2⟩ := HLC.out _ HF.out.bel
        go_wp2_with fail
        with_reducible refine (does_any HK.out 0 rfl HF.out HFS.out hi40 z0 z1 z2 q0 q1 q2).mono ?_
        rintro e w1 hT
        rw [HX.out] at hT
        obtain ⟨rfl, S2, M2, hF⟩ := hT
        dsimp only at hF
        replace HF := Lib.hid hF
        clear hF
        try dsimp only
        clear l0 l1 l2
        go_wp2_with fail
        go_roundw
        case rel => exact ⟨i + 1, by omega, by go_num, _, rfl, _, rfl, s1, S1, M1, S2, M2, HF1.out, HF⟩
        case measure => simp [intOf]; omega
      · have heb : (e1 != 0) = true := by simpa using he
        obtain rfl := HE.out he
        clear he
        go_wp2_with fail
        go_roundw
        case rel => exact ⟨i + 1, by omega, by go_num, _, rfl, _, rfl, s1, S1, M1, S', M', HF1.out, HF⟩
        case measure => simp [intOf]; omega
    obtain ⟨L, hF, hLv, hLu⟩ : ∃ L, Fm w wr L ∧ L[0]? = some (usP ok b S' M' s) ∧ L[1]? = some (usP ok a S M s) := ⟨_, HF.out, rfl, rfl⟩
    replace HF := Lib.hid hF
    have HLv := Lib.hid hLv
    have HLu := Lib.hid hLu
    clear hF hLv hLu
    have hi40 : i ≤ 200 := by omega
    go_wp2_with fail
    go_loopw [13, 14, 15, 16, 17] (fun vk vx vg vy vh wr2 => ∃ j : Nat, j ≤ 10 ∧ vk = .int .i64 (j : Int) ∧ ∃ V, V = vx ∧ ∃ V', V' = vg ∧ ∃ V2, V2 = vy ∧ ∃ V3, V3 = vh ∧ Hid (Fm w wr2 L)) (fun i _ _ _ _ _ => 10 - (intOf i).toNat)
    case atStart => exact ⟨0, Nat.zero_le _, rfl, _, rfl, _, rfl, _, rfl, _, rfl, HF⟩
    case round =>
      obtain ⟨j, hj, rfl, vx, rfl, vg, rfl, vy, rfl, vh, rfl, HF⟩ := hrel
      have hj0 : (0 : Int) ≤ (j : Int) := Int.natCast_nonneg j
      by_cases hjl : (j : Int) < 10
      · have HFN := Lib.hid fun w => file_any (j : Int) (by omega) w
        have hfs := fileN_size (j : Int)
        generalize fileN (j : Int) = F at HFN hfs
        have hF5 : F.size ≤ 10000 := by omega
        clear hfs
        obtain ⟨x1, e1, hx⟩ : ∃ x1 e1, own s F.data.toList = (x1, e1) := ⟨_, _, rfl⟩
        have HX := Lib.hid hx
        have hee : (e1 != e1) = false := by simp
        clear hx
        go_wp2_with fail
        with_reducible refine (HFN.out _).mono ?_
        rintro e w1 ⟨rfl, hb⟩
        replace HF := Lib.hid (HF.out.go hb)
        clear hb
        try dsimp only
        go_wp2_with fail
        with_reducible refine (u_own HK.out 1 HLu.out HF.out HFS.out hi40 F hF5).mono ?_
        rintro e w1 ⟨vs, hF, rfl⟩
        rw [HX.out] at hF ⊢
        obtain ⟨ox, fx, Ax, cx, Bx, dx, Rx, Tx, ex, rfl, ho, hf, hr⟩ := isO_lit (hF.at 0 rfl)
        have HOx := Lib.hid ho
        have HPx := Lib.hid hf
        have HRx := Lib.hid hr
        clear ho hf hr
        unfold OV at hF ⊢
        replace HF := Lib.hid hF
        clear hF
        dsimp only
        go_wp2_with fail
        have hF := HF.out.box #[.string ox, .string fx, .int .i64 x1.r.ep, .slice Ax x1.r.rs.length cx, .slice Bx x1.r.ws.length dx, .int .u64 (x1.ver : Int), .string Rx, .slice Tx x1.sg.length ex, .bool x1.gone] 36
        generalize w1.alloc (.cells #[.string ox, .string fx, .int .i64 x1.r.ep, .slice Ax x1.r.rs.length cx, .slice Bx x1.r.ws.length dx, .int .u64 (x1.ver : Int), .string Rx, .slice Tx x1.sg.length ex, .bool x1.gone] 36) = w1 at hF ⊢
        replace HF := Lib.hid hF
        clear hF
        with_reducible refine (HFN.out _).mono ?_
        rintro e w1 ⟨rfl, hb⟩
        replace HF := Lib.hid (HF.out.go hb)
        clear hb
        try dsimp only
        go_wp2_with fail
        with_reducible refine (u_own HK.out 2 (up (up HLv.out)) HF.out HFS.out hi40 F hF5).mono ?_
        rintro e w1 ⟨vs, hF, rfl⟩
        rw [HX.out] at hF ⊢
        obtain ⟨oy, fy, Ay, cy, By, dy, Ry, Ty, ey, rfl, ho, hf, hr⟩ := isO_lit (hF.at 0 rfl)
        have HOy := Lib.hid ho
        have HPy := Lib.hid hf
        have HRy := Lib.hid hr
        clear ho hf hr
        unfold OV at hF ⊢
        replace HF := Lib.hid hF
        clear hF
        dsimp only
        go_wp2_with fail
        have hF := HF.out.box #[.string oy, .string fy, .int .i64 x1.r.ep, .slice Ay x1.r.rs.length cy, .slice By x1.r.ws.length dy, .int .u64 (x1.ver : Int), .string Ry, .slice Ty x1.sg.length ey, .bool x1.gone] 36
        generalize w1.alloc (.cells #[.string oy, .string fy, .int .i64 x1.r.ep, .slice Ay x1.r.rs.length cy, .slice By x1.r.ws.length dy, .int .u64 (x1.ver : Int), .string Ry, .slice Ty x1.sg.length ey, .bool x1.gone] 36) = w1 at hF ⊢
        replace HF := Lib.hid hF
        clear hF
        have HS1 := Lib.hid fun (w1 : World) (L : List Part) (h1 : Fm w w1 L) => h1
        have hfw := own_few HFS.out F.data.toList
        rw [HX.out] at hfw
        have HFW := Lib.hid hfw
        clear hfw
        go_wp2_with fail
        refine Ord.region_lit (S := fun w' => Fm w w' _) (by kernel_rfl) (by kernel_rfl) (HF.out.go (Below.drewN' (Below.refl _ _) 1)) ?_
        iterate 4 (refine Ord.stepR (v := ?_) (by rfl) ?_ ?_; rotate_left; · (intro w' hSw; go_simp; try with_reducible rfl))
        try simp only [Act.put, List.setIfInBounds_toArray, List.set_cons_zero, List.set_cons_succ]
        (refine Ord.stepR (v := ?_) (by rfl) ?_ ?_; rotate_left; · (intro w' hSw; obtain ⟨q00, q01, q02, q03, q04, q05, q06, q07, q08, q09⟩ := bx9 (hSw.at 2 rfl); obtain ⟨q10, q11, q12, q13, q14, q15, q16, q17, q18, q19⟩ := bx9 (hSw.at 0 rfl); go_simp; try with_reducible rfl))
        try simp only [Act.put, List.setIfInBounds_toArray, List.set_cons_zero, List.set_cons_succ]
        refine Ord.stepC (v := .agg #[.string ox, .string fx, .int .i64 x1.r.ep, .slice Ax x1.r.rs.length cx, .slice Bx x1.r.ws.length dx, .int .u64 (x1.ver : Int), .string Rx, .slice Tx x1.sg.length ex, .bool x1.gone]) (by rfl) ?_ (fun w1 hS => (asowned_any _ _ _ _ _ _ _ _ _ _ _ _ _ _ _ w1).mono fun e w2 h => ⟨h.1, hS.go h.2⟩) ?_
        · (intro w' hSw; go_simp; try with_reducible rfl)
        try simp only [Act.put, List.setIfInBounds_toArray, List.set_cons_zero, List.set_cons_succ]
        (refine Ord.stepR (v := ?_) (by rfl) ?_ ?_; rotate_left; · (intro w' hSw; obtain ⟨q00, q01, q02, q03, q04, q05, q06, q07, q08, q09⟩ := bx9 (hSw.at 2 rfl); obtain ⟨q10, q11, q12, q13, q14, q15, q16, q17, q18, q19⟩ := bx9 (hSw.at 0 rfl); go_simp; try with_reducible rfl))
        try simp only [Act.put, List.setIfInBounds_toArray, List.set_cons_zero, List.set_cons_succ]
        refine Ord.stepC (v := .agg #[.string oy, .string fy, .int .i64 x1.r.ep, .slice Ay x1.r.rs.length cy, .slice By x1.r.ws.length dy, .int .u64 (x1.ver : Int), .string Ry, .slice Ty x1.sg.length ey, .bool x1.gone]) (by rfl) ?_ (fun w1 hS => (asowned_any _ _ _ _ _ _ _ _ _ _ _ _ _ _ _ w1).mono fun e w2 h => ⟨h.1, hS.go h.2⟩) ?_
        · (intro w' hSw; go_simp; try with_reducible rfl)
        try simp only [Act.put, List.setIfInBounds_toArray, List.set_cons_zero, List.set_cons_succ]
        refine Ord.stepC (v := .bool true) (by rfl) ?_ (fun w1 hS => (same14_any [.string ox, .string fx, .int .i64 x1.r.ep, .slice Ax x1.r.rs.length cx, .slice Bx x1.r.ws.length dx, .int .u64 (x1.ver : Int), .string Rx, .slice Tx x1.sg.length ex, .bool x1.gone] [.string oy, .string fy, .int .i64 x1.r.ep, .slice Ay x1.r.rs.length cy, .slice By x1.r.ws.length dy, .int .u64 (x1.ver : Int), .string Ry, .slice Ty x1.sg.length ey, .bool x1.gone] x1 w1 (hS.at 3 rfl) (hS.at 1 rfl) HFW.out.1 HFW.out.2).mono fun e w2 h => ⟨h.1, hS.go h.2⟩) ?_
        · (intro w' hSw; go_simp; try with_reducible rfl)
        try simp only [Act.put, List.setIfInBounds_toArray, List.set_cons_zero, List.set_cons_succ]
        iterate 2 (refine Ord.stepR (v := ?_) (by rfl) ?_ ?_; rotate_left; · (intro w' hSw; go_simp; try with_reducible rfl))
        try simp only [Act.put, List.setIfInBounds_toArray, List.set_cons_zero, List.set_cons_succ]
        refine Ord.stepD fun w1 hZ => ?_
        replace HF := Lib.hid hZ
        clear hZ
        go_wp2_with fail
        replace HF := Lib.hid HF.out.tail
        replace HF := Lib.hid HF.out.tail
        replace HF := Lib.hid HF.out.tail
        replace HF := Lib.hid HF.out.tail
        go_roundw
        case rel => exact ⟨j + 1, by omega, by go_num, _, rfl, _, rfl, _, rfl, _, rfl, HF⟩
        case measure => simp [intOf]; omega
      go_wp2_with fail
      with_reducible refine (u_files HK.out 1 HLu.out HF.out HFS.out hi40).mono ?_
      rintro e w1 ⟨A1, c1, Y1, h1, hc1, hF, rfl⟩
      replace HF := Lib.hid hF
      clear hF
      have H1 := Lib.hid h1
      have HC1 := Lib.hid hc1
      clear h1 hc1
      try dsimp only
      go_wp2_with fail
      with_reducible refine (u_files HK.out 1 (up HLv.out) HF.out HFS.out hi40).mono ?_
      rintro e w1 ⟨A2, c2, Y2, h2, hc2, hF, rfl⟩
      replace HF := Lib.hid hF
      clear hF
      have H2 := Lib.hid h2
      clear h2 hc2
      try dsimp only
      have HEQ := Lib.hid (lsd_eq H1.out.1 H2.out.1 fun x => (H1.out.2 x).trans (H2.out.2 x).symm)
      go_wp2_with fail
      with_reducible refine (same_any A1 A2 c1 c2 Y1 Y2 _ (HF.out.at 1 rfl) (HF.out.at 0 rfl) (Nat.le_trans HC1.out.1 HC1.out.2)).mono ?_
      rintro e w1 ⟨rfl, hb⟩
      replace HF := Lib.hid (HF.out.go hb)
      clear hb
      try dsimp only
      rw [decide_eq_true HEQ.out]
      go_wp2_with fail
      go_ret
      exact ⟨rfl, HF.out.bel⟩
end Go.Proofs.Ytbdealddjonobaa.Usr
