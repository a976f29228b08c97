/-
  THE LAW DrawShifts, walked over what the code is held to. By an AI agent; no person has read it.
-/
import Derived.Test.YtahlilhdiklemaaDApart
namespace Go.Proofs.Ytahlilhdiklemaa.Draw
open Go.RowKit Wire Term Clo

theorem draw_shift {s n i : Nat} : draw ((s + n * 11400714819323198485) % 18446744073709551616) i = draw s (n + i) := by
  unfold draw
  rw [show ((s + n * 11400714819323198485) % 18446744073709551616 + i * 11400714819323198485) % 18446744073709551616 = (s + (n + i) * 11400714819323198485) % 18446744073709551616 by omega]
set_option maxHeartbeats 8000000 in
set_option maxRecDepth 1000000 in
theorem shifts_walk {D : DPred} (MO : MixOK) (d : DrawsOK D) (s : Nat) (m : Int) (w : World) (hs : s < 18446744073709551616) (hm : -9223372036854775808 ≤ m ∧ m ≤ 9223372036854775807) :
    Calls Try.prog 6 #[.int .u64 (s : Int), .int .i64 m] w fun e w' => e = .returned (.bool true) ∧ Below w.heap.size w w' := by
  have HMO := Lib.hid MO
  have HD := Lib.hid d
  by_cases h0 : m < 0
  · go_enter Try.func6, Try.ntmps6
    go_wp2_with fail
    refine (shown5_any HMO.out HD.out w).mono ?_
    rintro e w1 ⟨rfl, hb1⟩
    have HB1 := Lib.hid hb1
    clear hb1
    dsimp only
    go_wp2_with fail
    obtain ⟨n, hn, hn2⟩ : ∃ n : Nat, -(m + 1).tmod 200 = (n : Int) ∧ n < 200 := by
      have e1 : -(m + 1).tmod 200 = (-(m + 1)).tmod 200 := (Int.neg_tmod _ _).symm
      have h1 := Int.tmod_nonneg (200 : Int) (a := -(m + 1)) (by omega)
      have h2 : (-(m + 1)).tmod 200 < 200 := by rw [Int.tmod_eq_emod_of_nonneg (by omega)]; omega
      exact ⟨(-(m + 1).tmod 200).toNat, by omega, by omega⟩
    rw [hn]
    clear hn
    clear h0 hm
    have h0 := u64_small (n := n) (by omega)
    obtain ⟨r, hr⟩ : ∃ r, IntKind.u64.wrap ((n : Int) * 11400714819323198485) = r := ⟨_, rfl⟩
    obtain ⟨z, hz⟩ : ∃ z, (s + n * 11400714819323198485) % 18446744073709551616 = z := ⟨_, rfl⟩
    have h2 : IntKind.u64.wrap ((s : Int) + r) = (z : Int) := by rw [← hr, ← hz]; exact draw_eq
    have hzl : z < 18446744073709551616 := by rw [← hz]; exact Nat.mod_lt _ (by decide)
    have HZ : Hid (∀ i, draw z i = draw s (n + i)) := fun i => by rw [← hz]; exact draw_shift
    clear hz
    refine (fam_new HD.out (fam_nil D w.heap.size w1) HB1.out.size s hs).mono ?_
    rintro e w2 ⟨x, rfl, hf2, hb2⟩
    have HB2 := Lib.hid (HB1.out.trans (hb2.mono HB1.out.size))
    have HF2 := Lib.hid hf2
    clear hb2 hf2
    dsimp only
    go_wp2_with fail
    refine (fam_new HD.out HF2.out HB2.out.size z hzl).mono ?_
    rintro e w3 ⟨y, rfl, hf3, hb3⟩
    have HB3 := Lib.hid (HB2.out.trans (hb3.mono HB2.out.size))
    have HF3 : Hid (Fam D w.heap.size w3 [(x, s, 0), (y, z, 0)]) := hf3
    clear hb3 hf3
    dsimp only
    go_wp2_with fail
    go_loopw [9] (fun i wr => ∃ j : Nat, j ≤ n ∧ i = .int .i64 j ∧ Hid (Fam D w.heap.size wr [(x, s, j), (y, z, 0)]) ∧ Hid (Below w.heap.size w wr)) (fun i _ => n - (intOf i).toNat)
    case atStart => exact ⟨0, Nat.zero_le _, rfl, HF3, HB3⟩
    case round =>
      clear HF3 HB3 HF2 HB2 HB1
      obtain ⟨j, hj, rfl, HF, HB⟩ := hrel
      by_cases hlt : j < n
      · go_wp2_with fail
        refine (fam_next HD.out HF.out HB.out.size 0 rfl (by omega)).mono ?_
        rintro e w4 ⟨rfl, hf4, hb4⟩
        have HF4 : Hid (Fam D w.heap.size w4 [(x, s, j + 1), (y, z, 0)]) := hf4
        have HB4 := Lib.hid (HB.out.trans hb4)
        clear hf4 hb4
        dsimp only
        go_wp2
        go_roundw
        case rel => exact ⟨j + 1, by omega, by go_num, HF4, HB4⟩
        case measure => simp [intOf]; omega
      · obtain rfl : j = n := by omega
        go_wp2_with fail
        go_loopw [10] (fun i wr => ∃ k : Nat, k ≤ 20 ∧ i = .int .i64 k ∧ Hid (Fam D w.heap.size wr [(x, s, j + k), (y, z, k)]) ∧ Hid (Below w.heap.size w wr)) (fun i _ => 20 - (intOf i).toNat)
        case atStart => exact ⟨0, Nat.zero_le _, rfl, HF, HB⟩
        case round =>
          clear HF HB
          obtain ⟨k, hk, rfl, HF, HB⟩ := hrel
          by_cases hlt2 : k < 20
          · obtain ⟨v, hv⟩ : ∃ v, draw s (j + k) = v := ⟨_, rfl⟩
            have HV := Lib.hid hv
            have HV2 : Hid (draw z k = v) := by rw [HZ.out k]; exact hv
            clear hv
            go_wp2_with fail
            refine (fam_many HD.out HF.out 0 rfl (by omega)).mono ?_
            rintro e w4 ⟨rfl, hf4, hb4⟩
            have HF4 := Lib.hid hf4
            have HB4 := Lib.hid (HB.out.trans (hb4.mono HB.out.size))
            clear hf4 hb4
            dsimp only
            go_wp2_with fail
            refine (fam_many HD.out HF4.out 1 rfl (by omega)).mono ?_
            rintro e w5 ⟨rfl, hf5, hb5⟩
            have HF5 := Lib.hid hf5
            have HB5 := Lib.hid (HB4.out.trans (hb5.mono HB4.out.size))
            clear hf5 hb5
            dsimp only
            go_wp2_with fail
            refine (fam_next HD.out HF5.out HB5.out.size 0 rfl (by omega)).mono ?_
            rw [HV.out]
            rintro e w6 ⟨rfl, hf6, hb6⟩
            have HF6 : Hid (Fam D w.heap.size w6 [(x, s, j + k + 1), (y, z, k)]) := hf6
            have HB6 := Lib.hid (HB5.out.trans hb6)
            clear hf6 hb6
            dsimp only
            go_wp2_with fail
            refine (fam_next HD.out HF6.out HB6.out.size 1 rfl (by omega)).mono ?_
            rw [HV2.out]
            rintro e w7 ⟨rfl, hf7, hb7⟩
            have HF7 : Hid (Fam D w.heap.size w7 [(x, s, j + (k + 1)), (y, z, k + 1)]) := hf7
            have HB7 := Lib.hid (HB6.out.trans hb7)
            clear hf7 hb7
            dsimp only
            go_wp2
            go_roundw
            case rel => exact ⟨k + 1, by omega, by go_num, HF7, HB7⟩
            case measure => simp [intOf]; omega
          · obtain rfl : k = 20 := by omega
            have h3 : IntKind.u64.wrap ((j : Int) + 20) = (j : Int) + 20 := u64_small (n := j + 20) (by omega)
            obtain ⟨t, ht⟩ : ∃ t, IntKind.u64.wrap (((j : Int) + 20) * 11400714819323198485) = t := ⟨_, rfl⟩
            obtain ⟨q, hq⟩ : ∃ q, (s + (j + 20) * 11400714819323198485) % 18446744073709551616 = q := ⟨_, rfl⟩
            have h4 : IntKind.u64.wrap ((s : Int) + t) = (q : Int) := by rw [← ht, ← hq]; exact draw_eq (i := j + 20)
            obtain ⟨v, hv⟩ : ∃ v, mix q = v := ⟨_, rfl⟩
            have HV : Hid (draw s (j + 20) = v) := by show mix _ = _; rw [hq, hv]
            have HMV := Lib.hid (HMO.out q)
            have hql : q < 18446744073709551616 := by rw [← hq]; exact Nat.mod_lt _ (by decide)
            rw [hv] at HMV
            clear hq hv
            go_wp2_with fail
            refine (fam_next HD.out HF.out HB.out.size 0 rfl (by omega)).mono ?_
            rw [HV.out]
            rintro e w4 ⟨rfl, hf4, hb4⟩
            have HB4 := Lib.hid (HB.out.trans hb4)
            clear hf4 hb4
            dsimp only
            go_wp2_with fail
            refine (HMV.out _ hql).mono ?_
            rintro e w5 ⟨rfl, hb5⟩
            have HB5 := Lib.hid (HB4.out.trans (hb5.mono HB4.out.size))
            clear hb5
            dsimp only
            go_wp2
            go_ret
            exact ⟨rfl, HB5.out⟩
  · go_enter Try.func6, Try.ntmps6
    go_wp2_with fail
    refine (shown5_any HMO.out HD.out w).mono ?_
    rintro e w1 ⟨rfl, hb1⟩
    have HB1 := Lib.hid hb1
    clear hb1
    dsimp only
    go_wp2_with fail
    obtain ⟨n, hn, hn2⟩ : ∃ n : Nat, m % 200 = (n : Int) ∧ n < 200 := ⟨(m % 200).toNat, by omega, by omega⟩
    rw [hn]
    clear hn
    clear h0 hm
    have h0 := u64_small (n := n) (by omega)
    obtain ⟨r, hr⟩ : ∃ r, IntKind.u64.wrap ((n : Int) * 11400714819323198485) = r := ⟨_, rfl⟩
    obtain ⟨z, hz⟩ : ∃ z, (s + n * 11400714819323198485) % 18446744073709551616 = z := ⟨_, rfl⟩
    have h2 : IntKind.u64.wrap ((s : Int) + r) = (z : Int) := by rw [← hr, ← hz]; exact draw_eq
    have hzl : z < 18446744073709551616 := by rw [← hz]; exact Nat.mod_lt _ (by decide)
    have HZ : Hid (∀ i, draw z i = draw s (n + i)) := fun i => by rw [← hz]; exact draw_shift
    clear hz
    refine (fam_new HD.out (fam_nil D w.heap.size w1) HB1.out.size s hs).mono ?_
    rintro e w2 ⟨x, rfl, hf2, hb2⟩
    have HB2 := Lib.hid (HB1.out.trans (hb2.mono HB1.out.size))
    have HF2 := Lib.hid hf2
    clear hb2 hf2
    dsimp only
    go_wp2_with fail
    refine (fam_new HD.out HF2.out HB2.out.size z hzl).mono ?_
    rintro e w3 ⟨y, rfl, hf3, hb3⟩
    have HB3 := Lib.hid (HB2.out.trans (hb3.mono HB2.out.size))
    have HF3 : Hid (Fam D w.heap.size w3 [(x, s, 0), (y, z, 0)]) := hf3
    clear hb3 hf3
    dsimp only
    go_wp2_with fail
    go_loopw [9] (fun i wr => ∃ j : Nat, j ≤ n ∧ i = .int .i64 j ∧ Hid (Fam D w.heap.size wr [(x, s, j), (y, z, 0)]) ∧ Hid (Below w.heap.size w wr)) (fun i _ => n - (intOf i).toNat)
    case atStart => exact ⟨0, Nat.zero_le _, rfl, HF3, HB3⟩
    case round =>
      clear HF3 HB3 HF2 HB2 HB1
      obtain ⟨j, hj, rfl, HF, HB⟩ := hrel
      by_cases hlt : j < n
      · go_wp2_with fail
        refine (fam_next HD.out HF.out HB.out.size 0 rfl (by omega)).mono ?_
        rintro e w4 ⟨rfl, hf4, hb4⟩
        have HF4 : Hid (Fam D w.heap.size w4 [(x, s, j + 1), (y, z, 0)]) := hf4
        have HB4 := Lib.hid (HB.out.trans hb4)
        clear hf4 hb4
        dsimp only
        go_wp2
        go_roundw
        case rel => exact ⟨j + 1, by omega, by go_num, HF4, HB4⟩
        case measure => simp [intOf]; omega
      · obtain rfl : j = n := by omega
        go_wp2_with fail
        go_loopw [10] (fun i wr => ∃ k : Nat, k ≤ 20 ∧ i = .int .i64 k ∧ Hid (Fam D w.heap.size wr [(x, s, j + k), (y, z, k)]) ∧ Hid (Below w.heap.size w wr)) (fun i _ => 20 - (intOf i).toNat)
        case atStart => exact ⟨0, Nat.zero_le _, rfl, HF, HB⟩
        case round =>
          clear HF HB
          obtain ⟨k, hk, rfl, HF, HB⟩ := hrel
          by_cases hlt2 : k < 20
          · obtain ⟨v, hv⟩ : ∃ v, draw s (j + k) = v := ⟨_, rfl⟩
            have HV := Lib.hid hv
            have HV2 : Hid (draw z k = v) := by rw [HZ.out k]; exact hv
            clear hv
            go_wp2_with fail
            refine (fam_many HD.out HF.out 0 rfl (by omega)).mono ?_
            rintro e w4 ⟨rfl, hf4, hb4⟩
            have HF4 := Lib.hid hf4
            have HB4 := Lib.hid (HB.out.trans (hb4.mono HB.out.size))
            clear hf4 hb4
            dsimp only
            go_wp2_with fail
            refine (fam_many HD.out HF4.out 1 rfl (by omega)).mono ?_
            rintro e w5 ⟨rfl, hf5, hb5⟩
            have HF5 := Lib.hid hf5
            have HB5 := Lib.hid (HB4.out.trans (hb5.mono HB4.out.size))
            clear hf5 hb5
            dsimp only
            go_wp2_with fail
            refine (fam_next HD.out HF5.out HB5.out.size 0 rfl (by omega)).mono ?_
            rw [HV.out]
            rintro e w6 ⟨rfl, hf6, hb6⟩
            have HF6 : Hid (Fam D w.heap.size w6 [(x, s, j + k + 1), (y, z, k)]) := hf6
            have HB6 := Lib.hid (HB5.out.trans hb6)
            clear hf6 hb6
            dsimp only
            go_wp2_with fail
            refine (fam_next HD.out HF6.out HB6.out.size 1 rfl (by omega)).mono ?_
            rw [HV2.out]
            rintro e w7 ⟨rfl, hf7, hb7⟩
            have HF7 : Hid (Fam D w.heap.size w7 [(x, s, j + (k + 1)), (y, z, k + 1)]) := hf7
            have HB7 := Lib.hid (HB6.out.trans hb7)
            clear hf7 hb7
            dsimp only
            go_wp2
            go_roundw
            case rel => exact ⟨k + 1, by omega, by go_num, HF7, HB7⟩
            case measure => simp [intOf]; omega
          · obtain rfl : k = 20 := by omega
            have h3 : IntKind.u64.wrap ((j : Int) + 20) = (j : Int) + 20 := u64_small (n := j + 20) (by omega)
            obtain ⟨t, ht⟩ : ∃ t, IntKind.u64.wrap (((j : Int) + 20) * 11400714819323198485) = t := ⟨_, rfl⟩
            obtain ⟨q, hq⟩ : ∃ q, (s + (j + 20) * 11400714819323198485) % 18446744073709551616 = q := ⟨_, rfl⟩
            have h4 : IntKind.u64.wrap ((s : Int) + t) = (q : Int) := by rw [← ht, ← hq]; exact draw_eq (i := j + 20)
            obtain ⟨v, hv⟩ : ∃ v, mix q = v := ⟨_, rfl⟩
            have HV : Hid (draw s (j + 20) = v) := by show mix _ = _; rw [hq, hv]
            have HMV := Lib.hid (HMO.out q)
            have hql : q < 18446744073709551616 := by rw [← hq]; exact Nat.mod_lt _ (by decide)
            rw [hv] at HMV
            clear hq hv
            go_wp2_with fail
            refine (fam_next HD.out HF.out HB.out.size 0 rfl (by omega)).mono ?_
            rw [HV.out]
            rintro e w4 ⟨rfl, hf4, hb4⟩
            have HB4 := Lib.hid (HB.out.trans hb4)
            clear hf4 hb4
            dsimp only
            go_wp2_with fail
            refine (HMV.out _ hql).mono ?_
            rintro e w5 ⟨rfl, hb5⟩
            have HB5 := Lib.hid (HB4.out.trans (hb5.mono HB4.out.size))
            clear hb5
            dsimp only
            go_wp2
            go_ret
            exact ⟨rfl, HB5.out⟩
end Go.Proofs.Ytahlilhdiklemaa.Draw
