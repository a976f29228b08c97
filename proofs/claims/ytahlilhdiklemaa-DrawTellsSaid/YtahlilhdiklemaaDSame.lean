/-
  THE LAW DrawSame, walked over what the code is held to. By an AI agent; no person has read it.
-/
import Derived.Test.YtahlilhdiklemaaDApart
namespace Go.Proofs.Ytahlilhdiklemaa.Draw
open Go.RowKit Wire Term Clo

theorem rem_small {m : Int} {k : Nat} (hk : 0 < k) : Int.tmod m k < (k : Int) := by
  rcases Int.le_total 0 m with h | h
  · rw [Int.tmod_eq_emod_of_nonneg h]; exact Int.emod_lt_of_pos _ (by omega)
  · have h1 : Int.tmod m k = -(Int.tmod (-m) k) := by rw [Int.neg_tmod, Int.neg_neg]
    have h2 := Int.tmod_nonneg (k : Int) (a := -m) (by omega)
    omega
set_option maxHeartbeats 8000000 in
set_option maxRecDepth 1000000 in
theorem same_walk {D : DPred} (MO : MixOK) (d : DrawsOK D) (a b : Nat) (m : Int) (w : World) (ha : a < 18446744073709551616) (hb : b < 18446744073709551616) :
    Calls Try.prog 4 #[.int .u64 (a : Int), .int .u64 (b : Int), .int .i64 m] w fun e w' => e = .returned (.bool true) ∧ Below w.heap.size w w' := by
  have HMO := Lib.hid MO
  have HD := Lib.hid d
  go_enter Try.func4, Try.ntmps4
  go_wp2_with fail
  refine (shown5_any HMO.out HD.out w).mono ?_
  rintro e w1 ⟨rfl, hb1⟩
  have HB1 := Lib.hid hb1
  clear hb1
  dsimp only
  go_wp2_with fail
  refine (fam_new HD.out (fam_nil D w.heap.size w1) HB1.out.size a ha).mono ?_
  rintro e w2 ⟨x, rfl, hf2, hb2⟩
  have HB2 := Lib.hid (HB1.out.trans (hb2.mono HB1.out.size))
  have HF2 := Lib.hid hf2
  clear hb2 hf2
  dsimp only
  go_wp2_with fail
  refine (fam_new HD.out HF2.out HB2.out.size a ha).mono ?_
  rintro e w3 ⟨y, rfl, hf3, hb3⟩
  have HB3 := Lib.hid (HB2.out.trans (hb3.mono HB2.out.size))
  have HF3 := Lib.hid hf3
  clear hb3 hf3
  dsimp only
  go_wp2_with fail
  refine (fam_new HD.out HF3.out HB3.out.size b hb).mono ?_
  rintro e w4 ⟨z, rfl, hf4, hb4⟩
  have HB4 := Lib.hid (HB3.out.trans (hb4.mono HB3.out.size))
  have HF4 : Hid (Fam D w.heap.size w4 [(x, a, 0), (y, a, 0), (z, b, 0)]) := hf4
  clear hb4 hf4
  dsimp only
  go_wp2_with fail
  go_loopw [11] (fun i wr => ∃ j q : Nat, q ≤ j ∧ (j : Int) ≤ max 0 (Int.tmod m 50) ∧ i = .int .i64 j ∧ Hid (Fam D w.heap.size wr [(x, a, j), (y, a, j), (z, b, q)]) ∧ Hid (Below w.heap.size w wr)) (fun i _ => (max 0 (Int.tmod m 50)).toNat - (intOf i).toNat)
  case atStart => exact ⟨0, 0, Nat.le_refl _, by omega, rfl, HF4, HB4⟩
  case round =>
    clear HF4 HB4 HF3 HB3 HF2 HB2 HB1
    obtain ⟨j, q, hq, hj, rfl, HF, HB⟩ := hrel
    have h50 : Int.tmod m 50 < 50 := rem_small (k := 50) (by decide)
    by_cases hlt : (j : Int) < Int.tmod m 50
    · obtain ⟨v, hv⟩ : ∃ v, draw a j = v := ⟨_, rfl⟩
      have HV := Lib.hid hv
      clear hv
      by_cases hj0 : j = 0
      · subst hj0
        have HV0 : Hid (mix a = v) := by have := HV.out; rw [draw_first] at this; exact this
        have hq0 : q = 0 := by omega
        subst hq0
        go_wp2_with fail
        refine (fam_next HD.out HF.out HB.out.size 0 rfl (by omega)).mono ?_
        rw [HV.out]
        rintro e w5 ⟨rfl, hf5, hb5⟩
        have HF5 : Hid (Fam D w.heap.size w5 [(x, a, 1), (y, a, 0), (z, b, 0)]) := hf5
        have HB5 := Lib.hid (HB.out.trans hb5)
        clear hf5 hb5
        dsimp only
        go_wp2_with fail
        refine (fam_next HD.out HF5.out HB5.out.size 2 rfl (by omega)).mono ?_
        rintro e w6 ⟨rfl, hf6, hb6⟩
        have HF6 : Hid (Fam D w.heap.size w6 [(x, a, 1), (y, a, 0), (z, b, 1)]) := hf6
        have HB6 := Lib.hid (HB5.out.trans hb6)
        clear hf6 hb6
        dsimp only
        go_wp2_with fail
        refine (HMO.out a _ ha).mono ?_
        rw [HV0.out]
        rintro e w7 ⟨rfl, hb7⟩
        have HF7 := Lib.hid (fam_below HD.out HF6.out hb7)
        have HB7 := Lib.hid (HB6.out.trans (hb7.mono HB6.out.size))
        clear hb7
        dsimp only
        go_wp2_with fail
        refine (fam_next HD.out HF7.out HB7.out.size 1 rfl (by omega)).mono ?_
        rw [HV.out]
        rintro e w8 ⟨rfl, hf8, hb8⟩
        have HF8 : Hid (Fam D w.heap.size w8 [(x, a, 1), (y, a, 1), (z, b, 1)]) := hf8
        have HB8 := Lib.hid (HB7.out.trans hb8)
        clear hf8 hb8
        dsimp only
        go_wp2
        go_roundw
        case rel => exact ⟨1, 1, by omega, by omega, by go_num, HF8, HB8⟩
        case measure => simp [intOf]; omega
      · by_cases h3 : j % 3 = 0
        · go_wp2_with fail
          refine (fam_next HD.out HF.out HB.out.size 0 rfl (by omega)).mono ?_
          rw [HV.out]
          rintro e w5 ⟨rfl, hf5, hb5⟩
          have HF5 : Hid (Fam D w.heap.size w5 [(x, a, j + 1), (y, a, j), (z, b, q)]) := hf5
          have HB5 := Lib.hid (HB.out.trans hb5)
          clear hf5 hb5
          dsimp only
          go_wp2_with fail
          refine (fam_next HD.out HF5.out HB5.out.size 2 rfl (by omega)).mono ?_
          rintro e w6 ⟨rfl, hf6, hb6⟩
          have HF6 : Hid (Fam D w.heap.size w6 [(x, a, j + 1), (y, a, j), (z, b, q + 1)]) := hf6
          have HB6 := Lib.hid (HB5.out.trans hb6)
          clear hf6 hb6
          dsimp only
          go_wp2_with fail
          refine (fam_next HD.out HF6.out HB6.out.size 1 rfl (by omega)).mono ?_
          rw [HV.out]
          rintro e w8 ⟨rfl, hf8, hb8⟩
          have HF8 : Hid (Fam D w.heap.size w8 [(x, a, j + 1), (y, a, j + 1), (z, b, q + 1)]) := hf8
          have HB8 := Lib.hid (HB6.out.trans hb8)
          clear hf8 hb8
          dsimp only
          go_wp2
          go_roundw
          case rel => exact ⟨j + 1, q + 1, by omega, by omega, by go_num, HF8, HB8⟩
          case measure => simp [intOf]; omega
        · go_wp2_with fail
          refine (fam_next HD.out HF.out HB.out.size 0 rfl (by omega)).mono ?_
          rw [HV.out]
          rintro e w5 ⟨rfl, hf5, hb5⟩
          have HF5 : Hid (Fam D w.heap.size w5 [(x, a, j + 1), (y, a, j), (z, b, q)]) := hf5
          have HB5 := Lib.hid (HB.out.trans hb5)
          clear hf5 hb5
          dsimp only
          go_wp2_with fail
          refine (fam_next HD.out HF5.out HB5.out.size 1 rfl (by omega)).mono ?_
          rw [HV.out]
          rintro e w8 ⟨rfl, hf8, hb8⟩
          have HF8 : Hid (Fam D w.heap.size w8 [(x, a, j + 1), (y, a, j + 1), (z, b, q)]) := hf8
          have HB8 := Lib.hid (HB5.out.trans hb8)
          clear hf8 hb8
          dsimp only
          go_wp2
          go_roundw
          case rel => exact ⟨j + 1, q, by omega, by omega, by go_num, HF8, HB8⟩
          case measure => simp [intOf]; omega
    · go_wp2_with fail
      refine (fam_many HD.out HF.out 0 rfl (by omega)).mono ?_
      rintro e w5 ⟨rfl, hf5, hb5⟩
      have HF5 := Lib.hid hf5
      have HB5 := Lib.hid (HB.out.trans (hb5.mono HB.out.size))
      clear hf5 hb5
      dsimp only
      go_wp2_with fail
      refine (fam_many HD.out HF5.out 1 rfl (by omega)).mono ?_
      rintro e w6 ⟨rfl, hf6, hb6⟩
      have HB6 := Lib.hid (HB5.out.trans (hb6.mono HB5.out.size))
      clear hf6 hb6
      dsimp only
      by_cases hab : a = b
      · subst hab
        go_wp2
        go_ret
        exact ⟨rfl, HB6.out⟩
      · obtain ⟨u, hu⟩ : ∃ u, mix a = u := ⟨_, rfl⟩
        obtain ⟨v, hv⟩ : ∃ v, mix b = v := ⟨_, rfl⟩
        have HMA := Lib.hid (HMO.out a)
        have HMB := Lib.hid (HMO.out b)
        rw [hu] at HMA
        rw [hv] at HMB
        have huv : u ≠ v := fun e => hab (mix_inj ha hb (by rw [hu, hv, e]))
        clear hu hv
        go_wp2_with fail
        refine (HMA.out _ ha).mono ?_
        rintro e w7 ⟨rfl, hb7⟩
        have HB7 := Lib.hid (HB6.out.trans (hb7.mono HB6.out.size))
        clear hb7
        dsimp only
        go_wp2_with fail
        refine (HMB.out _ hb).mono ?_
        rintro e w8 ⟨rfl, hb8⟩
        have HB8 := Lib.hid (HB7.out.trans (hb8.mono HB7.out.size))
        clear hb8
        dsimp only
        go_wp2
        go_ret
        exact ⟨congrArg (fun t => Ending.returned (.bool t)) (show (((a : Int) == (b : Int)) || ((u : Int) != (v : Int))) = true by simp; omega), HB8.out⟩
end Go.Proofs.Ytahlilhdiklemaa.Draw
