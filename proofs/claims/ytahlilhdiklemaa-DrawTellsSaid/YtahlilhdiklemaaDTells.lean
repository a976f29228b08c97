/-
  THE LAW DrawTells, walked over what the code is held to. By an AI agent; no person has read it.
-/
import Derived.Test.YtahlilhdiklemaaDSecret
import Derived.Test.YtahlilhdiklemaaDSame
namespace Go.Proofs.Ytahlilhdiklemaa.Draw
open Go.RowKit Wire Term Clo

set_option maxHeartbeats 8000000 in
set_option maxRecDepth 1000000 in
theorem tells_walk {D : DPred} (MO : MixOK) (d : DrawsOK D) (SO : SecretOK) (s : Nat) (m : Int) (use who : ByteArray) (n : Nat) (w : World) (hs : s < 18446744073709551616) (hu : use.size ≤ 140737488351232) (hw : who.size ≤ 140737488351232) (hn : n < 18446744073709551616) :
    Calls Try.prog 3 #[.int .u64 (s : Int), .int .i64 m, .string use, .string who, .int .u64 (n : Int)] w fun e w' => e = .returned (.bool true) ∧ Below w.heap.size w w' := by
  have HSH := Lib.hid (shown5_any MO d w)
  have HD := Lib.hid d
  by_cases hbig : (6000 : Int) < (use.size : Int) + (who.size : Int)
  · clear SO MO
    go_enter Try.func3, Try.ntmps3
    go_wp2_with fail
    refine HSH.out.mono ?_
    rintro e w1 ⟨rfl, hb1⟩
    have HB1 := Lib.hid hb1
    clear hb1
    dsimp only
    go_wp2_with fail
    refine (fam_new HD.out (fam_nil D w.heap.size w1) HB1.out.size s hs).mono ?_
    rintro e w2 ⟨x, rfl, hf2, hb2⟩
    have HB2 := Lib.hid (HB1.out.trans (hb2.mono HB1.out.size))
    clear hb2 hf2
    dsimp only
    go_wp2
    go_ret
    exact ⟨rfl, HB2.out⟩
  obtain ⟨r, hr⟩ : ∃ r, Int.tmod m 60 = r := ⟨_, rfl⟩
  have h60 : r < 60 := by rw [← hr]; exact rem_small (k := 60) (by decide)
  have HSO := Lib.hid fun w => SO use who n w (by omega) (by omega) (by omega) hn
  have HRS := Lib.hid fun w => rsecret_any use who n w (by omega) (by omega) (by omega) hn
  obtain ⟨x0, f0, hx0⟩ : ∃ x f, secret use.data.toList who.data.toList n = (x, f) := ⟨_, _, rfl⟩
  rw [hx0] at HSO HRS
  obtain ⟨u, hu1⟩ : ∃ u, mix s = u := ⟨_, rfl⟩
  obtain ⟨v, hv1⟩ : ∃ v, mix n = v := ⟨_, rfl⟩
  have HM1 := Lib.hid fun w => MO s w hs
  have HM2 := Lib.hid fun w => MO n w hn
  have HR1 := Lib.hid fun w => rmix_any s w
  have HR2 := Lib.hid fun w => rmix_any n w
  rw [hu1] at HM1 HR1
  rw [hv1] at HM2 HR2
  clear SO hx0 hu1 hv1 MO hu hw
  go_enter Try.func3, Try.ntmps3
  go_wp2_with fail
  refine HSH.out.mono ?_
  rintro e w1 ⟨rfl, hb1⟩
  have HB1 := Lib.hid hb1
  clear hb1
  dsimp only
  go_wp2_with fail
  refine (fam_new HD.out (fam_nil D w.heap.size w1) HB1.out.size s hs).mono ?_
  rintro e w2 ⟨x, rfl, hf2, hb2⟩
  have HB2 := Lib.hid (HB1.out.trans (hb2.mono HB1.out.size))
  have HF2 : Hid (Fam D w.heap.size w2 [(x, s, 0)]) := hf2
  clear hb2 hf2
  dsimp only
  go_wp2_with fail
  go_loopw [14] (fun i wr => ∃ j : Nat, (j : Int) ≤ max 0 r ∧ i = .int .i64 j ∧ Hid (Fam D w.heap.size wr [(x, s, j)]) ∧ Hid (Below w.heap.size w wr)) (fun i _ => (max 0 r).toNat - (intOf i).toNat)
  case atStart => exact ⟨0, by omega, rfl, HF2, HB2⟩
  case round =>
    clear HF2 HB2 HB1
    obtain ⟨j, hj, rfl, HF, HB⟩ := hrel
    by_cases hlt : (j : Int) < r
    · obtain ⟨z, hz⟩ : ∃ z, draw s j = z := ⟨_, rfl⟩
      have HZ := Lib.hid hz
      clear hz
      go_wp2_with fail
      refine (fam_many HD.out HF.out 0 rfl (by omega)).mono ?_
      rintro e w3 ⟨rfl, hf3, hb3⟩
      have HF3 := Lib.hid hf3
      have HB3 := Lib.hid (HB.out.trans (hb3.mono HB.out.size))
      clear hf3 hb3
      dsimp only
      go_wp2_with fail
      refine (fam_next HD.out HF3.out HB3.out.size 0 rfl (by omega)).mono ?_
      rw [HZ.out]
      rintro e w4 ⟨rfl, hf4, hb4⟩
      have HF4 : Hid (Fam D w.heap.size w4 [(x, s, j + 1)]) := hf4
      have HB4 := Lib.hid (HB3.out.trans hb4)
      clear hf4 hb4
      dsimp only
      go_wp2_with fail
      refine (rdraw_any s j (by omega) _).mono ?_
      rw [HZ.out]
      rintro e w5 ⟨rfl, rfl⟩
      dsimp only
      go_wp2
      go_roundw
      case rel => exact ⟨j + 1, by omega, by go_num, HF4, HB4⟩
      case measure => simp [intOf]; omega
    · have hmax : max r 0 = (j : Int) := by omega
      go_wp2_with fail
      refine (HSO.out _).mono ?_
      rintro e w3 ⟨⟨S, hS, rfl⟩, hb3⟩
      have HF3 := Lib.hid (fam_below HD.out HF.out hb3)
      have HB3 := Lib.hid (HB.out.trans (hb3.mono HB.out.size))
      have HS := Lib.hid hS
      clear hS hb3
      dsimp only
      go_wp2_with fail
      refine (HRS.out _).mono ?_
      rintro e w4 ⟨⟨T, hT, rfl⟩, hb4⟩
      obtain rfl : T = S := str_eq (hT.trans HS.out.symm)
      have HF4 := Lib.hid (fam_below HD.out HF3.out hb4)
      have HB4 := Lib.hid (HB3.out.trans (hb4.mono HB3.out.size))
      clear hT hb4
      dsimp only
      go_wp2_with fail
      refine (fam_many HD.out HF4.out 0 rfl (by omega)).mono ?_
      rintro e w5 ⟨rfl, hf5, hb5⟩
      have HB5 := Lib.hid (HB4.out.trans (hb5.mono HB4.out.size))
      clear hf5 hb5
      dsimp only
      go_wp2_with fail
      refine (HM1.out _).mono ?_
      rintro e w6 ⟨rfl, hb6⟩
      have HB6 := Lib.hid (HB5.out.trans (hb6.mono HB5.out.size))
      clear hb6
      dsimp only
      go_wp2_with fail
      refine (HR1.out _).mono ?_
      rintro e w7 ⟨rfl, rfl⟩
      dsimp only
      go_wp2_with fail
      refine (HM2.out _).mono ?_
      rintro e w8 ⟨rfl, hb8⟩
      have HB8 := Lib.hid (HB6.out.trans (hb8.mono HB6.out.size))
      clear hb8
      dsimp only
      go_wp2_with fail
      refine (HR2.out _).mono ?_
      rintro e w9 ⟨rfl, rfl⟩
      dsimp only
      go_wp2
      go_ret
      exact ⟨rfl, HB8.out⟩
end Go.Proofs.Ytahlilhdiklemaa.Draw
