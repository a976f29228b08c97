/-
  R1. By an AI agent.
-/
import Derived.Test.YtbdealddjonobaaGreatYZ
import Derived.Test.YtbdealddjonobaaGreatYD1
import Derived.Test.YtbdealddjonobaaGreatYT2
namespace Go.Proofs.YtbdealddjonobaaGreat.Reg
open Go.RowKit Wire Term Clo Draw

end Go.Proofs.YtbdealddjonobaaGreat.Reg

namespace Go.Proofs.YtbdealddjonobaaGreat.Reg
open Go.RowKit Wire Term Clo Draw

set_option maxHeartbeats 4000000 in
set_option maxRecDepth 1000000 in
theorem back_any (s : ByteArray) (steps : Int) (w : World) (hz : s.size ≤ 140737488355328) (hst : -9223372036854775808 ≤ steps ∧ steps ≤ 9223372036854775807) :
    Calls Tryz.prog 191 #[.string s, .int .i64 steps] w fun e w' => Sr (back s.data.toList steps) e ∧ Below w.heap.size w w' := by
  obtain ⟨hst1, hst2⟩ := hst
  cases hr : right s.data.toList with
  | false =>
    have HK : Hid (kind s.data.toList = 0) := kind_wrong hr
    rw [back_not (fun h => by rw [hr] at h; exact absurd h.1 (by decide))]
    clear hr
    go_enter Tryz.func191, Tryz.ntmps191
    go_wp2_with fail
    refine (t_Kind s _ hz).mono ?_
    rw [HK.out]
    rintro e w1 ⟨rfl, hb1⟩
    have HB1 := zh hb1
    clear hb1
    dsimp only
    go_wp2
    go_ret2
    exact ⟨sr_nil _, HB1.out⟩
  | true =>
    obtain ⟨kd, hkd⟩ : ∃ kd, kind s.data.toList = kd := ⟨_, rfl⟩
    have hkd0 : ¬ (kd : Int) = 0 := by have := Term.kind_pos hr; rw [hkd] at this; omega
    have hkdb : ((kd : Int) == 0) = false := by simpa using hkd0
    have HK := zh hkd
    clear hkd
    by_cases hneg : steps < 0
    · rw [back_not (fun h => by omega)]
      clear hr
      go_enter Tryz.func191, Tryz.ntmps191
      go_wp2_with fail
      refine (t_Kind s _ hz).mono ?_
      rw [HK.out]
      rintro e w1 ⟨rfl, hb1⟩
      have HB1 := zh hb1
      clear hb1
      dsimp only
      go_wp2
      go_ret2
      exact ⟨sr_nil _, HB1.out⟩
    · obtain ⟨k, rfl⟩ : ∃ k : Nat, steps = (k : Int) := ⟨steps.toNat, by omega⟩
      rw [back_of hr (by omega), show ((k : Int)).toNat = k by omega]
      obtain ⟨r, hrr⟩ : ∃ r, backN s.data.toList k = r := ⟨_, rfl⟩
      have HRR := zh hrr
      have HRS := zh hr
      rw [hrr]
      clear hr hrr
      go_enter Tryz.func191, Tryz.ntmps191
      go_wp2_with fail
      refine (t_Kind s _ hz).mono ?_
      rw [HK.out]
      rintro e w1 ⟨rfl, hb1⟩
      have HB1 := zh hb1
      clear hb1
      dsimp only
      have HAT : Hid (At s w 0 (.string s) w1) := ⟨s, rfl, rfl, HRS.out, HB1.out⟩
      clear HB1
      go_wp2_with fail
      go_loopw [0, 16] (fun v i wr => ∃ j : Nat, j ≤ k ∧ i = .int .i64 (j : Int) ∧ Hid (At s w j v wr)) (fun _ i _ => k - (intOf i).toNat)
      case atStart => exact ⟨0, Nat.zero_le _, by simp, HAT⟩
      case round =>
        clear HAT
        obtain ⟨j, hj, rfl, HAT⟩ := hrel
        obtain ⟨T, rfl, hT, hrT, hb⟩ := HAT.out
        have hTz : T.size ≤ 4000 := by rw [Lib.size_eq, hT]; exact (right_len hrT).2
        have HB := zh hb
        have HT := zh hT
        have HRT := zh hrT
        clear HAT hT hrT hb
        by_cases hlt : (j : Int) < (k : Int)
        · rcases backN_step HRT.out with ⟨h1, h2⟩ | ⟨h1, h2⟩
          · have H1 := zh h1
            have H2 := zh h2
            clear h1 h2
            go_wp2_with fail
            refine (t_OfHash T _ (by omega)).mono ?_
            rw [HT.out, H2.out]
            rintro e w2 ⟨⟨T2, hT2, rfl⟩, hb2⟩
            have HAT : Hid (At s w (j + 1) (.string T2) w2) := ⟨T2, rfl, hT2, H1.out, Bel.call HB.out hb2⟩
            clear hT2 hb2
            dsimp only
            go_wp2
            go_roundw
            case rel => exact ⟨j + 1, by omega, by go_num, HAT⟩
            case measure => simp [intOf]; omega
          · have HNO : Hid (r = ([], 10)) := by rw [← HRR.out]; exact backN_short (i := j + 1) (by omega) h1
            have H2 := zh h2
            clear h1 h2
            go_wp2_with fail
            refine (t_OfHash T _ (by omega)).mono ?_
            rw [HT.out, H2.out]
            rintro e w2 ⟨⟨T2, hT2, rfl⟩, hb2⟩
            have HB2 := zh (Bel.call HB.out hb2)
            clear hT2 hb2
            dsimp only
            go_wp2
            go_ret2
            exact ⟨by rw [HNO.out]; exact sr_nil _, HB2.out⟩
        · obtain rfl : j = k := by omega
          have HNO : Hid (r = (hs j s.data.toList, 0)) := by rw [← HRR.out]; exact backN_yes HRT.out
          go_wp2
          go_ret2
          exact ⟨by rw [HNO.out]; exact ⟨T, HT.out, rfl⟩, HB.out⟩
set_option maxHeartbeats 4000000 in
set_option maxRecDepth 1000000 in
theorem state_any (s : ByteArray) (ep : Int) (w : World) (hz : s.size ≤ 140737488355328) (hep : -9223372036854775808 ≤ ep ∧ ep ≤ 9223372036854775807) :
    Calls Tryz.prog 166 #[.string s, .int .i64 ep] w fun e w' => Sr (state s.data.toList ep) e ∧ Below w.heap.size w w' := by
  obtain ⟨hep1, hep2⟩ := hep
  cases hr : right s.data.toList with
  | false =>
    have HK : Hid (kind s.data.toList = 0) := kind_wrong hr
    rw [state_not (by rw [hr]; decide)]
    clear hr
    go_enter Tryz.func166, Tryz.ntmps166
    go_wp2_with fail
    refine (t_Kind s _ hz).mono ?_
    rw [HK.out]
    rintro e w1 ⟨rfl, hb1⟩
    have HB1 := zh hb1
    clear hb1
    dsimp only
    go_wp2
    go_ret2
    exact ⟨sr_nil _, HB1.out⟩
  | true =>
    obtain ⟨kd, hkd⟩ : ∃ kd, kind s.data.toList = kd := ⟨_, rfl⟩
    have hkd0 : ¬ (kd : Int) = 0 := by have := Term.kind_pos hr; rw [hkd] at this; omega
    have hkdb : ((kd : Int) == 0) = false := by simpa using hkd0
    have HK := zh hkd
    clear hkd
    by_cases h0 : ep < 0
    · rw [state_out hr (by omega)]
      clear hr
      go_enter Tryz.func166, Tryz.ntmps166
      go_wp2_with fail
      refine (t_Kind s _ hz).mono ?_
      rw [HK.out]
      rintro e w1 ⟨rfl, hb1⟩
      have HB1 := zh hb1
      clear hb1
      dsimp only
      go_wp2
      go_ret2
      exact ⟨sr_nil _, HB1.out⟩
    by_cases h7 : 7 < ep
    · rw [state_out hr (by omega)]
      clear hr
      go_enter Tryz.func166, Tryz.ntmps166
      go_wp2_with fail
      refine (t_Kind s _ hz).mono ?_
      rw [HK.out]
      rintro e w1 ⟨rfl, hb1⟩
      have HB1 := zh hb1
      clear hb1
      dsimp only
      go_wp2
      go_ret2
      exact ⟨sr_nil _, HB1.out⟩
    · rw [state_of hr (by omega) (by omega)]
      have HBK := zh fun w => back_any s (7 - ep) w hz (by omega)
      obtain ⟨x, f, hx⟩ : ∃ x f, back s.data.toList (7 - ep) = (x, f) := ⟨_, _, rfl⟩
      rw [hx] at HBK ⊢
      clear hr hx
      go_enter Tryz.func166, Tryz.ntmps166
      go_wp2_with fail
      refine (t_Kind s _ hz).mono ?_
      rw [HK.out]
      rintro e w1 ⟨rfl, hb1⟩
      have HB1 := zh hb1
      clear hb1
      dsimp only
      go_wp2_with fail
      refine (HBK.out _).mono ?_
      rintro e w2 ⟨⟨T, hT, rfl⟩, hb2⟩
      have HB2 := zh (Bel.call HB1.out hb2)
      have HT := zh hT
      clear hT hb2
      dsimp only
      go_wp2
      go_ret2
      exact ⟨⟨T, HT.out, rfl⟩, HB2.out⟩
end Go.Proofs.YtbdealddjonobaaGreat.Reg

