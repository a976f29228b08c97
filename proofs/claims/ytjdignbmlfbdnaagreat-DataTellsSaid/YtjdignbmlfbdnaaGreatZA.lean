/-
  One text of several, in their order: RSpec, RCode. By an AI agent; no person has read it.
-/
import Derived.Test.YtjdignbmlfbdnaaGreatZ9
import Derived.Test.YtjdignbmlfbdnaaGreatZ8
/-
  WHAT THE CODE OF package regress IS HELD TO: State, Back, Key; the chapter's example. By an AI agent; no person has read it.
-/
namespace Go.Proofs.YtjdignbmlfbdnaaGreat.Reg
open Go.RowKit Wire Term Clo Draw

def BackOK : Prop := ∀ (s : ByteArray) (steps : Int) (w : World), s.size ≤ 140737488355328 → (-9223372036854775808 ≤ steps ∧ steps ≤ 9223372036854775807) → Calls Tryz.prog 52 #[.string s, .int .i64 steps] w fun e w' => Sr (back s.data.toList steps) e ∧ Below w.heap.size w w'
def KeyOK : Prop := ∀ (s : ByteArray) (w : World), s.size ≤ 140737488355328 → Calls Tryz.prog 76 #[.string s] w fun e w' => Sr (key s.data.toList) e ∧ Below w.heap.size w w'
theorem str_eq {S H : ByteArray} (h : S.data.toList = H.data.toList) : S = H := by
  cases S; cases H; simp only at h; congr 1; exact Array.toList_inj.1 h
theorem str_ne {S T : ByteArray} (h : ¬ S = T) : (S.toList == T.toList) = false := by
  rw [beq_eq_false_iff_ne, Lib.toList_data, Lib.toList_data]; exact fun e => h (str_eq e)
theorem ex_back : back [97, 1, 5] 1 = ([104, 97, 1, 5], 0) := by
  rw [back_of rfl (by decide), show (1 : Int).toNat = 1 from rfl]
  exact backN_yes rfl
end Go.Proofs.YtjdignbmlfbdnaaGreat.Reg

/-
  CONTRACTS of the code's Back, State, Key (package regress) at this program. By an AI agent; no person has read it.
-/
namespace Go.Proofs.YtjdignbmlfbdnaaGreat.Reg
open Go.RowKit Wire Term Clo Draw

set_option maxHeartbeats 4000000 in
set_option maxRecDepth 1000000 in
theorem back_any (s : ByteArray) (steps : Int) (w : World) (hz : s.size ≤ 140737488355328) (hst : -9223372036854775808 ≤ steps ∧ steps ≤ 9223372036854775807) :
    Calls Tryz.prog 52 #[.string s, .int .i64 steps] w fun e w' => Sr (back s.data.toList steps) e ∧ Below w.heap.size w w' := by
  obtain ⟨hst1, hst2⟩ := hst
  cases hr : right s.data.toList with
  | false =>
    have HK : Hid (kind s.data.toList = 0) := kind_wrong hr
    rw [back_not (fun h => by rw [hr] at h; exact absurd h.1 (by decide))]
    clear hr
    go_enter Tryz.func52, Tryz.ntmps52
    go_wp2_with fail
    refine (t_Kind s _ hz).mono ?_
    rw [HK.out]
    rintro e w1 ⟨rfl, hb1⟩
    have HB1 := Lib.hid hb1
    clear hb1
    dsimp only
    go_wp2
    go_ret2
    exact ⟨sr_nil _, HB1.out⟩
  | true =>
    obtain ⟨kd, hkd⟩ : ∃ kd, kind s.data.toList = kd := ⟨_, rfl⟩
    have hkd0 : ¬ (kd : Int) = 0 := by have := Term.kind_pos hr; rw [hkd] at this; omega
    have hkdb : ((kd : Int) == 0) = false := by simpa using hkd0
    have HK := Lib.hid hkd
    clear hkd
    by_cases hneg : steps < 0
    · rw [back_not (fun h => by omega)]
      clear hr
      go_enter Tryz.func52, Tryz.ntmps52
      go_wp2_with fail
      refine (t_Kind s _ hz).mono ?_
      rw [HK.out]
      rintro e w1 ⟨rfl, hb1⟩
      have HB1 := Lib.hid hb1
      clear hb1
      dsimp only
      go_wp2
      go_ret2
      exact ⟨sr_nil _, HB1.out⟩
    · obtain ⟨k, rfl⟩ : ∃ k : Nat, steps = (k : Int) := ⟨steps.toNat, by omega⟩
      rw [back_of hr (by omega), show ((k : Int)).toNat = k by omega]
      obtain ⟨r, hrr⟩ : ∃ r, backN s.data.toList k = r := ⟨_, rfl⟩
      have HRR := Lib.hid hrr
      have HRS := Lib.hid hr
      rw [hrr]
      clear hr hrr
      go_enter Tryz.func52, Tryz.ntmps52
      go_wp2_with fail
      refine (t_Kind s _ hz).mono ?_
      rw [HK.out]
      rintro e w1 ⟨rfl, hb1⟩
      have HB1 := Lib.hid hb1
      clear hb1
      dsimp only
      have HAT : Hid (At s w 0 (.string s) w1) := ⟨s, rfl, rfl, HRS.out, HB1.out⟩
      clear HB1
      go_wp2_with fail
      go_loopw [0, 16] (fun v i wr => ∃ j : Nat, j ≤ k ∧ i = .int .i64 (j : Int) ∧ Hid (At s w j v wr)) (fun _ i _ => k - (intOf i).toNat)
      case atStart => exact ⟨0, Nat.zero_le _, by simp, HAT⟩
      case round =>
        clear HAT
        obtain ⟨j, hj, rfl, HAT⟩ := hrel
        obtain ⟨T, rfl, hT, hrT, hb⟩ := HAT.out
        have hTz : T.size ≤ 4000 := by rw [Lib.size_eq, hT]; exact (right_len hrT).2
        have HB := Lib.hid hb
        have HT := Lib.hid hT
        have HRT := Lib.hid hrT
        clear HAT hT hrT hb
        by_cases hlt : (j : Int) < (k : Int)
        · rcases backN_step HRT.out with ⟨h1, h2⟩ | ⟨h1, h2⟩
          · have H1 := Lib.hid h1
            have H2 := Lib.hid h2
            clear h1 h2
            go_wp2_with fail
            refine (t_OfHash T _ (by omega)).mono ?_
            rw [HT.out, H2.out]
            rintro e w2 ⟨⟨T2, hT2, rfl⟩, hb2⟩
            have HAT : Hid (At s w (j + 1) (.string T2) w2) := ⟨T2, rfl, hT2, H1.out, Bel.call HB.out hb2⟩
            clear hT2 hb2
            dsimp only
            go_wp2
            go_roundw
            case rel => exact ⟨j + 1, by omega, by go_num, HAT⟩
            case measure => simp [intOf]; omega
          · have HNO : Hid (r = ([], 10)) := by rw [← HRR.out]; exact backN_short (i := j + 1) (by omega) h1
            have H2 := Lib.hid h2
            clear h1 h2
            go_wp2_with fail
            refine (t_OfHash T _ (by omega)).mono ?_
            rw [HT.out, H2.out]
            rintro e w2 ⟨⟨T2, hT2, rfl⟩, hb2⟩
            have HB2 := Lib.hid (Bel.call HB.out hb2)
            clear hT2 hb2
            dsimp only
            go_wp2
            go_ret2
            exact ⟨by rw [HNO.out]; exact sr_nil _, HB2.out⟩
        · obtain rfl : j = k := by omega
          have HNO : Hid (r = (hs j s.data.toList, 0)) := by rw [← HRR.out]; exact backN_yes HRT.out
          go_wp2
          go_ret2
          exact ⟨by rw [HNO.out]; exact ⟨T, HT.out, rfl⟩, HB.out⟩
set_option maxHeartbeats 4000000 in
set_option maxRecDepth 1000000 in
theorem key_any (s : ByteArray) (w : World) (hz : s.size ≤ 140737488355328) :
    Calls Tryz.prog 76 #[.string s] w fun e w' => Sr (key s.data.toList) e ∧ Below w.heap.size w w' := by
  cases hr : right s.data.toList with
  | false =>
    have HP : Hid (∀ (KT : ByteArray) (w : World), KT.data.toList = keyT → Calls Tryz.prog 74 #[.string KT, .string s] w fun e w' => Sr ([], 1) e ∧ Below w.heap.size w w') := by
      intro KT w hKT
      have := t_OfPair KT s w (by rw [Lib.size_eq, hKT]; decide) hz
      rw [hKT, show two 112 keyT s.data.toList = ([], 1) by unfold two; rw [if_neg (by rw [hr]; exact fun h => by cases h.2)]] at this
      exact this
    rw [key_not (by rw [hr]; decide)]
    clear hr
    go_enter Tryz.func76, Tryz.ntmps76
    go_wp2_with fail
    refine (t_OfText _ _ (by decide)).mono ?_
    rw [show (ByteArray.mk #[107, 101, 121]).data.toList = [107, 101, 121] from rfl, ofText_key]
    rintro e w2 ⟨⟨KT, hKT, rfl⟩, hb2⟩
    have HB2 := Lib.hid hb2
    have HKT := Lib.hid hKT
    clear hKT hb2
    dsimp only
    go_wp2_with fail
    refine (HP.out KT _ HKT.out).mono ?_
    rintro e w3 ⟨⟨P, hP, rfl⟩, hb3⟩
    have HB3 := Lib.hid (Bel.call HB2.out hb3)
    clear hP hb3
    dsimp only
    go_wp2
    go_ret2
    exact ⟨sr_nil _, HB3.out⟩
  | true =>
    have HP : Hid (∀ (KT : ByteArray) (w : World), KT.data.toList = keyT → Calls Tryz.prog 74 #[.string KT, .string s] w fun e w' => Sr (made (keyp s.data.toList)) e ∧ Below w.heap.size w w') := by
      intro KT w hKT
      have := t_OfPair KT s w (by rw [Lib.size_eq, hKT]; decide) hz
      rw [hKT, key_pair hr] at this
      exact this
    by_cases h2 : right (keyp s.data.toList) = true
    · rw [key_of hr h2]
      have HH : Hid (∀ (P : ByteArray) (w : World), P.data.toList = keyp s.data.toList → Calls Tryz.prog 83 #[.string P] w fun e w' => Sr (made (keyh s.data.toList)) e ∧ Below w.heap.size w w') := by
        intro P w hP
        have := t_OfHash P w (by rw [Lib.size_eq, hP]; have := (right_len h2).2; omega)
        rw [hP, key_hash h2] at this
        exact this
      rw [made_yes h2] at HP
      obtain ⟨x, f, hx⟩ : ∃ x f, made (keyh s.data.toList) = (x, f) := ⟨_, _, rfl⟩
      rw [hx] at HH ⊢
      clear hr h2 hx
      go_enter Tryz.func76, Tryz.ntmps76
      go_wp2_with fail
      refine (t_OfText _ _ (by decide)).mono ?_
      rw [show (ByteArray.mk #[107, 101, 121]).data.toList = [107, 101, 121] from rfl, ofText_key]
      rintro e w2 ⟨⟨KT, hKT, rfl⟩, hb2⟩
      have HB2 := Lib.hid hb2
      have HKT := Lib.hid hKT
      clear hKT hb2
      dsimp only
      go_wp2_with fail
      refine (HP.out KT _ HKT.out).mono ?_
      rintro e w3 ⟨⟨P, hP, rfl⟩, hb3⟩
      have HB3 := Lib.hid (Bel.call HB2.out hb3)
      have HPP := Lib.hid hP
      clear hP hb3
      dsimp only
      go_wp2_with fail
      refine (HH.out P _ HPP.out).mono ?_
      rintro e w4 ⟨⟨H, hH, rfl⟩, hb4⟩
      have HB4 := Lib.hid (Bel.call HB3.out hb4)
      have HHH := Lib.hid hH
      clear hH hb4
      dsimp only
      go_wp2
      go_ret2
      exact ⟨⟨H, HHH.out, rfl⟩, HB4.out⟩
    · rw [key_big hr h2]
      rw [made_no h2] at HP
      clear hr h2
      go_enter Tryz.func76, Tryz.ntmps76
      go_wp2_with fail
      refine (t_OfText _ _ (by decide)).mono ?_
      rw [show (ByteArray.mk #[107, 101, 121]).data.toList = [107, 101, 121] from rfl, ofText_key]
      rintro e w2 ⟨⟨KT, hKT, rfl⟩, hb2⟩
      have HB2 := Lib.hid hb2
      have HKT := Lib.hid hKT
      clear hKT hb2
      dsimp only
      go_wp2_with fail
      refine (HP.out KT _ HKT.out).mono ?_
      rintro e w3 ⟨⟨P, hP, rfl⟩, hb3⟩
      have HB3 := Lib.hid (Bel.call HB2.out hb3)
      clear hP hb3
      dsimp only
      go_wp2
      go_ret2
      exact ⟨sr_nil _, HB3.out⟩
theorem backok : BackOK := fun s st w h1 h2 => back_any s st w h1 h2
theorem keyok : KeyOK := fun s w h1 => key_any s w h1
end Go.Proofs.YtjdignbmlfbdnaaGreat.Reg
