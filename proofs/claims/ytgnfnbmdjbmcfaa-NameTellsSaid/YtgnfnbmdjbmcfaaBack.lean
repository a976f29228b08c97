/-
  A CONTRACT of the statements' own same; the walks of NameFolds and NameBack. By an AI agent; no person has read it.
-/
import Derived.Test.YtgnfnbmdjbmcfaaFold
import Derived.Test.YtgnfnbmdjbmcfaaCuts
namespace Go.Proofs.Ytgnfnbmdjbmcfaa
open Go.RowKit Txt

set_option maxHeartbeats 1000000 in
set_option maxRecDepth 1000000 in
theorem same_yes (a b : Option Addr) (ca cb : Nat) (zs : List Int) (w : World) (hn : zs.length ≤ 35184372088832) (ha : Reads .i32 w a zs) (hb : Reads .i32 w b zs) :
    Calls Try.prog 21 #[.slice a zs.length ca, .slice b zs.length cb] w fun e w' => e = .returned (.bool true) ∧ Below w.heap.size w w' := by
  have HA := Lib.hid ha
  have HB := Lib.hid hb
  clear ha hb
  go_enter Try.func21, Try.ntmps21
  go_wp2
  go_loopw [5] (fun i wr => ∃ k : Nat, k ≤ zs.length ∧ i = .int .i64 k ∧ Below w.heap.size w wr) (fun i _ => zs.length - (intOf i).toNat)
  case atStart => exact ⟨0, Nat.zero_le _, rfl, Below.refl _ _⟩
  case round =>
    obtain ⟨k, hk, rfl, hbel⟩ := hrel
    by_cases hlt : k < zs.length
    · obtain ⟨b1, o1, rfl, l1, c1⟩ := (HA.out.below hbel) k hlt
      obtain ⟨b2, o2, rfl, l2, c2⟩ := (HB.out.below hbel) k hlt
      obtain ⟨z, hz⟩ : ∃ z, zs.getD k 0 = z := ⟨_, rfl⟩
      rw [hz] at c1 c2
      clear hz l1 l2
      have k0 : (0 : Int) ≤ ↑k := by omega
      have k1 : (↑k : Int) < ↑zs.length := by omega
      go_wp2_with fail
      go_region
      all_goals (try go_wp2)
      all_goals exact ⟨⟨k + 1, by omega, by go_num, hbel.drew⟩, by simp [intOf]; omega⟩
    · obtain rfl : k = zs.length := by omega
      go_wp2
      go_ret
      exact ⟨rfl, hbel⟩
/-- Runes of a text that has them. -/
theorem runes_yes (s : ByteArray) (rs : List Int) (w : World) (hs : s.size ≤ 1000000) (h : runes s.data.toList = some rs) :
    Calls Try.prog 13 #[.string s] w fun e w' => ∃ (a : Option Addr) (cap : Nat), e = .returned (.tuple #[.slice a rs.length cap, .int .i64 0]) ∧ rs.length ≤ cap ∧ Reads .i32 w' a rs ∧ Below w.heap.size w w' := by
  refine (runes_any s w hs).mono ?_
  rintro e w' ⟨⟨h0, _⟩ | ⟨qs, v, h0, rfl, hown⟩, hb⟩
  · rw [h] at h0; cases h0
  · rw [h] at h0
    obtain rfl := Option.some.inj h0
    obtain ⟨_, a, cap, rfl, hc, hr⟩ := own_reads hown
    exact ⟨a, cap, rfl, hc, hr, hb⟩
theorem runes_no (s : ByteArray) (w : World) (hs : s.size ≤ 1000000) (h : runes s.data.toList = none) :
    Calls Try.prog 13 #[.string s] w fun e w' => e = .returned (.tuple #[.slice none 0 0, .int .i64 2]) ∧ Below w.heap.size w w' := by
  refine (runes_any s w hs).mono ?_
  rintro e w' ⟨⟨_, rfl⟩ | ⟨qs, v, h0, _⟩, hb⟩
  · exact ⟨rfl, hb⟩
  · rw [h] at h0; cases h0
theorem make_yes (a : Option Addr) (cap : Nat) (zs : List Int) (w : World) (hn : zs.length ≤ 35184372088832) (hr : Reads .i32 w a zs) (hv : zs.all Lib.validRune = true) :
    Calls Try.prog 26 #[.slice a zs.length cap] w fun e w' => ∃ T : ByteArray, e = .returned (.tuple #[.string T, .int .i64 0]) ∧ T.data.toList = enc zs ∧ T.size ≤ 4 * zs.length ∧ w = w' := by
  refine (make_any a cap zs w hn hr).mono ?_
  rintro e w' ⟨⟨h, _⟩ | ⟨_, rfl⟩, rfl⟩
  · rw [hv] at h; cases h
  · exact ⟨_, rfl, rfl, by rw [Lib.size_eq]; exact (enc_le zs).2, rfl⟩
theorem make_no (a : Option Addr) (cap : Nat) (zs : List Int) (w : World) (hn : zs.length ≤ 35184372088832) (hr : Reads .i32 w a zs) (hv : zs.all Lib.validRune = false) :
    Calls Try.prog 26 #[.slice a zs.length cap] w fun e w' => e = .returned (.tuple #[.string ⟨#[]⟩, .int .i64 1]) ∧ w = w' := by
  refine (make_any a cap zs w hn hr).mono ?_
  rintro e w' ⟨⟨_, rfl⟩ | ⟨h, _⟩, rfl⟩
  · exact ⟨rfl, rfl⟩
  · rw [hv] at h; cases h
theorem all_of {zs : List Int} (h : ∀ r ∈ zs, Lib.validRune r = true) : zs.all Lib.validRune = true := List.all_eq_true.2 h
theorem of_all {zs : List Int} (h : zs.all Lib.validRune = true) : ∀ r ∈ zs, Lib.validRune r = true := List.all_eq_true.1 h
theorem fold_call (s : ByteArray) (w : World) (hs : s.size ≤ 1000000) :
    Calls Try.prog 22 #[.string s] w fun e w' => ∃ U : ByteArray, e = .returned (.string U) ∧ U.data.toList = fold s.data.toList ∧ U.size = s.size ∧ Below w.heap.size w w' := by
  refine (fold_any s w hs).mono ?_
  rintro e w' ⟨rfl, hb⟩
  exact ⟨_, rfl, rfl, by rw [Lib.size_eq, Lib.size_eq]; exact fold_length _, hb⟩

set_option maxHeartbeats 4000000 in
set_option maxRecDepth 100000 in
theorem back_walk (s : ByteArray) (la : Option Addr) (lc : Nat) (zs : List Int) (w : World) (hs : s.size ≤ 140737488351232) (hr : Reads .i32 w la zs) :
    Calls Try.prog 5 #[.string s, .slice la zs.length lc] w fun e w' => e = .returned (.bool true) ∧ Below w.heap.size w w' := by
  have HR := Lib.hid hr
  clear hr
  by_cases hl : (2000 : Int) < ↑s.size
  · go_enter Try.func5, Try.ntmps5
    go_wp2_with fail
    refine (shown_any _).mono ?_
    rintro e w1 ⟨rfl, b1⟩
    go_wp2_with fail
    go_ret
    exact ⟨rfl, b1⟩
  by_cases hz : (500 : Int) < ↑zs.length
  · have hl' : ↑s.size ≤ (2000 : Int) := by omega
    clear hl
    go_enter Try.func5, Try.ntmps5
    go_wp2_with fail
    refine (shown_any _).mono ?_
    rintro e w1 ⟨rfl, b1⟩
    go_wp2_with fail
    go_ret
    exact ⟨rfl, b1⟩
  have hl' : ↑s.size ≤ (2000 : Int) := by omega
  have hz' : ↑zs.length ≤ (500 : Int) := by omega
  clear hl hz
  go_enter Try.func5, Try.ntmps5
  go_wp2_with fail
  refine (shown_any _).mono ?_
  rintro e w1 ⟨rfl, B1⟩
  go_wp2_with fail
  cases hru : runes s.data.toList with
  | none =>
    have HU := Lib.hid hru
    clear hru
    refine (runes_no s _ (by omega) HU.out).mono ?_
    rintro e w2 ⟨rfl, b2⟩
    have B2 := B1.trans (b2.mono B1.size)
    clear b2 B1
    go_wp2_with fail
    cases hv : zs.all Lib.validRune with
    | false =>
      have HV := Lib.hid hv
      clear hv
      refine (make_no la lc zs _ (by omega) (HR.out.below B2) HV.out).mono ?_
      rintro e w4 ⟨rfl, rfl⟩
      go_wp2_with fail
      refine (fold_call s _ (by omega)).mono ?_
      rintro e w5 ⟨U, rfl, hU, sU, b5⟩
      have B5 := B2.trans (b5.mono B2.size)
      clear b5 B2
      obtain ⟨qs, hq1, hq2⟩ := fold_valid s.data.toList
      rw [← hU] at hq1 hq2
      have HQ1 := Lib.hid hq1
      have HQ2 := Lib.hid hq2
      have hsU : U.size ≤ 2000 := by omega
      clear hU sU hq1 hq2
      go_wp2_with fail
      refine (runes_yes U qs _ (by omega) HQ1.out).mono ?_
      rintro e w6 ⟨qa, qcap, rfl, hqc, hqr, b6⟩
      have B6 := B5.trans (b6.mono B5.size)
      clear b6 B5 hqr
      go_wp2_with fail
      refine (fold_call U _ (by omega)).mono ?_
      rintro e w7 ⟨V, rfl, hV, sV, b7⟩
      have B7 := B6.trans (b7.mono B6.size)
      have heqV : (V.toList == U.toList) = true := eq_bool (hV.trans HQ2.out)
      clear b7 B6 hV sV
      go_wp2_with fail
      go_ret
      exact ⟨rfl, B7⟩
    | true =>
      have HV := Lib.hid hv
      clear hv
      refine (make_yes la lc zs _ (by omega) (HR.out.below B2) HV.out).mono ?_
      rintro e w4 ⟨T, rfl, hT, sT, rfl⟩
      have HT : Hid (runes T.data.toList = some zs) := Lib.hid (by rw [hT]; exact runes_enc (of_all HV.out))
      clear hT
      go_wp2_with fail
      refine (runes_yes T zs _ (by omega) HT.out).mono ?_
      rintro e w4b ⟨za, zcap, rfl, hzc, hzr, b4⟩
      have B4 := B2.trans (b4.mono B2.size)
      have HZR := Lib.hid hzr
      clear b4 B2 hzr
      go_wp2_with fail
      refine (same_yes za la zcap lc zs _ (by omega) HZR.out (HR.out.below B4)).mono ?_
      rintro e w4c ⟨rfl, b4⟩
      have B4c := B4.trans (b4.mono B4.size)
      clear b4 B4 HZR
      go_wp2_with fail
      refine (fold_call s _ (by omega)).mono ?_
      rintro e w5 ⟨U, rfl, hU, sU, b5⟩
      have B5 := B4c.trans (b5.mono B4c.size)
      clear b5 B4c
      obtain ⟨qs, hq1, hq2⟩ := fold_valid s.data.toList
      rw [← hU] at hq1 hq2
      have HQ1 := Lib.hid hq1
      have HQ2 := Lib.hid hq2
      have hsU : U.size ≤ 2000 := by omega
      clear hU sU hq1 hq2
      go_wp2_with fail
      refine (runes_yes U qs _ (by omega) HQ1.out).mono ?_
      rintro e w6 ⟨qa, qcap, rfl, hqc, hqr, b6⟩
      have B6 := B5.trans (b6.mono B5.size)
      clear b6 B5 hqr
      go_wp2_with fail
      refine (fold_call U _ (by omega)).mono ?_
      rintro e w7 ⟨V, rfl, hV, sV, b7⟩
      have B7 := B6.trans (b7.mono B6.size)
      have heqV : (V.toList == U.toList) = true := eq_bool (hV.trans HQ2.out)
      clear b7 B6 hV sV
      go_wp2_with fail
      go_ret
      exact ⟨rfl, B7⟩
  | some rs =>
    have HU := Lib.hid hru
    have hlen := runes_len hru
    rw [← Lib.size_eq] at hlen
    clear hru
    refine (runes_yes s rs _ (by omega) HU.out).mono ?_
    rintro e w2 ⟨ra, rcap, rfl, hrc, hrr, b2⟩
    have B2 := B1.trans (b2.mono B1.size)
    have HRR := Lib.hid hrr
    clear b2 B1 hrr
    go_wp2_with fail
    refine (make_yes ra rcap rs _ (by omega) HRR.out (all_of (runes_some HU.out).2)).mono ?_
    rintro e w3 ⟨T0, rfl, hT0, sT0, rfl⟩
    have heq : (T0.toList == s.toList) = true := eq_bool (hT0.trans (runes_some HU.out).1)
    clear hT0
    go_wp2_with fail
    cases hv : zs.all Lib.validRune with
    | false =>
      have HV := Lib.hid hv
      clear hv
      refine (make_no la lc zs _ (by omega) (HR.out.below B2) HV.out).mono ?_
      rintro e w4 ⟨rfl, rfl⟩
      go_wp2_with fail
      refine (fold_call s _ (by omega)).mono ?_
      rintro e w5 ⟨U, rfl, hU, sU, b5⟩
      have B5 := B2.trans (b5.mono B2.size)
      clear b5 B2
      obtain ⟨qs, hq1, hq2⟩ := fold_valid s.data.toList
      rw [← hU] at hq1 hq2
      have HQ1 := Lib.hid hq1
      have HQ2 := Lib.hid hq2
      have hsU : U.size ≤ 2000 := by omega
      clear hU sU hq1 hq2
      go_wp2_with fail
      refine (runes_yes U qs _ (by omega) HQ1.out).mono ?_
      rintro e w6 ⟨qa, qcap, rfl, hqc, hqr, b6⟩
      have B6 := B5.trans (b6.mono B5.size)
      clear b6 B5 hqr
      go_wp2_with fail
      refine (fold_call U _ (by omega)).mono ?_
      rintro e w7 ⟨V, rfl, hV, sV, b7⟩
      have B7 := B6.trans (b7.mono B6.size)
      have heqV : (V.toList == U.toList) = true := eq_bool (hV.trans HQ2.out)
      clear b7 B6 hV sV
      go_wp2_with fail
      go_ret
      exact ⟨rfl, B7⟩
    | true =>
      have HV := Lib.hid hv
      clear hv
      refine (make_yes la lc zs _ (by omega) (HR.out.below B2) HV.out).mono ?_
      rintro e w4 ⟨T, rfl, hT, sT, rfl⟩
      have HT : Hid (runes T.data.toList = some zs) := Lib.hid (by rw [hT]; exact runes_enc (of_all HV.out))
      clear hT
      go_wp2_with fail
      refine (runes_yes T zs _ (by omega) HT.out).mono ?_
      rintro e w4b ⟨za, zcap, rfl, hzc, hzr, b4⟩
      have B4 := B2.trans (b4.mono B2.size)
      have HZR := Lib.hid hzr
      clear b4 B2 hzr
      go_wp2_with fail
      refine (same_yes za la zcap lc zs _ (by omega) HZR.out (HR.out.below B4)).mono ?_
      rintro e w4c ⟨rfl, b4⟩
      have B4c := B4.trans (b4.mono B4.size)
      clear b4 B4 HZR
      go_wp2_with fail
      refine (fold_call s _ (by omega)).mono ?_
      rintro e w5 ⟨U, rfl, hU, sU, b5⟩
      have B5 := B4c.trans (b5.mono B4c.size)
      clear b5 B4c
      obtain ⟨qs, hq1, hq2⟩ := fold_valid s.data.toList
      rw [← hU] at hq1 hq2
      have HQ1 := Lib.hid hq1
      have HQ2 := Lib.hid hq2
      have hsU : U.size ≤ 2000 := by omega
      clear hU sU hq1 hq2
      go_wp2_with fail
      refine (runes_yes U qs _ (by omega) HQ1.out).mono ?_
      rintro e w6 ⟨qa, qcap, rfl, hqc, hqr, b6⟩
      have B6 := B5.trans (b6.mono B5.size)
      clear b6 B5 hqr
      go_wp2_with fail
      refine (fold_call U _ (by omega)).mono ?_
      rintro e w7 ⟨V, rfl, hV, sV, b7⟩
      have B7 := B6.trans (b7.mono B6.size)
      have heqV : (V.toList == U.toList) = true := eq_bool (hV.trans HQ2.out)
      clear b7 B6 hV sV
      go_wp2_with fail
      go_ret
      exact ⟨rfl, B7⟩
end Go.Proofs.Ytgnfnbmdjbmcfaa
