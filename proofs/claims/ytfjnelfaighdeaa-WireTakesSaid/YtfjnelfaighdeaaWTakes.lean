/-
  THE WALK of WireTakes. By an AI agent; no person has read it.
-/
import Derived.Test.YtfjnelfaighdeaaWRefAll
namespace Go.Proofs.Ytfjnelfaighdeaa.Wire
open Go.RowKit

set_option maxHeartbeats 4000000 in
set_option maxRecDepth 1000000 in
theorem takes_walk (s : ByteArray) (a m : Int) (w : World) (ha : -9223372036854775808 ≤ a ∧ a ≤ 9223372036854775807) (hm : -9223372036854775808 ≤ m ∧ m ≤ 9223372036854775807) (hs : s.size ≤ 140737488355328) :
    Calls Try.prog 3 #[.string s, .int .i64 a, .int .i64 m] w fun e w' => e = .returned (.bool true) ∧ Below w.heap.size w w' := by
  by_cases hbig : (4000 : Int) < (s.size : Int)
  · go_enter Try.func3, Try.ntmps3
    go_wp2_with (go_at_call 10; refine (shown_any _).mono ?_; rintro e w1 ⟨rfl, hb1⟩; have HB1 := Lib.hid hb1; clear hb1)
    go_ret
    exact ⟨rfl, HB1.out⟩
  · obtain ⟨n, r, f, hk⟩ : ∃ n r f, tk s.data.toList = (n, r, f) := ⟨_, _, _, rfl⟩
    obtain ⟨t, q, g, ht⟩ : ∃ t q g, text s.data.toList m = (t, q, g) := ⟨_, _, _, rfl⟩
    obtain ⟨x, h, hl⟩ : ∃ x h, all s.data.toList a m = (x, h) := ⟨_, _, rfl⟩
    have hxl : x.length ≤ 4000 := by
      by_cases h0 : h = 0
      · subst h0
        have h1 := ((all_back hl).1 rfl).1
        have h2 : s.data.toList.length ≤ 4000 := by rw [← Lib.size_eq]; omega
        have h3 : x.length ≤ (x.flatMap putText).length := by
          clear hl h1
          induction x with
          | nil => simp
          | cons l ls ih =>
            simp only [List.flatMap_cons, List.length_append, List.length_cons, putText_len, put_len]
            omega
        rw [h1, putAll, List.length_append] at h2
        omega
      · rw [(all_back hl).2 h0]; simp
    have HK := Lib.hid hk
    have HT := Lib.hid ht
    have HL := Lib.hid hl
    clear hk ht hl
    go_enter Try.func3, Try.ntmps3
    go_wp2_with (go_at_call 10; refine (shown_any _).mono ?_; rintro e w1 ⟨rfl, hb1⟩; have HB1 := Lib.hid hb1; clear hb1)
    go_wp2_with fail
    refine (take_bel _ _ (by omega)).mono ?_
    rw [HK.out]
    rintro e w2 ⟨⟨R, hR, rfl⟩, hb2⟩
    dsimp only at hR ⊢
    have HB2 := Lib.hid (HB1.out.trans (hb2.mono HB1.out.size))
    have HR := Lib.hid hR
    clear hR hb2
    go_wp2_with fail
    refine (refTake_any _ _ (by omega)).mono ?_
    rw [HK.out]
    rintro e w3 ⟨⟨R', hR', rfl⟩, hb3⟩
    dsimp only at hR' ⊢
    have HB3 := Lib.hid (HB2.out.trans (hb3.mono HB2.out.size))
    have heq1 : (R.toList == R'.toList) = true := eq_bool (by rw [HR.out, hR'])
    clear hR' hb3
    go_wp2_with fail
    refine (text_bel _ m _ (by omega) hm).mono ?_
    rw [HT.out]
    rintro e w4 ⟨⟨T, Q, hT, hQ, rfl⟩, hb4⟩
    dsimp only at hT hQ ⊢
    have HB4 := Lib.hid (HB3.out.trans (hb4.mono HB3.out.size))
    have HT1 := Lib.hid hT
    have HQ1 := Lib.hid hQ
    clear hT hQ hb4
    go_wp2_with fail
    refine (refText_any _ m _ (by omega) hm).mono ?_
    rw [HT.out]
    rintro e w5 ⟨⟨T', Q', hT', hQ', rfl⟩, hb5⟩
    dsimp only at hT' hQ' ⊢
    have HB5 := Lib.hid (HB4.out.trans (hb5.mono HB4.out.size))
    have heq2 : (T.toList == T'.toList) = true := eq_bool (by rw [HT1.out, hT'])
    have heq3 : (Q.toList == Q'.toList) = true := eq_bool (by rw [HQ1.out, hQ'])
    clear hT' hQ' hb5
    go_wp2_with fail
    refine (takeAll_any _ a m _ (by omega) ha hm).mono ?_
    rw [HL.out]
    rintro e w6 ⟨⟨A1, c1, ys, hys, _, hsr, rfl⟩, hb6⟩
    dsimp only at hys ⊢
    have HB6 := Lib.hid (HB5.out.trans (hb6.mono HB5.out.size))
    have HYS := Lib.hid hys
    have HSR := Lib.hid hsr
    clear hys hsr hb6
    go_wp2_with fail
    refine (refAll_any _ a m _ (by omega) ha hm).mono ?_
    rw [HL.out]
    rintro e w7 ⟨⟨A2, c2, zs, hzs, _, hsr2, rfl⟩, hb7⟩
    dsimp only at hzs ⊢
    have HB7 := Lib.hid (HB6.out.trans (hb7.mono HB6.out.size))
    have HSR1 := Lib.hid (HSR.out.below hb7 (Nat.le_refl _))
    have HSR2 := Lib.hid hsr2
    have HE : Hid (decide (bl ys = bl zs) = true) := decide_eq_true (by rw [HYS.out, hzs])
    have hyl : ys.length ≤ 4000 := by rw [← bl_len, HYS.out]; exact hxl
    clear hzs hsr2 hb7
    go_wp2_with fail
    refine (same_any _ _ c1 c2 ys zs _ HSR1.out HSR2.out (by omega)).mono ?_
    rw [HE.out]
    rintro e w8 ⟨rfl, hb8⟩
    have HB8 := Lib.hid (HB7.out.trans (hb8.mono HB7.out.size))
    clear hb8
    go_wp2
    go_ret
    exact ⟨rfl, HB8.out⟩
end Go.Proofs.Ytfjnelfaighdeaa.Wire
