/-
  THE WALK of WireOne. By an AI agent; no person has read it.
-/
import Derived.Test.YtfjnelfaighdeaaWLaw
namespace Go.Proofs.Ytfjnelfaighdeaa.Wire
open Go.RowKit

theorem app_data (a b : ByteArray) : (a ++ b).data.toList = a.data.toList ++ b.data.toList := by
  show (a.append b).data.toList = _
  simp
theorem flat_le (ls : List (List UInt8)) : ls.flatten.length ≤ (ls.flatMap putText).length := by
  induction ls with
  | nil => simp
  | cons l ls ih =>
    simp only [List.flatMap_cons, List.length_append, List.flatten_cons, putText_len]
    omega
theorem len_le (ls : List (List UInt8)) : ls.length ≤ (ls.flatMap putText).length := by
  induction ls with
  | nil => simp
  | cons l ls ih =>
    simp only [List.flatMap_cons, List.length_append, List.length_cons, putText_len, put_len]
    omega
theorem empty_str {s : ByteArray} (h : s.data.toList = []) : s.toList.isEmpty = true := by rw [Lib.toList_data, h]; rfl
theorem nonempty_str {s : ByteArray} (h : s.data.toList ≠ []) : s.toList.isEmpty = false := by
  rw [Lib.toList_data]
  cases h2 : s.data.toList with
  | nil => exact absurd h2 h
  | cons x t => rfl

set_option maxHeartbeats 4000000 in
set_option maxRecDepth 1000000 in
theorem one_walk (s : ByteArray) (w : World) (hs : s.size ≤ 140737488355328) :
    Calls Try.prog 6 #[.string s] w fun e w' => e = .returned (.bool true) ∧ Below w.heap.size w w' := by
  by_cases hbig : (4000 : Int) < (s.size : Int)
  · go_enter Try.func6, Try.ntmps6
    go_wp2_with (go_at_call 10; refine (shown_any _).mono ?_; rintro e w1 ⟨rfl, hb1⟩; have HB1 := Lib.hid hb1; clear hb1)
    go_ret
    exact ⟨rfl, HB1.out⟩
  · have HSB : Hid (s.data.toList.length ≤ 4000) := by
      show _ ≤ _
      rw [← Lib.size_eq]; omega
    obtain ⟨x, f, hall⟩ : ∃ x f, all s.data.toList 4000 4000 = (x, f) := ⟨_, _, rfl⟩
    have hback := all_back hall
    have htxt : ∃ t q g, text s.data.toList 4000 = (t, q, g) ∧ ((g ≠ 0 ∧ t = [] ∧ q = []) ∨ (g = 0 ∧ s.data.toList = putText t ++ q)) := by
      rcases text_cases s.data.toList 4000 with h | h | ⟨t, q, h, hl, _⟩
      · exact ⟨_, _, _, h, .inl ⟨by decide, rfl, rfl⟩⟩
      · exact ⟨_, _, _, h, .inl ⟨by decide, rfl, rfl⟩⟩
      · exact ⟨_, _, _, h, .inr ⟨rfl, hl⟩⟩
    obtain ⟨t, q, g, htx, htc⟩ := htxt
    rcases take_tk (l := s.data.toList) with ⟨ht, hk⟩ | ⟨n, r, ht, hk, hn⟩
    · have HK := Lib.hid hk
      clear ht hk
      rcases htc with ⟨hg, rfl, rfl⟩ | ⟨rfl, hts⟩
      · have HTX := Lib.hid htx
        have hg1 : (g == 0) = false := by simpa using hg
        have hg2 : (g != 0) = true := by simpa using hg
        clear htx hg
        by_cases hf : f = 0
        · subst hf
          have HALL := Lib.hid hall
          have HPA := Lib.hid (hback.1 rfl).1
          have HXL : Hid (x.length ≤ 4000 ∧ x.flatten.length ≤ 4000) := by
            show _ ∧ _
            have h1 := HSB.out
            have h2 := len_le x
            have h3 := flat_le x
            rw [(hback.1 rfl).1, putAll, List.length_append] at h1
            omega
          clear hall hback
          go_enter Try.func6, Try.ntmps6
          go_wp2_with (go_at_call 10; refine (shown_any _).mono ?_; rintro e w1 ⟨rfl, hb1⟩; have HB1 := Lib.hid hb1; clear hb1)
          go_wp2_with fail
          refine (take_bel s _ (by omega)).mono ?_
          rw [HK.out]
          rintro e w2 ⟨⟨R, hR, rfl⟩, hd2⟩
          dsimp only at hR ⊢
          have hxe := empty_str hR
          have HB2 := Lib.hid (HB1.out.trans (hd2.mono HB1.out.size))
          clear hR hd2
          go_wp2_with fail
          refine (text_bel s 4000 _ (by omega) (by omega)).mono ?_
          rw [HTX.out]
          rintro e w4 ⟨⟨V, Q, hV, hQ, rfl⟩, hd4⟩
          dsimp only at hV hQ ⊢
          have hve := empty_str hV
          have hqe := empty_str hQ
          have HB3 := Lib.hid (HB2.out.trans (hd4.mono HB2.out.size))
          clear hV hQ hd4
          go_wp2_with fail
          refine (takeAll_any s 4000 4000 _ (by omega) (by omega) (by omega)).mono ?_
          rw [HALL.out]
          rintro e w6 ⟨⟨P, c, ys, hys, hcl, hsr, rfl⟩, hb6⟩
          dsimp only at hys ⊢
          have HB6 := Lib.hid (HB3.out.trans (hb6.mono HB3.out.size))
          have hl1 : ys.length ≤ 4000 := by
            rw [← bl_len, hys]; exact HXL.out.1
          have hl2 : (bl ys).flatten.length ≤ 4000 := by rw [hys]; exact HXL.out.2
          have HYS := Lib.hid hys
          have HSR := Lib.hid hsr
          have HL2 := Lib.hid hl2
          clear hys hsr hb6 hl2
          go_wp2_with fail
          refine (putAll_any P c ys _ HSR.out (by omega) (Nat.le_trans HL2.out (by decide))).mono ?_
          rintro e w7 ⟨⟨U, hU, rfl⟩, hb7⟩
          have HB7 := Lib.hid (HB6.out.trans (hb7.mono HB6.out.size))
          have heq3 : (U.toList == s.toList) = true := eq_bool (by rw [hU, HYS.out, ← HPA.out])
          clear hU hb7
          go_wp2
          go_ret
          exact ⟨rfl, HB7.out⟩
        · have HALL := Lib.hid hall
          have HX := Lib.hid (hback.2 hf)
          have hf1 : (f == 0) = false := by simpa using hf
          have hf2 : (f != 0) = true := by simpa using hf
          clear hall hback hf
          go_enter Try.func6, Try.ntmps6
          go_wp2_with (go_at_call 10; refine (shown_any _).mono ?_; rintro e w1 ⟨rfl, hb1⟩; have HB1 := Lib.hid hb1; clear hb1)
          go_wp2_with fail
          refine (take_bel s _ (by omega)).mono ?_
          rw [HK.out]
          rintro e w2 ⟨⟨R, hR, rfl⟩, hd2⟩
          dsimp only at hR ⊢
          have hxe := empty_str hR
          have HB2 := Lib.hid (HB1.out.trans (hd2.mono HB1.out.size))
          clear hR hd2
          go_wp2_with fail
          refine (text_bel s 4000 _ (by omega) (by omega)).mono ?_
          rw [HTX.out]
          rintro e w4 ⟨⟨V, Q, hV, hQ, rfl⟩, hd4⟩
          dsimp only at hV hQ ⊢
          have hve := empty_str hV
          have hqe := empty_str hQ
          have HB3 := Lib.hid (HB2.out.trans (hd4.mono HB2.out.size))
          clear hV hQ hd4
          go_wp2_with fail
          refine (takeAll_any s 4000 4000 _ (by omega) (by omega) (by omega)).mono ?_
          rw [HALL.out]
          rintro e w6 ⟨⟨P, c, ys, hys, hcl, hsr, rfl⟩, hb6⟩
          dsimp only at hys ⊢
          obtain rfl : ys = [] := by
            rw [HX.out] at hys
            exact List.map_eq_nil_iff.1 hys
          have HB6 := Lib.hid (HB3.out.trans (hb6.mono HB3.out.size))
          clear hys hsr hb6
          rw [List.length_nil] at hcl ⊢
          go_wp2
          go_ret
          exact ⟨rfl, HB6.out⟩
      · have HTX := Lib.hid htx
        have HTS := Lib.hid hts
        have HTL : Hid (t.length ≤ 4000) := by
          show _ ≤ _
          have := HSB.out
          rw [hts, List.length_append, putText_len] at this; omega
        clear htx hts
        by_cases hf : f = 0
        · subst hf
          have HALL := Lib.hid hall
          have HPA := Lib.hid (hback.1 rfl).1
          have HXL : Hid (x.length ≤ 4000 ∧ x.flatten.length ≤ 4000) := by
            show _ ∧ _
            have h1 := HSB.out
            have h2 := len_le x
            have h3 := flat_le x
            rw [(hback.1 rfl).1, putAll, List.length_append] at h1
            omega
          clear hall hback
          go_enter Try.func6, Try.ntmps6
          go_wp2_with (go_at_call 10; refine (shown_any _).mono ?_; rintro e w1 ⟨rfl, hb1⟩; have HB1 := Lib.hid hb1; clear hb1)
          go_wp2_with fail
          refine (take_bel s _ (by omega)).mono ?_
          rw [HK.out]
          rintro e w2 ⟨⟨R, hR, rfl⟩, hd2⟩
          dsimp only at hR ⊢
          have hxe := empty_str hR
          have HB2 := Lib.hid (HB1.out.trans (hd2.mono HB1.out.size))
          clear hR hd2
          go_wp2_with fail
          refine (text_bel s 4000 _ (by omega) (by omega)).mono ?_
          rw [HTX.out]
          rintro e w4 ⟨⟨V, Q, hV, hQ, rfl⟩, hd4⟩
          dsimp only at hV hQ ⊢
          have hvz : V.size ≤ 4000 := by rw [Lib.size_eq, hV]; exact HTL.out
          have HV := Lib.hid hV
          have HQ := Lib.hid hQ
          have HBC := Lib.hid (HB2.out.trans (hd4.mono HB2.out.size))
          clear hV hQ hd4
          go_wp2_with fail
          refine (putText_any V _ (by omega)).mono ?_
          rintro e w5 ⟨⟨T2, hT2, rfl⟩, hb5⟩
          have HB3 := Lib.hid (HBC.out.trans (hb5.mono HBC.out.size))
          have heq2 : ((T2 ++ Q).toList == s.toList) = true := eq_bool (by rw [app_data, hT2, HV.out, HQ.out, HTS.out])
          have hz3 : T2.size ≤ 4000 ∧ Q.size ≤ 4000 := by
            have h1 := HSB.out
            have h2 := HTS.out
            rw [h2, List.length_append] at h1
            rw [Lib.size_eq, Lib.size_eq, hT2, HV.out, HQ.out]; omega
          obtain ⟨hz4, hz5⟩ := hz3
          clear hT2 hb5
          go_wp2_with fail
          refine (takeAll_any s 4000 4000 _ (by omega) (by omega) (by omega)).mono ?_
          rw [HALL.out]
          rintro e w6 ⟨⟨P, c, ys, hys, hcl, hsr, rfl⟩, hb6⟩
          dsimp only at hys ⊢
          have HB6 := Lib.hid (HB3.out.trans (hb6.mono HB3.out.size))
          have hl1 : ys.length ≤ 4000 := by
            rw [← bl_len, hys]; exact HXL.out.1
          have hl2 : (bl ys).flatten.length ≤ 4000 := by rw [hys]; exact HXL.out.2
          have HYS := Lib.hid hys
          have HSR := Lib.hid hsr
          have HL2 := Lib.hid hl2
          clear hys hsr hb6 hl2
          go_wp2_with fail
          refine (putAll_any P c ys _ HSR.out (by omega) (Nat.le_trans HL2.out (by decide))).mono ?_
          rintro e w7 ⟨⟨U, hU, rfl⟩, hb7⟩
          have HB7 := Lib.hid (HB6.out.trans (hb7.mono HB6.out.size))
          have heq3 : (U.toList == s.toList) = true := eq_bool (by rw [hU, HYS.out, ← HPA.out])
          clear hU hb7
          go_wp2
          go_ret
          exact ⟨rfl, HB7.out⟩
        · have HALL := Lib.hid hall
          have HX := Lib.hid (hback.2 hf)
          have hf1 : (f == 0) = false := by simpa using hf
          have hf2 : (f != 0) = true := by simpa using hf
          clear hall hback hf
          go_enter Try.func6, Try.ntmps6
          go_wp2_with (go_at_call 10; refine (shown_any _).mono ?_; rintro e w1 ⟨rfl, hb1⟩; have HB1 := Lib.hid hb1; clear hb1)
          go_wp2_with fail
          refine (take_bel s _ (by omega)).mono ?_
          rw [HK.out]
          rintro e w2 ⟨⟨R, hR, rfl⟩, hd2⟩
          dsimp only at hR ⊢
          have hxe := empty_str hR
          have HB2 := Lib.hid (HB1.out.trans (hd2.mono HB1.out.size))
          clear hR hd2
          go_wp2_with fail
          refine (text_bel s 4000 _ (by omega) (by omega)).mono ?_
          rw [HTX.out]
          rintro e w4 ⟨⟨V, Q, hV, hQ, rfl⟩, hd4⟩
          dsimp only at hV hQ ⊢
          have hvz : V.size ≤ 4000 := by rw [Lib.size_eq, hV]; exact HTL.out
          have HV := Lib.hid hV
          have HQ := Lib.hid hQ
          have HBC := Lib.hid (HB2.out.trans (hd4.mono HB2.out.size))
          clear hV hQ hd4
          go_wp2_with fail
          refine (putText_any V _ (by omega)).mono ?_
          rintro e w5 ⟨⟨T2, hT2, rfl⟩, hb5⟩
          have HB3 := Lib.hid (HBC.out.trans (hb5.mono HBC.out.size))
          have heq2 : ((T2 ++ Q).toList == s.toList) = true := eq_bool (by rw [app_data, hT2, HV.out, HQ.out, HTS.out])
          have hz3 : T2.size ≤ 4000 ∧ Q.size ≤ 4000 := by
            have h1 := HSB.out
            have h2 := HTS.out
            rw [h2, List.length_append] at h1
            rw [Lib.size_eq, Lib.size_eq, hT2, HV.out, HQ.out]; omega
          obtain ⟨hz4, hz5⟩ := hz3
          clear hT2 hb5
          go_wp2_with fail
          refine (takeAll_any s 4000 4000 _ (by omega) (by omega) (by omega)).mono ?_
          rw [HALL.out]
          rintro e w6 ⟨⟨P, c, ys, hys, hcl, hsr, rfl⟩, hb6⟩
          dsimp only at hys ⊢
          obtain rfl : ys = [] := by
            rw [HX.out] at hys
            exact List.map_eq_nil_iff.1 hys
          have HB6 := Lib.hid (HB3.out.trans (hb6.mono HB3.out.size))
          clear hys hsr hb6
          rw [List.length_nil] at hcl ⊢
          go_wp2
          go_ret
          exact ⟨rfl, HB6.out⟩
    · have HK := Lib.hid hk
      have HTK := Lib.hid (take_some ht).1
      have HN := Lib.hid hn
      clear ht hk hn
      rcases htc with ⟨hg, rfl, rfl⟩ | ⟨rfl, hts⟩
      · have HTX := Lib.hid htx
        have hg1 : (g == 0) = false := by simpa using hg
        have hg2 : (g != 0) = true := by simpa using hg
        clear htx hg
        by_cases hf : f = 0
        · subst hf
          have HALL := Lib.hid hall
          have HPA := Lib.hid (hback.1 rfl).1
          have HXL : Hid (x.length ≤ 4000 ∧ x.flatten.length ≤ 4000) := by
            show _ ∧ _
            have h1 := HSB.out
            have h2 := len_le x
            have h3 := flat_le x
            rw [(hback.1 rfl).1, putAll, List.length_append] at h1
            omega
          clear hall hback
          go_enter Try.func6, Try.ntmps6
          go_wp2_with (go_at_call 10; refine (shown_any _).mono ?_; rintro e w1 ⟨rfl, hb1⟩; have HB1 := Lib.hid hb1; clear hb1)
          go_wp2_with fail
          refine (take_bel s _ (by omega)).mono ?_
          rw [HK.out]
          rintro e w2 ⟨⟨R, hR, rfl⟩, hd2⟩
          dsimp only at hR ⊢
          have HR := Lib.hid hR
          have HBA := Lib.hid (HB1.out.trans (hd2.mono HB1.out.size))
          clear hR hd2
          go_wp2_with fail
          refine (put_any n _ HN.out).mono ?_
          rintro e w3 ⟨⟨T, hT, rfl⟩, hb3⟩
          have HB2 := Lib.hid (HBA.out.trans (hb3.mono HBA.out.size))
          have heq : ((T ++ R).toList == s.toList) = true := eq_bool (by rw [app_data, hT, HR.out, HTK.out])
          have hz1 : T.size ≤ 9 := put_size hT HN.out
          have hz2 : R.size ≤ 4000 := by
            have h1 := HSB.out
            have h2 := HTK.out
            rw [h2, List.length_append] at h1
            rw [Lib.size_eq, HR.out]; omega
          clear hT hb3
          go_wp2_with fail
          refine (text_bel s 4000 _ (by omega) (by omega)).mono ?_
          rw [HTX.out]
          rintro e w4 ⟨⟨V, Q, hV, hQ, rfl⟩, hd4⟩
          dsimp only at hV hQ ⊢
          have hve := empty_str hV
          have hqe := empty_str hQ
          have HB3 := Lib.hid (HB2.out.trans (hd4.mono HB2.out.size))
          clear hV hQ hd4
          go_wp2_with fail
          refine (takeAll_any s 4000 4000 _ (by omega) (by omega) (by omega)).mono ?_
          rw [HALL.out]
          rintro e w6 ⟨⟨P, c, ys, hys, hcl, hsr, rfl⟩, hb6⟩
          dsimp only at hys ⊢
          have HB6 := Lib.hid (HB3.out.trans (hb6.mono HB3.out.size))
          have hl1 : ys.length ≤ 4000 := by
            rw [← bl_len, hys]; exact HXL.out.1
          have hl2 : (bl ys).flatten.length ≤ 4000 := by rw [hys]; exact HXL.out.2
          have HYS := Lib.hid hys
          have HSR := Lib.hid hsr
          have HL2 := Lib.hid hl2
          clear hys hsr hb6 hl2
          go_wp2_with fail
          refine (putAll_any P c ys _ HSR.out (by omega) (Nat.le_trans HL2.out (by decide))).mono ?_
          rintro e w7 ⟨⟨U, hU, rfl⟩, hb7⟩
          have HB7 := Lib.hid (HB6.out.trans (hb7.mono HB6.out.size))
          have heq3 : (U.toList == s.toList) = true := eq_bool (by rw [hU, HYS.out, ← HPA.out])
          clear hU hb7
          go_wp2
          go_ret
          exact ⟨rfl, HB7.out⟩
        · have HALL := Lib.hid hall
          have HX := Lib.hid (hback.2 hf)
          have hf1 : (f == 0) = false := by simpa using hf
          have hf2 : (f != 0) = true := by simpa using hf
          clear hall hback hf
          go_enter Try.func6, Try.ntmps6
          go_wp2_with (go_at_call 10; refine (shown_any _).mono ?_; rintro e w1 ⟨rfl, hb1⟩; have HB1 := Lib.hid hb1; clear hb1)
          go_wp2_with fail
          refine (take_bel s _ (by omega)).mono ?_
          rw [HK.out]
          rintro e w2 ⟨⟨R, hR, rfl⟩, hd2⟩
          dsimp only at hR ⊢
          have HR := Lib.hid hR
          have HBA := Lib.hid (HB1.out.trans (hd2.mono HB1.out.size))
          clear hR hd2
          go_wp2_with fail
          refine (put_any n _ HN.out).mono ?_
          rintro e w3 ⟨⟨T, hT, rfl⟩, hb3⟩
          have HB2 := Lib.hid (HBA.out.trans (hb3.mono HBA.out.size))
          have heq : ((T ++ R).toList == s.toList) = true := eq_bool (by rw [app_data, hT, HR.out, HTK.out])
          have hz1 : T.size ≤ 9 := put_size hT HN.out
          have hz2 : R.size ≤ 4000 := by
            have h1 := HSB.out
            have h2 := HTK.out
            rw [h2, List.length_append] at h1
            rw [Lib.size_eq, HR.out]; omega
          clear hT hb3
          go_wp2_with fail
          refine (text_bel s 4000 _ (by omega) (by omega)).mono ?_
          rw [HTX.out]
          rintro e w4 ⟨⟨V, Q, hV, hQ, rfl⟩, hd4⟩
          dsimp only at hV hQ ⊢
          have hve := empty_str hV
          have hqe := empty_str hQ
          have HB3 := Lib.hid (HB2.out.trans (hd4.mono HB2.out.size))
          clear hV hQ hd4
          go_wp2_with fail
          refine (takeAll_any s 4000 4000 _ (by omega) (by omega) (by omega)).mono ?_
          rw [HALL.out]
          rintro e w6 ⟨⟨P, c, ys, hys, hcl, hsr, rfl⟩, hb6⟩
          dsimp only at hys ⊢
          obtain rfl : ys = [] := by
            rw [HX.out] at hys
            exact List.map_eq_nil_iff.1 hys
          have HB6 := Lib.hid (HB3.out.trans (hb6.mono HB3.out.size))
          clear hys hsr hb6
          rw [List.length_nil] at hcl ⊢
          go_wp2
          go_ret
          exact ⟨rfl, HB6.out⟩
      · have HTX := Lib.hid htx
        have HTS := Lib.hid hts
        have HTL : Hid (t.length ≤ 4000) := by
          show _ ≤ _
          have := HSB.out
          rw [hts, List.length_append, putText_len] at this; omega
        clear htx hts
        by_cases hf : f = 0
        · subst hf
          have HALL := Lib.hid hall
          have HPA := Lib.hid (hback.1 rfl).1
          have HXL : Hid (x.length ≤ 4000 ∧ x.flatten.length ≤ 4000) := by
            show _ ∧ _
            have h1 := HSB.out
            have h2 := len_le x
            have h3 := flat_le x
            rw [(hback.1 rfl).1, putAll, List.length_append] at h1
            omega
          clear hall hback
          go_enter Try.func6, Try.ntmps6
          go_wp2_with (go_at_call 10; refine (shown_any _).mono ?_; rintro e w1 ⟨rfl, hb1⟩; have HB1 := Lib.hid hb1; clear hb1)
          go_wp2_with fail
          refine (take_bel s _ (by omega)).mono ?_
          rw [HK.out]
          rintro e w2 ⟨⟨R, hR, rfl⟩, hd2⟩
          dsimp only at hR ⊢
          have HR := Lib.hid hR
          have HBA := Lib.hid (HB1.out.trans (hd2.mono HB1.out.size))
          clear hR hd2
          go_wp2_with fail
          refine (put_any n _ HN.out).mono ?_
          rintro e w3 ⟨⟨T, hT, rfl⟩, hb3⟩
          have HB2 := Lib.hid (HBA.out.trans (hb3.mono HBA.out.size))
          have heq : ((T ++ R).toList == s.toList) = true := eq_bool (by rw [app_data, hT, HR.out, HTK.out])
          have hz1 : T.size ≤ 9 := put_size hT HN.out
          have hz2 : R.size ≤ 4000 := by
            have h1 := HSB.out
            have h2 := HTK.out
            rw [h2, List.length_append] at h1
            rw [Lib.size_eq, HR.out]; omega
          clear hT hb3
          go_wp2_with fail
          refine (text_bel s 4000 _ (by omega) (by omega)).mono ?_
          rw [HTX.out]
          rintro e w4 ⟨⟨V, Q, hV, hQ, rfl⟩, hd4⟩
          dsimp only at hV hQ ⊢
          have hvz : V.size ≤ 4000 := by rw [Lib.size_eq, hV]; exact HTL.out
          have HV := Lib.hid hV
          have HQ := Lib.hid hQ
          have HBC := Lib.hid (HB2.out.trans (hd4.mono HB2.out.size))
          clear hV hQ hd4
          go_wp2_with fail
          refine (putText_any V _ (by omega)).mono ?_
          rintro e w5 ⟨⟨T2, hT2, rfl⟩, hb5⟩
          have HB3 := Lib.hid (HBC.out.trans (hb5.mono HBC.out.size))
          have heq2 : ((T2 ++ Q).toList == s.toList) = true := eq_bool (by rw [app_data, hT2, HV.out, HQ.out, HTS.out])
          have hz3 : T2.size ≤ 4000 ∧ Q.size ≤ 4000 := by
            have h1 := HSB.out
            have h2 := HTS.out
            rw [h2, List.length_append] at h1
            rw [Lib.size_eq, Lib.size_eq, hT2, HV.out, HQ.out]; omega
          obtain ⟨hz4, hz5⟩ := hz3
          clear hT2 hb5
          go_wp2_with fail
          refine (takeAll_any s 4000 4000 _ (by omega) (by omega) (by omega)).mono ?_
          rw [HALL.out]
          rintro e w6 ⟨⟨P, c, ys, hys, hcl, hsr, rfl⟩, hb6⟩
          dsimp only at hys ⊢
          have HB6 := Lib.hid (HB3.out.trans (hb6.mono HB3.out.size))
          have hl1 : ys.length ≤ 4000 := by
            rw [← bl_len, hys]; exact HXL.out.1
          have hl2 : (bl ys).flatten.length ≤ 4000 := by rw [hys]; exact HXL.out.2
          have HYS := Lib.hid hys
          have HSR := Lib.hid hsr
          have HL2 := Lib.hid hl2
          clear hys hsr hb6 hl2
          go_wp2_with fail
          refine (putAll_any P c ys _ HSR.out (by omega) (Nat.le_trans HL2.out (by decide))).mono ?_
          rintro e w7 ⟨⟨U, hU, rfl⟩, hb7⟩
          have HB7 := Lib.hid (HB6.out.trans (hb7.mono HB6.out.size))
          have heq3 : (U.toList == s.toList) = true := eq_bool (by rw [hU, HYS.out, ← HPA.out])
          clear hU hb7
          go_wp2
          go_ret
          exact ⟨rfl, HB7.out⟩
        · have HALL := Lib.hid hall
          have HX := Lib.hid (hback.2 hf)
          have hf1 : (f == 0) = false := by simpa using hf
          have hf2 : (f != 0) = true := by simpa using hf
          clear hall hback hf
          go_enter Try.func6, Try.ntmps6
          go_wp2_with (go_at_call 10; refine (shown_any _).mono ?_; rintro e w1 ⟨rfl, hb1⟩; have HB1 := Lib.hid hb1; clear hb1)
          go_wp2_with fail
          refine (take_bel s _ (by omega)).mono ?_
          rw [HK.out]
          rintro e w2 ⟨⟨R, hR, rfl⟩, hd2⟩
          dsimp only at hR ⊢
          have HR := Lib.hid hR
          have HBA := Lib.hid (HB1.out.trans (hd2.mono HB1.out.size))
          clear hR hd2
          go_wp2_with fail
          refine (put_any n _ HN.out).mono ?_
          rintro e w3 ⟨⟨T, hT, rfl⟩, hb3⟩
          have HB2 := Lib.hid (HBA.out.trans (hb3.mono HBA.out.size))
          have heq : ((T ++ R).toList == s.toList) = true := eq_bool (by rw [app_data, hT, HR.out, HTK.out])
          have hz1 : T.size ≤ 9 := put_size hT HN.out
          have hz2 : R.size ≤ 4000 := by
            have h1 := HSB.out
            have h2 := HTK.out
            rw [h2, List.length_append] at h1
            rw [Lib.size_eq, HR.out]; omega
          clear hT hb3
          go_wp2_with fail
          refine (text_bel s 4000 _ (by omega) (by omega)).mono ?_
          rw [HTX.out]
          rintro e w4 ⟨⟨V, Q, hV, hQ, rfl⟩, hd4⟩
          dsimp only at hV hQ ⊢
          have hvz : V.size ≤ 4000 := by rw [Lib.size_eq, hV]; exact HTL.out
          have HV := Lib.hid hV
          have HQ := Lib.hid hQ
          have HBC := Lib.hid (HB2.out.trans (hd4.mono HB2.out.size))
          clear hV hQ hd4
          go_wp2_with fail
          refine (putText_any V _ (by omega)).mono ?_
          rintro e w5 ⟨⟨T2, hT2, rfl⟩, hb5⟩
          have HB3 := Lib.hid (HBC.out.trans (hb5.mono HBC.out.size))
          have heq2 : ((T2 ++ Q).toList == s.toList) = true := eq_bool (by rw [app_data, hT2, HV.out, HQ.out, HTS.out])
          have hz3 : T2.size ≤ 4000 ∧ Q.size ≤ 4000 := by
            have h1 := HSB.out
            have h2 := HTS.out
            rw [h2, List.length_append] at h1
            rw [Lib.size_eq, Lib.size_eq, hT2, HV.out, HQ.out]; omega
          obtain ⟨hz4, hz5⟩ := hz3
          clear hT2 hb5
          go_wp2_with fail
          refine (takeAll_any s 4000 4000 _ (by omega) (by omega) (by omega)).mono ?_
          rw [HALL.out]
          rintro e w6 ⟨⟨P, c, ys, hys, hcl, hsr, rfl⟩, hb6⟩
          dsimp only at hys ⊢
          obtain rfl : ys = [] := by
            rw [HX.out] at hys
            exact List.map_eq_nil_iff.1 hys
          have HB6 := Lib.hid (HB3.out.trans (hb6.mono HB3.out.size))
          clear hys hsr hb6
          rw [List.length_nil] at hcl ⊢
          go_wp2
          go_ret
          exact ⟨rfl, HB6.out⟩
end Go.Proofs.Ytfjnelfaighdeaa.Wire
