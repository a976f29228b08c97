/-
  THE WALK of TermSize. By an AI agent; no person has read it.
-/
import Derived.Test.YtgjjbeejfdkjdaaTPairs
namespace Go.Proofs.Ytgjjbeejfdkjdaa.Term
open Go.RowKit Wire

theorem dig_small {n : Nat} (h1 : 0 < n) (h2 : n ≤ 255) : (dig n).length = 1 := by
  rw [dig_pos (by omega), show n / 256 = 0 by omega, dig_zero]; rfl
theorem dig_mid {n : Nat} (h1 : 255 < n) (h2 : n < 65536) : (dig n).length = 2 := by
  rw [dig_pos (by omega), List.length_append, dig_small (by omega) (by omega)]; rfl
/-- A text's term: right if it fits. -/
theorem ofText_fits {s : List UInt8} (h : s.length ≤ 4000) (hl : (116 :: putText s).length ≤ 4000) : ofText s = (116 :: putText s, 0) := by
  have hr : right (116 :: putText s) = true := by
    refine right_iff.2 ⟨by simp, hl, ?_⟩
    show up (body (size 39) 116 (putText s)) = _
    have h2 : body (size 39) 116 (putText s) = some (putText s).length := by
      have h3 := text_put (t := s) (by omega) [] 4000 (by omega)
      rw [List.append_nil] at h3
      show leaf 116 (putText s) = _
      unfold leaf
      rw [if_neg (by decide), h3]
      simp
    rw [h2]
    simp only [up, List.length_cons]; omega
  unfold ofText made
  rw [if_pos hr]
theorem ofText_big {s : List UInt8} (hl : 4000 < (116 :: putText s).length) : ofText s = ([], 10) := by
  unfold ofText made
  rw [if_neg]
  intro hr
  have := (right_iff.1 hr).2.1
  omega
/-- An atom, hashed so often. -/
def hsh (l : List UInt8) : Nat → List UInt8
  | 0 => l
  | j + 1 => 104 :: hsh l j
theorem hsh_len (l : List UInt8) (j : Nat) : (hsh l j).length = l.length + j := by
  induction j with
  | zero => rfl
  | succ j ih => simp only [hsh, List.length_cons, ih]; omega
theorem size_hsh {n : Nat} (hn : n < 18446744073709551616) : ∀ (j d : Nat), size d (hsh (ofAtom n) j) = if j + 1 ≤ d then (hsh (ofAtom n) j).length else 0
  | j, 0 => by rw [if_neg (by omega)]; rfl
  | 0, d + 1 => by
    rw [if_pos (by omega)]
    show up (body (size d) 97 (put n)) = _
    have h2 : body (size d) 97 (put n) = some (put n).length := by
      have h3 := take_put hn []
      rw [List.append_nil] at h3
      show leaf 97 (put n) = _
      unfold leaf
      rw [if_pos rfl, h3]
      simp
    rw [h2]
    simp only [up, hsh, ofAtom, List.length_cons]; omega
  | j + 1, d + 1 => by
    have ih := size_hsh hn j d
    show up (body (size d) 104 (hsh (ofAtom n) j)) = _
    have hb : body (size d) 104 (hsh (ofAtom n) j) = sizes (size d) 1 (hsh (ofAtom n) j) := by
      show (if (104 : UInt8) = 98 ∧ (hsh (ofAtom n) j).head? ≠ some 117 then none else sizes (size d) 1 (hsh (ofAtom n) j)) = _
      rw [if_neg (fun h => absurd h.1 (by decide))]
    rw [hb]
    have h1 := (put_le hn).1
    have hl := hsh_len (ofAtom n) j
    have hlo : 0 < (ofAtom n).length := by simp [ofAtom]
    by_cases hd : j + 1 ≤ d
    · rw [if_pos hd] at ih
      rw [if_pos (by omega)]
      have hs : sizes (size d) 1 (hsh (ofAtom n) j) = some (hsh (ofAtom n) j).length := by
        unfold sizes
        rw [ih, if_neg (by omega)]
        rfl
      rw [hs]
      simp only [up, hsh, List.length_cons]; omega
    · rw [if_neg hd] at ih
      rw [if_neg (by omega)]
      have hs : sizes (size d) 1 (hsh (ofAtom n) j) = none := by
        unfold sizes
        rw [ih, if_pos rfl]
      rw [hs]; rfl
theorem hsh_right {j : Nat} (h : j ≤ 100) : right (hsh (ofAtom 7) j) = decide (j < 40) := by
  have hs := size_hsh (n := 7) (by decide) j 40
  have hl := hsh_len (ofAtom 7) j
  have h9 := (put_le (n := 7) (by decide))
  have hlo : (ofAtom 7).length = 1 + (put 7).length := by simp [ofAtom]; omega
  by_cases hj : j < 40
  · rw [decide_eq_true hj]
    rw [if_pos (by omega)] at hs
    refine right_iff.2 ⟨fun h0 => ?_, by omega, hs⟩
    rw [h0] at hl; simp at hl; omega
  · rw [decide_eq_false hj, ← Bool.not_eq_true]
    intro hr
    rw [if_neg (by omega)] at hs
    have := (right_iff.1 hr).2.2
    rw [hs] at this
    omega
theorem one_hsh {j : Nat} (h : j < 40) : one 104 (hsh (ofAtom 7) j) = if j + 1 < 40 then (hsh (ofAtom 7) (j + 1), 0) else ([], 10) := by
  have h1 : right (hsh (ofAtom 7) j) = true := by rw [hsh_right (by omega)]; exact decide_eq_true h
  unfold one
  rw [if_pos h1]
  have h2 := hsh_right (j := j + 1) (by omega)
  show made (hsh (ofAtom 7) (j + 1)) = _
  unfold made
  by_cases hj : j + 1 < 40
  · rw [if_pos hj, if_pos (by rw [h2]; exact decide_eq_true hj)]
  · rw [if_neg hj, if_neg (by rw [h2]; simp; omega)]

set_option maxHeartbeats 16000000 in
set_option maxRecDepth 1000000 in
theorem size_walk (a : Option Addr) (ca : Nat) (za : List Int) (b : Option Addr) (cb : Nat) (bs : List Int) (long deep : Int) (w : World) (ha : IReads w a za) (hb : IReads w b bs) (hlo : -9223372036854775808 ≤ long ∧ long ≤ 9223372036854775807) (hde : -9223372036854775808 ≤ deep ∧ deep ≤ 9223372036854775807) :
    Calls Try.prog 7 #[.slice a za.length ca, .slice b bs.length cb, .int .i64 long, .int .i64 deep] w fun e w' => e = .returned (.bool true) ∧ Below w.heap.size w w' := by
  have RA := Lib.hid ha
  have RB := Lib.hid hb
  have HDE := Lib.hid hde
  clear ha hb hde
  go_enter Try.func7, Try.ntmps7
  go_wp2_with fail
  refine (shown_any _).mono ?_
  rintro e w1 ⟨rfl, hb1⟩
  have HB1 := Lib.hid hb1
  clear hb1
  go_wp2_with fail
  refine (pick_any long 4100 _ hlo (by omega) (by omega)).mono ?_
  rintro e w' ⟨⟨n, hn, rfl⟩, rfl⟩
  dsimp only
  go_wp2
  go_loop [10, 12] (fun s i => ∃ (k : Nat) (S : ByteArray), k ≤ n ∧ S.size = k ∧ i = .int .i64 k ∧ s = .string S) (fun _ i => n - (intOf i).toNat)
  case atStart => exact ⟨0, _, Nat.zero_le _, rfl, rfl, rfl⟩
  case round =>
    obtain ⟨k, S, hk, hS, rfl, rfl⟩ := hrel
    have HS := Lib.hid hS
    have hSz : S.size ≤ 4100 := by omega
    clear hS
    by_cases hlt : k < n
    · go_wp2
      go_round
      case rel => exact ⟨k + 1, S ++ ⟨#[120]⟩, by omega, by rw [Lib.size_eq, app_data, List.length_append, ← Lib.size_eq, HS.out]; rfl, by go_num, rfl⟩
      case measure => simp [intOf]; omega
    · obtain rfl : k = n := by omega
      have hSl : S.data.toList.length = k := by rw [← Lib.size_eq]; exact HS.out
      obtain ⟨m, hm, hml⟩ : ∃ m, (m = if 255 < k then 2 else if 0 < k then 1 else 0) ∧ (116 :: putText S.data.toList).length = k + m + 2 := by
        refine ⟨_, rfl, ?_⟩
        rw [List.length_cons, putText_len, put_len, hSl]
        by_cases h1 : 255 < k
        · rw [if_pos h1, dig_mid h1 (by omega)]; omega
        · rw [if_neg h1]
          by_cases h2 : 0 < k
          · rw [if_pos h2, dig_small h2 (by omega)]; omega
          · rw [if_neg h2, show k = 0 by omega, dig_zero]; rfl
      by_cases h255 : (255 : Int) < (k : Int)
      · rw [if_pos (by omega)] at hm
        subst hm
        by_cases hbig : (4000 : Int) < (k : Int) + 2 + 2
        · have HOT := Lib.hid (ofText_big (s := S.data.toList) (by omega))
          clear hml hSl
          go_wp2_with fail
          refine (t_OfText S _ (by omega)).mono ?_
          rw [HOT.out]
          rintro e w2 ⟨⟨T, hT, rfl⟩, hb⟩
          dsimp only at hT ⊢
          have HB2 := Lib.hid (HB1.out.trans (hb.mono HB1.out.size))
          have hTe := empty_str hT
          clear hT hb
          go_wp2
          go_ret
          exact ⟨rfl, HB2.out⟩
        · have HOT := Lib.hid (ofText_fits (s := S.data.toList) (by omega) (by omega))
          have HML := Lib.hid hml
          have HTR : Hid (right (116 :: putText S.data.toList) = true) := ofText_right HOT.out rfl
          clear hml hSl
          go_wp2_with fail
          refine (t_OfText S _ (by omega)).mono ?_
          rw [HOT.out]
          rintro e w2 ⟨⟨T, hT, rfl⟩, hb⟩
          dsimp only at hT ⊢
          have HB2 := Lib.hid (HB1.out.trans (hb.mono HB1.out.size))
          have hTz := Lib.size_eq T
          rw [hT, HML.out] at hTz
          have hTi : (T.size : Int) = (k : Int) + 2 + 2 := by omega
          have htr : right T.data.toList = true := by rw [hT]; exact HTR.out
          have HT := Lib.hid htr
          have hTle := (right_sz htr).2
          clear hT hb hTz htr
          go_wp2_with fail
          refine (grown_any a ca za _ (RA.out.below HB2.out (Nat.le_refl _))).mono ?_
          rintro e w3 ⟨⟨A, hx, rfl⟩, hb⟩
          have HB3 := Lib.hid (HB2.out.trans (hb.mono HB2.out.size))
          have hAz := (right_sz hx).2
          have HA := Lib.hid hx
          clear hx hb
          go_wp2_with fail
          refine (grown_any b cb bs _ (RB.out.below HB3.out (Nat.le_refl _))).mono ?_
          rintro e w4 ⟨⟨B, hx, rfl⟩, hb⟩
          have HB4 := Lib.hid (HB3.out.trans (hb.mono HB3.out.size))
          have hBz := (right_sz hx).2
          have HB := Lib.hid hx
          clear hx hb
          obtain ⟨PA, hPA⟩ : ∃ PA, (ByteArray.mk #[112]) ++ A = PA := ⟨_, rfl⟩
          have hPAd : PA.data.toList = 112 :: A.data.toList := by rw [← hPA, app_data]; rfl
          have hPAz : PA.size ≤ 4001 := by
            have h1 := Lib.size_eq A
            rw [Lib.size_eq, hPAd, List.length_cons]; omega
          obtain ⟨PT, hPT⟩ : ∃ PT, PA ++ T = PT := ⟨_, rfl⟩
          have hPTd : PT.data.toList = 112 :: (A.data.toList ++ T.data.toList) := by rw [← hPT, app_data, hPAd]; rfl
          have hPTz : PT.size ≤ 9000 := by
            have h1 := Lib.size_eq PA
            have h2 := Lib.size_eq T
            rw [Lib.size_eq, ← hPT, app_data, List.length_append, ← h1, ← h2]; omega
          have HPTD := Lib.hid hPTd
          clear hPAd hPTd
          cases hr : right (112 :: (A.data.toList ++ T.data.toList)) with
          | true =>
            have P1 := Lib.hid (two_yes HA.out HT.out hr)
            have R1 : Hid (right PT.data.toList = true) := by show _ = _; rw [HPTD.out]; exact hr
            clear hr
            go_wp2_with fail
            refine (t_OfPair A T _ (by omega) (by omega)).mono ?_
            rw [P1.out]
            rintro e w5 ⟨⟨P, hP, rfl⟩, hb⟩
            dsimp only at hP ⊢
            have HB5 := Lib.hid (HB4.out.trans (hb.mono HB4.out.size))
            have q1 : (P.toList == PT.toList) = true := eq_bool (by rw [hP, HPTD.out])
            clear hP hb
            go_wp2_with fail
            refine (right_any PT _ (by omega)).mono ?_
            rw [R1.out]
            rintro e w6 ⟨rfl, hb⟩
            have HB6 := Lib.hid (HB5.out.trans (hb.mono HB5.out.size))
            clear hb
            go_wp2_with fail
            refine (t_OfAtom 7 _ (by decide)).mono ?_
            rintro e w7 ⟨⟨U, hU, rfl⟩, hb⟩
            have HB7 := Lib.hid (HB6.out.trans (hb.mono HB6.out.size))
            have HU := Lib.hid hU
            clear hU hb
            go_wp2
            go_loopw [20, 21] (fun u i wr => ∃ (j : Nat) (X : ByteArray), 1 ≤ j ∧ j ≤ 45 ∧ i = .int .i64 j ∧ u = .string X ∧ Hid (X.data.toList = hsh (ofAtom 7) (min j 40 - 1)) ∧ Hid (Below w.heap.size w wr)) (fun _ i _ => 45 - (intOf i).toNat)
            case atStart => exact ⟨1, U, Nat.le_refl _, by omega, rfl, rfl, HU, HB7⟩
            case round =>
              obtain ⟨j, X, hj1, hj2, rfl, rfl, HX, HW⟩ := hrel
              have hXz : X.size ≤ 100 := by
                have h1 := hsh_len (ofAtom 7) (min j 40 - 1)
                have h2 := (put_le (n := 7) (by decide)).2
                rw [Lib.size_eq, HX.out, h1]; simp only [ofAtom, List.length_cons]; omega
              go_wp2_with fail
              refine (pick_any deep 45 _ HDE.out (by omega) (by omega)).mono ?_
              rintro e w' ⟨⟨m, hm, rfl⟩, rfl⟩
              dsimp only
              by_cases hjm : (j : Int) ≤ (m : Int)
              · by_cases hj40 : (j : Int) < 40
                · have H1 : Hid (one 104 X.data.toList = (hsh (ofAtom 7) (min (j + 1) 40 - 1), 0)) := by
                    show _ = _
                    rw [HX.out, one_hsh (by omega), if_pos (by omega), show min j 40 - 1 + 1 = min (j + 1) 40 - 1 by omega]
                  obtain ⟨HX4, hHX4⟩ : ∃ Z, (ByteArray.mk #[104]) ++ X = Z := ⟨_, rfl⟩
                  have hZd : HX4.data.toList = hsh (ofAtom 7) (min (j + 1) 40 - 1) := by
                    rw [← hHX4, app_data, HX.out, show min (j + 1) 40 - 1 = (min j 40 - 1) + 1 by omega]; rfl
                  have HZD := Lib.hid hZd
                  clear hZd
                  go_wp2_with fail
                  refine (t_OfHash X _ (by omega)).mono ?_
                  rw [H1.out]
                  rintro e w8 ⟨⟨V, hV, rfl⟩, hb⟩
                  dsimp only at hV ⊢
                  have HB8 := Lib.hid (HW.out.trans (hb.mono HW.out.size))
                  have q2 : (V.toList == HX4.toList) = true := eq_bool (by rw [hV, HZD.out])
                  have HV := Lib.hid hV
                  clear hV hb
                  go_wp2
                  go_roundw
                  case rel => exact ⟨j + 1, V, by omega, by omega, by go_num, rfl, HV, HB8⟩
                  case measure => simp [intOf]; omega
                · have H1 : Hid (one 104 X.data.toList = ([], 10)) := by
                    show _ = _
                    rw [HX.out, one_hsh (by omega), if_neg (by omega)]
                  go_wp2_with fail
                  refine (t_OfHash X _ (by omega)).mono ?_
                  rw [H1.out]
                  rintro e w8 ⟨⟨V, hV, rfl⟩, hb⟩
                  dsimp only at hV ⊢
                  have HB8 := Lib.hid (HW.out.trans (hb.mono HW.out.size))
                  have q2 := empty_str hV
                  clear hV hb
                  go_wp2
                  go_roundw
                  case rel => exact ⟨j + 1, X, by omega, by omega, by go_num, rfl, by show _ = _; rw [HX.out, show min (j + 1) 40 - 1 = min j 40 - 1 by omega], HB8⟩
                  case measure => simp [intOf]; omega
              · obtain ⟨GA, hGA⟩ : ∃ GA, (ByteArray.mk #[103]) ++ A = GA := ⟨_, rfl⟩
                have hGAd : GA.data.toList = 103 :: A.data.toList := by rw [← hGA, app_data]; rfl
                have hGAz : GA.size ≤ 4001 := by
                  have h1 := Lib.size_eq A
                  rw [Lib.size_eq, hGAd, List.length_cons]; omega
                obtain ⟨GB, hGB⟩ : ∃ GB, GA ++ B = GB := ⟨_, rfl⟩
                have hGBd : GB.data.toList = 103 :: (A.data.toList ++ B.data.toList) := by rw [← hGB, app_data, hGAd]; rfl
                have hGBz : GB.size ≤ 9000 := by
                  have h1 := Lib.size_eq GA
                  have h2 := Lib.size_eq B
                  rw [Lib.size_eq, ← hGB, app_data, List.length_append, ← h1, ← h2]; omega
                have HGBD := Lib.hid hGBd
                clear hGAd hGBd
                cases hs : right (103 :: (A.data.toList ++ B.data.toList)) with
                | true =>
                  have S1 := Lib.hid (two_yes HA.out HB.out hs)
                  have S2 : Hid (right GB.data.toList = true) := by show _ = _; rw [HGBD.out]; exact hs
                  clear hs
                  go_wp2_with fail
                  refine (t_Sign A B _ (by omega) (by omega)).mono ?_
                  rw [S1.out]
                  rintro e w9 ⟨⟨Q, hQ, rfl⟩, hb⟩
                  dsimp only at hQ ⊢
                  have HB9 := Lib.hid (HW.out.trans (hb.mono HW.out.size))
                  have q3 : (Q.toList == GB.toList) = true := eq_bool (by rw [hQ, HGBD.out])
                  clear hQ hb
                  go_wp2_with fail
                  refine (right_any GB _ (by omega)).mono ?_
                  rw [S2.out]
                  rintro e w10 ⟨rfl, hb⟩
                  have HB10 := Lib.hid (HB9.out.trans (hb.mono HB9.out.size))
                  clear hb
                  go_wp2
                  go_ret
                  exact ⟨rfl, HB10.out⟩
                | false =>
                  have S1 := Lib.hid (two_no HA.out HB.out hs)
                  have S2 : Hid (right GB.data.toList = false) := by show _ = _; rw [HGBD.out]; exact hs
                  clear hs
                  go_wp2_with fail
                  refine (t_Sign A B _ (by omega) (by omega)).mono ?_
                  rw [S1.out]
                  rintro e w9 ⟨⟨Q, hQ, rfl⟩, hb⟩
                  dsimp only at hQ ⊢
                  have HB9 := Lib.hid (HW.out.trans (hb.mono HW.out.size))
                  have q3 := empty_str hQ
                  clear hQ hb
                  go_wp2_with fail
                  refine (right_any GB _ (by omega)).mono ?_
                  rw [S2.out]
                  rintro e w10 ⟨rfl, hb⟩
                  have HB10 := Lib.hid (HB9.out.trans (hb.mono HB9.out.size))
                  clear hb
                  go_wp2
                  go_ret
                  exact ⟨rfl, HB10.out⟩
          | false =>
            have P1 := Lib.hid (two_no HA.out HT.out hr)
            have R1 : Hid (right PT.data.toList = false) := by show _ = _; rw [HPTD.out]; exact hr
            clear hr
            go_wp2_with fail
            refine (t_OfPair A T _ (by omega) (by omega)).mono ?_
            rw [P1.out]
            rintro e w5 ⟨⟨P, hP, rfl⟩, hb⟩
            dsimp only at hP ⊢
            have HB5 := Lib.hid (HB4.out.trans (hb.mono HB4.out.size))
            have q1 := empty_str hP
            clear hP hb
            go_wp2_with fail
            refine (right_any PT _ (by omega)).mono ?_
            rw [R1.out]
            rintro e w6 ⟨rfl, hb⟩
            have HB6 := Lib.hid (HB5.out.trans (hb.mono HB5.out.size))
            clear hb
            go_wp2_with fail
            refine (t_OfAtom 7 _ (by decide)).mono ?_
            rintro e w7 ⟨⟨U, hU, rfl⟩, hb⟩
            have HB7 := Lib.hid (HB6.out.trans (hb.mono HB6.out.size))
            have HU := Lib.hid hU
            clear hU hb
            go_wp2
            go_loopw [20, 21] (fun u i wr => ∃ (j : Nat) (X : ByteArray), 1 ≤ j ∧ j ≤ 45 ∧ i = .int .i64 j ∧ u = .string X ∧ Hid (X.data.toList = hsh (ofAtom 7) (min j 40 - 1)) ∧ Hid (Below w.heap.size w wr)) (fun _ i _ => 45 - (intOf i).toNat)
            case atStart => exact ⟨1, U, Nat.le_refl _, by omega, rfl, rfl, HU, HB7⟩
            case round =>
              obtain ⟨j, X, hj1, hj2, rfl, rfl, HX, HW⟩ := hrel
              have hXz : X.size ≤ 100 := by
                have h1 := hsh_len (ofAtom 7) (min j 40 - 1)
                have h2 := (put_le (n := 7) (by decide)).2
                rw [Lib.size_eq, HX.out, h1]; simp only [ofAtom, List.length_cons]; omega
              go_wp2_with fail
              refine (pick_any deep 45 _ HDE.out (by omega) (by omega)).mono ?_
              rintro e w' ⟨⟨m, hm, rfl⟩, rfl⟩
              dsimp only
              by_cases hjm : (j : Int) ≤ (m : Int)
              · by_cases hj40 : (j : Int) < 40
                · have H1 : Hid (one 104 X.data.toList = (hsh (ofAtom 7) (min (j + 1) 40 - 1), 0)) := by
                    show _ = _
                    rw [HX.out, one_hsh (by omega), if_pos (by omega), show min j 40 - 1 + 1 = min (j + 1) 40 - 1 by omega]
                  obtain ⟨HX4, hHX4⟩ : ∃ Z, (ByteArray.mk #[104]) ++ X = Z := ⟨_, rfl⟩
                  have hZd : HX4.data.toList = hsh (ofAtom 7) (min (j + 1) 40 - 1) := by
                    rw [← hHX4, app_data, HX.out, show min (j + 1) 40 - 1 = (min j 40 - 1) + 1 by omega]; rfl
                  have HZD := Lib.hid hZd
                  clear hZd
                  go_wp2_with fail
                  refine (t_OfHash X _ (by omega)).mono ?_
                  rw [H1.out]
                  rintro e w8 ⟨⟨V, hV, rfl⟩, hb⟩
                  dsimp only at hV ⊢
                  have HB8 := Lib.hid (HW.out.trans (hb.mono HW.out.size))
                  have q2 : (V.toList == HX4.toList) = true := eq_bool (by rw [hV, HZD.out])
                  have HV := Lib.hid hV
                  clear hV hb
                  go_wp2
                  go_roundw
                  case rel => exact ⟨j + 1, V, by omega, by omega, by go_num, rfl, HV, HB8⟩
                  case measure => simp [intOf]; omega
                · have H1 : Hid (one 104 X.data.toList = ([], 10)) := by
                    show _ = _
                    rw [HX.out, one_hsh (by omega), if_neg (by omega)]
                  go_wp2_with fail
                  refine (t_OfHash X _ (by omega)).mono ?_
                  rw [H1.out]
                  rintro e w8 ⟨⟨V, hV, rfl⟩, hb⟩
                  dsimp only at hV ⊢
                  have HB8 := Lib.hid (HW.out.trans (hb.mono HW.out.size))
                  have q2 := empty_str hV
                  clear hV hb
                  go_wp2
                  go_roundw
                  case rel => exact ⟨j + 1, X, by omega, by omega, by go_num, rfl, by show _ = _; rw [HX.out, show min (j + 1) 40 - 1 = min j 40 - 1 by omega], HB8⟩
                  case measure => simp [intOf]; omega
              · obtain ⟨GA, hGA⟩ : ∃ GA, (ByteArray.mk #[103]) ++ A = GA := ⟨_, rfl⟩
                have hGAd : GA.data.toList = 103 :: A.data.toList := by rw [← hGA, app_data]; rfl
                have hGAz : GA.size ≤ 4001 := by
                  have h1 := Lib.size_eq A
                  rw [Lib.size_eq, hGAd, List.length_cons]; omega
                obtain ⟨GB, hGB⟩ : ∃ GB, GA ++ B = GB := ⟨_, rfl⟩
                have hGBd : GB.data.toList = 103 :: (A.data.toList ++ B.data.toList) := by rw [← hGB, app_data, hGAd]; rfl
                have hGBz : GB.size ≤ 9000 := by
                  have h1 := Lib.size_eq GA
                  have h2 := Lib.size_eq B
                  rw [Lib.size_eq, ← hGB, app_data, List.length_append, ← h1, ← h2]; omega
                have HGBD := Lib.hid hGBd
                clear hGAd hGBd
                cases hs : right (103 :: (A.data.toList ++ B.data.toList)) with
                | true =>
                  have S1 := Lib.hid (two_yes HA.out HB.out hs)
                  have S2 : Hid (right GB.data.toList = true) := by show _ = _; rw [HGBD.out]; exact hs
                  clear hs
                  go_wp2_with fail
                  refine (t_Sign A B _ (by omega) (by omega)).mono ?_
                  rw [S1.out]
                  rintro e w9 ⟨⟨Q, hQ, rfl⟩, hb⟩
                  dsimp only at hQ ⊢
                  have HB9 := Lib.hid (HW.out.trans (hb.mono HW.out.size))
                  have q3 : (Q.toList == GB.toList) = true := eq_bool (by rw [hQ, HGBD.out])
                  clear hQ hb
                  go_wp2_with fail
                  refine (right_any GB _ (by omega)).mono ?_
                  rw [S2.out]
                  rintro e w10 ⟨rfl, hb⟩
                  have HB10 := Lib.hid (HB9.out.trans (hb.mono HB9.out.size))
                  clear hb
                  go_wp2
                  go_ret
                  exact ⟨rfl, HB10.out⟩
                | false =>
                  have S1 := Lib.hid (two_no HA.out HB.out hs)
                  have S2 : Hid (right GB.data.toList = false) := by show _ = _; rw [HGBD.out]; exact hs
                  clear hs
                  go_wp2_with fail
                  refine (t_Sign A B _ (by omega) (by omega)).mono ?_
                  rw [S1.out]
                  rintro e w9 ⟨⟨Q, hQ, rfl⟩, hb⟩
                  dsimp only at hQ ⊢
                  have HB9 := Lib.hid (HW.out.trans (hb.mono HW.out.size))
                  have q3 := empty_str hQ
                  clear hQ hb
                  go_wp2_with fail
                  refine (right_any GB _ (by omega)).mono ?_
                  rw [S2.out]
                  rintro e w10 ⟨rfl, hb⟩
                  have HB10 := Lib.hid (HB9.out.trans (hb.mono HB9.out.size))
                  clear hb
                  go_wp2
                  go_ret
                  exact ⟨rfl, HB10.out⟩
      · by_cases h0 : (0 : Int) < (k : Int)
        · rw [if_neg (by omega), if_pos (by omega)] at hm
          subst hm
          have HOT := Lib.hid (ofText_fits (s := S.data.toList) (by omega) (by omega))
          have HML := Lib.hid hml
          have HTR : Hid (right (116 :: putText S.data.toList) = true) := ofText_right HOT.out rfl
          clear hml hSl
          go_wp2_with fail
          refine (t_OfText S _ (by omega)).mono ?_
          rw [HOT.out]
          rintro e w2 ⟨⟨T, hT, rfl⟩, hb⟩
          dsimp only at hT ⊢
          have HB2 := Lib.hid (HB1.out.trans (hb.mono HB1.out.size))
          have hTz := Lib.size_eq T
          rw [hT, HML.out] at hTz
          have hTi : (T.size : Int) = (k : Int) + 1 + 2 := by omega
          have htr : right T.data.toList = true := by rw [hT]; exact HTR.out
          have HT := Lib.hid htr
          have hTle := (right_sz htr).2
          clear hT hb hTz htr
          go_wp2_with fail
          refine (grown_any a ca za _ (RA.out.below HB2.out (Nat.le_refl _))).mono ?_
          rintro e w3 ⟨⟨A, hx, rfl⟩, hb⟩
          have HB3 := Lib.hid (HB2.out.trans (hb.mono HB2.out.size))
          have hAz := (right_sz hx).2
          have HA := Lib.hid hx
          clear hx hb
          go_wp2_with fail
          refine (grown_any b cb bs _ (RB.out.below HB3.out (Nat.le_refl _))).mono ?_
          rintro e w4 ⟨⟨B, hx, rfl⟩, hb⟩
          have HB4 := Lib.hid (HB3.out.trans (hb.mono HB3.out.size))
          have hBz := (right_sz hx).2
          have HB := Lib.hid hx
          clear hx hb
          obtain ⟨PA, hPA⟩ : ∃ PA, (ByteArray.mk #[112]) ++ A = PA := ⟨_, rfl⟩
          have hPAd : PA.data.toList = 112 :: A.data.toList := by rw [← hPA, app_data]; rfl
          have hPAz : PA.size ≤ 4001 := by
            have h1 := Lib.size_eq A
            rw [Lib.size_eq, hPAd, List.length_cons]; omega
          obtain ⟨PT, hPT⟩ : ∃ PT, PA ++ T = PT := ⟨_, rfl⟩
          have hPTd : PT.data.toList = 112 :: (A.data.toList ++ T.data.toList) := by rw [← hPT, app_data, hPAd]; rfl
          have hPTz : PT.size ≤ 9000 := by
            have h1 := Lib.size_eq PA
            have h2 := Lib.size_eq T
            rw [Lib.size_eq, ← hPT, app_data, List.length_append, ← h1, ← h2]; omega
          have HPTD := Lib.hid hPTd
          clear hPAd hPTd
          cases hr : right (112 :: (A.data.toList ++ T.data.toList)) with
          | true =>
            have P1 := Lib.hid (two_yes HA.out HT.out hr)
            have R1 : Hid (right PT.data.toList = true) := by show _ = _; rw [HPTD.out]; exact hr
            clear hr
            go_wp2_with fail
            refine (t_OfPair A T _ (by omega) (by omega)).mono ?_
            rw [P1.out]
            rintro e w5 ⟨⟨P, hP, rfl⟩, hb⟩
            dsimp only at hP ⊢
            have HB5 := Lib.hid (HB4.out.trans (hb.mono HB4.out.size))
            have q1 : (P.toList == PT.toList) = true := eq_bool (by rw [hP, HPTD.out])
            clear hP hb
            go_wp2_with fail
            refine (right_any PT _ (by omega)).mono ?_
            rw [R1.out]
            rintro e w6 ⟨rfl, hb⟩
            have HB6 := Lib.hid (HB5.out.trans (hb.mono HB5.out.size))
            clear hb
            go_wp2_with fail
            refine (t_OfAtom 7 _ (by decide)).mono ?_
            rintro e w7 ⟨⟨U, hU, rfl⟩, hb⟩
            have HB7 := Lib.hid (HB6.out.trans (hb.mono HB6.out.size))
            have HU := Lib.hid hU
            clear hU hb
            go_wp2
            go_loopw [20, 21] (fun u i wr => ∃ (j : Nat) (X : ByteArray), 1 ≤ j ∧ j ≤ 45 ∧ i = .int .i64 j ∧ u = .string X ∧ Hid (X.data.toList = hsh (ofAtom 7) (min j 40 - 1)) ∧ Hid (Below w.heap.size w wr)) (fun _ i _ => 45 - (intOf i).toNat)
            case atStart => exact ⟨1, U, Nat.le_refl _, by omega, rfl, rfl, HU, HB7⟩
            case round =>
              obtain ⟨j, X, hj1, hj2, rfl, rfl, HX, HW⟩ := hrel
              have hXz : X.size ≤ 100 := by
                have h1 := hsh_len (ofAtom 7) (min j 40 - 1)
                have h2 := (put_le (n := 7) (by decide)).2
                rw [Lib.size_eq, HX.out, h1]; simp only [ofAtom, List.length_cons]; omega
              go_wp2_with fail
              refine (pick_any deep 45 _ HDE.out (by omega) (by omega)).mono ?_
              rintro e w' ⟨⟨m, hm, rfl⟩, rfl⟩
              dsimp only
              by_cases hjm : (j : Int) ≤ (m : Int)
              · by_cases hj40 : (j : Int) < 40
                · have H1 : Hid (one 104 X.data.toList = (hsh (ofAtom 7) (min (j + 1) 40 - 1), 0)) := by
                    show _ = _
                    rw [HX.out, one_hsh (by omega), if_pos (by omega), show min j 40 - 1 + 1 = min (j + 1) 40 - 1 by omega]
                  obtain ⟨HX4, hHX4⟩ : ∃ Z, (ByteArray.mk #[104]) ++ X = Z := ⟨_, rfl⟩
                  have hZd : HX4.data.toList = hsh (ofAtom 7) (min (j + 1) 40 - 1) := by
                    rw [← hHX4, app_data, HX.out, show min (j + 1) 40 - 1 = (min j 40 - 1) + 1 by omega]; rfl
                  have HZD := Lib.hid hZd
                  clear hZd
                  go_wp2_with fail
                  refine (t_OfHash X _ (by omega)).mono ?_
                  rw [H1.out]
                  rintro e w8 ⟨⟨V, hV, rfl⟩, hb⟩
                  dsimp only at hV ⊢
                  have HB8 := Lib.hid (HW.out.trans (hb.mono HW.out.size))
                  have q2 : (V.toList == HX4.toList) = true := eq_bool (by rw [hV, HZD.out])
                  have HV := Lib.hid hV
                  clear hV hb
                  go_wp2
                  go_roundw
                  case rel => exact ⟨j + 1, V, by omega, by omega, by go_num, rfl, HV, HB8⟩
                  case measure => simp [intOf]; omega
                · have H1 : Hid (one 104 X.data.toList = ([], 10)) := by
                    show _ = _
                    rw [HX.out, one_hsh (by omega), if_neg (by omega)]
                  go_wp2_with fail
                  refine (t_OfHash X _ (by omega)).mono ?_
                  rw [H1.out]
                  rintro e w8 ⟨⟨V, hV, rfl⟩, hb⟩
                  dsimp only at hV ⊢
                  have HB8 := Lib.hid (HW.out.trans (hb.mono HW.out.size))
                  have q2 := empty_str hV
                  clear hV hb
                  go_wp2
                  go_roundw
                  case rel => exact ⟨j + 1, X, by omega, by omega, by go_num, rfl, by show _ = _; rw [HX.out, show min (j + 1) 40 - 1 = min j 40 - 1 by omega], HB8⟩
                  case measure => simp [intOf]; omega
              · obtain ⟨GA, hGA⟩ : ∃ GA, (ByteArray.mk #[103]) ++ A = GA := ⟨_, rfl⟩
                have hGAd : GA.data.toList = 103 :: A.data.toList := by rw [← hGA, app_data]; rfl
                have hGAz : GA.size ≤ 4001 := by
                  have h1 := Lib.size_eq A
                  rw [Lib.size_eq, hGAd, List.length_cons]; omega
                obtain ⟨GB, hGB⟩ : ∃ GB, GA ++ B = GB := ⟨_, rfl⟩
                have hGBd : GB.data.toList = 103 :: (A.data.toList ++ B.data.toList) := by rw [← hGB, app_data, hGAd]; rfl
                have hGBz : GB.size ≤ 9000 := by
                  have h1 := Lib.size_eq GA
                  have h2 := Lib.size_eq B
                  rw [Lib.size_eq, ← hGB, app_data, List.length_append, ← h1, ← h2]; omega
                have HGBD := Lib.hid hGBd
                clear hGAd hGBd
                cases hs : right (103 :: (A.data.toList ++ B.data.toList)) with
                | true =>
                  have S1 := Lib.hid (two_yes HA.out HB.out hs)
                  have S2 : Hid (right GB.data.toList = true) := by show _ = _; rw [HGBD.out]; exact hs
                  clear hs
                  go_wp2_with fail
                  refine (t_Sign A B _ (by omega) (by omega)).mono ?_
                  rw [S1.out]
                  rintro e w9 ⟨⟨Q, hQ, rfl⟩, hb⟩
                  dsimp only at hQ ⊢
                  have HB9 := Lib.hid (HW.out.trans (hb.mono HW.out.size))
                  have q3 : (Q.toList == GB.toList) = true := eq_bool (by rw [hQ, HGBD.out])
                  clear hQ hb
                  go_wp2_with fail
                  refine (right_any GB _ (by omega)).mono ?_
                  rw [S2.out]
                  rintro e w10 ⟨rfl, hb⟩
                  have HB10 := Lib.hid (HB9.out.trans (hb.mono HB9.out.size))
                  clear hb
                  go_wp2
                  go_ret
                  exact ⟨rfl, HB10.out⟩
                | false =>
                  have S1 := Lib.hid (two_no HA.out HB.out hs)
                  have S2 : Hid (right GB.data.toList = false) := by show _ = _; rw [HGBD.out]; exact hs
                  clear hs
                  go_wp2_with fail
                  refine (t_Sign A B _ (by omega) (by omega)).mono ?_
                  rw [S1.out]
                  rintro e w9 ⟨⟨Q, hQ, rfl⟩, hb⟩
                  dsimp only at hQ ⊢
                  have HB9 := Lib.hid (HW.out.trans (hb.mono HW.out.size))
                  have q3 := empty_str hQ
                  clear hQ hb
                  go_wp2_with fail
                  refine (right_any GB _ (by omega)).mono ?_
                  rw [S2.out]
                  rintro e w10 ⟨rfl, hb⟩
                  have HB10 := Lib.hid (HB9.out.trans (hb.mono HB9.out.size))
                  clear hb
                  go_wp2
                  go_ret
                  exact ⟨rfl, HB10.out⟩
          | false =>
            have P1 := Lib.hid (two_no HA.out HT.out hr)
            have R1 : Hid (right PT.data.toList = false) := by show _ = _; rw [HPTD.out]; exact hr
            clear hr
            go_wp2_with fail
            refine (t_OfPair A T _ (by omega) (by omega)).mono ?_
            rw [P1.out]
            rintro e w5 ⟨⟨P, hP, rfl⟩, hb⟩
            dsimp only at hP ⊢
            have HB5 := Lib.hid (HB4.out.trans (hb.mono HB4.out.size))
            have q1 := empty_str hP
            clear hP hb
            go_wp2_with fail
            refine (right_any PT _ (by omega)).mono ?_
            rw [R1.out]
            rintro e w6 ⟨rfl, hb⟩
            have HB6 := Lib.hid (HB5.out.trans (hb.mono HB5.out.size))
            clear hb
            go_wp2_with fail
            refine (t_OfAtom 7 _ (by decide)).mono ?_
            rintro e w7 ⟨⟨U, hU, rfl⟩, hb⟩
            have HB7 := Lib.hid (HB6.out.trans (hb.mono HB6.out.size))
            have HU := Lib.hid hU
            clear hU hb
            go_wp2
            go_loopw [20, 21] (fun u i wr => ∃ (j : Nat) (X : ByteArray), 1 ≤ j ∧ j ≤ 45 ∧ i = .int .i64 j ∧ u = .string X ∧ Hid (X.data.toList = hsh (ofAtom 7) (min j 40 - 1)) ∧ Hid (Below w.heap.size w wr)) (fun _ i _ => 45 - (intOf i).toNat)
            case atStart => exact ⟨1, U, Nat.le_refl _, by omega, rfl, rfl, HU, HB7⟩
            case round =>
              obtain ⟨j, X, hj1, hj2, rfl, rfl, HX, HW⟩ := hrel
              have hXz : X.size ≤ 100 := by
                have h1 := hsh_len (ofAtom 7) (min j 40 - 1)
                have h2 := (put_le (n := 7) (by decide)).2
                rw [Lib.size_eq, HX.out, h1]; simp only [ofAtom, List.length_cons]; omega
              go_wp2_with fail
              refine (pick_any deep 45 _ HDE.out (by omega) (by omega)).mono ?_
              rintro e w' ⟨⟨m, hm, rfl⟩, rfl⟩
              dsimp only
              by_cases hjm : (j : Int) ≤ (m : Int)
              · by_cases hj40 : (j : Int) < 40
                · have H1 : Hid (one 104 X.data.toList = (hsh (ofAtom 7) (min (j + 1) 40 - 1), 0)) := by
                    show _ = _
                    rw [HX.out, one_hsh (by omega), if_pos (by omega), show min j 40 - 1 + 1 = min (j + 1) 40 - 1 by omega]
                  obtain ⟨HX4, hHX4⟩ : ∃ Z, (ByteArray.mk #[104]) ++ X = Z := ⟨_, rfl⟩
                  have hZd : HX4.data.toList = hsh (ofAtom 7) (min (j + 1) 40 - 1) := by
                    rw [← hHX4, app_data, HX.out, show min (j + 1) 40 - 1 = (min j 40 - 1) + 1 by omega]; rfl
                  have HZD := Lib.hid hZd
                  clear hZd
                  go_wp2_with fail
                  refine (t_OfHash X _ (by omega)).mono ?_
                  rw [H1.out]
                  rintro e w8 ⟨⟨V, hV, rfl⟩, hb⟩
                  dsimp only at hV ⊢
                  have HB8 := Lib.hid (HW.out.trans (hb.mono HW.out.size))
                  have q2 : (V.toList == HX4.toList) = true := eq_bool (by rw [hV, HZD.out])
                  have HV := Lib.hid hV
                  clear hV hb
                  go_wp2
                  go_roundw
                  case rel => exact ⟨j + 1, V, by omega, by omega, by go_num, rfl, HV, HB8⟩
                  case measure => simp [intOf]; omega
                · have H1 : Hid (one 104 X.data.toList = ([], 10)) := by
                    show _ = _
                    rw [HX.out, one_hsh (by omega), if_neg (by omega)]
                  go_wp2_with fail
                  refine (t_OfHash X _ (by omega)).mono ?_
                  rw [H1.out]
                  rintro e w8 ⟨⟨V, hV, rfl⟩, hb⟩
                  dsimp only at hV ⊢
                  have HB8 := Lib.hid (HW.out.trans (hb.mono HW.out.size))
                  have q2 := empty_str hV
                  clear hV hb
                  go_wp2
                  go_roundw
                  case rel => exact ⟨j + 1, X, by omega, by omega, by go_num, rfl, by show _ = _; rw [HX.out, show min (j + 1) 40 - 1 = min j 40 - 1 by omega], HB8⟩
                  case measure => simp [intOf]; omega
              · obtain ⟨GA, hGA⟩ : ∃ GA, (ByteArray.mk #[103]) ++ A = GA := ⟨_, rfl⟩
                have hGAd : GA.data.toList = 103 :: A.data.toList := by rw [← hGA, app_data]; rfl
                have hGAz : GA.size ≤ 4001 := by
                  have h1 := Lib.size_eq A
                  rw [Lib.size_eq, hGAd, List.length_cons]; omega
                obtain ⟨GB, hGB⟩ : ∃ GB, GA ++ B = GB := ⟨_, rfl⟩
                have hGBd : GB.data.toList = 103 :: (A.data.toList ++ B.data.toList) := by rw [← hGB, app_data, hGAd]; rfl
                have hGBz : GB.size ≤ 9000 := by
                  have h1 := Lib.size_eq GA
                  have h2 := Lib.size_eq B
                  rw [Lib.size_eq, ← hGB, app_data, List.length_append, ← h1, ← h2]; omega
                have HGBD := Lib.hid hGBd
                clear hGAd hGBd
                cases hs : right (103 :: (A.data.toList ++ B.data.toList)) with
                | true =>
                  have S1 := Lib.hid (two_yes HA.out HB.out hs)
                  have S2 : Hid (right GB.data.toList = true) := by show _ = _; rw [HGBD.out]; exact hs
                  clear hs
                  go_wp2_with fail
                  refine (t_Sign A B _ (by omega) (by omega)).mono ?_
                  rw [S1.out]
                  rintro e w9 ⟨⟨Q, hQ, rfl⟩, hb⟩
                  dsimp only at hQ ⊢
                  have HB9 := Lib.hid (HW.out.trans (hb.mono HW.out.size))
                  have q3 : (Q.toList == GB.toList) = true := eq_bool (by rw [hQ, HGBD.out])
                  clear hQ hb
                  go_wp2_with fail
                  refine (right_any GB _ (by omega)).mono ?_
                  rw [S2.out]
                  rintro e w10 ⟨rfl, hb⟩
                  have HB10 := Lib.hid (HB9.out.trans (hb.mono HB9.out.size))
                  clear hb
                  go_wp2
                  go_ret
                  exact ⟨rfl, HB10.out⟩
                | false =>
                  have S1 := Lib.hid (two_no HA.out HB.out hs)
                  have S2 : Hid (right GB.data.toList = false) := by show _ = _; rw [HGBD.out]; exact hs
                  clear hs
                  go_wp2_with fail
                  refine (t_Sign A B _ (by omega) (by omega)).mono ?_
                  rw [S1.out]
                  rintro e w9 ⟨⟨Q, hQ, rfl⟩, hb⟩
                  dsimp only at hQ ⊢
                  have HB9 := Lib.hid (HW.out.trans (hb.mono HW.out.size))
                  have q3 := empty_str hQ
                  clear hQ hb
                  go_wp2_with fail
                  refine (right_any GB _ (by omega)).mono ?_
                  rw [S2.out]
                  rintro e w10 ⟨rfl, hb⟩
                  have HB10 := Lib.hid (HB9.out.trans (hb.mono HB9.out.size))
                  clear hb
                  go_wp2
                  go_ret
                  exact ⟨rfl, HB10.out⟩
        · rw [if_neg (by omega), if_neg (by omega)] at hm
          subst hm
          have HOT := Lib.hid (ofText_fits (s := S.data.toList) (by omega) (by omega))
          have HML := Lib.hid hml
          have HTR : Hid (right (116 :: putText S.data.toList) = true) := ofText_right HOT.out rfl
          clear hml hSl
          go_wp2_with fail
          refine (t_OfText S _ (by omega)).mono ?_
          rw [HOT.out]
          rintro e w2 ⟨⟨T, hT, rfl⟩, hb⟩
          dsimp only at hT ⊢
          have HB2 := Lib.hid (HB1.out.trans (hb.mono HB1.out.size))
          have hTz := Lib.size_eq T
          rw [hT, HML.out] at hTz
          have hTi : (T.size : Int) = (k : Int) + 0 + 2 := by omega
          have htr : right T.data.toList = true := by rw [hT]; exact HTR.out
          have HT := Lib.hid htr
          have hTle := (right_sz htr).2
          clear hT hb hTz htr
          go_wp2_with fail
          refine (grown_any a ca za _ (RA.out.below HB2.out (Nat.le_refl _))).mono ?_
          rintro e w3 ⟨⟨A, hx, rfl⟩, hb⟩
          have HB3 := Lib.hid (HB2.out.trans (hb.mono HB2.out.size))
          have hAz := (right_sz hx).2
          have HA := Lib.hid hx
          clear hx hb
          go_wp2_with fail
          refine (grown_any b cb bs _ (RB.out.below HB3.out (Nat.le_refl _))).mono ?_
          rintro e w4 ⟨⟨B, hx, rfl⟩, hb⟩
          have HB4 := Lib.hid (HB3.out.trans (hb.mono HB3.out.size))
          have hBz := (right_sz hx).2
          have HB := Lib.hid hx
          clear hx hb
          obtain ⟨PA, hPA⟩ : ∃ PA, (ByteArray.mk #[112]) ++ A = PA := ⟨_, rfl⟩
          have hPAd : PA.data.toList = 112 :: A.data.toList := by rw [← hPA, app_data]; rfl
          have hPAz : PA.size ≤ 4001 := by
            have h1 := Lib.size_eq A
            rw [Lib.size_eq, hPAd, List.length_cons]; omega
          obtain ⟨PT, hPT⟩ : ∃ PT, PA ++ T = PT := ⟨_, rfl⟩
          have hPTd : PT.data.toList = 112 :: (A.data.toList ++ T.data.toList) := by rw [← hPT, app_data, hPAd]; rfl
          have hPTz : PT.size ≤ 9000 := by
            have h1 := Lib.size_eq PA
            have h2 := Lib.size_eq T
            rw [Lib.size_eq, ← hPT, app_data, List.length_append, ← h1, ← h2]; omega
          have HPTD := Lib.hid hPTd
          clear hPAd hPTd
          cases hr : right (112 :: (A.data.toList ++ T.data.toList)) with
          | true =>
            have P1 := Lib.hid (two_yes HA.out HT.out hr)
            have R1 : Hid (right PT.data.toList = true) := by show _ = _; rw [HPTD.out]; exact hr
            clear hr
            go_wp2_with fail
            refine (t_OfPair A T _ (by omega) (by omega)).mono ?_
            rw [P1.out]
            rintro e w5 ⟨⟨P, hP, rfl⟩, hb⟩
            dsimp only at hP ⊢
            have HB5 := Lib.hid (HB4.out.trans (hb.mono HB4.out.size))
            have q1 : (P.toList == PT.toList) = true := eq_bool (by rw [hP, HPTD.out])
            clear hP hb
            go_wp2_with fail
            refine (right_any PT _ (by omega)).mono ?_
            rw [R1.out]
            rintro e w6 ⟨rfl, hb⟩
            have HB6 := Lib.hid (HB5.out.trans (hb.mono HB5.out.size))
            clear hb
            go_wp2_with fail
            refine (t_OfAtom 7 _ (by decide)).mono ?_
            rintro e w7 ⟨⟨U, hU, rfl⟩, hb⟩
            have HB7 := Lib.hid (HB6.out.trans (hb.mono HB6.out.size))
            have HU := Lib.hid hU
            clear hU hb
            go_wp2
            go_loopw [20, 21] (fun u i wr => ∃ (j : Nat) (X : ByteArray), 1 ≤ j ∧ j ≤ 45 ∧ i = .int .i64 j ∧ u = .string X ∧ Hid (X.data.toList = hsh (ofAtom 7) (min j 40 - 1)) ∧ Hid (Below w.heap.size w wr)) (fun _ i _ => 45 - (intOf i).toNat)
            case atStart => exact ⟨1, U, Nat.le_refl _, by omega, rfl, rfl, HU, HB7⟩
            case round =>
              obtain ⟨j, X, hj1, hj2, rfl, rfl, HX, HW⟩ := hrel
              have hXz : X.size ≤ 100 := by
                have h1 := hsh_len (ofAtom 7) (min j 40 - 1)
                have h2 := (put_le (n := 7) (by decide)).2
                rw [Lib.size_eq, HX.out, h1]; simp only [ofAtom, List.length_cons]; omega
              go_wp2_with fail
              refine (pick_any deep 45 _ HDE.out (by omega) (by omega)).mono ?_
              rintro e w' ⟨⟨m, hm, rfl⟩, rfl⟩
              dsimp only
              by_cases hjm : (j : Int) ≤ (m : Int)
              · by_cases hj40 : (j : Int) < 40
                · have H1 : Hid (one 104 X.data.toList = (hsh (ofAtom 7) (min (j + 1) 40 - 1), 0)) := by
                    show _ = _
                    rw [HX.out, one_hsh (by omega), if_pos (by omega), show min j 40 - 1 + 1 = min (j + 1) 40 - 1 by omega]
                  obtain ⟨HX4, hHX4⟩ : ∃ Z, (ByteArray.mk #[104]) ++ X = Z := ⟨_, rfl⟩
                  have hZd : HX4.data.toList = hsh (ofAtom 7) (min (j + 1) 40 - 1) := by
                    rw [← hHX4, app_data, HX.out, show min (j + 1) 40 - 1 = (min j 40 - 1) + 1 by omega]; rfl
                  have HZD := Lib.hid hZd
                  clear hZd
                  go_wp2_with fail
                  refine (t_OfHash X _ (by omega)).mono ?_
                  rw [H1.out]
                  rintro e w8 ⟨⟨V, hV, rfl⟩, hb⟩
                  dsimp only at hV ⊢
                  have HB8 := Lib.hid (HW.out.trans (hb.mono HW.out.size))
                  have q2 : (V.toList == HX4.toList) = true := eq_bool (by rw [hV, HZD.out])
                  have HV := Lib.hid hV
                  clear hV hb
                  go_wp2
                  go_roundw
                  case rel => exact ⟨j + 1, V, by omega, by omega, by go_num, rfl, HV, HB8⟩
                  case measure => simp [intOf]; omega
                · have H1 : Hid (one 104 X.data.toList = ([], 10)) := by
                    show _ = _
                    rw [HX.out, one_hsh (by omega), if_neg (by omega)]
                  go_wp2_with fail
                  refine (t_OfHash X _ (by omega)).mono ?_
                  rw [H1.out]
                  rintro e w8 ⟨⟨V, hV, rfl⟩, hb⟩
                  dsimp only at hV ⊢
                  have HB8 := Lib.hid (HW.out.trans (hb.mono HW.out.size))
                  have q2 := empty_str hV
                  clear hV hb
                  go_wp2
                  go_roundw
                  case rel => exact ⟨j + 1, X, by omega, by omega, by go_num, rfl, by show _ = _; rw [HX.out, show min (j + 1) 40 - 1 = min j 40 - 1 by omega], HB8⟩
                  case measure => simp [intOf]; omega
              · obtain ⟨GA, hGA⟩ : ∃ GA, (ByteArray.mk #[103]) ++ A = GA := ⟨_, rfl⟩
                have hGAd : GA.data.toList = 103 :: A.data.toList := by rw [← hGA, app_data]; rfl
                have hGAz : GA.size ≤ 4001 := by
                  have h1 := Lib.size_eq A
                  rw [Lib.size_eq, hGAd, List.length_cons]; omega
                obtain ⟨GB, hGB⟩ : ∃ GB, GA ++ B = GB := ⟨_, rfl⟩
                have hGBd : GB.data.toList = 103 :: (A.data.toList ++ B.data.toList) := by rw [← hGB, app_data, hGAd]; rfl
                have hGBz : GB.size ≤ 9000 := by
                  have h1 := Lib.size_eq GA
                  have h2 := Lib.size_eq B
                  rw [Lib.size_eq, ← hGB, app_data, List.length_append, ← h1, ← h2]; omega
                have HGBD := Lib.hid hGBd
                clear hGAd hGBd
                cases hs : right (103 :: (A.data.toList ++ B.data.toList)) with
                | true =>
                  have S1 := Lib.hid (two_yes HA.out HB.out hs)
                  have S2 : Hid (right GB.data.toList = true) := by show _ = _; rw [HGBD.out]; exact hs
                  clear hs
                  go_wp2_with fail
                  refine (t_Sign A B _ (by omega) (by omega)).mono ?_
                  rw [S1.out]
                  rintro e w9 ⟨⟨Q, hQ, rfl⟩, hb⟩
                  dsimp only at hQ ⊢
                  have HB9 := Lib.hid (HW.out.trans (hb.mono HW.out.size))
                  have q3 : (Q.toList == GB.toList) = true := eq_bool (by rw [hQ, HGBD.out])
                  clear hQ hb
                  go_wp2_with fail
                  refine (right_any GB _ (by omega)).mono ?_
                  rw [S2.out]
                  rintro e w10 ⟨rfl, hb⟩
                  have HB10 := Lib.hid (HB9.out.trans (hb.mono HB9.out.size))
                  clear hb
                  go_wp2
                  go_ret
                  exact ⟨rfl, HB10.out⟩
                | false =>
                  have S1 := Lib.hid (two_no HA.out HB.out hs)
                  have S2 : Hid (right GB.data.toList = false) := by show _ = _; rw [HGBD.out]; exact hs
                  clear hs
                  go_wp2_with fail
                  refine (t_Sign A B _ (by omega) (by omega)).mono ?_
                  rw [S1.out]
                  rintro e w9 ⟨⟨Q, hQ, rfl⟩, hb⟩
                  dsimp only at hQ ⊢
                  have HB9 := Lib.hid (HW.out.trans (hb.mono HW.out.size))
                  have q3 := empty_str hQ
                  clear hQ hb
                  go_wp2_with fail
                  refine (right_any GB _ (by omega)).mono ?_
                  rw [S2.out]
                  rintro e w10 ⟨rfl, hb⟩
                  have HB10 := Lib.hid (HB9.out.trans (hb.mono HB9.out.size))
                  clear hb
                  go_wp2
                  go_ret
                  exact ⟨rfl, HB10.out⟩
          | false =>
            have P1 := Lib.hid (two_no HA.out HT.out hr)
            have R1 : Hid (right PT.data.toList = false) := by show _ = _; rw [HPTD.out]; exact hr
            clear hr
            go_wp2_with fail
            refine (t_OfPair A T _ (by omega) (by omega)).mono ?_
            rw [P1.out]
            rintro e w5 ⟨⟨P, hP, rfl⟩, hb⟩
            dsimp only at hP ⊢
            have HB5 := Lib.hid (HB4.out.trans (hb.mono HB4.out.size))
            have q1 := empty_str hP
            clear hP hb
            go_wp2_with fail
            refine (right_any PT _ (by omega)).mono ?_
            rw [R1.out]
            rintro e w6 ⟨rfl, hb⟩
            have HB6 := Lib.hid (HB5.out.trans (hb.mono HB5.out.size))
            clear hb
            go_wp2_with fail
            refine (t_OfAtom 7 _ (by decide)).mono ?_
            rintro e w7 ⟨⟨U, hU, rfl⟩, hb⟩
            have HB7 := Lib.hid (HB6.out.trans (hb.mono HB6.out.size))
            have HU := Lib.hid hU
            clear hU hb
            go_wp2
            go_loopw [20, 21] (fun u i wr => ∃ (j : Nat) (X : ByteArray), 1 ≤ j ∧ j ≤ 45 ∧ i = .int .i64 j ∧ u = .string X ∧ Hid (X.data.toList = hsh (ofAtom 7) (min j 40 - 1)) ∧ Hid (Below w.heap.size w wr)) (fun _ i _ => 45 - (intOf i).toNat)
            case atStart => exact ⟨1, U, Nat.le_refl _, by omega, rfl, rfl, HU, HB7⟩
            case round =>
              obtain ⟨j, X, hj1, hj2, rfl, rfl, HX, HW⟩ := hrel
              have hXz : X.size ≤ 100 := by
                have h1 := hsh_len (ofAtom 7) (min j 40 - 1)
                have h2 := (put_le (n := 7) (by decide)).2
                rw [Lib.size_eq, HX.out, h1]; simp only [ofAtom, List.length_cons]; omega
              go_wp2_with fail
              refine (pick_any deep 45 _ HDE.out (by omega) (by omega)).mono ?_
              rintro e w' ⟨⟨m, hm, rfl⟩, rfl⟩
              dsimp only
              by_cases hjm : (j : Int) ≤ (m : Int)
              · by_cases hj40 : (j : Int) < 40
                · have H1 : Hid (one 104 X.data.toList = (hsh (ofAtom 7) (min (j + 1) 40 - 1), 0)) := by
                    show _ = _
                    rw [HX.out, one_hsh (by omega), if_pos (by omega), show min j 40 - 1 + 1 = min (j + 1) 40 - 1 by omega]
                  obtain ⟨HX4, hHX4⟩ : ∃ Z, (ByteArray.mk #[104]) ++ X = Z := ⟨_, rfl⟩
                  have hZd : HX4.data.toList = hsh (ofAtom 7) (min (j + 1) 40 - 1) := by
                    rw [← hHX4, app_data, HX.out, show min (j + 1) 40 - 1 = (min j 40 - 1) + 1 by omega]; rfl
                  have HZD := Lib.hid hZd
                  clear hZd
                  go_wp2_with fail
                  refine (t_OfHash X _ (by omega)).mono ?_
                  rw [H1.out]
                  rintro e w8 ⟨⟨V, hV, rfl⟩, hb⟩
                  dsimp only at hV ⊢
                  have HB8 := Lib.hid (HW.out.trans (hb.mono HW.out.size))
                  have q2 : (V.toList == HX4.toList) = true := eq_bool (by rw [hV, HZD.out])
                  have HV := Lib.hid hV
                  clear hV hb
                  go_wp2
                  go_roundw
                  case rel => exact ⟨j + 1, V, by omega, by omega, by go_num, rfl, HV, HB8⟩
                  case measure => simp [intOf]; omega
                · have H1 : Hid (one 104 X.data.toList = ([], 10)) := by
                    show _ = _
                    rw [HX.out, one_hsh (by omega), if_neg (by omega)]
                  go_wp2_with fail
                  refine (t_OfHash X _ (by omega)).mono ?_
                  rw [H1.out]
                  rintro e w8 ⟨⟨V, hV, rfl⟩, hb⟩
                  dsimp only at hV ⊢
                  have HB8 := Lib.hid (HW.out.trans (hb.mono HW.out.size))
                  have q2 := empty_str hV
                  clear hV hb
                  go_wp2
                  go_roundw
                  case rel => exact ⟨j + 1, X, by omega, by omega, by go_num, rfl, by show _ = _; rw [HX.out, show min (j + 1) 40 - 1 = min j 40 - 1 by omega], HB8⟩
                  case measure => simp [intOf]; omega
              · obtain ⟨GA, hGA⟩ : ∃ GA, (ByteArray.mk #[103]) ++ A = GA := ⟨_, rfl⟩
                have hGAd : GA.data.toList = 103 :: A.data.toList := by rw [← hGA, app_data]; rfl
                have hGAz : GA.size ≤ 4001 := by
                  have h1 := Lib.size_eq A
                  rw [Lib.size_eq, hGAd, List.length_cons]; omega
                obtain ⟨GB, hGB⟩ : ∃ GB, GA ++ B = GB := ⟨_, rfl⟩
                have hGBd : GB.data.toList = 103 :: (A.data.toList ++ B.data.toList) := by rw [← hGB, app_data, hGAd]; rfl
                have hGBz : GB.size ≤ 9000 := by
                  have h1 := Lib.size_eq GA
                  have h2 := Lib.size_eq B
                  rw [Lib.size_eq, ← hGB, app_data, List.length_append, ← h1, ← h2]; omega
                have HGBD := Lib.hid hGBd
                clear hGAd hGBd
                cases hs : right (103 :: (A.data.toList ++ B.data.toList)) with
                | true =>
                  have S1 := Lib.hid (two_yes HA.out HB.out hs)
                  have S2 : Hid (right GB.data.toList = true) := by show _ = _; rw [HGBD.out]; exact hs
                  clear hs
                  go_wp2_with fail
                  refine (t_Sign A B _ (by omega) (by omega)).mono ?_
                  rw [S1.out]
                  rintro e w9 ⟨⟨Q, hQ, rfl⟩, hb⟩
                  dsimp only at hQ ⊢
                  have HB9 := Lib.hid (HW.out.trans (hb.mono HW.out.size))
                  have q3 : (Q.toList == GB.toList) = true := eq_bool (by rw [hQ, HGBD.out])
                  clear hQ hb
                  go_wp2_with fail
                  refine (right_any GB _ (by omega)).mono ?_
                  rw [S2.out]
                  rintro e w10 ⟨rfl, hb⟩
                  have HB10 := Lib.hid (HB9.out.trans (hb.mono HB9.out.size))
                  clear hb
                  go_wp2
                  go_ret
                  exact ⟨rfl, HB10.out⟩
                | false =>
                  have S1 := Lib.hid (two_no HA.out HB.out hs)
                  have S2 : Hid (right GB.data.toList = false) := by show _ = _; rw [HGBD.out]; exact hs
                  clear hs
                  go_wp2_with fail
                  refine (t_Sign A B _ (by omega) (by omega)).mono ?_
                  rw [S1.out]
                  rintro e w9 ⟨⟨Q, hQ, rfl⟩, hb⟩
                  dsimp only at hQ ⊢
                  have HB9 := Lib.hid (HW.out.trans (hb.mono HW.out.size))
                  have q3 := empty_str hQ
                  clear hQ hb
                  go_wp2_with fail
                  refine (right_any GB _ (by omega)).mono ?_
                  rw [S2.out]
                  rintro e w10 ⟨rfl, hb⟩
                  have HB10 := Lib.hid (HB9.out.trans (hb.mono HB9.out.size))
                  clear hb
                  go_wp2
                  go_ret
                  exact ⟨rfl, HB10.out⟩
end Go.Proofs.Ytgjjbeejfdkjdaa.Term
