/-
  THE WALK of TermOpens. By an AI agent; no person has read it.
-/
import Derived.Test.YtgjjbeejfdkjdaaTPairs
namespace Go.Proofs.Ytgjjbeejfdkjdaa.Term
open Go.RowKit Wire

theorem parts_two {k : UInt8} {x y : List UInt8} (h : right (k :: (x ++ y)) = true) (ha : arity k = some 2) (hx : right x = true) (hy : right y = true) : parts (k :: (x ++ y)) = ([x, y], 0) := by
  unfold parts
  rw [if_pos h, List.headD_cons, ha, List.tail_cons, Option.getD_some, cuts_two hx hy]
theorem opens_two {k : UInt8} {x y z : List UInt8} (h : right (k :: (x ++ y)) = true) (ha : arity k = some 2) (hx : right x = true) (hy : right y = true) : opens k z (k :: (x ++ y)) = if x = z then (y, 0) else ([], 6) := by
  unfold opens
  rw [if_pos (show (k :: (x ++ y)).headD 0 = k from rfl), parts_two h ha hx hy]
  rfl
theorem open_seal {key z a : List UInt8} (h : right (115 :: (key ++ a)) = true) (hk : right key = true) (ha : right a = true) (hz : right z = true) : open' z (115 :: (key ++ a)) = if key = z then (a, 0) else ([], 6) := by
  unfold open'
  rw [if_pos ⟨hz, h⟩, opens_two h rfl hk ha]
theorem unbox_box {key z a : List UInt8} (h : right (98 :: ((117 :: key) ++ a)) = true) (hu : right (117 :: key) = true) (ha : right a = true) (hz : right z = true) : unbox z (98 :: ((117 :: key) ++ a)) = if key = z then (a, 0) else ([], 6) := by
  unfold unbox
  rw [if_pos ⟨hz, h⟩, opens_two h rfl hu ha]
  by_cases hkz : key = z
  · rw [if_pos (by rw [hkz]), if_pos hkz]
  · rw [if_neg (fun h => hkz (List.cons.inj h).2), if_neg hkz]
theorem verify_sign {key z a x : List UInt8} (h : right (103 :: (key ++ a)) = true) (hk : right key = true) (hz : right z = true) (hp : right (117 :: z) = true) (hx : right x = true) : verify (117 :: z) x (103 :: (key ++ a)) = if key = z ∧ a = x then 0 else 7 := by
  unfold verify
  rw [if_pos ⟨hp, hx, h⟩]
  by_cases hc : key = z ∧ a = x
  · rw [if_pos hc, if_pos ⟨rfl, by rw [hc.1, hc.2]; rfl⟩]
  · rw [if_neg hc, if_neg]
    rintro ⟨_, h2⟩
    injection h2 with _ h2
    exact hc (right_cut hk hz h2)
theorem verify_none {a s : List UInt8} : verify [] a s = 1 := by
  unfold verify
  rw [if_neg (fun h => (right_iff.1 h.1).1 rfl)]
theorem one_yes {k : UInt8} {a : List UInt8} (ha : right a = true) (h : right (k :: a) = true) : one k a = (k :: a, 0) := by
  unfold one made; rw [if_pos ha, if_pos h]
theorem one_no {k : UInt8} {a : List UInt8} (ha : right a = true) (h : right (k :: a) = false) : one k a = ([], 10) := by
  unfold one made; rw [if_pos ha, if_neg (by rw [h]; decide)]
theorem box_yes {u a : List UInt8} (hu : right (117 :: u) = true) (ha : right a = true) (h : right (98 :: ((117 :: u) ++ a)) = true) : box (117 :: u) a = (98 :: ((117 :: u) ++ a), 0) := by
  unfold box; rw [if_pos ⟨hu, rfl⟩]; exact two_yes hu ha h
theorem box_no {u a : List UInt8} (hu : right (117 :: u) = true) (ha : right a = true) (h : right (98 :: ((117 :: u) ++ a)) = false) : box (117 :: u) a = ([], 10) := by
  unfold box; rw [if_pos ⟨hu, rfl⟩]; exact two_no hu ha h

set_option maxHeartbeats 8000000 in
set_option maxRecDepth 1000000 in
theorem opens_walk (a : Option Addr) (ca : Nat) (za : List Int) (b : Option Addr) (cb : Nat) (bs : List Int) (c : Option Addr) (cc : Nat) (cs : List Int) (w : World) (ha : IReads w a za) (hb : IReads w b bs) (hc : IReads w c cs) :
    Calls Try.prog 5 #[.slice a za.length ca, .slice b bs.length cb, .slice c cs.length cc] w fun e w' => e = .returned (.bool true) ∧ Below w.heap.size w w' := by
  have RA := Lib.hid ha
  have RB := Lib.hid hb
  have RC := Lib.hid hc
  clear ha hb hc
  go_enter Try.func5, Try.ntmps5
  go_wp2_with fail
  refine (shown_any _).mono ?_
  rintro e w1 ⟨rfl, hb1⟩
  have HB1 := Lib.hid hb1
  clear hb1
  go_wp2_with fail
  refine (grown_any a ca za _ (RA.out.below HB1.out (Nat.le_refl _))).mono ?_
  rintro e w2 ⟨⟨K, hx, rfl⟩, hb⟩
  have HB2 := Lib.hid (HB1.out.trans (hb.mono HB1.out.size))
  have hKz := (right_sz hx).2
  have HK := Lib.hid hx
  clear hx hb
  go_wp2_with fail
  refine (grown_any b cb bs _ (RB.out.below HB2.out (Nat.le_refl _))).mono ?_
  rintro e w3 ⟨⟨O, hx, rfl⟩, hb⟩
  have HB3 := Lib.hid (HB2.out.trans (hb.mono HB2.out.size))
  have hOz := (right_sz hx).2
  have HO := Lib.hid hx
  clear hx hb
  go_wp2_with fail
  refine (grown_any c cc cs _ (RC.out.below HB3.out (Nat.le_refl _))).mono ?_
  rintro e w4 ⟨⟨A, hx, rfl⟩, hb⟩
  have HB4 := Lib.hid (HB3.out.trans (hb.mono HB3.out.size))
  have hAz := (right_sz hx).2
  have HA := Lib.hid hx
  clear hx hb
  cases h1 : right (115 :: (K.data.toList ++ A.data.toList)) with
  | false =>
    have P1 := Lib.hid (two_no HK.out HA.out h1)
    obtain ⟨u, f, hu⟩ : ∃ u f, one 117 K.data.toList = (u, f) := ⟨_, _, rfl⟩
    have P2 := Lib.hid hu
    clear h1 hu
    go_wp2_with fail
    refine (t_Seal K A _ (by omega) (by omega)).mono ?_
    rw [P1.out]
    rintro e w5 ⟨⟨C, hT, rfl⟩, hb⟩
    dsimp only at hT ⊢
    have HB5 := Lib.hid (HB4.out.trans (hb.mono HB4.out.size))
    have HC := Lib.hid hT
    clear hT hb
    go_wp2_with fail
    refine (t_OfPublic K _ (by omega)).mono ?_
    rw [P2.out]
    rintro e w6 ⟨⟨U, hT, rfl⟩, hb⟩
    dsimp only at hT ⊢
    have HB6 := Lib.hid (HB5.out.trans (hb.mono HB5.out.size))
    have HU := Lib.hid hT
    clear hT hb
    go_wp2
    go_ret
    exact ⟨rfl, HB6.out⟩
  | true =>
    have P1 := Lib.hid (two_yes HK.out HA.out h1)
    have R1 := Lib.hid h1
    clear h1
    cases h2 : right (117 :: K.data.toList) with
    | false =>
      have P2 := Lib.hid (one_no HK.out h2)
      clear h2
      go_wp2_with fail
      refine (t_Seal K A _ (by omega) (by omega)).mono ?_
      rw [P1.out]
      rintro e w5 ⟨⟨C, hT, rfl⟩, hb⟩
      dsimp only at hT ⊢
      have HB5 := Lib.hid (HB4.out.trans (hb.mono HB4.out.size))
      have HC := Lib.hid hT
      clear hT hb
      go_wp2_with fail
      refine (t_OfPublic K _ (by omega)).mono ?_
      rw [P2.out]
      rintro e w6 ⟨⟨U, hT, rfl⟩, hb⟩
      dsimp only at hT ⊢
      have HB6 := Lib.hid (HB5.out.trans (hb.mono HB5.out.size))
      have HU := Lib.hid hT
      clear hT hb
      go_wp2
      go_ret
      exact ⟨rfl, HB6.out⟩
    | true =>
      have P2 := Lib.hid (one_yes HK.out h2)
      have R2 := Lib.hid h2
      clear h2
      have R3 : Hid (right (103 :: (K.data.toList ++ A.data.toList)) = true) := (right_kind (j := 103) (k := 115) rfl rfl (by decide) (by decide)).trans R1.out
      have P3 := Lib.hid (two_yes HK.out HA.out R3.out)
      go_wp2_with fail
      refine (t_Seal K A _ (by omega) (by omega)).mono ?_
      rw [P1.out]
      rintro e w5 ⟨⟨C, hT, rfl⟩, hb⟩
      dsimp only at hT ⊢
      have HB5 := Lib.hid (HB4.out.trans (hb.mono HB4.out.size))
      have HC := Lib.hid hT
      clear hT hb
      go_wp2_with fail
      refine (t_OfPublic K _ (by omega)).mono ?_
      rw [P2.out]
      rintro e w6 ⟨⟨U, hT, rfl⟩, hb⟩
      dsimp only at hT ⊢
      have HB6 := Lib.hid (HB5.out.trans (hb.mono HB5.out.size))
      have HU := Lib.hid hT
      clear hT hb
      have hCz : C.size ≤ 4000 := (right_sz (by rw [HC.out]; exact R1.out)).2
      have hUz : U.size ≤ 4000 := (right_sz (by rw [HU.out]; exact R2.out)).2
      by_cases hok : K.data.toList = O.data.toList
      · have g1 : (O.toList == K.toList) = true := eq_bool hok.symm
        have E1 := Lib.hid hok
        have P4 : Hid (open' K.data.toList C.data.toList = (A.data.toList, 0)) := by show _ = _; rw [HC.out, open_seal R1.out HK.out HA.out HK.out, if_pos rfl]
        have P5 : Hid (open' O.data.toList C.data.toList = (A.data.toList, 0)) := by show _ = _; rw [HC.out, open_seal R1.out HK.out HA.out HO.out, if_pos hok]
        clear hok
        go_wp2_with fail
        refine (t_Open K C _ (by omega) (by omega)).mono ?_
        rw [P4.out]
        rintro e w7 ⟨⟨X, hT, rfl⟩, hb⟩
        dsimp only at hT ⊢
        have HB7 := Lib.hid (HB6.out.trans (hb.mono HB6.out.size))
        have HX := Lib.hid hT
        clear hT hb
        go_wp2_with fail
        refine (t_Open O C _ (by omega) (by omega)).mono ?_
        rw [P5.out]
        rintro e w8 ⟨⟨Y, hT, rfl⟩, hb⟩
        dsimp only at hT ⊢
        have HB8 := Lib.hid (HB7.out.trans (hb.mono HB7.out.size))
        have HY := Lib.hid hT
        clear hT hb
        have q1 : (X.toList == A.toList) = true := eq_bool HX.out
        cases h3 : right (98 :: ((117 :: K.data.toList) ++ A.data.toList)) with
        | false =>
          have P6 : Hid (box U.data.toList A.data.toList = ([], 10)) := by show _ = _; rw [HU.out]; exact box_no R2.out HA.out h3
          clear h3
          go_wp2_with fail
          refine (t_Box U A _ (by omega) (by omega)).mono ?_
          rw [P6.out]
          rintro e w9 ⟨⟨B, hT, rfl⟩, hb⟩
          dsimp only at hT ⊢
          have HB9 := Lib.hid (HB8.out.trans (hb.mono HB8.out.size))
          have HB := Lib.hid hT
          clear hT hb
          go_wp2_with fail
          refine (t_Sign K A _ (by omega) (by omega)).mono ?_
          rw [P3.out]
          rintro e w10 ⟨⟨S, hT, rfl⟩, hb⟩
          dsimp only at hT ⊢
          have HB10 := Lib.hid (HB9.out.trans (hb.mono HB9.out.size))
          have HS := Lib.hid hT
          clear hT hb
          go_wp2
          go_ret
          exact ⟨rfl, HB10.out⟩
        | true =>
          have P6 : Hid (box U.data.toList A.data.toList = (98 :: ((117 :: K.data.toList) ++ A.data.toList), 0)) := by show _ = _; rw [HU.out]; exact box_yes R2.out HA.out h3
          have R6 := Lib.hid h3
          clear h3
          go_wp2_with fail
          refine (t_Box U A _ (by omega) (by omega)).mono ?_
          rw [P6.out]
          rintro e w9 ⟨⟨B, hT, rfl⟩, hb⟩
          dsimp only at hT ⊢
          have HB9 := Lib.hid (HB8.out.trans (hb.mono HB8.out.size))
          have HB := Lib.hid hT
          clear hT hb
          go_wp2_with fail
          refine (t_Sign K A _ (by omega) (by omega)).mono ?_
          rw [P3.out]
          rintro e w10 ⟨⟨S, hT, rfl⟩, hb⟩
          dsimp only at hT ⊢
          have HB10 := Lib.hid (HB9.out.trans (hb.mono HB9.out.size))
          have HS := Lib.hid hT
          clear hT hb
          have hBz : B.size ≤ 4000 := (right_sz (by rw [HB.out]; exact R6.out)).2
          have hSz : S.size ≤ 4000 := (right_sz (by rw [HS.out]; exact R3.out)).2
          have P7 : Hid (unbox K.data.toList B.data.toList = (A.data.toList, 0)) := by show _ = _; rw [HB.out, unbox_box R6.out R2.out HA.out HK.out, if_pos rfl]
          have P8 : Hid (unbox O.data.toList B.data.toList = (A.data.toList, 0)) := by show _ = _; rw [HB.out, unbox_box R6.out R2.out HA.out HO.out, if_pos E1.out]
          have P11 : Hid (verify U.data.toList A.data.toList S.data.toList = 0) := by show _ = _; rw [HU.out, HS.out, verify_sign R3.out HK.out HK.out R2.out HA.out, if_pos ⟨rfl, rfl⟩]
          go_wp2_with fail
          refine (t_Unbox K B _ (by omega) (by omega)).mono ?_
          rw [P7.out]
          rintro e w11 ⟨⟨Z, hT, rfl⟩, hb⟩
          dsimp only at hT ⊢
          have HB11 := Lib.hid (HB10.out.trans (hb.mono HB10.out.size))
          have HZ := Lib.hid hT
          clear hT hb
          go_wp2_with fail
          refine (t_Unbox O B _ (by omega) (by omega)).mono ?_
          rw [P8.out]
          rintro e w12 ⟨⟨W, hT, rfl⟩, hb⟩
          dsimp only at hT ⊢
          have HB12 := Lib.hid (HB11.out.trans (hb.mono HB11.out.size))
          have HW := Lib.hid hT
          clear hT hb
          have q3 : (Z.toList == A.toList) = true := eq_bool HZ.out
          
          have P9 := Lib.hid (one_yes (k := 117) HO.out (by rw [← E1.out]; exact R2.out))
          go_wp2_with fail
          refine (t_OfPublic O _ (by omega)).mono ?_
          rw [P9.out]
          rintro e w13 ⟨⟨V, hT, rfl⟩, hb⟩
          dsimp only at hT ⊢
          have HB13 := Lib.hid (HB12.out.trans (hb.mono HB12.out.size))
          have HV := Lib.hid hT
          clear hT hb
          have hVz : V.size ≤ 4000 := (right_sz (by rw [HV.out, ← E1.out]; exact R2.out)).2
          have P10 : Hid (verify V.data.toList A.data.toList S.data.toList = 0) := by show _ = _; rw [HV.out, HS.out, verify_sign R3.out HK.out HO.out (by rw [← E1.out]; exact R2.out) HA.out, if_pos ⟨E1.out, rfl⟩]
          by_cases hoa : A.data.toList = O.data.toList
          · have g2 : (O.toList == A.toList) = true := eq_bool hoa.symm
            have P12 : Hid (verify U.data.toList O.data.toList S.data.toList = 0) := by show _ = _; rw [HU.out, HS.out, verify_sign R3.out HK.out HK.out R2.out HO.out, if_pos ⟨rfl, hoa⟩]
            clear hoa
            go_wp2_with fail
            refine (t_Verify V A S _ (by omega) (by omega) (by omega)).mono ?_
            rw [P10.out]
            rintro e w14 ⟨rfl, hb⟩
            have HB14 := Lib.hid (HB13.out.trans (hb.mono HB13.out.size))
            clear hb
            go_wp2_with fail
            refine (t_Verify U A S _ (by omega) (by omega) (by omega)).mono ?_
            rw [P11.out]
            rintro e w15 ⟨rfl, hb⟩
            have HB15 := Lib.hid (HB14.out.trans (hb.mono HB14.out.size))
            clear hb
            go_wp2_with fail
            refine (t_Verify U O S _ (by omega) (by omega) (by omega)).mono ?_
            rw [P12.out]
            rintro e w16 ⟨rfl, hb⟩
            have HB16 := Lib.hid (HB15.out.trans (hb.mono HB15.out.size))
            clear hb
            go_wp2
            go_ret
            exact ⟨rfl, HB16.out⟩
          · have g2 : (O.toList == A.toList) = false := ne_bool (fun h => hoa h.symm)
            have P12 : Hid (verify U.data.toList O.data.toList S.data.toList = 7) := by show _ = _; rw [HU.out, HS.out, verify_sign R3.out HK.out HK.out R2.out HO.out, if_neg (fun h => hoa h.2)]
            clear hoa
            go_wp2_with fail
            refine (t_Verify V A S _ (by omega) (by omega) (by omega)).mono ?_
            rw [P10.out]
            rintro e w14 ⟨rfl, hb⟩
            have HB14 := Lib.hid (HB13.out.trans (hb.mono HB13.out.size))
            clear hb
            go_wp2_with fail
            refine (t_Verify U A S _ (by omega) (by omega) (by omega)).mono ?_
            rw [P11.out]
            rintro e w15 ⟨rfl, hb⟩
            have HB15 := Lib.hid (HB14.out.trans (hb.mono HB14.out.size))
            clear hb
            go_wp2_with fail
            refine (t_Verify U O S _ (by omega) (by omega) (by omega)).mono ?_
            rw [P12.out]
            rintro e w16 ⟨rfl, hb⟩
            have HB16 := Lib.hid (HB15.out.trans (hb.mono HB15.out.size))
            clear hb
            go_wp2
            go_ret
            exact ⟨rfl, HB16.out⟩
      · have g1 : (O.toList == K.toList) = false := ne_bool (fun h => hok h.symm)
        have E1 := Lib.hid hok
        have P4 : Hid (open' K.data.toList C.data.toList = (A.data.toList, 0)) := by show _ = _; rw [HC.out, open_seal R1.out HK.out HA.out HK.out, if_pos rfl]
        have P5 : Hid (open' O.data.toList C.data.toList = ([], 6)) := by show _ = _; rw [HC.out, open_seal R1.out HK.out HA.out HO.out, if_neg hok]
        clear hok
        go_wp2_with fail
        refine (t_Open K C _ (by omega) (by omega)).mono ?_
        rw [P4.out]
        rintro e w7 ⟨⟨X, hT, rfl⟩, hb⟩
        dsimp only at hT ⊢
        have HB7 := Lib.hid (HB6.out.trans (hb.mono HB6.out.size))
        have HX := Lib.hid hT
        clear hT hb
        go_wp2_with fail
        refine (t_Open O C _ (by omega) (by omega)).mono ?_
        rw [P5.out]
        rintro e w8 ⟨⟨Y, hT, rfl⟩, hb⟩
        dsimp only at hT ⊢
        have HB8 := Lib.hid (HB7.out.trans (hb.mono HB7.out.size))
        have HY := Lib.hid hT
        clear hT hb
        have q1 : (X.toList == A.toList) = true := eq_bool HX.out
        have q2 := empty_str HY.out
        cases h3 : right (98 :: ((117 :: K.data.toList) ++ A.data.toList)) with
        | false =>
          have P6 : Hid (box U.data.toList A.data.toList = ([], 10)) := by show _ = _; rw [HU.out]; exact box_no R2.out HA.out h3
          clear h3
          go_wp2_with fail
          refine (t_Box U A _ (by omega) (by omega)).mono ?_
          rw [P6.out]
          rintro e w9 ⟨⟨B, hT, rfl⟩, hb⟩
          dsimp only at hT ⊢
          have HB9 := Lib.hid (HB8.out.trans (hb.mono HB8.out.size))
          have HB := Lib.hid hT
          clear hT hb
          go_wp2_with fail
          refine (t_Sign K A _ (by omega) (by omega)).mono ?_
          rw [P3.out]
          rintro e w10 ⟨⟨S, hT, rfl⟩, hb⟩
          dsimp only at hT ⊢
          have HB10 := Lib.hid (HB9.out.trans (hb.mono HB9.out.size))
          have HS := Lib.hid hT
          clear hT hb
          go_wp2
          go_ret
          exact ⟨rfl, HB10.out⟩
        | true =>
          have P6 : Hid (box U.data.toList A.data.toList = (98 :: ((117 :: K.data.toList) ++ A.data.toList), 0)) := by show _ = _; rw [HU.out]; exact box_yes R2.out HA.out h3
          have R6 := Lib.hid h3
          clear h3
          go_wp2_with fail
          refine (t_Box U A _ (by omega) (by omega)).mono ?_
          rw [P6.out]
          rintro e w9 ⟨⟨B, hT, rfl⟩, hb⟩
          dsimp only at hT ⊢
          have HB9 := Lib.hid (HB8.out.trans (hb.mono HB8.out.size))
          have HB := Lib.hid hT
          clear hT hb
          go_wp2_with fail
          refine (t_Sign K A _ (by omega) (by omega)).mono ?_
          rw [P3.out]
          rintro e w10 ⟨⟨S, hT, rfl⟩, hb⟩
          dsimp only at hT ⊢
          have HB10 := Lib.hid (HB9.out.trans (hb.mono HB9.out.size))
          have HS := Lib.hid hT
          clear hT hb
          have hBz : B.size ≤ 4000 := (right_sz (by rw [HB.out]; exact R6.out)).2
          have hSz : S.size ≤ 4000 := (right_sz (by rw [HS.out]; exact R3.out)).2
          have P7 : Hid (unbox K.data.toList B.data.toList = (A.data.toList, 0)) := by show _ = _; rw [HB.out, unbox_box R6.out R2.out HA.out HK.out, if_pos rfl]
          have P8 : Hid (unbox O.data.toList B.data.toList = ([], 6)) := by show _ = _; rw [HB.out, unbox_box R6.out R2.out HA.out HO.out, if_neg E1.out]
          have P11 : Hid (verify U.data.toList A.data.toList S.data.toList = 0) := by show _ = _; rw [HU.out, HS.out, verify_sign R3.out HK.out HK.out R2.out HA.out, if_pos ⟨rfl, rfl⟩]
          go_wp2_with fail
          refine (t_Unbox K B _ (by omega) (by omega)).mono ?_
          rw [P7.out]
          rintro e w11 ⟨⟨Z, hT, rfl⟩, hb⟩
          dsimp only at hT ⊢
          have HB11 := Lib.hid (HB10.out.trans (hb.mono HB10.out.size))
          have HZ := Lib.hid hT
          clear hT hb
          go_wp2_with fail
          refine (t_Unbox O B _ (by omega) (by omega)).mono ?_
          rw [P8.out]
          rintro e w12 ⟨⟨W, hT, rfl⟩, hb⟩
          dsimp only at hT ⊢
          have HB12 := Lib.hid (HB11.out.trans (hb.mono HB11.out.size))
          have HW := Lib.hid hT
          clear hT hb
          have q3 : (Z.toList == A.toList) = true := eq_bool HZ.out
          have q4 := empty_str HW.out
          cases h4 : right (117 :: O.data.toList) with
          | true =>
            have P9 := Lib.hid (one_yes HO.out h4)
            have R4 := Lib.hid h4
            clear h4
            go_wp2_with fail
            refine (t_OfPublic O _ (by omega)).mono ?_
            rw [P9.out]
            rintro e w13 ⟨⟨V, hT, rfl⟩, hb⟩
            dsimp only at hT ⊢
            have HB13 := Lib.hid (HB12.out.trans (hb.mono HB12.out.size))
            have HV := Lib.hid hT
            clear hT hb
            have hVz : V.size ≤ 4000 := (right_sz (by rw [HV.out]; exact R4.out)).2
            have P10 : Hid (verify V.data.toList A.data.toList S.data.toList = 7) := by show _ = _; rw [HV.out, HS.out, verify_sign R3.out HK.out HO.out R4.out HA.out, if_neg (fun h => E1.out h.1)]
            by_cases hoa : A.data.toList = O.data.toList
            · have g2 : (O.toList == A.toList) = true := eq_bool hoa.symm
              have P12 : Hid (verify U.data.toList O.data.toList S.data.toList = 0) := by show _ = _; rw [HU.out, HS.out, verify_sign R3.out HK.out HK.out R2.out HO.out, if_pos ⟨rfl, hoa⟩]
              clear hoa
              go_wp2_with fail
              refine (t_Verify V A S _ (by omega) (by omega) (by omega)).mono ?_
              rw [P10.out]
              rintro e w14 ⟨rfl, hb⟩
              have HB14 := Lib.hid (HB13.out.trans (hb.mono HB13.out.size))
              clear hb
              go_wp2_with fail
              refine (t_Verify U A S _ (by omega) (by omega) (by omega)).mono ?_
              rw [P11.out]
              rintro e w15 ⟨rfl, hb⟩
              have HB15 := Lib.hid (HB14.out.trans (hb.mono HB14.out.size))
              clear hb
              go_wp2_with fail
              refine (t_Verify U O S _ (by omega) (by omega) (by omega)).mono ?_
              rw [P12.out]
              rintro e w16 ⟨rfl, hb⟩
              have HB16 := Lib.hid (HB15.out.trans (hb.mono HB15.out.size))
              clear hb
              go_wp2
              go_ret
              exact ⟨rfl, HB16.out⟩
            · have g2 : (O.toList == A.toList) = false := ne_bool (fun h => hoa h.symm)
              have P12 : Hid (verify U.data.toList O.data.toList S.data.toList = 7) := by show _ = _; rw [HU.out, HS.out, verify_sign R3.out HK.out HK.out R2.out HO.out, if_neg (fun h => hoa h.2)]
              clear hoa
              go_wp2_with fail
              refine (t_Verify V A S _ (by omega) (by omega) (by omega)).mono ?_
              rw [P10.out]
              rintro e w14 ⟨rfl, hb⟩
              have HB14 := Lib.hid (HB13.out.trans (hb.mono HB13.out.size))
              clear hb
              go_wp2_with fail
              refine (t_Verify U A S _ (by omega) (by omega) (by omega)).mono ?_
              rw [P11.out]
              rintro e w15 ⟨rfl, hb⟩
              have HB15 := Lib.hid (HB14.out.trans (hb.mono HB14.out.size))
              clear hb
              go_wp2_with fail
              refine (t_Verify U O S _ (by omega) (by omega) (by omega)).mono ?_
              rw [P12.out]
              rintro e w16 ⟨rfl, hb⟩
              have HB16 := Lib.hid (HB15.out.trans (hb.mono HB15.out.size))
              clear hb
              go_wp2
              go_ret
              exact ⟨rfl, HB16.out⟩
          | false =>
            have P9 := Lib.hid (one_no HO.out h4)
            clear h4
            go_wp2_with fail
            refine (t_OfPublic O _ (by omega)).mono ?_
            rw [P9.out]
            rintro e w13 ⟨⟨V, hT, rfl⟩, hb⟩
            dsimp only at hT ⊢
            have HB13 := Lib.hid (HB12.out.trans (hb.mono HB12.out.size))
            have HV := Lib.hid hT
            clear hT hb
            have hVz : V.size ≤ 4000 := by rw [Lib.size_eq, HV.out]; exact Nat.zero_le _
            have P10 : Hid (verify V.data.toList A.data.toList S.data.toList = 1) := by show _ = _; rw [HV.out]; exact verify_none
            by_cases hoa : A.data.toList = O.data.toList
            · have g2 : (O.toList == A.toList) = true := eq_bool hoa.symm
              have P12 : Hid (verify U.data.toList O.data.toList S.data.toList = 0) := by show _ = _; rw [HU.out, HS.out, verify_sign R3.out HK.out HK.out R2.out HO.out, if_pos ⟨rfl, hoa⟩]
              clear hoa
              go_wp2_with fail
              refine (t_Verify V A S _ (by omega) (by omega) (by omega)).mono ?_
              rw [P10.out]
              rintro e w14 ⟨rfl, hb⟩
              have HB14 := Lib.hid (HB13.out.trans (hb.mono HB13.out.size))
              clear hb
              go_wp2_with fail
              refine (t_Verify U A S _ (by omega) (by omega) (by omega)).mono ?_
              rw [P11.out]
              rintro e w15 ⟨rfl, hb⟩
              have HB15 := Lib.hid (HB14.out.trans (hb.mono HB14.out.size))
              clear hb
              go_wp2_with fail
              refine (t_Verify U O S _ (by omega) (by omega) (by omega)).mono ?_
              rw [P12.out]
              rintro e w16 ⟨rfl, hb⟩
              have HB16 := Lib.hid (HB15.out.trans (hb.mono HB15.out.size))
              clear hb
              go_wp2
              go_ret
              exact ⟨rfl, HB16.out⟩
            · have g2 : (O.toList == A.toList) = false := ne_bool (fun h => hoa h.symm)
              have P12 : Hid (verify U.data.toList O.data.toList S.data.toList = 7) := by show _ = _; rw [HU.out, HS.out, verify_sign R3.out HK.out HK.out R2.out HO.out, if_neg (fun h => hoa h.2)]
              clear hoa
              go_wp2_with fail
              refine (t_Verify V A S _ (by omega) (by omega) (by omega)).mono ?_
              rw [P10.out]
              rintro e w14 ⟨rfl, hb⟩
              have HB14 := Lib.hid (HB13.out.trans (hb.mono HB13.out.size))
              clear hb
              go_wp2_with fail
              refine (t_Verify U A S _ (by omega) (by omega) (by omega)).mono ?_
              rw [P11.out]
              rintro e w15 ⟨rfl, hb⟩
              have HB15 := Lib.hid (HB14.out.trans (hb.mono HB14.out.size))
              clear hb
              go_wp2_with fail
              refine (t_Verify U O S _ (by omega) (by omega) (by omega)).mono ?_
              rw [P12.out]
              rintro e w16 ⟨rfl, hb⟩
              have HB16 := Lib.hid (HB15.out.trans (hb.mono HB15.out.size))
              clear hb
              go_wp2
              go_ret
              exact ⟨rfl, HB16.out⟩
end Go.Proofs.Ytgjjbeejfdkjdaa.Term
