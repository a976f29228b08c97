/-
  THE WALK of TermPairs. By an AI agent; no person has read it.
-/
import Derived.Test.YtgjjbeejfdkjdaaTLaw
import Derived.Test.YtgjjbeejfdkjdaaTGrown
import Derived.Test.YtgjjbeejfdkjdaaTFacts
namespace Go.Proofs.Ytgjjbeejfdkjdaa.Term
open Go.RowKit Wire

theorem right_kind {j k : UInt8} {t : List UInt8} (hj : arity j = some 2) (hk : arity k = some 2) (h1 : j ≠ 98) (h2 : k ≠ 98) : right (j :: t) = right (k :: t) := by
  have e : size 40 (j :: t) = size 40 (k :: t) := by
    rw [size_cons, size_cons]
    unfold body
    rw [hj, hk]
    simp only
    rw [if_neg (fun h => h1 h.1), if_neg (fun h => h2 h.1)]
  unfold right
  rw [e]
  simp
theorem two_is {k : UInt8} {a b : List UInt8} (ha : right a = true) (hb : right b = true) : two k a b = if right (k :: (a ++ b)) = true then (k :: (a ++ b), 0) else ([], 10) := by
  unfold two made
  rw [if_pos ⟨ha, hb⟩]
theorem two_yes {k : UInt8} {a b : List UInt8} (ha : right a = true) (hb : right b = true) (h : right (k :: (a ++ b)) = true) : two k a b = (k :: (a ++ b), 0) := by rw [two_is ha hb, if_pos h]
theorem two_no {k : UInt8} {a b : List UInt8} (ha : right a = true) (hb : right b = true) (h : right (k :: (a ++ b)) = false) : two k a b = ([], 10) := by rw [two_is ha hb, if_neg (by rw [h]; decide)]

set_option maxHeartbeats 8000000 in
set_option maxRecDepth 1000000 in
theorem pairs_walk (a : Option Addr) (ca : Nat) (za : List Int) (b : Option Addr) (cb : Nat) (bs : List Int) (c : Option Addr) (cc : Nat) (cs : List Int) (d : Option Addr) (cd : Nat) (ds : List Int) (w : World) (ha : IReads w a za) (hb : IReads w b bs) (hc : IReads w c cs) (hd : IReads w d ds) :
    Calls Try.prog 8 #[.slice a za.length ca, .slice b bs.length cb, .slice c cs.length cc, .slice d ds.length cd] w fun e w' => e = .returned (.bool true) ∧ Below w.heap.size w w' := by
  have RA := Lib.hid ha
  have RB := Lib.hid hb
  have RC := Lib.hid hc
  have RD := Lib.hid hd
  clear ha hb hc hd
  go_enter Try.func8, Try.ntmps8
  go_wp2_with fail
  refine (shown_any _).mono ?_
  rintro e w1 ⟨rfl, hb1⟩
  have HB1 := Lib.hid hb1
  clear hb1
  go_wp2_with fail
  refine (grown_any a ca za _ (RA.out.below HB1.out (Nat.le_refl _))).mono ?_
  rintro e w2 ⟨⟨A, hx, rfl⟩, hb⟩
  have HB2 := Lib.hid (HB1.out.trans (hb.mono HB1.out.size))
  have hAz := (right_sz hx).2
  have HA := Lib.hid hx
  clear hx hb
  go_wp2_with fail
  refine (grown_any b cb bs _ (RB.out.below HB2.out (Nat.le_refl _))).mono ?_
  rintro e w3 ⟨⟨B, hx, rfl⟩, hb⟩
  have HB3 := Lib.hid (HB2.out.trans (hb.mono HB2.out.size))
  have hBz := (right_sz hx).2
  have HB := Lib.hid hx
  clear hx hb
  go_wp2_with fail
  refine (grown_any c cc cs _ (RC.out.below HB3.out (Nat.le_refl _))).mono ?_
  rintro e w4 ⟨⟨C, hx, rfl⟩, hb⟩
  have HB4 := Lib.hid (HB3.out.trans (hb.mono HB3.out.size))
  have hCz := (right_sz hx).2
  have HC := Lib.hid hx
  clear hx hb
  go_wp2_with fail
  refine (grown_any d cd ds _ (RD.out.below HB4.out (Nat.le_refl _))).mono ?_
  rintro e w5 ⟨⟨D, hx, rfl⟩, hb⟩
  have HB5 := Lib.hid (HB4.out.trans (hb.mono HB4.out.size))
  have hDz := (right_sz hx).2
  have HD := Lib.hid hx
  clear hx hb
  by_cases hbig : (1500 : Int) < (A.size : Int) + (B.size : Int) + (C.size : Int) + (D.size : Int)
  · go_wp2
    go_ret
    exact ⟨rfl, HB5.out⟩
  · cases h1 : right (112 :: (A.data.toList ++ B.data.toList)) with
    | false =>
      have P1 := Lib.hid (two_no HA.out HB.out h1)
      have P2 := Lib.hid (two_no HA.out HB.out ((right_kind (j := 115) (k := 112) rfl rfl (by decide) (by decide)).trans h1))
      have P3 := Lib.hid (two_no HA.out HB.out ((right_kind (j := 103) (k := 112) rfl rfl (by decide) (by decide)).trans h1))
      clear h1
      cases h2 : right (112 :: (C.data.toList ++ D.data.toList)) with
      | false =>
        have Q1 := Lib.hid (two_no HC.out HD.out h2)
        have Q2 := Lib.hid (two_no HC.out HD.out ((right_kind (j := 115) (k := 112) rfl rfl (by decide) (by decide)).trans h2))
        have Q3 := Lib.hid (two_no HC.out HD.out ((right_kind (j := 103) (k := 112) rfl rfl (by decide) (by decide)).trans h2))
        clear h2
        go_wp2_with fail
        refine (t_OfPair A B _ (by omega) (by omega)).mono ?_
        rw [P1.out]
        rintro e w6 ⟨⟨P, hT, rfl⟩, hb⟩
        dsimp only at hT ⊢
        have HB6 := Lib.hid (HB5.out.trans (hb.mono HB5.out.size))
        have HP := Lib.hid hT
        clear hT hb
        go_wp2_with fail
        refine (t_OfPair C D _ (by omega) (by omega)).mono ?_
        rw [Q1.out]
        rintro e w7 ⟨⟨Q, hT, rfl⟩, hb⟩
        dsimp only at hT ⊢
        have HB7 := Lib.hid (HB6.out.trans (hb.mono HB6.out.size))
        have HQ := Lib.hid hT
        clear hT hb
        go_wp2_with fail
        refine (t_Seal A B _ (by omega) (by omega)).mono ?_
        rw [P2.out]
        rintro e w8 ⟨⟨S, hT, rfl⟩, hb⟩
        dsimp only at hT ⊢
        have HB8 := Lib.hid (HB7.out.trans (hb.mono HB7.out.size))
        have HS := Lib.hid hT
        clear hT hb
        go_wp2_with fail
        refine (t_Seal C D _ (by omega) (by omega)).mono ?_
        rw [Q2.out]
        rintro e w9 ⟨⟨T, hT, rfl⟩, hb⟩
        dsimp only at hT ⊢
        have HB9 := Lib.hid (HB8.out.trans (hb.mono HB8.out.size))
        have HT := Lib.hid hT
        clear hT hb
        go_wp2_with fail
        refine (t_Sign A B _ (by omega) (by omega)).mono ?_
        rw [P3.out]
        rintro e w10 ⟨⟨U, hT, rfl⟩, hb⟩
        dsimp only at hT ⊢
        have HB10 := Lib.hid (HB9.out.trans (hb.mono HB9.out.size))
        have HU := Lib.hid hT
        clear hT hb
        go_wp2_with fail
        refine (t_Sign C D _ (by omega) (by omega)).mono ?_
        rw [Q3.out]
        rintro e w11 ⟨⟨V, hT, rfl⟩, hb⟩
        dsimp only at hT ⊢
        have HB11 := Lib.hid (HB10.out.trans (hb.mono HB10.out.size))
        have HV := Lib.hid hT
        clear hT hb
        go_wp2
        go_ret
        exact ⟨rfl, HB11.out⟩
      | true =>
        have Q1 := Lib.hid (two_yes HC.out HD.out h2)
        have Q2 := Lib.hid (two_yes HC.out HD.out ((right_kind (j := 115) (k := 112) rfl rfl (by decide) (by decide)).trans h2))
        have Q3 := Lib.hid (two_yes HC.out HD.out ((right_kind (j := 103) (k := 112) rfl rfl (by decide) (by decide)).trans h2))
        clear h2
        go_wp2_with fail
        refine (t_OfPair A B _ (by omega) (by omega)).mono ?_
        rw [P1.out]
        rintro e w6 ⟨⟨P, hT, rfl⟩, hb⟩
        dsimp only at hT ⊢
        have HB6 := Lib.hid (HB5.out.trans (hb.mono HB5.out.size))
        have HP := Lib.hid hT
        clear hT hb
        go_wp2_with fail
        refine (t_OfPair C D _ (by omega) (by omega)).mono ?_
        rw [Q1.out]
        rintro e w7 ⟨⟨Q, hT, rfl⟩, hb⟩
        dsimp only at hT ⊢
        have HB7 := Lib.hid (HB6.out.trans (hb.mono HB6.out.size))
        have HQ := Lib.hid hT
        clear hT hb
        go_wp2_with fail
        refine (t_Seal A B _ (by omega) (by omega)).mono ?_
        rw [P2.out]
        rintro e w8 ⟨⟨S, hT, rfl⟩, hb⟩
        dsimp only at hT ⊢
        have HB8 := Lib.hid (HB7.out.trans (hb.mono HB7.out.size))
        have HS := Lib.hid hT
        clear hT hb
        go_wp2_with fail
        refine (t_Seal C D _ (by omega) (by omega)).mono ?_
        rw [Q2.out]
        rintro e w9 ⟨⟨T, hT, rfl⟩, hb⟩
        dsimp only at hT ⊢
        have HB9 := Lib.hid (HB8.out.trans (hb.mono HB8.out.size))
        have HT := Lib.hid hT
        clear hT hb
        go_wp2_with fail
        refine (t_Sign A B _ (by omega) (by omega)).mono ?_
        rw [P3.out]
        rintro e w10 ⟨⟨U, hT, rfl⟩, hb⟩
        dsimp only at hT ⊢
        have HB10 := Lib.hid (HB9.out.trans (hb.mono HB9.out.size))
        have HU := Lib.hid hT
        clear hT hb
        go_wp2_with fail
        refine (t_Sign C D _ (by omega) (by omega)).mono ?_
        rw [Q3.out]
        rintro e w11 ⟨⟨V, hT, rfl⟩, hb⟩
        dsimp only at hT ⊢
        have HB11 := Lib.hid (HB10.out.trans (hb.mono HB10.out.size))
        have HV := Lib.hid hT
        clear hT hb
        go_wp2
        go_ret
        exact ⟨rfl, HB11.out⟩
    | true =>
      have P1 := Lib.hid (two_yes HA.out HB.out h1)
      have P2 := Lib.hid (two_yes HA.out HB.out ((right_kind (j := 115) (k := 112) rfl rfl (by decide) (by decide)).trans h1))
      have P3 := Lib.hid (two_yes HA.out HB.out ((right_kind (j := 103) (k := 112) rfl rfl (by decide) (by decide)).trans h1))
      have R1 := Lib.hid h1
      clear h1
      cases h2 : right (112 :: (C.data.toList ++ D.data.toList)) with
      | false =>
        have Q1 := Lib.hid (two_no HC.out HD.out h2)
        have Q2 := Lib.hid (two_no HC.out HD.out ((right_kind (j := 115) (k := 112) rfl rfl (by decide) (by decide)).trans h2))
        have Q3 := Lib.hid (two_no HC.out HD.out ((right_kind (j := 103) (k := 112) rfl rfl (by decide) (by decide)).trans h2))
        clear h2
        go_wp2_with fail
        refine (t_OfPair A B _ (by omega) (by omega)).mono ?_
        rw [P1.out]
        rintro e w6 ⟨⟨P, hT, rfl⟩, hb⟩
        dsimp only at hT ⊢
        have HB6 := Lib.hid (HB5.out.trans (hb.mono HB5.out.size))
        have HP := Lib.hid hT
        clear hT hb
        go_wp2_with fail
        refine (t_OfPair C D _ (by omega) (by omega)).mono ?_
        rw [Q1.out]
        rintro e w7 ⟨⟨Q, hT, rfl⟩, hb⟩
        dsimp only at hT ⊢
        have HB7 := Lib.hid (HB6.out.trans (hb.mono HB6.out.size))
        have HQ := Lib.hid hT
        clear hT hb
        go_wp2_with fail
        refine (t_Seal A B _ (by omega) (by omega)).mono ?_
        rw [P2.out]
        rintro e w8 ⟨⟨S, hT, rfl⟩, hb⟩
        dsimp only at hT ⊢
        have HB8 := Lib.hid (HB7.out.trans (hb.mono HB7.out.size))
        have HS := Lib.hid hT
        clear hT hb
        go_wp2_with fail
        refine (t_Seal C D _ (by omega) (by omega)).mono ?_
        rw [Q2.out]
        rintro e w9 ⟨⟨T, hT, rfl⟩, hb⟩
        dsimp only at hT ⊢
        have HB9 := Lib.hid (HB8.out.trans (hb.mono HB8.out.size))
        have HT := Lib.hid hT
        clear hT hb
        go_wp2_with fail
        refine (t_Sign A B _ (by omega) (by omega)).mono ?_
        rw [P3.out]
        rintro e w10 ⟨⟨U, hT, rfl⟩, hb⟩
        dsimp only at hT ⊢
        have HB10 := Lib.hid (HB9.out.trans (hb.mono HB9.out.size))
        have HU := Lib.hid hT
        clear hT hb
        go_wp2_with fail
        refine (t_Sign C D _ (by omega) (by omega)).mono ?_
        rw [Q3.out]
        rintro e w11 ⟨⟨V, hT, rfl⟩, hb⟩
        dsimp only at hT ⊢
        have HB11 := Lib.hid (HB10.out.trans (hb.mono HB10.out.size))
        have HV := Lib.hid hT
        clear hT hb
        go_wp2
        go_ret
        exact ⟨rfl, HB11.out⟩
      | true =>
        have Q1 := Lib.hid (two_yes HC.out HD.out h2)
        have Q2 := Lib.hid (two_yes HC.out HD.out ((right_kind (j := 115) (k := 112) rfl rfl (by decide) (by decide)).trans h2))
        have Q3 := Lib.hid (two_yes HC.out HD.out ((right_kind (j := 103) (k := 112) rfl rfl (by decide) (by decide)).trans h2))
        clear h2
        go_wp2_with fail
        refine (t_OfPair A B _ (by omega) (by omega)).mono ?_
        rw [P1.out]
        rintro e w6 ⟨⟨P, hT, rfl⟩, hb⟩
        dsimp only at hT ⊢
        have HB6 := Lib.hid (HB5.out.trans (hb.mono HB5.out.size))
        have HP := Lib.hid hT
        clear hT hb
        go_wp2_with fail
        refine (t_OfPair C D _ (by omega) (by omega)).mono ?_
        rw [Q1.out]
        rintro e w7 ⟨⟨Q, hT, rfl⟩, hb⟩
        dsimp only at hT ⊢
        have HB7 := Lib.hid (HB6.out.trans (hb.mono HB6.out.size))
        have HQ := Lib.hid hT
        clear hT hb
        go_wp2_with fail
        refine (t_Seal A B _ (by omega) (by omega)).mono ?_
        rw [P2.out]
        rintro e w8 ⟨⟨S, hT, rfl⟩, hb⟩
        dsimp only at hT ⊢
        have HB8 := Lib.hid (HB7.out.trans (hb.mono HB7.out.size))
        have HS := Lib.hid hT
        clear hT hb
        go_wp2_with fail
        refine (t_Seal C D _ (by omega) (by omega)).mono ?_
        rw [Q2.out]
        rintro e w9 ⟨⟨T, hT, rfl⟩, hb⟩
        dsimp only at hT ⊢
        have HB9 := Lib.hid (HB8.out.trans (hb.mono HB8.out.size))
        have HT := Lib.hid hT
        clear hT hb
        go_wp2_with fail
        refine (t_Sign A B _ (by omega) (by omega)).mono ?_
        rw [P3.out]
        rintro e w10 ⟨⟨U, hT, rfl⟩, hb⟩
        dsimp only at hT ⊢
        have HB10 := Lib.hid (HB9.out.trans (hb.mono HB9.out.size))
        have HU := Lib.hid hT
        clear hT hb
        go_wp2_with fail
        refine (t_Sign C D _ (by omega) (by omega)).mono ?_
        rw [Q3.out]
        rintro e w11 ⟨⟨V, hT, rfl⟩, hb⟩
        dsimp only at hT ⊢
        have HB11 := Lib.hid (HB10.out.trans (hb.mono HB10.out.size))
        have HV := Lib.hid hT
        clear hT hb
        have n1 : (P.toList == S.toList) = false := ne_bool (by rw [HP.out, HS.out]; simp)
        have n2 : (S.toList == U.toList) = false := ne_bool (by rw [HS.out, HU.out]; simp)
        have n3 : (P.toList == U.toList) = false := ne_bool (by rw [HP.out, HU.out]; simp)
        have hkP : Hid (kind P.data.toList = 112) := by show _ = _; rw [HP.out, kind_right R1.out]; rfl
        have hkS : Hid (kind S.data.toList = 115) := by show _ = _; rw [HS.out, kind_right ((right_kind (j := 115) (k := 112) rfl rfl (by decide) (by decide)).trans R1.out)]; rfl
        have hkU : Hid (kind U.data.toList = 103) := by show _ = _; rw [HU.out, kind_right ((right_kind (j := 103) (k := 112) rfl rfl (by decide) (by decide)).trans R1.out)]; rfl
        have hPz : P.size ≤ 4000 := (right_sz (by rw [HP.out]; exact R1.out)).2
        have hSz : S.size ≤ 4000 := (right_sz (by rw [HS.out]; exact (right_kind (j := 115) (k := 112) rfl rfl (by decide) (by decide)).trans R1.out)).2
        have hUz : U.size ≤ 4000 := (right_sz (by rw [HU.out]; exact (right_kind (j := 103) (k := 112) rfl rfl (by decide) (by decide)).trans R1.out)).2
        by_cases hac : A.data.toList = C.data.toList
        · have g1 := eq_bool hac
          by_cases hbd : B.data.toList = D.data.toList
          · have g2 := eq_bool hbd
            have q1 : (P.toList == Q.toList) = true := eq_bool (by rw [HP.out, HQ.out, hac, hbd])
            have q2 : (S.toList == T.toList) = true := eq_bool (by rw [HS.out, HT.out, hac, hbd])
            have q3 : (U.toList == V.toList) = true := eq_bool (by rw [HU.out, HV.out, hac, hbd])
            clear hac hbd
            go_wp2_with fail
            refine (t_Kind P _ (by omega)).mono ?_
            rw [hkP.out]
            rintro e w12 ⟨rfl, hb⟩
            have HB12 := Lib.hid (HB11.out.trans (hb.mono HB11.out.size))
            clear hb
            go_wp2_with fail
            refine (t_Kind S _ (by omega)).mono ?_
            rw [hkS.out]
            rintro e w13 ⟨rfl, hb⟩
            have HB13 := Lib.hid (HB12.out.trans (hb.mono HB12.out.size))
            clear hb
            go_wp2_with fail
            refine (t_Kind U _ (by omega)).mono ?_
            rw [hkU.out]
            rintro e w14 ⟨rfl, hb⟩
            have HB14 := Lib.hid (HB13.out.trans (hb.mono HB13.out.size))
            clear hb
            go_wp2
            go_ret
            exact ⟨rfl, HB14.out⟩
          · have g2 := ne_bool hbd
            have hx : ∀ k : UInt8, k :: (A.data.toList ++ B.data.toList) ≠ k :: (C.data.toList ++ D.data.toList) := fun k h => by
              injection h with _ h
              exact hbd (right_cut HA.out HC.out h).2
            have q1 : (P.toList == Q.toList) = false := ne_bool (by rw [HP.out, HQ.out]; exact hx 112)
            have q2 : (S.toList == T.toList) = false := ne_bool (by rw [HS.out, HT.out]; exact hx 115)
            have q3 : (U.toList == V.toList) = false := ne_bool (by rw [HU.out, HV.out]; exact hx 103)
            clear hac hbd hx
            go_wp2_with fail
            refine (t_Kind P _ (by omega)).mono ?_
            rw [hkP.out]
            rintro e w12 ⟨rfl, hb⟩
            have HB12 := Lib.hid (HB11.out.trans (hb.mono HB11.out.size))
            clear hb
            go_wp2_with fail
            refine (t_Kind S _ (by omega)).mono ?_
            rw [hkS.out]
            rintro e w13 ⟨rfl, hb⟩
            have HB13 := Lib.hid (HB12.out.trans (hb.mono HB12.out.size))
            clear hb
            go_wp2_with fail
            refine (t_Kind U _ (by omega)).mono ?_
            rw [hkU.out]
            rintro e w14 ⟨rfl, hb⟩
            have HB14 := Lib.hid (HB13.out.trans (hb.mono HB13.out.size))
            clear hb
            go_wp2
            go_ret
            exact ⟨rfl, HB14.out⟩
        · have g1 := ne_bool hac
          have hx : ∀ k : UInt8, k :: (A.data.toList ++ B.data.toList) ≠ k :: (C.data.toList ++ D.data.toList) := fun k h => by
            injection h with _ h
            exact hac (right_cut HA.out HC.out h).1
          have q1 : (P.toList == Q.toList) = false := ne_bool (by rw [HP.out, HQ.out]; exact hx 112)
          have q2 : (S.toList == T.toList) = false := ne_bool (by rw [HS.out, HT.out]; exact hx 115)
          have q3 : (U.toList == V.toList) = false := ne_bool (by rw [HU.out, HV.out]; exact hx 103)
          clear hac hx
          go_wp2_with fail
          refine (t_Kind P _ (by omega)).mono ?_
          rw [hkP.out]
          rintro e w12 ⟨rfl, hb⟩
          have HB12 := Lib.hid (HB11.out.trans (hb.mono HB11.out.size))
          clear hb
          go_wp2_with fail
          refine (t_Kind S _ (by omega)).mono ?_
          rw [hkS.out]
          rintro e w13 ⟨rfl, hb⟩
          have HB13 := Lib.hid (HB12.out.trans (hb.mono HB12.out.size))
          clear hb
          go_wp2_with fail
          refine (t_Kind U _ (by omega)).mono ?_
          rw [hkU.out]
          rintro e w14 ⟨rfl, hb⟩
          have HB14 := Lib.hid (HB13.out.trans (hb.mono HB13.out.size))
          clear hb
          go_wp2
          go_ret
          exact ⟨rfl, HB14.out⟩
end Go.Proofs.Ytgjjbeejfdkjdaa.Term
