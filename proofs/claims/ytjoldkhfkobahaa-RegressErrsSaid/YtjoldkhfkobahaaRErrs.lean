/-
  THE LAW RegressErrs, walked over what the code is held to. By an AI agent; no person has read it.
-/
import Derived.Test.YtjoldkhfkobahaaRSpec
import Derived.Test.YtjoldkhfkobahaaB2
namespace Go.Proofs.Ytjoldkhfkobahaa.Reg
open Go.RowKit Wire Term Clo Draw

theorem state_cases {t : List UInt8} (hr : right t = true) (ep : Int) : (ep < 0 ∧ state t ep = ([], 9)) ∨ (¬ ep < 0 ∧ 7 < ep ∧ state t ep = ([], 9)) ∨ (ep = 7 ∧ state t ep = (t, 0)) ∨
    (¬ ep < 0 ∧ ¬ 7 < ep ∧ (ep == 7) = false ∧ ∃ x, state t ep = (x, 0)) ∨ (¬ ep < 0 ∧ ¬ 7 < ep ∧ (ep == 7) = false ∧ state t ep = ([], 10)) := by
  by_cases h0 : ep < 0
  · exact .inl ⟨h0, state_out hr (by omega)⟩
  by_cases h7 : 7 < ep
  · exact .inr (.inl ⟨h0, h7, state_out hr (by omega)⟩)
  by_cases he : ep = 7
  · refine .inr (.inr (.inl ⟨he, ?_⟩))
    subst he
    rw [state_of hr (by omega) (by omega), back_of hr (by omega)]
    exact backN_yes (k := 0) hr
  · have hb : (ep == 7) = false := by rw [beq_eq_false_iff_ne]; exact he
    rw [state_of hr (by omega) (by omega), back_of hr (by omega)]
    rcases backN_cases t (7 - ep).toNat with ⟨_, h⟩ | ⟨_, h⟩
    · exact .inr (.inr (.inr (.inl ⟨h0, h7, hb, _, h⟩)))
    · exact .inr (.inr (.inr (.inr ⟨h0, h7, hb, h⟩)))
theorem back_cases {t : List UInt8} (hr : right t = true) (st : Int) : (st < 0 ∧ back t st = ([], 1)) ∨ (¬ st < 0 ∧ ∃ x, back t st = (x, 0)) ∨ (¬ st < 0 ∧ back t st = ([], 10)) := by
  by_cases h0 : st < 0
  · exact .inl ⟨h0, back_not (by omega)⟩
  rw [back_of hr (by omega)]
  rcases backN_cases t st.toNat with ⟨_, h⟩ | ⟨_, h⟩
  · exact .inr (.inl ⟨h0, _, h⟩)
  · exact .inr (.inr ⟨h0, h⟩)
theorem wrong_all6 {t : List UInt8} (hr : right t = false) (ep st : Int) : state t ep = ([], 1) ∧ back t st = ([], 1) ∧ key t = ([], 1) :=
  ⟨state_not (by rw [hr]; decide), back_not (fun h => by rw [hr] at h; exact absurd h.1 (by decide)), key_not (by rw [hr]; decide)⟩
set_option maxHeartbeats 8000000 in
set_option maxRecDepth 1000000 in
theorem errs_walk (ST : StateOK) (BK : BackOK) (KO : KeyOK) (a : Option Addr) (cap : Nat) (ys : List Int) (s : ByteArray) (ep st : Int) (w : World) (hz : s.size ≤ 140737488355328) (hr : IReads w a ys) (hep : -9223372036854775808 ≤ ep ∧ ep ≤ 9223372036854775807) (hst : -9223372036854775808 ≤ st ∧ st ≤ 9223372036854775807) :
    Calls Try.prog 8 #[.slice a ys.length cap, .string s, .int .i64 ep, .int .i64 st] w fun e w' => e = .returned (.bool true) ∧ Below w.heap.size w w' := by
  have HSH := Lib.hid (shown6_any BK w)
  have HST := Lib.hid fun s ep w h1 h2 => ST s ep w h1 h2
  have HBK := Lib.hid fun s st w h1 h2 => BK s st w h1 h2
  have HKO := Lib.hid fun s w h1 => KO s w h1
  have HR := Lib.hid hr
  have HEP := Lib.hid hep
  have HSP := Lib.hid hst
  clear ST BK KO hr hep hst
  by_cases hbig : (1000 : Int) < (s.size : Int)
  · go_enter Try.func8, Try.ntmps8
    go_wp2_with fail
    refine HSH.out.mono ?_
    rintro e w1 ⟨rfl, hb1⟩
    have HB1 := Lib.hid hb1
    clear hb1
    go_wp2
    go_ret
    exact ⟨rfl, HB1.out⟩
  go_enter Try.func8, Try.ntmps8
  go_wp2_with fail
  with_reducible refine (HSH.out).mono ?_
  rintro e w1 ⟨rfl, hb1⟩
  have HB1 := Lib.hid hb1
  clear hb1
  dsimp only
  go_wp2_with fail
  with_reducible refine (grown_any a cap ys _ (HR.out.below HB1.out (Nat.le_refl _))).mono ?_
  rintro e w2 ⟨⟨T, hTr, rfl⟩, hb2⟩
  have HB2 := Lib.hid (Bel.call HB1.out hb2)
  clear hb2
  have hTz := (right_sz hTr).2
  have HTR := Lib.hid hTr
  clear hTr
  dsimp only
  rcases state_cases HTR.out ep with ⟨h0, e1⟩ | ⟨h0, h7, e1⟩ | ⟨rfl, e1⟩ | ⟨h0, h7, hb7, x, e1⟩ | ⟨h0, h7, hb7, e1⟩
  · have E1 := Lib.hid e1
    clear e1
    rcases back_cases HTR.out st with ⟨g0, e2⟩ | ⟨g0, y, e2⟩ | ⟨g0, e2⟩
    · have E2 := Lib.hid e2
      clear e2
      go_wp2_with fail
      with_reducible refine (HST.out T ep _ (by omega) HEP.out).mono ?_
      rw [E1.out]
      rintro e w3 ⟨⟨P, hP, rfl⟩, hb3⟩
      have HB3 := Lib.hid (Bel.call HB2.out hb3)
      clear hb3
      obtain rfl : P = ⟨#[]⟩ := str_eq hP
      clear hP
      dsimp only
      go_wp2_with fail
      with_reducible refine (HBK.out T st _ (by omega) HSP.out).mono ?_
      rw [E2.out]
      rintro e w4 ⟨⟨Q, hQ, rfl⟩, hb4⟩
      have HB4 := Lib.hid (Bel.call HB3.out hb4)
      clear hb4
      obtain rfl : Q = ⟨#[]⟩ := str_eq hQ
      clear hQ
      dsimp only
      cases hrs : right s.data.toList with
      | true =>
        obtain ⟨kd, hkd⟩ : ∃ kd, kind s.data.toList = kd := ⟨_, rfl⟩
        have hkd0 : ¬ (kd : Int) = 0 := by have := Term.kind_pos hrs; rw [hkd] at this; omega
        have hkdb : ((kd : Int) == 0) = false := by simpa using hkd0
        have HK := Lib.hid hkd
        clear hkd hrs
        go_wp2_with fail
        with_reducible refine (t_Kind s _ hz).mono ?_
        rw [HK.out]
        rintro e w5 ⟨rfl, hb5⟩
        have HB5 := Lib.hid (Bel.call HB4.out hb5)
        clear hb5
        dsimp only
        go_wp2
        go_ret
        exact ⟨rfl, HB5.out⟩
      | false =>
        have HK : Hid (kind s.data.toList = 0) := kind_wrong hrs
        obtain ⟨e3, e4, e5⟩ := wrong_all6 hrs ep st
        have E3 := Lib.hid e3
        have E4 := Lib.hid e4
        have E5 := Lib.hid e5
        clear e3 e4 e5 hrs
        go_wp2_with fail
        with_reducible refine (t_Kind s _ hz).mono ?_
        rw [HK.out]
        rintro e w5 ⟨rfl, hb5⟩
        have HB5 := Lib.hid (Bel.call HB4.out hb5)
        clear hb5
        dsimp only
        go_wp2_with fail
        with_reducible refine (HST.out s ep _ hz HEP.out).mono ?_
        rw [E3.out]
        rintro e w6 ⟨⟨C, hC, rfl⟩, hb6⟩
        have HB6 := Lib.hid (Bel.call HB5.out hb6)
        clear hb6
        obtain rfl : C = ⟨#[]⟩ := str_eq hC
        clear hC
        dsimp only
        go_wp2_with fail
        with_reducible refine (HBK.out s st _ hz HSP.out).mono ?_
        rw [E4.out]
        rintro e w7 ⟨⟨D, hD, rfl⟩, hb7⟩
        have HB7 := Lib.hid (Bel.call HB6.out hb7)
        clear hb7
        obtain rfl : D = ⟨#[]⟩ := str_eq hD
        clear hD
        dsimp only
        go_wp2_with fail
        with_reducible refine (HKO.out s _ hz).mono ?_
        rw [E5.out]
        rintro e w8 ⟨⟨K, hK, rfl⟩, hb8⟩
        have HB8 := Lib.hid (Bel.call HB7.out hb8)
        clear hb8
        obtain rfl : K = ⟨#[]⟩ := str_eq hK
        clear hK
        dsimp only
        go_wp2
        go_ret
        exact ⟨rfl, HB8.out⟩
    · have E2 := Lib.hid e2
      clear e2
      go_wp2_with fail
      with_reducible refine (HST.out T ep _ (by omega) HEP.out).mono ?_
      rw [E1.out]
      rintro e w3 ⟨⟨P, hP, rfl⟩, hb3⟩
      have HB3 := Lib.hid (Bel.call HB2.out hb3)
      clear hb3
      obtain rfl : P = ⟨#[]⟩ := str_eq hP
      clear hP
      dsimp only
      go_wp2_with fail
      with_reducible refine (HBK.out T st _ (by omega) HSP.out).mono ?_
      rw [E2.out]
      rintro e w4 ⟨⟨Q, hQ, rfl⟩, hb4⟩
      have HB4 := Lib.hid (Bel.call HB3.out hb4)
      clear hb4
      clear hQ
      dsimp only
      cases hrs : right s.data.toList with
      | true =>
        obtain ⟨kd, hkd⟩ : ∃ kd, kind s.data.toList = kd := ⟨_, rfl⟩
        have hkd0 : ¬ (kd : Int) = 0 := by have := Term.kind_pos hrs; rw [hkd] at this; omega
        have hkdb : ((kd : Int) == 0) = false := by simpa using hkd0
        have HK := Lib.hid hkd
        clear hkd hrs
        go_wp2_with fail
        with_reducible refine (t_Kind s _ hz).mono ?_
        rw [HK.out]
        rintro e w5 ⟨rfl, hb5⟩
        have HB5 := Lib.hid (Bel.call HB4.out hb5)
        clear hb5
        dsimp only
        go_wp2
        go_ret
        exact ⟨rfl, HB5.out⟩
      | false =>
        have HK : Hid (kind s.data.toList = 0) := kind_wrong hrs
        obtain ⟨e3, e4, e5⟩ := wrong_all6 hrs ep st
        have E3 := Lib.hid e3
        have E4 := Lib.hid e4
        have E5 := Lib.hid e5
        clear e3 e4 e5 hrs
        go_wp2_with fail
        with_reducible refine (t_Kind s _ hz).mono ?_
        rw [HK.out]
        rintro e w5 ⟨rfl, hb5⟩
        have HB5 := Lib.hid (Bel.call HB4.out hb5)
        clear hb5
        dsimp only
        go_wp2_with fail
        with_reducible refine (HST.out s ep _ hz HEP.out).mono ?_
        rw [E3.out]
        rintro e w6 ⟨⟨C, hC, rfl⟩, hb6⟩
        have HB6 := Lib.hid (Bel.call HB5.out hb6)
        clear hb6
        obtain rfl : C = ⟨#[]⟩ := str_eq hC
        clear hC
        dsimp only
        go_wp2_with fail
        with_reducible refine (HBK.out s st _ hz HSP.out).mono ?_
        rw [E4.out]
        rintro e w7 ⟨⟨D, hD, rfl⟩, hb7⟩
        have HB7 := Lib.hid (Bel.call HB6.out hb7)
        clear hb7
        obtain rfl : D = ⟨#[]⟩ := str_eq hD
        clear hD
        dsimp only
        go_wp2_with fail
        with_reducible refine (HKO.out s _ hz).mono ?_
        rw [E5.out]
        rintro e w8 ⟨⟨K, hK, rfl⟩, hb8⟩
        have HB8 := Lib.hid (Bel.call HB7.out hb8)
        clear hb8
        obtain rfl : K = ⟨#[]⟩ := str_eq hK
        clear hK
        dsimp only
        go_wp2
        go_ret
        exact ⟨rfl, HB8.out⟩
    · have E2 := Lib.hid e2
      clear e2
      go_wp2_with fail
      with_reducible refine (HST.out T ep _ (by omega) HEP.out).mono ?_
      rw [E1.out]
      rintro e w3 ⟨⟨P, hP, rfl⟩, hb3⟩
      have HB3 := Lib.hid (Bel.call HB2.out hb3)
      clear hb3
      obtain rfl : P = ⟨#[]⟩ := str_eq hP
      clear hP
      dsimp only
      go_wp2_with fail
      with_reducible refine (HBK.out T st _ (by omega) HSP.out).mono ?_
      rw [E2.out]
      rintro e w4 ⟨⟨Q, hQ, rfl⟩, hb4⟩
      have HB4 := Lib.hid (Bel.call HB3.out hb4)
      clear hb4
      obtain rfl : Q = ⟨#[]⟩ := str_eq hQ
      clear hQ
      dsimp only
      cases hrs : right s.data.toList with
      | true =>
        obtain ⟨kd, hkd⟩ : ∃ kd, kind s.data.toList = kd := ⟨_, rfl⟩
        have hkd0 : ¬ (kd : Int) = 0 := by have := Term.kind_pos hrs; rw [hkd] at this; omega
        have hkdb : ((kd : Int) == 0) = false := by simpa using hkd0
        have HK := Lib.hid hkd
        clear hkd hrs
        go_wp2_with fail
        with_reducible refine (t_Kind s _ hz).mono ?_
        rw [HK.out]
        rintro e w5 ⟨rfl, hb5⟩
        have HB5 := Lib.hid (Bel.call HB4.out hb5)
        clear hb5
        dsimp only
        go_wp2
        go_ret
        exact ⟨rfl, HB5.out⟩
      | false =>
        have HK : Hid (kind s.data.toList = 0) := kind_wrong hrs
        obtain ⟨e3, e4, e5⟩ := wrong_all6 hrs ep st
        have E3 := Lib.hid e3
        have E4 := Lib.hid e4
        have E5 := Lib.hid e5
        clear e3 e4 e5 hrs
        go_wp2_with fail
        with_reducible refine (t_Kind s _ hz).mono ?_
        rw [HK.out]
        rintro e w5 ⟨rfl, hb5⟩
        have HB5 := Lib.hid (Bel.call HB4.out hb5)
        clear hb5
        dsimp only
        go_wp2_with fail
        with_reducible refine (HST.out s ep _ hz HEP.out).mono ?_
        rw [E3.out]
        rintro e w6 ⟨⟨C, hC, rfl⟩, hb6⟩
        have HB6 := Lib.hid (Bel.call HB5.out hb6)
        clear hb6
        obtain rfl : C = ⟨#[]⟩ := str_eq hC
        clear hC
        dsimp only
        go_wp2_with fail
        with_reducible refine (HBK.out s st _ hz HSP.out).mono ?_
        rw [E4.out]
        rintro e w7 ⟨⟨D, hD, rfl⟩, hb7⟩
        have HB7 := Lib.hid (Bel.call HB6.out hb7)
        clear hb7
        obtain rfl : D = ⟨#[]⟩ := str_eq hD
        clear hD
        dsimp only
        go_wp2_with fail
        with_reducible refine (HKO.out s _ hz).mono ?_
        rw [E5.out]
        rintro e w8 ⟨⟨K, hK, rfl⟩, hb8⟩
        have HB8 := Lib.hid (Bel.call HB7.out hb8)
        clear hb8
        obtain rfl : K = ⟨#[]⟩ := str_eq hK
        clear hK
        dsimp only
        go_wp2
        go_ret
        exact ⟨rfl, HB8.out⟩
  · have E1 := Lib.hid e1
    clear e1
    rcases back_cases HTR.out st with ⟨g0, e2⟩ | ⟨g0, y, e2⟩ | ⟨g0, e2⟩
    · have E2 := Lib.hid e2
      clear e2
      go_wp2_with fail
      with_reducible refine (HST.out T ep _ (by omega) HEP.out).mono ?_
      rw [E1.out]
      rintro e w3 ⟨⟨P, hP, rfl⟩, hb3⟩
      have HB3 := Lib.hid (Bel.call HB2.out hb3)
      clear hb3
      obtain rfl : P = ⟨#[]⟩ := str_eq hP
      clear hP
      dsimp only
      go_wp2_with fail
      with_reducible refine (HBK.out T st _ (by omega) HSP.out).mono ?_
      rw [E2.out]
      rintro e w4 ⟨⟨Q, hQ, rfl⟩, hb4⟩
      have HB4 := Lib.hid (Bel.call HB3.out hb4)
      clear hb4
      obtain rfl : Q = ⟨#[]⟩ := str_eq hQ
      clear hQ
      dsimp only
      cases hrs : right s.data.toList with
      | true =>
        obtain ⟨kd, hkd⟩ : ∃ kd, kind s.data.toList = kd := ⟨_, rfl⟩
        have hkd0 : ¬ (kd : Int) = 0 := by have := Term.kind_pos hrs; rw [hkd] at this; omega
        have hkdb : ((kd : Int) == 0) = false := by simpa using hkd0
        have HK := Lib.hid hkd
        clear hkd hrs
        go_wp2_with fail
        with_reducible refine (t_Kind s _ hz).mono ?_
        rw [HK.out]
        rintro e w5 ⟨rfl, hb5⟩
        have HB5 := Lib.hid (Bel.call HB4.out hb5)
        clear hb5
        dsimp only
        go_wp2
        go_ret
        exact ⟨rfl, HB5.out⟩
      | false =>
        have HK : Hid (kind s.data.toList = 0) := kind_wrong hrs
        obtain ⟨e3, e4, e5⟩ := wrong_all6 hrs ep st
        have E3 := Lib.hid e3
        have E4 := Lib.hid e4
        have E5 := Lib.hid e5
        clear e3 e4 e5 hrs
        go_wp2_with fail
        with_reducible refine (t_Kind s _ hz).mono ?_
        rw [HK.out]
        rintro e w5 ⟨rfl, hb5⟩
        have HB5 := Lib.hid (Bel.call HB4.out hb5)
        clear hb5
        dsimp only
        go_wp2_with fail
        with_reducible refine (HST.out s ep _ hz HEP.out).mono ?_
        rw [E3.out]
        rintro e w6 ⟨⟨C, hC, rfl⟩, hb6⟩
        have HB6 := Lib.hid (Bel.call HB5.out hb6)
        clear hb6
        obtain rfl : C = ⟨#[]⟩ := str_eq hC
        clear hC
        dsimp only
        go_wp2_with fail
        with_reducible refine (HBK.out s st _ hz HSP.out).mono ?_
        rw [E4.out]
        rintro e w7 ⟨⟨D, hD, rfl⟩, hb7⟩
        have HB7 := Lib.hid (Bel.call HB6.out hb7)
        clear hb7
        obtain rfl : D = ⟨#[]⟩ := str_eq hD
        clear hD
        dsimp only
        go_wp2_with fail
        with_reducible refine (HKO.out s _ hz).mono ?_
        rw [E5.out]
        rintro e w8 ⟨⟨K, hK, rfl⟩, hb8⟩
        have HB8 := Lib.hid (Bel.call HB7.out hb8)
        clear hb8
        obtain rfl : K = ⟨#[]⟩ := str_eq hK
        clear hK
        dsimp only
        go_wp2
        go_ret
        exact ⟨rfl, HB8.out⟩
    · have E2 := Lib.hid e2
      clear e2
      go_wp2_with fail
      with_reducible refine (HST.out T ep _ (by omega) HEP.out).mono ?_
      rw [E1.out]
      rintro e w3 ⟨⟨P, hP, rfl⟩, hb3⟩
      have HB3 := Lib.hid (Bel.call HB2.out hb3)
      clear hb3
      obtain rfl : P = ⟨#[]⟩ := str_eq hP
      clear hP
      dsimp only
      go_wp2_with fail
      with_reducible refine (HBK.out T st _ (by omega) HSP.out).mono ?_
      rw [E2.out]
      rintro e w4 ⟨⟨Q, hQ, rfl⟩, hb4⟩
      have HB4 := Lib.hid (Bel.call HB3.out hb4)
      clear hb4
      clear hQ
      dsimp only
      cases hrs : right s.data.toList with
      | true =>
        obtain ⟨kd, hkd⟩ : ∃ kd, kind s.data.toList = kd := ⟨_, rfl⟩
        have hkd0 : ¬ (kd : Int) = 0 := by have := Term.kind_pos hrs; rw [hkd] at this; omega
        have hkdb : ((kd : Int) == 0) = false := by simpa using hkd0
        have HK := Lib.hid hkd
        clear hkd hrs
        go_wp2_with fail
        with_reducible refine (t_Kind s _ hz).mono ?_
        rw [HK.out]
        rintro e w5 ⟨rfl, hb5⟩
        have HB5 := Lib.hid (Bel.call HB4.out hb5)
        clear hb5
        dsimp only
        go_wp2
        go_ret
        exact ⟨rfl, HB5.out⟩
      | false =>
        have HK : Hid (kind s.data.toList = 0) := kind_wrong hrs
        obtain ⟨e3, e4, e5⟩ := wrong_all6 hrs ep st
        have E3 := Lib.hid e3
        have E4 := Lib.hid e4
        have E5 := Lib.hid e5
        clear e3 e4 e5 hrs
        go_wp2_with fail
        with_reducible refine (t_Kind s _ hz).mono ?_
        rw [HK.out]
        rintro e w5 ⟨rfl, hb5⟩
        have HB5 := Lib.hid (Bel.call HB4.out hb5)
        clear hb5
        dsimp only
        go_wp2_with fail
        with_reducible refine (HST.out s ep _ hz HEP.out).mono ?_
        rw [E3.out]
        rintro e w6 ⟨⟨C, hC, rfl⟩, hb6⟩
        have HB6 := Lib.hid (Bel.call HB5.out hb6)
        clear hb6
        obtain rfl : C = ⟨#[]⟩ := str_eq hC
        clear hC
        dsimp only
        go_wp2_with fail
        with_reducible refine (HBK.out s st _ hz HSP.out).mono ?_
        rw [E4.out]
        rintro e w7 ⟨⟨D, hD, rfl⟩, hb7⟩
        have HB7 := Lib.hid (Bel.call HB6.out hb7)
        clear hb7
        obtain rfl : D = ⟨#[]⟩ := str_eq hD
        clear hD
        dsimp only
        go_wp2_with fail
        with_reducible refine (HKO.out s _ hz).mono ?_
        rw [E5.out]
        rintro e w8 ⟨⟨K, hK, rfl⟩, hb8⟩
        have HB8 := Lib.hid (Bel.call HB7.out hb8)
        clear hb8
        obtain rfl : K = ⟨#[]⟩ := str_eq hK
        clear hK
        dsimp only
        go_wp2
        go_ret
        exact ⟨rfl, HB8.out⟩
    · have E2 := Lib.hid e2
      clear e2
      go_wp2_with fail
      with_reducible refine (HST.out T ep _ (by omega) HEP.out).mono ?_
      rw [E1.out]
      rintro e w3 ⟨⟨P, hP, rfl⟩, hb3⟩
      have HB3 := Lib.hid (Bel.call HB2.out hb3)
      clear hb3
      obtain rfl : P = ⟨#[]⟩ := str_eq hP
      clear hP
      dsimp only
      go_wp2_with fail
      with_reducible refine (HBK.out T st _ (by omega) HSP.out).mono ?_
      rw [E2.out]
      rintro e w4 ⟨⟨Q, hQ, rfl⟩, hb4⟩
      have HB4 := Lib.hid (Bel.call HB3.out hb4)
      clear hb4
      obtain rfl : Q = ⟨#[]⟩ := str_eq hQ
      clear hQ
      dsimp only
      cases hrs : right s.data.toList with
      | true =>
        obtain ⟨kd, hkd⟩ : ∃ kd, kind s.data.toList = kd := ⟨_, rfl⟩
        have hkd0 : ¬ (kd : Int) = 0 := by have := Term.kind_pos hrs; rw [hkd] at this; omega
        have hkdb : ((kd : Int) == 0) = false := by simpa using hkd0
        have HK := Lib.hid hkd
        clear hkd hrs
        go_wp2_with fail
        with_reducible refine (t_Kind s _ hz).mono ?_
        rw [HK.out]
        rintro e w5 ⟨rfl, hb5⟩
        have HB5 := Lib.hid (Bel.call HB4.out hb5)
        clear hb5
        dsimp only
        go_wp2
        go_ret
        exact ⟨rfl, HB5.out⟩
      | false =>
        have HK : Hid (kind s.data.toList = 0) := kind_wrong hrs
        obtain ⟨e3, e4, e5⟩ := wrong_all6 hrs ep st
        have E3 := Lib.hid e3
        have E4 := Lib.hid e4
        have E5 := Lib.hid e5
        clear e3 e4 e5 hrs
        go_wp2_with fail
        with_reducible refine (t_Kind s _ hz).mono ?_
        rw [HK.out]
        rintro e w5 ⟨rfl, hb5⟩
        have HB5 := Lib.hid (Bel.call HB4.out hb5)
        clear hb5
        dsimp only
        go_wp2_with fail
        with_reducible refine (HST.out s ep _ hz HEP.out).mono ?_
        rw [E3.out]
        rintro e w6 ⟨⟨C, hC, rfl⟩, hb6⟩
        have HB6 := Lib.hid (Bel.call HB5.out hb6)
        clear hb6
        obtain rfl : C = ⟨#[]⟩ := str_eq hC
        clear hC
        dsimp only
        go_wp2_with fail
        with_reducible refine (HBK.out s st _ hz HSP.out).mono ?_
        rw [E4.out]
        rintro e w7 ⟨⟨D, hD, rfl⟩, hb7⟩
        have HB7 := Lib.hid (Bel.call HB6.out hb7)
        clear hb7
        obtain rfl : D = ⟨#[]⟩ := str_eq hD
        clear hD
        dsimp only
        go_wp2_with fail
        with_reducible refine (HKO.out s _ hz).mono ?_
        rw [E5.out]
        rintro e w8 ⟨⟨K, hK, rfl⟩, hb8⟩
        have HB8 := Lib.hid (Bel.call HB7.out hb8)
        clear hb8
        obtain rfl : K = ⟨#[]⟩ := str_eq hK
        clear hK
        dsimp only
        go_wp2
        go_ret
        exact ⟨rfl, HB8.out⟩
  · have E1 := Lib.hid e1
    clear e1
    rcases back_cases HTR.out st with ⟨g0, e2⟩ | ⟨g0, y, e2⟩ | ⟨g0, e2⟩
    · have E2 := Lib.hid e2
      clear e2
      go_wp2_with fail
      with_reducible refine (HST.out T 7 _ (by omega) HEP.out).mono ?_
      rw [E1.out]
      rintro e w3 ⟨⟨P, hP, rfl⟩, hb3⟩
      have HB3 := Lib.hid (Bel.call HB2.out hb3)
      clear hb3
      obtain rfl : T = P := str_eq hP.symm
      clear hP
      dsimp only
      go_wp2_with fail
      with_reducible refine (HBK.out T st _ (by omega) HSP.out).mono ?_
      rw [E2.out]
      rintro e w4 ⟨⟨Q, hQ, rfl⟩, hb4⟩
      have HB4 := Lib.hid (Bel.call HB3.out hb4)
      clear hb4
      obtain rfl : Q = ⟨#[]⟩ := str_eq hQ
      clear hQ
      dsimp only
      cases hrs : right s.data.toList with
      | true =>
        obtain ⟨kd, hkd⟩ : ∃ kd, kind s.data.toList = kd := ⟨_, rfl⟩
        have hkd0 : ¬ (kd : Int) = 0 := by have := Term.kind_pos hrs; rw [hkd] at this; omega
        have hkdb : ((kd : Int) == 0) = false := by simpa using hkd0
        have HK := Lib.hid hkd
        clear hkd hrs
        go_wp2_with fail
        with_reducible refine (t_Kind s _ hz).mono ?_
        rw [HK.out]
        rintro e w5 ⟨rfl, hb5⟩
        have HB5 := Lib.hid (Bel.call HB4.out hb5)
        clear hb5
        dsimp only
        go_wp2
        go_ret
        exact ⟨rfl, HB5.out⟩
      | false =>
        have HK : Hid (kind s.data.toList = 0) := kind_wrong hrs
        obtain ⟨e3, e4, e5⟩ := wrong_all6 hrs 7 st
        have E3 := Lib.hid e3
        have E4 := Lib.hid e4
        have E5 := Lib.hid e5
        clear e3 e4 e5 hrs
        go_wp2_with fail
        with_reducible refine (t_Kind s _ hz).mono ?_
        rw [HK.out]
        rintro e w5 ⟨rfl, hb5⟩
        have HB5 := Lib.hid (Bel.call HB4.out hb5)
        clear hb5
        dsimp only
        go_wp2_with fail
        with_reducible refine (HST.out s 7 _ hz HEP.out).mono ?_
        rw [E3.out]
        rintro e w6 ⟨⟨C, hC, rfl⟩, hb6⟩
        have HB6 := Lib.hid (Bel.call HB5.out hb6)
        clear hb6
        obtain rfl : C = ⟨#[]⟩ := str_eq hC
        clear hC
        dsimp only
        go_wp2_with fail
        with_reducible refine (HBK.out s st _ hz HSP.out).mono ?_
        rw [E4.out]
        rintro e w7 ⟨⟨D, hD, rfl⟩, hb7⟩
        have HB7 := Lib.hid (Bel.call HB6.out hb7)
        clear hb7
        obtain rfl : D = ⟨#[]⟩ := str_eq hD
        clear hD
        dsimp only
        go_wp2_with fail
        with_reducible refine (HKO.out s _ hz).mono ?_
        rw [E5.out]
        rintro e w8 ⟨⟨K, hK, rfl⟩, hb8⟩
        have HB8 := Lib.hid (Bel.call HB7.out hb8)
        clear hb8
        obtain rfl : K = ⟨#[]⟩ := str_eq hK
        clear hK
        dsimp only
        go_wp2
        go_ret
        exact ⟨rfl, HB8.out⟩
    · have E2 := Lib.hid e2
      clear e2
      go_wp2_with fail
      with_reducible refine (HST.out T 7 _ (by omega) HEP.out).mono ?_
      rw [E1.out]
      rintro e w3 ⟨⟨P, hP, rfl⟩, hb3⟩
      have HB3 := Lib.hid (Bel.call HB2.out hb3)
      clear hb3
      obtain rfl : T = P := str_eq hP.symm
      clear hP
      dsimp only
      go_wp2_with fail
      with_reducible refine (HBK.out T st _ (by omega) HSP.out).mono ?_
      rw [E2.out]
      rintro e w4 ⟨⟨Q, hQ, rfl⟩, hb4⟩
      have HB4 := Lib.hid (Bel.call HB3.out hb4)
      clear hb4
      clear hQ
      dsimp only
      cases hrs : right s.data.toList with
      | true =>
        obtain ⟨kd, hkd⟩ : ∃ kd, kind s.data.toList = kd := ⟨_, rfl⟩
        have hkd0 : ¬ (kd : Int) = 0 := by have := Term.kind_pos hrs; rw [hkd] at this; omega
        have hkdb : ((kd : Int) == 0) = false := by simpa using hkd0
        have HK := Lib.hid hkd
        clear hkd hrs
        go_wp2_with fail
        with_reducible refine (t_Kind s _ hz).mono ?_
        rw [HK.out]
        rintro e w5 ⟨rfl, hb5⟩
        have HB5 := Lib.hid (Bel.call HB4.out hb5)
        clear hb5
        dsimp only
        go_wp2
        go_ret
        exact ⟨rfl, HB5.out⟩
      | false =>
        have HK : Hid (kind s.data.toList = 0) := kind_wrong hrs
        obtain ⟨e3, e4, e5⟩ := wrong_all6 hrs 7 st
        have E3 := Lib.hid e3
        have E4 := Lib.hid e4
        have E5 := Lib.hid e5
        clear e3 e4 e5 hrs
        go_wp2_with fail
        with_reducible refine (t_Kind s _ hz).mono ?_
        rw [HK.out]
        rintro e w5 ⟨rfl, hb5⟩
        have HB5 := Lib.hid (Bel.call HB4.out hb5)
        clear hb5
        dsimp only
        go_wp2_with fail
        with_reducible refine (HST.out s 7 _ hz HEP.out).mono ?_
        rw [E3.out]
        rintro e w6 ⟨⟨C, hC, rfl⟩, hb6⟩
        have HB6 := Lib.hid (Bel.call HB5.out hb6)
        clear hb6
        obtain rfl : C = ⟨#[]⟩ := str_eq hC
        clear hC
        dsimp only
        go_wp2_with fail
        with_reducible refine (HBK.out s st _ hz HSP.out).mono ?_
        rw [E4.out]
        rintro e w7 ⟨⟨D, hD, rfl⟩, hb7⟩
        have HB7 := Lib.hid (Bel.call HB6.out hb7)
        clear hb7
        obtain rfl : D = ⟨#[]⟩ := str_eq hD
        clear hD
        dsimp only
        go_wp2_with fail
        with_reducible refine (HKO.out s _ hz).mono ?_
        rw [E5.out]
        rintro e w8 ⟨⟨K, hK, rfl⟩, hb8⟩
        have HB8 := Lib.hid (Bel.call HB7.out hb8)
        clear hb8
        obtain rfl : K = ⟨#[]⟩ := str_eq hK
        clear hK
        dsimp only
        go_wp2
        go_ret
        exact ⟨rfl, HB8.out⟩
    · have E2 := Lib.hid e2
      clear e2
      go_wp2_with fail
      with_reducible refine (HST.out T 7 _ (by omega) HEP.out).mono ?_
      rw [E1.out]
      rintro e w3 ⟨⟨P, hP, rfl⟩, hb3⟩
      have HB3 := Lib.hid (Bel.call HB2.out hb3)
      clear hb3
      obtain rfl : T = P := str_eq hP.symm
      clear hP
      dsimp only
      go_wp2_with fail
      with_reducible refine (HBK.out T st _ (by omega) HSP.out).mono ?_
      rw [E2.out]
      rintro e w4 ⟨⟨Q, hQ, rfl⟩, hb4⟩
      have HB4 := Lib.hid (Bel.call HB3.out hb4)
      clear hb4
      obtain rfl : Q = ⟨#[]⟩ := str_eq hQ
      clear hQ
      dsimp only
      cases hrs : right s.data.toList with
      | true =>
        obtain ⟨kd, hkd⟩ : ∃ kd, kind s.data.toList = kd := ⟨_, rfl⟩
        have hkd0 : ¬ (kd : Int) = 0 := by have := Term.kind_pos hrs; rw [hkd] at this; omega
        have hkdb : ((kd : Int) == 0) = false := by simpa using hkd0
        have HK := Lib.hid hkd
        clear hkd hrs
        go_wp2_with fail
        with_reducible refine (t_Kind s _ hz).mono ?_
        rw [HK.out]
        rintro e w5 ⟨rfl, hb5⟩
        have HB5 := Lib.hid (Bel.call HB4.out hb5)
        clear hb5
        dsimp only
        go_wp2
        go_ret
        exact ⟨rfl, HB5.out⟩
      | false =>
        have HK : Hid (kind s.data.toList = 0) := kind_wrong hrs
        obtain ⟨e3, e4, e5⟩ := wrong_all6 hrs 7 st
        have E3 := Lib.hid e3
        have E4 := Lib.hid e4
        have E5 := Lib.hid e5
        clear e3 e4 e5 hrs
        go_wp2_with fail
        with_reducible refine (t_Kind s _ hz).mono ?_
        rw [HK.out]
        rintro e w5 ⟨rfl, hb5⟩
        have HB5 := Lib.hid (Bel.call HB4.out hb5)
        clear hb5
        dsimp only
        go_wp2_with fail
        with_reducible refine (HST.out s 7 _ hz HEP.out).mono ?_
        rw [E3.out]
        rintro e w6 ⟨⟨C, hC, rfl⟩, hb6⟩
        have HB6 := Lib.hid (Bel.call HB5.out hb6)
        clear hb6
        obtain rfl : C = ⟨#[]⟩ := str_eq hC
        clear hC
        dsimp only
        go_wp2_with fail
        with_reducible refine (HBK.out s st _ hz HSP.out).mono ?_
        rw [E4.out]
        rintro e w7 ⟨⟨D, hD, rfl⟩, hb7⟩
        have HB7 := Lib.hid (Bel.call HB6.out hb7)
        clear hb7
        obtain rfl : D = ⟨#[]⟩ := str_eq hD
        clear hD
        dsimp only
        go_wp2_with fail
        with_reducible refine (HKO.out s _ hz).mono ?_
        rw [E5.out]
        rintro e w8 ⟨⟨K, hK, rfl⟩, hb8⟩
        have HB8 := Lib.hid (Bel.call HB7.out hb8)
        clear hb8
        obtain rfl : K = ⟨#[]⟩ := str_eq hK
        clear hK
        dsimp only
        go_wp2
        go_ret
        exact ⟨rfl, HB8.out⟩
  · have E1 := Lib.hid e1
    clear e1
    rcases back_cases HTR.out st with ⟨g0, e2⟩ | ⟨g0, y, e2⟩ | ⟨g0, e2⟩
    · have E2 := Lib.hid e2
      clear e2
      go_wp2_with fail
      with_reducible refine (HST.out T ep _ (by omega) HEP.out).mono ?_
      rw [E1.out]
      rintro e w3 ⟨⟨P, hP, rfl⟩, hb3⟩
      have HB3 := Lib.hid (Bel.call HB2.out hb3)
      clear hb3
      clear hP
      dsimp only
      go_wp2_with fail
      with_reducible refine (HBK.out T st _ (by omega) HSP.out).mono ?_
      rw [E2.out]
      rintro e w4 ⟨⟨Q, hQ, rfl⟩, hb4⟩
      have HB4 := Lib.hid (Bel.call HB3.out hb4)
      clear hb4
      obtain rfl : Q = ⟨#[]⟩ := str_eq hQ
      clear hQ
      dsimp only
      cases hrs : right s.data.toList with
      | true =>
        obtain ⟨kd, hkd⟩ : ∃ kd, kind s.data.toList = kd := ⟨_, rfl⟩
        have hkd0 : ¬ (kd : Int) = 0 := by have := Term.kind_pos hrs; rw [hkd] at this; omega
        have hkdb : ((kd : Int) == 0) = false := by simpa using hkd0
        have HK := Lib.hid hkd
        clear hkd hrs
        go_wp2_with fail
        with_reducible refine (t_Kind s _ hz).mono ?_
        rw [HK.out]
        rintro e w5 ⟨rfl, hb5⟩
        have HB5 := Lib.hid (Bel.call HB4.out hb5)
        clear hb5
        dsimp only
        go_wp2
        go_ret
        exact ⟨rfl, HB5.out⟩
      | false =>
        have HK : Hid (kind s.data.toList = 0) := kind_wrong hrs
        obtain ⟨e3, e4, e5⟩ := wrong_all6 hrs ep st
        have E3 := Lib.hid e3
        have E4 := Lib.hid e4
        have E5 := Lib.hid e5
        clear e3 e4 e5 hrs
        go_wp2_with fail
        with_reducible refine (t_Kind s _ hz).mono ?_
        rw [HK.out]
        rintro e w5 ⟨rfl, hb5⟩
        have HB5 := Lib.hid (Bel.call HB4.out hb5)
        clear hb5
        dsimp only
        go_wp2_with fail
        with_reducible refine (HST.out s ep _ hz HEP.out).mono ?_
        rw [E3.out]
        rintro e w6 ⟨⟨C, hC, rfl⟩, hb6⟩
        have HB6 := Lib.hid (Bel.call HB5.out hb6)
        clear hb6
        obtain rfl : C = ⟨#[]⟩ := str_eq hC
        clear hC
        dsimp only
        go_wp2_with fail
        with_reducible refine (HBK.out s st _ hz HSP.out).mono ?_
        rw [E4.out]
        rintro e w7 ⟨⟨D, hD, rfl⟩, hb7⟩
        have HB7 := Lib.hid (Bel.call HB6.out hb7)
        clear hb7
        obtain rfl : D = ⟨#[]⟩ := str_eq hD
        clear hD
        dsimp only
        go_wp2_with fail
        with_reducible refine (HKO.out s _ hz).mono ?_
        rw [E5.out]
        rintro e w8 ⟨⟨K, hK, rfl⟩, hb8⟩
        have HB8 := Lib.hid (Bel.call HB7.out hb8)
        clear hb8
        obtain rfl : K = ⟨#[]⟩ := str_eq hK
        clear hK
        dsimp only
        go_wp2
        go_ret
        exact ⟨rfl, HB8.out⟩
    · have E2 := Lib.hid e2
      clear e2
      go_wp2_with fail
      with_reducible refine (HST.out T ep _ (by omega) HEP.out).mono ?_
      rw [E1.out]
      rintro e w3 ⟨⟨P, hP, rfl⟩, hb3⟩
      have HB3 := Lib.hid (Bel.call HB2.out hb3)
      clear hb3
      clear hP
      dsimp only
      go_wp2_with fail
      with_reducible refine (HBK.out T st _ (by omega) HSP.out).mono ?_
      rw [E2.out]
      rintro e w4 ⟨⟨Q, hQ, rfl⟩, hb4⟩
      have HB4 := Lib.hid (Bel.call HB3.out hb4)
      clear hb4
      clear hQ
      dsimp only
      cases hrs : right s.data.toList with
      | true =>
        obtain ⟨kd, hkd⟩ : ∃ kd, kind s.data.toList = kd := ⟨_, rfl⟩
        have hkd0 : ¬ (kd : Int) = 0 := by have := Term.kind_pos hrs; rw [hkd] at this; omega
        have hkdb : ((kd : Int) == 0) = false := by simpa using hkd0
        have HK := Lib.hid hkd
        clear hkd hrs
        go_wp2_with fail
        with_reducible refine (t_Kind s _ hz).mono ?_
        rw [HK.out]
        rintro e w5 ⟨rfl, hb5⟩
        have HB5 := Lib.hid (Bel.call HB4.out hb5)
        clear hb5
        dsimp only
        go_wp2
        go_ret
        exact ⟨rfl, HB5.out⟩
      | false =>
        have HK : Hid (kind s.data.toList = 0) := kind_wrong hrs
        obtain ⟨e3, e4, e5⟩ := wrong_all6 hrs ep st
        have E3 := Lib.hid e3
        have E4 := Lib.hid e4
        have E5 := Lib.hid e5
        clear e3 e4 e5 hrs
        go_wp2_with fail
        with_reducible refine (t_Kind s _ hz).mono ?_
        rw [HK.out]
        rintro e w5 ⟨rfl, hb5⟩
        have HB5 := Lib.hid (Bel.call HB4.out hb5)
        clear hb5
        dsimp only
        go_wp2_with fail
        with_reducible refine (HST.out s ep _ hz HEP.out).mono ?_
        rw [E3.out]
        rintro e w6 ⟨⟨C, hC, rfl⟩, hb6⟩
        have HB6 := Lib.hid (Bel.call HB5.out hb6)
        clear hb6
        obtain rfl : C = ⟨#[]⟩ := str_eq hC
        clear hC
        dsimp only
        go_wp2_with fail
        with_reducible refine (HBK.out s st _ hz HSP.out).mono ?_
        rw [E4.out]
        rintro e w7 ⟨⟨D, hD, rfl⟩, hb7⟩
        have HB7 := Lib.hid (Bel.call HB6.out hb7)
        clear hb7
        obtain rfl : D = ⟨#[]⟩ := str_eq hD
        clear hD
        dsimp only
        go_wp2_with fail
        with_reducible refine (HKO.out s _ hz).mono ?_
        rw [E5.out]
        rintro e w8 ⟨⟨K, hK, rfl⟩, hb8⟩
        have HB8 := Lib.hid (Bel.call HB7.out hb8)
        clear hb8
        obtain rfl : K = ⟨#[]⟩ := str_eq hK
        clear hK
        dsimp only
        go_wp2
        go_ret
        exact ⟨rfl, HB8.out⟩
    · have E2 := Lib.hid e2
      clear e2
      go_wp2_with fail
      with_reducible refine (HST.out T ep _ (by omega) HEP.out).mono ?_
      rw [E1.out]
      rintro e w3 ⟨⟨P, hP, rfl⟩, hb3⟩
      have HB3 := Lib.hid (Bel.call HB2.out hb3)
      clear hb3
      clear hP
      dsimp only
      go_wp2_with fail
      with_reducible refine (HBK.out T st _ (by omega) HSP.out).mono ?_
      rw [E2.out]
      rintro e w4 ⟨⟨Q, hQ, rfl⟩, hb4⟩
      have HB4 := Lib.hid (Bel.call HB3.out hb4)
      clear hb4
      obtain rfl : Q = ⟨#[]⟩ := str_eq hQ
      clear hQ
      dsimp only
      cases hrs : right s.data.toList with
      | true =>
        obtain ⟨kd, hkd⟩ : ∃ kd, kind s.data.toList = kd := ⟨_, rfl⟩
        have hkd0 : ¬ (kd : Int) = 0 := by have := Term.kind_pos hrs; rw [hkd] at this; omega
        have hkdb : ((kd : Int) == 0) = false := by simpa using hkd0
        have HK := Lib.hid hkd
        clear hkd hrs
        go_wp2_with fail
        with_reducible refine (t_Kind s _ hz).mono ?_
        rw [HK.out]
        rintro e w5 ⟨rfl, hb5⟩
        have HB5 := Lib.hid (Bel.call HB4.out hb5)
        clear hb5
        dsimp only
        go_wp2
        go_ret
        exact ⟨rfl, HB5.out⟩
      | false =>
        have HK : Hid (kind s.data.toList = 0) := kind_wrong hrs
        obtain ⟨e3, e4, e5⟩ := wrong_all6 hrs ep st
        have E3 := Lib.hid e3
        have E4 := Lib.hid e4
        have E5 := Lib.hid e5
        clear e3 e4 e5 hrs
        go_wp2_with fail
        with_reducible refine (t_Kind s _ hz).mono ?_
        rw [HK.out]
        rintro e w5 ⟨rfl, hb5⟩
        have HB5 := Lib.hid (Bel.call HB4.out hb5)
        clear hb5
        dsimp only
        go_wp2_with fail
        with_reducible refine (HST.out s ep _ hz HEP.out).mono ?_
        rw [E3.out]
        rintro e w6 ⟨⟨C, hC, rfl⟩, hb6⟩
        have HB6 := Lib.hid (Bel.call HB5.out hb6)
        clear hb6
        obtain rfl : C = ⟨#[]⟩ := str_eq hC
        clear hC
        dsimp only
        go_wp2_with fail
        with_reducible refine (HBK.out s st _ hz HSP.out).mono ?_
        rw [E4.out]
        rintro e w7 ⟨⟨D, hD, rfl⟩, hb7⟩
        have HB7 := Lib.hid (Bel.call HB6.out hb7)
        clear hb7
        obtain rfl : D = ⟨#[]⟩ := str_eq hD
        clear hD
        dsimp only
        go_wp2_with fail
        with_reducible refine (HKO.out s _ hz).mono ?_
        rw [E5.out]
        rintro e w8 ⟨⟨K, hK, rfl⟩, hb8⟩
        have HB8 := Lib.hid (Bel.call HB7.out hb8)
        clear hb8
        obtain rfl : K = ⟨#[]⟩ := str_eq hK
        clear hK
        dsimp only
        go_wp2
        go_ret
        exact ⟨rfl, HB8.out⟩
  · have E1 := Lib.hid e1
    clear e1
    rcases back_cases HTR.out st with ⟨g0, e2⟩ | ⟨g0, y, e2⟩ | ⟨g0, e2⟩
    · have E2 := Lib.hid e2
      clear e2
      go_wp2_with fail
      with_reducible refine (HST.out T ep _ (by omega) HEP.out).mono ?_
      rw [E1.out]
      rintro e w3 ⟨⟨P, hP, rfl⟩, hb3⟩
      have HB3 := Lib.hid (Bel.call HB2.out hb3)
      clear hb3
      obtain rfl : P = ⟨#[]⟩ := str_eq hP
      clear hP
      dsimp only
      go_wp2_with fail
      with_reducible refine (HBK.out T st _ (by omega) HSP.out).mono ?_
      rw [E2.out]
      rintro e w4 ⟨⟨Q, hQ, rfl⟩, hb4⟩
      have HB4 := Lib.hid (Bel.call HB3.out hb4)
      clear hb4
      obtain rfl : Q = ⟨#[]⟩ := str_eq hQ
      clear hQ
      dsimp only
      cases hrs : right s.data.toList with
      | true =>
        obtain ⟨kd, hkd⟩ : ∃ kd, kind s.data.toList = kd := ⟨_, rfl⟩
        have hkd0 : ¬ (kd : Int) = 0 := by have := Term.kind_pos hrs; rw [hkd] at this; omega
        have hkdb : ((kd : Int) == 0) = false := by simpa using hkd0
        have HK := Lib.hid hkd
        clear hkd hrs
        go_wp2_with fail
        with_reducible refine (t_Kind s _ hz).mono ?_
        rw [HK.out]
        rintro e w5 ⟨rfl, hb5⟩
        have HB5 := Lib.hid (Bel.call HB4.out hb5)
        clear hb5
        dsimp only
        go_wp2
        go_ret
        exact ⟨rfl, HB5.out⟩
      | false =>
        have HK : Hid (kind s.data.toList = 0) := kind_wrong hrs
        obtain ⟨e3, e4, e5⟩ := wrong_all6 hrs ep st
        have E3 := Lib.hid e3
        have E4 := Lib.hid e4
        have E5 := Lib.hid e5
        clear e3 e4 e5 hrs
        go_wp2_with fail
        with_reducible refine (t_Kind s _ hz).mono ?_
        rw [HK.out]
        rintro e w5 ⟨rfl, hb5⟩
        have HB5 := Lib.hid (Bel.call HB4.out hb5)
        clear hb5
        dsimp only
        go_wp2_with fail
        with_reducible refine (HST.out s ep _ hz HEP.out).mono ?_
        rw [E3.out]
        rintro e w6 ⟨⟨C, hC, rfl⟩, hb6⟩
        have HB6 := Lib.hid (Bel.call HB5.out hb6)
        clear hb6
        obtain rfl : C = ⟨#[]⟩ := str_eq hC
        clear hC
        dsimp only
        go_wp2_with fail
        with_reducible refine (HBK.out s st _ hz HSP.out).mono ?_
        rw [E4.out]
        rintro e w7 ⟨⟨D, hD, rfl⟩, hb7⟩
        have HB7 := Lib.hid (Bel.call HB6.out hb7)
        clear hb7
        obtain rfl : D = ⟨#[]⟩ := str_eq hD
        clear hD
        dsimp only
        go_wp2_with fail
        with_reducible refine (HKO.out s _ hz).mono ?_
        rw [E5.out]
        rintro e w8 ⟨⟨K, hK, rfl⟩, hb8⟩
        have HB8 := Lib.hid (Bel.call HB7.out hb8)
        clear hb8
        obtain rfl : K = ⟨#[]⟩ := str_eq hK
        clear hK
        dsimp only
        go_wp2
        go_ret
        exact ⟨rfl, HB8.out⟩
    · have E2 := Lib.hid e2
      clear e2
      go_wp2_with fail
      with_reducible refine (HST.out T ep _ (by omega) HEP.out).mono ?_
      rw [E1.out]
      rintro e w3 ⟨⟨P, hP, rfl⟩, hb3⟩
      have HB3 := Lib.hid (Bel.call HB2.out hb3)
      clear hb3
      obtain rfl : P = ⟨#[]⟩ := str_eq hP
      clear hP
      dsimp only
      go_wp2_with fail
      with_reducible refine (HBK.out T st _ (by omega) HSP.out).mono ?_
      rw [E2.out]
      rintro e w4 ⟨⟨Q, hQ, rfl⟩, hb4⟩
      have HB4 := Lib.hid (Bel.call HB3.out hb4)
      clear hb4
      clear hQ
      dsimp only
      cases hrs : right s.data.toList with
      | true =>
        obtain ⟨kd, hkd⟩ : ∃ kd, kind s.data.toList = kd := ⟨_, rfl⟩
        have hkd0 : ¬ (kd : Int) = 0 := by have := Term.kind_pos hrs; rw [hkd] at this; omega
        have hkdb : ((kd : Int) == 0) = false := by simpa using hkd0
        have HK := Lib.hid hkd
        clear hkd hrs
        go_wp2_with fail
        with_reducible refine (t_Kind s _ hz).mono ?_
        rw [HK.out]
        rintro e w5 ⟨rfl, hb5⟩
        have HB5 := Lib.hid (Bel.call HB4.out hb5)
        clear hb5
        dsimp only
        go_wp2
        go_ret
        exact ⟨rfl, HB5.out⟩
      | false =>
        have HK : Hid (kind s.data.toList = 0) := kind_wrong hrs
        obtain ⟨e3, e4, e5⟩ := wrong_all6 hrs ep st
        have E3 := Lib.hid e3
        have E4 := Lib.hid e4
        have E5 := Lib.hid e5
        clear e3 e4 e5 hrs
        go_wp2_with fail
        with_reducible refine (t_Kind s _ hz).mono ?_
        rw [HK.out]
        rintro e w5 ⟨rfl, hb5⟩
        have HB5 := Lib.hid (Bel.call HB4.out hb5)
        clear hb5
        dsimp only
        go_wp2_with fail
        with_reducible refine (HST.out s ep _ hz HEP.out).mono ?_
        rw [E3.out]
        rintro e w6 ⟨⟨C, hC, rfl⟩, hb6⟩
        have HB6 := Lib.hid (Bel.call HB5.out hb6)
        clear hb6
        obtain rfl : C = ⟨#[]⟩ := str_eq hC
        clear hC
        dsimp only
        go_wp2_with fail
        with_reducible refine (HBK.out s st _ hz HSP.out).mono ?_
        rw [E4.out]
        rintro e w7 ⟨⟨D, hD, rfl⟩, hb7⟩
        have HB7 := Lib.hid (Bel.call HB6.out hb7)
        clear hb7
        obtain rfl : D = ⟨#[]⟩ := str_eq hD
        clear hD
        dsimp only
        go_wp2_with fail
        with_reducible refine (HKO.out s _ hz).mono ?_
        rw [E5.out]
        rintro e w8 ⟨⟨K, hK, rfl⟩, hb8⟩
        have HB8 := Lib.hid (Bel.call HB7.out hb8)
        clear hb8
        obtain rfl : K = ⟨#[]⟩ := str_eq hK
        clear hK
        dsimp only
        go_wp2
        go_ret
        exact ⟨rfl, HB8.out⟩
    · have E2 := Lib.hid e2
      clear e2
      go_wp2_with fail
      with_reducible refine (HST.out T ep _ (by omega) HEP.out).mono ?_
      rw [E1.out]
      rintro e w3 ⟨⟨P, hP, rfl⟩, hb3⟩
      have HB3 := Lib.hid (Bel.call HB2.out hb3)
      clear hb3
      obtain rfl : P = ⟨#[]⟩ := str_eq hP
      clear hP
      dsimp only
      go_wp2_with fail
      with_reducible refine (HBK.out T st _ (by omega) HSP.out).mono ?_
      rw [E2.out]
      rintro e w4 ⟨⟨Q, hQ, rfl⟩, hb4⟩
      have HB4 := Lib.hid (Bel.call HB3.out hb4)
      clear hb4
      obtain rfl : Q = ⟨#[]⟩ := str_eq hQ
      clear hQ
      dsimp only
      cases hrs : right s.data.toList with
      | true =>
        obtain ⟨kd, hkd⟩ : ∃ kd, kind s.data.toList = kd := ⟨_, rfl⟩
        have hkd0 : ¬ (kd : Int) = 0 := by have := Term.kind_pos hrs; rw [hkd] at this; omega
        have hkdb : ((kd : Int) == 0) = false := by simpa using hkd0
        have HK := Lib.hid hkd
        clear hkd hrs
        go_wp2_with fail
        with_reducible refine (t_Kind s _ hz).mono ?_
        rw [HK.out]
        rintro e w5 ⟨rfl, hb5⟩
        have HB5 := Lib.hid (Bel.call HB4.out hb5)
        clear hb5
        dsimp only
        go_wp2
        go_ret
        exact ⟨rfl, HB5.out⟩
      | false =>
        have HK : Hid (kind s.data.toList = 0) := kind_wrong hrs
        obtain ⟨e3, e4, e5⟩ := wrong_all6 hrs ep st
        have E3 := Lib.hid e3
        have E4 := Lib.hid e4
        have E5 := Lib.hid e5
        clear e3 e4 e5 hrs
        go_wp2_with fail
        with_reducible refine (t_Kind s _ hz).mono ?_
        rw [HK.out]
        rintro e w5 ⟨rfl, hb5⟩
        have HB5 := Lib.hid (Bel.call HB4.out hb5)
        clear hb5
        dsimp only
        go_wp2_with fail
        with_reducible refine (HST.out s ep _ hz HEP.out).mono ?_
        rw [E3.out]
        rintro e w6 ⟨⟨C, hC, rfl⟩, hb6⟩
        have HB6 := Lib.hid (Bel.call HB5.out hb6)
        clear hb6
        obtain rfl : C = ⟨#[]⟩ := str_eq hC
        clear hC
        dsimp only
        go_wp2_with fail
        with_reducible refine (HBK.out s st _ hz HSP.out).mono ?_
        rw [E4.out]
        rintro e w7 ⟨⟨D, hD, rfl⟩, hb7⟩
        have HB7 := Lib.hid (Bel.call HB6.out hb7)
        clear hb7
        obtain rfl : D = ⟨#[]⟩ := str_eq hD
        clear hD
        dsimp only
        go_wp2_with fail
        with_reducible refine (HKO.out s _ hz).mono ?_
        rw [E5.out]
        rintro e w8 ⟨⟨K, hK, rfl⟩, hb8⟩
        have HB8 := Lib.hid (Bel.call HB7.out hb8)
        clear hb8
        obtain rfl : K = ⟨#[]⟩ := str_eq hK
        clear hK
        dsimp only
        go_wp2
        go_ret
        exact ⟨rfl, HB8.out⟩
end Go.Proofs.Ytjoldkhfkobahaa.Reg
