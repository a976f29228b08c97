/-
  THE LAW DrawSecret, walked over what the code is held to. By an AI agent; no person has read it.
-/
import Derived.Test.YtahlilhdiklemaaDSec
namespace Go.Proofs.Ytahlilhdiklemaa.Draw
open Go.RowKit Wire Term Clo

theorem one_len (k : UInt8) (a : List UInt8) : (one k a).1.length ≤ 4000 := by
  unfold one
  split
  · exact made_len _
  · exact Nat.zero_le _
theorem right_nil : ¬ right ([] : List UInt8) = true := by decide
theorem two_nil (k : UInt8) (b : List UInt8) : two k [] b = ([], 1) := by unfold two; rw [if_neg (fun h => right_nil h.1)]
theorem one_nil (k : UInt8) : one k [] = ([], 1) := by unfold one; rw [if_neg right_nil]
theorem str_eq {S H : ByteArray} (h : S.data.toList = H.data.toList) : S = H := by
  cases S; cases H; simp_all [← Array.toList_inj]
set_option maxHeartbeats 8000000 in
set_option maxRecDepth 1000000 in
theorem secret_walk {D : DPred} (MO : MixOK) (d : DrawsOK D) (SO : SecretOK) (use who : ByteArray) (n : Nat) (w : World) (hu : use.size ≤ 140737488351232) (hw : who.size ≤ 140737488351232) (hn : n < 18446744073709551616) :
    Calls Try.prog 7 #[.string use, .string who, .int .u64 (n : Int)] w fun e w' => e = .returned (.bool true) ∧ Below w.heap.size w w' := by
  have HSH := Lib.hid (shown5_any MO d w)
  clear MO d
  by_cases hbig : (6000 : Int) < (use.size : Int) + (who.size : Int)
  · clear SO
    go_enter Try.func7, Try.ntmps7
    go_wp2_with fail
    refine HSH.out.mono ?_
    rintro e w1 ⟨rfl, hb1⟩
    have HB1 := Lib.hid hb1
    clear hb1
    dsimp only
    go_wp2
    go_ret
    exact ⟨rfl, HB1.out⟩
  obtain ⟨UC, huc⟩ : ∃ UC, use ++ (ByteArray.mk #[58]) = UC := ⟨_, rfl⟩
  obtain ⟨X, hX⟩ : ∃ X, UC ++ who = X := ⟨_, rfl⟩
  obtain ⟨hXd, hucz, hXz⟩ := colon_text use who huc hX
  have hucz1 : UC.size ≤ 6001 := by omega
  have hXz1 : X.size ≤ 6001 := by omega
  have HSO := Lib.hid fun w => SO use who n w (by omega) (by omega) (by omega) hn
  obtain ⟨t, f, ht⟩ : ∃ t f, ofText (use.data.toList ++ 58 :: who.data.toList) = (t, f) := ⟨_, _, rfl⟩
  obtain ⟨p, g, hp⟩ : ∃ p g, two 112 t (ofAtom n) = (p, g) := ⟨_, _, rfl⟩
  obtain ⟨h, i, hh⟩ : ∃ h i, one 104 p = (h, i) := ⟨_, _, rfl⟩
  have htl : t.length ≤ 4000 := by have := made_len (txt use.data.toList who.data.toList); rw [← ofText_eq, ht] at this; exact this
  have hpl : p.length ≤ 4000 := by have := two_len 112 t (ofAtom n); rw [hp] at this; exact this
  have HC1 := Lib.hid fun w => t_OfText X w (by omega)
  rw [hXd, ht] at HC1
  have HC2 : Hid (∀ (T A : ByteArray) (w : World), T.data.toList = t → A.data.toList = ofAtom n → Calls Try.prog 22 #[.string T, .string A] w fun e w' => Sr (p, g) e ∧ Below w.heap.size w w') := by
    intro T A w hT hA
    have := t_OfPair T A w (by rw [Lib.size_eq, hT]; omega) (by rw [Lib.size_eq, hA]; have := (right_len (atom_ok hn)).2; omega)
    rw [hT, hA, hp] at this
    exact this
  have HC3 : Hid (∀ (T : ByteArray) (w : World), T.data.toList = p → Calls Try.prog 23 #[.string T] w fun e w' => Sr (h, i) e ∧ Below w.heap.size w w') := by
    intro T w hT
    have := t_OfHash T w (by rw [Lib.size_eq, hT]; omega)
    rw [hT, hh] at this
    exact this
  have HN := Lib.hid hn
  have key : (secret use.data.toList who.data.toList n = (h, 0) ∧ f = 0 ∧ g = 0 ∧ i = 0 ∧ h.head? = some 104) ∨ (secret use.data.toList who.data.toList n = ([], 10) ∧ (f ≠ 0 ∨ f = 0 ∧ g ≠ 0 ∨ f = 0 ∧ g = 0 ∧ i ≠ 0)) := by
    rw [ofText_eq] at ht
    by_cases h1 : right (txt use.data.toList who.data.toList) = true
    · rw [made_yes h1] at ht
      obtain ⟨rfl, rfl⟩ := Prod.mk.inj ht
      rw [two_eq hn h1] at hp
      by_cases h2 : right (prs use.data.toList who.data.toList n) = true
      · rw [made_yes h2] at hp
        obtain ⟨rfl, rfl⟩ := Prod.mk.inj hp
        rw [one_eq h2] at hh
        by_cases h3 : right (sech use.data.toList who.data.toList n) = true
        · rw [made_yes h3] at hh
          obtain ⟨rfl, rfl⟩ := Prod.mk.inj hh
          exact .inl ⟨secret_ok hn h1 h2 h3, rfl, rfl, rfl, rfl⟩
        · rw [made_no h3] at hh
          obtain ⟨rfl, rfl⟩ := Prod.mk.inj hh
          exact .inr ⟨secret_no hn (fun h => h3 h.2.2), .inr (.inr ⟨rfl, rfl, by decide⟩)⟩
      · rw [made_no h2] at hp
        obtain ⟨rfl, rfl⟩ := Prod.mk.inj hp
        exact .inr ⟨secret_no hn (fun h => h2 h.2.1), .inr (.inl ⟨rfl, by decide⟩)⟩
    · rw [made_no h1] at ht
      obtain ⟨rfl, rfl⟩ := Prod.mk.inj ht
      exact .inr ⟨secret_no hn (fun h => h1 h.1), .inl (by decide)⟩
  clear SO hXd hucz hXz ht hp hh htl hpl hn hu hw
  rcases key with ⟨hs, rfl, rfl, rfl, hhd⟩ | ⟨hs, hf | ⟨rfl, hg⟩ | ⟨rfl, rfl, hi⟩⟩
  · rw [hs] at HSO
    clear hs
    go_enter Try.func7, Try.ntmps7
    go_wp2_with fail
    refine HSH.out.mono ?_
    rintro e w1 ⟨rfl, hb1⟩
    have HB1 := Lib.hid hb1
    clear hb1
    dsimp only
    go_wp2_with fail
    refine (HSO.out _).mono ?_
    rintro e w2 ⟨⟨S, hS, rfl⟩, hb2⟩
    have HB2 := Lib.hid (HB1.out.trans (hb2.mono HB1.out.size))
    have HS := Lib.hid hS
    clear hS
    clear hb2
    dsimp only
    go_wp2_with fail
    refine (HC1.out _).mono ?_
    rintro e w3 ⟨⟨T, hT, rfl⟩, hb3⟩
    have HB3 := Lib.hid (HB2.out.trans (hb3.mono HB2.out.size))
    have HT := Lib.hid hT
    clear hb3 hT
    dsimp only
    go_wp2_with fail
    refine (t_OfAtom n _ HN.out).mono ?_
    rintro e w4 ⟨⟨A, hA, rfl⟩, hb4⟩
    have HB4 := Lib.hid (HB3.out.trans (hb4.mono HB3.out.size))
    have HA := Lib.hid hA
    clear hb4 hA
    dsimp only
    go_wp2_with fail
    refine (HC2.out T A _ HT.out HA.out).mono ?_
    rintro e w5 ⟨⟨P, hP, rfl⟩, hb5⟩
    have HB5 := Lib.hid (HB4.out.trans (hb5.mono HB4.out.size))
    have HP := Lib.hid hP
    clear hb5 hP
    dsimp only
    go_wp2_with fail
    refine (HC3.out P _ HP.out).mono ?_
    rintro e w6 ⟨⟨H, hH, rfl⟩, hb6⟩
    have HB6 := Lib.hid (HB5.out.trans (hb6.mono HB5.out.size))
    obtain rfl : H = S := str_eq (hH.trans HS.out.symm)
    have hz : 0 < H.size := by rw [Lib.size_eq, hH]; cases h with | nil => cases hhd | cons => simp
    have hz1 : (0 : Int) < (H.size : Int) := by omega
    have h0 : H[0]'hz = 104 := by have := head_get hz; rw [hH, hhd] at this; exact (Option.some.inj this).symm
    have c1 : (((H[0]'hz).toNat : Int) == 104) = true := by rw [h0]; rfl
    clear hH hhd h0
    clear hb6
    dsimp only
    go_wp2
    go_ret
    exact ⟨rfl, HB6.out⟩
  · rw [hs] at HSO
    clear hs
    go_enter Try.func7, Try.ntmps7
    go_wp2_with fail
    refine HSH.out.mono ?_
    rintro e w1 ⟨rfl, hb1⟩
    have HB1 := Lib.hid hb1
    clear hb1
    dsimp only
    go_wp2_with fail
    refine (HSO.out _).mono ?_
    rintro e w2 ⟨⟨S, hS, rfl⟩, hb2⟩
    have HB2 := Lib.hid (HB1.out.trans (hb2.mono HB1.out.size))
    have he := empty_str hS
    clear hS
    clear hb2
    dsimp only
    go_wp2_with fail
    refine (HC1.out _).mono ?_
    rintro e w3 ⟨⟨T, hT, rfl⟩, hb3⟩
    have HB3 := Lib.hid (HB2.out.trans (hb3.mono HB2.out.size))
    have HT := Lib.hid hT
    clear hb3 hT
    dsimp only
    go_wp2_with fail
    refine (t_OfAtom n _ HN.out).mono ?_
    rintro e w4 ⟨⟨A, hA, rfl⟩, hb4⟩
    have HB4 := Lib.hid (HB3.out.trans (hb4.mono HB3.out.size))
    have HA := Lib.hid hA
    clear hb4 hA
    dsimp only
    go_wp2_with fail
    refine (HC2.out T A _ HT.out HA.out).mono ?_
    rintro e w5 ⟨⟨P, hP, rfl⟩, hb5⟩
    have HB5 := Lib.hid (HB4.out.trans (hb5.mono HB4.out.size))
    have HP := Lib.hid hP
    clear hb5 hP
    dsimp only
    go_wp2_with fail
    refine (HC3.out P _ HP.out).mono ?_
    rintro e w6 ⟨⟨H, hH, rfl⟩, hb6⟩
    have HB6 := Lib.hid (HB5.out.trans (hb6.mono HB5.out.size))
    clear hH
    clear hb6
    dsimp only
    go_wp2
    go_ret
    exact ⟨rfl, HB6.out⟩
  · rw [hs] at HSO
    clear hs
    go_enter Try.func7, Try.ntmps7
    go_wp2_with fail
    refine HSH.out.mono ?_
    rintro e w1 ⟨rfl, hb1⟩
    have HB1 := Lib.hid hb1
    clear hb1
    dsimp only
    go_wp2_with fail
    refine (HSO.out _).mono ?_
    rintro e w2 ⟨⟨S, hS, rfl⟩, hb2⟩
    have HB2 := Lib.hid (HB1.out.trans (hb2.mono HB1.out.size))
    have he := empty_str hS
    clear hS
    clear hb2
    dsimp only
    go_wp2_with fail
    refine (HC1.out _).mono ?_
    rintro e w3 ⟨⟨T, hT, rfl⟩, hb3⟩
    have HB3 := Lib.hid (HB2.out.trans (hb3.mono HB2.out.size))
    have HT := Lib.hid hT
    clear hb3 hT
    dsimp only
    go_wp2_with fail
    refine (t_OfAtom n _ HN.out).mono ?_
    rintro e w4 ⟨⟨A, hA, rfl⟩, hb4⟩
    have HB4 := Lib.hid (HB3.out.trans (hb4.mono HB3.out.size))
    have HA := Lib.hid hA
    clear hb4 hA
    dsimp only
    go_wp2_with fail
    refine (HC2.out T A _ HT.out HA.out).mono ?_
    rintro e w5 ⟨⟨P, hP, rfl⟩, hb5⟩
    have HB5 := Lib.hid (HB4.out.trans (hb5.mono HB4.out.size))
    have HP := Lib.hid hP
    clear hb5 hP
    dsimp only
    go_wp2_with fail
    refine (HC3.out P _ HP.out).mono ?_
    rintro e w6 ⟨⟨H, hH, rfl⟩, hb6⟩
    have HB6 := Lib.hid (HB5.out.trans (hb6.mono HB5.out.size))
    clear hH
    clear hb6
    dsimp only
    go_wp2
    go_ret
    exact ⟨rfl, HB6.out⟩
  · rw [hs] at HSO
    clear hs
    go_enter Try.func7, Try.ntmps7
    go_wp2_with fail
    refine HSH.out.mono ?_
    rintro e w1 ⟨rfl, hb1⟩
    have HB1 := Lib.hid hb1
    clear hb1
    dsimp only
    go_wp2_with fail
    refine (HSO.out _).mono ?_
    rintro e w2 ⟨⟨S, hS, rfl⟩, hb2⟩
    have HB2 := Lib.hid (HB1.out.trans (hb2.mono HB1.out.size))
    have he := empty_str hS
    clear hS
    clear hb2
    dsimp only
    go_wp2_with fail
    refine (HC1.out _).mono ?_
    rintro e w3 ⟨⟨T, hT, rfl⟩, hb3⟩
    have HB3 := Lib.hid (HB2.out.trans (hb3.mono HB2.out.size))
    have HT := Lib.hid hT
    clear hb3 hT
    dsimp only
    go_wp2_with fail
    refine (t_OfAtom n _ HN.out).mono ?_
    rintro e w4 ⟨⟨A, hA, rfl⟩, hb4⟩
    have HB4 := Lib.hid (HB3.out.trans (hb4.mono HB3.out.size))
    have HA := Lib.hid hA
    clear hb4 hA
    dsimp only
    go_wp2_with fail
    refine (HC2.out T A _ HT.out HA.out).mono ?_
    rintro e w5 ⟨⟨P, hP, rfl⟩, hb5⟩
    have HB5 := Lib.hid (HB4.out.trans (hb5.mono HB4.out.size))
    have HP := Lib.hid hP
    clear hb5 hP
    dsimp only
    go_wp2_with fail
    refine (HC3.out P _ HP.out).mono ?_
    rintro e w6 ⟨⟨H, hH, rfl⟩, hb6⟩
    have HB6 := Lib.hid (HB5.out.trans (hb6.mono HB5.out.size))
    clear hH
    clear hb6
    dsimp only
    go_wp2
    go_ret
    exact ⟨rfl, HB6.out⟩
end Go.Proofs.Ytahlilhdiklemaa.Draw
