/-
  CONTRACT of the document's Secret (letterlockref5) at this program; the law DrawSecret, walked over what the code is held to. By an AI agent; no person has read it.
-/
import Derived.Test.YtahlilhdiklemaaDSpec
import Derived.Test.YtahlilhdiklemaaTMake
import Derived.Test.YtahlilhdiklemaaTCode
namespace Go.Proofs.Ytahlilhdiklemaa.Draw
open Go.RowKit Wire Term Clo

theorem made_len (l : List UInt8) : (made l).1.length ≤ 4000 := by
  unfold made
  split
  · exact (right_len (by assumption)).2
  · exact Nat.zero_le _
theorem two_len (k : UInt8) (a b : List UInt8) : (two k a b).1.length ≤ 4000 := by
  unfold two
  split
  · exact made_len _
  · exact Nat.zero_le _
theorem ofText_eq (use who : List UInt8) : ofText (use ++ 58 :: who) = made (txt use who) := rfl
theorem one_eq {use who : List UInt8} {n : Nat} (h2 : right (prs use who n) = true) : one 104 (prs use who n) = made (sech use who n) := by unfold one; rw [if_pos h2]; rfl
theorem two_eq {use who : List UInt8} {n : Nat} (hn : n < 18446744073709551616) (h1 : right (txt use who) = true) : two 112 (txt use who) (ofAtom n) = made (prs use who n) := by unfold two; rw [if_pos ⟨h1, atom_ok hn⟩]; rfl
/-- A secret's text: use, colon, whose. -/
theorem colon_text (use who : ByteArray) {UC X : ByteArray} (h1 : use ++ (ByteArray.mk #[58]) = UC) (h2 : UC ++ who = X) : X.data.toList = use.data.toList ++ 58 :: who.data.toList ∧ UC.size = use.size + 1 ∧ X.size = use.size + who.size + 1 := by
  have e1 : UC.data.toList = use.data.toList ++ [58] := by rw [← h1, app_data]
  have e2 : X.data.toList = use.data.toList ++ 58 :: who.data.toList := by rw [← h2, app_data, e1, List.append_assoc]; rfl
  refine ⟨e2, ?_, ?_⟩
  · rw [Lib.size_eq UC, e1, List.length_append, Lib.size_eq use]; rfl
  · rw [Lib.size_eq X, e2, List.length_append, List.length_cons, Lib.size_eq use, Lib.size_eq who]; omega
set_option maxHeartbeats 4000000 in
set_option maxRecDepth 1000000 in
theorem rsecret_any (use who : ByteArray) (n : Nat) (w : World) (hu : use.size ≤ 140737488300000) (hw : who.size ≤ 140737488300000) (huw : use.size + who.size ≤ 140737488300000) (hn : n < 18446744073709551616) :
    Calls Try.prog 15 #[.string use, .string who, .int .u64 (n : Int)] w fun e w' => Sr (secret use.data.toList who.data.toList n) e ∧ Below w.heap.size w w' := by
  obtain ⟨UC, huc⟩ : ∃ UC, use ++ (ByteArray.mk #[58]) = UC := ⟨_, rfl⟩
  obtain ⟨X, hX⟩ : ∃ X, UC ++ who = X := ⟨_, rfl⟩
  obtain ⟨hXd, hucz, hXz⟩ := colon_text use who huc hX
  have hucz1 : UC.size ≤ 140737488300001 := by omega
  have hXz1 : X.size ≤ 140737488355000 := by omega
  have HC := Lib.hid (ofText_any X w hXz1)
  rw [hXd, ofText_eq] at HC
  clear hXd hucz hXz huw hXz1
  by_cases h1 : right (txt use.data.toList who.data.toList) = true
  · have hz1 := (right_len h1).2
    have HC2 : Hid (∀ (T A : ByteArray) (w : World), T.data.toList = txt use.data.toList who.data.toList → A.data.toList = ofAtom n → Calls Try.prog 26 #[.string T, .string A] w fun e w' => Sr (made (prs use.data.toList who.data.toList n)) e ∧ Below w.heap.size w w') := by
      intro T A w hT hA
      have := ofPair_any T A w (by rw [Lib.size_eq, hT]; omega) (by rw [Lib.size_eq, hA]; have := (right_len (atom_ok hn)).2; omega)
      rw [hT, hA, two_eq hn h1] at this
      exact this
    rw [made_yes h1] at HC
    by_cases h2 : right (prs use.data.toList who.data.toList n) = true
    · have HS : secret use.data.toList who.data.toList n = made (sech use.data.toList who.data.toList n) := by
        by_cases h3 : right (sech use.data.toList who.data.toList n) = true
        · rw [secret_ok hn h1 h2 h3, made_yes h3]
        · rw [secret_no hn (fun h => h3 h.2.2), made_no h3]
      have HC3 : Hid (∀ (T : ByteArray) (w : World), T.data.toList = prs use.data.toList who.data.toList n → Calls Try.prog 28 #[.string T] w fun e w' => Sr (made (sech use.data.toList who.data.toList n)) e ∧ Below w.heap.size w w') := by
        intro T w hT
        have := ofHash_any T w (by rw [Lib.size_eq, hT]; have := (right_len h2).2; omega)
        rw [hT, one_eq h2] at this
        exact this
      rw [made_yes h2] at HC2
      rw [HS]
      obtain ⟨x, f, hx⟩ : ∃ x f, made (sech use.data.toList who.data.toList n) = (x, f) := ⟨_, _, rfl⟩
      rw [hx] at HC3 ⊢
      have HN := Lib.hid hn
      clear HS h1 h2 hz1 hx hn
      go_enter Try.func15, Try.ntmps15
      go_wp2_with fail
      refine HC.out.mono ?_
      rintro e w1 ⟨⟨T, hT, rfl⟩, hb1⟩
      have HB1 := Lib.hid hb1
      have HT := Lib.hid hT
      clear hb1 hT
      dsimp only
      go_wp2_with fail
      refine (ofAtom_any n _ HN.out).mono ?_
      rintro e w2 ⟨⟨A, hA, rfl⟩, hb2⟩
      have HB2 := Lib.hid (HB1.out.trans (hb2.mono HB1.out.size))
      have HA := Lib.hid hA
      clear hb2 hA
      dsimp only
      go_wp2_with fail
      refine (HC2.out T A _ HT.out HA.out).mono ?_
      rintro e w3 ⟨⟨P, hP, rfl⟩, hb3⟩
      have HB3 := Lib.hid (HB2.out.trans (hb3.mono HB2.out.size))
      have HP := Lib.hid hP
      clear hb3 hP
      dsimp only
      go_wp2_with fail
      refine (HC3.out P _ HP.out).mono ?_
      rintro e w4 ⟨⟨H, hH, rfl⟩, hb4⟩
      have HB4 := Lib.hid (HB3.out.trans (hb4.mono HB3.out.size))
      have HH := Lib.hid hH
      clear hb4 hH
      dsimp only
      go_wp2
      go_ret2
      exact ⟨⟨H, HH.out, rfl⟩, HB4.out⟩
    · rw [secret_no hn (fun h => h2 h.2.1)]
      rw [made_no h2] at HC2
      have HN := Lib.hid hn
      clear h1 h2 hz1 hn
      go_enter Try.func15, Try.ntmps15
      go_wp2_with fail
      refine HC.out.mono ?_
      rintro e w1 ⟨⟨T, hT, rfl⟩, hb1⟩
      have HB1 := Lib.hid hb1
      have HT := Lib.hid hT
      clear hb1 hT
      dsimp only
      go_wp2_with fail
      refine (ofAtom_any n _ HN.out).mono ?_
      rintro e w2 ⟨⟨A, hA, rfl⟩, hb2⟩
      have HB2 := Lib.hid (HB1.out.trans (hb2.mono HB1.out.size))
      have HA := Lib.hid hA
      clear hb2 hA
      dsimp only
      go_wp2_with fail
      refine (HC2.out T A _ HT.out HA.out).mono ?_
      rintro e w3 ⟨⟨P, hP, rfl⟩, hb3⟩
      have HB3 := Lib.hid (HB2.out.trans (hb3.mono HB2.out.size))
      clear hb3 hP
      dsimp only
      go_wp2
      go_ret2
      exact ⟨sr_nil _, HB3.out⟩
  · rw [secret_no hn (fun h => h1 h.1)]
    rw [made_no h1] at HC
    clear h1 hn
    go_enter Try.func15, Try.ntmps15
    go_wp2_with fail
    refine HC.out.mono ?_
    rintro e w1 ⟨⟨T, hT, rfl⟩, hb1⟩
    have HB1 := Lib.hid hb1
    clear hb1 hT
    dsimp only
    go_wp2
    go_ret2
    exact ⟨sr_nil _, HB1.out⟩
end Go.Proofs.Ytahlilhdiklemaa.Draw
