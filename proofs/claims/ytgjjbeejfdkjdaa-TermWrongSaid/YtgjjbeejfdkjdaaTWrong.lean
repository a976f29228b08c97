/-
  THE WALK of TermWrong. By an AI agent; no person has read it.
-/
import Derived.Test.YtgjjbeejfdkjdaaTLaw
import Derived.Test.YtgjjbeejfdkjdaaTGrown
import Derived.Test.YtgjjbeejfdkjdaaTFacts
namespace Go.Proofs.Ytgjjbeejfdkjdaa.Term
open Go.RowKit Wire

theorem wrong_all {l : List UInt8} (h : right l = false) : (∀ b, open' l b = ([], 1)) ∧ (∀ a, unbox a l = ([], 1)) ∧ number l = (0, 1) ∧ words l = ([], 1) ∧ parts l = ([], 1) ∧ (∀ a b, verify a b l = 1) ∧ (∀ a b, verify l a b = 1) ∧ ∀ a b, verify a l b = 1 := by
  refine ⟨fun b => ?_, fun a => ?_, ?_, ?_, ?_, fun a b => ?_, fun a b => ?_, fun a b => ?_⟩
  · unfold open'; rw [if_neg (by rw [h]; simp)]
  · unfold unbox; rw [if_neg (by rw [h]; simp)]
  · unfold number; rw [if_neg (by rw [h]; simp)]
  · unfold words; rw [if_neg (by rw [h]; simp)]
  · unfold parts; rw [if_neg (by rw [h]; simp)]
  · unfold verify; rw [if_neg (by rw [h]; simp)]
  · unfold verify; rw [if_neg (by rw [h]; simp)]
  · unfold verify; rw [if_neg (by rw [h]; simp)]

set_option maxHeartbeats 8000000 in
set_option maxRecDepth 1000000 in
theorem wrong_walk (s : ByteArray) (a : Option Addr) (ca : Nat) (zs : List Int) (b : Option Addr) (cb : Nat) (ys : List Int) (w : World) (hs : s.size ≤ 140737488355328) (ha : IReads w a zs) (hb : IReads w b ys) :
    Calls Try.prog 9 #[.slice a zs.length ca, .slice b ys.length cb, .string s] w fun e w' => e = .returned (.bool true) ∧ Below w.heap.size w w' := by
  have HA := Lib.hid ha
  have HBB := Lib.hid hb
  clear ha hb
  by_cases hs5 : (1000 : Int) < (s.size : Int)
  · go_enter Try.func9, Try.ntmps9
    go_wp2_with (go_at_call 10; refine (shown_any _).mono ?_; rintro e w1 ⟨rfl, hb1⟩; have HB1 := Lib.hid hb1; clear hb1)
    go_ret
    exact ⟨rfl, HB1.out⟩
  · go_enter Try.func9, Try.ntmps9
    go_wp2_with fail
    refine (shown_any _).mono ?_
    rintro e w1 ⟨rfl, hb1⟩
    have HB1 := Lib.hid hb1
    clear hb1
    go_wp2_with fail
    refine (grown_any a ca zs _ (HA.out.below HB1.out (Nat.le_refl _))).mono ?_
    rintro e w2 ⟨⟨X, hx, rfl⟩, hb⟩
    have HB2 := Lib.hid (HB1.out.trans (hb.mono HB1.out.size))
    have hXz := (right_sz hx).2
    have HX := Lib.hid hx
    clear hx hb
    go_wp2_with fail
    refine (grown_any b cb ys _ (HBB.out.below HB2.out (Nat.le_refl _))).mono ?_
    rintro e w3 ⟨⟨Y, hx, rfl⟩, hb⟩
    have HB3 := Lib.hid (HB2.out.trans (hb.mono HB2.out.size))
    have hYz := (right_sz hx).2
    have HY := Lib.hid hx
    clear hx hb
    obtain ⟨x4, e4, hx⟩ : ∃ x e, open' X.data.toList Y.data.toList = (x, e) := ⟨_, _, rfl⟩
    have q4 := open_form HX.out HY.out hx
    have H4 := Lib.hid hx
    clear hx
    obtain ⟨x5, e5, hx⟩ : ∃ x e, unbox X.data.toList Y.data.toList = (x, e) := ⟨_, _, rfl⟩
    have q5 := unbox_form HX.out HY.out hx
    have H5 := Lib.hid hx
    clear hx
    obtain ⟨x6, e6, hx⟩ : ∃ x e, number Y.data.toList = (x, e) := ⟨_, _, rfl⟩
    have q6 := number_form HY.out hx
    have H6 := Lib.hid hx
    clear hx
    obtain ⟨x7, e7, hx⟩ : ∃ x e, words Y.data.toList = (x, e) := ⟨_, _, rfl⟩
    have q7 := words_form HY.out hx
    have H7 := Lib.hid hx
    clear hx
    obtain ⟨kb, hkb⟩ : ∃ k, kind Y.data.toList = k := ⟨_, rfl⟩
    rw [hkb] at q4 q5 q6 q7
    have HKB := Lib.hid hkb
    clear hkb
    obtain ⟨p4, hp⟩ : ∃ p, ((kb : Int) != 115) = p := ⟨_, rfl⟩
    rw [hp] at q4
    have r4 := hp
    clear hp
    obtain ⟨p5, hp⟩ : ∃ p, ((kb : Int) != 98) = p := ⟨_, rfl⟩
    rw [hp] at q5
    have r5 := hp
    clear hp
    obtain ⟨p6, hp⟩ : ∃ p, ((kb : Int) != 97) = p := ⟨_, rfl⟩
    rw [hp] at q6
    have r6 := hp
    clear hp
    obtain ⟨p7, hp⟩ : ∃ p, ((kb : Int) != 116) = p := ⟨_, rfl⟩
    rw [hp] at q7
    have r7 := hp
    clear hp
    go_wp2_with fail
    refine (t_Open X Y _ (by omega) (by omega)).mono ?_
    rw [H4.out]
    rintro e w4 ⟨⟨T4, hT, rfl⟩, hb⟩
    dsimp only at hT ⊢
    have HB4 := Lib.hid (HB3.out.trans (hb.mono HB3.out.size))
    clear hT hb
    go_wp2_with fail
    refine (t_Unbox X Y _ (by omega) (by omega)).mono ?_
    rw [H5.out]
    rintro e w5 ⟨⟨T5, hT, rfl⟩, hb⟩
    dsimp only at hT ⊢
    have HB5 := Lib.hid (HB4.out.trans (hb.mono HB4.out.size))
    clear hT hb
    go_wp2_with fail
    refine (t_Number Y _ (by omega)).mono ?_
    rw [H6.out]
    rintro e w6 ⟨rfl, hb⟩
    have HB6 := Lib.hid (HB5.out.trans (hb.mono HB5.out.size))
    clear hb
    go_wp2_with fail
    refine (t_Words Y _ (by omega)).mono ?_
    rw [H7.out]
    rintro e w7 ⟨⟨T7, hT, rfl⟩, hb⟩
    dsimp only at hT ⊢
    have HB7 := Lib.hid (HB6.out.trans (hb.mono HB6.out.size))
    clear hT hb
    go_wp2_with fail
    refine (t_Kind Y _ (by omega)).mono ?_
    rw [HKB.out]
    rintro e w8 ⟨rfl, hb⟩
    have HB8 := Lib.hid (HB7.out.trans (hb.mono HB7.out.size))
    clear hb
    cases hr : right s.data.toList with
    | true =>
      obtain ⟨ks, hks⟩ : ∃ k, kind s.data.toList = k := ⟨_, rfl⟩
      have hk0 : ((ks : Int) != 0) = true := by
        have := kind_pos hr
        rw [hks] at this
        rw [bne_iff_ne]; omega
      have HKS := Lib.hid hks
      clear hr hks
      go_wp2_with fail
      refine (t_Kind s _ (by omega)).mono ?_
      rw [HKS.out]
      rintro e w9 ⟨rfl, hb⟩
      have HB9 := Lib.hid (HB8.out.trans (hb.mono HB8.out.size))
      clear hb
      go_wp2
      go_ret
      exact ⟨rfl, HB9.out⟩
    | false =>
      have HKS := Lib.hid (kind_wrong hr)
      have HW := Lib.hid (wrong_all hr)
      obtain ⟨h1, h2, h3, h4, h5, h6, h7, h8⟩ := wrong_all hr
      have W1 := Lib.hid h1
      have W2 := Lib.hid h2
      have W3 := Lib.hid h3
      have W4 := Lib.hid h4
      have W5 := Lib.hid h5
      have W6 := Lib.hid h6
      have W7 := Lib.hid h7
      have W8 := Lib.hid h8
      clear hr h1 h2 h3 h4 h5 h6 h7 h8
      go_wp2_with fail
      refine (t_Kind s _ (by omega)).mono ?_
      rw [HKS.out]
      rintro e w9 ⟨rfl, hb⟩
      have HB9 := Lib.hid (HB8.out.trans (hb.mono HB8.out.size))
      clear hb
      go_wp2_with fail
      refine (t_Open s Y _ (by omega) (by omega)).mono ?_
      rw [W1.out]
      rintro e w10 ⟨⟨T10, hT, rfl⟩, hb⟩
      dsimp only at hT ⊢
      have HB10 := Lib.hid (HB9.out.trans (hb.mono HB9.out.size))
      clear hT hb
      go_wp2_with fail
      refine (t_Unbox X s _ (by omega) (by omega)).mono ?_
      rw [W2.out]
      rintro e w11 ⟨⟨T11, hT, rfl⟩, hb⟩
      dsimp only at hT ⊢
      have HB11 := Lib.hid (HB10.out.trans (hb.mono HB10.out.size))
      clear hT hb
      go_wp2_with fail
      refine (t_Number s _ (by omega)).mono ?_
      rw [W3.out]
      rintro e w12 ⟨rfl, hb⟩
      have HB12 := Lib.hid (HB11.out.trans (hb.mono HB11.out.size))
      clear hb
      go_wp2_with fail
      refine (t_Words s _ (by omega)).mono ?_
      rw [W4.out]
      rintro e w13 ⟨⟨T13, hT, rfl⟩, hb⟩
      dsimp only at hT ⊢
      have HB13 := Lib.hid (HB12.out.trans (hb.mono HB12.out.size))
      clear hT hb
      go_wp2_with fail
      refine (t_Parts s _ (by omega)).mono ?_
      rw [W5.out]
      rintro e w14 ⟨⟨PA, pc, pys, hys, hcl, hsr, rfl⟩, hb⟩
      dsimp only at hys ⊢
      have HB14 := Lib.hid (HB13.out.trans (hb.mono HB13.out.size))
      clear hys hcl hsr hb
      go_wp2_with fail
      refine (t_Verify X Y s _ (by omega) (by omega) (by omega)).mono ?_
      rw [W6.out]
      rintro e w15 ⟨rfl, hb⟩
      have HB15 := Lib.hid (HB14.out.trans (hb.mono HB14.out.size))
      clear hb
      go_wp2_with fail
      refine (t_Verify s X Y _ (by omega) (by omega) (by omega)).mono ?_
      rw [W7.out]
      rintro e w16 ⟨rfl, hb⟩
      have HB16 := Lib.hid (HB15.out.trans (hb.mono HB15.out.size))
      clear hb
      go_wp2_with fail
      refine (t_Verify X s Y _ (by omega) (by omega) (by omega)).mono ?_
      rw [W8.out]
      rintro e w17 ⟨rfl, hb⟩
      have HB17 := Lib.hid (HB16.out.trans (hb.mono HB16.out.size))
      clear hb
      go_wp2
      go_ret
      exact ⟨rfl, HB17.out⟩
end Go.Proofs.Ytgjjbeejfdkjdaa.Term
