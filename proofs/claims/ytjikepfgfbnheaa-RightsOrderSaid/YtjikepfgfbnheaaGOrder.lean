/-
  RightsOrder's walk, over what package rights is held to. By an AI agent; no person has read it.
-/
import Derived.Test.YtjikepfgfbnheaaGTo
namespace Go.Proofs.Ytjikepfgfbnheaa.Rig
open Go.RowKit Wire

set_option linter.unusedSimpArgs false
set_option maxHeartbeats 8000000 in
set_option maxRecDepth 1000000 in
theorem order_walk (RG : RightOK) (CO : CanOK) (NO : NewOK) (GO : GrantOK) (PO : PutOK) (a : Option Addr) (n c : Nat) (Z : Nat → Nat → Int) (c1 c2 : Int) (x y : Bool) (w : World) (ha : Acts.AReads 2 w a n Z) (h1 : -9223372036854775808 ≤ c1 ∧ c1 ≤ 9223372036854775807) (h2 : -9223372036854775808 ≤ c2 ∧ c2 ≤ 9223372036854775807) :
    Calls Try.prog 8 #[.slice a n c, .int .i64 c1, .int .i64 c2, .bool x, .bool y] w fun e w' => e = .returned (.bool true) ∧ Below w.heap.size w w' := by
  have HSH := Lib.hid fun w => shown7_any NO GO CO w
  have HD := Lib.hid fun w' hb gs hg => done_to a n c Z w ha w' hb gs hg
  obtain ⟨U, hU, hun, hus, _⟩ := who_to c1 h1
  obtain ⟨V, hV, hvn, hvs, _⟩ := who_to c2 h2
  have HU := Lib.hid hU
  have HV := Lib.hid hV
  have HUN := Lib.hid hun
  have HVN := Lib.hid hvn
  have HUS := Lib.hid hus
  have HVS := Lib.hid hvs
  clear ha h1 h2 hU hV hun hvn hus hvs
  go_enter Try.func8, Try.ntmps8
  go_wp2_with fail
  with_reducible refine (HSH.out _).mono ?_
  rintro e1 w1 ⟨rfl, hb1⟩
  have HB1 := Lib.hid hb1
  clear hb1
  dsimp only
  go_wp2_with fail
  with_reducible refine (HD.out _ HB1.out _ gs_nil).mono ?_
  rintro e2 w2 ⟨⟨v2, r, han2, hx2, rfl⟩, hb2⟩
  obtain ⟨o2, f2, p2, A2, n2, c2, B2, m2, d2, rfl, hp2, hn2, hm2, ho2, hf2, hx2⟩ := isX_lit hx2
  have HB2 := Lib.hid (Bel.call HB1.out hb2)
  have HAN := Lib.hid han2
  have HX2 := Lib.hid hx2
  have HO2 := Lib.hid ho2
  have HF2 := Lib.hid hf2
  have HP2 := Lib.hid hp2
  have HN2 := Lib.hid hn2
  have HM2 := Lib.hid hm2
  clear hb2 hx2 ho2 hf2 hp2 hn2 hm2 han2
  dsimp only at HX2 HO2 HF2 HP2 HN2 HM2 ⊢
  go_wp2_with fail
  obtain ⟨ga, hga⟩ : ∃ g, w2.heap.size = g := ⟨_, rfl⟩
  have hh3 := hold_alloc (t := 24) HX2.out
  have hba3 := al w2 (.cells #[.string o2, .string f2, .int .i64 p2, .slice A2 n2 c2, .slice B2 m2 d2] 24)
  generalize w2.alloc (.cells #[.string o2, .string f2, .int .i64 p2, .slice A2 n2 c2, .slice B2 m2 d2] 24) = w3 at hh3 hba3 ⊢
  rw [hga] at hh3 ⊢
  have HHa := Lib.hid hh3
  have HB3 := Lib.hid (Bel.call HB2.out hba3)
  clear hh3 hba3 hga
  with_reducible refine (HU.out _).mono ?_
  rintro e4 w4 ⟨rfl, hb4⟩
  have HB4 := Lib.hid (Bel.call HB3.out hb4)
  replace HHa := Lib.hid (HHa.out.call hb4)
  clear hb4
  dsimp only
  go_wp2_with fail
  with_reducible refine (HV.out _).mono ?_
  rintro e5 w5 ⟨rfl, hb5⟩
  have HB5 := Lib.hid (Bel.call HB4.out hb5)
  replace HHa := Lib.hid (HHa.out.call hb5)
  clear hb5
  dsimp only
  by_cases huv : U.data.toList = V.data.toList
  · have q := s_eq huv
    go_wp2
    go_ret
    exact ⟨rfl, HB5.out⟩
  have q := s_ne huv
  obtain ⟨s, e, hs⟩ : ∃ s e, gr r U.data.toList x = (s, e) := ⟨_, _, rfl⟩
  obtain ⟨t, f, ht⟩ : ∃ t f, gr s V.data.toList y = (t, f) := ⟨_, _, rfl⟩
  obtain ⟨p, g, hp⟩ : ∃ p g, gr r V.data.toList y = (p, g) := ⟨_, _, rfl⟩
  obtain ⟨q2, h, hq⟩ : ∃ q h, gr p U.data.toList x = (q, h) := ⟨_, _, rfl⟩
  have HC1 := Lib.hid (grant_to GO hs (few_right HAN.out.1) HUS.out)
  have HC2 := Lib.hid (grant_to GO ht (gr_few hs) HVS.out)
  have HC3 := Lib.hid (grant_to GO hp (few_right HAN.out.1) HVS.out)
  have HC4 := Lib.hid (grant_to GO hq (gr_few hp) HUS.out)
  have HS := Lib.hid hs
  have HT := Lib.hid ht
  have HPP := Lib.hid hp
  have HQ := Lib.hid hq
  clear hs ht hp hq huv
  obtain ⟨⟨ac0, ac1, ac2, ac3, ac4, _⟩, _, _⟩ := HHa.out
  go_wp2_with fail
  clear ac0 ac1 ac2 ac3 ac4
  with_reducible refine (HC1.out _ _ _ (gs_cons HHa.out.lt gs_nil) HHa.out.isX).mono ?_
  rintro e6 w6 ⟨⟨v6, hx6, rfl⟩, hb6⟩
  obtain ⟨o6, f6, p6, A6, n6, c6, B6, m6, d6, rfl, hp6, hn6, hm6, ho6, hf6, hx6⟩ := isX_lit hx6
  have HB6 := Lib.hid (Bel.call HB5.out hb6)
  replace HHa := Lib.hid (HHa.out.call hb6)
  have HX6 := Lib.hid hx6
  have HO6 := Lib.hid ho6
  have HF6 := Lib.hid hf6
  have HP6 := Lib.hid hp6
  have HN6 := Lib.hid hn6
  have HM6 := Lib.hid hm6
  clear hb6 hx6 ho6 hf6 hp6 hn6 hm6
  dsimp only at HX6 HO6 HF6 HP6 HN6 HM6 ⊢
  clear q
  go_wp2_with fail
  obtain ⟨gb, hgb⟩ : ∃ g, w6.heap.size = g := ⟨_, rfl⟩
  have hh7 := hold_alloc (t := 24) HX6.out
  have hba7 := al w6 (.cells #[.string o6, .string f6, .int .i64 p6, .slice A6 n6 c6, .slice B6 m6 d6] 24)
  have hna7 := HHa.out.new (ob := (.cells #[.string o6, .string f6, .int .i64 p6, .slice A6 n6 c6, .slice B6 m6 d6] 24))
  generalize w6.alloc (.cells #[.string o6, .string f6, .int .i64 p6, .slice A6 n6 c6, .slice B6 m6 d6] 24) = w7 at hh7 hba7 hna7 ⊢
  rw [hgb] at hh7 hna7 ⊢
  replace HHa := Lib.hid hna7
  have HHb := Lib.hid hh7
  have HB7 := Lib.hid (Bel.call HB6.out hba7)
  clear hh7 hba7 hgb hna7
  with_reducible refine (HC2.out _ _ _ (gs_cons HHb.out.lt (gs_cons HHa.out.lt gs_nil)) HHb.out.isX).mono ?_
  rintro e8 w8 ⟨⟨v8, hx8, rfl⟩, hb8⟩
  obtain ⟨o8, f8, p8, A8, n8, c8, B8, m8, d8, rfl, hp8, hn8, hm8, ho8, hf8, hx8⟩ := isX_lit hx8
  have HB8 := Lib.hid (Bel.call HB7.out hb8)
  replace HHa := Lib.hid (HHa.out.call hb8)
  replace HHb := Lib.hid (HHb.out.call hb8)
  have HX8 := Lib.hid hx8
  have HO8 := Lib.hid ho8
  have HF8 := Lib.hid hf8
  have HP8 := Lib.hid hp8
  have HN8 := Lib.hid hn8
  have HM8 := Lib.hid hm8
  clear hb8 hx8 ho8 hf8 hp8 hn8 hm8
  dsimp only at HX8 HO8 HF8 HP8 HN8 HM8 ⊢
  obtain ⟨⟨ac0, ac1, ac2, ac3, ac4, _⟩, _, _⟩ := HHa.out
  go_wp2_with fail
  clear ac0 ac1 ac2 ac3 ac4
  obtain ⟨gc, hgc⟩ : ∃ g, w8.heap.size = g := ⟨_, rfl⟩
  have hh9 := hold_alloc (t := 24) HX8.out
  have hba9 := al w8 (.cells #[.string o8, .string f8, .int .i64 p8, .slice A8 n8 c8, .slice B8 m8 d8] 24)
  have hna9 := HHa.out.new (ob := (.cells #[.string o8, .string f8, .int .i64 p8, .slice A8 n8 c8, .slice B8 m8 d8] 24))
  have hnb9 := HHb.out.new (ob := (.cells #[.string o8, .string f8, .int .i64 p8, .slice A8 n8 c8, .slice B8 m8 d8] 24))
  generalize w8.alloc (.cells #[.string o8, .string f8, .int .i64 p8, .slice A8 n8 c8, .slice B8 m8 d8] 24) = w9 at hh9 hba9 hna9 hnb9 ⊢
  rw [hgc] at hh9 hna9 hnb9 ⊢
  replace HHa := Lib.hid hna9
  replace HHb := Lib.hid hnb9
  have HHc := Lib.hid hh9
  have HB9 := Lib.hid (Bel.call HB8.out hba9)
  clear hh9 hba9 hgc hna9 hnb9
  with_reducible refine (HC3.out _ _ _ (gs_cons HHc.out.lt (gs_cons HHb.out.lt (gs_cons HHa.out.lt gs_nil))) HHa.out.isX).mono ?_
  rintro e10 w10 ⟨⟨v10, hx10, rfl⟩, hb10⟩
  obtain ⟨o10, f10, p10, A10, n10, c10, B10, m10, d10, rfl, hp10, hn10, hm10, ho10, hf10, hx10⟩ := isX_lit hx10
  have HB10 := Lib.hid (Bel.call HB9.out hb10)
  replace HHa := Lib.hid (HHa.out.call hb10)
  replace HHb := Lib.hid (HHb.out.call hb10)
  replace HHc := Lib.hid (HHc.out.call hb10)
  have HX10 := Lib.hid hx10
  have HO10 := Lib.hid ho10
  have HF10 := Lib.hid hf10
  have HP10 := Lib.hid hp10
  have HN10 := Lib.hid hn10
  have HM10 := Lib.hid hm10
  clear hb10 hx10 ho10 hf10 hp10 hn10 hm10
  dsimp only at HX10 HO10 HF10 HP10 HN10 HM10 ⊢
  go_wp2_with fail
  obtain ⟨gd, hgd⟩ : ∃ g, w10.heap.size = g := ⟨_, rfl⟩
  have hh11 := hold_alloc (t := 24) HX10.out
  have hba11 := al w10 (.cells #[.string o10, .string f10, .int .i64 p10, .slice A10 n10 c10, .slice B10 m10 d10] 24)
  have hna11 := HHa.out.new (ob := (.cells #[.string o10, .string f10, .int .i64 p10, .slice A10 n10 c10, .slice B10 m10 d10] 24))
  have hnb11 := HHb.out.new (ob := (.cells #[.string o10, .string f10, .int .i64 p10, .slice A10 n10 c10, .slice B10 m10 d10] 24))
  have hnc11 := HHc.out.new (ob := (.cells #[.string o10, .string f10, .int .i64 p10, .slice A10 n10 c10, .slice B10 m10 d10] 24))
  generalize w10.alloc (.cells #[.string o10, .string f10, .int .i64 p10, .slice A10 n10 c10, .slice B10 m10 d10] 24) = w11 at hh11 hba11 hna11 hnb11 hnc11 ⊢
  rw [hgd] at hh11 hna11 hnb11 hnc11 ⊢
  replace HHa := Lib.hid hna11
  replace HHb := Lib.hid hnb11
  replace HHc := Lib.hid hnc11
  have HHd := Lib.hid hh11
  have HB11 := Lib.hid (Bel.call HB10.out hba11)
  clear hh11 hba11 hgd hna11 hnb11 hnc11
  with_reducible refine (HC4.out _ _ _ (gs_cons HHd.out.lt (gs_cons HHc.out.lt (gs_cons HHb.out.lt (gs_cons HHa.out.lt gs_nil)))) HHd.out.isX).mono ?_
  rintro e12 w12 ⟨⟨v12, hx12, rfl⟩, hb12⟩
  obtain ⟨o12, f12, p12, A12, n12, c12, B12, m12, d12, rfl, hp12, hn12, hm12, ho12, hf12, hx12⟩ := isX_lit hx12
  have HB12 := Lib.hid (Bel.call HB11.out hb12)
  replace HHa := Lib.hid (HHa.out.call hb12)
  replace HHb := Lib.hid (HHb.out.call hb12)
  replace HHc := Lib.hid (HHc.out.call hb12)
  replace HHd := Lib.hid (HHd.out.call hb12)
  have HX12 := Lib.hid hx12
  have HO12 := Lib.hid ho12
  have HF12 := Lib.hid hf12
  have HP12 := Lib.hid hp12
  have HN12 := Lib.hid hn12
  have HM12 := Lib.hid hm12
  clear hb12 hx12 ho12 hf12 hp12 hn12 hm12
  dsimp only at HX12 HO12 HF12 HP12 HN12 HM12 ⊢
  by_cases h0 : e = 0
  case neg =>
    have qe : (e != 0) = true := by simpa using h0
    have HBC := Lib.hid (Bel.call HB12.out (al w12 (.cells #[.string o12, .string f12, .int .i64 p12, .slice A12 n12 c12, .slice B12 m12 d12] 24)))
    clear h0
    go_wp2
    go_ret
    exact ⟨rfl, HBC.out⟩
  subst h0
  by_cases h0 : f = 0
  case neg =>
    have qe : (f != 0) = true := by simpa using h0
    have HBC := Lib.hid (Bel.call HB12.out (al w12 (.cells #[.string o12, .string f12, .int .i64 p12, .slice A12 n12 c12, .slice B12 m12 d12] 24)))
    clear h0
    go_wp2
    go_ret
    exact ⟨rfl, HBC.out⟩
  subst h0
  by_cases h0 : g = 0
  case neg =>
    have qe : (g != 0) = true := by simpa using h0
    have HBC := Lib.hid (Bel.call HB12.out (al w12 (.cells #[.string o12, .string f12, .int .i64 p12, .slice A12 n12 c12, .slice B12 m12 d12] 24)))
    clear h0
    go_wp2
    go_ret
    exact ⟨rfl, HBC.out⟩
  subst h0
  by_cases h0 : h = 0
  case neg =>
    have qe : (h != 0) = true := by simpa using h0
    have HBC := Lib.hid (Bel.call HB12.out (al w12 (.cells #[.string o12, .string f12, .int .i64 p12, .slice A12 n12 c12, .slice B12 m12 d12] 24)))
    clear h0
    go_wp2
    go_ret
    exact ⟨rfl, HBC.out⟩
  subst h0
  have hr := HAN.out.1
  have g1 := gr_ok hr HUN.out HS.out
  have g2 := gr_ok g1.right HVN.out HT.out
  have g3 := gr_ok hr HVN.out HPP.out
  have g4 := gr_ok g3.right HUN.out HQ.out
  obtain rfl : t = q2 := gr_comm g1 g2 g3 g4
  have HP1 := Lib.hid (put_to PO (putR_right g2.right) (few_right g2.right))
  have HRT := Lib.hid (right_to RG (decide_eq_true g2.right) (few_right g2.right))
  have HSM := Lib.hid fun v v' w h h' => rsame_is v v' t w h h' (few_right g2.right)
  clear hr g1 g2 g3 g4 HS HT HPP HQ
  obtain ⟨⟨cc0, cc1, cc2, cc3, cc4, _⟩, _, _⟩ := HHc.out
  go_wp2_with fail
  clear cc0 cc1 cc2 cc3 cc4
  obtain ⟨ge, hge⟩ : ∃ g, w12.heap.size = g := ⟨_, rfl⟩
  have hh13 := hold_alloc (t := 24) HX12.out
  have hba13 := al w12 (.cells #[.string o12, .string f12, .int .i64 p12, .slice A12 n12 c12, .slice B12 m12 d12] 24)
  have hna13 := HHa.out.new (ob := (.cells #[.string o12, .string f12, .int .i64 p12, .slice A12 n12 c12, .slice B12 m12 d12] 24))
  have hnb13 := HHb.out.new (ob := (.cells #[.string o12, .string f12, .int .i64 p12, .slice A12 n12 c12, .slice B12 m12 d12] 24))
  have hnc13 := HHc.out.new (ob := (.cells #[.string o12, .string f12, .int .i64 p12, .slice A12 n12 c12, .slice B12 m12 d12] 24))
  have hnd13 := HHd.out.new (ob := (.cells #[.string o12, .string f12, .int .i64 p12, .slice A12 n12 c12, .slice B12 m12 d12] 24))
  generalize w12.alloc (.cells #[.string o12, .string f12, .int .i64 p12, .slice A12 n12 c12, .slice B12 m12 d12] 24) = w13 at hh13 hba13 hna13 hnb13 hnc13 hnd13 ⊢
  rw [hge] at hh13 hna13 hnb13 hnc13 hnd13 ⊢
  replace HHa := Lib.hid hna13
  replace HHb := Lib.hid hnb13
  replace HHc := Lib.hid hnc13
  replace HHd := Lib.hid hnd13
  have HHe := Lib.hid hh13
  have HB13 := Lib.hid (Bel.call HB12.out hba13)
  clear hh13 hba13 hge hna13 hnb13 hnc13 hnd13
  with_reducible refine (HP1.out _ _ HHc.out.isR).mono ?_
  rintro e14 w14 ⟨⟨S1, hS1, rfl⟩, hb14⟩
  have HB14 := Lib.hid (Bel.call HB13.out hb14)
  replace HHa := Lib.hid (HHa.out.call hb14)
  replace HHb := Lib.hid (HHb.out.call hb14)
  replace HHc := Lib.hid (HHc.out.call hb14)
  replace HHd := Lib.hid (HHd.out.call hb14)
  replace HHe := Lib.hid (HHe.out.call hb14)
  clear hb14
  dsimp only at hS1
  have HS1 := Lib.hid hS1
  clear hS1
  dsimp only
  obtain ⟨⟨ec0, ec1, ec2, ec3, ec4, _⟩, _, _⟩ := HHe.out
  go_wp2_with fail
  clear ec0 ec1 ec2 ec3 ec4
  with_reducible refine (HP1.out _ _ HHe.out.isR).mono ?_
  rintro e15 w15 ⟨⟨S2, hS2, rfl⟩, hb15⟩
  have HB15 := Lib.hid (Bel.call HB14.out hb15)
  replace HHa := Lib.hid (HHa.out.call hb15)
  replace HHb := Lib.hid (HHb.out.call hb15)
  replace HHc := Lib.hid (HHc.out.call hb15)
  replace HHd := Lib.hid (HHd.out.call hb15)
  replace HHe := Lib.hid (HHe.out.call hb15)
  clear hb15
  dsimp only at hS2
  have HS2 := Lib.hid hS2
  clear hS2
  dsimp only
  obtain rfl : S1 = S2 := str_eq (HS1.out.trans HS2.out.symm)
  have qs : (S1.toList == S1.toList) = true := beq_self_eq_true _
  obtain ⟨⟨cc0, cc1, cc2, cc3, cc4, _⟩, _, _⟩ := HHc.out
  obtain ⟨⟨ec0, ec1, ec2, ec3, ec4, _⟩, _, _⟩ := HHe.out
  go_wp2_with fail
  clear cc0 cc1 cc2 cc3 cc4
  clear ec0 ec1 ec2 ec3 ec4
  with_reducible refine (HSM.out _ _ _ HHc.out.isR HHe.out.isR).mono ?_
  rintro e16 w16 ⟨rfl, hb16⟩
  have HB16 := Lib.hid (Bel.call HB15.out hb16)
  replace HHa := Lib.hid (HHa.out.call hb16)
  replace HHb := Lib.hid (HHb.out.call hb16)
  replace HHc := Lib.hid (HHc.out.call hb16)
  replace HHd := Lib.hid (HHd.out.call hb16)
  replace HHe := Lib.hid (HHe.out.call hb16)
  clear hb16
  dsimp only
  obtain ⟨⟨cc0, cc1, cc2, cc3, cc4, _⟩, _, _⟩ := HHc.out
  go_wp2_with fail
  clear cc0 cc1 cc2 cc3 cc4
  with_reducible refine (HRT.out _ _ HHc.out.isR).mono ?_
  rintro e17 w17 ⟨rfl, hb17⟩
  have HB17 := Lib.hid (Bel.call HB16.out hb17)
  replace HHa := Lib.hid (HHa.out.call hb17)
  replace HHb := Lib.hid (HHb.out.call hb17)
  replace HHc := Lib.hid (HHc.out.call hb17)
  replace HHd := Lib.hid (HHd.out.call hb17)
  replace HHe := Lib.hid (HHe.out.call hb17)
  clear hb17
  dsimp only
  go_wp2
  go_ret
  exact ⟨rfl, HB17.out⟩
end Go.Proofs.Ytjikepfgfbnheaa.Rig
