/-
  RightsBack's walk, over what package rights is held to. By an AI agent; no person has read it.
-/
import Derived.Test.YtjikepfgfbnheaaGTo
namespace Go.Proofs.Ytjikepfgfbnheaa.Rig
open Go.RowKit Wire

set_option linter.unusedSimpArgs false
theorem take_to (TO : TakeOK) {s : ByteArray} {r : Rt} {e : Int} (h : takeR s.data.toList = (r, e)) (hs : s.size ≤ 5000) (w : World) (gs : List Nat) (hg : ∀ g ∈ gs, g < w.heap.size) :
    Calls Try.prog 18 #[.string s] w fun en w' => Re (Off gs) (r, e) en w' ∧ Below w.heap.size w w' := by
  have h2 := TO gs s w hg hs
  rw [h] at h2
  exact h2
set_option maxHeartbeats 8000000 in
set_option maxRecDepth 1000000 in
theorem back_walk (RG : RightOK) (CO : CanOK) (NO : NewOK) (GO : GrantOK) (PO : PutOK) (TO : TakeOK) (a : Option Addr) (n c : Nat) (Z : Nat → Nat → Int) (s : ByteArray) (at0 : Int) (w : World) (ha : Acts.AReads 2 w a n Z) (hat : -9223372036854775808 ≤ at0 ∧ at0 ≤ 9223372036854775807) (hss : s.size ≤ 140737488355328) :
    Calls Try.prog 5 #[.slice a n c, .string s, .int .i64 at0] w fun e w' => e = .returned (.bool true) ∧ Below w.heap.size w w' := by
  have HSH := Lib.hid fun w => shown7_any NO GO CO w
  have HD := Lib.hid fun w' hb gs hg => done_to a n c Z w ha w' hb gs hg
  clear ha
  go_enter Try.func5, Try.ntmps5
  go_wp2_with fail
  with_reducible refine (HSH.out _).mono ?_
  rintro e1 w1 ⟨rfl, hb1⟩
  have HB1 := Lib.hid hb1
  clear hb1
  dsimp only
  by_cases h3 : (3000 : Int) < (s.size : Int)
  · go_wp2
    go_ret
    exact ⟨rfl, HB1.out⟩
  have hs5 : s.size ≤ 5000 := by omega
  go_wp2_with fail
  with_reducible refine (HD.out _ HB1.out _ gs_nil).mono ?_
  rintro e2 w2 ⟨⟨v2, r, han2, hx2, rfl⟩, hb2⟩
  obtain ⟨o2, f2, p2, A2, n2, c2, B2, m2, d2, rfl, hp2, hn2, hm2, ho2, hf2, hx2⟩ := isX_lit hx2
  have HB2 := Lib.hid (Bel.call HB1.out hb2)
  have HAN := Lib.hid han2
  have HX2 := Lib.hid hx2
  have HO2 := Lib.hid ho2
  have HF2 := Lib.hid hf2
  have HP2 := Lib.hid hp2
  have HN2 := Lib.hid hn2
  have HM2 := Lib.hid hm2
  clear hb2 hx2 ho2 hf2 hp2 hn2 hm2 han2
  dsimp only at HX2 HO2 HF2 HP2 HN2 HM2 ⊢
  go_wp2_with fail
  obtain ⟨ga, hga⟩ : ∃ g, w2.heap.size = g := ⟨_, rfl⟩
  have hh3 := hold_alloc (t := 24) HX2.out
  have hba3 := al w2 (.cells #[.string o2, .string f2, .int .i64 p2, .slice A2 n2 c2, .slice B2 m2 d2] 24)
  generalize w2.alloc (.cells #[.string o2, .string f2, .int .i64 p2, .slice A2 n2 c2, .slice B2 m2 d2] 24) = w3 at hh3 hba3 ⊢
  rw [hga] at hh3 ⊢
  have HHa := Lib.hid hh3
  have HB3 := Lib.hid (Bel.call HB2.out hba3)
  clear hh3 hba3 hga
  have hr := HAN.out.1
  have HRR := Lib.hid hr
  have HP1 := Lib.hid (put_to PO (putR_right hr) (few_right hr))
  have hrl := row_len hr
  have hrp := row_pos r
  obtain ⟨X, hX⟩ : ∃ X, rowR r = X := ⟨_, rfl⟩
  rw [hX] at HP1 hrl hrp
  have HX := Lib.hid hX
  clear hr hX
  with_reducible refine (HP1.out _ _ HHa.out.isR).mono ?_
  rintro e4 w4 ⟨⟨S1, hS1, rfl⟩, hb4⟩
  have HB4 := Lib.hid (Bel.call HB3.out hb4)
  replace HHa := Lib.hid (HHa.out.call hb4)
  clear hb4
  dsimp only at hS1
  have HS1 := Lib.hid hS1
  have HSZ : Hid (S1.size = X.length) := by show _ = _; rw [Lib.size_eq, hS1]
  have hs2 : S1.size ≤ 2000 := by rw [HSZ.out]; exact hrl
  have hs0 : 0 < S1.size := by rw [HSZ.out]; exact hrp
  have HT1 := Lib.hid (take_to TO (s := S1) (r := r) (e := 0) (by rw [hS1, ← HX.out]; exact takeR_row HRR.out) (by omega))
  clear hS1
  dsimp only
  go_wp2_with fail
  with_reducible refine (HT1.out _ _ (gs_cons HHa.out.lt gs_nil)).mono ?_
  rintro e5 w5 ⟨⟨v5, hx5, rfl⟩, hb5⟩
  obtain ⟨o5, f5, p5, A5, n5, c5, B5, m5, d5, rfl, hp5, hn5, hm5, ho5, hf5, hx5⟩ := isX_lit hx5
  have HB5 := Lib.hid (Bel.call HB4.out hb5)
  replace HHa := Lib.hid (HHa.out.call hb5)
  have HX5 := Lib.hid hx5
  have HO5 := Lib.hid ho5
  have HF5 := Lib.hid hf5
  have HP5 := Lib.hid hp5
  have HN5 := Lib.hid hn5
  have HM5 := Lib.hid hm5
  clear hb5 hx5 ho5 hf5 hp5 hn5 hm5
  dsimp only at HX5 HO5 HF5 HP5 HN5 HM5 ⊢
  have HSM := Lib.hid fun v v' w h h' => rsame_is v v' r w h h' (few_right HRR.out)
  have hna := HHa.out.new (ob := (.cells #[.string o5, .string f5, .int .i64 p5, .slice A5 n5 c5, .slice B5 m5 d5] 24))
  obtain ⟨⟨ac0, ac1, ac2, ac3, ac4, _⟩, _⟩ := hna
  go_wp2_with fail
  clear ac0 ac1 ac2 ac3 ac4
  obtain ⟨gb, hgb⟩ : ∃ g, w5.heap.size = g := ⟨_, rfl⟩
  have hh6 := hold_alloc (t := 24) HX5.out
  have hba6 := al w5 (.cells #[.string o5, .string f5, .int .i64 p5, .slice A5 n5 c5, .slice B5 m5 d5] 24)
  have hna6 := HHa.out.new (ob := (.cells #[.string o5, .string f5, .int .i64 p5, .slice A5 n5 c5, .slice B5 m5 d5] 24))
  generalize w5.alloc (.cells #[.string o5, .string f5, .int .i64 p5, .slice A5 n5 c5, .slice B5 m5 d5] 24) = w6 at hh6 hba6 hna6 ⊢
  rw [hgb] at hh6 hna6 ⊢
  replace HHa := Lib.hid hna6
  have HHb := Lib.hid hh6
  have HB6 := Lib.hid (Bel.call HB5.out hba6)
  clear hh6 hba6 hgb hna6
  have hne1 : ¬ S1.toList = [] := by
    rw [Lib.toList_data, HS1.out]
    intro h
    have h2 : S1.size = 0 := by rw [Lib.size_eq, HS1.out, h]; rfl
    omega
  have hneb : (S1.toList == []) = false := by rw [beq_eq_false_iff_ne]; exact hne1
  have hem : S1.toList.isEmpty = false := by
    cases h : S1.toList with
    | nil => exact absurd h hne1
    | cons x t => rfl
  with_reducible refine (HSM.out _ _ _ HHb.out.isR HHa.out.isR).mono ?_
  rintro e7 w7 ⟨rfl, hb7⟩
  have HB7 := Lib.hid (Bel.call HB6.out hb7)
  replace HHa := Lib.hid (HHa.out.call hb7)
  replace HHb := Lib.hid (HHb.out.call hb7)
  clear hb7
  dsimp only
  have hPx : (S1 ++ ⟨#[0]⟩).data.toList = X ++ [0] := by rw [app_data, HS1.out]
  have hPz : (S1 ++ ⟨#[0]⟩).size ≤ 5000 := by rw [Lib.size_eq, hPx, List.length_append, ← HSZ.out]; simp; omega
  have HPX := Lib.hid hPx
  have HPZ := Lib.hid hPz
  clear hPx hPz
  go_wp2_with fail
  obtain ⟨PX, hpx⟩ : ∃ PX, S1 ++ ⟨#[0]⟩ = PX := ⟨_, rfl⟩
  rw [hpx] at HPX HPZ ⊢
  clear hpx
  have HT2 := Lib.hid (take_to TO (s := PX) (r := zero) (e := 2) (by rw [HPX.out, ← HX.out]; exact takeR_more HRR.out (by simp)) HPZ.out)
  with_reducible refine (HT2.out _ _ (gs_cons HHb.out.lt (gs_cons HHa.out.lt gs_nil))).mono ?_
  rintro e8 w8 ⟨⟨v8, hx8, rfl⟩, hb8⟩
  obtain ⟨o8, f8, p8, A8, n8, c8, B8, m8, d8, rfl, hp8, hn8, hm8, ho8, hf8, hx8⟩ := isX_lit hx8
  have HB8 := Lib.hid (Bel.call HB7.out hb8)
  replace HHa := Lib.hid (HHa.out.call hb8)
  replace HHb := Lib.hid (HHb.out.call hb8)
  have HX8 := Lib.hid hx8
  have HO8 := Lib.hid ho8
  have HF8 := Lib.hid hf8
  have HP8 := Lib.hid hp8
  have HN8 := Lib.hid hn8
  have HM8 := Lib.hid hm8
  clear hb8 hx8 ho8 hf8 hp8 hn8 hm8
  dsimp only at HX8 HO8 HF8 HP8 HN8 HM8 ⊢
  have HPK := Lib.hid fun w => pick7_any at0 S1.size w hat (by omega) (by omega)
  have hKl := pk_lt at0 (n := S1.size) (by omega)
  obtain ⟨K, hK⟩ : ∃ K, pk at0 S1.size = K := ⟨_, rfl⟩
  rw [hK] at HPK hKl
  clear hK
  have hKI : (K : Int) ≤ (S1.size : Int) := by omega
  go_wp2_with fail
  obtain ⟨gc, hgc⟩ : ∃ g, w8.heap.size = g := ⟨_, rfl⟩
  have hh9 := hold_alloc (t := 24) HX8.out
  have hba9 := al w8 (.cells #[.string o8, .string f8, .int .i64 p8, .slice A8 n8 c8, .slice B8 m8 d8] 24)
  have hna9 := HHa.out.new (ob := (.cells #[.string o8, .string f8, .int .i64 p8, .slice A8 n8 c8, .slice B8 m8 d8] 24))
  have hnb9 := HHb.out.new (ob := (.cells #[.string o8, .string f8, .int .i64 p8, .slice A8 n8 c8, .slice B8 m8 d8] 24))
  generalize w8.alloc (.cells #[.string o8, .string f8, .int .i64 p8, .slice A8 n8 c8, .slice B8 m8 d8] 24) = w9 at hh9 hba9 hna9 hnb9 ⊢
  rw [hgc] at hh9 hna9 hnb9 ⊢
  replace HHa := Lib.hid hna9
  replace HHb := Lib.hid hnb9
  have HHc := Lib.hid hh9
  have HB9 := Lib.hid (Bel.call HB8.out hba9)
  clear hh9 hba9 hgc hna9 hnb9
  with_reducible refine (HPK.out _).mono ?_
  rintro e9 v9 ⟨rfl, h9⟩
  obtain rfl : w9 = v9 := h9.symm
  clear h9
  dsimp only
  have hEx : (S1.extract 0 K).data.toList = X.take K := by rw [extract_take, HS1.out]
  have HEX := Lib.hid hEx
  have HEZ : Hid ((S1.extract 0 K).size ≤ 5000) := by show _ ≤ _; rw [Lib.size_eq, hEx, List.length_take, ← HSZ.out]; omega
  clear hEx
  go_wp2_with fail
  obtain ⟨EX, hex⟩ : ∃ EX, S1.extract 0 K = EX := ⟨_, rfl⟩
  rw [hex] at HEX HEZ ⊢
  clear hex
  have HT3 := Lib.hid (take_to TO (s := EX) (r := zero) (e := 2) (by rw [HEX.out, ← HX.out]; exact takeR_less HRR.out (by rw [HX.out, ← HSZ.out]; exact hKl)) HEZ.out)
  with_reducible refine (HT3.out _ _ (gs_cons HHc.out.lt (gs_cons HHb.out.lt (gs_cons HHa.out.lt gs_nil)))).mono ?_
  rintro e10 w10 ⟨⟨v10, hx10, rfl⟩, hb10⟩
  obtain ⟨o10, f10, p10, A10, n10, c10, B10, m10, d10, rfl, hp10, hn10, hm10, ho10, hf10, hx10⟩ := isX_lit hx10
  have HB10 := Lib.hid (Bel.call HB9.out hb10)
  replace HHa := Lib.hid (HHa.out.call hb10)
  replace HHb := Lib.hid (HHb.out.call hb10)
  replace HHc := Lib.hid (HHc.out.call hb10)
  have HX10 := Lib.hid hx10
  have HO10 := Lib.hid ho10
  have HF10 := Lib.hid hf10
  have HP10 := Lib.hid hp10
  have HN10 := Lib.hid hn10
  have HM10 := Lib.hid hm10
  clear hb10 hx10 ho10 hf10 hp10 hn10 hm10
  dsimp only at HX10 HO10 HF10 HP10 HN10 HM10 ⊢
  go_wp2_with fail
  obtain ⟨gd, hgd⟩ : ∃ g, w10.heap.size = g := ⟨_, rfl⟩
  have hh11 := hold_alloc (t := 24) HX10.out
  have hba11 := al w10 (.cells #[.string o10, .string f10, .int .i64 p10, .slice A10 n10 c10, .slice B10 m10 d10] 24)
  have hna11 := HHa.out.new (ob := (.cells #[.string o10, .string f10, .int .i64 p10, .slice A10 n10 c10, .slice B10 m10 d10] 24))
  have hnb11 := HHb.out.new (ob := (.cells #[.string o10, .string f10, .int .i64 p10, .slice A10 n10 c10, .slice B10 m10 d10] 24))
  have hnc11 := HHc.out.new (ob := (.cells #[.string o10, .string f10, .int .i64 p10, .slice A10 n10 c10, .slice B10 m10 d10] 24))
  generalize w10.alloc (.cells #[.string o10, .string f10, .int .i64 p10, .slice A10 n10 c10, .slice B10 m10 d10] 24) = w11 at hh11 hba11 hna11 hnb11 hnc11 ⊢
  rw [hgd] at hh11 hna11 hnb11 hnc11 ⊢
  replace HHa := Lib.hid hna11
  replace HHb := Lib.hid hnb11
  replace HHc := Lib.hid hnc11
  have HHd := Lib.hid hh11
  have HB11 := Lib.hid (Bel.call HB10.out hba11)
  clear hh11 hba11 hgd hna11 hnb11 hnc11
  obtain ⟨q, e, hq, hqe⟩ : ∃ q e, takeR s.data.toList = (q, e) ∧ ((q = zero ∧ e = 2) ∨ (RR q ∧ s.data.toList = rowR q ∧ e = 0)) := by
    rcases takeR_cases s.data.toList with h | ⟨q, h1, h2, h3⟩
    · exact ⟨_, _, h, .inl ⟨rfl, rfl⟩⟩
    · exact ⟨_, _, h1, .inr ⟨h2, h3, rfl⟩⟩
  have HT4 := Lib.hid (take_to TO hq hs5)
  clear hq
  have HQE := Lib.hid hqe
  clear hqe
  with_reducible refine (HT4.out _ _ (gs_cons HHd.out.lt (gs_cons HHc.out.lt (gs_cons HHb.out.lt (gs_cons HHa.out.lt gs_nil))))).mono ?_
  rintro e12 w12 ⟨⟨v12, hx12, rfl⟩, hb12⟩
  obtain ⟨o12, f12, p12, A12, n12, c12, B12, m12, d12, rfl, hp12, hn12, hm12, ho12, hf12, hx12⟩ := isX_lit hx12
  have HB12 := Lib.hid (Bel.call HB11.out hb12)
  replace HHa := Lib.hid (HHa.out.call hb12)
  replace HHb := Lib.hid (HHb.out.call hb12)
  replace HHc := Lib.hid (HHc.out.call hb12)
  replace HHd := Lib.hid (HHd.out.call hb12)
  have HX12 := Lib.hid hx12
  have HO12 := Lib.hid ho12
  have HF12 := Lib.hid hf12
  have HP12 := Lib.hid hp12
  have HN12 := Lib.hid hn12
  have HM12 := Lib.hid hm12
  clear hb12 hx12 ho12 hf12 hp12 hn12 hm12
  dsimp only at HX12 HO12 HF12 HP12 HN12 HM12 ⊢
  go_wp2_with fail
  obtain ⟨ge, hge⟩ : ∃ g, w12.heap.size = g := ⟨_, rfl⟩
  have hh13 := hold_alloc (t := 24) HX12.out
  have hba13 := al w12 (.cells #[.string o12, .string f12, .int .i64 p12, .slice A12 n12 c12, .slice B12 m12 d12] 24)
  have hna13 := HHa.out.new (ob := (.cells #[.string o12, .string f12, .int .i64 p12, .slice A12 n12 c12, .slice B12 m12 d12] 24))
  have hnb13 := HHb.out.new (ob := (.cells #[.string o12, .string f12, .int .i64 p12, .slice A12 n12 c12, .slice B12 m12 d12] 24))
  have hnc13 := HHc.out.new (ob := (.cells #[.string o12, .string f12, .int .i64 p12, .slice A12 n12 c12, .slice B12 m12 d12] 24))
  have hnd13 := HHd.out.new (ob := (.cells #[.string o12, .string f12, .int .i64 p12, .slice A12 n12 c12, .slice B12 m12 d12] 24))
  generalize w12.alloc (.cells #[.string o12, .string f12, .int .i64 p12, .slice A12 n12 c12, .slice B12 m12 d12] 24) = w13 at hh13 hba13 hna13 hnb13 hnc13 hnd13 ⊢
  rw [hge] at hh13 hna13 hnb13 hnc13 hnd13 ⊢
  replace HHa := Lib.hid hna13
  replace HHb := Lib.hid hnb13
  replace HHc := Lib.hid hnc13
  replace HHd := Lib.hid hnd13
  have HHe := Lib.hid hh13
  have HB13 := Lib.hid (Bel.call HB12.out hba13)
  clear hh13 hba13 hge hna13 hnb13 hnc13 hnd13
  obtain ⟨hq, he⟩ | ⟨hq, hqs, he⟩ := HQE.out
  · subst hq
    subst he
    have HP2 := Lib.hid (put_to PO (putR_wrong zero_not) few_zero)
    have hof := HO12.out
    with_reducible refine (HP2.out _ _ HHe.out.isR).mono ?_
    rintro e14 w14 ⟨⟨S2, hS2, rfl⟩, hb14⟩
    have HB14 := Lib.hid (Bel.call HB13.out hb14)
    replace HHa := Lib.hid (HHa.out.call hb14)
    replace HHb := Lib.hid (HHb.out.call hb14)
    replace HHc := Lib.hid (HHc.out.call hb14)
    replace HHd := Lib.hid (HHd.out.call hb14)
    replace HHe := Lib.hid (HHe.out.call hb14)
    clear hb14
    clear hS2
    dsimp only
    obtain ⟨⟨ec0, ec1, ec2, ec3, ec4, _⟩, _, _⟩ := HHe.out
    have hoe : (o12.toList == []) = true := by rw [Lib.toList_data, hof]; rfl
    have hoe2 : o12.toList = [] := by rw [Lib.toList_data, hof]; rfl
    go_wp2
    go_ret
    exact ⟨rfl, HB14.out⟩
  · subst he
    have HP2 := Lib.hid (put_to PO (putR_right hq) (few_right hq))
    have HRT := Lib.hid (right_to RG (decide_eq_true hq) (few_right hq))
    with_reducible refine (HP2.out _ _ HHe.out.isR).mono ?_
    rintro e14 w14 ⟨⟨S2, hS2, rfl⟩, hb14⟩
    have HB14 := Lib.hid (Bel.call HB13.out hb14)
    replace HHa := Lib.hid (HHa.out.call hb14)
    replace HHb := Lib.hid (HHb.out.call hb14)
    replace HHc := Lib.hid (HHc.out.call hb14)
    replace HHd := Lib.hid (HHd.out.call hb14)
    replace HHe := Lib.hid (HHe.out.call hb14)
    clear hb14
    dsimp only at hS2
    obtain rfl : S2 = s := str_eq (hS2.trans hqs.symm)
    clear hS2
    dsimp only
    have hsb : (S2.toList == S2.toList) = true := beq_self_eq_true _
    obtain ⟨⟨ec0, ec1, ec2, ec3, ec4, _⟩, _, _⟩ := HHe.out
    go_wp2_with fail
    clear ec0 ec1 ec2 ec3 ec4
    with_reducible refine (HRT.out _ _ HHe.out.isR).mono ?_
    rintro e15 w15 ⟨rfl, hb15⟩
    have HB15 := Lib.hid (Bel.call HB14.out hb15)
    replace HHa := Lib.hid (HHa.out.call hb15)
    replace HHb := Lib.hid (HHb.out.call hb15)
    replace HHc := Lib.hid (HHc.out.call hb15)
    replace HHd := Lib.hid (HHd.out.call hb15)
    replace HHe := Lib.hid (HHe.out.call hb15)
    clear hb15
    dsimp only
    go_wp2
    go_ret
    exact ⟨rfl, HB15.out⟩
end Go.Proofs.Ytjikepfgfbnheaa.Rig
