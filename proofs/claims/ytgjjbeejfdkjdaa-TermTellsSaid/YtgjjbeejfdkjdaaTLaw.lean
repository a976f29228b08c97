/-
  CONTRACTS of the laws' own helpers shown, same, made, asked (letterlocklaw3) at this program. By an AI agent; no person has read it.
-/
import Derived.Test.YtgjjbeejfdkjdaaTCode
import Derived.Test.YtgjjbeejfdkjdaaTPick
namespace Go.Proofs.Ytgjjbeejfdkjdaa.Term
open Go.RowKit Wire

theorem put_5 : put 5 = [1, 5] := by
  have h : dig 5 = [5] := by
    rw [dig_pos (by decide), show 5 / 256 = 0 from rfl, dig_zero]; rfl
  rw [put, h]; rfl
theorem atom_5 : ofAtom 5 = [97, 1, 5] := by rw [ofAtom, put_5]
theorem kind_5 : kind [97, 1, 5] = 97 := by
  have h := ofAtom_right (n := 5) (by decide)
  rw [atom_5] at h
  unfold kind
  rw [if_pos h]; rfl
set_option maxHeartbeats 1000000 in
theorem shown_any (w : World) : Calls Try.prog 10 #[] w fun e w' => e = .returned (.bool true) ∧ Below w.heap.size w w' := by
  go_enter Try.func10, Try.ntmps10
  go_wp2_with fail
  refine (t_OfAtom 5 _ (by decide)).mono ?_
  rintro e w1 ⟨⟨T, hT, rfl⟩, hb1⟩
  have HB1 := Lib.hid hb1
  have hq : (T.toList == [97, 1, 5]) = true := by rw [Lib.toList_data, hT, atom_5]; rfl
  clear hT hb1
  have HK : Hid (kind (ByteArray.mk #[97, 1, 5]).data.toList = 97) := kind_5
  go_wp2_with fail
  refine (t_Kind ⟨#[97, 1, 5]⟩ _ (by decide)).mono ?_
  rw [HK.out]
  rintro e w2 ⟨rfl, hb2⟩
  have HB2 := Lib.hid (HB1.out.trans (hb2.mono HB1.out.size))
  clear hb2
  go_wp2
  go_ret
  exact ⟨rfl, HB2.out⟩

set_option maxHeartbeats 2000000 in
set_option maxRecDepth 1000000 in
theorem same_any (a b : Option Addr) (c d : Nat) (xs ys : List ByteArray) (w : World) (hr : SReads w a xs) (hq : SReads w b ys) (hn : xs.length ≤ 140737488355328) :
    Calls Try.prog 43 #[.slice a xs.length c, .slice b ys.length d] w fun e w' => e = .returned (.bool (decide (bl xs = bl ys))) ∧ Below w.heap.size w w' := by
  have HR := Lib.hid hr
  have HQ := Lib.hid hq
  clear hr hq
  by_cases hl : xs.length = ys.length
  · obtain ⟨n, hxn⟩ : ∃ n, xs.length = n := ⟨_, rfl⟩
    have hyn : ys.length = n := by omega
    rw [hxn] at hn ⊢
    rw [hyn]
    have HX := Lib.hid hxn
    have HY := Lib.hid hyn
    clear hl hxn hyn
    go_enter Try.func43, Try.ntmps43
    go_wp2
    go_loopw [5] (fun i wr => ∃ k d : Nat, k ≤ n ∧ i = .int .i64 k ∧ wr = w.drewN d ∧ Hid (bl (xs.take k) = bl (ys.take k))) (fun i _ => n - (intOf i).toNat)
    case atStart => exact ⟨0, 0, Nat.zero_le _, rfl, rfl, rfl⟩
    case round =>
      obtain ⟨k, d, hk, rfl, rfl, HA⟩ := hrel
      by_cases hlt : k < n
      · have hlx : k < xs.length := by rw [HX.out]; exact hlt
        have hly : k < ys.length := by rw [HY.out]; exact hlt
        obtain ⟨b1, o1, rfl, hb1, hc1⟩ := HR.out k hlx
        obtain ⟨b2, o2, rfl, hb2, hc2⟩ := HQ.out k hly
        obtain ⟨x, hx⟩ : ∃ x, xs.getD k ByteArray.empty = x := ⟨_, rfl⟩
        obtain ⟨y, hy⟩ : ∃ y, ys.getD k ByteArray.empty = y := ⟨_, rfl⟩
        rw [hx] at hc1
        rw [hy] at hc2
        have GX := Lib.hid hx
        have GY := Lib.hid hy
        have hk0 : (0 : Int) ≤ (k : Int) := by omega
        have hk1 : (k : Int) < (n : Int) := by omega
        clear hx hy
        by_cases he : x.data.toList = y.data.toList
        · have hb := eq_bool he
          have HE := Lib.hid he
          clear he
          go_wp2
          go_quiet (fail)
          go_wp2
          go_roundw
          case rel => exact ⟨k + 1, _, by omega, by go_num, rfl, bl_take_step hlx hly GX.out GY.out HA.out HE.out⟩
          case measure => simp [intOf]; omega
        · have hb := ne_bool he
          have HE := Lib.hid he
          clear he
          go_wp2
          go_quiet (fail)
          go_wp2
          go_ret
          refine ⟨ret_bool ?_, (bdrew w d).trans (bdrew _ _)⟩
          exact (decide_eq_false (bl_differ hlx hly GX.out GY.out HE.out)).symm
      · obtain rfl : k = n := by omega
        go_wp2
        go_ret
        refine ⟨ret_bool ?_, bdrew _ _⟩
        have h := HA.out
        rw [List.take_of_length_le (by rw [HX.out]; exact Nat.le_refl _), List.take_of_length_le (by rw [HY.out]; exact Nat.le_refl _)] at h
        exact (decide_eq_true h).symm
  · have hne : ((xs.length : Int) != (ys.length : Int)) = true := by simp; omega
    have hd : decide (bl xs = bl ys) = false := decide_eq_false fun h => hl (by rw [← bl_len, ← bl_len, h])
    have HD := Lib.hid hd
    clear hd
    go_enter Try.func43, Try.ntmps43
    go_wp2
    go_ret
    exact ⟨ret_bool HD.out.symm, Below.refl _ _⟩
set_option maxHeartbeats 4000000 in
set_option maxRecDepth 1000000 in
theorem madeLaw_any (n : Nat) (s t : ByteArray) (w : World) (hn : n < 18446744073709551616) (hs : s.size ≤ 10000) (ht : t.size ≤ 10000) :
    Calls Try.prog 12 #[.int .u64 n, .string s, .string t] w fun e w' => e = .returned (.bool true) ∧ Below w.heap.size w w' := by
  have HN := Lib.hid hn
  have HB0 := Lib.hid (Below.refl w.heap.size w)
  clear hn
  obtain ⟨x1, f1, hx⟩ : ∃ x f, ofText s.data.toList = (x, f) := ⟨_, _, rfl⟩
  have HX1 := Lib.hid hx
  clear hx
  obtain ⟨x3, f3, hx⟩ : ∃ x f, two 112 s.data.toList t.data.toList = (x, f) := ⟨_, _, rfl⟩
  have HX3 := Lib.hid hx
  clear hx
  obtain ⟨x4, f4, hx⟩ : ∃ x f, one 104 s.data.toList = (x, f) := ⟨_, _, rfl⟩
  have HX4 := Lib.hid hx
  clear hx
  obtain ⟨x5, f5, hx⟩ : ∃ x f, two 115 s.data.toList t.data.toList = (x, f) := ⟨_, _, rfl⟩
  have HX5 := Lib.hid hx
  clear hx
  obtain ⟨x6, f6, hx⟩ : ∃ x f, one 117 s.data.toList = (x, f) := ⟨_, _, rfl⟩
  have HX6 := Lib.hid hx
  clear hx
  obtain ⟨x7, f7, hx⟩ : ∃ x f, box s.data.toList t.data.toList = (x, f) := ⟨_, _, rfl⟩
  have HX7 := Lib.hid hx
  clear hx
  obtain ⟨x8, f8, hx⟩ : ∃ x f, two 103 s.data.toList t.data.toList = (x, f) := ⟨_, _, rfl⟩
  have HX8 := Lib.hid hx
  clear hx
  go_enter Try.func12, Try.ntmps12
  go_wp2_with fail
  refine (t_OfText s _ (by omega)).mono ?_
  rw [HX1.out]
  rintro e w1a ⟨⟨A1, hA, rfl⟩, hb⟩
  dsimp only at hA ⊢
  have HB1a := Lib.hid (HB0.out.trans (hb.mono HB0.out.size))
  have HA1 := Lib.hid hA
  clear hA hb
  go_wp2_with fail
  refine (ofText_any s _ (by omega)).mono ?_
  rw [HX1.out]
  rintro e w1 ⟨⟨B1, hA, rfl⟩, hb⟩
  dsimp only at hA ⊢
  have HB1 := Lib.hid (HB1a.out.trans (hb.mono HB1a.out.size))
  have heq1 : (A1.toList == B1.toList) = true := eq_bool (by rw [HA1.out, hA])
  clear hA hb
  go_wp2_with fail
  refine (t_OfAtom n _ HN.out).mono ?_
  rintro e w2a ⟨⟨A2, hA, rfl⟩, hb⟩
  have HB2a := Lib.hid (HB1.out.trans (hb.mono HB1.out.size))
  have HA2 := Lib.hid hA
  clear hA hb
  go_wp2_with fail
  refine (ofAtom_any n _ HN.out).mono ?_
  rintro e w2 ⟨⟨B2, hA, rfl⟩, hb⟩
  have HB2 := Lib.hid (HB2a.out.trans (hb.mono HB2a.out.size))
  have heq2 : (A2.toList == B2.toList) = true := eq_bool (by rw [HA2.out, hA])
  clear hA hb
  go_wp2_with fail
  refine (t_OfPair s t _ (by omega) (by omega)).mono ?_
  rw [HX3.out]
  rintro e w3a ⟨⟨A3, hA, rfl⟩, hb⟩
  dsimp only at hA ⊢
  have HB3a := Lib.hid (HB2.out.trans (hb.mono HB2.out.size))
  have HA3 := Lib.hid hA
  clear hA hb
  go_wp2_with fail
  refine (ofPair_any s t _ (by omega) (by omega)).mono ?_
  rw [HX3.out]
  rintro e w3 ⟨⟨B3, hA, rfl⟩, hb⟩
  dsimp only at hA ⊢
  have HB3 := Lib.hid (HB3a.out.trans (hb.mono HB3a.out.size))
  have heq3 : (A3.toList == B3.toList) = true := eq_bool (by rw [HA3.out, hA])
  clear hA hb
  go_wp2_with fail
  refine (t_OfHash s _ (by omega)).mono ?_
  rw [HX4.out]
  rintro e w4a ⟨⟨A4, hA, rfl⟩, hb⟩
  dsimp only at hA ⊢
  have HB4a := Lib.hid (HB3.out.trans (hb.mono HB3.out.size))
  have HA4 := Lib.hid hA
  clear hA hb
  go_wp2_with fail
  refine (ofHash_any s _ (by omega)).mono ?_
  rw [HX4.out]
  rintro e w4 ⟨⟨B4, hA, rfl⟩, hb⟩
  dsimp only at hA ⊢
  have HB4 := Lib.hid (HB4a.out.trans (hb.mono HB4a.out.size))
  have heq4 : (A4.toList == B4.toList) = true := eq_bool (by rw [HA4.out, hA])
  clear hA hb
  go_wp2_with fail
  refine (t_Seal s t _ (by omega) (by omega)).mono ?_
  rw [HX5.out]
  rintro e w5a ⟨⟨A5, hA, rfl⟩, hb⟩
  dsimp only at hA ⊢
  have HB5a := Lib.hid (HB4.out.trans (hb.mono HB4.out.size))
  have HA5 := Lib.hid hA
  clear hA hb
  go_wp2_with fail
  refine (seal_any s t _ (by omega) (by omega)).mono ?_
  rw [HX5.out]
  rintro e w5 ⟨⟨B5, hA, rfl⟩, hb⟩
  dsimp only at hA ⊢
  have HB5 := Lib.hid (HB5a.out.trans (hb.mono HB5a.out.size))
  have heq5 : (A5.toList == B5.toList) = true := eq_bool (by rw [HA5.out, hA])
  clear hA hb
  go_wp2_with fail
  refine (t_OfPublic s _ (by omega)).mono ?_
  rw [HX6.out]
  rintro e w6a ⟨⟨A6, hA, rfl⟩, hb⟩
  dsimp only at hA ⊢
  have HB6a := Lib.hid (HB5.out.trans (hb.mono HB5.out.size))
  have HA6 := Lib.hid hA
  clear hA hb
  go_wp2_with fail
  refine (ofPublic_any s _ (by omega)).mono ?_
  rw [HX6.out]
  rintro e w6 ⟨⟨B6, hA, rfl⟩, hb⟩
  dsimp only at hA ⊢
  have HB6 := Lib.hid (HB6a.out.trans (hb.mono HB6a.out.size))
  have heq6 : (A6.toList == B6.toList) = true := eq_bool (by rw [HA6.out, hA])
  clear hA hb
  go_wp2_with fail
  refine (t_Box s t _ (by omega) (by omega)).mono ?_
  rw [HX7.out]
  rintro e w7a ⟨⟨A7, hA, rfl⟩, hb⟩
  dsimp only at hA ⊢
  have HB7a := Lib.hid (HB6.out.trans (hb.mono HB6.out.size))
  have HA7 := Lib.hid hA
  clear hA hb
  go_wp2_with fail
  refine (box_any s t _ (by omega) (by omega)).mono ?_
  rw [HX7.out]
  rintro e w7 ⟨⟨B7, hA, rfl⟩, hb⟩
  dsimp only at hA ⊢
  have HB7 := Lib.hid (HB7a.out.trans (hb.mono HB7a.out.size))
  have heq7 : (A7.toList == B7.toList) = true := eq_bool (by rw [HA7.out, hA])
  clear hA hb
  go_wp2_with fail
  refine (t_Sign s t _ (by omega) (by omega)).mono ?_
  rw [HX8.out]
  rintro e w8a ⟨⟨A8, hA, rfl⟩, hb⟩
  dsimp only at hA ⊢
  have HB8a := Lib.hid (HB7.out.trans (hb.mono HB7.out.size))
  have HA8 := Lib.hid hA
  clear hA hb
  go_wp2_with fail
  refine (sign_any s t _ (by omega) (by omega)).mono ?_
  rw [HX8.out]
  rintro e w8 ⟨⟨B8, hA, rfl⟩, hb⟩
  dsimp only at hA ⊢
  have HB8 := Lib.hid (HB8a.out.trans (hb.mono HB8a.out.size))
  have heq8 : (A8.toList == B8.toList) = true := eq_bool (by rw [HA8.out, hA])
  clear hA hb
  go_wp2
  go_ret
  exact ⟨rfl, HB8.out⟩

theorem cuts_few {l : List UInt8} {x : List (List UInt8)} {e : Int} (h : parts l = (x, e)) : x.length ≤ 100000 := by
  unfold parts at h
  split at h
  · simp only [Prod.mk.injEq] at h
    rw [← h.1]
    have hl : ∀ (k : Nat) (l : List UInt8), (cuts k l).length = k := fun k => by
      induction k with
      | zero => intro l; rfl
      | succ k ih => intro l; simp only [cuts, List.length_cons, ih]
    rw [hl]
    unfold arity
    split
    · simp
    · split
      · simp
      · split <;> simp
  · simp only [Prod.mk.injEq] at h
    rw [← h.1]; simp
set_option maxHeartbeats 4000000 in
set_option maxRecDepth 1000000 in
theorem askedLaw_any (s t u : ByteArray) (w : World) (hs : s.size ≤ 10000) (ht : t.size ≤ 10000) (hu : u.size ≤ 10000) :
    Calls Try.prog 13 #[.string s, .string t, .string u] w fun e w' => e = .returned (.bool true) ∧ Below w.heap.size w w' := by
  have hpl : ∀ l e, parts s.data.toList = (l, e) → l.length ≤ 100000 := fun _ _ h => cuts_few h
  have HB0 := Lib.hid (Below.refl w.heap.size w)
  obtain ⟨a1, y1, e1, hx⟩ : ∃ a y e, read s.data.toList = (a, y, e) := ⟨_, _, _, rfl⟩
  have HX1 := Lib.hid hx
  clear hx
  obtain ⟨l2, e2, hx⟩ : ∃ l e, parts s.data.toList = (l, e) := ⟨_, _, rfl⟩
  have hl2 : l2.length ≤ 100000 := hpl l2 e2 hx
  have HX2 := Lib.hid hx
  clear hx hpl
  obtain ⟨k3, hk3⟩ : ∃ k, kind s.data.toList = k := ⟨_, rfl⟩
  have HX3 := Lib.hid hk3
  obtain ⟨v4, hv4⟩ : ∃ v, verify s.data.toList t.data.toList u.data.toList = v := ⟨_, rfl⟩
  have HX4 := Lib.hid hv4
  obtain ⟨n5, e5, hx⟩ : ∃ n e, number s.data.toList = (n, e) := ⟨_, _, rfl⟩
  have HX5 := Lib.hid hx
  clear hx hk3 hv4
  obtain ⟨x6, f6, hx⟩ : ∃ x f, words s.data.toList = (x, f) := ⟨_, _, rfl⟩
  have HX6 := Lib.hid hx
  clear hx
  obtain ⟨x7, f7, hx⟩ : ∃ x f, open' s.data.toList t.data.toList = (x, f) := ⟨_, _, rfl⟩
  have HX7 := Lib.hid hx
  clear hx
  obtain ⟨x8, f8, hx⟩ : ∃ x f, unbox s.data.toList t.data.toList = (x, f) := ⟨_, _, rfl⟩
  have HX8 := Lib.hid hx
  clear hx
  go_enter Try.func13, Try.ntmps13
  go_wp2_with fail
  refine (t_Read s _ (by omega)).mono ?_
  rw [HX1.out]
  rintro e w1a ⟨⟨A1, Y1, hA, hY, rfl⟩, hb⟩
  dsimp only at hA hY ⊢
  have HB1a := Lib.hid (HB0.out.trans (hb.mono HB0.out.size))
  have HA1 := Lib.hid hA
  have HY1 := Lib.hid hY
  clear hA hY hb
  go_wp2_with fail
  refine (read_any s _ (by omega)).mono ?_
  rw [HX1.out]
  rintro e w1 ⟨⟨C1, Z1, hA, hY, rfl⟩, hb⟩
  dsimp only at hA hY ⊢
  have HB1 := Lib.hid (HB1a.out.trans (hb.mono HB1a.out.size))
  have heq1 : (A1.toList == C1.toList) = true := eq_bool (by rw [HA1.out, hA])
  have heq1y : (Y1.toList == Z1.toList) = true := eq_bool (by rw [HY1.out, hY])
  clear hA hY hb
  go_wp2_with fail
  refine (t_Parts s _ (by omega)).mono ?_
  rw [HX2.out]
  rintro e w2a ⟨⟨A2, c2, ys2, hys, hcl, hsr, rfl⟩, hb⟩
  dsimp only at hys ⊢
  have HB2a := Lib.hid (HB1.out.trans (hb.mono HB1.out.size))
  have HYS := Lib.hid hys
  have HSR := Lib.hid hsr
  clear hys hcl hsr hb
  go_wp2_with fail
  refine (parts_any s _ (by omega)).mono ?_
  rw [HX2.out]
  rintro e w2 ⟨⟨B2, d2, zs2, hzs, hcl, hsr, rfl⟩, hb⟩
  dsimp only at hzs ⊢
  have HB2 := Lib.hid (HB2a.out.trans (hb.mono HB2a.out.size))
  have HSR1 := Lib.hid (HSR.out.below hb (Nat.le_refl _))
  have HSR2 := Lib.hid hsr
  have HE : Hid (decide (bl ys2 = bl zs2) = true) := decide_eq_true (by rw [HYS.out, hzs])
  have hyl : ys2.length ≤ 100000 := by rw [← bl_len, HYS.out]; exact hl2
  clear hzs hcl hsr hb
  go_wp2_with fail
  refine (same_any _ _ c2 d2 ys2 zs2 _ HSR1.out HSR2.out (by omega)).mono ?_
  rw [HE.out]
  rintro e w3s ⟨rfl, hb⟩
  have HB3s := Lib.hid (HB2.out.trans (hb.mono HB2.out.size))
  clear hb
  go_wp2_with fail
  refine (t_Kind s _ (by omega)).mono ?_
  rw [HX3.out]
  rintro e w3a ⟨rfl, hb⟩
  have HB3a := Lib.hid (HB3s.out.trans (hb.mono HB3s.out.size))
  clear hb
  go_wp2_with fail
  refine (kind_any s _ (by omega)).mono ?_
  rw [HX3.out]
  rintro e w3 ⟨rfl, hb⟩
  have HB3 := Lib.hid (HB3a.out.trans (hb.mono HB3a.out.size))
  clear hb
  go_wp2_with fail
  refine (t_Verify s t u _ (by omega) (by omega) (by omega)).mono ?_
  rw [HX4.out]
  rintro e w4a ⟨rfl, hb⟩
  have HB4a := Lib.hid (HB3.out.trans (hb.mono HB3.out.size))
  clear hb
  go_wp2_with fail
  refine (verify_any s t u _ (by omega) (by omega) (by omega)).mono ?_
  rw [HX4.out]
  rintro e w4 ⟨rfl, hb⟩
  have HB4 := Lib.hid (HB4a.out.trans (hb.mono HB4a.out.size))
  clear hb
  go_wp2_with fail
  refine (t_Number s _ (by omega)).mono ?_
  rw [HX5.out]
  rintro e w5a ⟨rfl, hb⟩
  have HB5a := Lib.hid (HB4.out.trans (hb.mono HB4.out.size))
  clear hb
  go_wp2_with fail
  refine (number_any s _ (by omega)).mono ?_
  rw [HX5.out]
  rintro e w5 ⟨rfl, hb⟩
  have HB5 := Lib.hid (HB5a.out.trans (hb.mono HB5a.out.size))
  clear hb
  go_wp2_with fail
  refine (t_Words s _ (by omega)).mono ?_
  rw [HX6.out]
  rintro e w6a ⟨⟨A6, hA, rfl⟩, hb⟩
  dsimp only at hA ⊢
  have HB6a := Lib.hid (HB5.out.trans (hb.mono HB5.out.size))
  have HA6 := Lib.hid hA
  clear hA hb
  go_wp2_with fail
  refine (words_any s _ (by omega)).mono ?_
  rw [HX6.out]
  rintro e w6 ⟨⟨B6, hA, rfl⟩, hb⟩
  dsimp only at hA ⊢
  have HB6 := Lib.hid (HB6a.out.trans (hb.mono HB6a.out.size))
  have heq6 : (A6.toList == B6.toList) = true := eq_bool (by rw [HA6.out, hA])
  clear hA hb
  go_wp2_with fail
  refine (t_Open s t _ (by omega) (by omega)).mono ?_
  rw [HX7.out]
  rintro e w7a ⟨⟨A7, hA, rfl⟩, hb⟩
  dsimp only at hA ⊢
  have HB7a := Lib.hid (HB6.out.trans (hb.mono HB6.out.size))
  have HA7 := Lib.hid hA
  clear hA hb
  go_wp2_with fail
  refine (open_any s t _ (by omega) (by omega)).mono ?_
  rw [HX7.out]
  rintro e w7 ⟨⟨B7, hA, rfl⟩, hb⟩
  dsimp only at hA ⊢
  have HB7 := Lib.hid (HB7a.out.trans (hb.mono HB7a.out.size))
  have heq7 : (A7.toList == B7.toList) = true := eq_bool (by rw [HA7.out, hA])
  clear hA hb
  go_wp2_with fail
  refine (t_Unbox s t _ (by omega) (by omega)).mono ?_
  rw [HX8.out]
  rintro e w8a ⟨⟨A8, hA, rfl⟩, hb⟩
  dsimp only at hA ⊢
  have HB8a := Lib.hid (HB7.out.trans (hb.mono HB7.out.size))
  have HA8 := Lib.hid hA
  clear hA hb
  go_wp2_with fail
  refine (unbox_any s t _ (by omega) (by omega)).mono ?_
  rw [HX8.out]
  rintro e w8 ⟨⟨B8, hA, rfl⟩, hb⟩
  dsimp only at hA ⊢
  have HB8 := Lib.hid (HB8a.out.trans (hb.mono HB8a.out.size))
  have heq8 : (A8.toList == B8.toList) = true := eq_bool (by rw [HA8.out, hA])
  clear hA hb
  go_wp2
  go_ret
  exact ⟨rfl, HB8.out⟩
end Go.Proofs.Ytgjjbeejfdkjdaa.Term
