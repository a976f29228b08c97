/-
  THE LAW RegressJoins, walked over what the code is held to. By an AI agent; no person has read it.
-/
import Derived.Test.YtjoldkhfkobahaaRSpec
import Derived.Test.YtjoldkhfkobahaaB2
namespace Go.Proofs.Ytjoldkhfkobahaa.Reg
open Go.RowKit Wire Term Clo Draw

theorem parts_hs {t : List UInt8} {k : Nat} (h : right (hs (k + 1) t) = true) : parts (hs (k + 1) t) = ([hs k t], 0) ∧ kind (hs (k + 1) t) = 104 := by
  have h1 := (pts_one (b := 104) (t := hs k t) h (.inl rfl)).1
  refine ⟨?_, by rw [kind_right h]; rfl⟩
  have h2 : (parts (hs (k + 1) t)).1 = [hs k t] := h1
  have h3 : (parts (hs (k + 1) t)).2 = 0 := by unfold parts; rw [if_pos h]
  rw [← h2, ← h3]
theorem bl_one {ys : List ByteArray} {x : List UInt8} (h : bl ys = [x]) : ∃ Y, ys = [Y] ∧ Y.data.toList = x := by
  match ys, h with
  | [Y], h => exact ⟨Y, rfl, (List.cons.inj h).1⟩
  | [], h => exact absurd h (by simp [bl])
  | _ :: _ :: _, h => exact absurd (congrArg List.length h) (by simp [bl])
/-- In the loop's round: the state that many steps ahead. -/
def Jn (s : ByteArray) (w0 : World) (k : Nat) (v : Value) (wr : World) : Prop := ∃ X : ByteArray, v = .string X ∧ X.data.toList = hs k s.data.toList ∧ right (hs k s.data.toList) = true ∧ Below w0.heap.size w0 wr
set_option maxHeartbeats 4000000 in
set_option maxRecDepth 1000000 in
theorem joins_walk (BK : BackOK) (p : Option Addr) (cap : Nat) (ys : List Int) (a b : Int) (w : World) (hr : IReads w p ys) (ha : -9223372036854775808 ≤ a ∧ a ≤ 9223372036854775807) (hb : -9223372036854775808 ≤ b ∧ b ≤ 9223372036854775807) :
    Calls Try.prog 6 #[.slice p ys.length cap, .int .i64 a, .int .i64 b] w fun e w' => e = .returned (.bool true) ∧ Below w.heap.size w w' := by
  have HSH := Lib.hid (shown6_any BK w)
  have HBK := Lib.hid fun s st w h1 h2 => BK s st w h1 h2
  have HB0 : Hid (∀ (S : ByteArray) (w : World), S.size ≤ 4000 → right S.data.toList = true → Calls Try.prog 13 #[.string S, .int .i64 0] w fun e' w' => Sr (S.data.toList, 0) e' ∧ Below w.heap.size w w') := fun S w hz hS => by
    have := BK S 0 w (by omega) (by omega)
    rw [back_of hS (by omega)] at this
    rw [show (S.data.toList, (0 : Int)) = backN S.data.toList (0 : Int).toNat from (backN_yes (k := 0) hS).symm]
    exact this
  have HBE : Hid (∀ (m : Nat) (w : World), m < 24 → Calls Try.prog 13 #[.string ⟨#[]⟩, .int .i64 (m : Int)] w fun e' w' => Sr ([], 1) e' ∧ Below w.heap.size w w') := fun m w hm => by
    have := BK ⟨#[]⟩ m w (by decide) (by omega)
    rw [back_not (fun h => absurd h.1 (by decide))] at this
    exact this
  have HR := Lib.hid hr
  clear BK hr
  go_enter Try.func6, Try.ntmps6
  go_wp2_with fail
  with_reducible refine (HSH.out).mono ?_
  rintro e w1 ⟨rfl, hb1⟩
  have HB1 := Lib.hid hb1
  clear hb1
  dsimp only
  go_wp2_with fail
  with_reducible refine (grown_any p cap ys _ (HR.out.below HB1.out (Nat.le_refl _))).mono ?_
  rintro e w2 ⟨⟨S, hSr, rfl⟩, hb2⟩
  have HB2 := Lib.hid (Bel.call HB1.out hb2)
  clear hb2
  have hSz := (right_sz hSr).2
  have HSR := Lib.hid hSr
  clear hSr
  dsimp only
  go_wp2_with fail
  refine (pick_any a 24 _ ha (by omega) (by omega)).mono ?_
  rintro e w9 ⟨⟨n, hn8, rfl⟩, rfl⟩
  dsimp only
  go_wp2_with fail
  refine (pick_any b 24 _ hb (by omega) (by omega)).mono ?_
  rintro e w9 ⟨⟨m, hm8, rfl⟩, rfl⟩
  dsimp only
  have e1 : back S.data.toList (n : Int) = backN S.data.toList n := by rw [back_of HSR.out (by omega), show ((n : Int)).toNat = n by omega]
  have e2 : back S.data.toList ((n : Int) + (m : Int)) = backN S.data.toList (n + m) := by rw [back_of HSR.out (by omega), show ((n : Int) + (m : Int)).toNat = n + m by omega]
  have E1 := Lib.hid e1
  have E2 := Lib.hid e2
  clear e1 e2
  by_cases hn : right (hs n S.data.toList) = true
  · have HN := Lib.hid hn
    clear hn
    by_cases hm : right (hs (n + m) S.data.toList) = true
    · have f1 : backN S.data.toList n = (hs n S.data.toList, 0) := backN_yes HN.out
      have F1 := Lib.hid f1
      clear f1
      have f2 : backN S.data.toList (n + m) = (hs (n + m) S.data.toList, 0) := backN_yes hm
      have f3 : backN (hs n S.data.toList) m = (hs (n + m) S.data.toList, 0) := by rw [Nat.add_comm n m, hs_add]; exact backN_yes (by rw [← hs_add, Nat.add_comm m n]; exact hm)
      have F2 := Lib.hid f2
      have f4 : back (hs n S.data.toList) (m : Int) = backN (hs n S.data.toList) m := by rw [back_of HN.out (by omega), show ((m : Int)).toNat = m by omega]
      have F3 := Lib.hid (f4.trans f3)
      clear f2 f3 f4 hm
      go_wp2_with fail
      with_reducible refine (HBK.out S n _ (by omega) (by omega)).mono ?_
      rw [E1.out, F1.out]
      rintro e w3 ⟨⟨X, hX, rfl⟩, hb3⟩
      have HB3 := Lib.hid (Bel.call HB2.out hb3)
      clear hb3
      dsimp only at hX
      have HX := Lib.hid hX
      clear hX
      dsimp only
      have hXz : X.size ≤ 4000 := by rw [Lib.size_eq, HX.out]; exact (right_len HN.out).2
      go_wp2_with fail
      with_reducible refine (HBK.out X m _ (by omega) (by omega)).mono ?_
      rw [HX.out, F3.out]
      rintro e w4 ⟨⟨Y, hY, rfl⟩, hb4⟩
      have HB4 := Lib.hid (Bel.call HB3.out hb4)
      clear hb4
      dsimp only at hY
      have HY := Lib.hid hY
      clear hY
      dsimp only
      go_wp2_with fail
      with_reducible refine (HBK.out S ((n : Int) + (m : Int)) _ (by omega) (by omega)).mono ?_
      rw [E2.out, F2.out]
      rintro e w5 ⟨⟨Z, hZ, rfl⟩, hb5⟩
      have HB5 := Lib.hid (Bel.call HB4.out hb5)
      clear hb5
      obtain rfl : Y = Z := str_eq (HY.out.trans hZ.symm)
      clear hZ
      dsimp only
      go_wp2_with fail
      with_reducible refine (HB0.out S _ hSz HSR.out).mono ?_
      rintro e w6 ⟨⟨O, hO, rfl⟩, hb6⟩
      have HB6 := Lib.hid (Bel.call HB5.out hb6)
      clear hb6
      obtain rfl : S = O := str_eq hO.symm
      clear hO
      dsimp only
      have HJN : Hid (Jn S w n (.string X) w6) := ⟨X, rfl, HX.out, HN.out, HB6.out⟩
      clear hXz
      go_wp2_with fail
      go_loopw [11, 19] (fun v i wr => ∃ j : Nat, j ≤ n ∧ i = .int .i64 (j : Int) ∧ Hid (Jn S w (n - j) v wr)) (fun _ i _ => n - (intOf i).toNat)
      case atStart => exact ⟨0, Nat.zero_le _, rfl, HJN⟩
      case round =>
        clear HJN
        obtain ⟨j, hj, rfl, HJN⟩ := hrel
        obtain ⟨X1, rfl, hX1, hr1, hbb⟩ := HJN.out
        have hX1z : X1.size ≤ 4000 := by rw [Lib.size_eq, hX1]; exact (right_len hr1).2
        have HBB := Lib.hid hbb
        have HX1 := Lib.hid hX1
        have HR1 := Lib.hid hr1
        clear HJN hX1 hr1 hbb
        by_cases hlt : (j : Int) < (n : Int)
        · obtain ⟨k, hk⟩ : ∃ k, n - j = k + 1 := ⟨n - j - 1, by omega⟩
          have hp := parts_hs (t := S.data.toList) (k := k) (by rw [← hk]; exact HR1.out)
          rw [← hk] at hp
          have hk2 : n - (j + 1) = k := by omega
          have HP := Lib.hid hp.1
          have HKD := Lib.hid hp.2
          have HRK : Hid (right (hs k S.data.toList) = true) := hs_less (k := n - j) (by omega) HR1.out
          have HK2 := Lib.hid hk2
          clear hp hk hk2
          go_wp2_with fail
          with_reducible refine (t_Parts X1 _ (by omega)).mono ?_
          rw [HX1.out, HP.out]
          rintro e w21 ⟨⟨A, c, us, hus, hcl, hsr, rfl⟩, hb21⟩
          dsimp only at hus ⊢
          obtain ⟨Y1, rfl, hY1⟩ := bl_one hus
          have HY1 := Lib.hid hY1
          have HB21 := Lib.hid (Bel.call HBB.out hb21)
          have HSRD := Lib.hid hsr
          clear hus hY1 hb21 hsr
          go_wp2_with fail
          with_reducible refine (t_Kind X1 _ (by omega)).mono ?_
          rw [HX1.out, HKD.out]
          rintro e w22 ⟨rfl, hb22⟩
          have HB22 := Lib.hid (Bel.call HB21.out hb22)
          obtain ⟨bb, off, rfl, hbl, hcl0⟩ := (HSRD.out.below hb22 (Nat.le_refl _)) 0 (by simp)
          have hc0 : w22.cell? ⟨bb, off, none⟩ = some (.string Y1) := hcl0
          have HNX : Hid (Jn S w (n - (j + 1)) (.string Y1) w22) := by rw [HK2.out]; exact ⟨Y1, rfl, HY1.out, HRK.out, HB22.out⟩
          clear hb22 hcl0 hbl HB21 HSRD
          dsimp only
          go_wp2
          go_roundw
          case rel => exact ⟨j + 1, by omega, by go_num, HNX⟩
          case measure => simp [intOf]; omega
        · obtain rfl : j = n := by omega
          obtain rfl : S = X1 := str_eq (by rw [HX1.out, Nat.sub_self]; rfl)
          go_wp2
          go_ret
          exact ⟨rfl, HBB.out⟩
    · have f1 : backN S.data.toList n = (hs n S.data.toList, 0) := backN_yes HN.out
      have F1 := Lib.hid f1
      clear f1
      have f2 : backN S.data.toList (n + m) = ([], 10) := backN_no hm
      have f3 : backN (hs n S.data.toList) m = ([], 10) := backN_no (by rw [← hs_add, Nat.add_comm m n]; exact hm)
      have F2 := Lib.hid f2
      have f4 : back (hs n S.data.toList) (m : Int) = backN (hs n S.data.toList) m := by rw [back_of HN.out (by omega), show ((m : Int)).toNat = m by omega]
      have F3 := Lib.hid (f4.trans f3)
      clear f2 f3 f4 hm
      go_wp2_with fail
      with_reducible refine (HBK.out S n _ (by omega) (by omega)).mono ?_
      rw [E1.out, F1.out]
      rintro e w3 ⟨⟨X, hX, rfl⟩, hb3⟩
      have HB3 := Lib.hid (Bel.call HB2.out hb3)
      clear hb3
      dsimp only at hX
      have HX := Lib.hid hX
      clear hX
      dsimp only
      have hXz : X.size ≤ 4000 := by rw [Lib.size_eq, HX.out]; exact (right_len HN.out).2
      go_wp2_with fail
      with_reducible refine (HBK.out X m _ (by omega) (by omega)).mono ?_
      rw [HX.out, F3.out]
      rintro e w4 ⟨⟨Y, hY, rfl⟩, hb4⟩
      have HB4 := Lib.hid (Bel.call HB3.out hb4)
      clear hb4
      obtain rfl : Y = ⟨#[]⟩ := str_eq hY
      clear hY
      dsimp only
      go_wp2_with fail
      with_reducible refine (HBK.out S ((n : Int) + (m : Int)) _ (by omega) (by omega)).mono ?_
      rw [E2.out, F2.out]
      rintro e w5 ⟨⟨Z, hZ, rfl⟩, hb5⟩
      have HB5 := Lib.hid (Bel.call HB4.out hb5)
      clear hb5
      obtain rfl : Z = ⟨#[]⟩ := str_eq hZ
      clear hZ
      dsimp only
      go_wp2_with fail
      with_reducible refine (HB0.out S _ hSz HSR.out).mono ?_
      rintro e w6 ⟨⟨O, hO, rfl⟩, hb6⟩
      have HB6 := Lib.hid (Bel.call HB5.out hb6)
      clear hb6
      obtain rfl : S = O := str_eq hO.symm
      clear hO
      dsimp only
      have HJN : Hid (Jn S w n (.string X) w6) := ⟨X, rfl, HX.out, HN.out, HB6.out⟩
      clear hXz
      go_wp2_with fail
      go_loopw [11, 19] (fun v i wr => ∃ j : Nat, j ≤ n ∧ i = .int .i64 (j : Int) ∧ Hid (Jn S w (n - j) v wr)) (fun _ i _ => n - (intOf i).toNat)
      case atStart => exact ⟨0, Nat.zero_le _, rfl, HJN⟩
      case round =>
        clear HJN
        obtain ⟨j, hj, rfl, HJN⟩ := hrel
        obtain ⟨X1, rfl, hX1, hr1, hbb⟩ := HJN.out
        have hX1z : X1.size ≤ 4000 := by rw [Lib.size_eq, hX1]; exact (right_len hr1).2
        have HBB := Lib.hid hbb
        have HX1 := Lib.hid hX1
        have HR1 := Lib.hid hr1
        clear HJN hX1 hr1 hbb
        by_cases hlt : (j : Int) < (n : Int)
        · obtain ⟨k, hk⟩ : ∃ k, n - j = k + 1 := ⟨n - j - 1, by omega⟩
          have hp := parts_hs (t := S.data.toList) (k := k) (by rw [← hk]; exact HR1.out)
          rw [← hk] at hp
          have hk2 : n - (j + 1) = k := by omega
          have HP := Lib.hid hp.1
          have HKD := Lib.hid hp.2
          have HRK : Hid (right (hs k S.data.toList) = true) := hs_less (k := n - j) (by omega) HR1.out
          have HK2 := Lib.hid hk2
          clear hp hk hk2
          go_wp2_with fail
          with_reducible refine (t_Parts X1 _ (by omega)).mono ?_
          rw [HX1.out, HP.out]
          rintro e w21 ⟨⟨A, c, us, hus, hcl, hsr, rfl⟩, hb21⟩
          dsimp only at hus ⊢
          obtain ⟨Y1, rfl, hY1⟩ := bl_one hus
          have HY1 := Lib.hid hY1
          have HB21 := Lib.hid (Bel.call HBB.out hb21)
          have HSRD := Lib.hid hsr
          clear hus hY1 hb21 hsr
          go_wp2_with fail
          with_reducible refine (t_Kind X1 _ (by omega)).mono ?_
          rw [HX1.out, HKD.out]
          rintro e w22 ⟨rfl, hb22⟩
          have HB22 := Lib.hid (Bel.call HB21.out hb22)
          obtain ⟨bb, off, rfl, hbl, hcl0⟩ := (HSRD.out.below hb22 (Nat.le_refl _)) 0 (by simp)
          have hc0 : w22.cell? ⟨bb, off, none⟩ = some (.string Y1) := hcl0
          have HNX : Hid (Jn S w (n - (j + 1)) (.string Y1) w22) := by rw [HK2.out]; exact ⟨Y1, rfl, HY1.out, HRK.out, HB22.out⟩
          clear hb22 hcl0 hbl HB21 HSRD
          dsimp only
          go_wp2
          go_roundw
          case rel => exact ⟨j + 1, by omega, by go_num, HNX⟩
          case measure => simp [intOf]; omega
        · obtain rfl : j = n := by omega
          obtain rfl : S = X1 := str_eq (by rw [HX1.out, Nat.sub_self]; rfl)
          go_wp2
          go_ret
          exact ⟨rfl, HBB.out⟩
  · have f1 : backN S.data.toList n = ([], 10) := backN_no hn
    have f2 : backN S.data.toList (n + m) = ([], 10) := backN_short (i := n) (by omega) hn
    have F1 := Lib.hid f1
    have F2 := Lib.hid f2
    clear f1 f2 hn
    go_wp2_with fail
    with_reducible refine (HBK.out S n _ (by omega) (by omega)).mono ?_
    rw [E1.out, F1.out]
    rintro e w3 ⟨⟨X, hX, rfl⟩, hb3⟩
    have HB3 := Lib.hid (Bel.call HB2.out hb3)
    clear hb3
    obtain rfl : X = ⟨#[]⟩ := str_eq hX
    clear hX
    dsimp only
    go_wp2_with fail
    with_reducible refine (HBE.out m _ hm8).mono ?_
    rintro e w4 ⟨⟨Y, hY, rfl⟩, hb4⟩
    have HB4 := Lib.hid (Bel.call HB3.out hb4)
    clear hb4
    clear hY
    dsimp only
    go_wp2_with fail
    with_reducible refine (HBK.out S ((n : Int) + (m : Int)) _ (by omega) (by omega)).mono ?_
    rw [E2.out, F2.out]
    rintro e w5 ⟨⟨Z, hZ, rfl⟩, hb5⟩
    have HB5 := Lib.hid (Bel.call HB4.out hb5)
    clear hb5
    obtain rfl : Z = ⟨#[]⟩ := str_eq hZ
    clear hZ
    dsimp only
    go_wp2_with fail
    with_reducible refine (HB0.out S _ hSz HSR.out).mono ?_
    rintro e w6 ⟨⟨O, hO, rfl⟩, hb6⟩
    have HB6 := Lib.hid (Bel.call HB5.out hb6)
    clear hb6
    obtain rfl : S = O := str_eq hO.symm
    clear hO
    dsimp only
    go_wp2
    go_ret
    exact ⟨rfl, HB6.out⟩
end Go.Proofs.Ytjoldkhfkobahaa.Reg
