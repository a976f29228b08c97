/-
  THE LAW RegressHides, walked over what the code is held to. By an AI agent; no person has read it.
-/
import Derived.Test.YtjoldkhfkobahaaRCalls
import Derived.Test.YtjoldkhfkobahaaB2
namespace Go.Proofs.Ytjoldkhfkobahaa.Reg
open Go.RowKit Wire Term Clo Draw

set_option maxHeartbeats 4000000 in
set_option maxRecDepth 1000000 in
theorem hides_walk (ST : StateOK) (BK : BackOK) (KO : KeyOK) (SO : SecretOK) (CD : DerivesOK) (n : Nat) (a b : Int) (w : World) (hn : n < 18446744073709551616) (ha : -9223372036854775808 ≤ a ∧ a ≤ 9223372036854775807) (hb : -9223372036854775808 ≤ b ∧ b ≤ 9223372036854775807) :
    Calls Try.prog 5 #[.int .u64 (n : Int), .int .i64 a, .int .i64 b] w fun e w' => e = .returned (.bool true) ∧ Below w.heap.size w w' := by
  have HSH := Lib.hid (shown6_any BK w)
  have HRO := Lib.hid fun w => root_call SO hn w
  have HST := Lib.hid fun R hR e he w => state_call ST hn R hR e he w
  have HKO := Lib.hid fun S k hk hS w => key_call (k := k) KO hn S hk hS w
  obtain ⟨m, hm⟩ : ∃ m : Nat, (n + 1) % 18446744073709551616 = m := ⟨_, rfl⟩
  have hm1 : m < 18446744073709551616 := by omega
  have hmn : m ≠ n := by omega
  have cm : IntKind.u64.wrap ((n : Int) + 1) = (m : Int) := by rw [IntKind.wrap_u64]; omega
  have HAT := Lib.hid fun w => t_OfAtom m w hm1
  have HD1 : Hid (∀ (w : World) (a : Option Addr) (S A T : ByteArray) (x y : Nat), x ≤ 7 → y ≤ 7 → SReads w a [S, A] → S.data.toList = hs (7 - x) (rootS n) → A.data.toList = ofAtom m → T.data.toList = hs (7 - y) (rootS n) →
      Calls Try.prog 20 #[.slice a 2 2, .string T] w fun e w' => e = .returned (.tuple #[.bool (decide (y ≤ x)), .int .i64 0]) ∧ Below w.heap.size w w') := fun w a S A T x y hx hy hr hS hA hT =>
    der_reads CD w S A T a hr (st_size hn (by omega) hS).2 (by rw [hA]; exact atom_ok hm1) (st_size hn (by omega) hT).2 (by rw [hS, hA, hT]; exact hold_state hn hm1 hmn hx hy)
  have HD2 : Hid (∀ (w : World) (a : Option Addr) (S A K : ByteArray) (x y : Nat), x ≤ 7 → y ≤ 7 → SReads w a [S, A] → S.data.toList = hs (7 - x) (rootS n) → A.data.toList = ofAtom m → K.data.toList = keyh (hs (7 - y) (rootS n)) →
      Calls Try.prog 20 #[.slice a 2 2, .string K] w fun e w' => e = .returned (.tuple #[.bool (decide (y ≤ x)), .int .i64 0]) ∧ Below w.heap.size w w') := fun w a S A T x y hx hy hr hS hA hT =>
    der_reads CD w S A T a hr (st_size hn (by omega) hS).2 (by rw [hA]; exact atom_ok hm1) (key_size hn (by omega) hT) (by rw [hS, hA, hT]; exact hold_key hn hm1 hmn hx hy)
  have HD3 : Hid (∀ (w w1 : World) (K S : ByteArray) (g x : Nat), x ≤ 7 → g = w1.heap.size → Below w.heap.size w w1 → K.data.toList = keyh (hs (7 - x) (rootS n)) → S.data.toList = hs (7 - x) (rootS n) →
      Calls Try.prog 20 #[.slice (some ⟨g, 0, none⟩) 1 1, .string S] (w1.alloc (.cells #[.string K] 9)) fun e w' => e = .returned (.tuple #[.bool false, .int .i64 0]) ∧ Below w.heap.size w w') := fun w w1 K S g x hx hg hb hK hS =>
    der_one CD w w1 K S g hg hb (key_size hn (by omega) hK) (st_size hn (by omega) hS).2 (p := False) (by rw [hK, hS]; exact key_alone hn _ hx)
  clear ST BK KO SO CD hn hm hm1 hmn
  go_enter Try.func5, Try.ntmps5
  go_wp2_with fail
  with_reducible refine (HSH.out).mono ?_
  rintro e w1 ⟨rfl, hb1⟩
  have HB1 := Lib.hid hb1
  clear hb1
  dsimp only
  go_wp2_with fail
  with_reducible refine (HRO.out _).mono ?_
  rintro e w2 ⟨⟨R, hR, rfl⟩, hb2⟩
  have HB2 := Lib.hid (Bel.call HB1.out hb2)
  clear hb2
  dsimp only at hR
  have HR := Lib.hid hR
  clear hR
  dsimp only
  go_wp2_with fail
  refine (pick_any a 8 _ ha (by omega) (by omega)).mono ?_
  rintro e w9 ⟨⟨x, hx8, rfl⟩, rfl⟩
  dsimp only
  go_wp2_with fail
  refine (pick_any b 8 _ hb (by omega) (by omega)).mono ?_
  rintro e w9 ⟨⟨y, hy8, rfl⟩, rfl⟩
  dsimp only
  go_wp2_with fail
  with_reducible refine (HST.out R HR.out x (by omega) _).mono ?_
  rintro e w3 ⟨⟨S, hS, rfl⟩, hb3⟩
  have HB3 := Lib.hid (Bel.call HB2.out hb3)
  clear hb3
  dsimp only at hS
  have HS := Lib.hid hS
  clear hS
  dsimp only
  go_wp2_with fail
  with_reducible refine (HST.out R HR.out y (by omega) _).mono ?_
  rintro e w4 ⟨⟨T, hT, rfl⟩, hb4⟩
  have HB4 := Lib.hid (Bel.call HB3.out hb4)
  clear hb4
  dsimp only at hT
  have HT := Lib.hid hT
  clear hT
  dsimp only
  go_wp2_with fail
  with_reducible refine (HKO.out T (7 - y) (by omega) HT.out _).mono ?_
  rintro e w5 ⟨⟨K, hK, rfl⟩, hb5⟩
  have HB5 := Lib.hid (Bel.call HB4.out hb5)
  clear hb5
  dsimp only at hK
  have HK := Lib.hid hK
  clear hK
  dsimp only
  go_wp2_with fail
  with_reducible refine (HAT.out _).mono ?_
  rintro e w6 ⟨⟨A, hA, rfl⟩, hb6⟩
  have HB6 := Lib.hid (Bel.call HB5.out hb6)
  clear hb6
  have HA := Lib.hid hA
  clear hA
  dsimp only
  by_cases hyx : y ≤ x
  · go_wp2_with fail
    have HAL : Hid (Below w.heap.size w (w6.alloc (.cells #[.string S, .string A] 9))) := HB6.out.alloc HB6.out.size _
    have HRD : Hid (SReads (w6.alloc (.cells #[.string S, .string A] 9)) (some ⟨w6.heap.size, 0, none⟩) [S, A]) := pair_reads' w6 S A _ rfl
    with_reducible refine (HD1.out _ _ S A T x y (by omega) (by omega) HRD.out HS.out HA.out HT.out).mono ?_
    rw [decide_eq_true hyx]
    rintro e w10 ⟨rfl, hb10⟩
    have HB10 := Lib.hid (Bel.call HAL.out hb10)
    have HRD2 := Lib.hid (HRD.out.below hb10 (Nat.le_refl _))
    clear hb10 HRD HAL
    dsimp only
    go_wp2_with fail
    with_reducible refine (HD2.out _ _ S A K x y (by omega) (by omega) HRD2.out HS.out HA.out HK.out).mono ?_
    rw [decide_eq_true hyx]
    rintro e w11 ⟨rfl, hb11⟩
    have HB11 := Lib.hid (Bel.call HB10.out hb11)
    clear hb11 HRD2
    dsimp only
    go_wp2_with fail
    with_reducible refine (HKO.out S (7 - x) (by omega) HS.out _).mono ?_
    rintro e w12 ⟨⟨O, hO, rfl⟩, hb12⟩
    have HB12 := Lib.hid (Bel.call HB11.out hb12)
    clear hb12
    dsimp only at hO
    have HO := Lib.hid hO
    clear hO
    dsimp only
    go_wp2_with fail
    with_reducible refine (HD3.out w _ O S _ x (by omega) rfl HB12.out HO.out HS.out).mono ?_
    rintro e w20 ⟨rfl, hb20⟩
    have HB20 := Lib.hid hb20
    clear hb20
    dsimp only
    have cyx : (y : Int) ≤ (x : Int) := by omega
    go_wp2
    go_ret
    exact ⟨rfl, HB20.out⟩
  · go_wp2_with fail
    have HAL : Hid (Below w.heap.size w (w6.alloc (.cells #[.string S, .string A] 9))) := HB6.out.alloc HB6.out.size _
    have HRD : Hid (SReads (w6.alloc (.cells #[.string S, .string A] 9)) (some ⟨w6.heap.size, 0, none⟩) [S, A]) := pair_reads' w6 S A _ rfl
    with_reducible refine (HD1.out _ _ S A T x y (by omega) (by omega) HRD.out HS.out HA.out HT.out).mono ?_
    rw [decide_eq_false hyx]
    rintro e w10 ⟨rfl, hb10⟩
    have HB10 := Lib.hid (Bel.call HAL.out hb10)
    have HRD2 := Lib.hid (HRD.out.below hb10 (Nat.le_refl _))
    clear hb10 HRD HAL
    dsimp only
    go_wp2_with fail
    with_reducible refine (HD2.out _ _ S A K x y (by omega) (by omega) HRD2.out HS.out HA.out HK.out).mono ?_
    rw [decide_eq_false hyx]
    rintro e w11 ⟨rfl, hb11⟩
    have HB11 := Lib.hid (Bel.call HB10.out hb11)
    clear hb11 HRD2
    dsimp only
    go_wp2_with fail
    with_reducible refine (HKO.out S (7 - x) (by omega) HS.out _).mono ?_
    rintro e w12 ⟨⟨O, hO, rfl⟩, hb12⟩
    have HB12 := Lib.hid (Bel.call HB11.out hb12)
    clear hb12
    dsimp only at hO
    have HO := Lib.hid hO
    clear hO
    dsimp only
    go_wp2_with fail
    with_reducible refine (HD3.out w _ O S _ x (by omega) rfl HB12.out HO.out HS.out).mono ?_
    rintro e w20 ⟨rfl, hb20⟩
    have HB20 := Lib.hid hb20
    clear hb20
    dsimp only
    have cyx : ¬ (y : Int) ≤ (x : Int) := by omega
    go_wp2
    go_ret
    exact ⟨rfl, HB20.out⟩
end Go.Proofs.Ytjoldkhfkobahaa.Reg
