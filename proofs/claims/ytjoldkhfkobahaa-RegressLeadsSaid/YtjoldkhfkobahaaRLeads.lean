/-
  THE LAW RegressLeads, walked over what the code is held to. By an AI agent; no person has read it.
-/
import Derived.Test.YtjoldkhfkobahaaRCalls
import Derived.Test.YtjoldkhfkobahaaB2
namespace Go.Proofs.Ytjoldkhfkobahaa.Reg
open Go.RowKit Wire Term Clo Draw

set_option maxHeartbeats 8000000 in
set_option maxRecDepth 1000000 in
theorem leads_walk (ST : StateOK) (BK : BackOK) (KO : KeyOK) (SO : SecretOK) (n : Nat) (a b : Int) (w : World) (hn : n < 18446744073709551616) (ha : -9223372036854775808 ≤ a ∧ a ≤ 9223372036854775807) (hb : -9223372036854775808 ≤ b ∧ b ≤ 9223372036854775807) :
    Calls Try.prog 4 #[.int .u64 (n : Int), .int .i64 a, .int .i64 b] w fun e w' => e = .returned (.bool true) ∧ Below w.heap.size w w' := by
  have HSH := Lib.hid (shown6_any BK w)
  have HRO := Lib.hid fun w => root_call SO hn w
  have HST := Lib.hid fun R hR e he w => state_call ST hn R hR e he w
  have HSB := Lib.hid fun R hR e he he2 w => state_bad ST hn R hR e he he2 w
  have HBK := Lib.hid fun S x y hxy hy hS w => back_call (x := x) (y := y) BK hn S hxy hy hS w
  have HKO := Lib.hid fun S k hk hS w => key_call (k := k) KO hn S hk hS w
  have HS7 : Hid (∀ (R : ByteArray) (w : World), R.data.toList = rootS n → Calls Try.prog 11 #[.string R, .int .i64 7] w fun e' w' => Sr (rootS n, 0) e' ∧ Below w.heap.size w w') := fun R w hR => state_call ST hn R hR 7 (by omega) w
  have HB0 : Hid (∀ (S : ByteArray) (x : Nat) (w : World), x ≤ 7 → S.data.toList = hs (7 - x) (rootS n) → Calls Try.prog 13 #[.string S, .int .i64 0] w fun e' w' => Sr (hs (7 - x) (rootS n), 0) e' ∧ Below w.heap.size w w') := fun S x w hx hS => by
    have := back_call BK hn S (Nat.le_refl x) hx hS w
    rw [Int.sub_self] at this
    exact this
  clear ST BK KO SO hn
  go_enter Try.func4, Try.ntmps4
  go_wp2_with fail
  with_reducible refine (HSH.out).mono ?_
  rintro e w1 ⟨rfl, hb1⟩
  have HB1 := Lib.hid hb1
  clear hb1
  dsimp only
  go_wp2_with fail
  with_reducible refine (HRO.out _).mono ?_
  rintro e w2 ⟨⟨R, hR, rfl⟩, hb2⟩
  have HB2 := Lib.hid (Bel.call HB1.out hb2)
  clear hb2
  dsimp only at hR
  have HR := Lib.hid hR
  clear hR
  dsimp only
  go_wp2_with fail
  refine (pick_any a 8 _ ha (by omega) (by omega)).mono ?_
  rintro e w9 ⟨⟨x, hx8, rfl⟩, rfl⟩
  dsimp only
  go_wp2_with fail
  refine (pick_any b 8 _ hb (by omega) (by omega)).mono ?_
  rintro e w9 ⟨⟨y, hy8, rfl⟩, rfl⟩
  dsimp only
  rcases Nat.lt_trichotomy x y with hxy | rfl | hxy
  · have c1 : max (x : Int) (y : Int) = (y : Int) := by omega
    have c2 : min (x : Int) (y : Int) = (x : Int) := by omega
    have c3 : ((x : Int) == (y : Int)) = false := by rw [beq_eq_false_iff_ne]; omega
    go_wp2_with fail
    with_reducible refine (HST.out R HR.out y (by omega) _).mono ?_
    rintro e w3 ⟨⟨S, hS, rfl⟩, hb3⟩
    have HB3 := Lib.hid (Bel.call HB2.out hb3)
    clear hb3
    dsimp only at hS
    have HS := Lib.hid hS
    clear hS
    dsimp only
    go_wp2_with fail
    with_reducible refine (HST.out R HR.out x (by omega) _).mono ?_
    rintro e w4 ⟨⟨T, hT, rfl⟩, hb4⟩
    have HB4 := Lib.hid (Bel.call HB3.out hb4)
    clear hb4
    dsimp only at hT
    have HT := Lib.hid hT
    clear hT
    dsimp only
    go_wp2_with fail
    with_reducible refine (HBK.out S x y (by omega) (by omega) HS.out _).mono ?_
    rintro e w5 ⟨⟨U, hU, rfl⟩, hb5⟩
    have HB5 := Lib.hid (Bel.call HB4.out hb5)
    clear hb5
    obtain rfl : T = U := str_eq (HT.out.trans hU.symm)
    clear hU
    dsimp only
    go_wp2_with fail
    with_reducible refine (HKO.out S (7 - y) (by omega) HS.out _).mono ?_
    rintro e w6 ⟨⟨K, hK, rfl⟩, hb6⟩
    have HB6 := Lib.hid (Bel.call HB5.out hb6)
    clear hb6
    dsimp only at hK
    have HK := Lib.hid hK
    clear hK
    dsimp only
    go_wp2_with fail
    with_reducible refine (HKO.out T (7 - x) (by omega) HT.out _).mono ?_
    rintro e w7 ⟨⟨M, hM, rfl⟩, hb7⟩
    have HB7 := Lib.hid (Bel.call HB6.out hb7)
    clear hb7
    dsimp only at hM
    have HM := Lib.hid hM
    clear hM
    dsimp only
    go_wp2_with fail
    with_reducible refine (HS7.out R _ HR.out).mono ?_
    rintro e w8 ⟨⟨Z, hZ, rfl⟩, hb8⟩
    have HB8 := Lib.hid (Bel.call HB7.out hb8)
    clear hb8
    obtain rfl : R = Z := str_eq (HR.out.trans hZ.symm)
    clear hZ
    dsimp only
    go_wp2_with fail
    with_reducible refine (HSB.out R HR.out 8 (by omega) (by omega) _).mono ?_
    rintro e w9 ⟨⟨O, hO, rfl⟩, hb9⟩
    have HB9 := Lib.hid (Bel.call HB8.out hb9)
    clear hb9
    clear hO
    dsimp only
    go_wp2_with fail
    with_reducible refine (HSB.out R HR.out (-1) (by omega) (by omega) _).mono ?_
    rintro e w10 ⟨⟨V, hV, rfl⟩, hb10⟩
    have HB10 := Lib.hid (Bel.call HB9.out hb10)
    clear hb10
    clear hV
    dsimp only
    have q1 := str_ne (S := K) (T := S) (fun h => key_state (n := n) (k := 7 - y) (j := 7 - y) (by rw [← HK.out, ← HS.out, h]))
    have q2 := str_ne (S := S) (T := T) (fun h => by have := (hs_eq (n := n) (x := y) (y := x) (by omega) (by omega)).1 (by rw [← HS.out, ← HT.out, h]); omega)
    have q3 := str_ne (S := K) (T := M) (fun h => by have := (keyh_eq (n := n) (x := y) (y := x) (by omega) (by omega)).1 (by rw [← HK.out, ← HM.out, h]); omega)
    go_wp2
    go_ret
    exact ⟨rfl, HB10.out⟩
  · have c1 : max (x : Int) (x : Int) = (x : Int) := by omega
    have c2 : min (x : Int) (x : Int) = (x : Int) := by omega
    go_wp2_with fail
    with_reducible refine (HST.out R HR.out x (by omega) _).mono ?_
    rintro e w3 ⟨⟨S, hS, rfl⟩, hb3⟩
    have HB3 := Lib.hid (Bel.call HB2.out hb3)
    clear hb3
    dsimp only at hS
    have HS := Lib.hid hS
    clear hS
    dsimp only
    go_wp2_with fail
    with_reducible refine (HST.out R HR.out x (by omega) _).mono ?_
    rintro e w4 ⟨⟨T, hT, rfl⟩, hb4⟩
    have HB4 := Lib.hid (Bel.call HB3.out hb4)
    clear hb4
    obtain rfl : S = T := str_eq (HS.out.trans hT.symm)
    clear hT
    dsimp only
    go_wp2_with fail
    with_reducible refine (HB0.out S x _ (by omega) HS.out).mono ?_
    rintro e w5 ⟨⟨U, hU, rfl⟩, hb5⟩
    have HB5 := Lib.hid (Bel.call HB4.out hb5)
    clear hb5
    obtain rfl : S = U := str_eq (HS.out.trans hU.symm)
    clear hU
    dsimp only
    go_wp2_with fail
    with_reducible refine (HKO.out S (7 - x) (by omega) HS.out _).mono ?_
    rintro e w6 ⟨⟨K, hK, rfl⟩, hb6⟩
    have HB6 := Lib.hid (Bel.call HB5.out hb6)
    clear hb6
    dsimp only at hK
    have HK := Lib.hid hK
    clear hK
    dsimp only
    go_wp2_with fail
    with_reducible refine (HKO.out S (7 - x) (by omega) HS.out _).mono ?_
    rintro e w7 ⟨⟨M, hM, rfl⟩, hb7⟩
    have HB7 := Lib.hid (Bel.call HB6.out hb7)
    clear hb7
    obtain rfl : K = M := str_eq (HK.out.trans hM.symm)
    clear hM
    dsimp only
    go_wp2_with fail
    with_reducible refine (HS7.out R _ HR.out).mono ?_
    rintro e w8 ⟨⟨Z, hZ, rfl⟩, hb8⟩
    have HB8 := Lib.hid (Bel.call HB7.out hb8)
    clear hb8
    obtain rfl : R = Z := str_eq (HR.out.trans hZ.symm)
    clear hZ
    dsimp only
    go_wp2_with fail
    with_reducible refine (HSB.out R HR.out 8 (by omega) (by omega) _).mono ?_
    rintro e w9 ⟨⟨O, hO, rfl⟩, hb9⟩
    have HB9 := Lib.hid (Bel.call HB8.out hb9)
    clear hb9
    clear hO
    dsimp only
    go_wp2_with fail
    with_reducible refine (HSB.out R HR.out (-1) (by omega) (by omega) _).mono ?_
    rintro e w10 ⟨⟨V, hV, rfl⟩, hb10⟩
    have HB10 := Lib.hid (Bel.call HB9.out hb10)
    clear hb10
    clear hV
    dsimp only
    have q1 := str_ne (S := K) (T := S) (fun h => key_state (n := n) (k := 7 - x) (j := 7 - x) (by rw [← HK.out, ← HS.out, h]))
    go_wp2
    go_ret
    exact ⟨rfl, HB10.out⟩
  · have c1 : max (x : Int) (y : Int) = (x : Int) := by omega
    have c2 : min (x : Int) (y : Int) = (y : Int) := by omega
    have c3 : ((x : Int) == (y : Int)) = false := by rw [beq_eq_false_iff_ne]; omega
    go_wp2_with fail
    with_reducible refine (HST.out R HR.out x (by omega) _).mono ?_
    rintro e w3 ⟨⟨S, hS, rfl⟩, hb3⟩
    have HB3 := Lib.hid (Bel.call HB2.out hb3)
    clear hb3
    dsimp only at hS
    have HS := Lib.hid hS
    clear hS
    dsimp only
    go_wp2_with fail
    with_reducible refine (HST.out R HR.out y (by omega) _).mono ?_
    rintro e w4 ⟨⟨T, hT, rfl⟩, hb4⟩
    have HB4 := Lib.hid (Bel.call HB3.out hb4)
    clear hb4
    dsimp only at hT
    have HT := Lib.hid hT
    clear hT
    dsimp only
    go_wp2_with fail
    with_reducible refine (HBK.out S y x (by omega) (by omega) HS.out _).mono ?_
    rintro e w5 ⟨⟨U, hU, rfl⟩, hb5⟩
    have HB5 := Lib.hid (Bel.call HB4.out hb5)
    clear hb5
    obtain rfl : T = U := str_eq (HT.out.trans hU.symm)
    clear hU
    dsimp only
    go_wp2_with fail
    with_reducible refine (HKO.out S (7 - x) (by omega) HS.out _).mono ?_
    rintro e w6 ⟨⟨K, hK, rfl⟩, hb6⟩
    have HB6 := Lib.hid (Bel.call HB5.out hb6)
    clear hb6
    dsimp only at hK
    have HK := Lib.hid hK
    clear hK
    dsimp only
    go_wp2_with fail
    with_reducible refine (HKO.out T (7 - y) (by omega) HT.out _).mono ?_
    rintro e w7 ⟨⟨M, hM, rfl⟩, hb7⟩
    have HB7 := Lib.hid (Bel.call HB6.out hb7)
    clear hb7
    dsimp only at hM
    have HM := Lib.hid hM
    clear hM
    dsimp only
    go_wp2_with fail
    with_reducible refine (HS7.out R _ HR.out).mono ?_
    rintro e w8 ⟨⟨Z, hZ, rfl⟩, hb8⟩
    have HB8 := Lib.hid (Bel.call HB7.out hb8)
    clear hb8
    obtain rfl : R = Z := str_eq (HR.out.trans hZ.symm)
    clear hZ
    dsimp only
    go_wp2_with fail
    with_reducible refine (HSB.out R HR.out 8 (by omega) (by omega) _).mono ?_
    rintro e w9 ⟨⟨O, hO, rfl⟩, hb9⟩
    have HB9 := Lib.hid (Bel.call HB8.out hb9)
    clear hb9
    clear hO
    dsimp only
    go_wp2_with fail
    with_reducible refine (HSB.out R HR.out (-1) (by omega) (by omega) _).mono ?_
    rintro e w10 ⟨⟨V, hV, rfl⟩, hb10⟩
    have HB10 := Lib.hid (Bel.call HB9.out hb10)
    clear hb10
    clear hV
    dsimp only
    have q1 := str_ne (S := K) (T := S) (fun h => key_state (n := n) (k := 7 - x) (j := 7 - x) (by rw [← HK.out, ← HS.out, h]))
    have q2 := str_ne (S := S) (T := T) (fun h => by have := (hs_eq (n := n) (x := x) (y := y) (by omega) (by omega)).1 (by rw [← HS.out, ← HT.out, h]); omega)
    have q3 := str_ne (S := K) (T := M) (fun h => by have := (keyh_eq (n := n) (x := x) (y := y) (by omega) (by omega)).1 (by rw [← HK.out, ← HM.out, h]); omega)
    go_wp2
    go_ret
    exact ⟨rfl, HB10.out⟩
end Go.Proofs.Ytjoldkhfkobahaa.Reg
