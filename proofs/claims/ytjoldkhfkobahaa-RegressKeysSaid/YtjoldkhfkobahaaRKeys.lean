/-
  THE LAW RegressKeys, walked over what the code is held to. By an AI agent; no person has read it.
-/
import Derived.Test.YtjoldkhfkobahaaRCalls
import Derived.Test.YtjoldkhfkobahaaB2
namespace Go.Proofs.Ytjoldkhfkobahaa.Reg
open Go.RowKit Wire Term Clo Draw

set_option maxHeartbeats 4000000 in
set_option maxRecDepth 1000000 in
theorem keys_walk (ST : StateOK) (BK : BackOK) (KO : KeyOK) (SO : SecretOK) (CD : DerivesOK) (n : Nat) (a b : Int) (w : World) (hn : n < 18446744073709551616) (ha : -9223372036854775808 ≤ a ∧ a ≤ 9223372036854775807) (hb : -9223372036854775808 ≤ b ∧ b ≤ 9223372036854775807) :
    Calls Try.prog 7 #[.int .u64 (n : Int), .int .i64 a, .int .i64 b] w fun e w' => e = .returned (.bool true) ∧ Below w.heap.size w w' := by
  have HSH := Lib.hid (shown6_any BK w)
  have HRO := Lib.hid fun w => root_call SO hn w
  have HST := Lib.hid fun R hR e he w => state_call ST hn R hR e he w
  have HKO := Lib.hid fun S k hk hS w => key_call (k := k) KO hn S hk hS w
  have HD1 : Hid (∀ (w w1 : World) (K T : ByteArray) (g x y : Nat), x ≤ 7 → y ≤ 7 → g = w1.heap.size → Below w.heap.size w w1 → K.data.toList = keyh (hs (7 - x) (rootS n)) → T.data.toList = hs (7 - y) (rootS n) →
      Calls Try.prog 20 #[.slice (some ⟨g, 0, none⟩) 1 1, .string T] (w1.alloc (.cells #[.string K] 9)) fun e w' => e = .returned (.tuple #[.bool false, .int .i64 0]) ∧ Below w.heap.size w w') := fun w w1 K S g x y hx hy hg hb hK hS =>
    der_one CD w w1 K S g hg hb (key_size hn (by omega) hK) (st_size hn (by omega) hS).2 (p := False) (by rw [hK, hS]; exact key_alone hn _ hy)
  have HD2 : Hid (∀ (w w1 : World) (K M : ByteArray) (g x y : Nat), x ≤ 7 → y ≤ 7 → g = w1.heap.size → Below w.heap.size w w1 → K.data.toList = keyh (hs (7 - x) (rootS n)) → M.data.toList = keyh (hs (7 - y) (rootS n)) →
      Calls Try.prog 20 #[.slice (some ⟨g, 0, none⟩) 1 1, .string M] (w1.alloc (.cells #[.string K] 9)) fun e w' => e = .returned (.tuple #[.bool (decide (x = y)), .int .i64 0]) ∧ Below w.heap.size w w') := fun w w1 K M g x y hx hy hg hb hK hM =>
    der_one CD w w1 K M g hg hb (key_size hn (by omega) hK) (key_size hn (by omega) hM) (by rw [hK, hM]; exact key_others hn hx hy)
  clear ST BK KO SO CD hn
  go_enter Try.func7, Try.ntmps7
  go_wp2_with fail
  with_reducible refine (HSH.out).mono ?_
  rintro e w1 ⟨rfl, hb1⟩
  have HB1 := Lib.hid hb1
  clear hb1
  dsimp only
  go_wp2_with fail
  with_reducible refine (HRO.out _).mono ?_
  rintro e w2 ⟨⟨R, hR, rfl⟩, hb2⟩
  have HB2 := Lib.hid (Bel.call HB1.out hb2)
  clear hb2
  dsimp only at hR
  have HR := Lib.hid hR
  clear hR
  dsimp only
  go_wp2_with fail
  refine (pick_any a 8 _ ha (by omega) (by omega)).mono ?_
  rintro e w9 ⟨⟨x, hx8, rfl⟩, rfl⟩
  dsimp only
  go_wp2_with fail
  refine (pick_any b 8 _ hb (by omega) (by omega)).mono ?_
  rintro e w9 ⟨⟨y, hy8, rfl⟩, rfl⟩
  dsimp only
  by_cases hxy : x = y
  · subst hxy
    go_wp2_with fail
    with_reducible refine (HST.out R HR.out x (by omega) _).mono ?_
    rintro e w3 ⟨⟨S, hS, rfl⟩, hb3⟩
    have HB3 := Lib.hid (Bel.call HB2.out hb3)
    clear hb3
    dsimp only at hS
    have HS := Lib.hid hS
    clear hS
    dsimp only
    go_wp2_with fail
    with_reducible refine (HST.out R HR.out x (by omega) _).mono ?_
    rintro e w4 ⟨⟨T, hT, rfl⟩, hb4⟩
    have HB4 := Lib.hid (Bel.call HB3.out hb4)
    clear hb4
    obtain rfl : S = T := str_eq (HS.out.trans hT.symm)
    clear hT
    dsimp only
    go_wp2_with fail
    with_reducible refine (HKO.out S (7 - x) (by omega) HS.out _).mono ?_
    rintro e w5 ⟨⟨K, hK, rfl⟩, hb5⟩
    have HB5 := Lib.hid (Bel.call HB4.out hb5)
    clear hb5
    dsimp only at hK
    have HK := Lib.hid hK
    clear hK
    dsimp only
    go_wp2_with fail
    with_reducible refine (HKO.out S (7 - x) (by omega) HS.out _).mono ?_
    rintro e w6 ⟨⟨M, hM, rfl⟩, hb6⟩
    have HB6 := Lib.hid (Bel.call HB5.out hb6)
    clear hb6
    obtain rfl : K = M := str_eq (HK.out.trans hM.symm)
    clear hM
    dsimp only
    have q1 := str_ne (S := K) (T := S) (fun h => key_state (n := n) (k := 7 - x) (j := 7 - x) (by rw [← HK.out, ← HS.out, h]))
    have q2 := str_ne (S := K) (T := R) (fun h => key_state (n := n) (k := 7 - x) (j := 0) (by rw [← HK.out, hs_zero, ← HR.out, h]))
    go_wp2_with fail
    with_reducible refine (HD1.out w _ K S _ x x (by omega) (by omega) rfl HB6.out HK.out HS.out).mono ?_
    rintro e w20 ⟨rfl, hb20⟩
    have HB20 := Lib.hid hb20
    clear hb20
    dsimp only
    go_wp2_with fail
    with_reducible refine (HD2.out w _ K K _ x x (by omega) (by omega) rfl HB20.out HK.out HK.out).mono ?_
    rw [decide_eq_true rfl]
    rintro e w21 ⟨rfl, hb21⟩
    have HB21 := Lib.hid hb21
    clear hb21
    dsimp only
    go_wp2
    go_ret
    exact ⟨rfl, HB21.out⟩
  · go_wp2_with fail
    with_reducible refine (HST.out R HR.out x (by omega) _).mono ?_
    rintro e w3 ⟨⟨S, hS, rfl⟩, hb3⟩
    have HB3 := Lib.hid (Bel.call HB2.out hb3)
    clear hb3
    dsimp only at hS
    have HS := Lib.hid hS
    clear hS
    dsimp only
    go_wp2_with fail
    with_reducible refine (HST.out R HR.out y (by omega) _).mono ?_
    rintro e w4 ⟨⟨T, hT, rfl⟩, hb4⟩
    have HB4 := Lib.hid (Bel.call HB3.out hb4)
    clear hb4
    dsimp only at hT
    have HT := Lib.hid hT
    clear hT
    dsimp only
    go_wp2_with fail
    with_reducible refine (HKO.out S (7 - x) (by omega) HS.out _).mono ?_
    rintro e w5 ⟨⟨K, hK, rfl⟩, hb5⟩
    have HB5 := Lib.hid (Bel.call HB4.out hb5)
    clear hb5
    dsimp only at hK
    have HK := Lib.hid hK
    clear hK
    dsimp only
    go_wp2_with fail
    with_reducible refine (HKO.out T (7 - y) (by omega) HT.out _).mono ?_
    rintro e w6 ⟨⟨M, hM, rfl⟩, hb6⟩
    have HB6 := Lib.hid (Bel.call HB5.out hb6)
    clear hb6
    dsimp only at hM
    have HM := Lib.hid hM
    clear hM
    dsimp only
    have q1 := str_ne (S := K) (T := T) (fun h => key_state (n := n) (k := 7 - x) (j := 7 - y) (by rw [← HK.out, ← HT.out, h]))
    have q2 := str_ne (S := K) (T := R) (fun h => key_state (n := n) (k := 7 - x) (j := 0) (by rw [← HK.out, hs_zero, ← HR.out, h]))
    have q3 := str_ne (S := K) (T := M) (fun h => hxy ((keyh_eq (n := n) (x := x) (y := y) (by omega) (by omega)).1 (by rw [← HK.out, ← HM.out, h])))
    have c3 : ((x : Int) == (y : Int)) = false := by rw [beq_eq_false_iff_ne]; omega
    go_wp2_with fail
    with_reducible refine (HD1.out w _ K T _ x y (by omega) (by omega) rfl HB6.out HK.out HT.out).mono ?_
    rintro e w20 ⟨rfl, hb20⟩
    have HB20 := Lib.hid hb20
    clear hb20
    dsimp only
    go_wp2_with fail
    with_reducible refine (HD2.out w _ K M _ x y (by omega) (by omega) rfl HB20.out HK.out HM.out).mono ?_
    rw [decide_eq_false hxy]
    rintro e w21 ⟨rfl, hb21⟩
    have HB21 := Lib.hid hb21
    clear hb21
    dsimp only
    go_wp2
    go_ret
    exact ⟨rfl, HB21.out⟩
end Go.Proofs.Ytjoldkhfkobahaa.Reg
