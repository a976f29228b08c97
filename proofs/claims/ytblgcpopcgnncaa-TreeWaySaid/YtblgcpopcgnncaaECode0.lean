/-
  THE LANDED CODE (package tree): isMany, isPlace, first. By an AI agent; no person has read it.
-/
import Derived.Test.YtblgcpopcgnncaaERef2
import Derived.Test.YtblgcpopcgnncaaShelfL
namespace Go.Proofs.Ytblgcpopcgnncaa.Tre
open Go.RowKit Wire Term Draw Reg Clo

set_option linter.unusedSimpArgs false
set_option linter.unusedVariables false
theorem isMany_any (n : Int) (w : World) : Calls Try.prog 32 #[.int .i64 n] w fun e w' => e = .returned (.bool (decide (1 ≤ n ∧ n ≤ 8))) ∧ w' = w := by
  by_cases h1 : 1 ≤ n
  · by_cases h8 : n ≤ 8
    · have e : decide (1 ≤ n ∧ n ≤ 8) = true := decide_eq_true ⟨h1, h8⟩
      rw [e]
      clear e
      go_enter Try.func32, Try.ntmps32
      go_wp2
      go_ret
      exact ⟨rfl, rfl⟩
    · have e : decide (1 ≤ n ∧ n ≤ 8) = false := decide_eq_false (by omega)
      rw [e]
      clear e
      go_enter Try.func32, Try.ntmps32
      go_wp2
      go_ret
      exact ⟨rfl, rfl⟩
  · have e : decide (1 ≤ n ∧ n ≤ 8) = false := decide_eq_false (by omega)
    rw [e]
    clear e
    go_enter Try.func32, Try.ntmps32
    go_wp2
    go_ret
    exact ⟨rfl, rfl⟩
theorem isPlace_any (i n : Int) (w : World) : Calls Try.prog 37 #[.int .i64 i, .int .i64 n] w fun e w' => e = .returned (.bool (decide (0 ≤ i ∧ i < n))) ∧ w' = w := by
  by_cases h1 : 0 ≤ i
  · by_cases h8 : i < n
    · have e : decide (0 ≤ i ∧ i < n) = true := decide_eq_true ⟨h1, h8⟩
      rw [e]
      clear e
      go_enter Try.func37, Try.ntmps37
      go_wp2
      go_ret
      exact ⟨rfl, rfl⟩
    · have e : decide (0 ≤ i ∧ i < n) = false := decide_eq_false (by omega)
      rw [e]
      clear e
      go_enter Try.func37, Try.ntmps37
      go_wp2
      go_ret
      exact ⟨rfl, rfl⟩
  · have e : decide (0 ≤ i ∧ i < n) = false := decide_eq_false (by omega)
    rw [e]
    clear e
    go_enter Try.func37, Try.ntmps37
    go_wp2
    go_ret
    exact ⟨rfl, rfl⟩
theorem len_any (n : Nat) (w : World) (h : n < 18446744073709551616) : Calls Try.prog 63 #[.int .u64 (n : Int)] w fun e w' => e = .returned (.int .i64 (Lib.bitLen n)) ∧ w' = w := by
  have := Try.bits_Len (n : Int) w (by omega) (by omega)
  rw [show ((n : Int)).toNat = n by omega] at this
  exact this
set_option maxHeartbeats 2000000 in
theorem cfirst_any (n : Nat) (w : World) (h1 : 2 ≤ n) (h8 : n ≤ 8) : Calls Try.prog 52 #[.int .i64 (n : Int)] w fun e w' => e = .returned (.int .i64 (fst n : Int)) ∧ w' = w := by
  have hn : n = 2 ∨ n = 3 ∨ n = 4 ∨ n = 5 ∨ n = 6 ∨ n = 7 ∨ n = 8 := by omega
  rcases hn with rfl | rfl | rfl | rfl | rfl | rfl | rfl
  · have HL : Hid (∀ w, Calls Try.prog 63 #[.int .u64 1] w fun e w' => e = .returned (.int .i64 1) ∧ w' = w) := Lib.hid fun w => by
      have := len_any 1 w (by decide)
      rw [show Lib.bitLen 1 = 1 by decide] at this
      exact this
    go_enter Try.func52, Try.ntmps52
    go_wp2_with fail
    refine (HL.out _).mono ?_
    rintro e w1 ⟨rfl, rfl⟩
    dsimp only
    go_wp2
    go_ret
    exact ⟨rfl, rfl⟩
  · have HL : Hid (∀ w, Calls Try.prog 63 #[.int .u64 2] w fun e w' => e = .returned (.int .i64 2) ∧ w' = w) := Lib.hid fun w => by
      have := len_any 2 w (by decide)
      rw [show Lib.bitLen 2 = 2 by decide] at this
      exact this
    go_enter Try.func52, Try.ntmps52
    go_wp2_with fail
    refine (HL.out _).mono ?_
    rintro e w1 ⟨rfl, rfl⟩
    dsimp only
    go_wp2
    go_ret
    exact ⟨rfl, rfl⟩
  · have HL : Hid (∀ w, Calls Try.prog 63 #[.int .u64 3] w fun e w' => e = .returned (.int .i64 2) ∧ w' = w) := Lib.hid fun w => by
      have := len_any 3 w (by decide)
      rw [show Lib.bitLen 3 = 2 by decide] at this
      exact this
    go_enter Try.func52, Try.ntmps52
    go_wp2_with fail
    refine (HL.out _).mono ?_
    rintro e w1 ⟨rfl, rfl⟩
    dsimp only
    go_wp2
    go_ret
    exact ⟨rfl, rfl⟩
  · have HL : Hid (∀ w, Calls Try.prog 63 #[.int .u64 4] w fun e w' => e = .returned (.int .i64 3) ∧ w' = w) := Lib.hid fun w => by
      have := len_any 4 w (by decide)
      rw [show Lib.bitLen 4 = 3 by decide] at this
      exact this
    go_enter Try.func52, Try.ntmps52
    go_wp2_with fail
    refine (HL.out _).mono ?_
    rintro e w1 ⟨rfl, rfl⟩
    dsimp only
    go_wp2
    go_ret
    exact ⟨rfl, rfl⟩
  · have HL : Hid (∀ w, Calls Try.prog 63 #[.int .u64 5] w fun e w' => e = .returned (.int .i64 3) ∧ w' = w) := Lib.hid fun w => by
      have := len_any 5 w (by decide)
      rw [show Lib.bitLen 5 = 3 by decide] at this
      exact this
    go_enter Try.func52, Try.ntmps52
    go_wp2_with fail
    refine (HL.out _).mono ?_
    rintro e w1 ⟨rfl, rfl⟩
    dsimp only
    go_wp2
    go_ret
    exact ⟨rfl, rfl⟩
  · have HL : Hid (∀ w, Calls Try.prog 63 #[.int .u64 6] w fun e w' => e = .returned (.int .i64 3) ∧ w' = w) := Lib.hid fun w => by
      have := len_any 6 w (by decide)
      rw [show Lib.bitLen 6 = 3 by decide] at this
      exact this
    go_enter Try.func52, Try.ntmps52
    go_wp2_with fail
    refine (HL.out _).mono ?_
    rintro e w1 ⟨rfl, rfl⟩
    dsimp only
    go_wp2
    go_ret
    exact ⟨rfl, rfl⟩
  · have HL : Hid (∀ w, Calls Try.prog 63 #[.int .u64 7] w fun e w' => e = .returned (.int .i64 3) ∧ w' = w) := Lib.hid fun w => by
      have := len_any 7 w (by decide)
      rw [show Lib.bitLen 7 = 3 by decide] at this
      exact this
    go_enter Try.func52, Try.ntmps52
    go_wp2_with fail
    refine (HL.out _).mono ?_
    rintro e w1 ⟨rfl, rfl⟩
    dsimp only
    go_wp2
    go_ret
    exact ⟨rfl, rfl⟩
end Go.Proofs.Ytblgcpopcgnncaa.Tre
