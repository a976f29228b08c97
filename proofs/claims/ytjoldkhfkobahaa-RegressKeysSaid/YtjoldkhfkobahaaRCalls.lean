/-
  THE CALLS of a root's chain: what State, Back, Key answer there. By an AI agent; no person has read it.
-/
import Derived.Test.YtjoldkhfkobahaaRHold
import Derived.Test.YtjoldkhfkobahaaB5
namespace Go.Proofs.Ytjoldkhfkobahaa.Reg
open Go.RowKit Wire Term Clo Draw

section
variable {n : Nat}
theorem secret_root (hn : n < 18446744073709551616) : secret [114, 111, 111, 116] [120] n = (rootS n, 0) := by
  obtain ⟨r1, r2, r3, _⟩ := secret_small (use := [114, 111, 111, 116]) (who := [120]) (by simp) hn
  exact secret_ok hn r1 r2 r3
theorem root_call (SO : SecretOK) (hn : n < 18446744073709551616) (w : World) : Calls Try.prog 17 #[.string ⟨#[114, 111, 111, 116]⟩, .string ⟨#[120]⟩, .int .u64 (n : Int)] w fun e w' => Sr (rootS n, 0) e ∧ Below w.heap.size w w' := by
  have := SO ⟨#[114, 111, 111, 116]⟩ ⟨#[120]⟩ n w (by decide) (by decide) (by decide) hn
  rw [show (ByteArray.mk #[114, 111, 111, 116]).data.toList = [114, 111, 111, 116] from rfl, show (ByteArray.mk #[120]).data.toList = [120] from rfl, secret_root hn] at this
  exact this
theorem st_size (hn : n < 18446744073709551616) {k : Nat} (hk : k ≤ 7) {S : ByteArray} (hS : S.data.toList = hs k (rootS n)) : S.size ≤ 140737488355328 ∧ right S.data.toList = true := by
  have h := st_right hn hk
  rw [Lib.size_eq, hS]
  exact ⟨by have := (right_len h).2; omega, h⟩
theorem key_size (hn : n < 18446744073709551616) {k : Nat} (hk : k ≤ 7) {S : ByteArray} (hS : S.data.toList = keyh (hs k (rootS n))) : right S.data.toList = true := by
  rw [hS]; exact (st_key hn hk).2
theorem state_call (ST : StateOK) (hn : n < 18446744073709551616) (R : ByteArray) (hR : R.data.toList = rootS n) (e : Nat) (he : e ≤ 7) (w : World) : Calls Try.prog 11 #[.string R, .int .i64 (e : Int)] w fun e' w' => Sr (hs (7 - e) (rootS n), 0) e' ∧ Below w.heap.size w w' := by
  have := ST R e w (st_size hn (k := 0) (by omega) hR).1 (by omega)
  rw [hR, st_state hn he] at this
  exact this
theorem state_bad (ST : StateOK) (hn : n < 18446744073709551616) (R : ByteArray) (hR : R.data.toList = rootS n) (e : Int) (he : ¬ (0 ≤ e ∧ e ≤ 7)) (he2 : -9223372036854775808 ≤ e ∧ e ≤ 9223372036854775807) (w : World) : Calls Try.prog 11 #[.string R, .int .i64 e] w fun e' w' => Sr ([], 9) e' ∧ Below w.heap.size w w' := by
  have := ST R e w (st_size hn (k := 0) (by omega) hR).1 he2
  have hr : right (rootS n) = true := st_right hn (k := 0) (by omega)
  rw [hR, state_out hr he] at this
  exact this
theorem back_call (BK : BackOK) (hn : n < 18446744073709551616) (S : ByteArray) {x y : Nat} (hxy : x ≤ y) (hy : y ≤ 7) (hS : S.data.toList = hs (7 - y) (rootS n)) (w : World) : Calls Try.prog 13 #[.string S, .int .i64 ((y : Int) - (x : Int))] w fun e' w' => Sr (hs (7 - x) (rootS n), 0) e' ∧ Below w.heap.size w w' := by
  have := BK S ((y : Int) - (x : Int)) w (st_size hn (by omega) hS).1 (by omega)
  rw [hS, back_of (st_right hn (by omega)) (by omega), show ((y : Int) - (x : Int)).toNat = y - x by omega, backN_yes (by rw [← hs_add]; exact st_right hn (by omega)), ← hs_add, show y - x + (7 - y) = 7 - x by omega] at this
  exact this
theorem key_call (KO : KeyOK) (hn : n < 18446744073709551616) (S : ByteArray) {k : Nat} (hk : k ≤ 7) (hS : S.data.toList = hs k (rootS n)) (w : World) : Calls Try.prog 15 #[.string S] w fun e' w' => Sr (keyh (hs k (rootS n)), 0) e' ∧ Below w.heap.size w w' := by
  have := KO S w (st_size hn hk hS).1
  rw [hS, st_keyed hn hk] at this
  exact this
end
end Go.Proofs.Ytjoldkhfkobahaa.Reg
