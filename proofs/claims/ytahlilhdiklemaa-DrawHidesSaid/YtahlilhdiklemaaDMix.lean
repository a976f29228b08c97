/-
  PLAIN FACTS, OF NO PROGRAM: a number that is mixed (layer 5): the document's steps as arithmetic, and that no two numbers are mixed to the same. By an AI agent; no person has read it.
-/
import Derived.Test.YtahlilhdiklemaaTPure
namespace Go.Proofs.Ytahlilhdiklemaa.Draw
open Wire Term

/-- A number that is mixed. -/
def mixA (n : Nat) : Nat := (n + 11400714819323198485) % 18446744073709551616
def mixB (a : Nat) : Nat := (a ^^^ a / 1073741824) * 13787848793156543929 % 18446744073709551616
def mixC (b : Nat) : Nat := (b ^^^ b / 134217728) * 10723151780598845931 % 18446744073709551616
def mixD (c : Nat) : Nat := c ^^^ c / 2147483648
def mix (n : Nat) : Nat := mixD (mixC (mixB (mixA n)))
theorem mixA_lt (n : Nat) : mixA n < 18446744073709551616 := Nat.mod_lt _ (by decide)
theorem mixB_lt (n : Nat) : mixB n < 18446744073709551616 := Nat.mod_lt _ (by decide)
theorem mixC_lt (n : Nat) : mixC n < 18446744073709551616 := Nat.mod_lt _ (by decide)
theorem xs_lt {x k : Nat} (h : x < 18446744073709551616) : x ^^^ x / k < 18446744073709551616 :=
  Nat.xor_lt_two_pow (n := 64) h (Nat.lt_of_le_of_lt (Nat.div_le_self _ _) h)
theorem mix_lt (n : Nat) : mix n < 18446744073709551616 := xs_lt (mixC_lt _)
theorem mix_zero : mix 0 = 16294208416658607535 := by decide
/-- A number with itself, moved down, in it: told again from the top. -/
theorem xs_inj {k : Nat} (hk : 0 < k) {x y : Nat} (hx : x < 18446744073709551616) (hy : y < 18446744073709551616) (h : x ^^^ x / 2 ^ k = y ^^^ y / 2 ^ k) : x = y := by
  have key : ∀ d i : Nat, 64 ≤ i + d → x.testBit i = y.testBit i := by
    intro d
    induction d with
    | zero =>
      intro i hi
      rw [Nat.testBit_lt_two_pow (Nat.lt_of_lt_of_le hx (Nat.pow_le_pow_right (show 2 > 0 by decide) (show 64 ≤ i by omega))), Nat.testBit_lt_two_pow (Nat.lt_of_lt_of_le hy (Nat.pow_le_pow_right (show 2 > 0 by decide) (show 64 ≤ i by omega)))]
    | succ d ih =>
      intro i hi
      have h1 := congrArg (fun n => Nat.testBit n i) h
      simp only [Nat.testBit_xor, Nat.testBit_div_two_pow] at h1
      have h2 := ih (i + k) (by omega)
      rw [h2] at h1
      revert h1
      cases x.testBit i <;> cases y.testBit i <;> cases y.testBit (i + k) <;> simp
  exact Nat.eq_of_testBit_eq fun i => key 64 i (by omega)
theorem mul_inj {c d : Nat} (hc : c * d % 18446744073709551616 = 1) {x y : Nat} (hx : x < 18446744073709551616) (hy : y < 18446744073709551616) (h : x * c % 18446744073709551616 = y * c % 18446744073709551616) : x = y := by
  have key : ∀ z, z < 18446744073709551616 → z * c % 18446744073709551616 * d % 18446744073709551616 = z := fun z hz => by
    rw [Nat.mod_mul_mod, Nat.mul_assoc, ← Nat.mul_mod_mod, hc, Nat.mul_one, Nat.mod_eq_of_lt hz]
  rw [← key x hx, h, key y hy]
theorem mix_inj {x y : Nat} (hx : x < 18446744073709551616) (hy : y < 18446744073709551616) (h : mix x = mix y) : x = y := by
  have h1 : mixC (mixB (mixA x)) = mixC (mixB (mixA y)) := xs_inj (k := 31) (by decide) (mixC_lt _) (mixC_lt _) h
  have h2 : mixB (mixA x) = mixB (mixA y) := xs_inj (k := 27) (by decide) (mixB_lt _) (mixB_lt _) (mul_inj (d := 3573116690164977347) (by decide) (xs_lt (mixB_lt _)) (xs_lt (mixB_lt _)) h1)
  have h3 : mixA x = mixA y := xs_inj (k := 30) (by decide) (mixA_lt _) (mixA_lt _) (mul_inj (d := 10871156337175269513) (by decide) (xs_lt (mixA_lt _)) (xs_lt (mixA_lt _)) h2)
  unfold mixA at h3
  omega
/-- The draw of a seed with i ahead of it. -/
def draw (seed i : Nat) : Nat := mix ((seed + i * 11400714819323198485) % 18446744073709551616)
theorem mix_mod (n : Nat) : mix (n % 18446744073709551616) = mix n := by
  unfold mix mixA
  rw [Nat.mod_add_mod]
theorem draw_first {seed : Nat} : draw seed 0 = mix seed := by unfold draw; rw [Nat.zero_mul, Nat.add_zero, mix_mod]
end Go.Proofs.Ytahlilhdiklemaa.Draw
