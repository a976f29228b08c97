/-
  CONTRACTS of the document's own calls of layer 1 (letterlockref1) at this program. By an AI agent; no person has read it.
-/
import Derived.Test.YtgnfnbmdjbmcfaaFold
import Derived.Test.YtgnfnbmdjbmcfaaOrder
import Derived.Test.YtgnfnbmdjbmcfaaSplits
namespace Go.Proofs.Ytgnfnbmdjbmcfaa
open Go.RowKit Txt

set_option maxHeartbeats 1000000 in
theorem in_any (r a b : Int) (w : World) : Calls Try.prog 46 #[.int .i32 r, .int .i32 a, .int .i32 b] w fun e w' => e = .returned (.bool (decide (a ≤ r) && decide (r ≤ b))) ∧ w = w' := by
  go_enter Try.func46, Try.ntmps46
  go_wp2
  all_goals go_ret
  all_goals refine ⟨ret_bool ?_, rfl⟩
  all_goals symm
  all_goals first
    | (rw [decide_eq_true (show a ≤ r by omega)]; rfl)
    | (rw [decide_eq_false (show ¬ a ≤ r by omega)]; rfl)
    | (rw [decide_eq_true (show a ≤ r by omega), decide_eq_true (show r ≤ b by omega)]; rfl)
    | (rw [decide_eq_true (show a ≤ r by omega), decide_eq_false (show ¬ r ≤ b by omega)]; rfl)

/-! ### the first rune of bytes -/
def firstR (l : List UInt8) : Nat × Nat := if l = [] then (0, 0) else if Lib.decodeL l = (65533, 1) then (0, 0) else Lib.decodeL l
theorem firstR_bad {l : List UInt8} (h : Lib.decodeL l = (65533, 1)) : firstR l = (0, 0) := by
  unfold firstR
  by_cases hl : l = []
  · rw [if_pos hl]
  · rw [if_neg hl, if_pos h]
theorem firstR_ok {l : List UInt8} {p : Nat × Nat} (hne : l ≠ []) (h : Lib.decodeL l = p) (hp : p ≠ (65533, 1)) : firstR l = p := by
  unfold firstR
  rw [if_neg hne, if_neg (by rw [h]; exact hp), h]

def accN (c : Nat) (b : Nat → Nat) : Nat → Nat
  | 0 => c
  | k + 1 => 64 * accN c b k + (b (k + 1) - 128)
theorem accN_le (c : Nat) (b : Nat → Nat) (hc : c < 32) (hb : ∀ k, b k < 256) : accN c b 1 < 4096 ∧ accN c b 2 < 300000 ∧ accN c b 3 < 20000000 := by
  have h1 := hb 1; have h2 := hb 2; have h3 := hb 3
  have e1 : accN c b 1 = 64 * c + (b 1 - 128) := rfl
  have e2 : accN c b 2 = 64 * accN c b 1 + (b 2 - 128) := rfl
  have e3 : accN c b 3 = 64 * accN c b 2 + (b 3 - 128) := rfl
  omega

def byteAt (s : ByteArray) (k : Nat) : Nat := (s.data.toList.getD k 0).toNat
theorem byteAt_lt (s : ByteArray) (k : Nat) : byteAt s k < 256 := UInt8.toNat_lt _
theorem byteAt_is (s : ByteArray) {k : Nat} (h : k < s.size) : (s[k]'h).toNat = byteAt s k := by
  unfold byteAt
  rw [Lib.getD_get!', ← get_at s k h]
  rfl
theorem dec_bytes (s : ByteArray) : Lib.decodeL s.data.toList = Lib.decodeN s.size (byteAt s 0) (byteAt s 1) (byteAt s 2) (byteAt s 3) := by
  rw [Lib.decodeL_N, ← Lib.size_eq]; rfl
theorem list_ne {s : ByteArray} (h0 : 0 < s.size) : s.data.toList ≠ [] := by
  intro h
  have h1 : s.size = 0 := by rw [Lib.size_eq, h]; rfl
  omega
theorem not_empty {s : ByteArray} (h0 : 0 < s.size) : (s.toList == []) = false := by
  rw [Lib.toList_data]
  cases h : s.data.toList with
  | nil => exact absurd h (list_ne h0)
  | cons a t => rfl
def Firsts (s : ByteArray) (e : Ending) : Prop := e = .returned (.tuple #[.int .i32 ((firstR s.data.toList).1 : Int), .int .i64 ((firstR s.data.toList).2 : Int)])
theorem firsts_bad {s : ByteArray} (h : Lib.decodeL s.data.toList = (65533, 1)) : Firsts s (.returned (.tuple #[.int .i32 0, .int .i64 0])) := by
  unfold Firsts
  rw [firstR_bad h]; rfl
theorem firsts_ok {s : ByteArray} {r n : Nat} (hne : s.data.toList ≠ []) (h : Lib.decodeL s.data.toList = (r, n)) (hp : (r, n) ≠ (65533, 1)) : Firsts s (.returned (.tuple #[.int .i32 r, .int .i64 n])) := by
  unfold Firsts
  rw [firstR_ok hne h hp]

end Go.Proofs.Ytgnfnbmdjbmcfaa
