/-
  WHAT THE CODE OF package regress IS HELD TO: State, Back, Key; the chapter's example. By an AI agent; no person has read it.
-/
import Derived.Test.YtjoldkhfkobahaaRRef
import Derived.Test.YtjoldkhfkobahaaB2
namespace Go.Proofs.Ytjoldkhfkobahaa.Reg
open Go.RowKit Wire Term Clo Draw

def StateOK : Prop := ∀ (s : ByteArray) (ep : Int) (w : World), s.size ≤ 140737488355328 → (-9223372036854775808 ≤ ep ∧ ep ≤ 9223372036854775807) → Calls Try.prog 11 #[.string s, .int .i64 ep] w fun e w' => Sr (state s.data.toList ep) e ∧ Below w.heap.size w w'
def BackOK : Prop := ∀ (s : ByteArray) (steps : Int) (w : World), s.size ≤ 140737488355328 → (-9223372036854775808 ≤ steps ∧ steps ≤ 9223372036854775807) → Calls Try.prog 13 #[.string s, .int .i64 steps] w fun e w' => Sr (back s.data.toList steps) e ∧ Below w.heap.size w w'
def KeyOK : Prop := ∀ (s : ByteArray) (w : World), s.size ≤ 140737488355328 → Calls Try.prog 15 #[.string s] w fun e w' => Sr (key s.data.toList) e ∧ Below w.heap.size w w'
theorem str_eq {S H : ByteArray} (h : S.data.toList = H.data.toList) : S = H := by
  cases S; cases H; simp only at h; congr 1; exact Array.toList_inj.1 h
theorem str_ne {S T : ByteArray} (h : ¬ S = T) : (S.toList == T.toList) = false := by
  rw [beq_eq_false_iff_ne, Lib.toList_data, Lib.toList_data]; exact fun e => h (str_eq e)
theorem ex_back : back [97, 1, 5] 1 = ([104, 97, 1, 5], 0) := by
  rw [back_of rfl (by decide), show (1 : Int).toNat = 1 from rfl]
  exact backN_yes rfl
set_option maxHeartbeats 2000000 in
set_option maxRecDepth 1000000 in
theorem shown6_any (BK : BackOK) (w : World) : Calls Try.prog 9 #[] w fun e w' => e = .returned (.bool true) ∧ Below w.heap.size w w' := by
  have HBK := Lib.hid fun w => BK ⟨#[97, 1, 5]⟩ 1 w (by decide) (by decide)
  rw [show (ByteArray.mk #[97, 1, 5]).data.toList = [97, 1, 5] from rfl, ex_back] at HBK
  clear BK
  go_enter Try.func9, Try.ntmps9
  go_wp2_with fail
  refine (HBK.out _).mono ?_
  rintro e w1 ⟨⟨T, hT, rfl⟩, hb1⟩
  have HB1 := Lib.hid hb1
  obtain rfl : T = ⟨#[104, 97, 1, 5]⟩ := str_eq hT
  clear hb1 hT
  dsimp only
  go_wp2
  go_ret
  exact ⟨rfl, HB1.out⟩
end Go.Proofs.Ytjoldkhfkobahaa.Reg
