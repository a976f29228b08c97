/-
  CONTRACT of name.Path of two names. By an AI agent; no person has read it.
-/
import Derived.Test.YtbdealddjonobaaGreatN1
namespace Go.Proofs.YtbdealddjonobaaGreat.Usr
open Go Go.RowKit Txt

theorem right_is (s : ByteArray) (v : Bool) (h : right s.data.toList = v) (w : World) : Calls Tryz.prog 85 #[.string s] w fun e w' => e = .returned (.bool v) ∧ Below w.heap.size w w' := by
  have := right_any s w
  rw [h] at this
  exact this
theorem right_size {s : ByteArray} (h : right s.data.toList = true) : s.size ≤ 128 := by rw [Lib.size_eq]; exact (right_len h).2
set_option maxHeartbeats 2000000 in
set_option maxRecDepth 100000 in
theorem path_yes (a b : ByteArray) (w : World) (ha : right a.data.toList = true) (hb : right b.data.toList = true) :
    Calls Tryz.prog 102 #[.string a, .string b] w fun e w' => ∃ Q : ByteArray, e = .returned (.tuple #[.string Q, .int .i64 0]) ∧ Q.data.toList = a.data.toList ++ 47 :: b.data.toList ∧ Q.size ≤ 300 ∧ Below w.heap.size w w' := by
  have s1 := right_size ha
  have s2 := right_size hb
  have HA := Lib.hid ha
  have HB := Lib.hid hb
  clear ha hb
  go_enter Tryz.func102, Tryz.ntmps102
  go_wp2_with fail
  refine (right_is a true HA.out _).mono ?_
  rintro e w1 ⟨rfl, b1⟩
  go_wp2_with fail
  refine (right_is b true HB.out _).mono ?_
  rintro e w2 ⟨rfl, b2⟩
  go_wp2_with fail
  go_ret2
  refine ⟨_, rfl, ?_, ?_, b1.trans (b2.mono b1.size)⟩
  · rw [app_data, app_data]; simp
  · rw [Lib.size_eq, app_data, app_data]
    simp only [List.length_append, ← Lib.size_eq]
    show a.size + 1 + b.size ≤ 300
    omega
end Go.Proofs.YtbdealddjonobaaGreat.Usr
