/-
  CONTRACTS of name.Path and the walk of NameSplits. By an AI agent; no person has read it.
-/
import Derived.Test.YtgnfnbmdjbmcfaaNamed
namespace Go.Proofs.Ytgnfnbmdjbmcfaa
open Go.RowKit Txt

theorem right_is (s : ByteArray) (v : Bool) (h : right s.data.toList = v) (w : World) : Calls Try.prog 19 #[.string s] w fun e w' => e = .returned (.bool v) ∧ Below w.heap.size w w' := by
  have := right_any s w
  rw [h] at this
  exact this
theorem right_size {s : ByteArray} (h : right s.data.toList = true) : s.size ≤ 128 := by rw [Lib.size_eq]; exact (right_len h).2

/-! ### name.Path -/
set_option maxHeartbeats 2000000 in
set_option maxRecDepth 100000 in
theorem path_yes (a b : ByteArray) (w : World) (ha : right a.data.toList = true) (hb : right b.data.toList = true) :
    Calls Try.prog 17 #[.string a, .string b] w fun e w' => ∃ Q : ByteArray, e = .returned (.tuple #[.string Q, .int .i64 0]) ∧ Q.data.toList = a.data.toList ++ 47 :: b.data.toList ∧ Q.size ≤ 300 ∧ Below w.heap.size w w' := by
  have s1 := right_size ha
  have s2 := right_size hb
  have HA := Lib.hid ha
  have HB := Lib.hid hb
  clear ha hb
  go_enter Try.func17, Try.ntmps17
  go_wp2_with fail
  refine (right_is a true HA.out _).mono ?_
  rintro e w1 ⟨rfl, b1⟩
  go_wp2_with fail
  refine (right_is b true HB.out _).mono ?_
  rintro e w2 ⟨rfl, b2⟩
  go_wp2_with fail
  go_ret2
  refine ⟨_, rfl, ?_, ?_, b1.trans (b2.mono b1.size)⟩
  · rw [app_data, app_data]; simp
  · rw [Lib.size_eq, app_data, app_data]
    simp only [List.length_append, ← Lib.size_eq]
    show a.size + 1 + b.size ≤ 300
    omega
set_option maxHeartbeats 2000000 in
set_option maxRecDepth 100000 in
theorem path_no (a b : ByteArray) (w : World) (h : right a.data.toList = false ∨ right b.data.toList = false) :
    Calls Try.prog 17 #[.string a, .string b] w fun e w' => e = .returned (.tuple #[.string ⟨#[]⟩, .int .i64 3]) ∧ Below w.heap.size w w' := by
  cases ha : right a.data.toList with
  | false =>
    have HA := Lib.hid ha
    clear ha h
    go_enter Try.func17, Try.ntmps17
    go_wp2_with fail
    refine (right_is a false HA.out _).mono ?_
    rintro e w1 ⟨rfl, b1⟩
    go_wp2_with fail
    go_ret2
    exact ⟨rfl, b1⟩
  | true =>
    have hb : right b.data.toList = false := by
      rcases h with h | h
      · rw [ha] at h; cases h
      · exact h
    have HA := Lib.hid ha
    have HB := Lib.hid hb
    clear ha hb h
    go_enter Try.func17, Try.ntmps17
    go_wp2_with fail
    refine (right_is a true HA.out _).mono ?_
    rintro e w1 ⟨rfl, b1⟩
    go_wp2_with fail
    refine (right_is b false HB.out _).mono ?_
    rintro e w2 ⟨rfl, b2⟩
    go_wp2_with fail
    go_ret2
    exact ⟨rfl, b1.trans (b2.mono b1.size)⟩

theorem split_no (s : ByteArray) (w : World) (hs : s.size ≤ 140737488355328) (h : split s.data.toList = none) :
    Calls Try.prog 15 #[.string s] w fun e w' => e = .returned (.tuple #[.string ⟨#[]⟩, .string ⟨#[]⟩, .int .i64 3]) ∧ Below w.heap.size w w' := by
  refine (split_any s w hs).mono ?_
  rintro e w' ⟨⟨_, rfl⟩ | ⟨a, b, h0, _⟩, hb⟩
  · exact ⟨rfl, hb⟩
  · rw [h] at h0; cases h0
theorem split_yes (s : ByteArray) (a b : List UInt8) (w : World) (hs : s.size ≤ 140737488355328) (h : split s.data.toList = some (a, b)) :
    Calls Try.prog 15 #[.string s] w fun e w' => e = .returned (.tuple #[.string ⟨a.toArray⟩, .string ⟨b.toArray⟩, .int .i64 0]) ∧ Below w.heap.size w w' := by
  refine (split_any s w hs).mono ?_
  rintro e w' ⟨⟨h0, _⟩ | ⟨x, y, h0, rfl⟩, hb⟩
  · rw [h] at h0; cases h0
  · rw [h] at h0
    obtain ⟨rfl, rfl⟩ := Prod.mk.inj (Option.some.inj h0)
    exact ⟨rfl, hb⟩

theorem right_nil : right [] = false := rfl
theorem right_slash (a b : List UInt8) : right (a ++ 47 :: b) = false := by
  cases h : right (a ++ 47 :: b) with
  | false => rfl
  | true => exact absurd rfl (right_bytes h 47 (by simp))
theorem split_two {x y z : List UInt8} (hx : right x = true) : split (x ++ 47 :: y ++ 47 :: z) = none := by
  refine split_none_of fun a b hc => ?_
  rw [List.append_assoc, List.cons_append, cutAt_some x _ (right_bytes hx)] at hc
  obtain ⟨rfl, rfl⟩ := Prod.mk.inj (Option.some.inj hc)
  rw [right_slash]; simp
theorem split_name {x : List UInt8} (hx : right x = true) : split x = none := split_cut_none (cutAt_none (right_bytes hx))
theorem split_lead (q : List UInt8) : split (47 :: q) = none := by
  refine split_none_of fun a b hc => ?_
  simp only [cutAt, if_true] at hc
  obtain ⟨rfl, rfl⟩ := Prod.mk.inj (Option.some.inj hc)
  rw [right_nil]; simp

set_option maxHeartbeats 4000000 in
set_option maxRecDepth 100000 in
theorem splits_walk (s : ByteArray) (a1 : Option Addr) (cap1 : Nat) (l1 : List Int) (a2 : Option Addr) (cap2 : Nat) (l2 : List Int) (w : World) (hs : s.size ≤ 140737488351232)
    (r1 : Reads .i64 w a1 l1) (wf1 : ∀ z ∈ l1, (Lit.int .i64 z).wf = true) (r2 : Reads .i64 w a2 l2) (wf2 : ∀ z ∈ l2, (Lit.int .i64 z).wf = true) :
    Calls Try.prog 8 #[.string s, .slice a1 l1.length cap1, .slice a2 l2.length cap2] w fun e w' => e = .returned (.bool true) ∧ Below w.heap.size w w' := by
  have R1 := Lib.hid r1; have R2 := Lib.hid r2; have W1 := Lib.hid wf1; have W2 := Lib.hid wf2
  clear r1 r2 wf1 wf2
  by_cases hl : (2000 : Int) < ↑s.size
  · go_enter Try.func8, Try.ntmps8
    go_wp2_with fail
    refine (shown_any _).mono ?_
    rintro e w1 ⟨rfl, b1⟩
    go_wp2_with fail
    go_ret
    exact ⟨rfl, b1⟩
  · have hl' : ↑s.size ≤ (2000 : Int) := by omega
    clear hl
    go_enter Try.func8, Try.ntmps8
    go_wp2_with fail
    refine (shown_any _).mono ?_
    rintro e w1 ⟨rfl, b1⟩
    go_wp2_with fail
    refine (split_any s _ (by omega)).mono ?_
    rintro e w2 ⟨hp, b2⟩
    have B2 := b1.trans (b2.mono b1.size)
    clear b1 b2
    -- behind the first two calls the two ways come to one
    rcases hp with ⟨hsn, rfl⟩ | ⟨x, y, hsn, rfl⟩
    · have HS := Lib.hid hsn
      clear hsn
      go_wp2_with fail
      refine (path_no _ _ _ (.inl right_nil)).mono ?_
      rintro e w3 ⟨rfl, b3⟩
      have B3 := B2.trans (b3.mono B2.size)
      clear B2 b3
      go_wp2_with fail
      refine (named_call a1 cap1 l1 _ (R1.out.below B3) W1.out).mono ?_
      rintro e w4 ⟨X, rfl, hX, sX, b4⟩
      have B4 := B3.trans (b4.mono B3.size)
      clear B3 b4
      have HX := Lib.hid hX
      clear hX
      go_wp2_with fail
      refine (named_call a2 cap2 l2 _ (R2.out.below B4) W2.out).mono ?_
      rintro e w5 ⟨Y, rfl, hY, sY, b5⟩
      have B5 := B4.trans (b5.mono B4.size)
      clear B4 b5
      have HY := Lib.hid hY
      clear hY
      go_wp2_with fail
      refine (path_yes X Y _ HX.out HY.out).mono ?_
      rintro e w6 ⟨Q, rfl, hQ, sQ, b6⟩
      have B6 := B5.trans (b6.mono B5.size)
      clear B5 b6
      have HQ := Lib.hid hQ
      clear hQ
      go_wp2_with fail
      refine (split_no _ _ (by rw [Lib.size_eq, app_data, app_data]; simp only [List.length_append, ← Lib.size_eq]; show Q.size + 1 + X.size ≤ _; omega) (by rw [app_data, app_data, HQ.out]; simpa using split_two (y := Y.data.toList) (z := X.data.toList) HX.out)).mono ?_
      rintro e w7 ⟨rfl, b7⟩
      have B7 := B6.trans (b7.mono B6.size)
      clear B6 b7
      go_wp2_with fail
      refine (split_no X _ (by omega) (split_name HX.out)).mono ?_
      rintro e w8 ⟨rfl, b8⟩
      have B8 := B7.trans (b8.mono B7.size)
      clear B7 b8
      go_wp2_with fail
      refine (split_no _ _ (by rw [Lib.size_eq, app_data]; simp only [List.length_append, ← Lib.size_eq]; show 1 + Q.size ≤ _; omega) (by rw [app_data]; exact split_lead _)).mono ?_
      rintro e w9 ⟨rfl, b9⟩
      have B9 := B8.trans (b9.mono B8.size)
      clear B8 b9
      go_wp2_with fail
      go_ret
      exact ⟨rfl, B9⟩
    · have HS := Lib.hid (split_some.1 hsn)
      clear hsn
      go_wp2_with fail
      refine (path_yes ⟨x.toArray⟩ ⟨y.toArray⟩ _ HS.out.2.1 HS.out.2.2).mono ?_
      rintro e w3 ⟨P, rfl, hP, sP, b3⟩
      have B3 := B2.trans (b3.mono B2.size)
      clear B2 b3
      have hPs := eq_bool (s := P) (t := s) (by rw [hP, HS.out.1])
      clear hP
      go_wp2_with fail
      refine (named_call a1 cap1 l1 _ (R1.out.below B3) W1.out).mono ?_
      rintro e w4 ⟨X, rfl, hX, sX, b4⟩
      have B4 := B3.trans (b4.mono B3.size)
      clear B3 b4
      have HX := Lib.hid hX
      clear hX
      go_wp2_with fail
      refine (named_call a2 cap2 l2 _ (R2.out.below B4) W2.out).mono ?_
      rintro e w5 ⟨Y, rfl, hY, sY, b5⟩
      have B5 := B4.trans (b5.mono B4.size)
      clear B4 b5
      have HY := Lib.hid hY
      clear hY
      go_wp2_with fail
      refine (path_yes X Y _ HX.out HY.out).mono ?_
      rintro e w6 ⟨Q, rfl, hQ, sQ, b6⟩
      have B6 := B5.trans (b6.mono B5.size)
      clear B5 b6
      have HQ := Lib.hid hQ
      clear hQ
      go_wp2_with fail
      refine (split_no _ _ (by rw [Lib.size_eq, app_data, app_data]; simp only [List.length_append, ← Lib.size_eq]; show Q.size + 1 + X.size ≤ _; omega) (by rw [app_data, app_data, HQ.out]; simpa using split_two (y := Y.data.toList) (z := X.data.toList) HX.out)).mono ?_
      rintro e w7 ⟨rfl, b7⟩
      have B7 := B6.trans (b7.mono B6.size)
      clear B6 b7
      go_wp2_with fail
      refine (split_no X _ (by omega) (split_name HX.out)).mono ?_
      rintro e w8 ⟨rfl, b8⟩
      have B8 := B7.trans (b8.mono B7.size)
      clear B7 b8
      go_wp2_with fail
      refine (split_no _ _ (by rw [Lib.size_eq, app_data]; simp only [List.length_append, ← Lib.size_eq]; show 1 + Q.size ≤ _; omega) (by rw [app_data]; exact split_lead _)).mono ?_
      rintro e w9 ⟨rfl, b9⟩
      have B9 := B8.trans (b9.mono B8.size)
      clear B8 b9
      go_wp2_with fail
      go_ret
      exact ⟨rfl, B9⟩
end Go.Proofs.Ytgnfnbmdjbmcfaa
