/-
  THE WALKS of TermMakes, TermTells. By an AI agent; no person has read it.
-/
import Derived.Test.YtgjjbeejfdkjdaaTLaw
import Derived.Test.YtgjjbeejfdkjdaaTGrown
namespace Go.Proofs.Ytgjjbeejfdkjdaa.Term
open Go.RowKit Wire

set_option maxHeartbeats 4000000 in
set_option maxRecDepth 1000000 in
theorem makes_walk (n : Nat) (s t : ByteArray) (a : Option Addr) (ca : Nat) (zs : List Int) (b : Option Addr) (cb : Nat) (ys : List Int) (w : World) (hn : n < 18446744073709551616) (hs : s.size ≤ 140737488355328) (ht : t.size ≤ 140737488355328) (ha : IReads w a zs) (hb : IReads w b ys) :
    Calls Try.prog 3 #[.int .u64 n, .string s, .string t, .slice a zs.length ca, .slice b ys.length cb] w fun e w' => e = .returned (.bool true) ∧ Below w.heap.size w w' := by
  have HN := Lib.hid hn
  have HA := Lib.hid ha
  have HBB := Lib.hid hb
  clear hn ha hb
  by_cases hs5 : (5000 : Int) < (s.size : Int)
  · go_enter Try.func3, Try.ntmps3
    go_wp2_with (go_at_call 10; refine (shown_any _).mono ?_; rintro e w1 ⟨rfl, hb1⟩; have HB1 := Lib.hid hb1; clear hb1)
    go_ret
    exact ⟨rfl, HB1.out⟩
  · by_cases ht5 : (5000 : Int) < (t.size : Int)
    · go_enter Try.func3, Try.ntmps3
      go_wp2_with (go_at_call 10; refine (shown_any _).mono ?_; rintro e w1 ⟨rfl, hb1⟩; have HB1 := Lib.hid hb1; clear hb1)
      go_ret
      exact ⟨rfl, HB1.out⟩
    · have hs6 : s.size ≤ 10000 := by omega
      have ht6 : t.size ≤ 10000 := by omega
      go_enter Try.func3, Try.ntmps3
      go_wp2_with fail
      refine (shown_any _).mono ?_
      rintro e w1 ⟨rfl, hb1⟩
      have HB1 := Lib.hid hb1
      clear hb1
      go_wp2_with fail
      refine (grown_any a ca zs _ (HA.out.below HB1.out (Nat.le_refl _))).mono ?_
      rintro e w2 ⟨⟨X, hx, rfl⟩, hb⟩
      have HB2 := Lib.hid (HB1.out.trans (hb.mono HB1.out.size))
      have hXz := (right_sz hx).2
      have HX := Lib.hid hx
      clear hx hb
      go_wp2_with fail
      refine (grown_any b cb ys _ (HBB.out.below HB2.out (Nat.le_refl _))).mono ?_
      rintro e w3 ⟨⟨Y, hx, rfl⟩, hb⟩
      have HB3 := Lib.hid (HB2.out.trans (hb.mono HB2.out.size))
      have hYz := (right_sz hx).2
      have HY := Lib.hid hx
      clear hx hb
      go_wp2_with fail
      refine (madeLaw_any n s t _ HN.out hs6 ht6).mono ?_
      rintro e w4 ⟨rfl, hb⟩
      have HB4 := Lib.hid (HB3.out.trans (hb.mono HB3.out.size))
      clear hb
      go_wp2_with fail
      refine (madeLaw_any n X t _ HN.out (by omega) ht6).mono ?_
      rintro e w5 ⟨rfl, hb⟩
      have HB5 := Lib.hid (HB4.out.trans (hb.mono HB4.out.size))
      clear hb
      go_wp2_with fail
      refine (madeLaw_any n s X _ HN.out hs6 (by omega)).mono ?_
      rintro e w6 ⟨rfl, hb⟩
      have HB6 := Lib.hid (HB5.out.trans (hb.mono HB5.out.size))
      clear hb
      go_wp2_with fail
      refine (madeLaw_any n X Y _ HN.out (by omega) (by omega)).mono ?_
      rintro e w7 ⟨rfl, hb⟩
      have HB7 := Lib.hid (HB6.out.trans (hb.mono HB6.out.size))
      clear hb
      go_wp2
      go_ret
      exact ⟨rfl, HB7.out⟩

set_option maxHeartbeats 4000000 in
set_option maxRecDepth 1000000 in
theorem tells_walk (s t : ByteArray) (a : Option Addr) (ca : Nat) (zs : List Int) (b : Option Addr) (cb : Nat) (ys : List Int) (w : World) (hs : s.size ≤ 140737488355328) (ht : t.size ≤ 140737488355328) (ha : IReads w a zs) (hb : IReads w b ys) :
    Calls Try.prog 4 #[.string s, .string t, .slice a zs.length ca, .slice b ys.length cb] w fun e w' => e = .returned (.bool true) ∧ Below w.heap.size w w' := by
  have HA := Lib.hid ha
  have HBB := Lib.hid hb
  clear ha hb
  by_cases hs5 : (5000 : Int) < (s.size : Int)
  · go_enter Try.func4, Try.ntmps4
    go_wp2_with (go_at_call 10; refine (shown_any _).mono ?_; rintro e w1 ⟨rfl, hb1⟩; have HB1 := Lib.hid hb1; clear hb1)
    go_ret
    exact ⟨rfl, HB1.out⟩
  · by_cases ht5 : (5000 : Int) < (t.size : Int)
    · go_enter Try.func4, Try.ntmps4
      go_wp2_with (go_at_call 10; refine (shown_any _).mono ?_; rintro e w1 ⟨rfl, hb1⟩; have HB1 := Lib.hid hb1; clear hb1)
      go_ret
      exact ⟨rfl, HB1.out⟩
    · have hs6 : s.size ≤ 10000 := by omega
      have ht6 : t.size ≤ 10000 := by omega
      go_enter Try.func4, Try.ntmps4
      go_wp2_with fail
      refine (shown_any _).mono ?_
      rintro e w1 ⟨rfl, hb1⟩
      have HB1 := Lib.hid hb1
      clear hb1
      go_wp2_with fail
      refine (grown_any a ca zs _ (HA.out.below HB1.out (Nat.le_refl _))).mono ?_
      rintro e w2 ⟨⟨X, hx, rfl⟩, hb⟩
      have HB2 := Lib.hid (HB1.out.trans (hb.mono HB1.out.size))
      have hXz := (right_sz hx).2
      have HX := Lib.hid hx
      clear hx hb
      go_wp2_with fail
      refine (grown_any b cb ys _ (HBB.out.below HB2.out (Nat.le_refl _))).mono ?_
      rintro e w3 ⟨⟨Y, hx, rfl⟩, hb⟩
      have HB3 := Lib.hid (HB2.out.trans (hb.mono HB2.out.size))
      have hYz := (right_sz hx).2
      have HY := Lib.hid hx
      clear hx hb
      go_wp2_with fail
      refine (askedLaw_any s t X _ hs6 ht6 (by omega)).mono ?_
      rintro e w4 ⟨rfl, hb⟩
      have HB4 := Lib.hid (HB3.out.trans (hb.mono HB3.out.size))
      clear hb
      go_wp2_with fail
      refine (askedLaw_any X Y s _ (by omega) (by omega) hs6).mono ?_
      rintro e w5 ⟨rfl, hb⟩
      have HB5 := Lib.hid (HB4.out.trans (hb.mono HB4.out.size))
      clear hb
      have hXs : (X ++ s).size ≤ 10000 := by
        have h1 := Lib.size_eq X
        have h2 := Lib.size_eq s
        rw [Lib.size_eq, app_data, List.length_append, ← h1, ← h2]; omega
      go_wp2_with fail
      obtain ⟨XS, hXS⟩ : ∃ XS, X ++ s = XS := ⟨_, rfl⟩
      rw [hXS] at hXs ⊢
      clear hXS
      refine (askedLaw_any XS Y t _ hXs (by omega) ht6).mono ?_
      rintro e w6 ⟨rfl, hb⟩
      have HB6 := Lib.hid (HB5.out.trans (hb.mono HB5.out.size))
      clear hb
      go_wp2_with fail
      refine (ofAtom_any 1 _ (by decide)).mono ?_
      rintro e w6a ⟨⟨O, hO, rfl⟩, hb⟩
      have HB6a := Lib.hid (HB6.out.trans (hb.mono HB6.out.size))
      have hOz : O.size ≤ 4000 := (right_sz (by rw [hO]; exact ofAtom_right (by decide))).2
      clear hO hb
      go_wp2_with fail
      refine (askedLaw_any Y X O _ (by omega) (by omega) (by omega)).mono ?_
      rintro e w7 ⟨rfl, hb⟩
      have HB7 := Lib.hid (HB6a.out.trans (hb.mono HB6a.out.size))
      clear hb
      go_wp2
      go_ret
      exact ⟨rfl, HB7.out⟩
end Go.Proofs.Ytgjjbeejfdkjdaa.Term
