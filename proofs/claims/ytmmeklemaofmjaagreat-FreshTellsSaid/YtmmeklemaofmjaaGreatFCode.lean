/-
  THE LANDED CODE (package fresh): isTerm, isNothing, rootOf, Right. By an AI agent; no person has read it.
-/
import Derived.Test.YtmmeklemaofmjaaGreatP9
import Derived.Test.YtmmeklemaofmjaaGreatP1
import Derived.Test.YtmmeklemaofmjaaGreatP4
import Derived.Test.YtmmeklemaofmjaaGreatP8
import Derived.Test.YtmmeklemaofmjaaGreatP3
namespace Go.Proofs.YtmmeklemaofmjaaGreat.Frs
open Go Go.RowKit Wire Term Draw Reg Clo

set_option linter.unusedSimpArgs false
set_option linter.unusedVariables false
set_option maxHeartbeats 2000000 in
set_option maxRecDepth 1000000 in
theorem isTerm_any (s : ByteArray) (w : World) (hs : s.size ≤ 140737488355328) :
    Calls Tryz.prog 21 #[.string s] w fun e w' => e = .returned (.bool (right s.data.toList)) ∧ Below w.heap.size w w' := by
  obtain ⟨k, hk⟩ : ∃ k, kind s.data.toList = k := ⟨_, rfl⟩
  cases hr : right s.data.toList with
  | false =>
    obtain rfl : k = 0 := by rw [← hk]; exact kind_wrong hr
    have HK := Lib.hid hk
    clear hk
    go_enter Tryz.func21, Tryz.ntmps21
    go_wp2_with fail
    with_reducible refine (t_Kind s _ hs).mono ?_
    rw [HK.out]
    rintro e w1 ⟨rfl, hb⟩
    go_wp2
    go_ret
    exact ⟨rfl, hb⟩
  | true =>
    have h0 : ¬ (k : Int) = 0 := by have := Term.kind_pos hr; rw [hk] at this; omega
    have hb0 : ((k : Int) != 0) = true := by simpa using h0
    have HK := Lib.hid hk
    clear hk
    go_enter Tryz.func21, Tryz.ntmps21
    go_wp2_with fail
    with_reducible refine (t_Kind s _ hs).mono ?_
    rw [HK.out]
    rintro e w1 ⟨rfl, hb⟩
    go_wp2
    go_ret
    exact ⟨rfl, hb⟩
set_option maxHeartbeats 2000000 in
set_option maxRecDepth 1000000 in
theorem isNothing_zero (w : World) : Calls Tryz.prog 25 #[.agg #[.string ⟨#[]⟩, .int .u64 0, .int .i64 0, .string ⟨#[]⟩, .string ⟨#[]⟩]] w fun e w' => e = .returned (.bool true) ∧ Below w.heap.size w w' := by
  go_enter Tryz.func25, Tryz.ntmps25
  go_wp2
  go_ret
  exact ⟨rfl, by first | exact (Below.refl _ _).alloc (Nat.le_refl _) _ | exact ((Below.refl _ _).alloc (Nat.le_refl _) _).alloc (by simp) _⟩
set_option maxHeartbeats 2000000 in
set_option maxRecDepth 1000000 in
theorem isNothing_own (O R G : ByteArray) (t : Nat) (m : Int) (w : World) (hO : O.data.toList ≠ []) : Calls Tryz.prog 25 #[.agg #[.string O, .int .u64 (t : Int), .int .i64 m, .string R, .string G]] w fun e w' => e = .returned (.bool false) ∧ Below w.heap.size w w' := by
  have hne : (O.toList == []) = false := by
    rw [Lib.toList_data]
    cases h : O.data.toList with
    | nil => exact absurd h hO
    | cons x y => rfl
  clear hO
  go_enter Tryz.func25, Tryz.ntmps25
  go_wp2
  go_ret
  exact ⟨rfl, by first | exact (Below.refl _ _).alloc (Nat.le_refl _) _ | exact ((Below.refl _ _).alloc (Nat.le_refl _) _).alloc (by simp) _⟩
set_option maxHeartbeats 2000000 in
set_option maxRecDepth 1000000 in
theorem rootOf_any (A : Option Addr) (c : Nat) (ys : List ByteArray) (w : World) (hr : SReads w A ys) (hc : ys.length ≤ c) (hc2 : c ≤ 9223372036854775807) (hz : ∀ y ∈ ys, y.size ≤ 140737488355328) :
    Calls Tryz.prog 23 #[.slice A ys.length c] w fun e w' => Sr (rootS (bl ys)) e ∧ Below w.heap.size w w' := by
  by_cases h0 : ys = []
  · subst h0
    rw [show rootS (bl []) = ofText [] from rfl]
    have HT := Lib.hid fun w => t_OfText ⟨#[]⟩ w (by decide)
    obtain ⟨x, f, hx⟩ : ∃ x f, ofText (⟨#[]⟩ : ByteArray).data.toList = (x, f) := ⟨_, _, rfl⟩
    rw [hx] at HT
    have hx' : ofText [] = (x, f) := hx
    rw [hx']
    clear hx hx' hr hc hz
    go_enter Tryz.func23, Tryz.ntmps23
    go_wp2_with fail
    with_reducible refine (HT.out _).mono ?_
    rintro e w1 ⟨⟨T, hT, rfl⟩, hb⟩
    have HT := Lib.hid hT
    clear hT
    dsimp only
    go_wp2
    go_ret2
    exact ⟨⟨T, HT.out, rfl⟩, hb⟩
  · have h1 : bl ys ≠ [] := fun h => h0 (by cases ys with
      | nil => rfl
      | cons a t => cases h)
    have hl : ¬ ((ys.length : Int) = 0) := by
      cases ys with
      | nil => exact absurd rfl h0
      | cons a t => rw [List.length_cons]; omega
    have hlb : ((ys.length : Int) == 0) = false := by rw [beq_eq_false_iff_ne]; exact hl
    rw [show rootS (bl ys) = Tre.root (bl ys) by unfold rootS; rw [if_neg h1]]
    obtain ⟨x, f, hx⟩ : ∃ x f, Tre.root (bl ys) = (x, f) := ⟨_, _, rfl⟩
    have HT := Lib.hid fun w h => Tre.root_any_to hx (A := A) (c := c) (rfl : bl ys = bl ys) ⟨hc, hc2⟩ hz w h
    rw [hx]
    clear hx h1 h0 hc hc2 hz
    go_enter Tryz.func23, Tryz.ntmps23
    go_wp2_with fail
    with_reducible refine (HT.out _ hr).mono ?_
    rintro e w1 ⟨⟨T, hT, rfl⟩, hb⟩
    have HT := Lib.hid hT
    clear hT
    dsimp only
    go_wp2
    go_ret2
    exact ⟨⟨T, HT.out, rfl⟩, hb⟩
set_option maxHeartbeats 4000000 in
set_option maxRecDepth 1000000 in
theorem fright_any (O : ByteArray) (t : Nat) (m : Int) (R G : ByteArray) (w : World) (hO : O.size ≤ 140737488355328) (hR : R.size ≤ 140737488355328) (hG : G.size ≤ 140737488355328) :
    Calls Tryz.prog 13 #[.agg #[.string O, .int .u64 (t : Int), .int .i64 m, .string R, .string G]] w fun e w' => e = .returned (.bool (decide (SR ⟨O.data.toList, t, m, R.data.toList, G.data.toList⟩))) ∧ Below w.heap.size w w' := by
  have HN := Lib.hid fun w => right_any O w
  have HT := Lib.hid fun w => isTerm_any R w hR
  have HK := Lib.hid fun w => t_Kind G w hG
  generalize hb : decide (SR ⟨O.data.toList, t, m, R.data.toList, G.data.toList⟩) = bb
  obtain ⟨k, hk⟩ : ∃ k, kind G.data.toList = k := ⟨_, rfl⟩
  have hbb : bb = (Txt.right O.data.toList && (decide (0 ≤ m ∧ m ≤ 8) && (right R.data.toList && decide (k = 103)))) := by
    rw [← hb, ← hk, Bool.eq_iff_iff]
    simp only [decide_eq_true_eq, Bool.and_eq_true]
    exact Iff.rfl
  rw [hk] at HK
  clear hb hk
  generalize Txt.right O.data.toList = v1 at HN hbb
  generalize right R.data.toList = v2 at HT hbb
  cases v1 with
  | false =>
    obtain rfl : bb = false := hbb
    go_enter Tryz.func13, Tryz.ntmps13
    go_wp2_with fail
    have hbS : Below w.heap.size w (w.alloc (.cells #[.string O, .int .u64 (t : Int), .int .i64 m, .string R, .string G] 24)) := (Below.refl w.heap.size w).alloc (Nat.le_refl _) _
    have hxS := c5_new w (.string O) (.int .u64 (t : Int)) (.int .i64 m) (.string R) (.string G) 24
    generalize w.alloc (.cells #[.string O, .int .u64 (t : Int), .int .i64 m, .string R, .string G] 24) = wSS at hbS hxS ⊢
    have HB1 := Lib.hid hbS
    have HXS := Lib.hid hxS
    clear hbS hxS
    with_reducible refine (HN.out _).mono ?_
    rintro e w2 ⟨rfl, hb2⟩
    have HB2 := Lib.hid (Bel.call HB1.out hb2)
    replace HXS := Lib.hid (HXS.out.below hb2)
    clear hb2
    dsimp only
    obtain ⟨⟨nS, dS0, dS1, dS2, dS3, dS4⟩, kS0, kS1, kS2, kS3, kS4⟩ := HXS.out
    go_wp2
    go_ret
    exact ⟨rfl, HB2.out⟩
  | true =>
    by_cases h0 : 0 ≤ m
    case neg =>
      have h0' : m < 0 := by omega
      obtain rfl : bb = false := by rw [hbb, decide_eq_false (fun h => h0 h.1)]; rfl
      clear hbb h0
      go_enter Tryz.func13, Tryz.ntmps13
      go_wp2_with fail
      have hbS : Below w.heap.size w (w.alloc (.cells #[.string O, .int .u64 (t : Int), .int .i64 m, .string R, .string G] 24)) := (Below.refl w.heap.size w).alloc (Nat.le_refl _) _
      have hxS := c5_new w (.string O) (.int .u64 (t : Int)) (.int .i64 m) (.string R) (.string G) 24
      generalize w.alloc (.cells #[.string O, .int .u64 (t : Int), .int .i64 m, .string R, .string G] 24) = wSS at hbS hxS ⊢
      have HB1 := Lib.hid hbS
      have HXS := Lib.hid hxS
      clear hbS hxS
      with_reducible refine (HN.out _).mono ?_
      rintro e w2 ⟨rfl, hb2⟩
      have HB2 := Lib.hid (Bel.call HB1.out hb2)
      replace HXS := Lib.hid (HXS.out.below hb2)
      clear hb2
      dsimp only
      obtain ⟨⟨nS, dS0, dS1, dS2, dS3, dS4⟩, kS0, kS1, kS2, kS3, kS4⟩ := HXS.out
      go_wp2
      go_ret
      exact ⟨rfl, HB2.out⟩
    by_cases h8 : m ≤ 8
    case neg =>
      have h8' : 8 < m := by omega
      obtain rfl : bb = false := by rw [hbb, decide_eq_false (fun h => h8 h.2)]; rfl
      clear hbb h8
      go_enter Tryz.func13, Tryz.ntmps13
      go_wp2_with fail
      have hbS : Below w.heap.size w (w.alloc (.cells #[.string O, .int .u64 (t : Int), .int .i64 m, .string R, .string G] 24)) := (Below.refl w.heap.size w).alloc (Nat.le_refl _) _
      have hxS := c5_new w (.string O) (.int .u64 (t : Int)) (.int .i64 m) (.string R) (.string G) 24
      generalize w.alloc (.cells #[.string O, .int .u64 (t : Int), .int .i64 m, .string R, .string G] 24) = wSS at hbS hxS ⊢
      have HB1 := Lib.hid hbS
      have HXS := Lib.hid hxS
      clear hbS hxS
      with_reducible refine (HN.out _).mono ?_
      rintro e w2 ⟨rfl, hb2⟩
      have HB2 := Lib.hid (Bel.call HB1.out hb2)
      replace HXS := Lib.hid (HXS.out.below hb2)
      clear hb2
      dsimp only
      obtain ⟨⟨nS, dS0, dS1, dS2, dS3, dS4⟩, kS0, kS1, kS2, kS3, kS4⟩ := HXS.out
      go_wp2
      go_ret
      exact ⟨rfl, HB2.out⟩
    rw [decide_eq_true (show 0 ≤ m ∧ m ≤ 8 from ⟨h0, h8⟩), Bool.true_and, Bool.true_and] at hbb
    cases v2 with
    | false =>
      obtain rfl : bb = false := hbb
      go_enter Tryz.func13, Tryz.ntmps13
      go_wp2_with fail
      have hbS : Below w.heap.size w (w.alloc (.cells #[.string O, .int .u64 (t : Int), .int .i64 m, .string R, .string G] 24)) := (Below.refl w.heap.size w).alloc (Nat.le_refl _) _
      have hxS := c5_new w (.string O) (.int .u64 (t : Int)) (.int .i64 m) (.string R) (.string G) 24
      generalize w.alloc (.cells #[.string O, .int .u64 (t : Int), .int .i64 m, .string R, .string G] 24) = wSS at hbS hxS ⊢
      have HB1 := Lib.hid hbS
      have HXS := Lib.hid hxS
      clear hbS hxS
      with_reducible refine (HN.out _).mono ?_
      rintro e w2 ⟨rfl, hb2⟩
      have HB2 := Lib.hid (Bel.call HB1.out hb2)
      replace HXS := Lib.hid (HXS.out.below hb2)
      clear hb2
      dsimp only
      obtain ⟨⟨nS, dS0, dS1, dS2, dS3, dS4⟩, kS0, kS1, kS2, kS3, kS4⟩ := HXS.out
      go_wp2_with fail
      with_reducible refine (HT.out _).mono ?_
      rintro e w3 ⟨rfl, hb3⟩
      clear nS dS0 dS1 dS2 dS3 dS4 kS0 kS1 kS2 kS3 kS4
      have HB3 := Lib.hid (Bel.call HB2.out hb3)
      replace HXS := Lib.hid (HXS.out.below hb3)
      clear hb3
      dsimp only
      obtain ⟨⟨nS, dS0, dS1, dS2, dS3, dS4⟩, kS0, kS1, kS2, kS3, kS4⟩ := HXS.out
      go_wp2
      go_ret
      exact ⟨rfl, HB3.out⟩
    | true =>
      by_cases h1 : k = 103
      · subst h1
        obtain rfl : bb = true := hbb
        go_enter Tryz.func13, Tryz.ntmps13
        go_wp2_with fail
        have hbS : Below w.heap.size w (w.alloc (.cells #[.string O, .int .u64 (t : Int), .int .i64 m, .string R, .string G] 24)) := (Below.refl w.heap.size w).alloc (Nat.le_refl _) _
        have hxS := c5_new w (.string O) (.int .u64 (t : Int)) (.int .i64 m) (.string R) (.string G) 24
        generalize w.alloc (.cells #[.string O, .int .u64 (t : Int), .int .i64 m, .string R, .string G] 24) = wSS at hbS hxS ⊢
        have HB1 := Lib.hid hbS
        have HXS := Lib.hid hxS
        clear hbS hxS
        with_reducible refine (HN.out _).mono ?_
        rintro e w2 ⟨rfl, hb2⟩
        have HB2 := Lib.hid (Bel.call HB1.out hb2)
        replace HXS := Lib.hid (HXS.out.below hb2)
        clear hb2
        dsimp only
        obtain ⟨⟨nS, dS0, dS1, dS2, dS3, dS4⟩, kS0, kS1, kS2, kS3, kS4⟩ := HXS.out
        go_wp2_with fail
        with_reducible refine (HT.out _).mono ?_
        rintro e w3 ⟨rfl, hb3⟩
        clear nS dS0 dS1 dS2 dS3 dS4 kS0 kS1 kS2 kS3 kS4
        have HB3 := Lib.hid (Bel.call HB2.out hb3)
        replace HXS := Lib.hid (HXS.out.below hb3)
        clear hb3
        dsimp only
        obtain ⟨⟨nS, dS0, dS1, dS2, dS3, dS4⟩, kS0, kS1, kS2, kS3, kS4⟩ := HXS.out
        go_wp2_with fail
        with_reducible refine (HK.out _).mono ?_
        rintro e w4 ⟨rfl, hb4⟩
        clear nS dS0 dS1 dS2 dS3 dS4 kS0 kS1 kS2 kS3 kS4
        have HB4 := Lib.hid (Bel.call HB3.out hb4)
        replace HXS := Lib.hid (HXS.out.below hb4)
        clear hb4
        dsimp only
        obtain ⟨⟨nS, dS0, dS1, dS2, dS3, dS4⟩, kS0, kS1, kS2, kS3, kS4⟩ := HXS.out
        go_wp2
        go_ret
        exact ⟨rfl, HB4.out⟩
      · have q1 : ((k : Int) == 103) = false := by rw [beq_eq_false_iff_ne]; omega
        obtain rfl : bb = false := by rw [hbb]; simp [h1]
        clear hbb h1
        go_enter Tryz.func13, Tryz.ntmps13
        go_wp2_with fail
        have hbS : Below w.heap.size w (w.alloc (.cells #[.string O, .int .u64 (t : Int), .int .i64 m, .string R, .string G] 24)) := (Below.refl w.heap.size w).alloc (Nat.le_refl _) _
        have hxS := c5_new w (.string O) (.int .u64 (t : Int)) (.int .i64 m) (.string R) (.string G) 24
        generalize w.alloc (.cells #[.string O, .int .u64 (t : Int), .int .i64 m, .string R, .string G] 24) = wSS at hbS hxS ⊢
        have HB1 := Lib.hid hbS
        have HXS := Lib.hid hxS
        clear hbS hxS
        with_reducible refine (HN.out _).mono ?_
        rintro e w2 ⟨rfl, hb2⟩
        have HB2 := Lib.hid (Bel.call HB1.out hb2)
        replace HXS := Lib.hid (HXS.out.below hb2)
        clear hb2
        dsimp only
        obtain ⟨⟨nS, dS0, dS1, dS2, dS3, dS4⟩, kS0, kS1, kS2, kS3, kS4⟩ := HXS.out
        go_wp2_with fail
        with_reducible refine (HT.out _).mono ?_
        rintro e w3 ⟨rfl, hb3⟩
        clear nS dS0 dS1 dS2 dS3 dS4 kS0 kS1 kS2 kS3 kS4
        have HB3 := Lib.hid (Bel.call HB2.out hb3)
        replace HXS := Lib.hid (HXS.out.below hb3)
        clear hb3
        dsimp only
        obtain ⟨⟨nS, dS0, dS1, dS2, dS3, dS4⟩, kS0, kS1, kS2, kS3, kS4⟩ := HXS.out
        go_wp2_with fail
        with_reducible refine (HK.out _).mono ?_
        rintro e w4 ⟨rfl, hb4⟩
        clear nS dS0 dS1 dS2 dS3 dS4 kS0 kS1 kS2 kS3 kS4
        have HB4 := Lib.hid (Bel.call HB3.out hb4)
        replace HXS := Lib.hid (HXS.out.below hb4)
        clear hb4
        dsimp only
        obtain ⟨⟨nS, dS0, dS1, dS2, dS3, dS4⟩, kS0, kS1, kS2, kS3, kS4⟩ := HXS.out
        go_wp2
        go_ret
        exact ⟨rfl, HB4.out⟩
theorem fright_is {v : Value} {s : Sp} (h : IsS v s) (h1 : s.own.length ≤ 140737488355328) (h2 : s.root.length ≤ 140737488355328) (h3 : s.sig.length ≤ 140737488355328) (w : World) : Calls Tryz.prog 13 #[v] w fun e w' => e = .returned (.bool (decide (SR s))) ∧ Below w.heap.size w w' := by
  obtain ⟨O, R, G, hO, hR, hG, rfl⟩ := h
  have := fright_any O s.time s.many R G w (by rw [Lib.size_eq, hO]; exact h1) (by rw [Lib.size_eq, hR]; exact h2) (by rw [Lib.size_eq, hG]; exact h3)
  rw [hO, hR, hG] at this
  exact this
end Go.Proofs.YtmmeklemaofmjaaGreat.Frs
