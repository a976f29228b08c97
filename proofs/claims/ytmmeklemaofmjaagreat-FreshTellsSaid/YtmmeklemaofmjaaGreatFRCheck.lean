/-
  THE DOCUMENT's ANSWER (letterlockref11): Check, Covers. By an AI agent; no person has read it.
-/
import Derived.Test.YtmmeklemaofmjaaGreatFRSign
import Derived.Test.YtmmeklemaofmjaaGreatFRRight
import Derived.Test.YtmmeklemaofmjaaGreatP3
namespace Go.Proofs.YtmmeklemaofmjaaGreat.Frs
open Go Go.RowKit Wire Term Draw Reg Clo

set_option linter.unusedSimpArgs false
set_option linter.unusedVariables false
set_option maxHeartbeats 8000000 in
set_option maxRecDepth 1000000 in
theorem rfcheck_any (O : ByteArray) (t : Nat) (m : Int) (R G P Q : ByteArray) (now bound : Nat) (w : World) (hO : O.size ≤ 1000000) (hR : R.size ≤ 140737488351232) (hG : G.size ≤ 140737488351232) (hP : P.size ≤ 140737488351232) (ht : t < 18446744073709551616) (hnow : now < 18446744073709551616) (hb : bound < 18446744073709551616) :
    Calls Tryz.prog 16 #[.agg #[.string O, .int .u64 (t : Int), .int .i64 m, .string R, .string G], .string P, .string Q, .int .u64 (now : Int), .int .u64 (bound : Int)] w fun e w' => e = .returned (.int .i64 (checkS ⟨O.data.toList, t, m, R.data.toList, G.data.toList⟩ P.data.toList Q.data.toList now bound)) ∧ Below w.heap.size w w' := by
  have HRI := Lib.hid fun w => rfright_any O t m R G w (by omega) (by omega) (by omega)
  have HK := Lib.hid fun w => kind_any P w (by omega)
  generalize hx : checkS ⟨O.data.toList, t, m, R.data.toList, G.data.toList⟩ P.data.toList Q.data.toList now bound = x
  unfold checkS at hx
  simp only at hx
  by_cases hS : SR ⟨O.data.toList, t, m, R.data.toList, G.data.toList⟩
  case neg =>
    rw [if_pos (.inl hS)] at hx
    rw [decide_eq_false hS] at HRI
    have HX := Lib.hid hx.symm
    clear hx hS
    go_enter Tryz.func16, Tryz.ntmps16
    go_wp2_with fail
    have hbS : Below w.heap.size w (w.alloc (.cells #[.string O, .int .u64 (t : Int), .int .i64 m, .string R, .string G] 28)) := (Below.refl w.heap.size w).alloc (Nat.le_refl _) _
    have hxS := c5_new w (.string O) (.int .u64 (t : Int)) (.int .i64 m) (.string R) (.string G) 28
    generalize w.alloc (.cells #[.string O, .int .u64 (t : Int), .int .i64 m, .string R, .string G] 28) = wSS at hbS hxS ⊢
    have HB1 := Lib.hid hbS
    have HXS := Lib.hid hxS
    clear hbS hxS
    with_reducible refine (HRI.out _).mono ?_
    rintro e w2 ⟨rfl, hb2⟩
    have HB2 := Lib.hid (Bel.call HB1.out hb2)
    replace HXS := Lib.hid (HXS.out.below hb2)
    clear hb2
    try dsimp only
    go_wp2
    go_ret
    exact ⟨by rw [HX.out]; rfl, HB2.out⟩
  rw [decide_eq_true hS] at HRI
  obtain ⟨k, hk⟩ : ∃ k, kind P.data.toList = k := ⟨_, rfl⟩
  rw [hk] at HK hx
  by_cases h1 : k = 117
  case neg =>
    rw [if_pos (.inr h1)] at hx
    have HX := Lib.hid hx.symm
    have q1 : ((k : Int) == 117) = false := by rw [beq_eq_false_iff_ne]; omega
    have q2 : ((k : Int) != 117) = true := by simp [bne, q1]
    clear hx hS hk h1
    go_enter Tryz.func16, Tryz.ntmps16
    go_wp2_with fail
    have hbS : Below w.heap.size w (w.alloc (.cells #[.string O, .int .u64 (t : Int), .int .i64 m, .string R, .string G] 28)) := (Below.refl w.heap.size w).alloc (Nat.le_refl _) _
    have hxS := c5_new w (.string O) (.int .u64 (t : Int)) (.int .i64 m) (.string R) (.string G) 28
    generalize w.alloc (.cells #[.string O, .int .u64 (t : Int), .int .i64 m, .string R, .string G] 28) = wSS at hbS hxS ⊢
    have HB1 := Lib.hid hbS
    have HXS := Lib.hid hxS
    clear hbS hxS
    with_reducible refine (HRI.out _).mono ?_
    rintro e w2 ⟨rfl, hb2⟩
    have HB2 := Lib.hid (Bel.call HB1.out hb2)
    replace HXS := Lib.hid (HXS.out.below hb2)
    clear hb2
    try dsimp only
    obtain ⟨⟨nS, dS0, dS1, dS2, dS3, dS4⟩, kS0, kS1, kS2, kS3, kS4⟩ := HXS.out
    go_wp2_with fail
    with_reducible refine (HK.out _).mono ?_
    rintro e w3 ⟨rfl, hb3⟩
    clear nS dS0 dS1 dS2 dS3 dS4 kS0 kS1 kS2 kS3 kS4
    have HB3 := Lib.hid (Bel.call HB2.out hb3)
    replace HXS := Lib.hid (HXS.out.below hb3)
    clear hb3
    try dsimp only
    go_wp2
    go_ret
    exact ⟨by rw [HX.out]; rfl, HB3.out⟩
  subst h1
  rw [if_neg (by rintro (h | h); exact h hS; exact h rfl)] at hx
  have hm := hS.2.1
  have hl := sr_lens hS
  simp only at hm hl
  obtain ⟨n, rfl⟩ : ∃ n : Nat, m = (n : Int) := ⟨m.toNat, by omega⟩
  simp only [show ((n : Int)).toNat = n by omega] at hx
  have HSA := Lib.hid fun w => rsigned_any O t n R G w (by omega) hR ht (by omega)
  have hsl := signed_len O.data.toList R.data.toList t n
  have HV : Hid (∀ (T : ByteArray) (w : World), T.data.toList = (signedS O.data.toList t n R.data.toList).1 → Calls Tryz.prog 43 #[.string P, .string T, .string G] w fun e w' => e = .returned (.int .i64 (verify P.data.toList (signedS O.data.toList t n R.data.toList).1 G.data.toList)) ∧ Below w.heap.size w w') := Lib.hid fun T w hT => by
    have := verify_any P T G w (by omega) (by rw [Lib.size_eq, hT]; omega) (by omega)
    rw [hT] at this
    exact this
  generalize signedS O.data.toList t n R.data.toList = sg at HSA HV hx
  obtain ⟨sx, sf⟩ := sg
  simp only at HV hx
  clear hk hS hm hl hsl hO hR hG hP
  by_cases hf : sf = 0
  case neg =>
    rw [if_pos (.inl hf)] at hx
    have HX := Lib.hid hx.symm
    have hfb : (sf == 0) = false := by simpa using hf
    have hfb2 : (sf != 0) = true := by simpa using hf
    clear hx hf
    go_enter Tryz.func16, Tryz.ntmps16
    go_wp2_with fail
    have hbS : Below w.heap.size w (w.alloc (.cells #[.string O, .int .u64 (t : Int), .int .i64 (n : Int), .string R, .string G] 28)) := (Below.refl w.heap.size w).alloc (Nat.le_refl _) _
    have hxS := c5_new w (.string O) (.int .u64 (t : Int)) (.int .i64 (n : Int)) (.string R) (.string G) 28
    generalize w.alloc (.cells #[.string O, .int .u64 (t : Int), .int .i64 (n : Int), .string R, .string G] 28) = wSS at hbS hxS ⊢
    have HB1 := Lib.hid hbS
    have HXS := Lib.hid hxS
    clear hbS hxS
    with_reducible refine (HRI.out _).mono ?_
    rintro e w2 ⟨rfl, hb2⟩
    have HB2 := Lib.hid (Bel.call HB1.out hb2)
    replace HXS := Lib.hid (HXS.out.below hb2)
    clear hb2
    try dsimp only
    obtain ⟨⟨nS, dS0, dS1, dS2, dS3, dS4⟩, kS0, kS1, kS2, kS3, kS4⟩ := HXS.out
    go_wp2_with fail
    with_reducible refine (HK.out _).mono ?_
    rintro e w3 ⟨rfl, hb3⟩
    clear nS dS0 dS1 dS2 dS3 dS4 kS0 kS1 kS2 kS3 kS4
    have HB3 := Lib.hid (Bel.call HB2.out hb3)
    replace HXS := Lib.hid (HXS.out.below hb3)
    clear hb3
    try dsimp only
    obtain ⟨⟨nS, dS0, dS1, dS2, dS3, dS4⟩, kS0, kS1, kS2, kS3, kS4⟩ := HXS.out
    go_wp2_with fail
    with_reducible refine (HSA.out _).mono ?_
    rintro e w4 ⟨⟨T, hT, rfl⟩, hb4⟩
    clear nS dS0 dS1 dS2 dS3 dS4 kS0 kS1 kS2 kS3 kS4
    have HB4 := Lib.hid (Bel.call HB3.out hb4)
    replace HXS := Lib.hid (HXS.out.below hb4)
    clear hb4
    try dsimp only at hT
    have HT := Lib.hid hT
    clear hT
    try dsimp only
    go_wp2
    go_ret
    exact ⟨by rw [HX.out]; rfl, HB4.out⟩
  subst hf
  obtain ⟨vf, hv⟩ : ∃ v, verify P.data.toList sx G.data.toList = v := ⟨_, rfl⟩
  rw [hv] at HV hx
  clear hv
  by_cases hf : vf = 0
  case neg =>
    rw [if_pos (.inr hf)] at hx
    have HX := Lib.hid hx.symm
    have hfb : (vf == 0) = false := by simpa using hf
    have hfb2 : (vf != 0) = true := by simpa using hf
    clear hx hf
    go_enter Tryz.func16, Tryz.ntmps16
    go_wp2_with fail
    have hbS : Below w.heap.size w (w.alloc (.cells #[.string O, .int .u64 (t : Int), .int .i64 (n : Int), .string R, .string G] 28)) := (Below.refl w.heap.size w).alloc (Nat.le_refl _) _
    have hxS := c5_new w (.string O) (.int .u64 (t : Int)) (.int .i64 (n : Int)) (.string R) (.string G) 28
    generalize w.alloc (.cells #[.string O, .int .u64 (t : Int), .int .i64 (n : Int), .string R, .string G] 28) = wSS at hbS hxS ⊢
    have HB1 := Lib.hid hbS
    have HXS := Lib.hid hxS
    clear hbS hxS
    with_reducible refine (HRI.out _).mono ?_
    rintro e w2 ⟨rfl, hb2⟩
    have HB2 := Lib.hid (Bel.call HB1.out hb2)
    replace HXS := Lib.hid (HXS.out.below hb2)
    clear hb2
    try dsimp only
    obtain ⟨⟨nS, dS0, dS1, dS2, dS3, dS4⟩, kS0, kS1, kS2, kS3, kS4⟩ := HXS.out
    go_wp2_with fail
    with_reducible refine (HK.out _).mono ?_
    rintro e w3 ⟨rfl, hb3⟩
    clear nS dS0 dS1 dS2 dS3 dS4 kS0 kS1 kS2 kS3 kS4
    have HB3 := Lib.hid (Bel.call HB2.out hb3)
    replace HXS := Lib.hid (HXS.out.below hb3)
    clear hb3
    try dsimp only
    obtain ⟨⟨nS, dS0, dS1, dS2, dS3, dS4⟩, kS0, kS1, kS2, kS3, kS4⟩ := HXS.out
    go_wp2_with fail
    with_reducible refine (HSA.out _).mono ?_
    rintro e w4 ⟨⟨T, hT, rfl⟩, hb4⟩
    clear nS dS0 dS1 dS2 dS3 dS4 kS0 kS1 kS2 kS3 kS4
    have HB4 := Lib.hid (Bel.call HB3.out hb4)
    replace HXS := Lib.hid (HXS.out.below hb4)
    clear hb4
    try dsimp only at hT
    have HT := Lib.hid hT
    clear hT
    try dsimp only
    obtain ⟨⟨nS, dS0, dS1, dS2, dS3, dS4⟩, kS0, kS1, kS2, kS3, kS4⟩ := HXS.out
    go_wp2_with fail
    with_reducible refine (HV.out T _ HT.out).mono ?_
    rintro e w5 ⟨rfl, hb5⟩
    clear nS dS0 dS1 dS2 dS3 dS4 kS0 kS1 kS2 kS3 kS4
    have HB5 := Lib.hid (Bel.call HB4.out hb5)
    replace HXS := Lib.hid (HXS.out.below hb5)
    clear hb5
    try dsimp only
    obtain ⟨⟨nS, dS0, dS1, dS2, dS3, dS4⟩, kS0, kS1, kS2, kS3, kS4⟩ := HXS.out
    go_wp2
    go_ret
    exact ⟨by rw [HX.out]; rfl, HB5.out⟩
  subst hf
  rw [if_neg (by rintro (h | h); exact h rfl; exact h rfl)] at hx
  by_cases ho : O.data.toList = Q.data.toList
  case neg =>
    rw [if_pos ho] at hx
    have HX := Lib.hid hx.symm
    have hob := ne_bool ho
    clear hx ho
    go_enter Tryz.func16, Tryz.ntmps16
    go_wp2_with fail
    have hbS : Below w.heap.size w (w.alloc (.cells #[.string O, .int .u64 (t : Int), .int .i64 (n : Int), .string R, .string G] 28)) := (Below.refl w.heap.size w).alloc (Nat.le_refl _) _
    have hxS := c5_new w (.string O) (.int .u64 (t : Int)) (.int .i64 (n : Int)) (.string R) (.string G) 28
    generalize w.alloc (.cells #[.string O, .int .u64 (t : Int), .int .i64 (n : Int), .string R, .string G] 28) = wSS at hbS hxS ⊢
    have HB1 := Lib.hid hbS
    have HXS := Lib.hid hxS
    clear hbS hxS
    with_reducible refine (HRI.out _).mono ?_
    rintro e w2 ⟨rfl, hb2⟩
    have HB2 := Lib.hid (Bel.call HB1.out hb2)
    replace HXS := Lib.hid (HXS.out.below hb2)
    clear hb2
    try dsimp only
    obtain ⟨⟨nS, dS0, dS1, dS2, dS3, dS4⟩, kS0, kS1, kS2, kS3, kS4⟩ := HXS.out
    go_wp2_with fail
    with_reducible refine (HK.out _).mono ?_
    rintro e w3 ⟨rfl, hb3⟩
    clear nS dS0 dS1 dS2 dS3 dS4 kS0 kS1 kS2 kS3 kS4
    have HB3 := Lib.hid (Bel.call HB2.out hb3)
    replace HXS := Lib.hid (HXS.out.below hb3)
    clear hb3
    try dsimp only
    obtain ⟨⟨nS, dS0, dS1, dS2, dS3, dS4⟩, kS0, kS1, kS2, kS3, kS4⟩ := HXS.out
    go_wp2_with fail
    with_reducible refine (HSA.out _).mono ?_
    rintro e w4 ⟨⟨T, hT, rfl⟩, hb4⟩
    clear nS dS0 dS1 dS2 dS3 dS4 kS0 kS1 kS2 kS3 kS4
    have HB4 := Lib.hid (Bel.call HB3.out hb4)
    replace HXS := Lib.hid (HXS.out.below hb4)
    clear hb4
    try dsimp only at hT
    have HT := Lib.hid hT
    clear hT
    try dsimp only
    obtain ⟨⟨nS, dS0, dS1, dS2, dS3, dS4⟩, kS0, kS1, kS2, kS3, kS4⟩ := HXS.out
    go_wp2_with fail
    with_reducible refine (HV.out T _ HT.out).mono ?_
    rintro e w5 ⟨rfl, hb5⟩
    clear nS dS0 dS1 dS2 dS3 dS4 kS0 kS1 kS2 kS3 kS4
    have HB5 := Lib.hid (Bel.call HB4.out hb5)
    replace HXS := Lib.hid (HXS.out.below hb5)
    clear hb5
    try dsimp only
    obtain ⟨⟨nS, dS0, dS1, dS2, dS3, dS4⟩, kS0, kS1, kS2, kS3, kS4⟩ := HXS.out
    go_wp2
    go_ret
    exact ⟨by rw [HX.out]; rfl, HB5.out⟩
  rw [if_neg (fun h => h ho)] at hx
  have hob := eq_bool ho
  clear ho
  by_cases ht1 : now < t
  · rw [if_pos (.inl ht1)] at hx
    have HX := Lib.hid hx.symm
    have ht2 : (now : Int) < (t : Int) := by omega
    clear hx ht1
    go_enter Tryz.func16, Tryz.ntmps16
    go_wp2_with fail
    have hbS : Below w.heap.size w (w.alloc (.cells #[.string O, .int .u64 (t : Int), .int .i64 (n : Int), .string R, .string G] 28)) := (Below.refl w.heap.size w).alloc (Nat.le_refl _) _
    have hxS := c5_new w (.string O) (.int .u64 (t : Int)) (.int .i64 (n : Int)) (.string R) (.string G) 28
    generalize w.alloc (.cells #[.string O, .int .u64 (t : Int), .int .i64 (n : Int), .string R, .string G] 28) = wSS at hbS hxS ⊢
    have HB1 := Lib.hid hbS
    have HXS := Lib.hid hxS
    clear hbS hxS
    with_reducible refine (HRI.out _).mono ?_
    rintro e w2 ⟨rfl, hb2⟩
    have HB2 := Lib.hid (Bel.call HB1.out hb2)
    replace HXS := Lib.hid (HXS.out.below hb2)
    clear hb2
    try dsimp only
    obtain ⟨⟨nS, dS0, dS1, dS2, dS3, dS4⟩, kS0, kS1, kS2, kS3, kS4⟩ := HXS.out
    go_wp2_with fail
    with_reducible refine (HK.out _).mono ?_
    rintro e w3 ⟨rfl, hb3⟩
    clear nS dS0 dS1 dS2 dS3 dS4 kS0 kS1 kS2 kS3 kS4
    have HB3 := Lib.hid (Bel.call HB2.out hb3)
    replace HXS := Lib.hid (HXS.out.below hb3)
    clear hb3
    try dsimp only
    obtain ⟨⟨nS, dS0, dS1, dS2, dS3, dS4⟩, kS0, kS1, kS2, kS3, kS4⟩ := HXS.out
    go_wp2_with fail
    with_reducible refine (HSA.out _).mono ?_
    rintro e w4 ⟨⟨T, hT, rfl⟩, hb4⟩
    clear nS dS0 dS1 dS2 dS3 dS4 kS0 kS1 kS2 kS3 kS4
    have HB4 := Lib.hid (Bel.call HB3.out hb4)
    replace HXS := Lib.hid (HXS.out.below hb4)
    clear hb4
    try dsimp only at hT
    have HT := Lib.hid hT
    clear hT
    try dsimp only
    obtain ⟨⟨nS, dS0, dS1, dS2, dS3, dS4⟩, kS0, kS1, kS2, kS3, kS4⟩ := HXS.out
    go_wp2_with fail
    with_reducible refine (HV.out T _ HT.out).mono ?_
    rintro e w5 ⟨rfl, hb5⟩
    clear nS dS0 dS1 dS2 dS3 dS4 kS0 kS1 kS2 kS3 kS4
    have HB5 := Lib.hid (Bel.call HB4.out hb5)
    replace HXS := Lib.hid (HXS.out.below hb5)
    clear hb5
    try dsimp only
    obtain ⟨⟨nS, dS0, dS1, dS2, dS3, dS4⟩, kS0, kS1, kS2, kS3, kS4⟩ := HXS.out
    go_wp2
    go_ret
    exact ⟨by rw [HX.out]; rfl, HB5.out⟩
  have ht2 : ¬ (now : Int) < (t : Int) := by omega
  have hsub : IntKind.u64.wrap ((now : Int) - (t : Int)) = ((now - t : Nat) : Int) := by rw [IntKind.wrap_u64]; omega
  by_cases hb1 : bound < now - t
  · rw [if_pos (.inr hb1)] at hx
    have HX := Lib.hid hx.symm
    have hb2 : (bound : Int) < ((now - t : Nat) : Int) := by omega
    clear hx hb1
    go_enter Tryz.func16, Tryz.ntmps16
    go_wp2_with fail
    have hbS : Below w.heap.size w (w.alloc (.cells #[.string O, .int .u64 (t : Int), .int .i64 (n : Int), .string R, .string G] 28)) := (Below.refl w.heap.size w).alloc (Nat.le_refl _) _
    have hxS := c5_new w (.string O) (.int .u64 (t : Int)) (.int .i64 (n : Int)) (.string R) (.string G) 28
    generalize w.alloc (.cells #[.string O, .int .u64 (t : Int), .int .i64 (n : Int), .string R, .string G] 28) = wSS at hbS hxS ⊢
    have HB1 := Lib.hid hbS
    have HXS := Lib.hid hxS
    clear hbS hxS
    with_reducible refine (HRI.out _).mono ?_
    rintro e w2 ⟨rfl, hb2⟩
    have HB2 := Lib.hid (Bel.call HB1.out hb2)
    replace HXS := Lib.hid (HXS.out.below hb2)
    clear hb2
    try dsimp only
    obtain ⟨⟨nS, dS0, dS1, dS2, dS3, dS4⟩, kS0, kS1, kS2, kS3, kS4⟩ := HXS.out
    go_wp2_with fail
    with_reducible refine (HK.out _).mono ?_
    rintro e w3 ⟨rfl, hb3⟩
    clear nS dS0 dS1 dS2 dS3 dS4 kS0 kS1 kS2 kS3 kS4
    have HB3 := Lib.hid (Bel.call HB2.out hb3)
    replace HXS := Lib.hid (HXS.out.below hb3)
    clear hb3
    try dsimp only
    obtain ⟨⟨nS, dS0, dS1, dS2, dS3, dS4⟩, kS0, kS1, kS2, kS3, kS4⟩ := HXS.out
    go_wp2_with fail
    with_reducible refine (HSA.out _).mono ?_
    rintro e w4 ⟨⟨T, hT, rfl⟩, hb4⟩
    clear nS dS0 dS1 dS2 dS3 dS4 kS0 kS1 kS2 kS3 kS4
    have HB4 := Lib.hid (Bel.call HB3.out hb4)
    replace HXS := Lib.hid (HXS.out.below hb4)
    clear hb4
    try dsimp only at hT
    have HT := Lib.hid hT
    clear hT
    try dsimp only
    obtain ⟨⟨nS, dS0, dS1, dS2, dS3, dS4⟩, kS0, kS1, kS2, kS3, kS4⟩ := HXS.out
    go_wp2_with fail
    with_reducible refine (HV.out T _ HT.out).mono ?_
    rintro e w5 ⟨rfl, hb5⟩
    clear nS dS0 dS1 dS2 dS3 dS4 kS0 kS1 kS2 kS3 kS4
    have HB5 := Lib.hid (Bel.call HB4.out hb5)
    replace HXS := Lib.hid (HXS.out.below hb5)
    clear hb5
    try dsimp only
    obtain ⟨⟨nS, dS0, dS1, dS2, dS3, dS4⟩, kS0, kS1, kS2, kS3, kS4⟩ := HXS.out
    go_wp2
    go_ret
    exact ⟨by rw [HX.out]; rfl, HB5.out⟩
  rw [if_neg (by rintro (h | h); exact ht1 h; exact hb1 h)] at hx
  have HX := Lib.hid hx.symm
  have hb2 : ¬ (bound : Int) < ((now - t : Nat) : Int) := by omega
  clear hx hb1 ht1
  go_enter Tryz.func16, Tryz.ntmps16
  go_wp2_with fail
  have hbS : Below w.heap.size w (w.alloc (.cells #[.string O, .int .u64 (t : Int), .int .i64 (n : Int), .string R, .string G] 28)) := (Below.refl w.heap.size w).alloc (Nat.le_refl _) _
  have hxS := c5_new w (.string O) (.int .u64 (t : Int)) (.int .i64 (n : Int)) (.string R) (.string G) 28
  generalize w.alloc (.cells #[.string O, .int .u64 (t : Int), .int .i64 (n : Int), .string R, .string G] 28) = wSS at hbS hxS ⊢
  have HB1 := Lib.hid hbS
  have HXS := Lib.hid hxS
  clear hbS hxS
  with_reducible refine (HRI.out _).mono ?_
  rintro e w2 ⟨rfl, hb2⟩
  have HB2 := Lib.hid (Bel.call HB1.out hb2)
  replace HXS := Lib.hid (HXS.out.below hb2)
  clear hb2
  try dsimp only
  obtain ⟨⟨nS, dS0, dS1, dS2, dS3, dS4⟩, kS0, kS1, kS2, kS3, kS4⟩ := HXS.out
  go_wp2_with fail
  with_reducible refine (HK.out _).mono ?_
  rintro e w3 ⟨rfl, hb3⟩
  clear nS dS0 dS1 dS2 dS3 dS4 kS0 kS1 kS2 kS3 kS4
  have HB3 := Lib.hid (Bel.call HB2.out hb3)
  replace HXS := Lib.hid (HXS.out.below hb3)
  clear hb3
  try dsimp only
  obtain ⟨⟨nS, dS0, dS1, dS2, dS3, dS4⟩, kS0, kS1, kS2, kS3, kS4⟩ := HXS.out
  go_wp2_with fail
  with_reducible refine (HSA.out _).mono ?_
  rintro e w4 ⟨⟨T, hT, rfl⟩, hb4⟩
  clear nS dS0 dS1 dS2 dS3 dS4 kS0 kS1 kS2 kS3 kS4
  have HB4 := Lib.hid (Bel.call HB3.out hb4)
  replace HXS := Lib.hid (HXS.out.below hb4)
  clear hb4
  try dsimp only at hT
  have HT := Lib.hid hT
  clear hT
  try dsimp only
  obtain ⟨⟨nS, dS0, dS1, dS2, dS3, dS4⟩, kS0, kS1, kS2, kS3, kS4⟩ := HXS.out
  go_wp2_with fail
  with_reducible refine (HV.out T _ HT.out).mono ?_
  rintro e w5 ⟨rfl, hb5⟩
  clear nS dS0 dS1 dS2 dS3 dS4 kS0 kS1 kS2 kS3 kS4
  have HB5 := Lib.hid (Bel.call HB4.out hb5)
  replace HXS := Lib.hid (HXS.out.below hb5)
  clear hb5
  try dsimp only
  obtain ⟨⟨nS, dS0, dS1, dS2, dS3, dS4⟩, kS0, kS1, kS2, kS3, kS4⟩ := HXS.out
  go_wp2
  go_ret
  exact ⟨by rw [HX.out]; rfl, HB5.out⟩
set_option maxHeartbeats 8000000 in
set_option maxRecDepth 1000000 in
theorem rfcovers_any (O : ByteArray) (t : Nat) (m : Int) (R G : ByteArray) (i : Int) (T : ByteArray) (A : Option Addr) (c : Nat) (ys : List ByteArray) (w : World) (hr : SReads w A ys) (hO : O.size ≤ 1000000) (hR : R.size ≤ 140737488351232) (hG : G.size ≤ 140737488351232) (hT : T.size ≤ 140737488351232) (hc : ys.length ≤ c) (hc2 : c ≤ 9223372036854775807) (hz : ∀ y ∈ ys, y.size ≤ 140737488355328) :
    Calls Tryz.prog 18 #[.agg #[.string O, .int .u64 (t : Int), .int .i64 m, .string R, .string G], .int .i64 i, .string T, .slice A ys.length c] w fun e w' => e = .returned (.bool (coversS ⟨O.data.toList, t, m, R.data.toList, G.data.toList⟩ i T.data.toList (bl ys))) ∧ Below w.heap.size w w' := by
  have HRI := Lib.hid fun w => rfright_any O t m R G w (by omega) (by omega) (by omega)
  have HV := Lib.hid fun w h => Tre.rverify_any R m i T A c ys w h hc hc2 hz (by omega) (by omega)
  have HR := Lib.hid hr
  generalize hx : coversS ⟨O.data.toList, t, m, R.data.toList, G.data.toList⟩ i T.data.toList (bl ys) = x
  unfold coversS at hx
  simp only at hx
  generalize decide (SR ⟨O.data.toList, t, m, R.data.toList, G.data.toList⟩) = b at HRI hx
  generalize Tre.verifyT R.data.toList m i T.data.toList (bl ys) = v at HV hx
  clear hr hc hc2 hz hO hR hG hT
  cases b with
  | false =>
    have HX : Hid (false = x) := Lib.hid hx
    go_enter Tryz.func18, Tryz.ntmps18
    go_wp2_with fail
    have hbS : Below w.heap.size w (w.alloc (.cells #[.string O, .int .u64 (t : Int), .int .i64 m, .string R, .string G] 28)) := (Below.refl w.heap.size w).alloc (Nat.le_refl _) _
    have hxS := c5_new w (.string O) (.int .u64 (t : Int)) (.int .i64 m) (.string R) (.string G) 28
    generalize w.alloc (.cells #[.string O, .int .u64 (t : Int), .int .i64 m, .string R, .string G] 28) = wSS at hbS hxS ⊢
    have HB1 := Lib.hid hbS
    replace HR := Lib.hid (HR.out.below hbS (Nat.le_refl _))
    have HXS := Lib.hid hxS
    clear hbS hxS
    with_reducible refine (HRI.out _).mono ?_
    rintro e w2 ⟨rfl, hb2⟩
    have HB2 := Lib.hid (Bel.call HB1.out hb2)
    replace HR := Lib.hid (HR.out.below hb2 (Nat.le_refl _))
    replace HXS := Lib.hid (HXS.out.below hb2)
    clear hb2
    try dsimp only
    clear hx
    go_wp2
    go_ret
    exact ⟨by rw [← HX.out]; rfl, HB2.out⟩
  | true =>
    have HX : Hid (v = x) := Lib.hid hx
    go_enter Tryz.func18, Tryz.ntmps18
    go_wp2_with fail
    have hbS : Below w.heap.size w (w.alloc (.cells #[.string O, .int .u64 (t : Int), .int .i64 m, .string R, .string G] 28)) := (Below.refl w.heap.size w).alloc (Nat.le_refl _) _
    have hxS := c5_new w (.string O) (.int .u64 (t : Int)) (.int .i64 m) (.string R) (.string G) 28
    generalize w.alloc (.cells #[.string O, .int .u64 (t : Int), .int .i64 m, .string R, .string G] 28) = wSS at hbS hxS ⊢
    have HB1 := Lib.hid hbS
    replace HR := Lib.hid (HR.out.below hbS (Nat.le_refl _))
    have HXS := Lib.hid hxS
    clear hbS hxS
    with_reducible refine (HRI.out _).mono ?_
    rintro e w2 ⟨rfl, hb2⟩
    have HB2 := Lib.hid (Bel.call HB1.out hb2)
    replace HR := Lib.hid (HR.out.below hb2 (Nat.le_refl _))
    replace HXS := Lib.hid (HXS.out.below hb2)
    clear hb2
    try dsimp only
    clear hx
    obtain ⟨⟨nS, dS0, dS1, dS2, dS3, dS4⟩, kS0, kS1, kS2, kS3, kS4⟩ := HXS.out
    go_wp2_with fail
    with_reducible refine (HV.out _ HR.out).mono ?_
    rintro e w3 ⟨rfl, hb3⟩
    clear nS dS0 dS1 dS2 dS3 dS4 kS0 kS1 kS2 kS3 kS4
    have HB3 := Lib.hid (Bel.call HB2.out hb3)
    replace HR := Lib.hid (HR.out.below hb3 (Nat.le_refl _))
    replace HXS := Lib.hid (HXS.out.below hb3)
    clear hb3
    try dsimp only
    go_wp2
    go_ret
    exact ⟨by rw [← HX.out]; rfl, HB3.out⟩
end Go.Proofs.YtmmeklemaofmjaaGreat.Frs
