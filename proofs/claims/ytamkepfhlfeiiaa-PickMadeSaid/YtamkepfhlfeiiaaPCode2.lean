/-
  THE LANDED CODE's List and Lies (package pick); PickOK. By an AI agent; no person has read it.
-/
import Derived.Test.YtamkepfhlfeiiaaPCode
namespace Go.Proofs.Ytamkepfhlfeiiaa.Sto
open Go Go.RowKit Wire

set_option linter.unusedVariables false
set_option linter.unusedSimpArgs false
section
variable {D : DPred} {a : Addr} {X : Nat → Prop} {s : Stt} {w : World}
set_option maxHeartbeats 4000000 in
set_option maxRecDepth 1000000 in
theorem plist_c (d : StoreOK D) (h : D w a X s) (hf : Fine s) (K : ByteArray) (kd bk : Int) (Y Z : ByteArray) (hKz : K.size ≤ 140737488351232) (hc : Ch.Ok ⟨kd, bk, Y, Z⟩) : Calls Try.prog 14 #[.pointer (some a), .string K, .agg #[.int .u8 kd, .int .i64 bk, .string Y, .string Z]] w fun e w' => (∃ l, PL s K.data.toList ⟨kd, bk, Y, Z⟩ l ∧ Row w w' l e) ∧ Below w.heap.size w w' := by
  obtain ⟨w0, hst⟩ := sts_any h hf
  have HSA := Lib.hid hst
  clear h hf hst
  have HCH := Lib.hid hc
  obtain ⟨hkd, hbk, hy1, hy2⟩ := hc
  simp only at hkd hbk hy1 hy2
  have hfw := fun F G w => (field_way F G w).2
  by_cases h115 : kd = 115
  · subst h115
    have HW : Hid (∀ w, Calls Try.prog 30 #[.int .u8 115] w fun e w' => e = .returned (.agg #[.func (.func 38) #[] #[], .func (.func 39) #[] #[]]) ∧ Below w.heap.size w w') := Lib.hid fun w => by
      have h := wayof_c 115 w
      unfold wayV at h
      simp only [Int.reduceEq, if_true, if_false] at h
      exact h
    go_enter Try.func14, Try.ntmps14
    go_wp2_with fail
    have hbS : Below w.heap.size w (w.alloc (.cells #[.int .u8 115, .int .i64 bk, .string Y, .string Z] 24)) := (Below.refl w.heap.size w).alloc (Nat.le_refl _) _
    have hxS := b4_new w (.int .u8 115) (.int .i64 bk) (.string Y) (.string Z) 24
    generalize w.alloc (.cells #[.int .u8 115, .int .i64 bk, .string Y, .string Z] 24) = wSc at hbS hxS ⊢
    have HB1 := Lib.hid hbS
    replace HSA := Lib.hid (HSA.out.belowK d.ks hbS)
    have HXc := Lib.hid hxS
    clear hbS hxS
    obtain ⟨nc, dc0, dc1, dc2, dc3⟩ := HXc.out
    go_wp2_with fail
    clear nc dc0 dc1 dc2 dc3
    with_reducible refine (HW.out _).mono ?_
    rintro e w2 ⟨rfl, hb2⟩
    have HB2 := Lib.hid (bel_call HB1.out hb2)
    replace HSA := Lib.hid (HSA.out.belowK d.ks hb2)
    replace HXc := Lib.hid (HXc.out.below hb2)
    clear hb2
    try dsimp only
    go_wp2_with fail
    with_reducible refine (emp_c a _).mono ?_
    rintro e w3 ⟨rfl, hb3⟩
    have HB3 := Lib.hid (bel_call HB2.out hb3)
    replace HSA := Lib.hid (HSA.out.belowK d.ks hb3)
    replace HXc := Lib.hid (HXc.out.below hb3)
    clear hb3
    try dsimp only
    go_wp2_with fail
    with_reducible refine (keys_c d HSA.out.d HSA.out.f K hKz).mono ?_
    rintro e w4 ⟨⟨l, hl, v, zs, h1, h2, rfl⟩, hb4⟩
    have HB4 := Lib.hid (bel_call HB3.out hb4)
    replace HSA := Lib.hid (HSA.out.belowK d.ks hb4)
    replace HXc := Lib.hid (HXc.out.below hb4)
    clear hb4
    have HL := Lib.hid hl
    have H1 := Lib.hid h1
    have H2 := Lib.hid (own_low h2 HB3.out.size)
    clear hl h1 h2
    try dsimp only
    go_wp2
    go_ret
    exact ⟨⟨l, by unfold PL; rw [if_neg (show ¬ ((115 : Int) = 100) by decide)]; exact HL.out, v, zs, H1.out, H2.out, rfl⟩, HB4.out⟩
  by_cases h100 : kd = 100
  · subst h100
    have HW : Hid (∀ w, Calls Try.prog 30 #[.int .u8 100] w fun e w' => e = .returned (.agg #[.func (.func 40) #[] #[], .func (.func 41) #[] #[]]) ∧ Below w.heap.size w w') := Lib.hid fun w => by
      have h := wayof_c 100 w
      unfold wayV at h
      simp only [Int.reduceEq, if_true, if_false] at h
      exact h
    go_enter Try.func14, Try.ntmps14
    go_wp2_with fail
    have hbS : Below w.heap.size w (w.alloc (.cells #[.int .u8 100, .int .i64 bk, .string Y, .string Z] 24)) := (Below.refl w.heap.size w).alloc (Nat.le_refl _) _
    have hxS := b4_new w (.int .u8 100) (.int .i64 bk) (.string Y) (.string Z) 24
    generalize w.alloc (.cells #[.int .u8 100, .int .i64 bk, .string Y, .string Z] 24) = wSc at hbS hxS ⊢
    have HB1 := Lib.hid hbS
    replace HSA := Lib.hid (HSA.out.belowK d.ks hbS)
    have HXc := Lib.hid hxS
    clear hbS hxS
    obtain ⟨nc, dc0, dc1, dc2, dc3⟩ := HXc.out
    go_wp2_with fail
    clear nc dc0 dc1 dc2 dc3
    with_reducible refine (HW.out _).mono ?_
    rintro e w2 ⟨rfl, hb2⟩
    have HB2 := Lib.hid (bel_call HB1.out hb2)
    replace HSA := Lib.hid (HSA.out.belowK d.ks hb2)
    replace HXc := Lib.hid (HXc.out.below hb2)
    clear hb2
    try dsimp only
    go_wp2_with fail
    with_reducible refine (emp_c a _).mono ?_
    rintro e w3 ⟨rfl, hb3⟩
    have HB3 := Lib.hid (bel_call HB2.out hb3)
    replace HSA := Lib.hid (HSA.out.belowK d.ks hb3)
    replace HXc := Lib.hid (HXc.out.below hb3)
    clear hb3
    try dsimp only
    go_wp2_with fail
    with_reducible refine (nokeys_c (some a) K _).mono ?_
    rintro e w4 ⟨⟨v, zs, h1, h2, rfl⟩, hb4⟩
    have HB4 := Lib.hid (bel_call HB3.out hb4)
    replace HSA := Lib.hid (HSA.out.belowK d.ks hb4)
    replace HXc := Lib.hid (HXc.out.below hb4)
    clear hb4
    have H1 := Lib.hid h1
    have H2 := Lib.hid (own_low h2 HB3.out.size)
    clear h1 h2
    try dsimp only
    go_wp2
    go_ret
    exact ⟨⟨[], by unfold PL; rw [if_pos rfl], v, zs, H1.out, H2.out, rfl⟩, HB4.out⟩
  by_cases h120 : kd = 120
  · subst h120
    have HW : Hid (∀ w, Calls Try.prog 30 #[.int .u8 120] w fun e w' => e = .returned (.agg #[.func (.func 42) #[] #[], .func (.func 39) #[] #[]]) ∧ Below w.heap.size w w') := Lib.hid fun w => by
      have h := wayof_c 120 w
      unfold wayV at h
      simp only [Int.reduceEq, if_true, if_false] at h
      exact h
    go_enter Try.func14, Try.ntmps14
    go_wp2_with fail
    have hbS : Below w.heap.size w (w.alloc (.cells #[.int .u8 120, .int .i64 bk, .string Y, .string Z] 24)) := (Below.refl w.heap.size w).alloc (Nat.le_refl _) _
    have hxS := b4_new w (.int .u8 120) (.int .i64 bk) (.string Y) (.string Z) 24
    generalize w.alloc (.cells #[.int .u8 120, .int .i64 bk, .string Y, .string Z] 24) = wSc at hbS hxS ⊢
    have HB1 := Lib.hid hbS
    replace HSA := Lib.hid (HSA.out.belowK d.ks hbS)
    have HXc := Lib.hid hxS
    clear hbS hxS
    obtain ⟨nc, dc0, dc1, dc2, dc3⟩ := HXc.out
    go_wp2_with fail
    clear nc dc0 dc1 dc2 dc3
    with_reducible refine (HW.out _).mono ?_
    rintro e w2 ⟨rfl, hb2⟩
    have HB2 := Lib.hid (bel_call HB1.out hb2)
    replace HSA := Lib.hid (HSA.out.belowK d.ks hb2)
    replace HXc := Lib.hid (HXc.out.below hb2)
    clear hb2
    try dsimp only
    go_wp2_with fail
    with_reducible refine (emp_c a _).mono ?_
    rintro e w3 ⟨rfl, hb3⟩
    have HB3 := Lib.hid (bel_call HB2.out hb3)
    replace HSA := Lib.hid (HSA.out.belowK d.ks hb3)
    replace HXc := Lib.hid (HXc.out.below hb3)
    clear hb3
    try dsimp only
    go_wp2_with fail
    with_reducible refine (keys_c d HSA.out.d HSA.out.f K hKz).mono ?_
    rintro e w4 ⟨⟨l, hl, v, zs, h1, h2, rfl⟩, hb4⟩
    have HB4 := Lib.hid (bel_call HB3.out hb4)
    replace HSA := Lib.hid (HSA.out.belowK d.ks hb4)
    replace HXc := Lib.hid (HXc.out.below hb4)
    clear hb4
    have HL := Lib.hid hl
    have H1 := Lib.hid h1
    have H2 := Lib.hid (own_low h2 HB3.out.size)
    clear hl h1 h2
    try dsimp only
    go_wp2
    go_ret
    exact ⟨⟨l, by unfold PL; rw [if_neg (show ¬ ((120 : Int) = 100) by decide)]; exact HL.out, v, zs, H1.out, H2.out, rfl⟩, HB4.out⟩
  by_cases h98 : kd = 98
  · subst h98
    have HW : Hid (∀ w, Calls Try.prog 30 #[.int .u8 98] w fun e w' => e = .returned (.agg #[.func (.func 43) #[] #[], .func (.func 39) #[] #[]]) ∧ Below w.heap.size w w') := Lib.hid fun w => by
      have h := wayof_c 98 w
      unfold wayV at h
      simp only [Int.reduceEq, if_true, if_false] at h
      exact h
    go_enter Try.func14, Try.ntmps14
    go_wp2_with fail
    have hbS : Below w.heap.size w (w.alloc (.cells #[.int .u8 98, .int .i64 bk, .string Y, .string Z] 24)) := (Below.refl w.heap.size w).alloc (Nat.le_refl _) _
    have hxS := b4_new w (.int .u8 98) (.int .i64 bk) (.string Y) (.string Z) 24
    generalize w.alloc (.cells #[.int .u8 98, .int .i64 bk, .string Y, .string Z] 24) = wSc at hbS hxS ⊢
    have HB1 := Lib.hid hbS
    replace HSA := Lib.hid (HSA.out.belowK d.ks hbS)
    have HXc := Lib.hid hxS
    clear hbS hxS
    obtain ⟨nc, dc0, dc1, dc2, dc3⟩ := HXc.out
    go_wp2_with fail
    clear nc dc0 dc1 dc2 dc3
    with_reducible refine (HW.out _).mono ?_
    rintro e w2 ⟨rfl, hb2⟩
    have HB2 := Lib.hid (bel_call HB1.out hb2)
    replace HSA := Lib.hid (HSA.out.belowK d.ks hb2)
    replace HXc := Lib.hid (HXc.out.below hb2)
    clear hb2
    try dsimp only
    go_wp2_with fail
    with_reducible refine (emp_c a _).mono ?_
    rintro e w3 ⟨rfl, hb3⟩
    have HB3 := Lib.hid (bel_call HB2.out hb3)
    replace HSA := Lib.hid (HSA.out.belowK d.ks hb3)
    replace HXc := Lib.hid (HXc.out.below hb3)
    clear hb3
    try dsimp only
    go_wp2_with fail
    with_reducible refine (keys_c d HSA.out.d HSA.out.f K hKz).mono ?_
    rintro e w4 ⟨⟨l, hl, v, zs, h1, h2, rfl⟩, hb4⟩
    have HB4 := Lib.hid (bel_call HB3.out hb4)
    replace HSA := Lib.hid (HSA.out.belowK d.ks hb4)
    replace HXc := Lib.hid (HXc.out.below hb4)
    clear hb4
    have HL := Lib.hid hl
    have H1 := Lib.hid h1
    have H2 := Lib.hid (own_low h2 HB3.out.size)
    clear hl h1 h2
    try dsimp only
    go_wp2
    go_ret
    exact ⟨⟨l, by unfold PL; rw [if_neg (show ¬ ((98 : Int) = 100) by decide)]; exact HL.out, v, zs, H1.out, H2.out, rfl⟩, HB4.out⟩
  have HW : Hid (∀ w, Calls Try.prog 30 #[.int .u8 kd] w fun e w' => e = .returned (.agg #[.func (.func 44) #[] #[], .func (.func 39) #[] #[]]) ∧ Below w.heap.size w w') := Lib.hid fun w => by
    have h := wayof_c kd w
    unfold wayV at h
    rw [if_neg h115, if_neg h100, if_neg h120, if_neg h98] at h
    exact h
  go_enter Try.func14, Try.ntmps14
  go_wp2_with fail
  have hbS : Below w.heap.size w (w.alloc (.cells #[.int .u8 kd, .int .i64 bk, .string Y, .string Z] 24)) := (Below.refl w.heap.size w).alloc (Nat.le_refl _) _
  have hxS := b4_new w (.int .u8 kd) (.int .i64 bk) (.string Y) (.string Z) 24
  generalize w.alloc (.cells #[.int .u8 kd, .int .i64 bk, .string Y, .string Z] 24) = wSc at hbS hxS ⊢
  have HB1 := Lib.hid hbS
  replace HSA := Lib.hid (HSA.out.belowK d.ks hbS)
  have HXc := Lib.hid hxS
  clear hbS hxS
  obtain ⟨nc, dc0, dc1, dc2, dc3⟩ := HXc.out
  go_wp2_with fail
  clear nc dc0 dc1 dc2 dc3
  with_reducible refine (HW.out _).mono ?_
  rintro e w2 ⟨rfl, hb2⟩
  have HB2 := Lib.hid (bel_call HB1.out hb2)
  replace HSA := Lib.hid (HSA.out.belowK d.ks hb2)
  replace HXc := Lib.hid (HXc.out.below hb2)
  clear hb2
  try dsimp only
  go_wp2_with fail
  with_reducible refine (emp_c a _).mono ?_
  rintro e w3 ⟨rfl, hb3⟩
  have HB3 := Lib.hid (bel_call HB2.out hb3)
  replace HSA := Lib.hid (HSA.out.belowK d.ks hb3)
  replace HXc := Lib.hid (HXc.out.below hb3)
  clear hb3
  try dsimp only
  go_wp2_with fail
  with_reducible refine (keys_c d HSA.out.d HSA.out.f K hKz).mono ?_
  rintro e w4 ⟨⟨l, hl, v, zs, h1, h2, rfl⟩, hb4⟩
  have HB4 := Lib.hid (bel_call HB3.out hb4)
  replace HSA := Lib.hid (HSA.out.belowK d.ks hb4)
  replace HXc := Lib.hid (HXc.out.below hb4)
  clear hb4
  have HL := Lib.hid hl
  have H1 := Lib.hid h1
  have H2 := Lib.hid (own_low h2 HB3.out.size)
  clear hl h1 h2
  try dsimp only
  go_wp2
  go_ret
  exact ⟨⟨l, by unfold PL; rw [if_neg h100]; exact HL.out, v, zs, H1.out, H2.out, rfl⟩, HB4.out⟩
set_option maxHeartbeats 4000000 in
set_option maxRecDepth 1000000 in
theorem plist_n (d : StoreOK D) (K : ByteArray) (kd bk : Int) (Y Z : ByteArray) (w : World) (hKz : K.size ≤ 140737488351232) (hc : Ch.Ok ⟨kd, bk, Y, Z⟩) : Calls Try.prog 14 #[.pointer none, .string K, .agg #[.int .u8 kd, .int .i64 bk, .string Y, .string Z]] w fun e w' => Row w w' [] e ∧ Below w.heap.size w w' := by
  have HCH := Lib.hid hc
  obtain ⟨hkd, hbk, hy1, hy2⟩ := hc
  simp only at hkd hbk hy1 hy2
  have hfw := fun F G w => (field_way F G w).2
  by_cases h115 : kd = 115
  · subst h115
    have HW : Hid (∀ w, Calls Try.prog 30 #[.int .u8 115] w fun e w' => e = .returned (.agg #[.func (.func 38) #[] #[], .func (.func 39) #[] #[]]) ∧ Below w.heap.size w w') := Lib.hid fun w => by
      have h := wayof_c 115 w
      unfold wayV at h
      simp only [Int.reduceEq, if_true, if_false] at h
      exact h
    go_enter Try.func14, Try.ntmps14
    go_wp2_with fail
    have hbS : Below w.heap.size w (w.alloc (.cells #[.int .u8 115, .int .i64 bk, .string Y, .string Z] 24)) := (Below.refl w.heap.size w).alloc (Nat.le_refl _) _
    have hxS := b4_new w (.int .u8 115) (.int .i64 bk) (.string Y) (.string Z) 24
    generalize w.alloc (.cells #[.int .u8 115, .int .i64 bk, .string Y, .string Z] 24) = wSc at hbS hxS ⊢
    have HB1 := Lib.hid hbS
    have HXc := Lib.hid hxS
    clear hbS hxS
    obtain ⟨nc, dc0, dc1, dc2, dc3⟩ := HXc.out
    go_wp2_with fail
    clear nc dc0 dc1 dc2 dc3
    with_reducible refine (HW.out _).mono ?_
    rintro e w2 ⟨rfl, hb2⟩
    have HB2 := Lib.hid (bel_call HB1.out hb2)
    replace HXc := Lib.hid (HXc.out.below hb2)
    clear hb2
    try dsimp only
    go_wp2_with fail
    with_reducible refine (emp_n d (Below.refl _ _)).mono ?_
    rintro e w3 ⟨a1, X1, rfl, hs1, hb3⟩
    have HB3 := Lib.hid (bel_call HB2.out hb3)
    replace HXc := Lib.hid (HXc.out.below hb3)
    have HSA := Lib.hid hs1
    clear hs1 hb3
    try dsimp only
    go_wp2_with fail
    with_reducible refine (keys_c d HSA.out.d HSA.out.f K hKz).mono ?_
    rintro e w4 ⟨⟨l, hl, v, zs, h1, h2, rfl⟩, hb4⟩
    have HB4 := Lib.hid (bel_call HB3.out hb4)
    replace HSA := Lib.hid (HSA.out.belowK d.ks hb4)
    replace HXc := Lib.hid (HXc.out.below hb4)
    clear hb4
    have HL := Lib.hid hl
    have H1 := Lib.hid h1
    have H2 := Lib.hid (own_low h2 HB3.out.size)
    clear hl h1 h2
    try dsimp only
    go_wp2
    go_ret
    exact ⟨⟨v, zs, H1.out.trans (pl_s0 (c := ⟨104, 0, Y, Z⟩) (by unfold PL; rw [if_neg (show ¬ ((104 : Int) = 100) by decide)]; exact HL.out)), H2.out, rfl⟩, HB4.out⟩
  by_cases h100 : kd = 100
  · subst h100
    have HW : Hid (∀ w, Calls Try.prog 30 #[.int .u8 100] w fun e w' => e = .returned (.agg #[.func (.func 40) #[] #[], .func (.func 41) #[] #[]]) ∧ Below w.heap.size w w') := Lib.hid fun w => by
      have h := wayof_c 100 w
      unfold wayV at h
      simp only [Int.reduceEq, if_true, if_false] at h
      exact h
    go_enter Try.func14, Try.ntmps14
    go_wp2_with fail
    have hbS : Below w.heap.size w (w.alloc (.cells #[.int .u8 100, .int .i64 bk, .string Y, .string Z] 24)) := (Below.refl w.heap.size w).alloc (Nat.le_refl _) _
    have hxS := b4_new w (.int .u8 100) (.int .i64 bk) (.string Y) (.string Z) 24
    generalize w.alloc (.cells #[.int .u8 100, .int .i64 bk, .string Y, .string Z] 24) = wSc at hbS hxS ⊢
    have HB1 := Lib.hid hbS
    have HXc := Lib.hid hxS
    clear hbS hxS
    obtain ⟨nc, dc0, dc1, dc2, dc3⟩ := HXc.out
    go_wp2_with fail
    clear nc dc0 dc1 dc2 dc3
    with_reducible refine (HW.out _).mono ?_
    rintro e w2 ⟨rfl, hb2⟩
    have HB2 := Lib.hid (bel_call HB1.out hb2)
    replace HXc := Lib.hid (HXc.out.below hb2)
    clear hb2
    try dsimp only
    go_wp2_with fail
    with_reducible refine (emp_n d (Below.refl _ _)).mono ?_
    rintro e w3 ⟨a1, X1, rfl, hs1, hb3⟩
    have HB3 := Lib.hid (bel_call HB2.out hb3)
    replace HXc := Lib.hid (HXc.out.below hb3)
    have HSA := Lib.hid hs1
    clear hs1 hb3
    try dsimp only
    go_wp2_with fail
    with_reducible refine (nokeys_c (some a1) K _).mono ?_
    rintro e w4 ⟨⟨v, zs, h1, h2, rfl⟩, hb4⟩
    have HB4 := Lib.hid (bel_call HB3.out hb4)
    replace HSA := Lib.hid (HSA.out.belowK d.ks hb4)
    replace HXc := Lib.hid (HXc.out.below hb4)
    clear hb4
    have H1 := Lib.hid h1
    have H2 := Lib.hid (own_low h2 HB3.out.size)
    clear h1 h2
    try dsimp only
    go_wp2
    go_ret
    exact ⟨⟨v, zs, H1.out, H2.out, rfl⟩, HB4.out⟩
  by_cases h120 : kd = 120
  · subst h120
    have HW : Hid (∀ w, Calls Try.prog 30 #[.int .u8 120] w fun e w' => e = .returned (.agg #[.func (.func 42) #[] #[], .func (.func 39) #[] #[]]) ∧ Below w.heap.size w w') := Lib.hid fun w => by
      have h := wayof_c 120 w
      unfold wayV at h
      simp only [Int.reduceEq, if_true, if_false] at h
      exact h
    go_enter Try.func14, Try.ntmps14
    go_wp2_with fail
    have hbS : Below w.heap.size w (w.alloc (.cells #[.int .u8 120, .int .i64 bk, .string Y, .string Z] 24)) := (Below.refl w.heap.size w).alloc (Nat.le_refl _) _
    have hxS := b4_new w (.int .u8 120) (.int .i64 bk) (.string Y) (.string Z) 24
    generalize w.alloc (.cells #[.int .u8 120, .int .i64 bk, .string Y, .string Z] 24) = wSc at hbS hxS ⊢
    have HB1 := Lib.hid hbS
    have HXc := Lib.hid hxS
    clear hbS hxS
    obtain ⟨nc, dc0, dc1, dc2, dc3⟩ := HXc.out
    go_wp2_with fail
    clear nc dc0 dc1 dc2 dc3
    with_reducible refine (HW.out _).mono ?_
    rintro e w2 ⟨rfl, hb2⟩
    have HB2 := Lib.hid (bel_call HB1.out hb2)
    replace HXc := Lib.hid (HXc.out.below hb2)
    clear hb2
    try dsimp only
    go_wp2_with fail
    with_reducible refine (emp_n d (Below.refl _ _)).mono ?_
    rintro e w3 ⟨a1, X1, rfl, hs1, hb3⟩
    have HB3 := Lib.hid (bel_call HB2.out hb3)
    replace HXc := Lib.hid (HXc.out.below hb3)
    have HSA := Lib.hid hs1
    clear hs1 hb3
    try dsimp only
    go_wp2_with fail
    with_reducible refine (keys_c d HSA.out.d HSA.out.f K hKz).mono ?_
    rintro e w4 ⟨⟨l, hl, v, zs, h1, h2, rfl⟩, hb4⟩
    have HB4 := Lib.hid (bel_call HB3.out hb4)
    replace HSA := Lib.hid (HSA.out.belowK d.ks hb4)
    replace HXc := Lib.hid (HXc.out.below hb4)
    clear hb4
    have HL := Lib.hid hl
    have H1 := Lib.hid h1
    have H2 := Lib.hid (own_low h2 HB3.out.size)
    clear hl h1 h2
    try dsimp only
    go_wp2
    go_ret
    exact ⟨⟨v, zs, H1.out.trans (pl_s0 (c := ⟨104, 0, Y, Z⟩) (by unfold PL; rw [if_neg (show ¬ ((104 : Int) = 100) by decide)]; exact HL.out)), H2.out, rfl⟩, HB4.out⟩
  by_cases h98 : kd = 98
  · subst h98
    have HW : Hid (∀ w, Calls Try.prog 30 #[.int .u8 98] w fun e w' => e = .returned (.agg #[.func (.func 43) #[] #[], .func (.func 39) #[] #[]]) ∧ Below w.heap.size w w') := Lib.hid fun w => by
      have h := wayof_c 98 w
      unfold wayV at h
      simp only [Int.reduceEq, if_true, if_false] at h
      exact h
    go_enter Try.func14, Try.ntmps14
    go_wp2_with fail
    have hbS : Below w.heap.size w (w.alloc (.cells #[.int .u8 98, .int .i64 bk, .string Y, .string Z] 24)) := (Below.refl w.heap.size w).alloc (Nat.le_refl _) _
    have hxS := b4_new w (.int .u8 98) (.int .i64 bk) (.string Y) (.string Z) 24
    generalize w.alloc (.cells #[.int .u8 98, .int .i64 bk, .string Y, .string Z] 24) = wSc at hbS hxS ⊢
    have HB1 := Lib.hid hbS
    have HXc := Lib.hid hxS
    clear hbS hxS
    obtain ⟨nc, dc0, dc1, dc2, dc3⟩ := HXc.out
    go_wp2_with fail
    clear nc dc0 dc1 dc2 dc3
    with_reducible refine (HW.out _).mono ?_
    rintro e w2 ⟨rfl, hb2⟩
    have HB2 := Lib.hid (bel_call HB1.out hb2)
    replace HXc := Lib.hid (HXc.out.below hb2)
    clear hb2
    try dsimp only
    go_wp2_with fail
    with_reducible refine (emp_n d (Below.refl _ _)).mono ?_
    rintro e w3 ⟨a1, X1, rfl, hs1, hb3⟩
    have HB3 := Lib.hid (bel_call HB2.out hb3)
    replace HXc := Lib.hid (HXc.out.below hb3)
    have HSA := Lib.hid hs1
    clear hs1 hb3
    try dsimp only
    go_wp2_with fail
    with_reducible refine (keys_c d HSA.out.d HSA.out.f K hKz).mono ?_
    rintro e w4 ⟨⟨l, hl, v, zs, h1, h2, rfl⟩, hb4⟩
    have HB4 := Lib.hid (bel_call HB3.out hb4)
    replace HSA := Lib.hid (HSA.out.belowK d.ks hb4)
    replace HXc := Lib.hid (HXc.out.below hb4)
    clear hb4
    have HL := Lib.hid hl
    have H1 := Lib.hid h1
    have H2 := Lib.hid (own_low h2 HB3.out.size)
    clear hl h1 h2
    try dsimp only
    go_wp2
    go_ret
    exact ⟨⟨v, zs, H1.out.trans (pl_s0 (c := ⟨104, 0, Y, Z⟩) (by unfold PL; rw [if_neg (show ¬ ((104 : Int) = 100) by decide)]; exact HL.out)), H2.out, rfl⟩, HB4.out⟩
  have HW : Hid (∀ w, Calls Try.prog 30 #[.int .u8 kd] w fun e w' => e = .returned (.agg #[.func (.func 44) #[] #[], .func (.func 39) #[] #[]]) ∧ Below w.heap.size w w') := Lib.hid fun w => by
    have h := wayof_c kd w
    unfold wayV at h
    rw [if_neg h115, if_neg h100, if_neg h120, if_neg h98] at h
    exact h
  go_enter Try.func14, Try.ntmps14
  go_wp2_with fail
  have hbS : Below w.heap.size w (w.alloc (.cells #[.int .u8 kd, .int .i64 bk, .string Y, .string Z] 24)) := (Below.refl w.heap.size w).alloc (Nat.le_refl _) _
  have hxS := b4_new w (.int .u8 kd) (.int .i64 bk) (.string Y) (.string Z) 24
  generalize w.alloc (.cells #[.int .u8 kd, .int .i64 bk, .string Y, .string Z] 24) = wSc at hbS hxS ⊢
  have HB1 := Lib.hid hbS
  have HXc := Lib.hid hxS
  clear hbS hxS
  obtain ⟨nc, dc0, dc1, dc2, dc3⟩ := HXc.out
  go_wp2_with fail
  clear nc dc0 dc1 dc2 dc3
  with_reducible refine (HW.out _).mono ?_
  rintro e w2 ⟨rfl, hb2⟩
  have HB2 := Lib.hid (bel_call HB1.out hb2)
  replace HXc := Lib.hid (HXc.out.below hb2)
  clear hb2
  try dsimp only
  go_wp2_with fail
  with_reducible refine (emp_n d (Below.refl _ _)).mono ?_
  rintro e w3 ⟨a1, X1, rfl, hs1, hb3⟩
  have HB3 := Lib.hid (bel_call HB2.out hb3)
  replace HXc := Lib.hid (HXc.out.below hb3)
  have HSA := Lib.hid hs1
  clear hs1 hb3
  try dsimp only
  go_wp2_with fail
  with_reducible refine (keys_c d HSA.out.d HSA.out.f K hKz).mono ?_
  rintro e w4 ⟨⟨l, hl, v, zs, h1, h2, rfl⟩, hb4⟩
  have HB4 := Lib.hid (bel_call HB3.out hb4)
  replace HSA := Lib.hid (HSA.out.belowK d.ks hb4)
  replace HXc := Lib.hid (HXc.out.below hb4)
  clear hb4
  have HL := Lib.hid hl
  have H1 := Lib.hid h1
  have H2 := Lib.hid (own_low h2 HB3.out.size)
  clear hl h1 h2
  try dsimp only
  go_wp2
  go_ret
  exact ⟨⟨v, zs, H1.out.trans (pl_s0 (c := ⟨104, 0, Y, Z⟩) (by unfold PL; rw [if_neg (show ¬ ((104 : Int) = 100) by decide)]; exact HL.out)), H2.out, rfl⟩, HB4.out⟩
set_option maxHeartbeats 4000000 in
set_option maxRecDepth 1000000 in
theorem plies_c (d : StoreOK D) (a : Addr) (X : Nat → Prop) (s : Stt) (K : ByteArray) (kd bk : Int) (Y Z : ByteArray) (w : World) (h : D w a X s) (hf : Fine s) (hK : K.size ≤ 140737488351232) (hc : Ch.Ok ⟨kd, bk, Y, Z⟩) : Calls Try.prog 17 #[.pointer (some a), .string K, .agg #[.int .u8 kd, .int .i64 bk, .string Y, .string Z]] w fun e w' => e = .returned (.bool (pickLie s K.data.toList ⟨kd, bk, Y, Z⟩)) ∧ Below w.heap.size w w' := by
  obtain ⟨T1, hT1⟩ := text_of (pickG s K.data.toList ⟨kd, bk, Y, Z⟩).1
  obtain ⟨T2, hT2⟩ := text_of (getS s K.data.toList).1
  have HG1 : Hid (∀ w2, Below w.heap.size w w2 → Calls Try.prog 12 #[.pointer (some a), .string K, .agg #[.int .u8 kd, .int .i64 bk, .string Y, .string Z]] w2 fun e w' => e = .returned (.tuple #[.string T1, .int .i64 (pickG s K.data.toList ⟨kd, bk, Y, Z⟩).2]) ∧ Below w2.heap.size w2 w') := Lib.hid fun w2 hb => (pget_c d (d.keep h hb.size fun b hx => hb.block b (d.old h b hx)) hf K kd bk Y Z hK hc).mono fun e w' hh => ⟨sr_val hh.1 hT1, hh.2⟩
  have HG2 : Hid (∀ w2, Below w.heap.size w w2 → Calls Try.prog 12 #[.pointer (some a), .string K, .agg #[.int .u8 104, .int .i64 0, .string ⟨#[]⟩, .string ⟨#[]⟩]] w2 fun e w' => e = .returned (.tuple #[.string T2, .int .i64 (getS s K.data.toList).2]) ∧ Below w2.heap.size w2 w') := Lib.hid fun w2 hb => (pget_c d (d.keep h hb.size fun b hx => hb.block b (d.old h b hx)) hf K 104 0 ⟨#[]⟩ ⟨#[]⟩ hK (ch_ok (by decide) (by decide) (by decide) (by decide))).mono fun e w' hh => by
    obtain ⟨h1, h2⟩ := hh
    rw [pick_honest] at h1
    exact ⟨sr_val h1 hT2, h2⟩
  have HPL : Hid (pickLie s K.data.toList ⟨kd, bk, Y, Z⟩ = !(decide (T1.data.toList = T2.data.toList) && decide ((pickG s K.data.toList ⟨kd, bk, Y, Z⟩).2 = (getS s K.data.toList).2))) := Lib.hid (lie_is hT1 hT2)
  rw [HPL.out]
  generalize (pickG s K.data.toList ⟨kd, bk, Y, Z⟩).2 = e1 at *
  generalize (getS s K.data.toList).2 = e2 at *
  clear HPL hT1 hT2 h hf
  have HCH := Lib.hid hc
  obtain ⟨hkd, hbk, hy1, hy2⟩ := hc
  simp only at hkd hbk hy1 hy2
  go_enter Try.func17, Try.ntmps17
  go_wp2_with fail
  have hbS : Below w.heap.size w (w.alloc (.cells #[.int .u8 kd, .int .i64 bk, .string Y, .string Z] 24)) := (Below.refl w.heap.size w).alloc (Nat.le_refl _) _
  have hxS := b4_new w (.int .u8 kd) (.int .i64 bk) (.string Y) (.string Z) 24
  generalize w.alloc (.cells #[.int .u8 kd, .int .i64 bk, .string Y, .string Z] 24) = wSc at hbS hxS ⊢
  have HB1 := Lib.hid hbS
  have HXc := Lib.hid hxS
  clear hbS hxS
  obtain ⟨nc, dc0, dc1, dc2, dc3⟩ := HXc.out
  go_wp2_with fail
  clear nc dc0 dc1 dc2 dc3
  with_reducible refine (HG1.out _ HB1.out).mono ?_
  rintro e w2 ⟨rfl, hb2⟩
  have HB2 := Lib.hid (bel_call HB1.out hb2)
  replace HXc := Lib.hid (HXc.out.below hb2)
  clear hb2
  try dsimp only
  go_wp2_with fail
  with_reducible refine (HG2.out _ HB2.out).mono ?_
  rintro e w3 ⟨rfl, hb3⟩
  have HB3 := Lib.hid (bel_call HB2.out hb3)
  replace HXc := Lib.hid (HXc.out.below hb3)
  clear hb3
  try dsimp only
  by_cases ht : T1.data.toList = T2.data.toList
  · have hb := eq_bool ht
    have HT := Lib.hid (decide_eq_true ht)
    by_cases he : e1 = e2
    · have heb : (e1 != e2) = false := by rw [he]; simp
      have HE := Lib.hid (decide_eq_true he)
      clear ht he
      go_wp2_with fail
      go_ret
      refine ⟨?_, HB3.out⟩
      rw [HT.out, HE.out]; rfl
    · have heb : (e1 != e2) = true := by simpa using he
      have HE := Lib.hid (decide_eq_false he)
      clear ht he
      go_wp2_with fail
      go_ret
      refine ⟨?_, HB3.out⟩
      rw [HT.out, HE.out]; rfl
  · have hb := ne_bool ht
    have HT := Lib.hid (decide_eq_false ht)
    clear ht
    go_wp2_with fail
    go_ret
    refine ⟨?_, HB3.out⟩
    rw [HT.out]; rfl
set_option maxHeartbeats 4000000 in
set_option maxRecDepth 1000000 in
theorem plies_n (d : StoreOK D) (K : ByteArray) (kd bk : Int) (Y Z : ByteArray) (w : World) (hK : K.size ≤ 140737488351232) (hc : Ch.Ok ⟨kd, bk, Y, Z⟩) : Calls Try.prog 17 #[.pointer none, .string K, .agg #[.int .u8 kd, .int .i64 bk, .string Y, .string Z]] w fun e w' => e = .returned (.bool (pickLie s0 K.data.toList ⟨kd, bk, Y, Z⟩)) ∧ Below w.heap.size w w' := by
  obtain ⟨T1, hT1⟩ := text_of (pickG s0 K.data.toList ⟨kd, bk, Y, Z⟩).1
  obtain ⟨T2, hT2⟩ := text_of (getS s0 K.data.toList).1
  have HG1 : Hid (∀ w2, Below w.heap.size w w2 → Calls Try.prog 12 #[.pointer none, .string K, .agg #[.int .u8 kd, .int .i64 bk, .string Y, .string Z]] w2 fun e w' => e = .returned (.tuple #[.string T1, .int .i64 (pickG s0 K.data.toList ⟨kd, bk, Y, Z⟩).2]) ∧ Below w2.heap.size w2 w') := Lib.hid fun w2 hb => (pget_n d K kd bk Y Z w2 hK hc).mono fun e w' hh => ⟨sr_val hh.1 hT1, hh.2⟩
  have HG2 : Hid (∀ w2, Below w.heap.size w w2 → Calls Try.prog 12 #[.pointer none, .string K, .agg #[.int .u8 104, .int .i64 0, .string ⟨#[]⟩, .string ⟨#[]⟩]] w2 fun e w' => e = .returned (.tuple #[.string T2, .int .i64 (getS s0 K.data.toList).2]) ∧ Below w2.heap.size w2 w') := Lib.hid fun w2 hb => (pget_n d K 104 0 ⟨#[]⟩ ⟨#[]⟩ w2 hK (ch_ok (by decide) (by decide) (by decide) (by decide))).mono fun e w' hh => by
    obtain ⟨h1, h2⟩ := hh
    rw [pick_honest] at h1
    exact ⟨sr_val h1 hT2, h2⟩
  have HPL : Hid (pickLie s0 K.data.toList ⟨kd, bk, Y, Z⟩ = !(decide (T1.data.toList = T2.data.toList) && decide ((pickG s0 K.data.toList ⟨kd, bk, Y, Z⟩).2 = (getS s0 K.data.toList).2))) := Lib.hid (lie_is hT1 hT2)
  rw [HPL.out]
  generalize (pickG s0 K.data.toList ⟨kd, bk, Y, Z⟩).2 = e1 at *
  generalize (getS s0 K.data.toList).2 = e2 at *
  clear HPL hT1 hT2
  have HCH := Lib.hid hc
  obtain ⟨hkd, hbk, hy1, hy2⟩ := hc
  simp only at hkd hbk hy1 hy2
  go_enter Try.func17, Try.ntmps17
  go_wp2_with fail
  have hbS : Below w.heap.size w (w.alloc (.cells #[.int .u8 kd, .int .i64 bk, .string Y, .string Z] 24)) := (Below.refl w.heap.size w).alloc (Nat.le_refl _) _
  have hxS := b4_new w (.int .u8 kd) (.int .i64 bk) (.string Y) (.string Z) 24
  generalize w.alloc (.cells #[.int .u8 kd, .int .i64 bk, .string Y, .string Z] 24) = wSc at hbS hxS ⊢
  have HB1 := Lib.hid hbS
  have HXc := Lib.hid hxS
  clear hbS hxS
  obtain ⟨nc, dc0, dc1, dc2, dc3⟩ := HXc.out
  go_wp2_with fail
  clear nc dc0 dc1 dc2 dc3
  with_reducible refine (HG1.out _ HB1.out).mono ?_
  rintro e w2 ⟨rfl, hb2⟩
  have HB2 := Lib.hid (bel_call HB1.out hb2)
  replace HXc := Lib.hid (HXc.out.below hb2)
  clear hb2
  try dsimp only
  go_wp2_with fail
  with_reducible refine (HG2.out _ HB2.out).mono ?_
  rintro e w3 ⟨rfl, hb3⟩
  have HB3 := Lib.hid (bel_call HB2.out hb3)
  replace HXc := Lib.hid (HXc.out.below hb3)
  clear hb3
  try dsimp only
  by_cases ht : T1.data.toList = T2.data.toList
  · have hb := eq_bool ht
    have HT := Lib.hid (decide_eq_true ht)
    by_cases he : e1 = e2
    · have heb : (e1 != e2) = false := by rw [he]; simp
      have HE := Lib.hid (decide_eq_true he)
      clear ht he
      go_wp2_with fail
      go_ret
      refine ⟨?_, HB3.out⟩
      rw [HT.out, HE.out]; rfl
    · have heb : (e1 != e2) = true := by simpa using he
      have HE := Lib.hid (decide_eq_false he)
      clear ht he
      go_wp2_with fail
      go_ret
      refine ⟨?_, HB3.out⟩
      rw [HT.out, HE.out]; rfl
  · have hb := ne_bool ht
    have HT := Lib.hid (decide_eq_false ht)
    clear ht
    go_wp2_with fail
    go_ret
    refine ⟨?_, HB3.out⟩
    rw [HT.out]; rfl
theorem pickok (d : StoreOK D) : PickOK D where
  get a X s K c w h hf hK hc := pget_c d h hf K c.kind c.back c.key c.bytes hK hc
  list a X s K c w h hf hK hc := plist_c d h hf K c.kind c.back c.key c.bytes hK hc
  lies a X s K c w h hf hK hc := plies_c d a X s K c.kind c.back c.key c.bytes w h hf hK hc
  getn K c w hK hc := pget_n d K c.kind c.back c.key c.bytes w hK hc
  listn K c w hK hc := plist_n d K c.kind c.back c.key c.bytes w hK hc
  liesn K c w hK hc := plies_n d K c.kind c.back c.key c.bytes w hK hc
end
end Go.Proofs.Ytamkepfhlfeiiaa.Sto
