/-
  CONTRACT of the document's pick: Get (letterlockref13) at a store that is nil. By an AI agent; no person has read it.
-/
import Derived.Test.YtamkepfhlfeiiaaKTelP
namespace Go.Proofs.Ytamkepfhlfeiiaa.Sto
open Go Go.RowKit Wire

set_option linter.unusedSimpArgs false
set_option linter.unusedVariables false
set_option maxHeartbeats 8000000 in
set_option maxRecDepth 1000000 in
theorem rgetn_c (K : ByteArray) (kd bk : Int) (Y Z : ByteArray) (w : World) (hK : K.size ≤ 140737488351232) (hc : Ch.Ok ⟨kd, bk, Y, Z⟩) : Calls Try.prog 13 #[.pointer none, .string K, .agg #[.int .u8 kd, .int .i64 bk, .string Y, .string Z]] w fun e w' => Sr (pickG s0 K.data.toList ⟨kd, bk, Y, Z⟩) e ∧ Below w.heap.size w w' := by
  obtain ⟨hkd, hbk, hy1, hy2⟩ := hc
  simp only at hkd hbk hy1 hy2
  by_cases h1 : kd = 115
  · subst h1
    go_enter Try.func13, Try.ntmps13
    go_wp2_with fail
    have hbS : Below w.heap.size w (w.alloc (.cells #[.int .u8 115, .int .i64 bk, .string Y, .string Z] 31)) := (Below.refl w.heap.size w).alloc (Nat.le_refl _) _
    have hxS := b4_new w (.int .u8 115) (.int .i64 bk) (.string Y) (.string Z) 31
    generalize w.alloc (.cells #[.int .u8 115, .int .i64 bk, .string Y, .string Z] 31) = wSc at hbS hxS ⊢
    have HB1 := Lib.hid hbS
    have HXc := Lib.hid hxS
    clear hbS hxS
    obtain ⟨nc, dc0, dc1, dc2, dc3⟩ := HXc.out
    go_wp2_with fail
    clear nc dc0 dc1 dc2 dc3
    with_reducible refine (sr_new HB1.out).mono ?_
    rintro e w2 ⟨aA, XA, rfl, hsA, hxA, hb2⟩
    have HB2 := Lib.hid (bel_call HB1.out hb2)
    replace HXc := Lib.hid (HXc.out.below hb2)
    have HSA := Lib.hid hsA
    clear hsA hb2 hxA
    try dsimp only
    obtain ⟨nc, dc0, dc1, dc2, dc3⟩ := HXc.out
    go_wp2_with fail
    clear nc dc0 dc1 dc2 dc3
    with_reducible refine (sr_vers HSA.out (k := K.data.toList) rfl).mono ?_
    rintro e w3 ⟨hx, hb3⟩
    have HB3 := Lib.hid (bel_call HB2.out hb3)
    replace HSA := Lib.hid (HSA.out.belowK drk hb3)
    replace HXc := Lib.hid (HXc.out.below hb3)
    clear hb3
    obtain ⟨AV, cV, YV, hq, hc, hr, ho, rfl⟩ := hx
    have HQV := Lib.hid hq
    have HCV := Lib.hid hc
    have HRV : Hid (RowO _ _ _ AV YV) := Lib.hid ⟨hr, ho⟩
    clear hq hc hr ho
    try dsimp only
    have hmany := HSA.out.f.many K.data.toList
    have hfew := HSA.out.f.few
    have hlv : YV.length ≤ 2000 := by rw [← bl_len, HQV.out]; omega
    clear hmany hfew
    by_cases hn : bk < 0
    · have HPI := Lib.hid (@pick_neg s0 K.data.toList bk Y Z hn)
      obtain ⟨nc, dc0, dc1, dc2, dc3⟩ := HXc.out
      go_wp2_with fail
      go_ret2
      refine ⟨?_, HB3.out⟩
      rw [HPI.out]
      exact ⟨⟨#[]⟩, rfl, rfl⟩
    by_cases hm : (YV.length : Int) ≤ bk
    · have HPI := Lib.hid (pick_far (Y := Y) (Z := Z) HQV.out hm)
      obtain ⟨nc, dc0, dc1, dc2, dc3⟩ := HXc.out
      go_wp2_with fail
      go_ret2
      refine ⟨?_, HB3.out⟩
      rw [HPI.out]
      exact ⟨⟨#[]⟩, rfl, rfl⟩
    · obtain ⟨b, rfl⟩ : ∃ b : Nat, bk = (b : Int) := ⟨bk.toNat, by omega⟩
      obtain ⟨m, hm2⟩ : ∃ m, YV.length = m + 1 + b := ⟨YV.length - 1 - b, by omega⟩
      have HPI := Lib.hid (pick_in (Y := Y) (Z := Z) HQV.out rfl hm2)
      obtain ⟨bv, ov, hAV, hbv, hcv⟩ := HRV.out.r m (by omega)
      subst hAV
      generalize YV.getD m ByteArray.empty = ym at hcv HPI
      have hidx : (YV.length : Int) - 1 - (b : Int) = (m : Int) := by omega
      have hb0 : (0 : Int) ≤ (b : Int) := by omega
      have hml : (m : Int) < (YV.length : Int) := by omega
      have hm0 : (0 : Int) ≤ (m : Int) := by omega
      clear HRV HQV
      generalize YV.length = n at *
      obtain ⟨nc, dc0, dc1, dc2, dc3⟩ := HXc.out
      go_wp2_with fail
      go_ret2
      refine ⟨?_, HB3.out⟩
      rw [HPI.out]
      exact ⟨ym, rfl, rfl⟩
  by_cases h2 : kd = 100
  · subst h2
    rw [pick_gone]
    go_enter Try.func13, Try.ntmps13
    go_wp2_with fail
    have hbS : Below w.heap.size w (w.alloc (.cells #[.int .u8 100, .int .i64 bk, .string Y, .string Z] 31)) := (Below.refl w.heap.size w).alloc (Nat.le_refl _) _
    have hxS := b4_new w (.int .u8 100) (.int .i64 bk) (.string Y) (.string Z) 31
    generalize w.alloc (.cells #[.int .u8 100, .int .i64 bk, .string Y, .string Z] 31) = wSc at hbS hxS ⊢
    have HB1 := Lib.hid hbS
    have HXc := Lib.hid hxS
    clear hbS hxS
    obtain ⟨nc, dc0, dc1, dc2, dc3⟩ := HXc.out
    go_wp2_with fail
    clear nc dc0 dc1 dc2 dc3
    with_reducible refine (sr_new HB1.out).mono ?_
    rintro e w2 ⟨aA, XA, rfl, hsA, hxA, hb2⟩
    have HB2 := Lib.hid (bel_call HB1.out hb2)
    replace HXc := Lib.hid (HXc.out.below hb2)
    have HSA := Lib.hid hsA
    clear hsA hb2 hxA
    try dsimp only
    obtain ⟨nc, dc0, dc1, dc2, dc3⟩ := HXc.out
    go_wp2_with fail
    go_ret2
    exact ⟨⟨⟨#[]⟩, rfl, rfl⟩, HB2.out⟩
  by_cases h3 : kd = 120
  · subst h3
    rw [pick_other]
    go_enter Try.func13, Try.ntmps13
    go_wp2_with fail
    have hbS : Below w.heap.size w (w.alloc (.cells #[.int .u8 120, .int .i64 bk, .string Y, .string Z] 31)) := (Below.refl w.heap.size w).alloc (Nat.le_refl _) _
    have hxS := b4_new w (.int .u8 120) (.int .i64 bk) (.string Y) (.string Z) 31
    generalize w.alloc (.cells #[.int .u8 120, .int .i64 bk, .string Y, .string Z] 31) = wSc at hbS hxS ⊢
    have HB1 := Lib.hid hbS
    have HXc := Lib.hid hxS
    clear hbS hxS
    obtain ⟨nc, dc0, dc1, dc2, dc3⟩ := HXc.out
    go_wp2_with fail
    clear nc dc0 dc1 dc2 dc3
    with_reducible refine (sr_new HB1.out).mono ?_
    rintro e w2 ⟨aA, XA, rfl, hsA, hxA, hb2⟩
    have HB2 := Lib.hid (bel_call HB1.out hb2)
    replace HXc := Lib.hid (HXc.out.below hb2)
    have HSA := Lib.hid hsA
    clear hsA hb2 hxA
    try dsimp only
    obtain ⟨nc, dc0, dc1, dc2, dc3⟩ := HXc.out
    go_wp2_with fail
    clear nc dc0 dc1 dc2 dc3
    with_reducible refine (sr_get HSA.out (k := Y.data.toList) rfl).mono ?_
    rintro e w3 ⟨⟨T, hT, rfl⟩, hb3⟩
    have HB3 := Lib.hid (bel_call HB2.out hb3)
    replace HSA := Lib.hid (HSA.out.belowK drk hb3)
    replace HXc := Lib.hid (HXc.out.below hb3)
    clear hb3
    try dsimp only
    go_wp2
    go_ret2
    exact ⟨⟨T, hT, rfl⟩, HB3.out⟩
  by_cases h4 : kd = 98
  · subst h4
    by_cases h4 : 40000 < Z.size
    · rw [pick_big h4]
      have h4i : (40000 : Int) < (Z.size : Int) := by omega
      go_enter Try.func13, Try.ntmps13
      go_wp2_with fail
      have hbS : Below w.heap.size w (w.alloc (.cells #[.int .u8 98, .int .i64 bk, .string Y, .string Z] 31)) := (Below.refl w.heap.size w).alloc (Nat.le_refl _) _
      have hxS := b4_new w (.int .u8 98) (.int .i64 bk) (.string Y) (.string Z) 31
      generalize w.alloc (.cells #[.int .u8 98, .int .i64 bk, .string Y, .string Z] 31) = wSc at hbS hxS ⊢
      have HB1 := Lib.hid hbS
      have HXc := Lib.hid hxS
      clear hbS hxS
      obtain ⟨nc, dc0, dc1, dc2, dc3⟩ := HXc.out
      go_wp2_with fail
      clear nc dc0 dc1 dc2 dc3
      with_reducible refine (sr_new HB1.out).mono ?_
      rintro e w2 ⟨aA, XA, rfl, hsA, hxA, hb2⟩
      have HB2 := Lib.hid (bel_call HB1.out hb2)
      replace HXc := Lib.hid (HXc.out.below hb2)
      have HSA := Lib.hid hsA
      clear hsA hb2 hxA
      try dsimp only
      obtain ⟨nc, dc0, dc1, dc2, dc3⟩ := HXc.out
      go_wp2_with fail
      go_ret2
      exact ⟨⟨⟨#[]⟩, rfl, rfl⟩, HB2.out⟩
    · rw [pick_made h4]
      have h4i : ¬ (40000 : Int) < (Z.size : Int) := by omega
      go_enter Try.func13, Try.ntmps13
      go_wp2_with fail
      have hbS : Below w.heap.size w (w.alloc (.cells #[.int .u8 98, .int .i64 bk, .string Y, .string Z] 31)) := (Below.refl w.heap.size w).alloc (Nat.le_refl _) _
      have hxS := b4_new w (.int .u8 98) (.int .i64 bk) (.string Y) (.string Z) 31
      generalize w.alloc (.cells #[.int .u8 98, .int .i64 bk, .string Y, .string Z] 31) = wSc at hbS hxS ⊢
      have HB1 := Lib.hid hbS
      have HXc := Lib.hid hxS
      clear hbS hxS
      obtain ⟨nc, dc0, dc1, dc2, dc3⟩ := HXc.out
      go_wp2_with fail
      clear nc dc0 dc1 dc2 dc3
      with_reducible refine (sr_new HB1.out).mono ?_
      rintro e w2 ⟨aA, XA, rfl, hsA, hxA, hb2⟩
      have HB2 := Lib.hid (bel_call HB1.out hb2)
      replace HXc := Lib.hid (HXc.out.below hb2)
      have HSA := Lib.hid hsA
      clear hsA hb2 hxA
      try dsimp only
      obtain ⟨nc, dc0, dc1, dc2, dc3⟩ := HXc.out
      go_wp2_with fail
      go_ret2
      exact ⟨⟨Z, rfl, rfl⟩, HB2.out⟩
  · rw [pick_else h1 h2 h3 h4]
    go_enter Try.func13, Try.ntmps13
    go_wp2_with fail
    have hbS : Below w.heap.size w (w.alloc (.cells #[.int .u8 kd, .int .i64 bk, .string Y, .string Z] 31)) := (Below.refl w.heap.size w).alloc (Nat.le_refl _) _
    have hxS := b4_new w (.int .u8 kd) (.int .i64 bk) (.string Y) (.string Z) 31
    generalize w.alloc (.cells #[.int .u8 kd, .int .i64 bk, .string Y, .string Z] 31) = wSc at hbS hxS ⊢
    have HB1 := Lib.hid hbS
    have HXc := Lib.hid hxS
    clear hbS hxS
    obtain ⟨nc, dc0, dc1, dc2, dc3⟩ := HXc.out
    go_wp2_with fail
    clear nc dc0 dc1 dc2 dc3
    with_reducible refine (sr_new HB1.out).mono ?_
    rintro e w2 ⟨aA, XA, rfl, hsA, hxA, hb2⟩
    have HB2 := Lib.hid (bel_call HB1.out hb2)
    replace HXc := Lib.hid (HXc.out.below hb2)
    have HSA := Lib.hid hsA
    clear hsA hb2 hxA
    try dsimp only
    obtain ⟨nc, dc0, dc1, dc2, dc3⟩ := HXc.out
    go_wp2_with fail
    clear nc dc0 dc1 dc2 dc3
    with_reducible refine (sr_get HSA.out (k := K.data.toList) rfl).mono ?_
    rintro e w3 ⟨⟨T, hT, rfl⟩, hb3⟩
    have HB3 := Lib.hid (bel_call HB2.out hb3)
    replace HSA := Lib.hid (HSA.out.belowK drk hb3)
    replace HXc := Lib.hid (HXc.out.below hb3)
    clear hb3
    try dsimp only
    go_wp2
    go_ret2
    exact ⟨⟨T, hT, rfl⟩, HB3.out⟩
end Go.Proofs.Ytamkepfhlfeiiaa.Sto
