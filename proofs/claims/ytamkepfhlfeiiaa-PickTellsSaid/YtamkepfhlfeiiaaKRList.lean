/-
  CONTRACTS of the document's pick: List, Lies (letterlockref13). By an AI agent; no person has read it.
-/
import Derived.Test.YtamkepfhlfeiiaaKRGet
import Derived.Test.YtamkepfhlfeiiaaKRGetN
namespace Go.Proofs.Ytamkepfhlfeiiaa.Sto
open Go Go.RowKit Wire

set_option linter.unusedSimpArgs false
set_option linter.unusedVariables false
set_option maxHeartbeats 4000000 in
set_option maxRecDepth 1000000 in
theorem rlist_c {w1 : World} (a : Addr) (X : Nat → Prop) (s : Stt) (K : ByteArray) (kd bk : Int) (Y Z : ByteArray) (w : World) (h : DR w a X s) (hf : Fine s) (hK : K.size ≤ 140737488351232) (hc : Ch.Ok ⟨kd, bk, Y, Z⟩) : Calls Try.prog 16 #[.pointer (some a), .string K, .agg #[.int .u8 kd, .int .i64 bk, .string Y, .string Z]] w fun e w' => (∃ l, PL s K.data.toList ⟨kd, bk, Y, Z⟩ l ∧ Row w w' l e) ∧ Below w.heap.size w w' := by
  have HLR := fun w2 (hb : Below w.heap.size w w2) => Lib.hid (listr_c a X s K w2 (dr_keep h hb.size fun b hx => hb.block b (dr_old h b hx)) hf hK)
  have HLQ := Lib.hid HLR
  clear HLR h hf
  have HCH := Lib.hid hc
  obtain ⟨hkd, hbk, hy1, hy2⟩ := hc
  simp only at hkd hbk hy1 hy2
  by_cases h1 : kd = 100
  · subst h1
    go_enter Try.func16, Try.ntmps16
    go_wp2_with fail
    have hbS : Below w.heap.size w (w.alloc (.cells #[.int .u8 100, .int .i64 bk, .string Y, .string Z] 31)) := (Below.refl w.heap.size w).alloc (Nat.le_refl _) _
    have hxS := b4_new w (.int .u8 100) (.int .i64 bk) (.string Y) (.string Z) 31
    generalize w.alloc (.cells #[.int .u8 100, .int .i64 bk, .string Y, .string Z] 31) = wSc at hbS hxS ⊢
    have HB1 := Lib.hid hbS
    have HXc := Lib.hid hxS
    clear hbS hxS
    obtain ⟨nc, dc0, dc1, dc2, dc3⟩ := HXc.out
    go_wp2_with fail
    go_ret
    exact ⟨⟨[], by unfold PL; rw [if_pos rfl], _, [], rfl, World.ownsRow_nil _ _ _ _, rfl⟩, HB1.out⟩
  · go_enter Try.func16, Try.ntmps16
    go_wp2_with fail
    have hbS : Below w.heap.size w (w.alloc (.cells #[.int .u8 kd, .int .i64 bk, .string Y, .string Z] 31)) := (Below.refl w.heap.size w).alloc (Nat.le_refl _) _
    have hxS := b4_new w (.int .u8 kd) (.int .i64 bk) (.string Y) (.string Z) 31
    generalize w.alloc (.cells #[.int .u8 kd, .int .i64 bk, .string Y, .string Z] 31) = wSc at hbS hxS ⊢
    have HB1 := Lib.hid hbS
    have HXc := Lib.hid hxS
    clear hbS hxS
    obtain ⟨nc, dc0, dc1, dc2, dc3⟩ := HXc.out
    go_wp2_with fail
    clear nc dc0 dc1 dc2 dc3
    refine (HLQ.out _ HB1.out).out.mono ?_
    rintro e w3 ⟨⟨l, hl, v, zs, hz, ho, rfl⟩, hb⟩
    have HL := Lib.hid hl
    have HZ := Lib.hid hz
    have HO := Lib.hid ho
    have HB2 := Lib.hid hb
    clear hl hz ho hb
    try dsimp only
    go_wp2
    go_ret
    refine ⟨⟨l, by unfold PL; rw [if_neg h1]; exact HL.out, v, zs, HZ.out, ?_, rfl⟩, bel_call HB1.out HB2.out⟩
    exact own_low HO.out HB1.out.size
set_option maxHeartbeats 4000000 in
set_option maxRecDepth 1000000 in
theorem rlistn_c (K : ByteArray) (kd bk : Int) (Y Z : ByteArray) (w : World) (hK : K.size ≤ 140737488351232) (hc : Ch.Ok ⟨kd, bk, Y, Z⟩) : Calls Try.prog 16 #[.pointer none, .string K, .agg #[.int .u8 kd, .int .i64 bk, .string Y, .string Z]] w fun e w' => Row w w' [] e ∧ Below w.heap.size w w' := by
  have HCH := Lib.hid hc
  obtain ⟨hkd, hbk, hy1, hy2⟩ := hc
  simp only at hkd hbk hy1 hy2
  go_enter Try.func16, Try.ntmps16
  go_wp2_with fail
  have hbS : Below w.heap.size w (w.alloc (.cells #[.int .u8 kd, .int .i64 bk, .string Y, .string Z] 31)) := (Below.refl w.heap.size w).alloc (Nat.le_refl _) _
  have hxS := b4_new w (.int .u8 kd) (.int .i64 bk) (.string Y) (.string Z) 31
  generalize w.alloc (.cells #[.int .u8 kd, .int .i64 bk, .string Y, .string Z] 31) = wSc at hbS hxS ⊢
  have HB1 := Lib.hid hbS
  have HXc := Lib.hid hxS
  clear hbS hxS
  obtain ⟨nc, dc0, dc1, dc2, dc3⟩ := HXc.out
  go_wp2_with fail
  go_ret
  exact ⟨⟨_, [], rfl, World.ownsRow_nil _ _ _ _, rfl⟩, HB1.out⟩
set_option maxHeartbeats 4000000 in
set_option maxRecDepth 1000000 in
theorem rlies_c (a : Addr) (X : Nat → Prop) (s : Stt) (K : ByteArray) (kd bk : Int) (Y Z : ByteArray) (w : World) (h : DR w a X s) (hf : Fine s) (hK : K.size ≤ 140737488351232) (hc : Ch.Ok ⟨kd, bk, Y, Z⟩) : Calls Try.prog 18 #[.pointer (some a), .string K, .agg #[.int .u8 kd, .int .i64 bk, .string Y, .string Z]] w fun e w' => e = .returned (.bool (pickLie s K.data.toList ⟨kd, bk, Y, Z⟩)) ∧ Below w.heap.size w w' := by
  obtain ⟨T1, hT1⟩ := text_of (pickG s K.data.toList ⟨kd, bk, Y, Z⟩).1
  obtain ⟨T2, hT2⟩ := text_of (getS s K.data.toList).1
  have HG1 : Hid (∀ w2, Below w.heap.size w w2 → Calls Try.prog 13 #[.pointer (some a), .string K, .agg #[.int .u8 kd, .int .i64 bk, .string Y, .string Z]] w2 fun e w' => e = .returned (.tuple #[.string T1, .int .i64 (pickG s K.data.toList ⟨kd, bk, Y, Z⟩).2]) ∧ Below w2.heap.size w2 w') := Lib.hid fun w2 hb => (rget_c a X s K kd bk Y Z w2 (dr_keep h hb.size fun b hx => hb.block b (dr_old h b hx)) hf hK hc).mono fun e w' hh => ⟨sr_val hh.1 hT1, hh.2⟩
  have HG2 : Hid (∀ w2, Below w.heap.size w w2 → Calls Try.prog 13 #[.pointer (some a), .string K, .agg #[.int .u8 104, .int .i64 0, .string ⟨#[]⟩, .string ⟨#[]⟩]] w2 fun e w' => e = .returned (.tuple #[.string T2, .int .i64 (getS s K.data.toList).2]) ∧ Below w2.heap.size w2 w') := Lib.hid fun w2 hb => (rget_c a X s K 104 0 ⟨#[]⟩ ⟨#[]⟩ w2 (dr_keep h hb.size fun b hx => hb.block b (dr_old h b hx)) hf hK (ch_ok (by decide) (by decide) (by decide) (by decide))).mono fun e w' hh => by
    obtain ⟨h1, h2⟩ := hh
    rw [pick_honest] at h1
    exact ⟨sr_val h1 hT2, h2⟩
  have HPL : Hid (pickLie s K.data.toList ⟨kd, bk, Y, Z⟩ = !(decide (T1.data.toList = T2.data.toList) && decide ((pickG s K.data.toList ⟨kd, bk, Y, Z⟩).2 = (getS s K.data.toList).2))) := Lib.hid (lie_is hT1 hT2)
  rw [HPL.out]
  generalize (pickG s K.data.toList ⟨kd, bk, Y, Z⟩).2 = e1 at *
  generalize (getS s K.data.toList).2 = e2 at *
  clear HPL hT1 hT2 h hf
  have HCH := Lib.hid hc
  obtain ⟨hkd, hbk, hy1, hy2⟩ := hc
  simp only at hkd hbk hy1 hy2
  go_enter Try.func18, Try.ntmps18
  go_wp2_with fail
  have hbS : Below w.heap.size w (w.alloc (.cells #[.int .u8 kd, .int .i64 bk, .string Y, .string Z] 31)) := (Below.refl w.heap.size w).alloc (Nat.le_refl _) _
  have hxS := b4_new w (.int .u8 kd) (.int .i64 bk) (.string Y) (.string Z) 31
  generalize w.alloc (.cells #[.int .u8 kd, .int .i64 bk, .string Y, .string Z] 31) = wSc at hbS hxS ⊢
  have HB1 := Lib.hid hbS
  have HXc := Lib.hid hxS
  clear hbS hxS
  obtain ⟨nc, dc0, dc1, dc2, dc3⟩ := HXc.out
  go_wp2_with fail
  clear nc dc0 dc1 dc2 dc3
  with_reducible refine (HG1.out _ HB1.out).mono ?_
  rintro e w2 ⟨rfl, hb2⟩
  have HB2 := Lib.hid (bel_call HB1.out hb2)
  replace HXc := Lib.hid (HXc.out.below hb2)
  clear hb2
  try dsimp only
  go_wp2_with fail
  with_reducible refine (HG2.out _ HB2.out).mono ?_
  rintro e w3 ⟨rfl, hb3⟩
  have HB3 := Lib.hid (bel_call HB2.out hb3)
  replace HXc := Lib.hid (HXc.out.below hb3)
  clear hb3
  try dsimp only
  by_cases ht : T1.data.toList = T2.data.toList
  · have hb := eq_bool ht
    have HT := Lib.hid (decide_eq_true ht)
    by_cases he : e1 = e2
    · have heb : (e1 != e2) = false := by rw [he]; simp
      have HE := Lib.hid (decide_eq_true he)
      clear ht he
      go_wp2_with fail
      go_ret
      refine ⟨?_, HB3.out⟩
      rw [HT.out, HE.out]; rfl
    · have heb : (e1 != e2) = true := by simpa using he
      have HE := Lib.hid (decide_eq_false he)
      clear ht he
      go_wp2_with fail
      go_ret
      refine ⟨?_, HB3.out⟩
      rw [HT.out, HE.out]; rfl
  · have hb := ne_bool ht
    have HT := Lib.hid (decide_eq_false ht)
    clear ht
    go_wp2_with fail
    go_ret
    refine ⟨?_, HB3.out⟩
    rw [HT.out]; rfl
set_option maxHeartbeats 4000000 in
set_option maxRecDepth 1000000 in
theorem rliesn_c (K : ByteArray) (kd bk : Int) (Y Z : ByteArray) (w : World) (hK : K.size ≤ 140737488351232) (hc : Ch.Ok ⟨kd, bk, Y, Z⟩) : Calls Try.prog 18 #[.pointer none, .string K, .agg #[.int .u8 kd, .int .i64 bk, .string Y, .string Z]] w fun e w' => e = .returned (.bool (pickLie s0 K.data.toList ⟨kd, bk, Y, Z⟩)) ∧ Below w.heap.size w w' := by
  obtain ⟨T1, hT1⟩ := text_of (pickG s0 K.data.toList ⟨kd, bk, Y, Z⟩).1
  obtain ⟨T2, hT2⟩ := text_of (getS s0 K.data.toList).1
  have HG1 : Hid (∀ w2, Below w.heap.size w w2 → Calls Try.prog 13 #[.pointer none, .string K, .agg #[.int .u8 kd, .int .i64 bk, .string Y, .string Z]] w2 fun e w' => e = .returned (.tuple #[.string T1, .int .i64 (pickG s0 K.data.toList ⟨kd, bk, Y, Z⟩).2]) ∧ Below w2.heap.size w2 w') := Lib.hid fun w2 hb => (rgetn_c K kd bk Y Z w2 hK hc).mono fun e w' hh => ⟨sr_val hh.1 hT1, hh.2⟩
  have HG2 : Hid (∀ w2, Below w.heap.size w w2 → Calls Try.prog 13 #[.pointer none, .string K, .agg #[.int .u8 104, .int .i64 0, .string ⟨#[]⟩, .string ⟨#[]⟩]] w2 fun e w' => e = .returned (.tuple #[.string T2, .int .i64 (getS s0 K.data.toList).2]) ∧ Below w2.heap.size w2 w') := Lib.hid fun w2 hb => (rgetn_c K 104 0 ⟨#[]⟩ ⟨#[]⟩ w2 hK (ch_ok (by decide) (by decide) (by decide) (by decide))).mono fun e w' hh => by
    obtain ⟨h1, h2⟩ := hh
    rw [pick_honest] at h1
    exact ⟨sr_val h1 hT2, h2⟩
  have HPL : Hid (pickLie s0 K.data.toList ⟨kd, bk, Y, Z⟩ = !(decide (T1.data.toList = T2.data.toList) && decide ((pickG s0 K.data.toList ⟨kd, bk, Y, Z⟩).2 = (getS s0 K.data.toList).2))) := Lib.hid (lie_is hT1 hT2)
  rw [HPL.out]
  generalize (pickG s0 K.data.toList ⟨kd, bk, Y, Z⟩).2 = e1 at *
  generalize (getS s0 K.data.toList).2 = e2 at *
  clear HPL hT1 hT2
  have HCH := Lib.hid hc
  obtain ⟨hkd, hbk, hy1, hy2⟩ := hc
  simp only at hkd hbk hy1 hy2
  go_enter Try.func18, Try.ntmps18
  go_wp2_with fail
  have hbS : Below w.heap.size w (w.alloc (.cells #[.int .u8 kd, .int .i64 bk, .string Y, .string Z] 31)) := (Below.refl w.heap.size w).alloc (Nat.le_refl _) _
  have hxS := b4_new w (.int .u8 kd) (.int .i64 bk) (.string Y) (.string Z) 31
  generalize w.alloc (.cells #[.int .u8 kd, .int .i64 bk, .string Y, .string Z] 31) = wSc at hbS hxS ⊢
  have HB1 := Lib.hid hbS
  have HXc := Lib.hid hxS
  clear hbS hxS
  obtain ⟨nc, dc0, dc1, dc2, dc3⟩ := HXc.out
  go_wp2_with fail
  clear nc dc0 dc1 dc2 dc3
  with_reducible refine (HG1.out _ HB1.out).mono ?_
  rintro e w2 ⟨rfl, hb2⟩
  have HB2 := Lib.hid (bel_call HB1.out hb2)
  replace HXc := Lib.hid (HXc.out.below hb2)
  clear hb2
  try dsimp only
  go_wp2_with fail
  with_reducible refine (HG2.out _ HB2.out).mono ?_
  rintro e w3 ⟨rfl, hb3⟩
  have HB3 := Lib.hid (bel_call HB2.out hb3)
  replace HXc := Lib.hid (HXc.out.below hb3)
  clear hb3
  try dsimp only
  by_cases ht : T1.data.toList = T2.data.toList
  · have hb := eq_bool ht
    have HT := Lib.hid (decide_eq_true ht)
    by_cases he : e1 = e2
    · have heb : (e1 != e2) = false := by rw [he]; simp
      have HE := Lib.hid (decide_eq_true he)
      clear ht he
      go_wp2_with fail
      go_ret
      refine ⟨?_, HB3.out⟩
      rw [HT.out, HE.out]; rfl
    · have heb : (e1 != e2) = true := by simpa using he
      have HE := Lib.hid (decide_eq_false he)
      clear ht he
      go_wp2_with fail
      go_ret
      refine ⟨?_, HB3.out⟩
      rw [HT.out, HE.out]; rfl
  · have hb := ne_bool ht
    have HT := Lib.hid (decide_eq_false ht)
    clear ht
    go_wp2_with fail
    go_ret
    refine ⟨?_, HB3.out⟩
    rw [HT.out]; rfl
end Go.Proofs.Ytamkepfhlfeiiaa.Sto
