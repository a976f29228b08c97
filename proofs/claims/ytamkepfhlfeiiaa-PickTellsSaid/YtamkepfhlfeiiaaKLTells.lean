/-
  THE LAW PickTells, walked. By an AI agent; no person has read it.
-/
import Derived.Test.YtamkepfhlfeiiaaKRList
namespace Go.Proofs.Ytamkepfhlfeiiaa.Sto
open Go Go.RowKit Wire

set_option linter.unusedSimpArgs false
set_option linter.unusedVariables false
set_option maxHeartbeats 16000000 in
set_option maxRecDepth 1000000 in
theorem tells_walk {D : DPred} (ok : StoreOK D) (pc : PickOK D) (A : Option Addr) (n c : Nat) (Z : Nat → Pu) (kd bk : Int) (Y1 Y2 : ByteArray) (k0 : Int) (P : ByteArray) (w : World) (hn : n ≤ 9223372036854775807) (hr : PReads w A n Z) (hc : Ch.Ok ⟨kd, bk, Y1, Y2⟩) (h0 : -9223372036854775808 ≤ k0 ∧ k0 ≤ 9223372036854775807) (hP : P.size ≤ 140737488351232) : Calls Try.prog 3 #[.slice A n c, .agg #[.int .u8 kd, .int .i64 bk, .string Y1, .string Y2], .int .i64 k0, .string P] w fun e w' => e = .returned (.bool true) ∧ Below w.heap.size w w' := by
  have HOK := Lib.hid ok
  have HPK := Lib.hid pc
  have HR := Lib.hid hr
  have HSH := Lib.hid fun w => shownk_any ok pc w
  have HL : Hid (∀ w', Below w.heap.size w w' → Calls Try.prog 9 #[.slice A n c] w' fun e w'' => LightE n e ∧ Below w'.heap.size w' w'') := Lib.hid fun w' hb => light_any A c n Z w' (hr.below hb (Nat.le_refl _)) hn
  have HFL : Hid (∀ w', Below w.heap.size w w' → Calls Try.prog 10 #[.slice A n c] w' fun e w'' => ∃ (a b : Addr) (X Y : Nat → Prop) (s : Stt), e = .returned (.tuple #[.pointer (some a), .pointer (some b)]) ∧ Sts D w' w'' a X s ∧ Sts DR w' w'' b Y s ∧ (∀ g, X g → ¬ Y g)) := Lib.hid fun w' hb => filled_any ok A c n Z w' (hr.below hb (Nat.le_refl _)) hn
  have HCH := Lib.hid hc
  obtain ⟨hkd, hbk, hy1, hy2⟩ := hc
  simp only at hkd hbk hy1 hy2
  have HK : Hid (∀ w, Calls Try.prog 11 #[.int .i64 k0] w fun e w' => e = .returned (.string (kyN k0)) ∧ Below w.heap.size w w') := Lib.hid fun w => keys_any k0 h0 w
  have hks := kyN_small k0
  generalize kyN k0 = K at HK hks
  have hkz : K.size ≤ 140737488351232 := by omega
  clear hr hbk h0
  go_enter Try.func3, Try.ntmps3
  go_wp2_with fail
  have hbS : Below w.heap.size w (w.alloc (.cells #[.int .u8 kd, .int .i64 bk, .string Y1, .string Y2] 24)) := (Below.refl w.heap.size w).alloc (Nat.le_refl _) _
  have hxS := b4_new w (.int .u8 kd) (.int .i64 bk) (.string Y1) (.string Y2) 24
  generalize w.alloc (.cells #[.int .u8 kd, .int .i64 bk, .string Y1, .string Y2] 24) = wSc at hbS hxS ⊢
  have HB1 := Lib.hid hbS
  have HXc := Lib.hid hxS
  clear hbS hxS
  go_wp2_with fail
  with_reducible refine (HSH.out _).mono ?_
  rintro e w2 ⟨rfl, hb2⟩
  have HB2 := Lib.hid (bel_call HB1.out hb2)
  replace HXc := Lib.hid (HXc.out.below hb2)
  clear hb2
  try dsimp only
  go_wp2_with fail
  with_reducible refine (HL.out _ HB2.out).mono ?_
  rintro e w3 ⟨⟨bl, hbl, rfl⟩, hb3⟩
  have HB3 := Lib.hid (bel_call HB2.out hb3)
  replace HXc := Lib.hid (HXc.out.below hb3)
  clear hb3
  try dsimp only
  cases bl
  case false =>
    go_wp2
    go_ret
    exact ⟨rfl, HB3.out⟩
  have hn100 := hbl rfl
  clear hbl
  obtain ⟨nc, dc0, dc1, dc2, dc3⟩ := HXc.out
  by_cases h6 : (300 : Int) < (Y1.size : Int) + (P.size : Int)
  · go_wp2
    go_ret
    exact ⟨rfl, HB3.out⟩
  by_cases h5 : (50000 : Int) < (Y2.size : Int)
  · go_wp2
    go_ret
    exact ⟨rfl, HB3.out⟩
  go_wp2_with fail
  clear nc dc0 dc1 dc2 dc3
  with_reducible refine (HFL.out _ HB3.out).mono ?_
  rintro e w4 ⟨aA, aB, XA, XB, t, rfl, hsA, hsB, hd⟩
  have hbF := hsA.b
  have HXN := Lib.hid hsA.x
  have HSA := Lib.hid (hsA.lift HB3.out)
  have HSB := Lib.hid (hsB.lift HB3.out)
  have HB4 := Lib.hid (bel_call HB3.out hbF)
  replace HXc := Lib.hid (HXc.out.below hbF)
  clear hsA hsB hd hbF
  try dsimp only
  clear HXN hn100 h5 h6
  obtain ⟨T1, hT1⟩ := text_of (pickG t K.data.toList ⟨kd, bk, Y1, Y2⟩).1
  obtain ⟨T2, hT2⟩ := text_of (pickG s0 K.data.toList ⟨kd, bk, Y1, Y2⟩).1
  have HGA : Hid (∀ w1, Sts D w w1 aA XA t → Calls Try.prog 12 #[.pointer (some aA), .string K, .agg #[.int .u8 kd, .int .i64 bk, .string Y1, .string Y2]] w1 fun e w' => e = .returned (.tuple #[.string T1, .int .i64 (pickG t K.data.toList ⟨kd, bk, Y1, Y2⟩).2]) ∧ Below w1.heap.size w1 w') := Lib.hid fun w1 h => (HPK.out.get aA XA t K ⟨kd, bk, Y1, Y2⟩ w1 h.d h.f hkz HCH.out).mono fun e w' h => ⟨sr_val h.1 hT1, h.2⟩
  have HGB : Hid (∀ w1, Sts DR w w1 aB XB t → Calls Try.prog 13 #[.pointer (some aB), .string K, .agg #[.int .u8 kd, .int .i64 bk, .string Y1, .string Y2]] w1 fun e w' => e = .returned (.tuple #[.string T1, .int .i64 (pickG t K.data.toList ⟨kd, bk, Y1, Y2⟩).2]) ∧ Below w1.heap.size w1 w') := Lib.hid fun w1 h => (rget_c aB XB t K kd bk Y1 Y2 w1 h.d h.f hkz HCH.out).mono fun e w' h => ⟨sr_val h.1 hT1, h.2⟩
  have HGN : Hid (∀ w1, Calls Try.prog 12 #[.pointer none, .string K, .agg #[.int .u8 kd, .int .i64 bk, .string Y1, .string Y2]] w1 fun e w' => e = .returned (.tuple #[.string T2, .int .i64 (pickG s0 K.data.toList ⟨kd, bk, Y1, Y2⟩).2]) ∧ Below w1.heap.size w1 w') := Lib.hid fun w1 => (HPK.out.getn K ⟨kd, bk, Y1, Y2⟩ w1 hkz HCH.out).mono fun e w' h => ⟨sr_val h.1 hT2, h.2⟩
  have HGM : Hid (∀ w1, Calls Try.prog 13 #[.pointer none, .string K, .agg #[.int .u8 kd, .int .i64 bk, .string Y1, .string Y2]] w1 fun e w' => e = .returned (.tuple #[.string T2, .int .i64 (pickG s0 K.data.toList ⟨kd, bk, Y1, Y2⟩).2]) ∧ Below w1.heap.size w1 w') := Lib.hid fun w1 => (rgetn_c K kd bk Y1 Y2 w1 hkz HCH.out).mono fun e w' h => ⟨sr_val h.1 hT2, h.2⟩
  have HLA : Hid (∀ w1, Sts D w w1 aA XA t → Calls Try.prog 17 #[.pointer (some aA), .string K, .agg #[.int .u8 kd, .int .i64 bk, .string Y1, .string Y2]] w1 fun e w' => e = .returned (.bool (pickLie t K.data.toList ⟨kd, bk, Y1, Y2⟩)) ∧ Below w1.heap.size w1 w') := Lib.hid fun w1 h => HPK.out.lies aA XA t K ⟨kd, bk, Y1, Y2⟩ w1 h.d h.f hkz HCH.out
  have HLB : Hid (∀ w1, Sts DR w w1 aB XB t → Calls Try.prog 18 #[.pointer (some aB), .string K, .agg #[.int .u8 kd, .int .i64 bk, .string Y1, .string Y2]] w1 fun e w' => e = .returned (.bool (pickLie t K.data.toList ⟨kd, bk, Y1, Y2⟩)) ∧ Below w1.heap.size w1 w') := Lib.hid fun w1 h => rlies_c aB XB t K kd bk Y1 Y2 w1 h.d h.f hkz HCH.out
  have HLN : Hid (∀ w1, Calls Try.prog 17 #[.pointer none, .string K, .agg #[.int .u8 kd, .int .i64 bk, .string Y1, .string Y2]] w1 fun e w' => e = .returned (.bool (pickLie s0 K.data.toList ⟨kd, bk, Y1, Y2⟩)) ∧ Below w1.heap.size w1 w') := Lib.hid fun w1 => HPK.out.liesn K ⟨kd, bk, Y1, Y2⟩ w1 hkz HCH.out
  have HLM : Hid (∀ w1, Calls Try.prog 18 #[.pointer none, .string K, .agg #[.int .u8 kd, .int .i64 bk, .string Y1, .string Y2]] w1 fun e w' => e = .returned (.bool (pickLie s0 K.data.toList ⟨kd, bk, Y1, Y2⟩)) ∧ Below w1.heap.size w1 w') := Lib.hid fun w1 => rliesn_c K kd bk Y1 Y2 w1 hkz HCH.out
  have HSL : Hid (∀ w1, Calls Try.prog 14 #[.pointer none, .string P, .agg #[.int .u8 kd, .int .i64 bk, .string Y1, .string Y2]] w1 fun e w' => Row w1 w' [] e ∧ Below w1.heap.size w1 w') := Lib.hid fun w1 => HPK.out.listn P ⟨kd, bk, Y1, Y2⟩ w1 hP HCH.out
  have HLS : Hid (∀ w1, Sts DR w w1 aB XB t → Calls Try.prog 16 #[.pointer (some aB), .string P, .agg #[.int .u8 kd, .int .i64 bk, .string Y1, .string Y2]] w1 fun e w' => (∃ l, PL t P.data.toList ⟨kd, bk, Y1, Y2⟩ l ∧ Told w w' XB l e) ∧ Below w1.heap.size w1 w') := Lib.hid fun w1 h => (rlist_c (w1 := w1) aB XB t P kd bk Y1 Y2 w1 h.d h.f hP HCH.out).mono fun e w' hh => by
    obtain ⟨⟨l, h2, h3⟩, h4⟩ := hh
    exact ⟨⟨l, h2, told_P h (dr_old h.d) h3⟩, h4⟩
  generalize (pickG t K.data.toList ⟨kd, bk, Y1, Y2⟩).2 = e1 at HGA HGB
  generalize (pickG s0 K.data.toList ⟨kd, bk, Y1, Y2⟩).2 = e2 at HGN HGM
  generalize pickLie t K.data.toList ⟨kd, bk, Y1, Y2⟩ = v1 at HLA HLB
  generalize pickLie s0 K.data.toList ⟨kd, bk, Y1, Y2⟩ = v2 at HLN HLM
  clear hT1 hT2
  obtain ⟨nc, dc0, dc1, dc2, dc3⟩ := HXc.out
  go_wp2_with fail
  clear nc dc0 dc1 dc2 dc3
  have hbS : Below w4.heap.size w4 (w4.alloc (.cells #[.int .u8 kd, .int .i64 bk, .string Y1, .string Y2] 31)) := (Below.refl w4.heap.size w4).alloc (Nat.le_refl _) _
  have hxS := b4_new w4 (.int .u8 kd) (.int .i64 bk) (.string Y1) (.string Y2) 31
  generalize w4.alloc (.cells #[.int .u8 kd, .int .i64 bk, .string Y1, .string Y2] 31) = wSx at hbS hxS ⊢
  have HB5 := Lib.hid (bel_call HB4.out hbS)
  replace HSA := Lib.hid (HSA.out.belowK HOK.out.ks hbS)
  replace HSB := Lib.hid (HSB.out.belowK drk hbS)
  replace HXc := Lib.hid (HXc.out.below hbS)
  have HXx := Lib.hid hxS
  clear hbS hxS
  with_reducible refine (HK.out _).mono ?_
  rintro e w6 ⟨rfl, hb6⟩
  have HB6 := Lib.hid (bel_call HB5.out hb6)
  replace HSA := Lib.hid (HSA.out.belowK HOK.out.ks hb6)
  replace HSB := Lib.hid (HSB.out.belowK drk hb6)
  replace HXc := Lib.hid (HXc.out.below hb6)
  replace HXx := Lib.hid (HXx.out.below hb6)
  clear hb6
  try dsimp only
  obtain ⟨nc, dc0, dc1, dc2, dc3⟩ := HXc.out
  go_wp2_with fail
  with_reducible refine (HGA.out _ HSA.out).mono ?_
  rintro e w7 ⟨rfl, hb7⟩
  clear nc dc0 dc1 dc2 dc3
  have HB7 := Lib.hid (bel_call HB6.out hb7)
  replace HSA := Lib.hid (HSA.out.belowK HOK.out.ks hb7)
  replace HSB := Lib.hid (HSB.out.belowK drk hb7)
  replace HXc := Lib.hid (HXc.out.below hb7)
  replace HXx := Lib.hid (HXx.out.below hb7)
  clear hb7
  try dsimp only
  obtain ⟨nx, dx0, dx1, dx2, dx3⟩ := HXx.out
  go_wp2_with fail
  with_reducible refine (HGB.out _ HSB.out).mono ?_
  rintro e w8 ⟨rfl, hb8⟩
  clear nx dx0 dx1 dx2 dx3
  have HB8 := Lib.hid (bel_call HB7.out hb8)
  replace HSA := Lib.hid (HSA.out.belowK HOK.out.ks hb8)
  replace HSB := Lib.hid (HSB.out.belowK drk hb8)
  replace HXc := Lib.hid (HXc.out.below hb8)
  replace HXx := Lib.hid (HXx.out.below hb8)
  clear hb8
  try dsimp only
  obtain ⟨nc, dc0, dc1, dc2, dc3⟩ := HXc.out
  go_wp2_with fail
  with_reducible refine (HGN.out _).mono ?_
  rintro e w9 ⟨rfl, hb9⟩
  clear nc dc0 dc1 dc2 dc3
  have HB9 := Lib.hid (bel_call HB8.out hb9)
  replace HSA := Lib.hid (HSA.out.belowK HOK.out.ks hb9)
  replace HSB := Lib.hid (HSB.out.belowK drk hb9)
  replace HXc := Lib.hid (HXc.out.below hb9)
  replace HXx := Lib.hid (HXx.out.below hb9)
  clear hb9
  try dsimp only
  obtain ⟨nx, dx0, dx1, dx2, dx3⟩ := HXx.out
  go_wp2_with fail
  with_reducible refine (HGM.out _).mono ?_
  rintro e w10 ⟨rfl, hb10⟩
  clear nx dx0 dx1 dx2 dx3
  have HB10 := Lib.hid (bel_call HB9.out hb10)
  replace HSA := Lib.hid (HSA.out.belowK HOK.out.ks hb10)
  replace HSB := Lib.hid (HSB.out.belowK drk hb10)
  replace HXc := Lib.hid (HXc.out.below hb10)
  replace HXx := Lib.hid (HXx.out.below hb10)
  clear hb10
  try dsimp only
  clear HGA HGB HGN HGM
  obtain ⟨nc, dc0, dc1, dc2, dc3⟩ := HXc.out
  go_wp2_with fail
  clear nc dc0 dc1 dc2 dc3
  with_reducible refine ((HSL.out _).mono fun e w' h => (⟨told_of HOK.out HSA.out h.1, h.2⟩ : Told w w' XA [] e ∧ _)).mono ?_
  rintro e w11 ⟨hx, hb11⟩
  have HB11 := Lib.hid (bel_call HB10.out hb11)
  replace HSA := Lib.hid (HSA.out.belowK HOK.out.ks hb11)
  replace HSB := Lib.hid (HSB.out.belowK drk hb11)
  replace HXc := Lib.hid (HXc.out.below hb11)
  replace HXx := Lib.hid (HXx.out.below hb11)
  clear hb11
  obtain ⟨Au, cu, Yu, hq, hc, hr, ho, rfl⟩ := hx
  have HQu := Lib.hid hq
  have HCu := Lib.hid hc
  have HRu : Hid (RowO _ _ _ Au Yu) := Lib.hid ⟨hr, ho⟩
  clear hq hc hr ho
  have hla : Yu.length = 0 := by rw [← bl_len, HQu.out]; rfl
  rw [hla]
  clear hla
  try dsimp only
  clear HRu
  clear HSL
  go_wp2_with fail
  have hdr : Below w11.heap.size w11 w11.drew := Below.drewN' (Below.refl w11.heap.size w11) 1
  refine wp_region_held_drew (S := fun w' => B4 w.heap.size w' (.int .u8 kd) (.int .i64 bk) (.string Y1) (.string Y2) ∧ B4 w4.heap.size w' (.int .u8 kd) (.int .i64 bk) (.string Y1) (.string Y2)) (by kernel_rfl) (⟨HXc.out.below hdr, HXx.out.below hdr⟩) (fun hHeld => ?_)
  clear hHeld
  generalize w11.drew = wd1 at hdr ⊢
  have HB12 := Lib.hid (bel_call HB11.out hdr)
  replace HSA := Lib.hid (HSA.out.belowK HOK.out.ks hdr)
  replace HSB := Lib.hid (HSB.out.belowK drk hdr)
  replace HXc := Lib.hid (HXc.out.below hdr)
  replace HXx := Lib.hid (HXx.out.below hdr)
  clear hdr
  have hHeld : B4 w.heap.size wd1 (.int .u8 kd) (.int .i64 bk) (.string Y1) (.string Y2) ∧ B4 w4.heap.size wd1 (.int .u8 kd) (.int .i64 bk) (.string Y1) (.string Y2) := ⟨HXc.out, HXx.out⟩
  refine wpAnyH_take (i := 0) (v := ?_) (by rw [List.getElem?_toArray]; rfl) (by kernel_rfl) (by kernel_rfl) (by kernel_rfl) (by exact fun _ _ _ h => h) (Or.inl ⟨by rfl, ?_⟩) (by assumption) ?_
  rotate_left
  · intro w' hSw
    go_simp
    try with_reducible rfl
  try simp only [Act.put, List.setIfInBounds_toArray, List.set_cons_zero, List.set_cons_succ]
  refine wpAnyH_take (i := 1) (v := ?_) (by rw [List.getElem?_toArray]; rfl) (by kernel_rfl) (by kernel_rfl) (by kernel_rfl) (by exact fun _ _ _ h => h) (Or.inl ⟨by rfl, ?_⟩) (by assumption) ?_
  rotate_left
  · intro w' hSw
    go_simp
    try with_reducible rfl
  try simp only [Act.put, List.setIfInBounds_toArray, List.set_cons_zero, List.set_cons_succ]
  refine wpAnyH_take (i := 2) (v := ?_) (by rw [List.getElem?_toArray]; rfl) (by kernel_rfl) (by kernel_rfl) (by kernel_rfl) (by exact fun _ _ _ h => h) (Or.inl ⟨by rfl, ?_⟩) (by assumption) ?_
  rotate_left
  · intro w' hSw
    obtain ⟨_, q00, q01, q02, q03⟩ := hSw.1
    obtain ⟨_, q10, q11, q12, q13⟩ := hSw.2
    go_simp
    try with_reducible rfl
  try simp only [Act.put, List.setIfInBounds_toArray, List.set_cons_zero, List.set_cons_succ]
  refine wpAnyH_take (i := 4) (v := ?_) (by rw [List.getElem?_toArray]; rfl) (by kernel_rfl) (by kernel_rfl) (by kernel_rfl) (by exact fun _ _ _ h => h) (Or.inl ⟨by rfl, ?_⟩) (by assumption) ?_
  rotate_left
  · intro w' hSw
    go_simp
    try with_reducible rfl
  try simp only [Act.put, List.setIfInBounds_toArray, List.set_cons_zero, List.set_cons_succ]
  refine wpAnyH_take (i := 5) (v := ?_) (by rw [List.getElem?_toArray]; rfl) (by kernel_rfl) (by kernel_rfl) (by kernel_rfl) (by exact fun _ _ _ h => h) (Or.inl ⟨by rfl, ?_⟩) (by assumption) ?_
  rotate_left
  · intro w' hSw
    go_simp
    try with_reducible rfl
  try simp only [Act.put, List.setIfInBounds_toArray, List.set_cons_zero, List.set_cons_succ]
  refine wpAnyH_take (i := 6) (v := ?_) (by rw [List.getElem?_toArray]; rfl) (by kernel_rfl) (by kernel_rfl) (by kernel_rfl) (by exact fun _ _ _ h => h) (Or.inl ⟨by rfl, ?_⟩) (by assumption) ?_
  rotate_left
  · intro w' hSw
    obtain ⟨_, q00, q01, q02, q03⟩ := hSw.1
    obtain ⟨_, q10, q11, q12, q13⟩ := hSw.2
    go_simp
    try with_reducible rfl
  try simp only [Act.put, List.setIfInBounds_toArray, List.set_cons_zero, List.set_cons_succ]
  clear hHeld
  refine wpAnyH_ready (rs := [3]) (by kernel_rfl) (by simp) ?_
  refine AllReadyH.cons (by rw [List.getElem?_toArray]; rfl) (fun Kn hK => ?_) AllReadyH.nil
  go_simp
  go_at_call 14
  with_reducible refine (pk_list HOK.out HPK.out HSA.out (k := P.data.toList) rfl hP HCH.out).mono ?_
  rintro e w13 ⟨hx, hb13⟩
  have HB13 := Lib.hid (bel_call HB12.out hb13)
  replace HSA := Lib.hid (HSA.out.belowK HOK.out.ks hb13)
  replace HSB := Lib.hid (HSB.out.belowK drk hb13)
  replace HXc := Lib.hid (HXc.out.below hb13)
  replace HXx := Lib.hid (HXx.out.below hb13)
  clear hb13
  obtain ⟨lp, hlp, hx⟩ := hx
  have HLp := Lib.hid hlp
  clear hlp
  obtain ⟨Ap, cp, Yp, hq, hc, hr, ho, rfl⟩ := hx
  have HQp := Lib.hid hq
  have HCp := Lib.hid hc
  have HRp : Hid (RowO _ _ _ Ap Yp) := Lib.hid ⟨hr, ho⟩
  clear hq hc hr ho
  try dsimp only
  refine hK.out _ _ ⟨HXc.out, HXx.out⟩ (fun hHeld => ?_)
  try simp only [Act.put, List.setIfInBounds_toArray, List.set_cons_zero, List.set_cons_succ]
  clear hHeld
  refine wpAnyH_ready (rs := [7]) (by kernel_rfl) (by simp) ?_
  refine AllReadyH.cons (by rw [List.getElem?_toArray]; rfl) (fun Kn hK => ?_) AllReadyH.nil
  go_simp
  go_at_call 16
  with_reducible refine (HLS.out _ HSB.out).mono ?_
  rintro e w14 ⟨hx, hb14⟩
  have HB14 := Lib.hid (bel_call HB13.out hb14)
  replace HSA := Lib.hid (HSA.out.belowK HOK.out.ks hb14)
  replace HSB := Lib.hid (HSB.out.belowK drk hb14)
  replace HRp := Lib.hid (HRp.out.below hb14)
  replace HXc := Lib.hid (HXc.out.below hb14)
  replace HXx := Lib.hid (HXx.out.below hb14)
  clear hb14
  obtain ⟨lq, hlq, hx⟩ := hx
  have HLq := Lib.hid hlq
  clear hlq
  obtain ⟨Aq, cq, Yq, hq, hc, hr, ho, rfl⟩ := hx
  have HQq := Lib.hid hq
  have HCq := Lib.hid hc
  have HRq : Hid (RowO _ _ _ Aq Yq) := Lib.hid ⟨hr, ho⟩
  clear hq hc hr ho
  try dsimp only
  refine hK.out _ _ ⟨HXc.out, HXx.out⟩ (fun hHeld => ?_)
  try simp only [Act.put, List.setIfInBounds_toArray, List.set_cons_zero, List.set_cons_succ]
  clear hHeld
  refine wpAnyH_ready (rs := [8]) (by kernel_rfl) (by simp) ?_
  refine AllReadyH.cons (by rw [List.getElem?_toArray]; rfl) (fun Kn hK => ?_) AllReadyH.nil
  go_simp
  have hlp : Yp.length ≤ 9223372036854775807 := by have := HCp.out; omega
  go_at_call 15
  with_reducible refine (same_any _ _ _ _ _ _ _ HRp.out.r HRq.out.r hlp).mono ?_
  rintro e w15 ⟨rfl, hb15⟩
  have HB15 := Lib.hid (bel_call HB14.out hb15)
  replace HSA := Lib.hid (HSA.out.belowK HOK.out.ks hb15)
  replace HSB := Lib.hid (HSB.out.belowK drk hb15)
  replace HRp := Lib.hid (HRp.out.below hb15)
  replace HRq := Lib.hid (HRq.out.below hb15)
  replace HXc := Lib.hid (HXc.out.below hb15)
  replace HXx := Lib.hid (HXx.out.below hb15)
  clear hb15
  rw [show decide (bl Yp = bl Yq) = true from decide_eq_true (by rw [HQp.out, HQq.out]; exact pl_same HLp.out HLq.out)]
  try dsimp only
  clear HRp
  clear HRq
  refine hK.out _ _ ⟨HXc.out, HXx.out⟩ (fun hHeld => ?_)
  try simp only [Act.put, List.setIfInBounds_toArray, List.set_cons_zero, List.set_cons_succ]
  refine wpAnyH_take (i := 9) (v := ?_) (by rw [List.getElem?_toArray]; rfl) (by kernel_rfl) (by kernel_rfl) (by kernel_rfl) (by exact fun _ _ _ h => h) (Or.inl ⟨by rfl, ?_⟩) (by assumption) ?_
  rotate_left
  · intro w' hSw
    go_simp
    try with_reducible rfl
  try simp only [Act.put, List.setIfInBounds_toArray, List.set_cons_zero, List.set_cons_succ]
  refine wpAnyH_take (i := 10) (v := ?_) (by rw [List.getElem?_toArray]; rfl) (by kernel_rfl) (by kernel_rfl) (by kernel_rfl) (by exact fun _ _ _ h => h) (Or.inl ⟨by rfl, ?_⟩) (by assumption) ?_
  rotate_left
  · intro w' hSw
    go_simp
    try with_reducible rfl
  try simp only [Act.put, List.setIfInBounds_toArray, List.set_cons_zero, List.set_cons_succ]
  refine wpAnyH_take (i := 11) (v := ?_) (by rw [List.getElem?_toArray]; rfl) (by kernel_rfl) (by kernel_rfl) (by kernel_rfl) (by exact fun _ _ _ h => h) (Or.inl ⟨by rfl, ?_⟩) (by assumption) ?_
  rotate_left
  · intro w' hSw
    go_simp
    try with_reducible rfl
  try simp only [Act.put, List.setIfInBounds_toArray, List.set_cons_zero, List.set_cons_succ]
  refine wpAnyH_take (i := 12) (v := ?_) (by rw [List.getElem?_toArray]; rfl) (by kernel_rfl) (by kernel_rfl) (by kernel_rfl) (by exact fun _ _ _ h => h) (Or.inl ⟨by rfl, ?_⟩) (by assumption) ?_
  rotate_left
  · intro w' hSw
    obtain ⟨_, q00, q01, q02, q03⟩ := hSw.1
    obtain ⟨_, q10, q11, q12, q13⟩ := hSw.2
    go_simp
    try with_reducible rfl
  try simp only [Act.put, List.setIfInBounds_toArray, List.set_cons_zero, List.set_cons_succ]
  refine wpAnyH_take (i := 14) (v := ?_) (by rw [List.getElem?_toArray]; rfl) (by kernel_rfl) (by kernel_rfl) (by kernel_rfl) (by exact fun _ _ _ h => h) (Or.inl ⟨by rfl, ?_⟩) (by assumption) ?_
  rotate_left
  · intro w' hSw
    go_simp
    try with_reducible rfl
  try simp only [Act.put, List.setIfInBounds_toArray, List.set_cons_zero, List.set_cons_succ]
  refine wpAnyH_take (i := 15) (v := ?_) (by rw [List.getElem?_toArray]; rfl) (by kernel_rfl) (by kernel_rfl) (by kernel_rfl) (by exact fun _ _ _ h => h) (Or.inl ⟨by rfl, ?_⟩) (by assumption) ?_
  rotate_left
  · intro w' hSw
    go_simp
    try with_reducible rfl
  try simp only [Act.put, List.setIfInBounds_toArray, List.set_cons_zero, List.set_cons_succ]
  refine wpAnyH_take (i := 16) (v := ?_) (by rw [List.getElem?_toArray]; rfl) (by kernel_rfl) (by kernel_rfl) (by kernel_rfl) (by exact fun _ _ _ h => h) (Or.inl ⟨by rfl, ?_⟩) (by assumption) ?_
  rotate_left
  · intro w' hSw
    obtain ⟨_, q00, q01, q02, q03⟩ := hSw.1
    obtain ⟨_, q10, q11, q12, q13⟩ := hSw.2
    go_simp
    try with_reducible rfl
  try simp only [Act.put, List.setIfInBounds_toArray, List.set_cons_zero, List.set_cons_succ]
  clear hHeld
  refine wpAnyH_ready (rs := [13]) (by kernel_rfl) (by simp) ?_
  refine AllReadyH.cons (by rw [List.getElem?_toArray]; rfl) (fun Kn hK => ?_) AllReadyH.nil
  go_simp
  with_reducible refine (HLA.out _ HSA.out).mono ?_
  rintro e w16 ⟨rfl, hb16⟩
  have HB16 := Lib.hid (bel_call HB15.out hb16)
  replace HSA := Lib.hid (HSA.out.belowK HOK.out.ks hb16)
  replace HSB := Lib.hid (HSB.out.belowK drk hb16)
  replace HXc := Lib.hid (HXc.out.below hb16)
  replace HXx := Lib.hid (HXx.out.below hb16)
  clear hb16
  try dsimp only
  refine hK.out _ _ ⟨HXc.out, HXx.out⟩ (fun hHeld => ?_)
  try simp only [Act.put, List.setIfInBounds_toArray, List.set_cons_zero, List.set_cons_succ]
  clear hHeld
  refine wpAnyH_ready (rs := [17]) (by kernel_rfl) (by simp) ?_
  refine AllReadyH.cons (by rw [List.getElem?_toArray]; rfl) (fun Kn hK => ?_) AllReadyH.nil
  go_simp
  with_reducible refine (HLB.out _ HSB.out).mono ?_
  rintro e w17 ⟨rfl, hb17⟩
  have HB17 := Lib.hid (bel_call HB16.out hb17)
  replace HSA := Lib.hid (HSA.out.belowK HOK.out.ks hb17)
  replace HSB := Lib.hid (HSB.out.belowK drk hb17)
  replace HXc := Lib.hid (HXc.out.below hb17)
  replace HXx := Lib.hid (HXx.out.below hb17)
  clear hb17
  try dsimp only
  refine hK.out _ _ ⟨HXc.out, HXx.out⟩ (fun hHeld => ?_)
  try simp only [Act.put, List.setIfInBounds_toArray, List.set_cons_zero, List.set_cons_succ]
  refine wpAnyH_take (i := 18) (v := ?_) (by rw [List.getElem?_toArray]; rfl) (by kernel_rfl) (by kernel_rfl) (by kernel_rfl) (by exact fun _ _ _ h => h) (Or.inl ⟨by rfl, ?_⟩) (by assumption) ?_
  rotate_left
  · intro w' hSw
    go_simp
    try with_reducible rfl
  try simp only [Act.put, List.setIfInBounds_toArray, List.set_cons_zero, List.set_cons_succ]
  refine wpAnyH_take (i := 19) (v := ?_) (by rw [List.getElem?_toArray]; rfl) (by kernel_rfl) (by kernel_rfl) (by kernel_rfl) (by exact fun _ _ _ h => h) (Or.inl ⟨by rfl, ?_⟩) (by assumption) ?_
  rotate_left
  · intro w' hSw
    go_simp
    try with_reducible rfl
  try simp only [Act.put, List.setIfInBounds_toArray, List.set_cons_zero, List.set_cons_succ]
  refine wpAnyH_take (i := 20) (v := ?_) (by rw [List.getElem?_toArray]; rfl) (by kernel_rfl) (by kernel_rfl) (by kernel_rfl) (by exact fun _ _ _ h => h) (Or.inl ⟨by rfl, ?_⟩) (by assumption) ?_
  rotate_left
  · intro w' hSw
    go_simp
    try with_reducible rfl
  try simp only [Act.put, List.setIfInBounds_toArray, List.set_cons_zero, List.set_cons_succ]
  refine wpAnyH_take (i := 21) (v := ?_) (by rw [List.getElem?_toArray]; rfl) (by kernel_rfl) (by kernel_rfl) (by kernel_rfl) (by exact fun _ _ _ h => h) (Or.inl ⟨by rfl, ?_⟩) (by assumption) ?_
  rotate_left
  · intro w' hSw
    go_simp
    try with_reducible rfl
  try simp only [Act.put, List.setIfInBounds_toArray, List.set_cons_zero, List.set_cons_succ]
  refine wpAnyH_take (i := 22) (v := ?_) (by rw [List.getElem?_toArray]; rfl) (by kernel_rfl) (by kernel_rfl) (by kernel_rfl) (by exact fun _ _ _ h => h) (Or.inl ⟨by rfl, ?_⟩) (by assumption) ?_
  rotate_left
  · intro w' hSw
    obtain ⟨_, q00, q01, q02, q03⟩ := hSw.1
    obtain ⟨_, q10, q11, q12, q13⟩ := hSw.2
    go_simp
    try with_reducible rfl
  try simp only [Act.put, List.setIfInBounds_toArray, List.set_cons_zero, List.set_cons_succ]
  refine wpAnyH_take (i := 24) (v := ?_) (by rw [List.getElem?_toArray]; rfl) (by kernel_rfl) (by kernel_rfl) (by kernel_rfl) (by exact fun _ _ _ h => h) (Or.inl ⟨by rfl, ?_⟩) (by assumption) ?_
  rotate_left
  · intro w' hSw
    go_simp
    try with_reducible rfl
  try simp only [Act.put, List.setIfInBounds_toArray, List.set_cons_zero, List.set_cons_succ]
  refine wpAnyH_take (i := 25) (v := ?_) (by rw [List.getElem?_toArray]; rfl) (by kernel_rfl) (by kernel_rfl) (by kernel_rfl) (by exact fun _ _ _ h => h) (Or.inl ⟨by rfl, ?_⟩) (by assumption) ?_
  rotate_left
  · intro w' hSw
    obtain ⟨_, q00, q01, q02, q03⟩ := hSw.1
    obtain ⟨_, q10, q11, q12, q13⟩ := hSw.2
    go_simp
    try with_reducible rfl
  try simp only [Act.put, List.setIfInBounds_toArray, List.set_cons_zero, List.set_cons_succ]
  clear hHeld
  refine wpAnyH_ready (rs := [23]) (by kernel_rfl) (by simp) ?_
  refine AllReadyH.cons (by rw [List.getElem?_toArray]; rfl) (fun Kn hK => ?_) AllReadyH.nil
  go_simp
  with_reducible refine (HLN.out _).mono ?_
  rintro e w18 ⟨rfl, hb18⟩
  have HB18 := Lib.hid (bel_call HB17.out hb18)
  replace HSA := Lib.hid (HSA.out.belowK HOK.out.ks hb18)
  replace HSB := Lib.hid (HSB.out.belowK drk hb18)
  replace HXc := Lib.hid (HXc.out.below hb18)
  replace HXx := Lib.hid (HXx.out.below hb18)
  clear hb18
  try dsimp only
  refine hK.out _ _ ⟨HXc.out, HXx.out⟩ (fun hHeld => ?_)
  try simp only [Act.put, List.setIfInBounds_toArray, List.set_cons_zero, List.set_cons_succ]
  clear hHeld
  refine wpAnyH_ready (rs := [26]) (by kernel_rfl) (by simp) ?_
  refine AllReadyH.cons (by rw [List.getElem?_toArray]; rfl) (fun Kn hK => ?_) AllReadyH.nil
  go_simp
  with_reducible refine (HLM.out _).mono ?_
  rintro e w19 ⟨rfl, hb19⟩
  have HB19 := Lib.hid (bel_call HB18.out hb19)
  replace HSA := Lib.hid (HSA.out.belowK HOK.out.ks hb19)
  replace HSB := Lib.hid (HSB.out.belowK drk hb19)
  replace HXc := Lib.hid (HXc.out.below hb19)
  replace HXx := Lib.hid (HXx.out.below hb19)
  clear hb19
  try dsimp only
  refine hK.out _ _ ⟨HXc.out, HXx.out⟩ (fun hHeld => ?_)
  try simp only [Act.put, List.setIfInBounds_toArray, List.set_cons_zero, List.set_cons_succ]
  refine wpAnyH_take (i := 27) (v := ?_) (by rw [List.getElem?_toArray]; rfl) (by kernel_rfl) (by kernel_rfl) (by kernel_rfl) (by exact fun _ _ _ h => h) (Or.inl ⟨by rfl, ?_⟩) (by assumption) ?_
  rotate_left
  · intro w' hSw
    go_simp
    try with_reducible rfl
  try simp only [Act.put, List.setIfInBounds_toArray, List.set_cons_zero, List.set_cons_succ]
  refine wpAnyH_take (i := 28) (v := ?_) (by rw [List.getElem?_toArray]; rfl) (by kernel_rfl) (by kernel_rfl) (by kernel_rfl) (by exact fun _ _ _ h => h) (Or.inl ⟨by rfl, ?_⟩) (by assumption) ?_
  rotate_left
  · intro w' hSw
    go_simp
    try with_reducible rfl
  try simp only [Act.put, List.setIfInBounds_toArray, List.set_cons_zero, List.set_cons_succ]
  refine wpAnyH_take (i := 29) (v := ?_) (by rw [List.getElem?_toArray]; rfl) (by kernel_rfl) (by kernel_rfl) (by kernel_rfl) (by exact fun _ _ _ h => h) (Or.inl ⟨by rfl, ?_⟩) (by assumption) ?_
  rotate_left
  · intro w' hSw
    go_simp
    try with_reducible rfl
  try simp only [Act.put, List.setIfInBounds_toArray, List.set_cons_zero, List.set_cons_succ]
  refine wpAnyH_done (by kernel_rfl) ?_ _
  clear hHeld
  go_wp2
  go_ret
  exact ⟨rfl, HB19.out⟩
end Go.Proofs.Ytamkepfhlfeiiaa.Sto
