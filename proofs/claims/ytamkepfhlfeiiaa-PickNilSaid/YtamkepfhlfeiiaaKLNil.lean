/-
  THE LAW PickNil, walked. By an AI agent; no person has read it.
-/
import Derived.Test.YtamkepfhlfeiiaaKBox
namespace Go.Proofs.Ytamkepfhlfeiiaa.Sto
open Go Go.RowKit Wire

set_option linter.unusedSimpArgs false
set_option linter.unusedVariables false
set_option maxHeartbeats 16000000 in
set_option maxRecDepth 1000000 in
theorem nil_walk {D : DPred} (ok : StoreOK D) (pc : PickOK D) (kd bk : Int) (Y1 Y2 : ByteArray) (k0 : Int) (P : ByteArray) (w : World) (hc : Ch.Ok ⟨kd, bk, Y1, Y2⟩) (h0 : -9223372036854775808 ≤ k0 ∧ k0 ≤ 9223372036854775807) (hP : P.size ≤ 140737488351232) : Calls Try.prog 6 #[.agg #[.int .u8 kd, .int .i64 bk, .string Y1, .string Y2], .int .i64 k0, .string P] w fun e w' => e = .returned (.bool true) ∧ Below w.heap.size w w' := by
  have HOK := Lib.hid ok
  have HPK := Lib.hid pc
  have HSH := Lib.hid fun w => shownk_any ok pc w
  have HK : Hid (∀ w, Calls Try.prog 11 #[.int .i64 k0] w fun e w' => e = .returned (.string (kyN k0)) ∧ Below w.heap.size w w') := Lib.hid fun w => keys_any k0 h0 w
  have hks := kyN_small k0
  generalize kyN k0 = K at HK hks
  have hkz : K.size ≤ 140737488351232 := by omega
  have HCH := Lib.hid hc
  obtain ⟨hkd, hbk, hy1, hy2⟩ := hc
  simp only at hkd hbk hy1 hy2
  clear h0 hbk
  have HNN := Lib.hid fun h => @nil_none K.data.toList kd bk Y1 Y2 h
  have HLI := Lib.hid (@nil_lie K.data.toList kd bk Y1 Y2)
  have HGN := Lib.hid fun w => pc.getn K ⟨kd, bk, Y1, Y2⟩ w hkz HCH.out
  have HGS := fun (w0 w : World) (a : Addr) (X : Nat → Prop) (h : Sts D w0 w a X s0) => Lib.hid (pk_get pc h (k := K.data.toList) rfl hkz HCH.out)
  have HLN := Lib.hid fun w => pc.liesn K ⟨kd, bk, Y1, Y2⟩ w hkz HCH.out
  obtain ⟨T0, hT0⟩ := text_of (pickG s0 K.data.toList ⟨kd, bk, Y1, Y2⟩).1
  have HN : Hid (∀ w, Calls Try.prog 12 #[.pointer none, .string K, .agg #[.int .u8 kd, .int .i64 bk, .string Y1, .string Y2]] w fun e w' => e = .returned (.tuple #[.string T0, .int .i64 (pickG s0 K.data.toList ⟨kd, bk, Y1, Y2⟩).2]) ∧ Below w.heap.size w w') := Lib.hid fun w => (HGN.out w).mono fun e w' h => ⟨sr_val h.1 hT0, h.2⟩
  have HV : Hid (∀ (w0 w : World) (a : Addr) (X : Nat → Prop), Sts D w0 w a X s0 → Calls Try.prog 12 #[.pointer (some a), .string K, .agg #[.int .u8 kd, .int .i64 bk, .string Y1, .string Y2]] w fun e w' => e = .returned (.tuple #[.string T0, .int .i64 (pickG s0 K.data.toList ⟨kd, bk, Y1, Y2⟩).2]) ∧ Below w.heap.size w w') := Lib.hid fun w0 w a X h => ((HGS w0 w a X h).out).mono fun e w' h => ⟨sr_val h.1 hT0, h.2⟩
  have HL : Hid (∀ w, Calls Try.prog 17 #[.pointer none, .string K, .agg #[.int .u8 kd, .int .i64 bk, .string Y1, .string Y2]] w fun e w' => e = .returned (.bool ((pickG s0 K.data.toList ⟨kd, bk, Y1, Y2⟩).2 != 4)) ∧ Below w.heap.size w w') := Lib.hid fun w => by
    have h := HLN.out w
    rw [HLI.out] at h
    exact h
  have HLS : Hid (∀ w, Calls Try.prog 14 #[.pointer none, .string P, .agg #[.int .u8 kd, .int .i64 bk, .string Y1, .string Y2]] w fun e w' => Row w w' [] e ∧ Below w.heap.size w w') := Lib.hid fun w => pc.listn P ⟨kd, bk, Y1, Y2⟩ w hP HCH.out
  have HE4 : kd ≠ 98 → (pickG s0 K.data.toList ⟨kd, bk, Y1, Y2⟩).2 = 4 := fun h => by rw [HNN.out h]; rfl
  generalize (pickG s0 K.data.toList ⟨kd, bk, Y1, Y2⟩).2 = e0 at HN HV HL HE4
  have HE := Lib.hid HE4
  clear HGN HGS HLN HLI HNN HE4 hT0
  go_enter Try.func6, Try.ntmps6
  go_wp2_with fail
  have hbS : Below w.heap.size w (w.alloc (.cells #[.int .u8 kd, .int .i64 bk, .string Y1, .string Y2] 24)) := (Below.refl w.heap.size w).alloc (Nat.le_refl _) _
  have hxS := b4_new w (.int .u8 kd) (.int .i64 bk) (.string Y1) (.string Y2) 24
  generalize w.alloc (.cells #[.int .u8 kd, .int .i64 bk, .string Y1, .string Y2] 24) = wSc at hbS hxS ⊢
  have HB1 := Lib.hid hbS
  have HXc := Lib.hid hxS
  clear hbS hxS
  go_wp2_with fail
  with_reducible refine (HSH.out _).mono ?_
  rintro e w2 ⟨rfl, hb2⟩
  have HB2 := Lib.hid (bel_call HB1.out hb2)
  replace HXc := Lib.hid (HXc.out.below hb2)
  clear hb2
  try dsimp only
  go_wp2_with fail
  with_reducible refine (st_new HOK.out HB2.out).mono ?_
  rintro e w3 ⟨aS, XS, rfl, hsS, hxS, hb3⟩
  have HB3 := Lib.hid (bel_call HB2.out hb3)
  replace HXc := Lib.hid (HXc.out.below hb3)
  have HSS := Lib.hid hsS
  clear hsS hb3 hxS
  try dsimp only
  obtain ⟨nc, dc0, dc1, dc2, dc3⟩ := HXc.out
  by_cases h5 : (50000 : Int) < (Y2.size : Int)
  · go_wp2
    go_ret
    exact ⟨rfl, HB3.out⟩
  by_cases h6 : (1000 : Int) < (Y1.size : Int) + (P.size : Int)
  · go_wp2
    go_ret
    exact ⟨rfl, HB3.out⟩
  go_wp2_with fail
  clear nc dc0 dc1 dc2 dc3
  have hdr : B4 w.heap.size w3.drew (.int .u8 kd) (.int .i64 bk) (.string Y1) (.string Y2) ∧ Below w3.heap.size w3 w3.drew := ⟨HXc.out.below (Below.drewN' (Below.refl w3.heap.size w3) 1), (Below.drewN' (Below.refl w3.heap.size w3) 1)⟩
  refine Ord.region_lit (S := fun w' => B4 w.heap.size w' (.int .u8 kd) (.int .i64 bk) (.string Y1) (.string Y2) ∧ Below w3.heap.size w3 w') (by kernel_rfl) (by kernel_rfl) hdr ?_
  clear hdr
  refine Ord.stepR (v := ?_) (by rfl) ?_ ?_
  rotate_left
  · intro w' hSw
    go_simp
    try with_reducible rfl
  try simp only [Act.put, List.setIfInBounds_toArray, List.set_cons_zero, List.set_cons_succ]
  refine Ord.stepC (v := .string K) (by rfl) ?_ (fun w1 hS => (HK.out _).mono fun e w2 h => ⟨h.1, ⟨hS.1.below (h.2), hS.2.trans ((h.2).mono hS.2.size)⟩⟩) ?_
  · intro w' hSw
    go_simp
    try with_reducible rfl
  try simp only [Act.put, List.setIfInBounds_toArray, List.set_cons_zero, List.set_cons_succ]
  refine Ord.stepR (v := ?_) (by rfl) ?_ ?_
  rotate_left
  · intro w' hSw
    obtain ⟨_, q00, q01, q02, q03⟩ := hSw.1
    go_simp
    try with_reducible rfl
  try simp only [Act.put, List.setIfInBounds_toArray, List.set_cons_zero, List.set_cons_succ]
  refine Ord.stepC (v := .tuple #[.string T0, .int .i64 e0]) (by rfl) ?_ (fun w1 hS => (HN.out _).mono fun e w2 h => ⟨h.1, ⟨hS.1.below (h.2), hS.2.trans ((h.2).mono hS.2.size)⟩⟩) ?_
  · intro w' hSw
    go_simp
    try with_reducible rfl
  try simp only [Act.put, List.setIfInBounds_toArray, List.set_cons_zero, List.set_cons_succ]
  refine Ord.stepR (v := ?_) (by rfl) ?_ ?_
  rotate_left
  · intro w' hSw
    go_simp
    try with_reducible rfl
  try simp only [Act.put, List.setIfInBounds_toArray, List.set_cons_zero, List.set_cons_succ]
  refine Ord.stepR (v := ?_) (by rfl) ?_ ?_
  rotate_left
  · intro w' hSw
    go_simp
    try with_reducible rfl
  try simp only [Act.put, List.setIfInBounds_toArray, List.set_cons_zero, List.set_cons_succ]
  refine Ord.stepR (v := ?_) (by rfl) ?_ ?_
  rotate_left
  · intro w' hSw
    go_simp
    try with_reducible rfl
  try simp only [Act.put, List.setIfInBounds_toArray, List.set_cons_zero, List.set_cons_succ]
  refine Ord.stepR (v := ?_) (by rfl) ?_ ?_
  rotate_left
  · intro w' hSw
    go_simp
    try with_reducible rfl
  try simp only [Act.put, List.setIfInBounds_toArray, List.set_cons_zero, List.set_cons_succ]
  refine Ord.stepR (v := ?_) (by rfl) ?_ ?_
  rotate_left
  · intro w' hSw
    go_simp
    try with_reducible rfl
  try simp only [Act.put, List.setIfInBounds_toArray, List.set_cons_zero, List.set_cons_succ]
  refine Ord.stepD fun Z1 hZ => ?_
  replace HXc := Lib.hid hZ.1
  have HB4 := Lib.hid (Bel.call HB3.out hZ.2)
  replace HSS := Lib.hid (HSS.out.below HOK.out hZ.2)
  clear hZ
  have HSX : Hid (∀ w1, Below Z1.heap.size Z1 w1 → Sts D w w1 aS XS s0) := Lib.hid fun w1 h => HSS.out.below HOK.out h
  go_wp2_with fail
  have hdr : B4 w.heap.size Z1.drew (.int .u8 kd) (.int .i64 bk) (.string Y1) (.string Y2) ∧ Below Z1.heap.size Z1 Z1.drew := ⟨HXc.out.below (Below.drewN' (Below.refl Z1.heap.size Z1) 1), (Below.drewN' (Below.refl Z1.heap.size Z1) 1)⟩
  refine Ord.region_lit (S := fun w' => B4 w.heap.size w' (.int .u8 kd) (.int .i64 bk) (.string Y1) (.string Y2) ∧ Below Z1.heap.size Z1 w') (by kernel_rfl) (by kernel_rfl) hdr ?_
  clear hdr
  refine Ord.stepR (v := ?_) (by rfl) ?_ ?_
  rotate_left
  · intro w' hSw
    go_simp
    try with_reducible rfl
  try simp only [Act.put, List.setIfInBounds_toArray, List.set_cons_zero, List.set_cons_succ]
  refine Ord.stepR (v := ?_) (by rfl) ?_ ?_
  rotate_left
  · intro w' hSw
    go_simp
    try with_reducible rfl
  try simp only [Act.put, List.setIfInBounds_toArray, List.set_cons_zero, List.set_cons_succ]
  refine Ord.stepC (v := .string K) (by rfl) ?_ (fun w1 hS => (HK.out _).mono fun e w2 h => ⟨h.1, ⟨hS.1.below (h.2), hS.2.trans ((h.2).mono hS.2.size)⟩⟩) ?_
  · intro w' hSw
    go_simp
    try with_reducible rfl
  try simp only [Act.put, List.setIfInBounds_toArray, List.set_cons_zero, List.set_cons_succ]
  refine Ord.stepR (v := ?_) (by rfl) ?_ ?_
  rotate_left
  · intro w' hSw
    obtain ⟨_, q00, q01, q02, q03⟩ := hSw.1
    go_simp
    try with_reducible rfl
  try simp only [Act.put, List.setIfInBounds_toArray, List.set_cons_zero, List.set_cons_succ]
  refine Ord.stepC (v := .tuple #[.string T0, .int .i64 e0]) (by rfl) ?_ (fun w1 hS => (HV.out _ _ _ _ (HSX.out _ hS.2)).mono fun e w2 h => ⟨h.1, ⟨hS.1.below (h.2), hS.2.trans ((h.2).mono hS.2.size)⟩⟩) ?_
  · intro w' hSw
    go_simp
    try with_reducible rfl
  try simp only [Act.put, List.setIfInBounds_toArray, List.set_cons_zero, List.set_cons_succ]
  refine Ord.stepR (v := ?_) (by rfl) ?_ ?_
  rotate_left
  · intro w' hSw
    go_simp
    try with_reducible rfl
  try simp only [Act.put, List.setIfInBounds_toArray, List.set_cons_zero, List.set_cons_succ]
  refine Ord.stepR (v := ?_) (by rfl) ?_ ?_
  rotate_left
  · intro w' hSw
    go_simp
    try with_reducible rfl
  try simp only [Act.put, List.setIfInBounds_toArray, List.set_cons_zero, List.set_cons_succ]
  refine Ord.stepR (v := ?_) (by rfl) ?_ ?_
  rotate_left
  · intro w' hSw
    go_simp
    try with_reducible rfl
  try simp only [Act.put, List.setIfInBounds_toArray, List.set_cons_zero, List.set_cons_succ]
  refine Ord.stepR (v := ?_) (by rfl) ?_ ?_
  rotate_left
  · intro w' hSw
    go_simp
    try with_reducible rfl
  try simp only [Act.put, List.setIfInBounds_toArray, List.set_cons_zero, List.set_cons_succ]
  refine Ord.stepR (v := ?_) (by rfl) ?_ ?_
  rotate_left
  · intro w' hSw
    go_simp
    try with_reducible rfl
  try simp only [Act.put, List.setIfInBounds_toArray, List.set_cons_zero, List.set_cons_succ]
  refine Ord.stepD fun Z2 hZ => ?_
  replace HXc := Lib.hid hZ.1
  have HB5 := Lib.hid (Bel.call HB4.out hZ.2)
  replace HSS := Lib.hid (HSS.out.below HOK.out hZ.2)
  clear hZ
  clear HSX
  obtain ⟨nc, dc0, dc1, dc2, dc3⟩ := HXc.out
  by_cases hk : kd = 98
  · have hkb : (kd != 98) = false := by rw [hk]; rfl
    clear hk
    go_wp2_with fail
    clear nc dc0 dc1 dc2 dc3
    have hdr : Below Z2.heap.size Z2 Z2.drew := Below.drewN' (Below.refl Z2.heap.size Z2) 1
    refine wp_region_held_drew (S := fun w' => B4 w.heap.size w' (.int .u8 kd) (.int .i64 bk) (.string Y1) (.string Y2)) (by kernel_rfl) (HXc.out.below hdr) (fun hHeld => ?_)
    clear hHeld
    generalize Z2.drew = wd3 at hdr ⊢
    have HB6 := Lib.hid (bel_call HB5.out hdr)
    replace HSS := Lib.hid (HSS.out.belowK HOK.out.ks hdr)
    replace HXc := Lib.hid (HXc.out.below hdr)
    clear hdr
    have hHeld : B4 w.heap.size wd3 (.int .u8 kd) (.int .i64 bk) (.string Y1) (.string Y2) := HXc.out
    refine wpAnyH_take (i := 0) (v := ?_) (by rw [List.getElem?_toArray]; rfl) (by kernel_rfl) (by kernel_rfl) (by kernel_rfl) (by exact fun _ _ _ h => h) (Or.inl ⟨by rfl, ?_⟩) (by assumption) ?_
    rotate_left
    · intro w' hSw
      go_simp
      try with_reducible rfl
    try simp only [Act.put, List.setIfInBounds_toArray, List.set_cons_zero, List.set_cons_succ]
    refine wpAnyH_take (i := 1) (v := ?_) (by rw [List.getElem?_toArray]; rfl) (by kernel_rfl) (by kernel_rfl) (by kernel_rfl) (by exact fun _ _ _ h => h) (Or.inl ⟨by rfl, ?_⟩) (by assumption) ?_
    rotate_left
    · intro w' hSw
      obtain ⟨_, q00, q01, q02, q03⟩ := hSw
      go_simp
      try with_reducible rfl
    try simp only [Act.put, List.setIfInBounds_toArray, List.set_cons_zero, List.set_cons_succ]
    clear hHeld
    refine wpAnyH_ready (rs := [2]) (by kernel_rfl) (by simp) ?_
    refine AllReadyH.cons (by rw [List.getElem?_toArray]; rfl) (fun Kn hK => ?_) AllReadyH.nil
    go_simp
    go_at_call 14
    with_reducible refine ((HLS.out _).mono fun e w' h => (⟨told_of HOK.out HSS.out h.1, h.2⟩ : Told w w' XS [] e ∧ _)).mono ?_
    rintro e w7 ⟨hx, hb7⟩
    have HB7 := Lib.hid (bel_call HB6.out hb7)
    replace HSS := Lib.hid (HSS.out.belowK HOK.out.ks hb7)
    replace HXc := Lib.hid (HXc.out.below hb7)
    clear hb7
    obtain ⟨Aa, ca, Ya, hq, hc, hr, ho, rfl⟩ := hx
    have HQa := Lib.hid hq
    have HCa := Lib.hid hc
    have HRa : Hid (RowO _ _ _ Aa Ya) := Lib.hid ⟨hr, ho⟩
    clear hq hc hr ho
    have hla : Ya.length = 0 := by rw [← bl_len, HQa.out]; rfl
    rw [hla]
    clear hla
    try dsimp only
    clear HRa
    refine hK.out _ _ HXc.out (fun hHeld => ?_)
    try simp only [Act.put, List.setIfInBounds_toArray, List.set_cons_zero, List.set_cons_succ]
    refine wpAnyH_take (i := 3) (v := ?_) (by rw [List.getElem?_toArray]; rfl) (by kernel_rfl) (by kernel_rfl) (by kernel_rfl) (by exact fun _ _ _ h => h) (Or.inl ⟨by rfl, ?_⟩) (by assumption) ?_
    rotate_left
    · intro w' hSw
      go_simp
      try with_reducible rfl
    try simp only [Act.put, List.setIfInBounds_toArray, List.set_cons_zero, List.set_cons_succ]
    refine wpAnyH_take (i := 4) (v := ?_) (by rw [List.getElem?_toArray]; rfl) (by kernel_rfl) (by kernel_rfl) (by kernel_rfl) (by exact fun _ _ _ h => h) (Or.inl ⟨by rfl, ?_⟩) (by assumption) ?_
    rotate_left
    · intro w' hSw
      go_simp
      try with_reducible rfl
    try simp only [Act.put, List.setIfInBounds_toArray, List.set_cons_zero, List.set_cons_succ]
    refine wpAnyH_take (i := 5) (v := ?_) (by rw [List.getElem?_toArray]; rfl) (by kernel_rfl) (by kernel_rfl) (by kernel_rfl) (by exact fun _ _ _ h => h) (Or.inl ⟨by rfl, ?_⟩) (by assumption) ?_
    rotate_left
    · intro w' hSw
      go_simp
      try with_reducible rfl
    try simp only [Act.put, List.setIfInBounds_toArray, List.set_cons_zero, List.set_cons_succ]
    refine wpAnyH_take (i := 6) (v := ?_) (by rw [List.getElem?_toArray]; rfl) (by kernel_rfl) (by kernel_rfl) (by kernel_rfl) (by exact fun _ _ _ h => h) (Or.inl ⟨by rfl, ?_⟩) (by assumption) ?_
    rotate_left
    · intro w' hSw
      go_simp
      try with_reducible rfl
    try simp only [Act.put, List.setIfInBounds_toArray, List.set_cons_zero, List.set_cons_succ]
    refine wpAnyH_take (i := 7) (v := ?_) (by rw [List.getElem?_toArray]; rfl) (by kernel_rfl) (by kernel_rfl) (by kernel_rfl) (by exact fun _ _ _ h => h) (Or.inl ⟨by rfl, ?_⟩) (by assumption) ?_
    rotate_left
    · intro w' hSw
      go_simp
      try with_reducible rfl
    try simp only [Act.put, List.setIfInBounds_toArray, List.set_cons_zero, List.set_cons_succ]
    refine wpAnyH_take (i := 8) (v := ?_) (by rw [List.getElem?_toArray]; rfl) (by kernel_rfl) (by kernel_rfl) (by kernel_rfl) (by exact fun _ _ _ h => h) (Or.inl ⟨by rfl, ?_⟩) (by assumption) ?_
    rotate_left
    · intro w' hSw
      obtain ⟨_, q00, q01, q02, q03⟩ := hSw
      go_simp
      try with_reducible rfl
    try simp only [Act.put, List.setIfInBounds_toArray, List.set_cons_zero, List.set_cons_succ]
    clear hHeld
    refine wpAnyH_ready (rs := [9]) (by kernel_rfl) (by simp) ?_
    refine AllReadyH.cons (by rw [List.getElem?_toArray]; rfl) (fun Kn hK => ?_) AllReadyH.nil
    go_simp
    go_at_call 14
    with_reducible refine (pk_list HOK.out HPK.out HSS.out (k := P.data.toList) rfl hP HCH.out).mono ?_
    rintro e w8 ⟨hx, hb8⟩
    have HB8 := Lib.hid (bel_call HB7.out hb8)
    replace HSS := Lib.hid (HSS.out.belowK HOK.out.ks hb8)
    replace HXc := Lib.hid (HXc.out.below hb8)
    clear hb8
    obtain ⟨lb, hlb, hx⟩ := hx
    have HLb := Lib.hid hlb
    clear hlb
    obtain ⟨Ab, cb, Yb, hq, hc, hr, ho, rfl⟩ := hx
    have HQb := Lib.hid hq
    have HCb := Lib.hid hc
    have HRb : Hid (RowO _ _ _ Ab Yb) := Lib.hid ⟨hr, ho⟩
    clear hq hc hr ho
    have hlb : Yb.length = 0 := by rw [← bl_len, HQb.out, pl_s0 HLb.out]; rfl
    rw [hlb]
    clear hlb
    try dsimp only
    clear HRb
    refine hK.out _ _ HXc.out (fun hHeld => ?_)
    try simp only [Act.put, List.setIfInBounds_toArray, List.set_cons_zero, List.set_cons_succ]
    refine wpAnyH_take (i := 10) (v := ?_) (by rw [List.getElem?_toArray]; rfl) (by kernel_rfl) (by kernel_rfl) (by kernel_rfl) (by exact fun _ _ _ h => h) (Or.inl ⟨by rfl, ?_⟩) (by assumption) ?_
    rotate_left
    · intro w' hSw
      go_simp
      try with_reducible rfl
    try simp only [Act.put, List.setIfInBounds_toArray, List.set_cons_zero, List.set_cons_succ]
    refine wpAnyH_take (i := 11) (v := ?_) (by rw [List.getElem?_toArray]; rfl) (by kernel_rfl) (by kernel_rfl) (by kernel_rfl) (by exact fun _ _ _ h => h) (Or.inl ⟨by rfl, ?_⟩) (by assumption) ?_
    rotate_left
    · intro w' hSw
      go_simp
      try with_reducible rfl
    try simp only [Act.put, List.setIfInBounds_toArray, List.set_cons_zero, List.set_cons_succ]
    refine wpAnyH_take (i := 12) (v := ?_) (by rw [List.getElem?_toArray]; rfl) (by kernel_rfl) (by kernel_rfl) (by kernel_rfl) (by exact fun _ _ _ h => h) (Or.inl ⟨by rfl, ?_⟩) (by assumption) ?_
    rotate_left
    · intro w' hSw
      go_simp
      try with_reducible rfl
    try simp only [Act.put, List.setIfInBounds_toArray, List.set_cons_zero, List.set_cons_succ]
    refine wpAnyH_take (i := 13) (v := ?_) (by rw [List.getElem?_toArray]; rfl) (by kernel_rfl) (by kernel_rfl) (by kernel_rfl) (by exact fun _ _ _ h => h) (Or.inl ⟨by rfl, ?_⟩) (by assumption) ?_
    rotate_left
    · intro w' hSw
      go_simp
      try with_reducible rfl
    try simp only [Act.put, List.setIfInBounds_toArray, List.set_cons_zero, List.set_cons_succ]
    refine wpAnyH_take (i := 14) (v := ?_) (by rw [List.getElem?_toArray]; rfl) (by kernel_rfl) (by kernel_rfl) (by kernel_rfl) (by exact fun _ _ _ h => h) (Or.inl ⟨by rfl, ?_⟩) (by assumption) ?_
    rotate_left
    · intro w' hSw
      go_simp
      try with_reducible rfl
    try simp only [Act.put, List.setIfInBounds_toArray, List.set_cons_zero, List.set_cons_succ]
    refine wpAnyH_take (i := 16) (v := ?_) (by rw [List.getElem?_toArray]; rfl) (by kernel_rfl) (by kernel_rfl) (by kernel_rfl) (by exact fun _ _ _ h => h) (Or.inl ⟨by rfl, ?_⟩) (by assumption) ?_
    rotate_left
    · intro w' hSw
      obtain ⟨_, q00, q01, q02, q03⟩ := hSw
      go_simp
      try with_reducible rfl
    try simp only [Act.put, List.setIfInBounds_toArray, List.set_cons_zero, List.set_cons_succ]
    refine wpAnyH_take (i := 18) (v := ?_) (by rw [List.getElem?_toArray]; rfl) (by kernel_rfl) (by kernel_rfl) (by kernel_rfl) (by exact fun _ _ _ h => h) (Or.inl ⟨by rfl, ?_⟩) (by assumption) ?_
    rotate_left
    · intro w' hSw
      go_simp
      try with_reducible rfl
    try simp only [Act.put, List.setIfInBounds_toArray, List.set_cons_zero, List.set_cons_succ]
    refine wpAnyH_take (i := 19) (v := ?_) (by rw [List.getElem?_toArray]; rfl) (by kernel_rfl) (by kernel_rfl) (by kernel_rfl) (by exact fun _ _ _ h => h) (Or.inl ⟨by rfl, ?_⟩) (by assumption) ?_
    rotate_left
    · intro w' hSw
      go_simp
      try with_reducible rfl
    try simp only [Act.put, List.setIfInBounds_toArray, List.set_cons_zero, List.set_cons_succ]
    clear hHeld
    refine wpAnyH_ready (rs := [15]) (by kernel_rfl) (by simp) ?_
    refine AllReadyH.cons (by rw [List.getElem?_toArray]; rfl) (fun Kn hK => ?_) AllReadyH.nil
    go_simp
    go_at_call 11
    with_reducible refine (HK.out _).mono ?_
    rintro e w9 ⟨rfl, hb9⟩
    have HB9 := Lib.hid (bel_call HB8.out hb9)
    replace HSS := Lib.hid (HSS.out.belowK HOK.out.ks hb9)
    replace HXc := Lib.hid (HXc.out.below hb9)
    clear hb9
    try dsimp only
    refine hK.out _ _ HXc.out (fun hHeld => ?_)
    try simp only [Act.put, List.setIfInBounds_toArray, List.set_cons_zero, List.set_cons_succ]
    clear hHeld
    refine wpAnyH_ready (rs := [17]) (by kernel_rfl) (by simp) ?_
    refine AllReadyH.cons (by rw [List.getElem?_toArray]; rfl) (fun Kn hK => ?_) AllReadyH.nil
    go_simp
    go_at_call 17
    with_reducible refine (HL.out _).mono ?_
    rintro e w10 ⟨rfl, hb10⟩
    have HB10 := Lib.hid (bel_call HB9.out hb10)
    replace HSS := Lib.hid (HSS.out.belowK HOK.out.ks hb10)
    replace HXc := Lib.hid (HXc.out.below hb10)
    clear hb10
    try dsimp only
    refine hK.out _ _ HXc.out (fun hHeld => ?_)
    try simp only [Act.put, List.setIfInBounds_toArray, List.set_cons_zero, List.set_cons_succ]
    refine wpAnyH_take (i := 20) (v := ?_) (by rw [List.getElem?_toArray]; rfl) (by kernel_rfl) (by kernel_rfl) (by kernel_rfl) (by exact fun _ _ _ h => h) (Or.inl ⟨by rfl, ?_⟩) (by assumption) ?_
    rotate_left
    · intro w' hSw
      go_simp
      try with_reducible rfl
    try simp only [Act.put, List.setIfInBounds_toArray, List.set_cons_zero, List.set_cons_succ]
    refine wpAnyH_take (i := 21) (v := ?_) (by rw [List.getElem?_toArray]; rfl) (by kernel_rfl) (by kernel_rfl) (by kernel_rfl) (by exact fun _ _ _ h => h) (Or.inl ⟨by rfl, ?_⟩) (by assumption) ?_
    rotate_left
    · intro w' hSw
      go_simp
      try with_reducible rfl
    try simp only [Act.put, List.setIfInBounds_toArray, List.set_cons_zero, List.set_cons_succ]
    refine wpAnyH_take (i := 22) (v := ?_) (by rw [List.getElem?_toArray]; rfl) (by kernel_rfl) (by kernel_rfl) (by kernel_rfl) (by exact fun _ _ _ h => h) (Or.inl ⟨by rfl, ?_⟩) (by assumption) ?_
    rotate_left
    · intro w' hSw
      go_simp
      try with_reducible rfl
    try simp only [Act.put, List.setIfInBounds_toArray, List.set_cons_zero, List.set_cons_succ]
    refine wpAnyH_done (by kernel_rfl) ?_ _
    clear hHeld
    go_wp2
    go_ret
    exact ⟨rfl, HB10.out⟩
  · obtain rfl := HE.out hk
    go_wp2_with fail
    clear nc dc0 dc1 dc2 dc3
    have hdr : Below Z2.heap.size Z2 Z2.drew := Below.drewN' (Below.refl Z2.heap.size Z2) 1
    refine wp_region_held_drew (S := fun w' => B4 w.heap.size w' (.int .u8 kd) (.int .i64 bk) (.string Y1) (.string Y2)) (by kernel_rfl) (HXc.out.below hdr) (fun hHeld => ?_)
    clear hHeld
    generalize Z2.drew = wd3 at hdr ⊢
    have HB6 := Lib.hid (bel_call HB5.out hdr)
    replace HSS := Lib.hid (HSS.out.belowK HOK.out.ks hdr)
    replace HXc := Lib.hid (HXc.out.below hdr)
    clear hdr
    have hHeld : B4 w.heap.size wd3 (.int .u8 kd) (.int .i64 bk) (.string Y1) (.string Y2) := HXc.out
    refine wpAnyH_take (i := 0) (v := ?_) (by rw [List.getElem?_toArray]; rfl) (by kernel_rfl) (by kernel_rfl) (by kernel_rfl) (by exact fun _ _ _ h => h) (Or.inl ⟨by rfl, ?_⟩) (by assumption) ?_
    rotate_left
    · intro w' hSw
      go_simp
      try with_reducible rfl
    try simp only [Act.put, List.setIfInBounds_toArray, List.set_cons_zero, List.set_cons_succ]
    refine wpAnyH_take (i := 1) (v := ?_) (by rw [List.getElem?_toArray]; rfl) (by kernel_rfl) (by kernel_rfl) (by kernel_rfl) (by exact fun _ _ _ h => h) (Or.inl ⟨by rfl, ?_⟩) (by assumption) ?_
    rotate_left
    · intro w' hSw
      obtain ⟨_, q00, q01, q02, q03⟩ := hSw
      go_simp
      try with_reducible rfl
    try simp only [Act.put, List.setIfInBounds_toArray, List.set_cons_zero, List.set_cons_succ]
    clear hHeld
    refine wpAnyH_ready (rs := [2]) (by kernel_rfl) (by simp) ?_
    refine AllReadyH.cons (by rw [List.getElem?_toArray]; rfl) (fun Kn hK => ?_) AllReadyH.nil
    go_simp
    go_at_call 14
    with_reducible refine ((HLS.out _).mono fun e w' h => (⟨told_of HOK.out HSS.out h.1, h.2⟩ : Told w w' XS [] e ∧ _)).mono ?_
    rintro e w7 ⟨hx, hb7⟩
    have HB7 := Lib.hid (bel_call HB6.out hb7)
    replace HSS := Lib.hid (HSS.out.belowK HOK.out.ks hb7)
    replace HXc := Lib.hid (HXc.out.below hb7)
    clear hb7
    obtain ⟨Aa, ca, Ya, hq, hc, hr, ho, rfl⟩ := hx
    have HQa := Lib.hid hq
    have HCa := Lib.hid hc
    have HRa : Hid (RowO _ _ _ Aa Ya) := Lib.hid ⟨hr, ho⟩
    clear hq hc hr ho
    have hla : Ya.length = 0 := by rw [← bl_len, HQa.out]; rfl
    rw [hla]
    clear hla
    try dsimp only
    clear HRa
    refine hK.out _ _ HXc.out (fun hHeld => ?_)
    try simp only [Act.put, List.setIfInBounds_toArray, List.set_cons_zero, List.set_cons_succ]
    refine wpAnyH_take (i := 3) (v := ?_) (by rw [List.getElem?_toArray]; rfl) (by kernel_rfl) (by kernel_rfl) (by kernel_rfl) (by exact fun _ _ _ h => h) (Or.inl ⟨by rfl, ?_⟩) (by assumption) ?_
    rotate_left
    · intro w' hSw
      go_simp
      try with_reducible rfl
    try simp only [Act.put, List.setIfInBounds_toArray, List.set_cons_zero, List.set_cons_succ]
    refine wpAnyH_take (i := 4) (v := ?_) (by rw [List.getElem?_toArray]; rfl) (by kernel_rfl) (by kernel_rfl) (by kernel_rfl) (by exact fun _ _ _ h => h) (Or.inl ⟨by rfl, ?_⟩) (by assumption) ?_
    rotate_left
    · intro w' hSw
      go_simp
      try with_reducible rfl
    try simp only [Act.put, List.setIfInBounds_toArray, List.set_cons_zero, List.set_cons_succ]
    refine wpAnyH_take (i := 5) (v := ?_) (by rw [List.getElem?_toArray]; rfl) (by kernel_rfl) (by kernel_rfl) (by kernel_rfl) (by exact fun _ _ _ h => h) (Or.inl ⟨by rfl, ?_⟩) (by assumption) ?_
    rotate_left
    · intro w' hSw
      go_simp
      try with_reducible rfl
    try simp only [Act.put, List.setIfInBounds_toArray, List.set_cons_zero, List.set_cons_succ]
    refine wpAnyH_take (i := 6) (v := ?_) (by rw [List.getElem?_toArray]; rfl) (by kernel_rfl) (by kernel_rfl) (by kernel_rfl) (by exact fun _ _ _ h => h) (Or.inl ⟨by rfl, ?_⟩) (by assumption) ?_
    rotate_left
    · intro w' hSw
      go_simp
      try with_reducible rfl
    try simp only [Act.put, List.setIfInBounds_toArray, List.set_cons_zero, List.set_cons_succ]
    refine wpAnyH_take (i := 7) (v := ?_) (by rw [List.getElem?_toArray]; rfl) (by kernel_rfl) (by kernel_rfl) (by kernel_rfl) (by exact fun _ _ _ h => h) (Or.inl ⟨by rfl, ?_⟩) (by assumption) ?_
    rotate_left
    · intro w' hSw
      go_simp
      try with_reducible rfl
    try simp only [Act.put, List.setIfInBounds_toArray, List.set_cons_zero, List.set_cons_succ]
    refine wpAnyH_take (i := 8) (v := ?_) (by rw [List.getElem?_toArray]; rfl) (by kernel_rfl) (by kernel_rfl) (by kernel_rfl) (by exact fun _ _ _ h => h) (Or.inl ⟨by rfl, ?_⟩) (by assumption) ?_
    rotate_left
    · intro w' hSw
      obtain ⟨_, q00, q01, q02, q03⟩ := hSw
      go_simp
      try with_reducible rfl
    try simp only [Act.put, List.setIfInBounds_toArray, List.set_cons_zero, List.set_cons_succ]
    clear hHeld
    refine wpAnyH_ready (rs := [9]) (by kernel_rfl) (by simp) ?_
    refine AllReadyH.cons (by rw [List.getElem?_toArray]; rfl) (fun Kn hK => ?_) AllReadyH.nil
    go_simp
    go_at_call 14
    with_reducible refine (pk_list HOK.out HPK.out HSS.out (k := P.data.toList) rfl hP HCH.out).mono ?_
    rintro e w8 ⟨hx, hb8⟩
    have HB8 := Lib.hid (bel_call HB7.out hb8)
    replace HSS := Lib.hid (HSS.out.belowK HOK.out.ks hb8)
    replace HXc := Lib.hid (HXc.out.below hb8)
    clear hb8
    obtain ⟨lb, hlb, hx⟩ := hx
    have HLb := Lib.hid hlb
    clear hlb
    obtain ⟨Ab, cb, Yb, hq, hc, hr, ho, rfl⟩ := hx
    have HQb := Lib.hid hq
    have HCb := Lib.hid hc
    have HRb : Hid (RowO _ _ _ Ab Yb) := Lib.hid ⟨hr, ho⟩
    clear hq hc hr ho
    have hlb : Yb.length = 0 := by rw [← bl_len, HQb.out, pl_s0 HLb.out]; rfl
    rw [hlb]
    clear hlb
    try dsimp only
    clear HRb
    refine hK.out _ _ HXc.out (fun hHeld => ?_)
    try simp only [Act.put, List.setIfInBounds_toArray, List.set_cons_zero, List.set_cons_succ]
    refine wpAnyH_take (i := 10) (v := ?_) (by rw [List.getElem?_toArray]; rfl) (by kernel_rfl) (by kernel_rfl) (by kernel_rfl) (by exact fun _ _ _ h => h) (Or.inl ⟨by rfl, ?_⟩) (by assumption) ?_
    rotate_left
    · intro w' hSw
      go_simp
      try with_reducible rfl
    try simp only [Act.put, List.setIfInBounds_toArray, List.set_cons_zero, List.set_cons_succ]
    refine wpAnyH_take (i := 11) (v := ?_) (by rw [List.getElem?_toArray]; rfl) (by kernel_rfl) (by kernel_rfl) (by kernel_rfl) (by exact fun _ _ _ h => h) (Or.inl ⟨by rfl, ?_⟩) (by assumption) ?_
    rotate_left
    · intro w' hSw
      go_simp
      try with_reducible rfl
    try simp only [Act.put, List.setIfInBounds_toArray, List.set_cons_zero, List.set_cons_succ]
    refine wpAnyH_take (i := 12) (v := ?_) (by rw [List.getElem?_toArray]; rfl) (by kernel_rfl) (by kernel_rfl) (by kernel_rfl) (by exact fun _ _ _ h => h) (Or.inl ⟨by rfl, ?_⟩) (by assumption) ?_
    rotate_left
    · intro w' hSw
      go_simp
      try with_reducible rfl
    try simp only [Act.put, List.setIfInBounds_toArray, List.set_cons_zero, List.set_cons_succ]
    refine wpAnyH_take (i := 13) (v := ?_) (by rw [List.getElem?_toArray]; rfl) (by kernel_rfl) (by kernel_rfl) (by kernel_rfl) (by exact fun _ _ _ h => h) (Or.inl ⟨by rfl, ?_⟩) (by assumption) ?_
    rotate_left
    · intro w' hSw
      go_simp
      try with_reducible rfl
    try simp only [Act.put, List.setIfInBounds_toArray, List.set_cons_zero, List.set_cons_succ]
    refine wpAnyH_take (i := 14) (v := ?_) (by rw [List.getElem?_toArray]; rfl) (by kernel_rfl) (by kernel_rfl) (by kernel_rfl) (by exact fun _ _ _ h => h) (Or.inl ⟨by rfl, ?_⟩) (by assumption) ?_
    rotate_left
    · intro w' hSw
      go_simp
      try with_reducible rfl
    try simp only [Act.put, List.setIfInBounds_toArray, List.set_cons_zero, List.set_cons_succ]
    refine wpAnyH_take (i := 16) (v := ?_) (by rw [List.getElem?_toArray]; rfl) (by kernel_rfl) (by kernel_rfl) (by kernel_rfl) (by exact fun _ _ _ h => h) (Or.inl ⟨by rfl, ?_⟩) (by assumption) ?_
    rotate_left
    · intro w' hSw
      obtain ⟨_, q00, q01, q02, q03⟩ := hSw
      go_simp
      try with_reducible rfl
    try simp only [Act.put, List.setIfInBounds_toArray, List.set_cons_zero, List.set_cons_succ]
    refine wpAnyH_take (i := 18) (v := ?_) (by rw [List.getElem?_toArray]; rfl) (by kernel_rfl) (by kernel_rfl) (by kernel_rfl) (by exact fun _ _ _ h => h) (Or.inl ⟨by rfl, ?_⟩) (by assumption) ?_
    rotate_left
    · intro w' hSw
      go_simp
      try with_reducible rfl
    try simp only [Act.put, List.setIfInBounds_toArray, List.set_cons_zero, List.set_cons_succ]
    refine wpAnyH_take (i := 19) (v := ?_) (by rw [List.getElem?_toArray]; rfl) (by kernel_rfl) (by kernel_rfl) (by kernel_rfl) (by exact fun _ _ _ h => h) (Or.inl ⟨by rfl, ?_⟩) (by assumption) ?_
    rotate_left
    · intro w' hSw
      go_simp
      try with_reducible rfl
    try simp only [Act.put, List.setIfInBounds_toArray, List.set_cons_zero, List.set_cons_succ]
    clear hHeld
    refine wpAnyH_ready (rs := [15]) (by kernel_rfl) (by simp) ?_
    refine AllReadyH.cons (by rw [List.getElem?_toArray]; rfl) (fun Kn hK => ?_) AllReadyH.nil
    go_simp
    go_at_call 11
    with_reducible refine (HK.out _).mono ?_
    rintro e w9 ⟨rfl, hb9⟩
    have HB9 := Lib.hid (bel_call HB8.out hb9)
    replace HSS := Lib.hid (HSS.out.belowK HOK.out.ks hb9)
    replace HXc := Lib.hid (HXc.out.below hb9)
    clear hb9
    try dsimp only
    refine hK.out _ _ HXc.out (fun hHeld => ?_)
    try simp only [Act.put, List.setIfInBounds_toArray, List.set_cons_zero, List.set_cons_succ]
    clear hHeld
    refine wpAnyH_ready (rs := [17]) (by kernel_rfl) (by simp) ?_
    refine AllReadyH.cons (by rw [List.getElem?_toArray]; rfl) (fun Kn hK => ?_) AllReadyH.nil
    go_simp
    go_at_call 17
    with_reducible refine (HL.out _).mono ?_
    rintro e w10 ⟨rfl, hb10⟩
    have HB10 := Lib.hid (bel_call HB9.out hb10)
    replace HSS := Lib.hid (HSS.out.belowK HOK.out.ks hb10)
    replace HXc := Lib.hid (HXc.out.below hb10)
    clear hb10
    try dsimp only
    refine hK.out _ _ HXc.out (fun hHeld => ?_)
    try simp only [Act.put, List.setIfInBounds_toArray, List.set_cons_zero, List.set_cons_succ]
    refine wpAnyH_take (i := 20) (v := ?_) (by rw [List.getElem?_toArray]; rfl) (by kernel_rfl) (by kernel_rfl) (by kernel_rfl) (by exact fun _ _ _ h => h) (Or.inl ⟨by rfl, ?_⟩) (by assumption) ?_
    rotate_left
    · intro w' hSw
      go_simp
      try with_reducible rfl
    try simp only [Act.put, List.setIfInBounds_toArray, List.set_cons_zero, List.set_cons_succ]
    refine wpAnyH_take (i := 21) (v := ?_) (by rw [List.getElem?_toArray]; rfl) (by kernel_rfl) (by kernel_rfl) (by kernel_rfl) (by exact fun _ _ _ h => h) (Or.inl ⟨by rfl, ?_⟩) (by assumption) ?_
    rotate_left
    · intro w' hSw
      go_simp
      try with_reducible rfl
    try simp only [Act.put, List.setIfInBounds_toArray, List.set_cons_zero, List.set_cons_succ]
    refine wpAnyH_take (i := 22) (v := ?_) (by rw [List.getElem?_toArray]; rfl) (by kernel_rfl) (by kernel_rfl) (by kernel_rfl) (by exact fun _ _ _ h => h) (Or.inl ⟨by rfl, ?_⟩) (by assumption) ?_
    rotate_left
    · intro w' hSw
      go_simp
      try with_reducible rfl
    try simp only [Act.put, List.setIfInBounds_toArray, List.set_cons_zero, List.set_cons_succ]
    refine wpAnyH_done (by kernel_rfl) ?_ _
    clear hHeld
    go_wp2
    go_ret
    exact ⟨rfl, HB10.out⟩
end Go.Proofs.Ytamkepfhlfeiiaa.Sto
