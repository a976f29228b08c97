/-
  THE LAW PickLists, walked. By an AI agent; no person has read it.
-/
import Derived.Test.YtamkepfhlfeiiaaKBox
namespace Go.Proofs.Ytamkepfhlfeiiaa.Sto
open Go Go.RowKit Wire

set_option linter.unusedSimpArgs false
set_option linter.unusedVariables false
set_option maxHeartbeats 16000000 in
set_option maxRecDepth 1000000 in
theorem lists_walk {D : DPred} (ok : StoreOK D) (pc : PickOK D) (A : Option Addr) (n c : Nat) (Z : Nat → Pu) (kd bk : Int) (Y1 Y2 : ByteArray) (P : ByteArray) (w : World) (hn : n ≤ 9223372036854775807) (hr : PReads w A n Z) (hc : Ch.Ok ⟨kd, bk, Y1, Y2⟩) (hP : P.size ≤ 140737488351232) : Calls Try.prog 7 #[.slice A n c, .agg #[.int .u8 kd, .int .i64 bk, .string Y1, .string Y2], .string P] w fun e w' => e = .returned (.bool true) ∧ Below w.heap.size w w' := by
  have HOK := Lib.hid ok
  have HPK := Lib.hid pc
  have HR := Lib.hid hr
  have HSH := Lib.hid fun w => shownk_any ok pc w
  have HL : Hid (∀ w', Below w.heap.size w w' → Calls Try.prog 9 #[.slice A n c] w' fun e w'' => LightE n e ∧ Below w'.heap.size w' w'') := Lib.hid fun w' hb => light_any A c n Z w' (hr.below hb (Nat.le_refl _)) hn
  have HFL : Hid (∀ w', Below w.heap.size w w' → Calls Try.prog 10 #[.slice A n c] w' fun e w'' => ∃ (a b : Addr) (X Y : Nat → Prop) (s : Stt), e = .returned (.tuple #[.pointer (some a), .pointer (some b)]) ∧ Sts D w' w'' a X s ∧ Sts DR w' w'' b Y s ∧ (∀ g, X g → ¬ Y g)) := Lib.hid fun w' hb => filled_any ok A c n Z w' (hr.below hb (Nat.le_refl _)) hn
  have HCH := Lib.hid hc
  obtain ⟨hkd, hbk, hy1, hy2⟩ := hc
  simp only at hkd hbk hy1 hy2
  clear hr hbk
  have HK : Hid (∀ w, Calls Try.prog 11 #[.int .i64 0] w fun e w' => e = .returned (.string (kyN 0)) ∧ Below w.heap.size w w') := Lib.hid fun w => keys_any 0 (by decide) w
  have hks := kyN_small 0
  generalize kyN 0 = K at HK hks
  have hkz : K.size ≤ 140737488351232 := by omega
  go_enter Try.func7, Try.ntmps7
  go_wp2_with fail
  have hbS : Below w.heap.size w (w.alloc (.cells #[.int .u8 kd, .int .i64 bk, .string Y1, .string Y2] 24)) := (Below.refl w.heap.size w).alloc (Nat.le_refl _) _
  have hxS := b4_new w (.int .u8 kd) (.int .i64 bk) (.string Y1) (.string Y2) 24
  generalize w.alloc (.cells #[.int .u8 kd, .int .i64 bk, .string Y1, .string Y2] 24) = wSc at hbS hxS ⊢
  have HB1 := Lib.hid hbS
  have HXc := Lib.hid hxS
  clear hbS hxS
  go_wp2_with fail
  with_reducible refine (HSH.out _).mono ?_
  rintro e w2 ⟨rfl, hb2⟩
  have HB2 := Lib.hid (bel_call HB1.out hb2)
  replace HXc := Lib.hid (HXc.out.below hb2)
  clear hb2
  try dsimp only
  go_wp2_with fail
  with_reducible refine (HL.out _ HB2.out).mono ?_
  rintro e w3 ⟨⟨bl, hbl, rfl⟩, hb3⟩
  have HB3 := Lib.hid (bel_call HB2.out hb3)
  replace HXc := Lib.hid (HXc.out.below hb3)
  clear hb3
  try dsimp only
  cases bl
  case false =>
    go_wp2
    go_ret
    exact ⟨rfl, HB3.out⟩
  have hn100 := hbl rfl
  clear hbl
  obtain ⟨nc, dc0, dc1, dc2, dc3⟩ := HXc.out
  by_cases h5 : (50000 : Int) < (Y2.size : Int)
  · go_wp2
    go_ret
    exact ⟨rfl, HB3.out⟩
  by_cases h6 : (1000 : Int) < (Y1.size : Int) + (P.size : Int)
  · go_wp2
    go_ret
    exact ⟨rfl, HB3.out⟩
  have HGc := Lib.hid HXc.out.lt
  have HKD := Lib.hid (show 0 ≤ kd ∧ kd ≤ 255 from hkd)
  go_wp2_with fail
  clear nc dc0 dc1 dc2 dc3
  with_reducible refine (HFL.out _ HB3.out).mono ?_
  rintro e w4 ⟨aA, aB, XA, XB, t, rfl, hsA, hsB, hd⟩
  have hbF := hsA.b
  have HXN := Lib.hid hsA.x
  have HSA := Lib.hid (hsA.lift HB3.out)
  have HB4 := Lib.hid (bel_call HB3.out hbF)
  replace HXc := Lib.hid (HXc.out.below hbF)
  clear hsA hsB hd hbF
  try dsimp only
  have HNc : Hid (¬ XA w.heap.size) := Lib.hid fun hx => by have := HXN.out _ hx; have := HGc.out; omega
  clear HXN HGc hn100 h5 h6
  obtain ⟨nc, dc0, dc1, dc2, dc3⟩ := HXc.out
  go_wp2_with fail
  with_reducible refine (pk_listP HPK.out HSA.out (P := fun b => XA b ∨ b = w.heap.size) (fun b h => h.elim (HOK.out.old HSA.out.d b) (fun e => by rw [e]; exact HXc.out.lt)) (k := P.data.toList) rfl hP HCH.out).mono ?_
  rintro e w5 ⟨hx, hb5⟩
  have HB5 := Lib.hid (bel_call HB4.out hb5)
  replace HSA := Lib.hid (HSA.out.belowK HOK.out.ks hb5)
  replace HXc := Lib.hid (HXc.out.below hb5)
  clear hb5
  obtain ⟨la, hla, hx⟩ := hx
  have HLa := Lib.hid hla
  clear hla
  obtain ⟨Aa, ca, Ya, hq, hc, hr, ho, rfl⟩ := hx
  have HQa := Lib.hid hq
  have HCa := Lib.hid hc
  have HRa : Hid (RowO _ _ _ Aa Ya) := Lib.hid ⟨hr, ho⟩
  clear hq hc hr ho
  try dsimp only
  clear nc dc0 dc1 dc2 dc3
  obtain ⟨gn, hgn⟩ : ∃ gn : Bool, (kd == 100) = gn := ⟨_, rfl⟩
  have HGN := Lib.hid hgn
  obtain ⟨nc, dc0, dc1, dc2, dc3⟩ := HXc.out
  have HT0 := Lib.hid (HXc.out.set0 (.int .u8 100))
  obtain ⟨n6, e0, e1, e2, e3⟩ := HT0.out
  have nc0 := nc.2 0
  go_wp2_with fail
  clear n6 e0 e1 e2 e3 nc0
  clear nc dc0 dc1 dc2 dc3
  have hb6 := HB5.out.setCell (p := ⟨w.heap.size, 0, none⟩) (Nat.le_refl _) (.int .u8 100)
  have hs6 := HSA.out.set HOK.out.ks (g := w.heap.size) (j := 0) (v := (.int .u8 100)) HNc.out (Nat.le_refl _)
  have hr6 := HRa.out.set (g := w.heap.size) (j := 0) (v := (.int .u8 100)) (.inr rfl)
  generalize w5.setCell ⟨w.heap.size, 0, none⟩ (.int .u8 100) = w6 at HT0 hb6 hs6 hr6 ⊢
  have HB6 := Lib.hid hb6
  replace HSA := Lib.hid hs6
  replace HRa := Lib.hid hr6
  replace HXc := HT0
  clear hb6 hs6 hr6 HT0
  with_reducible refine (pk_list HOK.out HPK.out HSA.out (k := P.data.toList) rfl hP (ch_ok (by decide) HCH.out.back hy1 hy2)).mono ?_
  rintro e w7 ⟨hx, hb7⟩
  have HB7 := Lib.hid (bel_call HB6.out hb7)
  replace HSA := Lib.hid (HSA.out.belowK HOK.out.ks hb7)
  replace HRa := Lib.hid (HRa.out.below hb7)
  replace HXc := Lib.hid (HXc.out.below hb7)
  clear hb7
  obtain ⟨lb, hlb, hx⟩ := hx
  have HLb := Lib.hid hlb
  clear hlb
  obtain ⟨Ab, cb, Yb, hq, hc, hr, ho, rfl⟩ := hx
  have HQb := Lib.hid hq
  have HCb := Lib.hid hc
  have HRb : Hid (RowO _ _ _ Ab Yb) := Lib.hid ⟨hr, ho⟩
  clear hq hc hr ho
  have hlb : Yb.length = 0 := by rw [← bl_len, HQb.out, pl_gone HLb.out]; rfl
  rw [hlb]
  clear hlb
  try dsimp only
  clear HRb
  have HG : Hid (∀ w1, Below w7.heap.size w7 w1 → Calls Try.prog 12 #[.pointer (some aA), .string K, .agg #[.int .u8 100, .int .i64 bk, .string Y1, .string Y2]] w1 fun e w' => e = .returned (.tuple #[.string ⟨#[]⟩, .int .i64 4]) ∧ Below w1.heap.size w1 w') := Lib.hid fun w1 h1 => (pk_get HPK.out (HSA.out.below HOK.out h1) (k := K.data.toList) rfl hkz (ch_ok (by decide) HCH.out.back hy1 hy2)).mono fun e w' h => by
    obtain ⟨⟨T, ht, rfl⟩, h2⟩ := h
    rw [pick_gone] at ht ⊢
    obtain rfl : T = ⟨#[]⟩ := ByteArray.ext (Array.toList_inj.1 ht)
    exact ⟨rfl, h2⟩
  go_wp2_with fail
  have hdr : B4 w.heap.size w7.drew (.int .u8 100) (.int .i64 bk) (.string Y1) (.string Y2) ∧ Below w7.heap.size w7 w7.drew := ⟨HXc.out.below (Below.drewN' (Below.refl w7.heap.size w7) 1), (Below.drewN' (Below.refl w7.heap.size w7) 1)⟩
  refine Ord.region_lit (S := fun w' => B4 w.heap.size w' (.int .u8 100) (.int .i64 bk) (.string Y1) (.string Y2) ∧ Below w7.heap.size w7 w') (by kernel_rfl) (by kernel_rfl) hdr ?_
  clear hdr
  refine Ord.stepR (v := ?_) (by rfl) ?_ ?_
  rotate_left
  · intro w' hSw
    go_simp
    try with_reducible rfl
  try simp only [Act.put, List.setIfInBounds_toArray, List.set_cons_zero, List.set_cons_succ]
  refine Ord.stepC (v := .string K) (by rfl) ?_ (fun w1 hS => (HK.out _).mono fun e w2 h => ⟨h.1, ⟨hS.1.below (h.2), hS.2.trans ((h.2).mono hS.2.size)⟩⟩) ?_
  · intro w' hSw
    go_simp
    try with_reducible rfl
  try simp only [Act.put, List.setIfInBounds_toArray, List.set_cons_zero, List.set_cons_succ]
  refine Ord.stepR (v := ?_) (by rfl) ?_ ?_
  rotate_left
  · intro w' hSw
    obtain ⟨_, q00, q01, q02, q03⟩ := hSw.1
    go_simp
    try with_reducible rfl
  try simp only [Act.put, List.setIfInBounds_toArray, List.set_cons_zero, List.set_cons_succ]
  refine Ord.stepC (v := .tuple #[.string ⟨#[]⟩, .int .i64 4]) (by rfl) ?_ (fun w1 hS => (HG.out _ hS.2).mono fun e w2 h => ⟨h.1, ⟨hS.1.below (h.2), hS.2.trans ((h.2).mono hS.2.size)⟩⟩) ?_
  · intro w' hSw
    go_simp
    try with_reducible rfl
  try simp only [Act.put, List.setIfInBounds_toArray, List.set_cons_zero, List.set_cons_succ]
  refine Ord.stepR (v := ?_) (by rfl) ?_ ?_
  rotate_left
  · intro w' hSw
    go_simp
    try with_reducible rfl
  try simp only [Act.put, List.setIfInBounds_toArray, List.set_cons_zero, List.set_cons_succ]
  refine Ord.stepR (v := ?_) (by rfl) ?_ ?_
  rotate_left
  · intro w' hSw
    go_simp
    try with_reducible rfl
  try simp only [Act.put, List.setIfInBounds_toArray, List.set_cons_zero, List.set_cons_succ]
  refine Ord.stepR (v := ?_) (by rfl) ?_ ?_
  rotate_left
  · intro w' hSw
    go_simp
    try with_reducible rfl
  try simp only [Act.put, List.setIfInBounds_toArray, List.set_cons_zero, List.set_cons_succ]
  refine Ord.stepR (v := ?_) (by rfl) ?_ ?_
  rotate_left
  · intro w' hSw
    go_simp
    try with_reducible rfl
  try simp only [Act.put, List.setIfInBounds_toArray, List.set_cons_zero, List.set_cons_succ]
  refine Ord.stepR (v := ?_) (by rfl) ?_ ?_
  rotate_left
  · intro w' hSw
    go_simp
    try with_reducible rfl
  try simp only [Act.put, List.setIfInBounds_toArray, List.set_cons_zero, List.set_cons_succ]
  refine Ord.stepD fun Z1 hZ => ?_
  replace HXc := Lib.hid hZ.1
  have HB8 := Lib.hid (Bel.call HB7.out hZ.2)
  replace HSA := Lib.hid (HSA.out.belowK HOK.out.ks hZ.2)
  replace HRa := Lib.hid (HRa.out.below hZ.2)
  clear hZ
  go_wp2_with fail
  with_reducible refine (st_puts HOK.out HSA.out).mono ?_
  rintro e w9 ⟨rfl, hb9⟩
  have HB9 := Lib.hid (bel_call HB8.out hb9)
  replace HSA := Lib.hid (HSA.out.belowK HOK.out.ks hb9)
  replace HRa := Lib.hid (HRa.out.below hb9)
  replace HXc := Lib.hid (HXc.out.below hb9)
  clear hb9
  try dsimp only
  go_wp2_with fail
  with_reducible refine (st_list HOK.out HSA.out (k := P.data.toList) rfl hP).mono ?_
  rintro e w10 ⟨hx, hb10⟩
  have HB10 := Lib.hid (bel_call HB9.out hb10)
  replace HSA := Lib.hid (HSA.out.belowK HOK.out.ks hb10)
  replace HRa := Lib.hid (HRa.out.below hb10)
  replace HXc := Lib.hid (HXc.out.below hb10)
  clear hb10
  obtain ⟨ll, hll, hx⟩ := hx
  have HLl := Lib.hid hll
  clear hll
  obtain ⟨Al, cl, Yl, hq, hc, hr, ho, rfl⟩ := hx
  have HQl := Lib.hid hq
  have HCl := Lib.hid hc
  have HRl : Hid (RowO _ _ _ Al Yl) := Lib.hid ⟨hr, ho⟩
  clear hq hc hr ho
  try dsimp only
  have hla : Ya.length ≤ 9223372036854775807 := by have := HCa.out; omega
  go_wp2_with fail
  with_reducible refine (same_any _ _ _ _ _ _ _ HRa.out.r HRl.out.r hla).mono ?_
  rintro e w11 ⟨rfl, hb11⟩
  have HB11 := Lib.hid (bel_call HB10.out hb11)
  replace HSA := Lib.hid (HSA.out.belowK HOK.out.ks hb11)
  replace HRa := Lib.hid (HRa.out.below hb11)
  replace HRl := Lib.hid (HRl.out.below hb11)
  replace HXc := Lib.hid (HXc.out.below hb11)
  clear hb11
  try dsimp only
  clear HRl
  clear HRa
  by_cases hk : kd = 100
  · obtain rfl : gn = true := by rw [← HGN.out, hk]; rfl
    have hla : Ya.length = 0 := by
      have h1 := HLa.out
      rw [hk] at h1
      rw [← bl_len, HQa.out, pl_gone h1]; rfl
    cases decide (bl Ya = bl Yl)
    · have hla' : (Ya.length : Int) = 0 := by omega
      go_wp2_with fail
      with_reducible refine (st_puts HOK.out HSA.out).mono ?_
      rintro e w12 ⟨rfl, hb12⟩
      have HB12 := Lib.hid (bel_call HB11.out hb12)
      replace HSA := Lib.hid (HSA.out.belowK HOK.out.ks hb12)
      replace HXc := Lib.hid (HXc.out.below hb12)
      clear hb12
      try dsimp only
      go_wp2
      go_ret
      exact ⟨rfl, HB12.out⟩
    · have hla' : (Ya.length : Int) = 0 := by omega
      go_wp2_with fail
      with_reducible refine (st_puts HOK.out HSA.out).mono ?_
      rintro e w12 ⟨rfl, hb12⟩
      have HB12 := Lib.hid (bel_call HB11.out hb12)
      replace HSA := Lib.hid (HSA.out.belowK HOK.out.ks hb12)
      replace HXc := Lib.hid (HXc.out.below hb12)
      clear hb12
      try dsimp only
      go_wp2
      go_ret
      exact ⟨rfl, HB12.out⟩
  · have hee : bl Ya = bl Yl := by rw [HQa.out, HQl.out]; exact lists_same (fun _ => rfl) (pl_other HLa.out hk) HLl.out
    rw [decide_eq_true hee]
    go_wp2_with fail
    with_reducible refine (st_puts HOK.out HSA.out).mono ?_
    rintro e w12 ⟨rfl, hb12⟩
    have HB12 := Lib.hid (bel_call HB11.out hb12)
    replace HSA := Lib.hid (HSA.out.belowK HOK.out.ks hb12)
    replace HXc := Lib.hid (HXc.out.below hb12)
    clear hb12
    try dsimp only
    go_wp2
    go_ret
    exact ⟨rfl, HB12.out⟩
end Go.Proofs.Ytamkepfhlfeiiaa.Sto
