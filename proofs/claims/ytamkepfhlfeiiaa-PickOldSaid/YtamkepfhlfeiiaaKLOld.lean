/-
  THE LAW PickOld, walked. By an AI agent; no person has read it.
-/
import Derived.Test.YtamkepfhlfeiiaaKPure
namespace Go.Proofs.Ytamkepfhlfeiiaa.Sto
open Go Go.RowKit Wire

set_option linter.unusedSimpArgs false
set_option linter.unusedVariables false
set_option maxHeartbeats 16000000 in
set_option maxRecDepth 1000000 in
theorem old_walk {D : DPred} (ok : StoreOK D) (pc : PickOK D) (A : Option Addr) (n c : Nat) (Z : Nat → Pu) (k0 b0 : Int) (w : World) (hn : n ≤ 9223372036854775807) (hr : PReads w A n Z) (h0 : -9223372036854775808 ≤ k0 ∧ k0 ≤ 9223372036854775807) (h1 : -9223372036854775808 ≤ b0 ∧ b0 ≤ 9223372036854775807) : Calls Try.prog 4 #[.slice A n c, .int .i64 k0, .int .i64 b0] w fun e w' => e = .returned (.bool true) ∧ Below w.heap.size w w' := by
  have HOK := Lib.hid ok
  have HPK := Lib.hid pc
  have HR := Lib.hid hr
  have HSH := Lib.hid fun w => shownk_any ok pc w
  have HL : Hid (∀ w', Below w.heap.size w w' → Calls Try.prog 9 #[.slice A n c] w' fun e w'' => LightE n e ∧ Below w'.heap.size w' w'') := Lib.hid fun w' hb => light_any A c n Z w' (hr.below hb (Nat.le_refl _)) hn
  have HFL : Hid (∀ w', Below w.heap.size w w' → Calls Try.prog 10 #[.slice A n c] w' fun e w'' => ∃ (a b : Addr) (X Y : Nat → Prop) (s : Stt), e = .returned (.tuple #[.pointer (some a), .pointer (some b)]) ∧ Sts D w' w'' a X s ∧ Sts DR w' w'' b Y s ∧ (∀ g, X g → ¬ Y g)) := Lib.hid fun w' hb => filled_any ok A c n Z w' (hr.below hb (Nat.le_refl _)) hn
  have HK : Hid (∀ w, Calls Try.prog 11 #[.int .i64 k0] w fun e w' => e = .returned (.string (kyN k0)) ∧ Below w.heap.size w w') := Lib.hid fun w => keys_any k0 h0 w
  have hks := kyN_small k0
  generalize kyN k0 = K at HK hks
  have hkz : K.size ≤ 140737488351232 := by omega
  have HW : Hid (∀ w, Calls Try.prog 21 #[.int .i64 b0, .int .i64 9] w fun e w' => e = .returned (.int .i64 (pk b0 9 : Int)) ∧ w' = w) := Lib.hid fun w => which_any b0 9 w h1 (by decide) (by decide)
  have hp9 := pk_lt b0 (n := 9) (by decide)
  generalize pk b0 9 = p9 at HW hp9
  have H1 := Lib.hid h1
  clear hr h0
  go_enter Try.func4, Try.ntmps4
  go_wp2_with fail
  with_reducible refine (HSH.out _).mono ?_
  rintro e w1 ⟨rfl, hb1⟩
  have HB1 := Lib.hid hb1
  clear hb1
  try dsimp only
  go_wp2_with fail
  with_reducible refine (HL.out _ HB1.out).mono ?_
  rintro e w2 ⟨⟨bl, hbl, rfl⟩, hb2⟩
  have HB2 := Lib.hid (bel_call HB1.out hb2)
  clear hb2
  try dsimp only
  cases bl
  case false =>
    go_wp2
    go_ret
    exact ⟨rfl, HB2.out⟩
  have hn100 := hbl rfl
  clear hbl
  go_wp2_with fail
  with_reducible refine (HFL.out _ HB2.out).mono ?_
  rintro e w3 ⟨aA, aB, XA, XB, t, rfl, hsA, hsB, hd⟩
  have hbF := hsA.b
  have HXN := Lib.hid hsA.x
  have HSA := Lib.hid (hsA.lift HB2.out)
  have HB3 := Lib.hid (bel_call HB2.out hbF)
  clear hsA hsB hd hbF
  try dsimp only
  clear HXN
  go_wp2_with fail
  with_reducible refine (HK.out _).mono ?_
  rintro e w4 ⟨rfl, hb4⟩
  have HB4 := Lib.hid (bel_call HB3.out hb4)
  replace HSA := Lib.hid (HSA.out.belowK HOK.out.ks hb4)
  clear hb4
  try dsimp only
  go_wp2_with fail
  with_reducible refine (st_vers HOK.out HSA.out (k := K.data.toList) rfl hkz).mono ?_
  rintro e w5 ⟨hx, hb5⟩
  have HB5 := Lib.hid (bel_call HB4.out hb5)
  replace HSA := Lib.hid (HSA.out.belowK HOK.out.ks hb5)
  clear hb5
  obtain ⟨AV, cV, YV, hq, hc, hr, ho, rfl⟩ := hx
  have HQV := Lib.hid hq
  have HCV := Lib.hid hc
  have HRV : Hid (RowO _ _ _ AV YV) := Lib.hid ⟨hr, ho⟩
  clear hq hc hr ho
  try dsimp only
  have hmany := HSA.out.f.many K.data.toList
  have hfew := HSA.out.f.few
  have hlv : YV.length ≤ 2000 := by rw [← bl_len, HQV.out]; omega
  clear hmany hfew
  go_wp2_with fail
  with_reducible refine (st_puts HOK.out HSA.out).mono ?_
  rintro e w6 ⟨rfl, hb6⟩
  have HB6 := Lib.hid (bel_call HB5.out hb6)
  replace HSA := Lib.hid (HSA.out.belowK HOK.out.ks hb6)
  replace HRV := Lib.hid (HRV.out.below hb6)
  clear hb6
  try dsimp only
  go_wp2_with fail
  go_loopw [14] (fun i wr => ∃ (j : Nat), j ≤ YV.length ∧ i = .int .i64 j ∧ Hid (Sts D w wr aA XA t) ∧ Hid (RowO w wr XA AV YV)) (fun i _ => YV.length - (intOf i).toNat)
  case atStart => exact ⟨0, Nat.zero_le _, rfl, HSA, HRV⟩
  case round =>
    obtain ⟨j, hj, rfl, HSA, HRV⟩ := hrel
    have HB1 := Lib.hid HSA.out.b
    by_cases hlt : j < YV.length
    · have hji : (j : Int) < (YV.length : Int) := by omega
      have hj0 : (0 : Int) ≤ (j : Int) := Int.natCast_nonneg j
      have HPB : Hid (pickG t K.data.toList ⟨115, (YV.length : Int) - 1 - (j : Int), ⟨#[]⟩, ⟨#[]⟩⟩ = _) := Lib.hid (pick_at HQV.out hlt)
      go_wp2_with fail
      with_reducible refine (pk_get HPK.out HSA.out (k := K.data.toList) rfl hkz (ch_ok (by decide) (by constructor <;> omega) (by decide) (by decide))).mono ?_
      rintro e w2 ⟨⟨T1, ht, rfl⟩, hb2⟩
      have HB2 := Lib.hid (bel_call HB1.out hb2)
      replace HSA := Lib.hid (HSA.out.belowK HOK.out.ks hb2)
      replace HRV := Lib.hid (HRV.out.below hb2)
      clear hb2
      rw [HPB.out] at ht ⊢
      try dsimp only
      have hbt := eq_bool ht
      obtain ⟨bv, ov, hAV, hbv, hcv⟩ := HRV.out.r j hlt
      subst hAV
      generalize YV.getD j ByteArray.empty = yj at ht hbt hcv
      go_wp2
      go_roundw
      case rel => exact ⟨j + 1, by omega, by go_num, HSA, HRV⟩
      case measure => simp [intOf]; omega
    · obtain rfl : j = YV.length := by omega
      have HPF : Hid (∀ m : Nat, pickG t K.data.toList ⟨115, (YV.length : Int) + (m : Int), ⟨#[]⟩, ⟨#[]⟩⟩ = none4) := Lib.hid fun m => pick_far HQV.out (by omega)
      go_wp2_with fail
      with_reducible refine (HW.out _).mono ?_
      rintro e v1 ⟨rfl, hv1⟩
      obtain rfl : wr = v1 := hv1.symm
      dsimp only
      go_wp2_with fail
      with_reducible refine (pk_get HPK.out HSA.out (k := K.data.toList) rfl hkz (ch_ok (by decide) (by constructor <;> omega) (by decide) (by decide))).mono ?_
      rintro e w2 ⟨⟨T1, ht, rfl⟩, hb2⟩
      have HB2 := Lib.hid (bel_call HB1.out hb2)
      replace HSA := Lib.hid (HSA.out.belowK HOK.out.ks hb2)
      replace HRV := Lib.hid (HRV.out.below hb2)
      clear hb2
      rw [HPF.out] at ht ⊢
      clear ht
      try dsimp only
      go_wp2_with fail
      with_reducible refine (HW.out _).mono ?_
      rintro e v2 ⟨rfl, hv2⟩
      obtain rfl : w2 = v2 := hv2.symm
      dsimp only
      go_wp2_with fail
      with_reducible refine (pk_get HPK.out HSA.out (k := K.data.toList) rfl hkz (ch_ok (by decide) (by constructor <;> omega) (by decide) (by decide))).mono ?_
      rintro e w3 ⟨⟨T2, ht, rfl⟩, hb3⟩
      have HB3 := Lib.hid (bel_call HB2.out hb3)
      replace HSA := Lib.hid (HSA.out.belowK HOK.out.ks hb3)
      replace HRV := Lib.hid (HRV.out.below hb3)
      clear hb3
      rw [pick_neg (by omega)] at ht ⊢
      clear ht
      try dsimp only
      go_wp2_with fail
      with_reducible refine (st_get HOK.out HSA.out (k := K.data.toList) rfl hkz).mono ?_
      rintro e w4 ⟨⟨T3, ht3, rfl⟩, hb4⟩
      have HB4 := Lib.hid (bel_call HB3.out hb4)
      replace HSA := Lib.hid (HSA.out.belowK HOK.out.ks hb4)
      replace HRV := Lib.hid (HRV.out.below hb4)
      clear hb4
      try dsimp only
      go_wp2_with fail
      with_reducible refine (pk_get HPK.out HSA.out (k := K.data.toList) rfl hkz (ch_ok (by decide) H1.out (by decide) (by decide))).mono ?_
      rintro e w5 ⟨⟨T4, ht4, rfl⟩, hb5⟩
      have HB5 := Lib.hid (bel_call HB4.out hb5)
      replace HSA := Lib.hid (HSA.out.belowK HOK.out.ks hb5)
      replace HRV := Lib.hid (HRV.out.below hb5)
      clear hb5
      rw [pick_honest] at ht4 ⊢
      obtain rfl : T4 = T3 := ByteArray.ext (Array.toList_inj.1 (ht4.trans ht3.symm))
      clear ht4
      try dsimp only
      go_wp2_with fail
      with_reducible refine (pk_get HPK.out HSA.out (K := ⟨#[122, 122]⟩) (k := [122, 122]) rfl (by decide) (ch_ok (by decide) (by decide) hkz (by decide))).mono ?_
      rintro e w6 ⟨⟨T5, ht5, rfl⟩, hb6⟩
      have HB6 := Lib.hid (bel_call HB5.out hb6)
      replace HSA := Lib.hid (HSA.out.belowK HOK.out.ks hb6)
      replace HRV := Lib.hid (HRV.out.below hb6)
      clear hb6
      rw [pick_other] at ht5 ⊢
      obtain rfl : T5 = T4 := ByteArray.ext (Array.toList_inj.1 (ht5.trans ht3.symm))
      clear ht5 ht3
      try dsimp only
      have HLG := Lib.hid (@lie_gone t K.data.toList 0 ⟨#[]⟩ ⟨#[]⟩)
      generalize (getS t K.data.toList).2 = ge at HLG ⊢
      go_wp2_with fail
      with_reducible refine (pk_lies HPK.out HSA.out (k := K.data.toList) rfl hkz (ch_ok (by decide) H1.out (by decide) (by decide))).mono ?_
      rintro e w7 ⟨rfl, hb7⟩
      have HB7 := Lib.hid (bel_call HB6.out hb7)
      replace HSA := Lib.hid (HSA.out.belowK HOK.out.ks hb7)
      replace HRV := Lib.hid (HRV.out.below hb7)
      clear hb7
      rw [lie_honest]
      try dsimp only
      go_wp2_with fail
      with_reducible refine (st_puts HOK.out HSA.out).mono ?_
      rintro e w8 ⟨rfl, hb8⟩
      have HB8 := Lib.hid (bel_call HB7.out hb8)
      replace HSA := Lib.hid (HSA.out.belowK HOK.out.ks hb8)
      replace HRV := Lib.hid (HRV.out.below hb8)
      clear hb8
      try dsimp only
      go_wp2_with fail
      with_reducible refine (st_vers HOK.out HSA.out (k := K.data.toList) rfl hkz).mono ?_
      rintro e w9 ⟨hx, hb9⟩
      have HB9 := Lib.hid (bel_call HB8.out hb9)
      replace HSA := Lib.hid (HSA.out.belowK HOK.out.ks hb9)
      replace HRV := Lib.hid (HRV.out.below hb9)
      clear hb9
      obtain ⟨Aq, cq, Yq, hq, hc, hr, ho, rfl⟩ := hx
      have HQq := Lib.hid hq
      have HCq := Lib.hid hc
      have HRq : Hid (RowO _ _ _ Aq Yq) := Lib.hid ⟨hr, ho⟩
      clear hq hc hr ho
      try dsimp only
      have hlq : Yq.length ≤ 9223372036854775807 := by have := HCq.out; omega
      go_wp2_with fail
      with_reducible refine (same_any _ _ _ _ _ _ _ HRq.out.r HRV.out.r hlq).mono ?_
      rintro e w10 ⟨rfl, hb10⟩
      have HB10 := Lib.hid (bel_call HB9.out hb10)
      replace HSA := Lib.hid (HSA.out.belowK HOK.out.ks hb10)
      replace HRV := Lib.hid (HRV.out.below hb10)
      replace HRq := Lib.hid (HRq.out.below hb10)
      clear hb10
      rw [show decide (bl Yq = bl YV) = true from decide_eq_true (by rw [HQq.out, HQV.out])]
      try dsimp only
      clear HRq
      by_cases hge : ge = 0
      · subst hge
        go_wp2_with fail
        with_reducible refine (pk_lies HPK.out HSA.out (k := K.data.toList) rfl hkz (ch_ok (by decide) (by decide) (by decide) (by decide))).mono ?_
        rintro e w11 ⟨rfl, hb11⟩
        have HB11 := Lib.hid (bel_call HB10.out hb11)
        replace HSA := Lib.hid (HSA.out.belowK HOK.out.ks hb11)
        replace HRV := Lib.hid (HRV.out.below hb11)
        clear hb11
        rw [HLG.out (by trivial)]
        try dsimp only
        go_wp2
        go_ret
        exact ⟨rfl, HB11.out⟩
      · go_wp2
        go_ret
        exact ⟨rfl, HB10.out⟩
end Go.Proofs.Ytamkepfhlfeiiaa.Sto
