/-
  THE LAW PickMade, walked. By an AI agent; no person has read it.
-/
import Derived.Test.YtamkepfhlfeiiaaKBox
namespace Go.Proofs.Ytamkepfhlfeiiaa.Sto
open Go Go.RowKit Wire

set_option linter.unusedSimpArgs false
set_option linter.unusedVariables false
set_option maxHeartbeats 16000000 in
set_option maxRecDepth 1000000 in
theorem made_walk {D : DPred} (ok : StoreOK D) (pc : PickOK D) (A : Option Addr) (n c : Nat) (Z : Nat → Pu) (S0 : ByteArray) (t0 k0 k1 : Int) (w : World) (hn : n ≤ 9223372036854775807) (hr : PReads w A n Z) (hS : S0.size ≤ 140737488351232) (ht0 : -9223372036854775808 ≤ t0 ∧ t0 ≤ 9223372036854775807) (h0 : -9223372036854775808 ≤ k0 ∧ k0 ≤ 9223372036854775807) (h1 : -9223372036854775808 ≤ k1 ∧ k1 ≤ 9223372036854775807) : Calls Try.prog 5 #[.slice A n c, .string S0, .int .i64 t0, .int .i64 k0, .int .i64 k1] w fun e w' => e = .returned (.bool true) ∧ Below w.heap.size w w' := by
  have HOK := Lib.hid ok
  have HPK := Lib.hid pc
  have HR := Lib.hid hr
  have HSH := Lib.hid fun w => shownk_any ok pc w
  have HL : Hid (∀ w', Below w.heap.size w w' → Calls Try.prog 9 #[.slice A n c] w' fun e w'' => LightE n e ∧ Below w'.heap.size w' w'') := Lib.hid fun w' hb => light_any A c n Z w' (hr.below hb (Nat.le_refl _)) hn
  have HFL : Hid (∀ w', Below w.heap.size w w' → Calls Try.prog 10 #[.slice A n c] w' fun e w'' => ∃ (a b : Addr) (X Y : Nat → Prop) (s : Stt), e = .returned (.tuple #[.pointer (some a), .pointer (some b)]) ∧ Sts D w' w'' a X s ∧ Sts DR w' w'' b Y s ∧ (∀ g, X g → ¬ Y g)) := Lib.hid fun w' hb => filled_any ok A c n Z w' (hr.below hb (Nat.le_refl _)) hn
  have HK : Hid (∀ w, Calls Try.prog 11 #[.int .i64 k0] w fun e w' => e = .returned (.string (kyN k0)) ∧ Below w.heap.size w w') := Lib.hid fun w => keys_any k0 h0 w
  have hsK := kyN_small k0
  have HLk : Hid (∀ w, Calls Try.prog 11 #[.int .i64 k1] w fun e w' => e = .returned (.string (kyN k1)) ∧ Below w.heap.size w w') := Lib.hid fun w => keys_any k1 h1 w
  have hsL := kyN_small k1
  have HKE : Hid (k0 = k1 → kyN k0 = kyN k1) := fun e => by rw [e]
  generalize kyN k0 = K at HK hsK HKE
  generalize kyN k1 = L at HLk hsL HKE
  have hkz : K.size ≤ 140737488351232 := by omega
  have hlz : L.size ≤ 140737488351232 := by omega
  have HW : Hid (∀ w, Calls Try.prog 21 #[.int .i64 t0, .int .i64 12] w fun e w' => e = .returned (.int .i64 (pk t0 12 : Int)) ∧ Below w.heap.size w w') := Lib.hid fun w => (which_any t0 12 w ht0 (by decide) (by decide)).mono fun e w' h => ⟨h.1, by rw [h.2]; exact Below.refl _ _⟩
  have hpm := pk_lt t0 (n := 12) (by decide)
  generalize pk t0 12 = m at HW hpm
  have HQ : Hid (∀ w, Calls Try.prog 21 #[.int .i64 t0, .int .i64 20] w fun e w' => e = .returned (.int .i64 (pk t0 20 : Int)) ∧ Below w.heap.size w w') := Lib.hid fun w => (which_any t0 20 w ht0 (by decide) (by decide)).mono fun e w' h => ⟨h.1, by rw [h.2]; exact Below.refl _ _⟩
  have hpp := pk_lt t0 (n := 20) (by decide)
  generalize pk t0 20 = p at HQ hpp
  clear hr h0 h1 ht0
  go_enter Try.func5, Try.ntmps5
  go_wp2_with fail
  with_reducible refine (HSH.out _).mono ?_
  rintro e w1 ⟨rfl, hb1⟩
  have HB1 := Lib.hid hb1
  clear hb1
  try dsimp only
  go_wp2_with fail
  with_reducible refine (HL.out _ HB1.out).mono ?_
  rintro e w2 ⟨⟨bl, hbl, rfl⟩, hb2⟩
  have HB2 := Lib.hid (bel_call HB1.out hb2)
  clear hb2
  try dsimp only
  cases bl
  case false =>
    go_wp2
    go_ret
    exact ⟨rfl, HB2.out⟩
  have hn100 := hbl rfl
  clear hbl
  by_cases h5 : (100 : Int) < (S0.size : Int)
  · go_wp2
    go_ret
    exact ⟨rfl, HB2.out⟩
  go_wp2_with fail
  with_reducible refine (HFL.out _ HB2.out).mono ?_
  rintro e w3 ⟨aA, aB, XA, XB, t, rfl, hsA, hsB, hd⟩
  have hbF := hsA.b
  have HXN := Lib.hid hsA.x
  have HSA := Lib.hid (hsA.lift HB2.out)
  have HB3 := Lib.hid (bel_call HB2.out hbF)
  clear hsA hsB hd hbF
  try dsimp only
  clear HXN
  go_wp2_with fail
  go_loopw [15, 16] (fun b i wr => ∃ (k : Nat) (B : ByteArray), k ≤ m ∧ i = .int .i64 k ∧ b = .string B ∧ Hid (B.size ≤ 100 * 2 ^ k) ∧ Hid (Sts D w wr aA XA t)) (fun _ i _ => m - (intOf i).toNat)
  case atStart => exact ⟨0, S0, Nat.zero_le _, rfl, rfl, Lib.hid (by omega), HSA⟩
  case round =>
    obtain ⟨k, B, hk, rfl, rfl, HBS, HSA⟩ := hrel
    have HB1 := Lib.hid HSA.out.b
    have hb20 := twice_end HBS.out (by omega)
    by_cases hlt : k < m
    · have hki : (k : Int) < (m : Int) := by omega
      go_wp2_with fail
      with_reducible refine (HW.out _).mono ?_
      rintro e w2 ⟨rfl, hb2⟩
      have HB2 := Lib.hid (bel_call HB1.out hb2)
      replace HSA := Lib.hid (HSA.out.belowK HOK.out.ks hb2)
      clear hb2
      try dsimp only
      go_wp2
      go_roundw
      case rel => exact ⟨k + 1, _, by omega, by go_num, rfl, Lib.hid (twice HBS.out), HSA⟩
      case measure => simp [intOf]; omega
    · obtain rfl : k = m := by omega
      go_wp2_with fail
      with_reducible refine (HW.out _).mono ?_
      rintro e w2 ⟨rfl, hb2⟩
      have HB2 := Lib.hid (bel_call HB1.out hb2)
      replace HSA := Lib.hid (HSA.out.belowK HOK.out.ks hb2)
      clear hb2
      try dsimp only
      by_cases h41 : (41000 : Int) < (B.size : Int)
      · have hle : (39990 : Int) + (p : Int) ≤ (B.size : Int) := by omega
        have hlo : (0 : Int) ≤ (39990 : Int) + (p : Int) := by omega
        go_wp2_with fail
        with_reducible refine (HQ.out _).mono ?_
        rintro e w3 ⟨rfl, hb3⟩
        have HB3 := Lib.hid (bel_call HB2.out hb3)
        replace HSA := Lib.hid (HSA.out.belowK HOK.out.ks hb3)
        clear hb3
        try dsimp only
        go_wp2_with fail
        have hb21 : (B.extract 0 (39990 + p)).size ≤ 204800 := by rw [ByteArray.size_extract]; omega
        generalize B.extract 0 (39990 + p) = B2 at hb21 ⊢
        clear h41 hle hlo
        by_cases h40 : 40000 < B2.size
        · have hi40 : (40000 : Int) < (B2.size : Int) := by omega
          have HM : Hid (∀ w1, Sts D w w1 aA XA t → Calls Try.prog 12 #[.pointer (some aA), .string K, .agg #[.int .u8 98, .int .i64 0, .string ⟨#[]⟩, .string B2]] w1 fun e w' => e = .returned (.tuple #[.string ⟨#[]⟩, .int .i64 10]) ∧ Below w1.heap.size w1 w') := Lib.hid fun w1 h1 => (pk_get HPK.out h1 (k := K.data.toList) rfl hkz (ch_ok (by decide) (by decide) (by decide) (by omega))).mono fun e w' h => by
            obtain ⟨h, h2⟩ := h
            rw [pick_big h40] at h
            exact ⟨sr_val h rfl, h2⟩
          clear h40
          go_wp2_with fail
          with_reducible refine (HK.out _).mono ?_
          rintro e w4 ⟨rfl, hb4⟩
          have HB4 := Lib.hid (bel_call HB3.out hb4)
          replace HSA := Lib.hid (HSA.out.belowK HOK.out.ks hb4)
          clear hb4
          try dsimp only
          go_wp2_with fail
          with_reducible refine (HM.out _ HSA.out).mono ?_
          rintro e w5 ⟨rfl, hb5⟩
          have HB5 := Lib.hid (bel_call HB4.out hb5)
          replace HSA := Lib.hid (HSA.out.belowK HOK.out.ks hb5)
          clear hb5
          try dsimp only
          clear HM
          obtain ⟨T2, hT2⟩ := text_of (getS t L.data.toList).1
          have HO : Hid (∀ w1, Sts D w w1 aA XA t → Calls Try.prog 12 #[.pointer (some aA), .string K, .agg #[.int .u8 120, .int .i64 1, .string L, .string ⟨#[113]⟩]] w1 fun e w' => e = .returned (.tuple #[.string T2, .int .i64 (getS t L.data.toList).2]) ∧ Below w1.heap.size w1 w') := Lib.hid fun w1 h1 => (pk_get HPK.out h1 (k := K.data.toList) rfl hkz (ch_ok (by decide) (by decide) hlz (by decide))).mono fun e w' h => by
            obtain ⟨h, h2⟩ := h
            rw [pick_other] at h
            exact ⟨sr_val h hT2, h2⟩
          have HG : Hid (∀ w1, Sts D w w1 aA XA t → Calls Try.prog 22 #[.pointer (some aA), .string L] w1 fun e w' => e = .returned (.tuple #[.string T2, .int .i64 (getS t L.data.toList).2]) ∧ Below w1.heap.size w1 w') := Lib.hid fun w1 h1 => (st_get HOK.out h1 (k := L.data.toList) rfl hlz).mono fun e w' h => ⟨sr_val h.1 hT2, h.2⟩
          generalize (getS t L.data.toList).2 = e2 at HO HG
          clear hT2
          go_wp2_with fail
          with_reducible refine (HK.out _).mono ?_
          rintro e w6 ⟨rfl, hb6⟩
          have HB6 := Lib.hid (bel_call HB5.out hb6)
          replace HSA := Lib.hid (HSA.out.belowK HOK.out.ks hb6)
          clear hb6
          try dsimp only
          go_wp2_with fail
          with_reducible refine (HLk.out _).mono ?_
          rintro e w7 ⟨rfl, hb7⟩
          have HB7 := Lib.hid (bel_call HB6.out hb7)
          replace HSA := Lib.hid (HSA.out.belowK HOK.out.ks hb7)
          clear hb7
          try dsimp only
          go_wp2_with fail
          with_reducible refine (HO.out _ HSA.out).mono ?_
          rintro e w8 ⟨rfl, hb8⟩
          have HB8 := Lib.hid (bel_call HB7.out hb8)
          replace HSA := Lib.hid (HSA.out.belowK HOK.out.ks hb8)
          clear hb8
          try dsimp only
          go_wp2_with fail
          with_reducible refine (HLk.out _).mono ?_
          rintro e w9 ⟨rfl, hb9⟩
          have HB9 := Lib.hid (bel_call HB8.out hb9)
          replace HSA := Lib.hid (HSA.out.belowK HOK.out.ks hb9)
          clear hb9
          try dsimp only
          go_wp2_with fail
          with_reducible refine (HG.out _ HSA.out).mono ?_
          rintro e w10 ⟨rfl, hb10⟩
          have HB10 := Lib.hid (bel_call HB9.out hb10)
          replace HSA := Lib.hid (HSA.out.belowK HOK.out.ks hb10)
          clear hb10
          try dsimp only
          clear HG HO
          by_cases hk : k0 = k1
          · obtain rfl : K = L := HKE.out hk
            subst hk
            have HLI : Hid (∀ w1, Sts D w w1 aA XA t → Calls Try.prog 17 #[.pointer (some aA), .string K, .agg #[.int .u8 120, .int .i64 0, .string K, .string ⟨#[]⟩]] w1 fun e w' => e = .returned (.bool false) ∧ Below w1.heap.size w1 w') := Lib.hid fun w1 h1 => by
              have h := pk_lies HPK.out h1 (k := K.data.toList) rfl hkz (ch_ok (kd := 120) (bk := 0) (Y := K) (Z := ⟨#[]⟩) (by decide) (by decide) hkz (by decide))
              rw [lie_self] at h
              exact h
            go_wp2_with fail
            with_reducible refine (HK.out _).mono ?_
            rintro e w11 ⟨rfl, hb11⟩
            have HB11 := Lib.hid (bel_call HB10.out hb11)
            replace HSA := Lib.hid (HSA.out.belowK HOK.out.ks hb11)
            clear hb11
            try dsimp only
            go_wp2_with fail
            with_reducible refine (HLk.out _).mono ?_
            rintro e w12 ⟨rfl, hb12⟩
            have HB12 := Lib.hid (bel_call HB11.out hb12)
            replace HSA := Lib.hid (HSA.out.belowK HOK.out.ks hb12)
            clear hb12
            try dsimp only
            go_wp2_with fail
            with_reducible refine (HLI.out _ HSA.out).mono ?_
            rintro e w13 ⟨rfl, hb13⟩
            have HB13 := Lib.hid (bel_call HB12.out hb13)
            replace HSA := Lib.hid (HSA.out.belowK HOK.out.ks hb13)
            clear hb13
            try dsimp only
            go_wp2
            go_ret
            exact ⟨rfl, HB13.out⟩
          · go_wp2
            go_ret
            exact ⟨rfl, HB10.out⟩
        · have hi40 : ¬ (40000 : Int) < (B2.size : Int) := by omega
          have HM : Hid (∀ w1, Sts D w w1 aA XA t → Calls Try.prog 12 #[.pointer (some aA), .string K, .agg #[.int .u8 98, .int .i64 0, .string ⟨#[]⟩, .string B2]] w1 fun e w' => e = .returned (.tuple #[.string B2, .int .i64 0]) ∧ Below w1.heap.size w1 w') := Lib.hid fun w1 h1 => (pk_get HPK.out h1 (k := K.data.toList) rfl hkz (ch_ok (by decide) (by decide) (by decide) (by omega))).mono fun e w' h => by
            obtain ⟨h, h2⟩ := h
            rw [pick_made h40] at h
            exact ⟨sr_val h rfl, h2⟩
          clear h40
          go_wp2_with fail
          with_reducible refine (HK.out _).mono ?_
          rintro e w4 ⟨rfl, hb4⟩
          have HB4 := Lib.hid (bel_call HB3.out hb4)
          replace HSA := Lib.hid (HSA.out.belowK HOK.out.ks hb4)
          clear hb4
          try dsimp only
          go_wp2_with fail
          with_reducible refine (HM.out _ HSA.out).mono ?_
          rintro e w5 ⟨rfl, hb5⟩
          have HB5 := Lib.hid (bel_call HB4.out hb5)
          replace HSA := Lib.hid (HSA.out.belowK HOK.out.ks hb5)
          clear hb5
          try dsimp only
          clear HM
          obtain ⟨T2, hT2⟩ := text_of (getS t L.data.toList).1
          have HO : Hid (∀ w1, Sts D w w1 aA XA t → Calls Try.prog 12 #[.pointer (some aA), .string K, .agg #[.int .u8 120, .int .i64 1, .string L, .string ⟨#[113]⟩]] w1 fun e w' => e = .returned (.tuple #[.string T2, .int .i64 (getS t L.data.toList).2]) ∧ Below w1.heap.size w1 w') := Lib.hid fun w1 h1 => (pk_get HPK.out h1 (k := K.data.toList) rfl hkz (ch_ok (by decide) (by decide) hlz (by decide))).mono fun e w' h => by
            obtain ⟨h, h2⟩ := h
            rw [pick_other] at h
            exact ⟨sr_val h hT2, h2⟩
          have HG : Hid (∀ w1, Sts D w w1 aA XA t → Calls Try.prog 22 #[.pointer (some aA), .string L] w1 fun e w' => e = .returned (.tuple #[.string T2, .int .i64 (getS t L.data.toList).2]) ∧ Below w1.heap.size w1 w') := Lib.hid fun w1 h1 => (st_get HOK.out h1 (k := L.data.toList) rfl hlz).mono fun e w' h => ⟨sr_val h.1 hT2, h.2⟩
          generalize (getS t L.data.toList).2 = e2 at HO HG
          clear hT2
          go_wp2_with fail
          with_reducible refine (HK.out _).mono ?_
          rintro e w6 ⟨rfl, hb6⟩
          have HB6 := Lib.hid (bel_call HB5.out hb6)
          replace HSA := Lib.hid (HSA.out.belowK HOK.out.ks hb6)
          clear hb6
          try dsimp only
          go_wp2_with fail
          with_reducible refine (HLk.out _).mono ?_
          rintro e w7 ⟨rfl, hb7⟩
          have HB7 := Lib.hid (bel_call HB6.out hb7)
          replace HSA := Lib.hid (HSA.out.belowK HOK.out.ks hb7)
          clear hb7
          try dsimp only
          go_wp2_with fail
          with_reducible refine (HO.out _ HSA.out).mono ?_
          rintro e w8 ⟨rfl, hb8⟩
          have HB8 := Lib.hid (bel_call HB7.out hb8)
          replace HSA := Lib.hid (HSA.out.belowK HOK.out.ks hb8)
          clear hb8
          try dsimp only
          go_wp2_with fail
          with_reducible refine (HLk.out _).mono ?_
          rintro e w9 ⟨rfl, hb9⟩
          have HB9 := Lib.hid (bel_call HB8.out hb9)
          replace HSA := Lib.hid (HSA.out.belowK HOK.out.ks hb9)
          clear hb9
          try dsimp only
          go_wp2_with fail
          with_reducible refine (HG.out _ HSA.out).mono ?_
          rintro e w10 ⟨rfl, hb10⟩
          have HB10 := Lib.hid (bel_call HB9.out hb10)
          replace HSA := Lib.hid (HSA.out.belowK HOK.out.ks hb10)
          clear hb10
          try dsimp only
          clear HG HO
          by_cases hk : k0 = k1
          · obtain rfl : K = L := HKE.out hk
            subst hk
            have HLI : Hid (∀ w1, Sts D w w1 aA XA t → Calls Try.prog 17 #[.pointer (some aA), .string K, .agg #[.int .u8 120, .int .i64 0, .string K, .string ⟨#[]⟩]] w1 fun e w' => e = .returned (.bool false) ∧ Below w1.heap.size w1 w') := Lib.hid fun w1 h1 => by
              have h := pk_lies HPK.out h1 (k := K.data.toList) rfl hkz (ch_ok (kd := 120) (bk := 0) (Y := K) (Z := ⟨#[]⟩) (by decide) (by decide) hkz (by decide))
              rw [lie_self] at h
              exact h
            go_wp2_with fail
            with_reducible refine (HK.out _).mono ?_
            rintro e w11 ⟨rfl, hb11⟩
            have HB11 := Lib.hid (bel_call HB10.out hb11)
            replace HSA := Lib.hid (HSA.out.belowK HOK.out.ks hb11)
            clear hb11
            try dsimp only
            go_wp2_with fail
            with_reducible refine (HLk.out _).mono ?_
            rintro e w12 ⟨rfl, hb12⟩
            have HB12 := Lib.hid (bel_call HB11.out hb12)
            replace HSA := Lib.hid (HSA.out.belowK HOK.out.ks hb12)
            clear hb12
            try dsimp only
            go_wp2_with fail
            with_reducible refine (HLI.out _ HSA.out).mono ?_
            rintro e w13 ⟨rfl, hb13⟩
            have HB13 := Lib.hid (bel_call HB12.out hb13)
            replace HSA := Lib.hid (HSA.out.belowK HOK.out.ks hb13)
            clear hb13
            try dsimp only
            go_wp2
            go_ret
            exact ⟨rfl, HB13.out⟩
          · go_wp2
            go_ret
            exact ⟨rfl, HB10.out⟩
      · by_cases h40 : 40000 < B.size
        · have hi40 : (40000 : Int) < (B.size : Int) := by omega
          have HM : Hid (∀ w1, Sts D w w1 aA XA t → Calls Try.prog 12 #[.pointer (some aA), .string K, .agg #[.int .u8 98, .int .i64 0, .string ⟨#[]⟩, .string B]] w1 fun e w' => e = .returned (.tuple #[.string ⟨#[]⟩, .int .i64 10]) ∧ Below w1.heap.size w1 w') := Lib.hid fun w1 h1 => (pk_get HPK.out h1 (k := K.data.toList) rfl hkz (ch_ok (by decide) (by decide) (by decide) (by omega))).mono fun e w' h => by
            obtain ⟨h, h2⟩ := h
            rw [pick_big h40] at h
            exact ⟨sr_val h rfl, h2⟩
          clear h40
          go_wp2_with fail
          with_reducible refine (HK.out _).mono ?_
          rintro e w3 ⟨rfl, hb3⟩
          have HB3 := Lib.hid (bel_call HB2.out hb3)
          replace HSA := Lib.hid (HSA.out.belowK HOK.out.ks hb3)
          clear hb3
          try dsimp only
          go_wp2_with fail
          with_reducible refine (HM.out _ HSA.out).mono ?_
          rintro e w4 ⟨rfl, hb4⟩
          have HB4 := Lib.hid (bel_call HB3.out hb4)
          replace HSA := Lib.hid (HSA.out.belowK HOK.out.ks hb4)
          clear hb4
          try dsimp only
          clear HM
          obtain ⟨T2, hT2⟩ := text_of (getS t L.data.toList).1
          have HO : Hid (∀ w1, Sts D w w1 aA XA t → Calls Try.prog 12 #[.pointer (some aA), .string K, .agg #[.int .u8 120, .int .i64 1, .string L, .string ⟨#[113]⟩]] w1 fun e w' => e = .returned (.tuple #[.string T2, .int .i64 (getS t L.data.toList).2]) ∧ Below w1.heap.size w1 w') := Lib.hid fun w1 h1 => (pk_get HPK.out h1 (k := K.data.toList) rfl hkz (ch_ok (by decide) (by decide) hlz (by decide))).mono fun e w' h => by
            obtain ⟨h, h2⟩ := h
            rw [pick_other] at h
            exact ⟨sr_val h hT2, h2⟩
          have HG : Hid (∀ w1, Sts D w w1 aA XA t → Calls Try.prog 22 #[.pointer (some aA), .string L] w1 fun e w' => e = .returned (.tuple #[.string T2, .int .i64 (getS t L.data.toList).2]) ∧ Below w1.heap.size w1 w') := Lib.hid fun w1 h1 => (st_get HOK.out h1 (k := L.data.toList) rfl hlz).mono fun e w' h => ⟨sr_val h.1 hT2, h.2⟩
          generalize (getS t L.data.toList).2 = e2 at HO HG
          clear hT2
          go_wp2_with fail
          with_reducible refine (HK.out _).mono ?_
          rintro e w5 ⟨rfl, hb5⟩
          have HB5 := Lib.hid (bel_call HB4.out hb5)
          replace HSA := Lib.hid (HSA.out.belowK HOK.out.ks hb5)
          clear hb5
          try dsimp only
          go_wp2_with fail
          with_reducible refine (HLk.out _).mono ?_
          rintro e w6 ⟨rfl, hb6⟩
          have HB6 := Lib.hid (bel_call HB5.out hb6)
          replace HSA := Lib.hid (HSA.out.belowK HOK.out.ks hb6)
          clear hb6
          try dsimp only
          go_wp2_with fail
          with_reducible refine (HO.out _ HSA.out).mono ?_
          rintro e w7 ⟨rfl, hb7⟩
          have HB7 := Lib.hid (bel_call HB6.out hb7)
          replace HSA := Lib.hid (HSA.out.belowK HOK.out.ks hb7)
          clear hb7
          try dsimp only
          go_wp2_with fail
          with_reducible refine (HLk.out _).mono ?_
          rintro e w8 ⟨rfl, hb8⟩
          have HB8 := Lib.hid (bel_call HB7.out hb8)
          replace HSA := Lib.hid (HSA.out.belowK HOK.out.ks hb8)
          clear hb8
          try dsimp only
          go_wp2_with fail
          with_reducible refine (HG.out _ HSA.out).mono ?_
          rintro e w9 ⟨rfl, hb9⟩
          have HB9 := Lib.hid (bel_call HB8.out hb9)
          replace HSA := Lib.hid (HSA.out.belowK HOK.out.ks hb9)
          clear hb9
          try dsimp only
          clear HG HO
          by_cases hk : k0 = k1
          · obtain rfl : K = L := HKE.out hk
            subst hk
            have HLI : Hid (∀ w1, Sts D w w1 aA XA t → Calls Try.prog 17 #[.pointer (some aA), .string K, .agg #[.int .u8 120, .int .i64 0, .string K, .string ⟨#[]⟩]] w1 fun e w' => e = .returned (.bool false) ∧ Below w1.heap.size w1 w') := Lib.hid fun w1 h1 => by
              have h := pk_lies HPK.out h1 (k := K.data.toList) rfl hkz (ch_ok (kd := 120) (bk := 0) (Y := K) (Z := ⟨#[]⟩) (by decide) (by decide) hkz (by decide))
              rw [lie_self] at h
              exact h
            go_wp2_with fail
            with_reducible refine (HK.out _).mono ?_
            rintro e w10 ⟨rfl, hb10⟩
            have HB10 := Lib.hid (bel_call HB9.out hb10)
            replace HSA := Lib.hid (HSA.out.belowK HOK.out.ks hb10)
            clear hb10
            try dsimp only
            go_wp2_with fail
            with_reducible refine (HLk.out _).mono ?_
            rintro e w11 ⟨rfl, hb11⟩
            have HB11 := Lib.hid (bel_call HB10.out hb11)
            replace HSA := Lib.hid (HSA.out.belowK HOK.out.ks hb11)
            clear hb11
            try dsimp only
            go_wp2_with fail
            with_reducible refine (HLI.out _ HSA.out).mono ?_
            rintro e w12 ⟨rfl, hb12⟩
            have HB12 := Lib.hid (bel_call HB11.out hb12)
            replace HSA := Lib.hid (HSA.out.belowK HOK.out.ks hb12)
            clear hb12
            try dsimp only
            go_wp2
            go_ret
            exact ⟨rfl, HB12.out⟩
          · go_wp2
            go_ret
            exact ⟨rfl, HB9.out⟩
        · have hi40 : ¬ (40000 : Int) < (B.size : Int) := by omega
          have HM : Hid (∀ w1, Sts D w w1 aA XA t → Calls Try.prog 12 #[.pointer (some aA), .string K, .agg #[.int .u8 98, .int .i64 0, .string ⟨#[]⟩, .string B]] w1 fun e w' => e = .returned (.tuple #[.string B, .int .i64 0]) ∧ Below w1.heap.size w1 w') := Lib.hid fun w1 h1 => (pk_get HPK.out h1 (k := K.data.toList) rfl hkz (ch_ok (by decide) (by decide) (by decide) (by omega))).mono fun e w' h => by
            obtain ⟨h, h2⟩ := h
            rw [pick_made h40] at h
            exact ⟨sr_val h rfl, h2⟩
          clear h40
          go_wp2_with fail
          with_reducible refine (HK.out _).mono ?_
          rintro e w3 ⟨rfl, hb3⟩
          have HB3 := Lib.hid (bel_call HB2.out hb3)
          replace HSA := Lib.hid (HSA.out.belowK HOK.out.ks hb3)
          clear hb3
          try dsimp only
          go_wp2_with fail
          with_reducible refine (HM.out _ HSA.out).mono ?_
          rintro e w4 ⟨rfl, hb4⟩
          have HB4 := Lib.hid (bel_call HB3.out hb4)
          replace HSA := Lib.hid (HSA.out.belowK HOK.out.ks hb4)
          clear hb4
          try dsimp only
          clear HM
          obtain ⟨T2, hT2⟩ := text_of (getS t L.data.toList).1
          have HO : Hid (∀ w1, Sts D w w1 aA XA t → Calls Try.prog 12 #[.pointer (some aA), .string K, .agg #[.int .u8 120, .int .i64 1, .string L, .string ⟨#[113]⟩]] w1 fun e w' => e = .returned (.tuple #[.string T2, .int .i64 (getS t L.data.toList).2]) ∧ Below w1.heap.size w1 w') := Lib.hid fun w1 h1 => (pk_get HPK.out h1 (k := K.data.toList) rfl hkz (ch_ok (by decide) (by decide) hlz (by decide))).mono fun e w' h => by
            obtain ⟨h, h2⟩ := h
            rw [pick_other] at h
            exact ⟨sr_val h hT2, h2⟩
          have HG : Hid (∀ w1, Sts D w w1 aA XA t → Calls Try.prog 22 #[.pointer (some aA), .string L] w1 fun e w' => e = .returned (.tuple #[.string T2, .int .i64 (getS t L.data.toList).2]) ∧ Below w1.heap.size w1 w') := Lib.hid fun w1 h1 => (st_get HOK.out h1 (k := L.data.toList) rfl hlz).mono fun e w' h => ⟨sr_val h.1 hT2, h.2⟩
          generalize (getS t L.data.toList).2 = e2 at HO HG
          clear hT2
          go_wp2_with fail
          with_reducible refine (HK.out _).mono ?_
          rintro e w5 ⟨rfl, hb5⟩
          have HB5 := Lib.hid (bel_call HB4.out hb5)
          replace HSA := Lib.hid (HSA.out.belowK HOK.out.ks hb5)
          clear hb5
          try dsimp only
          go_wp2_with fail
          with_reducible refine (HLk.out _).mono ?_
          rintro e w6 ⟨rfl, hb6⟩
          have HB6 := Lib.hid (bel_call HB5.out hb6)
          replace HSA := Lib.hid (HSA.out.belowK HOK.out.ks hb6)
          clear hb6
          try dsimp only
          go_wp2_with fail
          with_reducible refine (HO.out _ HSA.out).mono ?_
          rintro e w7 ⟨rfl, hb7⟩
          have HB7 := Lib.hid (bel_call HB6.out hb7)
          replace HSA := Lib.hid (HSA.out.belowK HOK.out.ks hb7)
          clear hb7
          try dsimp only
          go_wp2_with fail
          with_reducible refine (HLk.out _).mono ?_
          rintro e w8 ⟨rfl, hb8⟩
          have HB8 := Lib.hid (bel_call HB7.out hb8)
          replace HSA := Lib.hid (HSA.out.belowK HOK.out.ks hb8)
          clear hb8
          try dsimp only
          go_wp2_with fail
          with_reducible refine (HG.out _ HSA.out).mono ?_
          rintro e w9 ⟨rfl, hb9⟩
          have HB9 := Lib.hid (bel_call HB8.out hb9)
          replace HSA := Lib.hid (HSA.out.belowK HOK.out.ks hb9)
          clear hb9
          try dsimp only
          clear HG HO
          by_cases hk : k0 = k1
          · obtain rfl : K = L := HKE.out hk
            subst hk
            have HLI : Hid (∀ w1, Sts D w w1 aA XA t → Calls Try.prog 17 #[.pointer (some aA), .string K, .agg #[.int .u8 120, .int .i64 0, .string K, .string ⟨#[]⟩]] w1 fun e w' => e = .returned (.bool false) ∧ Below w1.heap.size w1 w') := Lib.hid fun w1 h1 => by
              have h := pk_lies HPK.out h1 (k := K.data.toList) rfl hkz (ch_ok (kd := 120) (bk := 0) (Y := K) (Z := ⟨#[]⟩) (by decide) (by decide) hkz (by decide))
              rw [lie_self] at h
              exact h
            go_wp2_with fail
            with_reducible refine (HK.out _).mono ?_
            rintro e w10 ⟨rfl, hb10⟩
            have HB10 := Lib.hid (bel_call HB9.out hb10)
            replace HSA := Lib.hid (HSA.out.belowK HOK.out.ks hb10)
            clear hb10
            try dsimp only
            go_wp2_with fail
            with_reducible refine (HLk.out _).mono ?_
            rintro e w11 ⟨rfl, hb11⟩
            have HB11 := Lib.hid (bel_call HB10.out hb11)
            replace HSA := Lib.hid (HSA.out.belowK HOK.out.ks hb11)
            clear hb11
            try dsimp only
            go_wp2_with fail
            with_reducible refine (HLI.out _ HSA.out).mono ?_
            rintro e w12 ⟨rfl, hb12⟩
            have HB12 := Lib.hid (bel_call HB11.out hb12)
            replace HSA := Lib.hid (HSA.out.belowK HOK.out.ks hb12)
            clear hb12
            try dsimp only
            go_wp2
            go_ret
            exact ⟨rfl, HB12.out⟩
          · go_wp2
            go_ret
            exact ⟨rfl, HB9.out⟩
end Go.Proofs.Ytamkepfhlfeiiaa.Sto
