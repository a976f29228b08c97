/-
  THE LAW StoreBounds, walked. By an AI agent; no person has read it.
-/
import Derived.Test.YtfeochpjjbnckaaSShown
import Derived.Test.YtfeochpjjbnckaaSBoundsP
import Derived.Test.YtfeochpjjbnckaaSBytes
namespace Go.Proofs.Ytfeochpjjbnckaa.Sto
open Go Go.RowKit Wire

set_option linter.unusedSimpArgs false
set_option linter.unusedVariables false
set_option maxHeartbeats 8000000 in
set_option maxRecDepth 1000000 in
theorem bounds_walk {D : DPred} (ok : StoreOK D) (A : Option Addr) (n c : Nat) (Z : Nat → Ac) (l0 b0 : Int) (w : World) (hn : n ≤ 9223372036854775807) (hr : CReads w A n Z) (h0 : -9223372036854775808 ≤ l0 ∧ l0 ≤ 9223372036854775807) (h1 : -9223372036854775808 ≤ b0 ∧ b0 ≤ 9223372036854775807) : Calls Try.prog 6 #[.slice A n c, .int .i64 l0, .int .i64 b0] w fun e w' => e = .returned (.bool true) ∧ Below w.heap.size w w' := by
  have HOK := Lib.hid ok
  have HR := Lib.hid hr
  have HSH := Lib.hid fun w => shown_any ok w
  have HPL : Hid (∀ w, Calls Try.prog 15 #[.int .i64 l0, .int .i64 210] w fun e w' => e = .returned (.int .i64 (pk l0 210 : Int)) ∧ w' = w) := Lib.hid fun w => pick_any l0 210 w h0 (by decide) (by decide)
  have HPB : Hid (∀ w, Calls Try.prog 15 #[.int .i64 b0, .int .i64 20] w fun e w' => e = .returned (.int .i64 (pk b0 20 : Int)) ∧ w' = w) := Lib.hid fun w => pick_any b0 20 w h1 (by decide) (by decide)
  have HL : Hid (∀ w', Below w.heap.size w w' → Calls Try.prog 10 #[.slice A n c] w' fun e w'' => LightE n e ∧ Below w'.heap.size w' w'') := Lib.hid fun w' hb => light_any A c n Z w' (hr.below hb (Nat.le_refl _)) hn
  have hp := pk_lt l0 (n := 210) (by decide)
  generalize pk l0 210 = p at HPL hp
  have hq := pk_lt b0 (n := 20) (by decide)
  generalize pk b0 20 = q at HPB hq
  clear hr
  have hn0 : (0 : Int) ≤ (n : Int) := Int.natCast_nonneg n
  go_enter Try.func6, Try.ntmps6
  go_wp2_with fail
  with_reducible refine (HSH.out _).mono ?_
  rintro e w1 ⟨rfl, hb1⟩
  have HB1 := Lib.hid hb1
  clear hb1
  try dsimp only
  go_wp2_with fail
  with_reducible refine (HL.out _ HB1.out).mono ?_
  rintro e w2 ⟨⟨bl, hbl, rfl⟩, hb2⟩
  have HB2 := Lib.hid (bel_call HB1.out hb2)
  clear hb2
  try dsimp only
  go_wp2_with fail
  with_reducible refine (st_new HOK.out HB2.out).mono ?_
  rintro e w3 ⟨aA, XA, rfl, hsA, hxA, hb3⟩
  have HB3 := Lib.hid (bel_call HB2.out hb3)
  have HSA := Lib.hid hsA
  clear hsA hb3 hxA
  try dsimp only
  cases bl
  case false =>
    go_wp2
    go_ret
    exact ⟨rfl, HB3.out⟩
  have hn100 := hbl rfl
  clear hbl
  by_cases h20 : 20 < n
  · have h20i : (20 : Int) < (n : Int) := by omega
    go_wp2
    go_ret
    exact ⟨rfl, HB3.out⟩
  have h20i : ¬ (20 : Int) < (n : Int) := by omega
  go_wp2_with fail
  with_reducible refine (HPL.out _).mono ?_
  rintro e v1 ⟨rfl, hv1⟩
  obtain rfl : w3 = v1 := hv1.symm
  dsimp only
  have kmk := run_z p (by omega)
  go_wp2_with fail
  have hbS := bel_z w3 p
  have hxS := bz_new w3 p
  have HNkA := Lib.hid (new_off HOK.out HSA.out)
  generalize zworld w3 p = wSk at hbS hxS ⊢
  have HB4 := Lib.hid (bel_call HB3.out hbS)
  replace HSA := Lib.hid (HSA.out.below HOK.out hbS)
  have HXk := Lib.hid hxS
  clear hbS hxS kmk
  obtain ⟨g, hg⟩ : ∃ g, w3.heap.size = g := ⟨_, rfl⟩
  rw [hg] at HXk HNkA ⊢
  obtain ⟨T, hT⟩ : ∃ T, Zb p = T := ⟨_, rfl⟩
  go_wp2_with fail
  go_loopw [11] (fun i wr => ∃ (k : Nat) (X : Nat → Prop) (t : Stt), k ≤ n ∧ i = .int .i64 k ∧ Hid (Bd T.data.toList k t) ∧ Hid (Sts D w wr aA X t) ∧ Hid (Bz g p wr) ∧ Hid (¬ X g)) (fun i _ => n - (intOf i).toNat)
  case atStart => exact ⟨0, XA, s0, Nat.zero_le _, rfl, Lib.hid (bd0 _), HSA, HXk, HNkA⟩
  case round =>
    obtain ⟨k, X, t, hk, rfl, HF, HSA, HXk, HNkA⟩ := hrel
    have HB1 := Lib.hid HSA.out.b
    by_cases hlt : k < n
    · have hki : (k : Int) < (n : Int) := by omega
      have hk0 : (0 : Int) ≤ (k : Int) := Int.natCast_nonneg k
      obtain ⟨b, off, rfl, hblt, ⟨c0, c1, c2, c3⟩, hz⟩ := HR.out k hlt
      obtain ⟨za, hza⟩ : ∃ z, Z k = z := ⟨_, rfl⟩
      rw [hza] at c0 c1 c2 c3 hz
      obtain ⟨op, zk, zK, zB⟩ := za
      obtain ⟨hz1, hz2, hz3, hz4⟩ := hz
      simp only at c0 c1 c2 c3 hz1 hz2 hz3 hz4
      clear hza
      have HNrA : Hid (¬ X b) := Lib.hid fun hx => by have := HSA.out.x _ hx; omega
      have HXr : Hid (R4 b (off + k * 4) wr (.int .i64 op) (.int .i64 zk) (.string zK) (.string zB)) := Lib.hid (R4.below (w := w) ⟨hblt, c0, c1, c2, c3⟩ HB1.out)
      clear c0 c1 c2 c3 hblt
      have HK : Hid (∀ w, Calls Try.prog 11 #[.agg #[.int .i64 op, .int .i64 zk, .string zK, .string zB]] w fun e w' => e = .returned (.string (keyN ⟨op, zk, zK, zB⟩)) ∧ Below w.heap.size w w') := Lib.hid fun w => key_any ⟨op, zk, zK, zB⟩ ⟨hz1, hz2, hz3, hz4⟩ w
      have hkz := keyN_small (a := ⟨op, zk, zK, zB⟩) ⟨hz1, hz2, hz3, hz4⟩
      generalize keyN ⟨op, zk, zK, zB⟩ = K at HK hkz
      go_wp2_with fail
      have hdr : Bz g p wr.drew ∧ R4 b (off + k * 4) wr.drew (.int .i64 op) (.int .i64 zk) (.string zK) (.string zB) ∧ Below wr.heap.size wr wr.drew := ⟨HXk.out.below (Below.drewN' (Below.refl wr.heap.size wr) 1), HXr.out.below (Below.drewN' (Below.refl wr.heap.size wr) 1), (Below.drewN' (Below.refl wr.heap.size wr) 1)⟩
      refine Ord.region_lit (S := fun w' => Bz g p w' ∧ R4 b (off + k * 4) w' (.int .i64 op) (.int .i64 zk) (.string zK) (.string zB) ∧ Below wr.heap.size wr w') (by kernel_rfl) (by kernel_rfl) hdr ?_
      clear hdr
      refine Ord.stepR (v := ?_) (by rfl) ?_ ?_
      rotate_left
      · intro w' hSw
        go_simp
        try with_reducible rfl
      try simp only [Act.put, List.setIfInBounds_toArray, List.set_cons_zero, List.set_cons_succ]
      refine Ord.stepR (v := ?_) (by rfl) ?_ ?_
      rotate_left
      · intro w' hSw
        go_simp
        try with_reducible rfl
      try simp only [Act.put, List.setIfInBounds_toArray, List.set_cons_zero, List.set_cons_succ]
      refine Ord.stepR (v := ?_) (by rfl) ?_ ?_
      rotate_left
      · intro w' hSw
        go_simp
        try with_reducible rfl
      try simp only [Act.put, List.setIfInBounds_toArray, List.set_cons_zero, List.set_cons_succ]
      refine Ord.stepR (v := ?_) (by rfl) ?_ ?_
      rotate_left
      · intro w' hSw
        have kc0 := fun cap => z_text hSw.1 cap
        obtain ⟨_, q10, q11, q12, q13⟩ := hSw.2.1
        go_simp
        try with_reducible rfl
      try simp only [Act.put, List.setIfInBounds_toArray, List.set_cons_zero, List.set_cons_succ]
      refine Ord.stepC (v := (.string K)) (by rfl) ?_ (fun w1 hS => (HK.out _).mono fun e w2 h => ⟨h.1, ⟨hS.1.below (h.2), hS.2.1.below (h.2), hS.2.2.trans ((h.2).mono hS.2.2.size)⟩⟩) ?_
      · intro w' hSw
        go_simp
        try with_reducible rfl
      try simp only [Act.put, List.setIfInBounds_toArray, List.set_cons_zero, List.set_cons_succ]
      refine Ord.stepR (v := ?_) (by rfl) ?_ ?_
      rotate_left
      · intro w' hSw
        go_simp
        try with_reducible rfl
      try simp only [Act.put, List.setIfInBounds_toArray, List.set_cons_zero, List.set_cons_succ]
      refine Ord.stepR (v := ?_) (by rfl) ?_ ?_
      rotate_left
      · intro w' hSw
        have kc0 := fun cap => z_text hSw.1 cap
        obtain ⟨_, q10, q11, q12, q13⟩ := hSw.2.1
        go_simp
        try with_reducible rfl
      try simp only [Act.put, List.setIfInBounds_toArray, List.set_cons_zero, List.set_cons_succ]
      refine Ord.stepR (v := ?_) (by rfl) ?_ ?_
      rotate_left
      · intro w' hSw
        go_simp
        try with_reducible rfl
      try simp only [Act.put, List.setIfInBounds_toArray, List.set_cons_zero, List.set_cons_succ]
      refine Ord.stepD fun Z1 hZ => ?_
      replace HXk := Lib.hid hZ.1
      replace HXr := Lib.hid hZ.2.1
      have HB2 := Lib.hid (Bel.call HB1.out hZ.2.2)
      replace HSA := Lib.hid (HSA.out.below HOK.out hZ.2.2)
      clear hZ
      by_cases he : K.data.toList = T.data.toList
      · have hb := eq_bool he
        simp only [hb, Bool.not_true]
        go_wp2
        go_roundw
        case rel => exact ⟨k + 1, _, _, by omega, by go_num, Lib.hid HF.out.up, HSA, HXk, HNkA⟩
        case measure => simp [intOf]; omega
      · have hb := ne_bool he
        simp only [hb, Bool.not_false]
        go_wp2_with fail
        have hdr : Below Z1.heap.size Z1 Z1.drew := Below.drewN' (Below.refl Z1.heap.size Z1) 1
        refine wp_region_held_drew (S := fun w' => Bz g p w' ∧ R4 b (off + k * 4) w' (.int .i64 op) (.int .i64 zk) (.string zK) (.string zB)) (by kernel_rfl) (⟨HXk.out.below hdr, HXr.out.below hdr⟩) (fun hHeld => ?_)
        clear hHeld
        generalize Z1.drew = wd2 at hdr ⊢
        have HB3 := Lib.hid (bel_call HB2.out hdr)
        replace HSA := Lib.hid (HSA.out.below HOK.out hdr)
        replace HXk := Lib.hid (HXk.out.below hdr)
        replace HXr := Lib.hid (HXr.out.below hdr)
        clear hdr
        have hHeld : Bz g p wd2 ∧ R4 b (off + k * 4) wd2 (.int .i64 op) (.int .i64 zk) (.string zK) (.string zB) := ⟨HXk.out, HXr.out⟩
        refine wpAnyH_take (i := 0) (v := ?_) (by rw [List.getElem?_toArray]; rfl) (by kernel_rfl) (by kernel_rfl) (by kernel_rfl) (by exact fun _ _ _ h => h) (Or.inl ⟨by rfl, ?_⟩) (by assumption) ?_
        rotate_left
        · intro w' hSw
          go_simp
          try with_reducible rfl
        try simp only [Act.put, List.setIfInBounds_toArray, List.set_cons_zero, List.set_cons_succ]
        refine wpAnyH_take (i := 1) (v := ?_) (by rw [List.getElem?_toArray]; rfl) (by kernel_rfl) (by kernel_rfl) (by kernel_rfl) (by exact fun _ _ _ h => h) (Or.inl ⟨by rfl, ?_⟩) (by assumption) ?_
        rotate_left
        · intro w' hSw
          go_simp
          try with_reducible rfl
        try simp only [Act.put, List.setIfInBounds_toArray, List.set_cons_zero, List.set_cons_succ]
        refine wpAnyH_take (i := 2) (v := ?_) (by rw [List.getElem?_toArray]; rfl) (by kernel_rfl) (by kernel_rfl) (by kernel_rfl) (by exact fun _ _ _ h => h) (Or.inl ⟨by rfl, ?_⟩) (by assumption) ?_
        rotate_left
        · intro w' hSw
          go_simp
          try with_reducible rfl
        try simp only [Act.put, List.setIfInBounds_toArray, List.set_cons_zero, List.set_cons_succ]
        refine wpAnyH_take (i := 3) (v := ?_) (by rw [List.getElem?_toArray]; rfl) (by kernel_rfl) (by kernel_rfl) (by kernel_rfl) (by exact fun _ _ _ h => h) (Or.inl ⟨by rfl, ?_⟩) (by assumption) ?_
        rotate_left
        · intro w' hSw
          go_simp
          try with_reducible rfl
        try simp only [Act.put, List.setIfInBounds_toArray, List.set_cons_zero, List.set_cons_succ]
        refine wpAnyH_take (i := 4) (v := ?_) (by rw [List.getElem?_toArray]; rfl) (by kernel_rfl) (by kernel_rfl) (by kernel_rfl) (by exact fun _ _ _ h => h) (Or.inl ⟨by rfl, ?_⟩) (by assumption) ?_
        rotate_left
        · intro w' hSw
          obtain ⟨_, q10, q11, q12, q13⟩ := hSw.2
          go_simp
          try with_reducible rfl
        try simp only [Act.put, List.setIfInBounds_toArray, List.set_cons_zero, List.set_cons_succ]
        refine wpAnyH_take (i := 6) (v := ?_) (by rw [List.getElem?_toArray]; rfl) (by kernel_rfl) (by kernel_rfl) (by kernel_rfl) (by exact fun _ _ _ h => h) (Or.inl ⟨by rfl, ?_⟩) (by assumption) ?_
        rotate_left
        · intro w' hSw
          go_simp
          try with_reducible rfl
        try simp only [Act.put, List.setIfInBounds_toArray, List.set_cons_zero, List.set_cons_succ]
        refine wpAnyH_take (i := 7) (v := ?_) (by rw [List.getElem?_toArray]; rfl) (by kernel_rfl) (by kernel_rfl) (by kernel_rfl) (by exact fun _ _ _ h => h) (Or.inl ⟨by rfl, ?_⟩) (by assumption) ?_
        rotate_left
        · intro w' hSw
          go_simp
          try with_reducible rfl
        try simp only [Act.put, List.setIfInBounds_toArray, List.set_cons_zero, List.set_cons_succ]
        refine wpAnyH_take (i := 8) (v := ?_) (by rw [List.getElem?_toArray]; rfl) (by kernel_rfl) (by kernel_rfl) (by kernel_rfl) (by exact fun _ _ _ h => h) (Or.inl ⟨by rfl, ?_⟩) (by assumption) ?_
        rotate_left
        · intro w' hSw
          go_simp
          try with_reducible rfl
        try simp only [Act.put, List.setIfInBounds_toArray, List.set_cons_zero, List.set_cons_succ]
        refine wpAnyH_take (i := 9) (v := ?_) (by rw [List.getElem?_toArray]; rfl) (by kernel_rfl) (by kernel_rfl) (by kernel_rfl) (by exact fun _ _ _ h => h) (Or.inl ⟨by rfl, ?_⟩) (by assumption) ?_
        rotate_left
        · intro w' hSw
          go_simp
          try with_reducible rfl
        try simp only [Act.put, List.setIfInBounds_toArray, List.set_cons_zero, List.set_cons_succ]
        refine wpAnyH_take (i := 10) (v := ?_) (by rw [List.getElem?_toArray]; rfl) (by kernel_rfl) (by kernel_rfl) (by kernel_rfl) (by exact fun _ _ _ h => h) (Or.inl ⟨by rfl, ?_⟩) (by assumption) ?_
        rotate_left
        · intro w' hSw
          obtain ⟨_, q10, q11, q12, q13⟩ := hSw.2
          go_simp
          try with_reducible rfl
        try simp only [Act.put, List.setIfInBounds_toArray, List.set_cons_zero, List.set_cons_succ]
        clear hHeld
        refine wpAnyH_ready (rs := [5]) (by kernel_rfl) (by simp) ?_
        refine AllReadyH.cons (by rw [List.getElem?_toArray]; rfl) (fun Kn hK => ?_) AllReadyH.nil
        go_simp
        go_at_call 11
        with_reducible refine (HK.out _).mono ?_
        rintro e w4 ⟨rfl, hb4⟩
        have HB4 := Lib.hid (bel_call HB3.out hb4)
        replace HSA := Lib.hid (HSA.out.below HOK.out hb4)
        replace HXk := Lib.hid (HXk.out.below hb4)
        replace HXr := Lib.hid (HXr.out.below hb4)
        clear hb4
        try dsimp only
        refine hK.out _ _ ⟨HXk.out, HXr.out⟩ (fun hHeld => ?_)
        try simp only [Act.put, List.setIfInBounds_toArray, List.set_cons_zero, List.set_cons_succ]
        clear hHeld
        refine wpAnyH_ready (rs := [11]) (by kernel_rfl) (by simp) ?_
        refine AllReadyH.cons (by rw [List.getElem?_toArray]; rfl) (fun Kn hK => ?_) AllReadyH.nil
        go_simp
        go_at_call 16
        with_reducible refine (st_put HOK.out HSA.out (k := K.data.toList) (b := zB.data.toList) rfl rfl hkz hz4).mono ?_
        rintro e w5 ⟨rfl, XA_1, hs, hn⟩
        have HB5 := Lib.hid hs.b
        have hof := hn.off HXk.out.1 HNkA.out
        replace HXk := Lib.hid (HXk.out.next hn HNkA.out)
        replace HNkA := Lib.hid hof
        clear hof
        have hof := hn.off HXr.out.1 HNrA.out
        replace HXr := Lib.hid (HXr.out.next hn HNrA.out)
        replace HNrA := Lib.hid hof
        clear hof
        replace HSA := Lib.hid hs
        clear hs hn
        try dsimp only
        refine hK.out _ _ ⟨HXk.out, HXr.out⟩ (fun hHeld => ?_)
        try simp only [Act.put, List.setIfInBounds_toArray, List.set_cons_zero, List.set_cons_succ]
        refine wpAnyH_done (by kernel_rfl) ?_ _
        clear hHeld
        go_wp2
        go_roundw
        case rel => exact ⟨k + 1, _, _, by omega, by go_num, Lib.hid (bd_put HF.out he _), HSA, HXk, HNkA⟩
        case measure => simp [intOf]; omega
    · obtain rfl : k = n := by omega
      obtain ⟨N, hN⟩ : ∃ N, 39990 + q = N := ⟨_, rfl⟩
      have hN2 : N ≤ 40010 := by omega
      have hNi : (39990 : Int) + (q : Int) = (N : Int) := by omega
      have hNw : IntKind.i64.wrap (N : Int) = (N : Int) := by rw [IntKind.wrap_i64]; omega
      have hNw2 : IntKind.i64.wrap ((39990 : Int) + (q : Int)) = (N : Int) := by rw [hNi, hNw]
      obtain ⟨U, hU⟩ : ∃ U, Zb N = U := ⟨_, rfl⟩
      have hTs : T.data.toList.length = p := by rw [← hT, zb_list, List.length_replicate]
      have hUs : U.data.toList.length = N := by rw [← hU, zb_list, List.length_replicate]
      have hTz : T.size ≤ 140737488351232 := by rw [Lib.size_eq, hTs]; omega
      have hUz : U.size ≤ 140737488351232 := by rw [Lib.size_eq, hUs]; omega
      have HTs := Lib.hid hTs
      have HUs := Lib.hid hUs
      clear hTs hUs
      have hf0 := HSA.out.f
      go_wp2_with fail
      with_reducible refine (HPB.out _).mono ?_
      rintro e v1 ⟨rfl, hv1⟩
      obtain rfl : wr = v1 := hv1.symm
      dsimp only
      have kmk := run_z N (by omega)
      go_wp2_with fail
      have hbS := bel_z wr N
      have hxS := bz_new wr N
      have HNbA := Lib.hid (new_off HOK.out HSA.out)
      generalize zworld wr N = wSb at hbS hxS ⊢
      have HB2 := Lib.hid (bel_call HB1.out hbS)
      replace HSA := Lib.hid (HSA.out.below HOK.out hbS)
      replace HXk := Lib.hid (HXk.out.below hbS)
      have HXb := Lib.hid hxS
      clear hbS hxS kmk
      obtain ⟨g2, hg2⟩ : ∃ g, wr.heap.size = g := ⟨_, rfl⟩
      rw [hg2] at HXb HNbA ⊢
      go_wp2_with fail
      with_reducible refine (st_puts HOK.out HSA.out).mono ?_
      rintro e w3 ⟨rfl, hb3⟩
      have HB3 := Lib.hid (bel_call HB2.out hb3)
      replace HSA := Lib.hid (HSA.out.below HOK.out hb3)
      replace HXk := Lib.hid (HXk.out.below hb3)
      replace HXb := Lib.hid (HXb.out.below hb3)
      clear hb3
      try dsimp only
      go_wp2_with fail
      with_reducible refine (st_list HOK.out HSA.out (K := ⟨#[]⟩) (k := []) rfl (by decide)).mono ?_
      rintro e w4 ⟨hx, hb4⟩
      have HB4 := Lib.hid (bel_call HB3.out hb4)
      replace HSA := Lib.hid (HSA.out.below HOK.out hb4)
      replace HXk := Lib.hid (HXk.out.below hb4)
      replace HXb := Lib.hid (HXb.out.below hb4)
      clear hb4
      obtain ⟨ll, hll, hx⟩ := hx
      have HLl := Lib.hid hll
      clear hll
      obtain ⟨Al, cl, Yl, hq, hc, hr, ho, rfl⟩ := hx
      have HQl := Lib.hid hq
      have HCl := Lib.hid hc
      have HRl : Hid (RowO _ _ _ Al Yl) := Lib.hid ⟨hr, ho⟩
      clear hq hc hr ho
      try dsimp only
      have kc1 := fun cap => z_text HXk.out cap
      have kc2 := fun cap => z_text HXb.out cap
      go_wp2_with fail
      go_at_call 16
      with_reducible refine (st_put HOK.out HSA.out (K := T) (B := U) (k := T.data.toList) (b := U.data.toList) rfl rfl hTz hUz).mono ?_
      rintro e w5 ⟨rfl, XA_1, hs, hn⟩
      have HB5 := Lib.hid hs.b
      replace HRl := Lib.hid (HRl.out.next hn)
      have hof := hn.off HXk.out.1 HNkA.out
      replace HXk := Lib.hid (HXk.out.next hn HNkA.out)
      replace HNkA := Lib.hid hof
      clear hof
      have hof := hn.off HXb.out.1 HNbA.out
      replace HXb := Lib.hid (HXb.out.next hn HNbA.out)
      replace HNbA := Lib.hid hof
      clear hof
      replace HSA := Lib.hid hs
      clear hs hn
      try dsimp only
      clear kc1 kc2
      have hnone := bd_none HF.out hf0
      have hlt2 : (0 : Int) ≤ (p : Int) := Int.natCast_nonneg p
      by_cases h4 : 40000 < N
      · skip
        by_cases h5 : p = 0
        · have hE : putE t T.data.toList U.data.toList = 1 := bd_arg (Or.inl (List.eq_nil_of_length_eq_zero (by rw [HTs.out]; omega)))
          rw [hE]
          have hN4 : (40000 : Int) < (N : Int) := by omega
          subst h5
          rw [putS_no (by rw [hE]; decide)] at HSA
          clear hE
          have kc1 := fun cap => z_text HXk.out cap
          have kc2 := fun cap => z_text HXb.out cap
          go_wp2_with fail
          with_reducible refine (st_get HOK.out HSA.out (K := T) rfl hTz).mono ?_
          rintro e w6 ⟨⟨T1, hT1, rfl⟩, hb6⟩
          have HB6 := Lib.hid (bel_call HB5.out hb6)
          replace HSA := Lib.hid (HSA.out.below HOK.out hb6)
          replace HRl := Lib.hid (HRl.out.below hb6)
          replace HXk := Lib.hid (HXk.out.below hb6)
          replace HXb := Lib.hid (HXb.out.below hb6)
          clear hb6
          rw [hnone] at hT1 ⊢
          try dsimp only
          clear kc1 kc2
          have hT1e : T1.toList.isEmpty = true := by rw [Lib.toList_data, hT1]; rfl
          have kc1 := fun cap => z_text HXk.out cap
          have kc2 := fun cap => z_text HXb.out cap
          go_wp2_with fail
          with_reducible refine (st_puts HOK.out HSA.out).mono ?_
          rintro e w7 ⟨rfl, hb7⟩
          have HB7 := Lib.hid (bel_call HB6.out hb7)
          replace HSA := Lib.hid (HSA.out.below HOK.out hb7)
          replace HRl := Lib.hid (HRl.out.below hb7)
          replace HXk := Lib.hid (HXk.out.below hb7)
          replace HXb := Lib.hid (HXb.out.below hb7)
          clear hb7
          try dsimp only
          clear kc1 kc2
          go_wp2_with fail
          with_reducible refine (st_list HOK.out HSA.out (K := ⟨#[]⟩) (k := []) rfl (by decide)).mono ?_
          rintro e w8 ⟨hx, hb8⟩
          have HB8 := Lib.hid (bel_call HB7.out hb8)
          replace HSA := Lib.hid (HSA.out.below HOK.out hb8)
          replace HRl := Lib.hid (HRl.out.below hb8)
          replace HXk := Lib.hid (HXk.out.below hb8)
          replace HXb := Lib.hid (HXb.out.below hb8)
          clear hb8
          obtain ⟨lm, hlm, hx⟩ := hx
          have HLm := Lib.hid hlm
          clear hlm
          obtain ⟨Am, cm, Ym, hq, hc, hr, ho, rfl⟩ := hx
          have HQm := Lib.hid hq
          have HCm := Lib.hid hc
          have HRm : Hid (RowO _ _ _ Am Ym) := Lib.hid ⟨hr, ho⟩
          clear hq hc hr ho
          try dsimp only
          have hee : bl Ym = bl Yl := by rw [HQm.out, HQl.out]; exact lists_same (fun _ => rfl) HLm.out HLl.out
          go_wp2_with fail
          with_reducible refine (same_any _ _ _ _ _ _ _ HRm.out.r HRl.out.r (by have := HCm.out; omega)).mono ?_
          rintro e w9 ⟨rfl, hb9⟩
          have HB9 := Lib.hid (bel_call HB8.out hb9)
          replace HSA := Lib.hid (HSA.out.below HOK.out hb9)
          replace HRl := Lib.hid (HRl.out.below hb9)
          replace HRm := Lib.hid (HRm.out.below hb9)
          replace HXk := Lib.hid (HXk.out.below hb9)
          replace HXb := Lib.hid (HXb.out.below hb9)
          clear hb9
          rw [show decide (bl Ym = bl Yl) = true from decide_eq_true hee]
          try dsimp only
          go_wp2
          go_ret
          exact ⟨rfl, HB9.out⟩
        · skip
          by_cases h6 : 200 < p
          · have hE : putE t T.data.toList U.data.toList = 1 := bd_arg (Or.inr (by rw [HTs.out]; omega))
            rw [hE]
            have hN4 : (40000 : Int) < (N : Int) := by omega
            have hp0 : ¬ (p : Int) = 0 := by omega
            have hp2 : (200 : Int) < (p : Int) := by omega
            rw [putS_no (by rw [hE]; decide)] at HSA
            clear hE
            have kc1 := fun cap => z_text HXk.out cap
            have kc2 := fun cap => z_text HXb.out cap
            go_wp2_with fail
            with_reducible refine (st_get HOK.out HSA.out (K := T) rfl hTz).mono ?_
            rintro e w6 ⟨⟨T1, hT1, rfl⟩, hb6⟩
            have HB6 := Lib.hid (bel_call HB5.out hb6)
            replace HSA := Lib.hid (HSA.out.below HOK.out hb6)
            replace HRl := Lib.hid (HRl.out.below hb6)
            replace HXk := Lib.hid (HXk.out.below hb6)
            replace HXb := Lib.hid (HXb.out.below hb6)
            clear hb6
            rw [hnone] at hT1 ⊢
            try dsimp only
            clear kc1 kc2
            have hT1e : T1.toList.isEmpty = true := by rw [Lib.toList_data, hT1]; rfl
            have kc1 := fun cap => z_text HXk.out cap
            have kc2 := fun cap => z_text HXb.out cap
            go_wp2_with fail
            with_reducible refine (st_puts HOK.out HSA.out).mono ?_
            rintro e w7 ⟨rfl, hb7⟩
            have HB7 := Lib.hid (bel_call HB6.out hb7)
            replace HSA := Lib.hid (HSA.out.below HOK.out hb7)
            replace HRl := Lib.hid (HRl.out.below hb7)
            replace HXk := Lib.hid (HXk.out.below hb7)
            replace HXb := Lib.hid (HXb.out.below hb7)
            clear hb7
            try dsimp only
            clear kc1 kc2
            go_wp2_with fail
            with_reducible refine (st_list HOK.out HSA.out (K := ⟨#[]⟩) (k := []) rfl (by decide)).mono ?_
            rintro e w8 ⟨hx, hb8⟩
            have HB8 := Lib.hid (bel_call HB7.out hb8)
            replace HSA := Lib.hid (HSA.out.below HOK.out hb8)
            replace HRl := Lib.hid (HRl.out.below hb8)
            replace HXk := Lib.hid (HXk.out.below hb8)
            replace HXb := Lib.hid (HXb.out.below hb8)
            clear hb8
            obtain ⟨lm, hlm, hx⟩ := hx
            have HLm := Lib.hid hlm
            clear hlm
            obtain ⟨Am, cm, Ym, hq, hc, hr, ho, rfl⟩ := hx
            have HQm := Lib.hid hq
            have HCm := Lib.hid hc
            have HRm : Hid (RowO _ _ _ Am Ym) := Lib.hid ⟨hr, ho⟩
            clear hq hc hr ho
            try dsimp only
            have hee : bl Ym = bl Yl := by rw [HQm.out, HQl.out]; exact lists_same (fun _ => rfl) HLm.out HLl.out
            go_wp2_with fail
            with_reducible refine (same_any _ _ _ _ _ _ _ HRm.out.r HRl.out.r (by have := HCm.out; omega)).mono ?_
            rintro e w9 ⟨rfl, hb9⟩
            have HB9 := Lib.hid (bel_call HB8.out hb9)
            replace HSA := Lib.hid (HSA.out.below HOK.out hb9)
            replace HRl := Lib.hid (HRl.out.below hb9)
            replace HRm := Lib.hid (HRm.out.below hb9)
            replace HXk := Lib.hid (HXk.out.below hb9)
            replace HXb := Lib.hid (HXb.out.below hb9)
            clear hb9
            rw [show decide (bl Ym = bl Yl) = true from decide_eq_true hee]
            try dsimp only
            go_wp2
            go_ret
            exact ⟨rfl, HB9.out⟩
          · skip
            have hE : putE t T.data.toList U.data.toList = 10 := bd_big (fun e => by have := HTs.out; rw [e] at this; simp only [List.length_nil] at this; omega) (by rw [HTs.out]; omega) (by rw [HUs.out]; omega)
            rw [hE]
            have hN4 : (40000 : Int) < (N : Int) := by omega
            have hp0 : ¬ (p : Int) = 0 := by omega
            have hp2 : ¬ (200 : Int) < (p : Int) := by omega
            rw [putS_no (by rw [hE]; decide)] at HSA
            clear hE
            have kc1 := fun cap => z_text HXk.out cap
            have kc2 := fun cap => z_text HXb.out cap
            go_wp2_with fail
            with_reducible refine (st_get HOK.out HSA.out (K := T) rfl hTz).mono ?_
            rintro e w6 ⟨⟨T1, hT1, rfl⟩, hb6⟩
            have HB6 := Lib.hid (bel_call HB5.out hb6)
            replace HSA := Lib.hid (HSA.out.below HOK.out hb6)
            replace HRl := Lib.hid (HRl.out.below hb6)
            replace HXk := Lib.hid (HXk.out.below hb6)
            replace HXb := Lib.hid (HXb.out.below hb6)
            clear hb6
            rw [hnone] at hT1 ⊢
            try dsimp only
            clear kc1 kc2
            have hT1e : T1.toList.isEmpty = true := by rw [Lib.toList_data, hT1]; rfl
            have kc1 := fun cap => z_text HXk.out cap
            have kc2 := fun cap => z_text HXb.out cap
            go_wp2_with fail
            with_reducible refine (st_puts HOK.out HSA.out).mono ?_
            rintro e w7 ⟨rfl, hb7⟩
            have HB7 := Lib.hid (bel_call HB6.out hb7)
            replace HSA := Lib.hid (HSA.out.below HOK.out hb7)
            replace HRl := Lib.hid (HRl.out.below hb7)
            replace HXk := Lib.hid (HXk.out.below hb7)
            replace HXb := Lib.hid (HXb.out.below hb7)
            clear hb7
            try dsimp only
            clear kc1 kc2
            go_wp2_with fail
            with_reducible refine (st_list HOK.out HSA.out (K := ⟨#[]⟩) (k := []) rfl (by decide)).mono ?_
            rintro e w8 ⟨hx, hb8⟩
            have HB8 := Lib.hid (bel_call HB7.out hb8)
            replace HSA := Lib.hid (HSA.out.below HOK.out hb8)
            replace HRl := Lib.hid (HRl.out.below hb8)
            replace HXk := Lib.hid (HXk.out.below hb8)
            replace HXb := Lib.hid (HXb.out.below hb8)
            clear hb8
            obtain ⟨lm, hlm, hx⟩ := hx
            have HLm := Lib.hid hlm
            clear hlm
            obtain ⟨Am, cm, Ym, hq, hc, hr, ho, rfl⟩ := hx
            have HQm := Lib.hid hq
            have HCm := Lib.hid hc
            have HRm : Hid (RowO _ _ _ Am Ym) := Lib.hid ⟨hr, ho⟩
            clear hq hc hr ho
            try dsimp only
            have hee : bl Ym = bl Yl := by rw [HQm.out, HQl.out]; exact lists_same (fun _ => rfl) HLm.out HLl.out
            go_wp2_with fail
            with_reducible refine (same_any _ _ _ _ _ _ _ HRm.out.r HRl.out.r (by have := HCm.out; omega)).mono ?_
            rintro e w9 ⟨rfl, hb9⟩
            have HB9 := Lib.hid (bel_call HB8.out hb9)
            replace HSA := Lib.hid (HSA.out.below HOK.out hb9)
            replace HRl := Lib.hid (HRl.out.below hb9)
            replace HRm := Lib.hid (HRm.out.below hb9)
            replace HXk := Lib.hid (HXk.out.below hb9)
            replace HXb := Lib.hid (HXb.out.below hb9)
            clear hb9
            rw [show decide (bl Ym = bl Yl) = true from decide_eq_true hee]
            try dsimp only
            go_wp2
            go_ret
            exact ⟨rfl, HB9.out⟩
      · skip
        by_cases h5 : p = 0
        · have hE : putE t T.data.toList U.data.toList = 1 := bd_arg (Or.inl (List.eq_nil_of_length_eq_zero (by rw [HTs.out]; omega)))
          rw [hE]
          have hN4 : ¬ (40000 : Int) < (N : Int) := by omega
          subst h5
          rw [putS_no (by rw [hE]; decide)] at HSA
          clear hE
          have kc1 := fun cap => z_text HXk.out cap
          have kc2 := fun cap => z_text HXb.out cap
          go_wp2_with fail
          with_reducible refine (st_get HOK.out HSA.out (K := T) rfl hTz).mono ?_
          rintro e w6 ⟨⟨T1, hT1, rfl⟩, hb6⟩
          have HB6 := Lib.hid (bel_call HB5.out hb6)
          replace HSA := Lib.hid (HSA.out.below HOK.out hb6)
          replace HRl := Lib.hid (HRl.out.below hb6)
          replace HXk := Lib.hid (HXk.out.below hb6)
          replace HXb := Lib.hid (HXb.out.below hb6)
          clear hb6
          rw [hnone] at hT1 ⊢
          try dsimp only
          clear kc1 kc2
          have hT1e : T1.toList.isEmpty = true := by rw [Lib.toList_data, hT1]; rfl
          have kc1 := fun cap => z_text HXk.out cap
          have kc2 := fun cap => z_text HXb.out cap
          go_wp2_with fail
          with_reducible refine (st_puts HOK.out HSA.out).mono ?_
          rintro e w7 ⟨rfl, hb7⟩
          have HB7 := Lib.hid (bel_call HB6.out hb7)
          replace HSA := Lib.hid (HSA.out.below HOK.out hb7)
          replace HRl := Lib.hid (HRl.out.below hb7)
          replace HXk := Lib.hid (HXk.out.below hb7)
          replace HXb := Lib.hid (HXb.out.below hb7)
          clear hb7
          try dsimp only
          clear kc1 kc2
          go_wp2_with fail
          with_reducible refine (st_list HOK.out HSA.out (K := ⟨#[]⟩) (k := []) rfl (by decide)).mono ?_
          rintro e w8 ⟨hx, hb8⟩
          have HB8 := Lib.hid (bel_call HB7.out hb8)
          replace HSA := Lib.hid (HSA.out.below HOK.out hb8)
          replace HRl := Lib.hid (HRl.out.below hb8)
          replace HXk := Lib.hid (HXk.out.below hb8)
          replace HXb := Lib.hid (HXb.out.below hb8)
          clear hb8
          obtain ⟨lm, hlm, hx⟩ := hx
          have HLm := Lib.hid hlm
          clear hlm
          obtain ⟨Am, cm, Ym, hq, hc, hr, ho, rfl⟩ := hx
          have HQm := Lib.hid hq
          have HCm := Lib.hid hc
          have HRm : Hid (RowO _ _ _ Am Ym) := Lib.hid ⟨hr, ho⟩
          clear hq hc hr ho
          try dsimp only
          have hee : bl Ym = bl Yl := by rw [HQm.out, HQl.out]; exact lists_same (fun _ => rfl) HLm.out HLl.out
          go_wp2_with fail
          with_reducible refine (same_any _ _ _ _ _ _ _ HRm.out.r HRl.out.r (by have := HCm.out; omega)).mono ?_
          rintro e w9 ⟨rfl, hb9⟩
          have HB9 := Lib.hid (bel_call HB8.out hb9)
          replace HSA := Lib.hid (HSA.out.below HOK.out hb9)
          replace HRl := Lib.hid (HRl.out.below hb9)
          replace HRm := Lib.hid (HRm.out.below hb9)
          replace HXk := Lib.hid (HXk.out.below hb9)
          replace HXb := Lib.hid (HXb.out.below hb9)
          clear hb9
          rw [show decide (bl Ym = bl Yl) = true from decide_eq_true hee]
          try dsimp only
          go_wp2
          go_ret
          exact ⟨rfl, HB9.out⟩
        · skip
          by_cases h6 : 200 < p
          · have hE : putE t T.data.toList U.data.toList = 1 := bd_arg (Or.inr (by rw [HTs.out]; omega))
            rw [hE]
            have hN4 : ¬ (40000 : Int) < (N : Int) := by omega
            have hp0 : ¬ (p : Int) = 0 := by omega
            have hp2 : (200 : Int) < (p : Int) := by omega
            rw [putS_no (by rw [hE]; decide)] at HSA
            clear hE
            have kc1 := fun cap => z_text HXk.out cap
            have kc2 := fun cap => z_text HXb.out cap
            go_wp2_with fail
            with_reducible refine (st_get HOK.out HSA.out (K := T) rfl hTz).mono ?_
            rintro e w6 ⟨⟨T1, hT1, rfl⟩, hb6⟩
            have HB6 := Lib.hid (bel_call HB5.out hb6)
            replace HSA := Lib.hid (HSA.out.below HOK.out hb6)
            replace HRl := Lib.hid (HRl.out.below hb6)
            replace HXk := Lib.hid (HXk.out.below hb6)
            replace HXb := Lib.hid (HXb.out.below hb6)
            clear hb6
            rw [hnone] at hT1 ⊢
            try dsimp only
            clear kc1 kc2
            have hT1e : T1.toList.isEmpty = true := by rw [Lib.toList_data, hT1]; rfl
            have kc1 := fun cap => z_text HXk.out cap
            have kc2 := fun cap => z_text HXb.out cap
            go_wp2_with fail
            with_reducible refine (st_puts HOK.out HSA.out).mono ?_
            rintro e w7 ⟨rfl, hb7⟩
            have HB7 := Lib.hid (bel_call HB6.out hb7)
            replace HSA := Lib.hid (HSA.out.below HOK.out hb7)
            replace HRl := Lib.hid (HRl.out.below hb7)
            replace HXk := Lib.hid (HXk.out.below hb7)
            replace HXb := Lib.hid (HXb.out.below hb7)
            clear hb7
            try dsimp only
            clear kc1 kc2
            go_wp2_with fail
            with_reducible refine (st_list HOK.out HSA.out (K := ⟨#[]⟩) (k := []) rfl (by decide)).mono ?_
            rintro e w8 ⟨hx, hb8⟩
            have HB8 := Lib.hid (bel_call HB7.out hb8)
            replace HSA := Lib.hid (HSA.out.below HOK.out hb8)
            replace HRl := Lib.hid (HRl.out.below hb8)
            replace HXk := Lib.hid (HXk.out.below hb8)
            replace HXb := Lib.hid (HXb.out.below hb8)
            clear hb8
            obtain ⟨lm, hlm, hx⟩ := hx
            have HLm := Lib.hid hlm
            clear hlm
            obtain ⟨Am, cm, Ym, hq, hc, hr, ho, rfl⟩ := hx
            have HQm := Lib.hid hq
            have HCm := Lib.hid hc
            have HRm : Hid (RowO _ _ _ Am Ym) := Lib.hid ⟨hr, ho⟩
            clear hq hc hr ho
            try dsimp only
            have hee : bl Ym = bl Yl := by rw [HQm.out, HQl.out]; exact lists_same (fun _ => rfl) HLm.out HLl.out
            go_wp2_with fail
            with_reducible refine (same_any _ _ _ _ _ _ _ HRm.out.r HRl.out.r (by have := HCm.out; omega)).mono ?_
            rintro e w9 ⟨rfl, hb9⟩
            have HB9 := Lib.hid (bel_call HB8.out hb9)
            replace HSA := Lib.hid (HSA.out.below HOK.out hb9)
            replace HRl := Lib.hid (HRl.out.below hb9)
            replace HRm := Lib.hid (HRm.out.below hb9)
            replace HXk := Lib.hid (HXk.out.below hb9)
            replace HXb := Lib.hid (HXb.out.below hb9)
            clear hb9
            rw [show decide (bl Ym = bl Yl) = true from decide_eq_true hee]
            try dsimp only
            go_wp2
            go_ret
            exact ⟨rfl, HB9.out⟩
          · skip
            have hE : putE t T.data.toList U.data.toList = 0 := bd_ok HF.out (by omega) (fun e => by have := HTs.out; rw [e] at this; simp only [List.length_nil] at this; omega) (by rw [HTs.out]; omega) (by rw [HUs.out]; omega)
            rw [hE]
            have hN4 : ¬ (40000 : Int) < (N : Int) := by omega
            have hp0 : ¬ (p : Int) = 0 := by omega
            have hp2 : ¬ (200 : Int) < (p : Int) := by omega
            rw [putS_ok hE] at HSA
            clear hE
            have kc1 := fun cap => z_text HXk.out cap
            have kc2 := fun cap => z_text HXb.out cap
            go_wp2_with fail
            with_reducible refine (st_get HOK.out HSA.out (K := T) rfl hTz).mono ?_
            rintro e w6 ⟨⟨T1, hT1, rfl⟩, hb6⟩
            have HB6 := Lib.hid (bel_call HB5.out hb6)
            replace HSA := Lib.hid (HSA.out.below HOK.out hb6)
            replace HRl := Lib.hid (HRl.out.below hb6)
            replace HXk := Lib.hid (HXk.out.below hb6)
            replace HXb := Lib.hid (HXb.out.below hb6)
            clear hb6
            rw [bd_get] at hT1 ⊢
            try dsimp only
            clear kc1 kc2
            have hb := eq_bool hT1
            have kc1 := fun cap => z_text HXk.out cap
            have kc2 := fun cap => z_text HXb.out cap
            have hn1 : (((putD t T.data.toList U.data.toList).n : Nat) : Int) = (t.n : Int) + 1 := by show ((t.n + 1 : Nat) : Int) = _; omega
            have hnw : IntKind.i64.wrap ((t.n : Int) + 1) = (t.n : Int) + 1 := by rw [IntKind.wrap_i64]; have := hf0.few; omega
            go_wp2_with fail
            with_reducible refine (st_puts HOK.out HSA.out).mono ?_
            rintro e w7 ⟨rfl, hb7⟩
            have HB7 := Lib.hid (bel_call HB6.out hb7)
            replace HSA := Lib.hid (HSA.out.below HOK.out hb7)
            replace HRl := Lib.hid (HRl.out.below hb7)
            replace HXk := Lib.hid (HXk.out.below hb7)
            replace HXb := Lib.hid (HXb.out.below hb7)
            clear hb7
            rw [hn1]
            try dsimp only
            clear kc1 kc2
            go_wp2
            go_ret
            exact ⟨rfl, HB7.out⟩
end Go.Proofs.Ytfeochpjjbnckaa.Sto
