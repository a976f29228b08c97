/-
  THE LAW StoreApart, walked. By an AI agent; no person has read it.
-/
import Derived.Test.YtfeochpjjbnckaaSShown
import Derived.Test.YtfeochpjjbnckaaSApartP
import Derived.Test.YtfeochpjjbnckaaSBox
namespace Go.Proofs.Ytfeochpjjbnckaa.Sto
open Go Go.RowKit Wire

set_option linter.unusedSimpArgs false
set_option linter.unusedVariables false
set_option maxHeartbeats 8000000 in
set_option maxRecDepth 1000000 in
theorem apart_walk {D : DPred} (ok : StoreOK D) (A : Option Addr) (n c : Nat) (Z : Nat → Ac) (k0 : Int) (w : World) (hn : n ≤ 9223372036854775807) (hr : CReads w A n Z) (h0 : -9223372036854775808 ≤ k0 ∧ k0 ≤ 9223372036854775807) : Calls Try.prog 5 #[.slice A n c, .int .i64 k0] w fun e w' => e = .returned (.bool true) ∧ Below w.heap.size w w' := by
  have HOK := Lib.hid ok
  have HR := Lib.hid hr
  have HSH := Lib.hid fun w => shown_any ok w
  have HP5 : Hid (∀ w, Calls Try.prog 15 #[.int .i64 k0, .int .i64 5] w fun e w' => e = .returned (.int .i64 (pk k0 5 : Int)) ∧ w' = w) := Lib.hid fun w => pick_any k0 5 w h0 (by decide) (by decide)
  have HL : Hid (∀ w', Below w.heap.size w w' → Calls Try.prog 10 #[.slice A n c] w' fun e w'' => LightE n e ∧ Below w'.heap.size w' w'') := Lib.hid fun w' hb => light_any A c n Z w' (hr.below hb (Nat.le_refl _)) hn
  have hp := pk_lt k0 (n := 5) (by decide)
  generalize pk k0 5 = m at HP5 hp
  clear hr
  go_enter Try.func5, Try.ntmps5
  go_wp2_with fail
  with_reducible refine (HSH.out _).mono ?_
  rintro e w1 ⟨rfl, hb1⟩
  have HB1 := Lib.hid hb1
  clear hb1
  try dsimp only
  go_wp2_with fail
  with_reducible refine (HL.out _ HB1.out).mono ?_
  rintro e w2 ⟨⟨bl, hbl, rfl⟩, hb2⟩
  have HB2 := Lib.hid (bel_call HB1.out hb2)
  clear hb2
  try dsimp only
  go_wp2_with fail
  with_reducible refine (st_new HOK.out HB2.out).mono ?_
  rintro e w3 ⟨aA, XA, rfl, hsA, hxA, hb3⟩
  have HB3 := Lib.hid (bel_call HB2.out hb3)
  have HSA := Lib.hid hsA
  clear hsA hb3 hxA
  try dsimp only
  go_wp2_with fail
  with_reducible refine (st_new HOK.out HB3.out).mono ?_
  rintro e w4 ⟨aB, XB, rfl, hsB, hxB, hb4⟩
  have HDAB : Hid (∀ g, XA g → ¬ XB g) := Lib.hid fun g h1 h2 => by have h3 := HOK.out.old HSA.out.d g h1; have h4 := hxB g h2; omega
  have HB4 := Lib.hid (bel_call HB3.out hb4)
  replace HSA := Lib.hid (HSA.out.below HOK.out hb4)
  have HSB := Lib.hid hsB
  clear hsB hb4 hxB
  try dsimp only
  cases bl
  case false =>
    go_wp2
    go_ret
    exact ⟨rfl, HB4.out⟩
  have hn100 := hbl rfl
  clear hbl
  go_wp2_with fail
  with_reducible refine (HP5.out _).mono ?_
  rintro e v1 ⟨rfl, hv1⟩
  obtain rfl : w4 = v1 := hv1.symm
  dsimp only
  have hKO : ∃ O, keyN ⟨0, (m : Int), ⟨#[]⟩, ⟨#[]⟩⟩ = O := ⟨_, rfl⟩
  obtain ⟨O, hO⟩ := hKO
  have oko : Ac.Ok ⟨0, (m : Int), ⟨#[]⟩, ⟨#[]⟩⟩ := ⟨⟨by show _ ≤ (0 : Int); decide, by show (0 : Int) ≤ _; decide⟩, ⟨by show _ ≤ (m : Int); omega, by show (m : Int) ≤ _; omega⟩, Nat.zero_le _, Nat.zero_le _⟩
  have hOz := keyN_small oko
  have HKO : Hid (∀ w, Calls Try.prog 11 #[.agg #[.int .i64 0, .int .i64 (m : Int), .string ⟨#[]⟩, .string ⟨#[]⟩]] w fun e w' => e = .returned (.string O) ∧ Below w.heap.size w w') := Lib.hid fun w => by have := key_any _ oko w; rw [hO] at this; exact this
  rw [hO] at hOz
  clear hO oko
  go_wp2_with fail
  with_reducible refine (HKO.out _).mono ?_
  rintro e w5 ⟨rfl, hb5⟩
  have HB5 := Lib.hid (bel_call HB4.out hb5)
  replace HSA := Lib.hid (HSA.out.below HOK.out hb5)
  replace HSB := Lib.hid (HSB.out.below HOK.out hb5)
  clear hb5
  try dsimp only
  obtain ⟨o, ho⟩ : ∃ o, O.data.toList = o := ⟨_, rfl⟩
  have HO := Lib.hid ho
  clear ho
  go_wp2_with fail
  go_loopw [10] (fun i wr => ∃ (k : Nat) (X Y : Nat → Prop) (t u : Stt), k ≤ n ∧ i = .int .i64 k ∧ Hid (Apart o k t u) ∧ Hid (Sts D w wr aA X t) ∧ Hid (Sts D w wr aB Y u) ∧ Hid (∀ g, X g → ¬ Y g)) (fun i _ => n - (intOf i).toNat)
  case atStart => exact ⟨0, XA, XB, s0, s0, Nat.zero_le _, rfl, Lib.hid (apart0 o), HSA, HSB, HDAB⟩
  case round =>
    obtain ⟨k, X, Y, t, u, hk, rfl, HF, HSA, HSB, HDAB⟩ := hrel
    have HB1 := Lib.hid HSA.out.b
    by_cases hlt : k < n
    · have hki : (k : Int) < (n : Int) := by omega
      have hk0 : (0 : Int) ≤ (k : Int) := Int.natCast_nonneg k
      obtain ⟨b, off, rfl, hblt, ⟨c0, c1, c2, c3⟩, hz⟩ := HR.out.below HB1.out (Nat.le_refl _) k hlt
      obtain ⟨za, hza⟩ : ∃ z, Z k = z := ⟨_, rfl⟩
      rw [hza] at c0 c1 c2 c3 hz
      obtain ⟨op, zk, zK, zB⟩ := za
      obtain ⟨hz1, hz2, hz3, hz4⟩ := hz
      simp only at c0 c1 c2 c3 hz1 hz2 hz3 hz4
      clear hza
      go_wp2_with fail
      have hbS : Below wr.heap.size wr (wr.alloc (.cells #[.int .i64 op, .int .i64 zk, .string zK, .string zB] 29)) := (Below.refl wr.heap.size wr).alloc (Nat.le_refl _) _
      have hxS := b4_new wr (.int .i64 op) (.int .i64 zk) (.string zK) (.string zB) 29
      have HNxA := Lib.hid (new_off HOK.out HSA.out)
      have HNxB := Lib.hid (new_off HOK.out HSB.out)
      generalize wr.alloc (.cells #[.int .i64 op, .int .i64 zk, .string zK, .string zB] 29) = wSx at hbS hxS ⊢
      have HB2 := Lib.hid (bel_call HB1.out hbS)
      replace HSA := Lib.hid (HSA.out.below HOK.out hbS)
      replace HSB := Lib.hid (HSB.out.below HOK.out hbS)
      have HXx := Lib.hid hxS
      clear hbS hxS
      have HP : Hid (∀ w, Calls Try.prog 15 #[.int .i64 op, .int .i64 4] w fun e w' => e = .returned (.int .i64 (pk op 4 : Int)) ∧ w' = w) := Lib.hid fun w => pick_any op 4 w hz1 (by decide) (by decide)
      have hp4 := pk_lt op (n := 4) (by decide)
      generalize pk op 4 = p4 at HP hp4
      have HK : Hid (∀ w, Calls Try.prog 11 #[.agg #[.int .i64 op, .int .i64 zk, .string zK, .string zB]] w fun e w' => e = .returned (.string (keyN ⟨op, zk, zK, zB⟩)) ∧ Below w.heap.size w w') := Lib.hid fun w => key_any ⟨op, zk, zK, zB⟩ ⟨hz1, hz2, hz3, hz4⟩ w
      have hkz := keyN_small (a := ⟨op, zk, zK, zB⟩) ⟨hz1, hz2, hz3, hz4⟩
      generalize keyN ⟨op, zk, zK, zB⟩ = K at HK hkz
      obtain ⟨nx, dx0, dx1, dx2, dx3⟩ := HXx.out
      go_wp2_with fail
      with_reducible refine (HP.out _).mono ?_
      rintro e v1 ⟨rfl, hv1⟩
      obtain rfl : wSx = v1 := hv1.symm
      clear nx dx0 dx1 dx2 dx3
      dsimp only
      by_cases h3 : p4 = 3
      · subst h3
        obtain ⟨nx, dx0, dx1, dx2, dx3⟩ := HXx.out
        go_wp2_with fail
        with_reducible refine (HK.out _).mono ?_
        rintro e w3 ⟨rfl, hb3⟩
        clear nx dx0 dx1 dx2 dx3
        have HB3 := Lib.hid (bel_call HB2.out hb3)
        replace HSA := Lib.hid (HSA.out.below HOK.out hb3)
        replace HSB := Lib.hid (HSB.out.below HOK.out hb3)
        replace HXx := Lib.hid (HXx.out.below hb3)
        clear hb3
        try dsimp only
        go_wp2_with fail
        with_reducible refine (st_del HOK.out HSA.out (k := K.data.toList) rfl hkz).mono ?_
        rintro e w4 ⟨rfl, XA_1, hs, hn⟩
        have HB4 := Lib.hid hs.b
        have hof := hn.off HXx.out.1 HNxA.out
        replace HXx := Lib.hid (HXx.out.next hn HNxA.out)
        replace HNxA := Lib.hid hof
        clear hof
        obtain ⟨hy1, hy2⟩ := Sts.beside HOK.out HSB.out HSA.out hn (fun g h1 h2 => HDAB.out g h2 h1)
        replace HDAB : Hid (∀ g, XA_1 g → ¬ Y g) := Lib.hid fun g h1 h2 => hy2 g h2 h1
        replace HSB := Lib.hid hy1
        clear hy1 hy2
        replace HSA := Lib.hid hs
        clear hs hn
        try dsimp only
        obtain ⟨nx, dx0, dx1, dx2, dx3⟩ := HXx.out
        go_wp2_with fail
        with_reducible refine (HK.out _).mono ?_
        rintro e w5 ⟨rfl, hb5⟩
        clear nx dx0 dx1 dx2 dx3
        have HB5 := Lib.hid (bel_call HB4.out hb5)
        replace HSA := Lib.hid (HSA.out.below HOK.out hb5)
        replace HSB := Lib.hid (HSB.out.below HOK.out hb5)
        replace HXx := Lib.hid (HXx.out.below hb5)
        clear hb5
        try dsimp only
        by_cases he : K.data.toList = o
        · have hb := eq_bool (he.trans HO.out.symm)
          obtain ⟨nx, dx0, dx1, dx2, dx3⟩ := HXx.out
          go_wp2_with fail
          with_reducible refine (HP.out _).mono ?_
          rintro e v2 ⟨rfl, hv2⟩
          obtain rfl : w5 = v2 := hv2.symm
          clear nx dx0 dx1 dx2 dx3
          dsimp only
          go_wp2_with fail
          with_reducible refine (st_del HOK.out HSB.out HO.out hOz).mono ?_
          rintro e w6 ⟨rfl, XB_2, hs, hn⟩
          have HB6 := Lib.hid hs.b
          have hof := hn.off HXx.out.1 HNxB.out
          replace HXx := Lib.hid (HXx.out.next hn HNxB.out)
          replace HNxB := Lib.hid hof
          clear hof
          obtain ⟨hy1, hy2⟩ := Sts.beside HOK.out HSA.out HSB.out hn HDAB.out
          replace HDAB := Lib.hid hy2
          replace HSA := Lib.hid hy1
          clear hy1 hy2
          replace HSB := Lib.hid hs
          clear hs hn
          try dsimp only
          go_wp2
          go_roundw
          case rel => exact ⟨k + 1, _, _, _, _, by omega, by go_num, Lib.hid (by rw [he]; exact apart_del HF.out), HSA, HSB, HDAB⟩
          case measure => simp [intOf]; omega
        · have hb := ne_bool (fun e => he (e.trans HO.out) : ¬ K.data.toList = O.data.toList)
          go_wp2
          go_roundw
          case rel => exact ⟨k + 1, _, _, _, _, by omega, by go_num, Lib.hid (apart_del_other HF.out he), HSA, HSB, HDAB⟩
          case measure => simp [intOf]; omega
      · go_wp2_with fail
        have hdr : Below wSx.heap.size wSx wSx.drew := Below.drewN' (Below.refl wSx.heap.size wSx) 1
        refine wp_region_held_drew (S := fun w' => B4 wr.heap.size w' (.int .i64 op) (.int .i64 zk) (.string zK) (.string zB)) (by kernel_rfl) (HXx.out.below hdr) (fun hHeld => ?_)
        clear hHeld
        generalize wSx.drew = wd2 at hdr ⊢
        have HB3 := Lib.hid (bel_call HB2.out hdr)
        replace HSA := Lib.hid (HSA.out.below HOK.out hdr)
        replace HSB := Lib.hid (HSB.out.below HOK.out hdr)
        replace HXx := Lib.hid (HXx.out.below hdr)
        clear hdr
        have hHeld : B4 wr.heap.size wd2 (.int .i64 op) (.int .i64 zk) (.string zK) (.string zB) := HXx.out
        refine wpAnyH_take (i := 0) (v := ?_) (by rw [List.getElem?_toArray]; rfl) (by kernel_rfl) (by kernel_rfl) (by kernel_rfl) (by exact fun _ _ _ h => h) (Or.inl ⟨by rfl, ?_⟩) (by assumption) ?_
        rotate_left
        · intro w' hSw
          go_simp
          try with_reducible rfl
        try simp only [Act.put, List.setIfInBounds_toArray, List.set_cons_zero, List.set_cons_succ]
        refine wpAnyH_take (i := 1) (v := ?_) (by rw [List.getElem?_toArray]; rfl) (by kernel_rfl) (by kernel_rfl) (by kernel_rfl) (by exact fun _ _ _ h => h) (Or.inl ⟨by rfl, ?_⟩) (by assumption) ?_
        rotate_left
        · intro w' hSw
          obtain ⟨_, q00, q01, q02, q03⟩ := hSw
          go_simp
          try with_reducible rfl
        try simp only [Act.put, List.setIfInBounds_toArray, List.set_cons_zero, List.set_cons_succ]
        refine wpAnyH_take (i := 3) (v := ?_) (by rw [List.getElem?_toArray]; rfl) (by kernel_rfl) (by kernel_rfl) (by kernel_rfl) (by exact fun _ _ _ h => h) (Or.inl ⟨by rfl, ?_⟩) (by assumption) ?_
        rotate_left
        · intro w' hSw
          go_simp
          try with_reducible rfl
        try simp only [Act.put, List.setIfInBounds_toArray, List.set_cons_zero, List.set_cons_succ]
        refine wpAnyH_take (i := 4) (v := ?_) (by rw [List.getElem?_toArray]; rfl) (by kernel_rfl) (by kernel_rfl) (by kernel_rfl) (by exact fun _ _ _ h => h) (Or.inl ⟨by rfl, ?_⟩) (by assumption) ?_
        rotate_left
        · intro w' hSw
          obtain ⟨_, q00, q01, q02, q03⟩ := hSw
          go_simp
          try with_reducible rfl
        try simp only [Act.put, List.setIfInBounds_toArray, List.set_cons_zero, List.set_cons_succ]
        clear hHeld
        refine wpAnyH_ready (rs := [2]) (by kernel_rfl) (by simp) ?_
        refine AllReadyH.cons (by rw [List.getElem?_toArray]; rfl) (fun Kn hK => ?_) AllReadyH.nil
        go_simp
        go_at_call 11
        with_reducible refine (HK.out _).mono ?_
        rintro e w4 ⟨rfl, hb4⟩
        have HB4 := Lib.hid (bel_call HB3.out hb4)
        replace HSA := Lib.hid (HSA.out.below HOK.out hb4)
        replace HSB := Lib.hid (HSB.out.below HOK.out hb4)
        replace HXx := Lib.hid (HXx.out.below hb4)
        clear hb4
        try dsimp only
        refine hK.out _ _ HXx.out (fun hHeld => ?_)
        try simp only [Act.put, List.setIfInBounds_toArray, List.set_cons_zero, List.set_cons_succ]
        clear hHeld
        refine wpAnyH_ready (rs := [5]) (by kernel_rfl) (by simp) ?_
        refine AllReadyH.cons (by rw [List.getElem?_toArray]; rfl) (fun Kn hK => ?_) AllReadyH.nil
        go_simp
        go_at_call 16
        with_reducible refine (st_put HOK.out HSA.out (b := zB.data.toList) (k := K.data.toList) rfl rfl hkz hz4).mono ?_
        rintro e w5 ⟨rfl, XA_1, hs, hn⟩
        have HB5 := Lib.hid hs.b
        have hof := hn.off HXx.out.1 HNxA.out
        replace HXx := Lib.hid (HXx.out.next hn HNxA.out)
        replace HNxA := Lib.hid hof
        clear hof
        obtain ⟨hy1, hy2⟩ := Sts.beside HOK.out HSB.out HSA.out hn (fun g h1 h2 => HDAB.out g h2 h1)
        replace HDAB : Hid (∀ g, XA_1 g → ¬ Y g) := Lib.hid fun g h1 h2 => hy2 g h2 h1
        replace HSB := Lib.hid hy1
        clear hy1 hy2
        replace HSA := Lib.hid hs
        clear hs hn
        try dsimp only
        refine hK.out _ _ HXx.out (fun hHeld => ?_)
        try simp only [Act.put, List.setIfInBounds_toArray, List.set_cons_zero, List.set_cons_succ]
        refine wpAnyH_done (by kernel_rfl) ?_ _
        clear hHeld
        obtain ⟨nx, dx0, dx1, dx2, dx3⟩ := HXx.out
        go_wp2_with fail
        with_reducible refine (HK.out _).mono ?_
        rintro e w6 ⟨rfl, hb6⟩
        clear nx dx0 dx1 dx2 dx3
        have HB6 := Lib.hid (bel_call HB5.out hb6)
        replace HSA := Lib.hid (HSA.out.below HOK.out hb6)
        replace HSB := Lib.hid (HSB.out.below HOK.out hb6)
        replace HXx := Lib.hid (HXx.out.below hb6)
        clear hb6
        try dsimp only
        by_cases he : K.data.toList = o
        · have hb := eq_bool (he.trans HO.out.symm)
          obtain ⟨nx, dx0, dx1, dx2, dx3⟩ := HXx.out
          go_wp2_with fail
          with_reducible refine (HP.out _).mono ?_
          rintro e v3 ⟨rfl, hv3⟩
          obtain rfl : w6 = v3 := hv3.symm
          clear nx dx0 dx1 dx2 dx3
          dsimp only
          obtain ⟨nx, dx0, dx1, dx2, dx3⟩ := HXx.out
          go_wp2_with fail
          with_reducible refine (st_put HOK.out HSB.out (b := zB.data.toList) HO.out rfl hOz hz4).mono ?_
          rintro e w7 ⟨rfl, XB_2, hs, hn⟩
          have HB7 := Lib.hid hs.b
          have hof := hn.off HXx.out.1 HNxB.out
          replace HXx := Lib.hid (HXx.out.next hn HNxB.out)
          replace HNxB := Lib.hid hof
          clear hof
          obtain ⟨hy1, hy2⟩ := Sts.beside HOK.out HSA.out HSB.out hn HDAB.out
          replace HDAB := Lib.hid hy2
          replace HSA := Lib.hid hy1
          clear hy1 hy2
          replace HSB := Lib.hid hs
          clear hs hn
          try dsimp only
          clear nx dx0 dx1 dx2 dx3
          go_wp2
          go_roundw
          case rel => exact ⟨k + 1, _, _, _, _, by omega, by go_num, Lib.hid (by rw [he]; exact apart_put HF.out (by omega) _), HSA, HSB, HDAB⟩
          case measure => simp [intOf]; omega
        · have hb := ne_bool (fun e => he (e.trans HO.out) : ¬ K.data.toList = O.data.toList)
          go_wp2
          go_roundw
          case rel => exact ⟨k + 1, _, _, _, _, by omega, by go_num, Lib.hid (apart_put_other HF.out he _), HSA, HSB, HDAB⟩
          case measure => simp [intOf]; omega
    · obtain rfl : k = n := by omega
      have HG := apart_get HF.out
      have hle : (u.n : Int) ≤ (t.n : Int) := by have := HF.out.n2; omega
      go_wp2_with fail
      with_reducible refine (st_get HOK.out HSA.out HO.out hOz).mono ?_
      rintro e w2 ⟨⟨T1, hT1, rfl⟩, hb2⟩
      have HB2 := Lib.hid (bel_call HB1.out hb2)
      replace HSA := Lib.hid (HSA.out.below HOK.out hb2)
      replace HSB := Lib.hid (HSB.out.below HOK.out hb2)
      clear hb2
      try dsimp only
      go_wp2_with fail
      with_reducible refine (st_get HOK.out HSB.out HO.out hOz).mono ?_
      rintro e w3 ⟨⟨T2, hT2, rfl⟩, hb3⟩
      have HB3 := Lib.hid (bel_call HB2.out hb3)
      replace HSA := Lib.hid (HSA.out.below HOK.out hb3)
      replace HSB := Lib.hid (HSB.out.below HOK.out hb3)
      clear hb3
      rw [← HG] at hT2 ⊢
      have hb := eq_bool (hT1.trans hT2.symm)
      generalize (getS t o).2 = ge
      try dsimp only
      go_wp2_with fail
      with_reducible refine (st_vers HOK.out HSA.out HO.out hOz).mono ?_
      rintro e w4 ⟨hx, hb4⟩
      have HB4 := Lib.hid (bel_call HB3.out hb4)
      replace HSA := Lib.hid (HSA.out.below HOK.out hb4)
      replace HSB := Lib.hid (HSB.out.below HOK.out hb4)
      clear hb4
      obtain ⟨Ap, cp, Yp, hq, hc, hr, ho, rfl⟩ := hx
      have HQp := Lib.hid hq
      have HCp := Lib.hid hc
      have HRp : Hid (RowO _ _ _ Ap Yp) := Lib.hid ⟨hr, ho⟩
      clear hq hc hr ho
      try dsimp only
      go_wp2_with fail
      with_reducible refine (st_vers HOK.out HSB.out HO.out hOz).mono ?_
      rintro e w5 ⟨hx, hb5⟩
      have HB5 := Lib.hid (bel_call HB4.out hb5)
      replace HSA := Lib.hid (HSA.out.below HOK.out hb5)
      replace HSB := Lib.hid (HSB.out.below HOK.out hb5)
      replace HRp := Lib.hid (HRp.out.below hb5)
      clear hb5
      obtain ⟨Aq, cq, Yq, hq, hc, hr, ho, rfl⟩ := hx
      have HQq := Lib.hid hq
      have HCq := Lib.hid hc
      have HRq : Hid (RowO _ _ _ Aq Yq) := Lib.hid ⟨hr, ho⟩
      clear hq hc hr ho
      try dsimp only
      have hlp : Yp.length ≤ 9223372036854775807 := by have := HCp.out; omega
      go_wp2_with fail
      with_reducible refine (same_any _ _ _ _ _ _ _ HRp.out.r HRq.out.r hlp).mono ?_
      rintro e w6 ⟨rfl, hb6⟩
      have HB6 := Lib.hid (bel_call HB5.out hb6)
      replace HSA := Lib.hid (HSA.out.below HOK.out hb6)
      replace HSB := Lib.hid (HSB.out.below HOK.out hb6)
      replace HRp := Lib.hid (HRp.out.below hb6)
      replace HRq := Lib.hid (HRq.out.below hb6)
      clear hb6
      rw [show decide (bl Yp = bl Yq) = true from decide_eq_true (by rw [HQp.out, HQq.out, HF.out.ver])]
      try dsimp only
      clear HRp
      clear HRq
      go_wp2_with fail
      with_reducible refine (st_puts HOK.out HSB.out).mono ?_
      rintro e w7 ⟨rfl, hb7⟩
      have HB7 := Lib.hid (bel_call HB6.out hb7)
      replace HSA := Lib.hid (HSA.out.below HOK.out hb7)
      replace HSB := Lib.hid (HSB.out.below HOK.out hb7)
      clear hb7
      try dsimp only
      go_wp2_with fail
      with_reducible refine (st_vers HOK.out HSB.out HO.out hOz).mono ?_
      rintro e w8 ⟨hx, hb8⟩
      have HB8 := Lib.hid (bel_call HB7.out hb8)
      replace HSA := Lib.hid (HSA.out.below HOK.out hb8)
      replace HSB := Lib.hid (HSB.out.below HOK.out hb8)
      clear hb8
      obtain ⟨Ar, cr, Yr, hq, hc, hr, ho, rfl⟩ := hx
      have HQr := Lib.hid hq
      have HCr := Lib.hid hc
      have HRr : Hid (RowO _ _ _ Ar Yr) := Lib.hid ⟨hr, ho⟩
      clear hq hc hr ho
      have hln : Yr.length = u.n := by rw [← bl_len, HQr.out, HF.out.len]
      have hcr := HCr.out
      rw [hln] at hcr ⊢
      try dsimp only
      clear HRr
      go_wp2_with fail
      with_reducible refine (st_puts HOK.out HSA.out).mono ?_
      rintro e w9 ⟨rfl, hb9⟩
      have HB9 := Lib.hid (bel_call HB8.out hb9)
      replace HSA := Lib.hid (HSA.out.below HOK.out hb9)
      replace HSB := Lib.hid (HSB.out.below HOK.out hb9)
      clear hb9
      try dsimp only
      go_wp2_with fail
      with_reducible refine (st_puts HOK.out HSB.out).mono ?_
      rintro e w10 ⟨rfl, hb10⟩
      have HB10 := Lib.hid (bel_call HB9.out hb10)
      replace HSA := Lib.hid (HSA.out.below HOK.out hb10)
      replace HSB := Lib.hid (HSB.out.below HOK.out hb10)
      clear hb10
      try dsimp only
      go_wp2
      go_ret
      exact ⟨rfl, HB10.out⟩
end Go.Proofs.Ytfeochpjjbnckaa.Sto
