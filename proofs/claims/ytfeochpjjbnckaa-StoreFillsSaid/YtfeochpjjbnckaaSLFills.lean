/-
  THE LAW StoreFills, walked. By an AI agent; no person has read it.
-/
import Derived.Test.YtfeochpjjbnckaaSShown
import Derived.Test.YtfeochpjjbnckaaSFillP
namespace Go.Proofs.Ytfeochpjjbnckaa.Sto
open Go Go.RowKit Wire

set_option linter.unusedSimpArgs false
set_option linter.unusedVariables false
theorem alpha_at {r : Nat} (h : r < 26) : ((⟨#[97, 98, 99, 100, 101, 102, 103, 104, 105, 106, 107, 108, 109, 110, 111, 112, 113, 114, 115, 116, 117, 118, 119, 120, 121, 122]⟩ : ByteArray).extract r (r + 1)).data.toList = lt r := by
  have : ∀ m : Fin 26, ((⟨#[97, 98, 99, 100, 101, 102, 103, 104, 105, 106, 107, 108, 109, 110, 111, 112, 113, 114, 115, 116, 117, 118, 119, 120, 121, 122]⟩ : ByteArray).extract m.1 (m.1 + 1)).data.toList = lt m.1 := by decide +kernel
  exact this ⟨r, h⟩
set_option maxHeartbeats 8000000 in
set_option maxRecDepth 1000000 in
theorem fills_walk {D : DPred} (ok : StoreOK D) (a0 : Int) (w : World) (h0 : -9223372036854775808 ≤ a0 ∧ a0 ≤ 9223372036854775807) : Calls Try.prog 4 #[.int .i64 a0] w fun e w' => e = .returned (.bool true) ∧ Below w.heap.size w w' := by
  have HOK := Lib.hid ok
  have HSH := Lib.hid fun w => shown_any ok w
  have HP : Hid (∀ w, Calls Try.prog 15 #[.int .i64 a0, .int .i64 26] w fun e w' => e = .returned (.int .i64 (pk a0 26 : Int)) ∧ w' = w) := Lib.hid fun w => pick_any a0 26 w h0 (by decide) (by decide)
  have hp := pk_lt a0 (n := 26) (by decide)
  generalize pk a0 26 = m at HP hp
  obtain ⟨n, hn⟩ : ∃ n : Nat, 1 + m = n := ⟨_, rfl⟩
  have hn1 : 1 ≤ n := by omega
  have hn26 : n ≤ 26 := by omega
  have hni : (1 : Int) + (m : Int) = (n : Int) := by omega
  have hnw : IntKind.i64.wrap (n : Int) = (n : Int) := by rw [IntKind.wrap_i64]; omega
  have hnw2 : IntKind.i64.wrap ((1 : Int) + (m : Int)) = (n : Int) := by rw [hni, hnw]
  go_enter Try.func4, Try.ntmps4
  go_wp2_with fail
  with_reducible refine (HSH.out _).mono ?_
  rintro e w1 ⟨rfl, hb1⟩
  have HB1 := Lib.hid hb1
  clear hb1
  try dsimp only
  go_wp2_with fail
  with_reducible refine (st_new HOK.out HB1.out).mono ?_
  rintro e w2 ⟨aS, XS, rfl, hsS, hxS, hb2⟩
  have HB2 := Lib.hid (bel_call HB1.out hb2)
  have HSS := Lib.hid hsS
  clear hsS hb2 hxS
  try dsimp only
  go_wp2_with fail
  with_reducible refine (HP.out _).mono ?_
  rintro e v1 ⟨rfl, hv1⟩
  obtain rfl : w2 = v1 := hv1.symm
  dsimp only
  go_wp2_with fail
  go_loopw [6] (fun i wr => ∃ (k : Nat) (X : Nat → Prop) (t : Stt), k ≤ 2000 ∧ i = .int .i64 k ∧ Hid (Fill n k t) ∧ Hid (Sts D w wr aS X t)) (fun i _ => 2000 - (intOf i).toNat)
  case atStart => exact ⟨0, XS, s0, Nat.zero_le _, rfl, Lib.hid (fill0 n), HSS⟩
  case round =>
    obtain ⟨k, X, t, hk, rfl, HF, HSS⟩ := hrel
    have HB1 := Lib.hid HSS.out.b
    by_cases hlt : k < 2000
    · have hki : (k : Int) < 2000 := by omega
      obtain ⟨r, hr⟩ : ∃ r, k % n = r := ⟨_, rfl⟩
      have hrn : r < n := by rw [← hr]; exact Nat.mod_lt _ hn1
      have hrem : (k : Int).tmod (n : Int) = (r : Int) := by rw [← Int.ofNat_tmod, hr]
      have hrem2 : (k : Int) % (n : Int) = (r : Int) := by rw [← Int.natCast_emod, hr]
      have hn0 : ¬ n = 0 := by omega
      have hr0 : (0 : Int) ≤ (r : Int) := Int.natCast_nonneg r
      have hr1 : (r : Int) + 1 ≤ 26 := by omega
      have hr2 : (r : Int) ≤ (r : Int) + 1 := by omega
      have hrw : IntKind.i64.wrap ((r : Int) + 1) = (r : Int) + 1 := by rw [IntKind.wrap_i64]; omega
      have hrw0 : IntKind.i64.wrap (r : Int) = (r : Int) := by rw [IntKind.wrap_i64]; omega
      obtain ⟨T, hT⟩ : ∃ T, (⟨#[97, 98, 99, 100, 101, 102, 103, 104, 105, 106, 107, 108, 109, 110, 111, 112, 113, 114, 115, 116, 117, 118, 119, 120, 121, 122]⟩ : ByteArray).extract r (r + 1) = T := ⟨_, rfl⟩
      have HT : Hid (T.data.toList = lt r) := Lib.hid (by rw [← hT]; exact alpha_at (by omega))
      have hTz : T.size ≤ 140737488351232 := by rw [Lib.size_eq, HT.out]; show 1 ≤ _; decide
      obtain ⟨he, hf⟩ := fill_step hn1 hn26 hlt HF.out
      rw [hr] at he hf
      have HF2 := Lib.hid hf
      clear hf hr
      go_wp2_with fail
      have hdr : Below wr.heap.size wr wr.drew := Below.drewN' (Below.refl wr.heap.size wr) 1
      refine wp_region_held_drew (S := fun w' => True) (by kernel_rfl) (trivial) (fun hHeld => ?_)
      clear hHeld
      generalize wr.drew = wd1 at hdr ⊢
      have HB2 := Lib.hid (bel_call HB1.out hdr)
      replace HSS := Lib.hid (HSS.out.below HOK.out hdr)
      clear hdr
      have hHeld : True := trivial
      refine wpAnyH_take (i := 0) (v := ?_) (by rw [List.getElem?_toArray]; rfl) (by kernel_rfl) (by kernel_rfl) (by kernel_rfl) (by exact fun _ _ _ h => h) (Or.inl ⟨by rfl, ?_⟩) (by assumption) ?_
      rotate_left
      · intro w' hSw
        go_simp
        try with_reducible rfl
      try simp only [Act.put, List.setIfInBounds_toArray, List.set_cons_zero, List.set_cons_succ]
      refine wpAnyH_take (i := 1) (v := ?_) (by rw [List.getElem?_toArray]; rfl) (by kernel_rfl) (by kernel_rfl) (by kernel_rfl) (by exact fun _ _ _ h => h) (Or.inl ⟨by rfl, ?_⟩) (by assumption) ?_
      rotate_left
      · intro w' hSw
        go_simp
        try with_reducible rfl
      try simp only [Act.put, List.setIfInBounds_toArray, List.set_cons_zero, List.set_cons_succ]
      refine wpAnyH_take (i := 2) (v := ?_) (by rw [List.getElem?_toArray]; rfl) (by kernel_rfl) (by kernel_rfl) (by kernel_rfl) (by exact fun _ _ _ h => h) (Or.inl ⟨by rfl, ?_⟩) (by assumption) ?_
      rotate_left
      · intro w' hSw
        go_simp
        try with_reducible rfl
      try simp only [Act.put, List.setIfInBounds_toArray, List.set_cons_zero, List.set_cons_succ]
      refine wpAnyH_take (i := 3) (v := ?_) (by rw [List.getElem?_toArray]; rfl) (by kernel_rfl) (by kernel_rfl) (by kernel_rfl) (by exact fun _ _ _ h => h) (Or.inl ⟨by rfl, ?_⟩) (by assumption) ?_
      rotate_left
      · intro w' hSw
        go_simp
        try with_reducible rfl
      try simp only [Act.put, List.setIfInBounds_toArray, List.set_cons_zero, List.set_cons_succ]
      refine wpAnyH_take (i := 4) (v := ?_) (by rw [List.getElem?_toArray]; rfl) (by kernel_rfl) (by kernel_rfl) (by kernel_rfl) (by exact fun _ _ _ h => h) (Or.inl ⟨by rfl, ?_⟩) (by assumption) ?_
      rotate_left
      · intro w' hSw
        go_simp
        try with_reducible rfl
      try simp only [Act.put, List.setIfInBounds_toArray, List.set_cons_zero, List.set_cons_succ]
      refine wpAnyH_take (i := 5) (v := ?_) (by rw [List.getElem?_toArray]; rfl) (by kernel_rfl) (by kernel_rfl) (by kernel_rfl) (by exact fun _ _ _ h => h) (Or.inl ⟨by rfl, ?_⟩) (by assumption) ?_
      rotate_left
      · intro w' hSw
        go_simp
        try with_reducible rfl
      try simp only [Act.put, List.setIfInBounds_toArray, List.set_cons_zero, List.set_cons_succ]
      refine wpAnyH_take (i := 6) (v := ?_) (by rw [List.getElem?_toArray]; rfl) (by kernel_rfl) (by kernel_rfl) (by kernel_rfl) (by exact fun _ _ _ h => h) (Or.inl ⟨by rfl, ?_⟩) (by assumption) ?_
      rotate_left
      · intro w' hSw
        go_simp
        try with_reducible rfl
      try simp only [Act.put, List.setIfInBounds_toArray, List.set_cons_zero, List.set_cons_succ]
      refine wpAnyH_take (i := 7) (v := ?_) (by rw [List.getElem?_toArray]; rfl) (by kernel_rfl) (by kernel_rfl) (by kernel_rfl) (by exact fun _ _ _ h => h) (Or.inl ⟨by rfl, ?_⟩) (by assumption) ?_
      rotate_left
      · intro w' hSw
        go_simp
        try with_reducible rfl
      try simp only [Act.put, List.setIfInBounds_toArray, List.set_cons_zero, List.set_cons_succ]
      refine wpAnyH_take (i := 8) (v := ?_) (by rw [List.getElem?_toArray]; rfl) (by kernel_rfl) (by kernel_rfl) (by kernel_rfl) (by exact fun _ _ _ h => h) (Or.inl ⟨by rfl, ?_⟩) (by assumption) ?_
      rotate_left
      · intro w' hSw
        go_simp
        try with_reducible rfl
      try simp only [Act.put, List.setIfInBounds_toArray, List.set_cons_zero, List.set_cons_succ]
      clear hHeld
      refine wpAnyH_ready (rs := [9]) (by kernel_rfl) (by simp) ?_
      refine AllReadyH.cons (by rw [List.getElem?_toArray]; rfl) (fun Kn hK => ?_) AllReadyH.nil
      go_simp
      go_at_call 16
      with_reducible refine (st_put HOK.out HSS.out HT.out rfl hTz (by decide)).mono ?_
      rw [he]
      rintro e w3 ⟨rfl, XS_1, hs, hn⟩
      have HB3 := Lib.hid hs.b
      replace HSS := Lib.hid hs
      clear hs hn
      try dsimp only
      refine hK.out _ _ trivial (fun hHeld => ?_)
      try simp only [Act.put, List.setIfInBounds_toArray, List.set_cons_zero, List.set_cons_succ]
      refine wpAnyH_take (i := 10) (v := ?_) (by rw [List.getElem?_toArray]; rfl) (by kernel_rfl) (by kernel_rfl) (by kernel_rfl) (by exact fun _ _ _ h => h) (Or.inl ⟨by rfl, ?_⟩) (by assumption) ?_
      rotate_left
      · intro w' hSw
        go_simp
        try with_reducible rfl
      try simp only [Act.put, List.setIfInBounds_toArray, List.set_cons_zero, List.set_cons_succ]
      refine wpAnyH_done (by kernel_rfl) ?_ _
      clear hHeld
      go_wp2
      go_roundw
      case rel => exact ⟨k + 1, _, _, by omega, by go_num, HF2, HSS⟩
      case measure => simp [intOf]; omega
    · obtain rfl : k = 2000 := by omega
      obtain ⟨f1, f2, f3⟩ := fill_full HF.out
      obtain ⟨g1, g2⟩ := fill_del hn1 hn26 (by omega) HF.out
      have HL1 := Lib.hid fun l h => fill_list hn26 (by omega) HF.out (l := l) h
      have HL2 := Lib.hid fun l h => g2 (l := l) h
      have p1 : putS t [97] [121] = t := putS_err (by rw [f1]; decide)
      have p2 : putS t [] [121] = t := putS_err (by rw [f2]; decide)
      have p3 : putS (delS t [97]) [97] [121] = delS t [97] := putS_err (by rw [f3]; decide)
      have hcnt := HF.out.cnt
      clear g2 hlt hk
      go_wp2_with fail
      with_reducible refine (st_put HOK.out HSS.out (K := ⟨#[97]⟩) (B := ⟨#[121]⟩) (k := [97]) (b := [121]) rfl rfl (by decide) (by decide)).mono ?_
      rw [f1]
      rintro e w2 ⟨rfl, XS_1, hs, hn⟩
      have HB2 := Lib.hid hs.b
      replace HSS := Lib.hid hs
      clear hs hn
      rw [p1] at HSS
      try dsimp only
      go_wp2_with fail
      with_reducible refine (st_put HOK.out HSS.out (K := ⟨#[]⟩) (B := ⟨#[121]⟩) (k := []) (b := [121]) rfl rfl (by decide) (by decide)).mono ?_
      rw [f2]
      rintro e w3 ⟨rfl, XS_2, hs, hn⟩
      have HB3 := Lib.hid hs.b
      replace HSS := Lib.hid hs
      clear hs hn
      rw [p2] at HSS
      try dsimp only
      go_wp2_with fail
      with_reducible refine (st_puts HOK.out HSS.out).mono ?_
      rintro e w4 ⟨rfl, hb4⟩
      have HB4 := Lib.hid (bel_call HB3.out hb4)
      replace HSS := Lib.hid (HSS.out.below HOK.out hb4)
      clear hb4
      rw [hcnt]
      try dsimp only
      go_wp2_with fail
      with_reducible refine (st_list HOK.out HSS.out (K := ⟨#[]⟩) (k := []) rfl (by decide)).mono ?_
      rintro e w5 ⟨hx, hb5⟩
      have HB5 := Lib.hid (bel_call HB4.out hb5)
      replace HSS := Lib.hid (HSS.out.below HOK.out hb5)
      clear hb5
      obtain ⟨ll, hll, hx⟩ := hx
      have HLl := Lib.hid hll
      clear hll
      obtain ⟨Al, cl, Yl, hq, hc, hr, ho, rfl⟩ := hx
      have HQl := Lib.hid hq
      have HCl := Lib.hid hc
      have HRl : Hid (RowO _ _ _ Al Yl) := Lib.hid ⟨hr, ho⟩
      clear hq hc hr ho
      have hlnl : Yl.length = n := by have := congrArg List.length HQl.out; rw [bl_len] at this; rw [this]; exact HL1.out _ HLl.out
      have hcll := HCl.out
      rw [hlnl] at hcll ⊢
      try dsimp only
      clear HRl
      go_wp2_with fail
      with_reducible refine (st_del HOK.out HSS.out (K := ⟨#[97]⟩) (k := [97]) rfl (by decide)).mono ?_
      rw [g1]
      rintro e w6 ⟨rfl, XS_3, hs, hn⟩
      have HB6 := Lib.hid hs.b
      replace HSS := Lib.hid hs
      clear hs hn
      try dsimp only
      go_wp2_with fail
      with_reducible refine (st_put HOK.out HSS.out (K := ⟨#[97]⟩) (B := ⟨#[121]⟩) (k := [97]) (b := [121]) rfl rfl (by decide) (by decide)).mono ?_
      rw [f3]
      rintro e w7 ⟨rfl, XS_4, hs, hn⟩
      have HB7 := Lib.hid hs.b
      replace HSS := Lib.hid hs
      clear hs hn
      rw [p3] at HSS
      try dsimp only
      go_wp2_with fail
      with_reducible refine (st_list HOK.out HSS.out (K := ⟨#[]⟩) (k := []) rfl (by decide)).mono ?_
      rintro e w8 ⟨hx, hb8⟩
      have HB8 := Lib.hid (bel_call HB7.out hb8)
      replace HSS := Lib.hid (HSS.out.below HOK.out hb8)
      clear hb8
      obtain ⟨lm, hlm, hx⟩ := hx
      have HLm := Lib.hid hlm
      clear hlm
      obtain ⟨Am, cm, Ym, hq, hc, hr, ho, rfl⟩ := hx
      have HQm := Lib.hid hq
      have HCm := Lib.hid hc
      have HRm : Hid (RowO _ _ _ Am Ym) := Lib.hid ⟨hr, ho⟩
      clear hq hc hr ho
      have hlnm : Ym.length = n - 1 := by have := congrArg List.length HQm.out; rw [bl_len] at this; rw [this]; exact HL2.out _ HLm.out
      have hclm := HCm.out
      rw [hlnm] at hclm ⊢
      try dsimp only
      clear HRm
      have hnn : (((n - 1 : Nat) : Int) == (n : Int) - 1) = true := beq_iff_eq.2 (by omega)
      go_wp2_with fail
      go_ret
      exact ⟨rfl, HB8.out⟩
end Go.Proofs.Ytfeochpjjbnckaa.Sto
