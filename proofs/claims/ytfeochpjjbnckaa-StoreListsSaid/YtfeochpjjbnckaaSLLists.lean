/-
  THE LAW StoreLists, walked. By an AI agent; no person has read it.
-/
import Derived.Test.YtfeochpjjbnckaaSShown
import Derived.Test.YtfeochpjjbnckaaSListsP
import Derived.Test.YtfeochpjjbnckaaSOwn
namespace Go.Proofs.Ytfeochpjjbnckaa.Sto
open Go Go.RowKit Wire

set_option linter.unusedSimpArgs false
set_option linter.unusedVariables false
set_option maxHeartbeats 8000000 in
set_option maxRecDepth 1000000 in
theorem lists_walk {D : DPred} (ok : StoreOK D) (A : Option Addr) (n c : Nat) (Z : Nat → Ac) (A2 : Option Addr) (n2 c2 : Nat) (Z2 : Nat → Ac) (w : World) (hn : n ≤ 9223372036854775807) (hn2 : n2 ≤ 9223372036854775807) (hr : CReads w A n Z) (hr2 : CReads w A2 n2 Z2) : Calls Try.prog 7 #[.slice A n c, .slice A2 n2 c2] w fun e w' => e = .returned (.bool true) ∧ Below w.heap.size w w' := by
  have HOK := Lib.hid ok
  have HR := Lib.hid hr
  have HR2 := Lib.hid hr2
  have HSH := Lib.hid fun w => shown_any ok w
  have HL : Hid (∀ w', Below w.heap.size w w' → Calls Try.prog 10 #[.slice A n c] w' fun e w'' => LightE n e ∧ Below w'.heap.size w' w'') := Lib.hid fun w' hb => light_any A c n Z w' (hr.below hb (Nat.le_refl _)) hn
  have HL2 : Hid (∀ w', Below w.heap.size w w' → Calls Try.prog 10 #[.slice A2 n2 c2] w' fun e w'' => LightE n2 e ∧ Below w'.heap.size w' w'') := Lib.hid fun w' hb => light_any A2 c2 n2 Z2 w' (hr2.below hb (Nat.le_refl _)) hn2
  clear hr hr2
  have hnn0 : (0 : Int) ≤ (n : Int) := Int.natCast_nonneg n
  have hnn2 : (0 : Int) ≤ (n2 : Int) := Int.natCast_nonneg n2
  go_enter Try.func7, Try.ntmps7
  go_wp2_with fail
  with_reducible refine (HSH.out _).mono ?_
  rintro e w1 ⟨rfl, hb1⟩
  have HB1 := Lib.hid hb1
  clear hb1
  try dsimp only
  go_wp2_with fail
  with_reducible refine (HL.out _ HB1.out).mono ?_
  rintro e w2 ⟨⟨bl1, hbl1, rfl⟩, hb2⟩
  have HB2 := Lib.hid (bel_call HB1.out hb2)
  clear hb2
  try dsimp only
  go_wp2_with fail
  with_reducible refine (HL2.out _ HB2.out).mono ?_
  rintro e w3 ⟨⟨bl2, hbl2, rfl⟩, hb3⟩
  have HB3 := Lib.hid (bel_call HB2.out hb3)
  clear hb3
  try dsimp only
  go_wp2_with fail
  with_reducible refine (st_new HOK.out HB3.out).mono ?_
  rintro e w4 ⟨aA, XA, rfl, hsA, hxA, hb4⟩
  have HB4 := Lib.hid (bel_call HB3.out hb4)
  have HSA := Lib.hid hsA
  clear hsA hb4 hxA
  try dsimp only
  cases bl1
  case false =>
    go_wp2
    go_ret
    exact ⟨rfl, HB4.out⟩
  have hn100 := hbl1 rfl
  clear hbl1
  cases bl2
  case false =>
    go_wp2
    go_ret
    exact ⟨rfl, HB4.out⟩
  have hm100 := hbl2 rfl
  clear hbl2
  go_wp2_with fail
  go_loopw [9] (fun i wr => ∃ (k : Nat) (X : Nat → Prop) (t : Stt), k ≤ n ∧ i = .int .i64 k ∧ Hid (Some k t ∧ Puts t) ∧ Hid (Sts D w wr aA X t)) (fun i _ => n - (intOf i).toNat)
  case atStart => exact ⟨0, XA, s0, Nat.zero_le _, rfl, Lib.hid ⟨some0, puts0⟩, HSA⟩
  case round =>
    obtain ⟨k, X, t, hk, rfl, HF, HSA⟩ := hrel
    have HB1 := Lib.hid HSA.out.b
    by_cases hlt : k < n
    · have hki : (k : Int) < (n : Int) := by omega
      have hk0 : (0 : Int) ≤ (k : Int) := Int.natCast_nonneg k
      obtain ⟨b, off, rfl, hblt, ⟨c0, c1, c2, c3⟩, hz⟩ := HR.out k hlt
      obtain ⟨za, hza⟩ : ∃ z, Z k = z := ⟨_, rfl⟩
      rw [hza] at c0 c1 c2 c3 hz
      obtain ⟨op, zk, zK, zB⟩ := za
      obtain ⟨hz1, hz2, hz3, hz4⟩ := hz
      simp only at c0 c1 c2 c3 hz1 hz2 hz3 hz4
      clear hza
      have HNrA : Hid (¬ X b) := Lib.hid fun hx => by have := HSA.out.x _ hx; omega
      have HXr : Hid (R4 b (off + k * 4) wr (.int .i64 op) (.int .i64 zk) (.string zK) (.string zB)) := Lib.hid (R4.below (w := w) ⟨hblt, c0, c1, c2, c3⟩ HB1.out)
      clear c0 c1 c2 c3 hblt
      have HK : Hid (∀ w, Calls Try.prog 11 #[.agg #[.int .i64 op, .int .i64 zk, .string zK, .string zB]] w fun e w' => e = .returned (.string (keyN ⟨op, zk, zK, zB⟩)) ∧ Below w.heap.size w w') := Lib.hid fun w => key_any ⟨op, zk, zK, zB⟩ ⟨hz1, hz2, hz3, hz4⟩ w
      have hkz := keyN_small (a := ⟨op, zk, zK, zB⟩) ⟨hz1, hz2, hz3, hz4⟩
      generalize keyN ⟨op, zk, zK, zB⟩ = K at HK hkz
      go_wp2_with fail
      have hdr : Below wr.heap.size wr wr.drew := Below.drewN' (Below.refl wr.heap.size wr) 1
      refine wp_region_held_drew (S := fun w' => R4 b (off + k * 4) w' (.int .i64 op) (.int .i64 zk) (.string zK) (.string zB)) (by kernel_rfl) (HXr.out.below hdr) (fun hHeld => ?_)
      clear hHeld
      generalize wr.drew = wd1 at hdr ⊢
      have HB2 := Lib.hid (bel_call HB1.out hdr)
      replace HSA := Lib.hid (HSA.out.below HOK.out hdr)
      replace HXr := Lib.hid (HXr.out.below hdr)
      clear hdr
      have hHeld : R4 b (off + k * 4) wd1 (.int .i64 op) (.int .i64 zk) (.string zK) (.string zB) := HXr.out
      refine wpAnyH_take (i := 0) (v := ?_) (by rw [List.getElem?_toArray]; rfl) (by kernel_rfl) (by kernel_rfl) (by kernel_rfl) (by exact fun _ _ _ h => h) (Or.inl ⟨by rfl, ?_⟩) (by assumption) ?_
      rotate_left
      · intro w' hSw
        go_simp
        try with_reducible rfl
      try simp only [Act.put, List.setIfInBounds_toArray, List.set_cons_zero, List.set_cons_succ]
      refine wpAnyH_take (i := 1) (v := ?_) (by rw [List.getElem?_toArray]; rfl) (by kernel_rfl) (by kernel_rfl) (by kernel_rfl) (by exact fun _ _ _ h => h) (Or.inl ⟨by rfl, ?_⟩) (by assumption) ?_
      rotate_left
      · intro w' hSw
        go_simp
        try with_reducible rfl
      try simp only [Act.put, List.setIfInBounds_toArray, List.set_cons_zero, List.set_cons_succ]
      refine wpAnyH_take (i := 2) (v := ?_) (by rw [List.getElem?_toArray]; rfl) (by kernel_rfl) (by kernel_rfl) (by kernel_rfl) (by exact fun _ _ _ h => h) (Or.inl ⟨by rfl, ?_⟩) (by assumption) ?_
      rotate_left
      · intro w' hSw
        go_simp
        try with_reducible rfl
      try simp only [Act.put, List.setIfInBounds_toArray, List.set_cons_zero, List.set_cons_succ]
      refine wpAnyH_take (i := 3) (v := ?_) (by rw [List.getElem?_toArray]; rfl) (by kernel_rfl) (by kernel_rfl) (by kernel_rfl) (by exact fun _ _ _ h => h) (Or.inl ⟨by rfl, ?_⟩) (by assumption) ?_
      rotate_left
      · intro w' hSw
        go_simp
        try with_reducible rfl
      try simp only [Act.put, List.setIfInBounds_toArray, List.set_cons_zero, List.set_cons_succ]
      refine wpAnyH_take (i := 4) (v := ?_) (by rw [List.getElem?_toArray]; rfl) (by kernel_rfl) (by kernel_rfl) (by kernel_rfl) (by exact fun _ _ _ h => h) (Or.inl ⟨by rfl, ?_⟩) (by assumption) ?_
      rotate_left
      · intro w' hSw
        obtain ⟨_, q00, q01, q02, q03⟩ := hSw
        go_simp
        try with_reducible rfl
      try simp only [Act.put, List.setIfInBounds_toArray, List.set_cons_zero, List.set_cons_succ]
      refine wpAnyH_take (i := 6) (v := ?_) (by rw [List.getElem?_toArray]; rfl) (by kernel_rfl) (by kernel_rfl) (by kernel_rfl) (by exact fun _ _ _ h => h) (Or.inl ⟨by rfl, ?_⟩) (by assumption) ?_
      rotate_left
      · intro w' hSw
        go_simp
        try with_reducible rfl
      try simp only [Act.put, List.setIfInBounds_toArray, List.set_cons_zero, List.set_cons_succ]
      refine wpAnyH_take (i := 7) (v := ?_) (by rw [List.getElem?_toArray]; rfl) (by kernel_rfl) (by kernel_rfl) (by kernel_rfl) (by exact fun _ _ _ h => h) (Or.inl ⟨by rfl, ?_⟩) (by assumption) ?_
      rotate_left
      · intro w' hSw
        go_simp
        try with_reducible rfl
      try simp only [Act.put, List.setIfInBounds_toArray, List.set_cons_zero, List.set_cons_succ]
      refine wpAnyH_take (i := 8) (v := ?_) (by rw [List.getElem?_toArray]; rfl) (by kernel_rfl) (by kernel_rfl) (by kernel_rfl) (by exact fun _ _ _ h => h) (Or.inl ⟨by rfl, ?_⟩) (by assumption) ?_
      rotate_left
      · intro w' hSw
        go_simp
        try with_reducible rfl
      try simp only [Act.put, List.setIfInBounds_toArray, List.set_cons_zero, List.set_cons_succ]
      refine wpAnyH_take (i := 9) (v := ?_) (by rw [List.getElem?_toArray]; rfl) (by kernel_rfl) (by kernel_rfl) (by kernel_rfl) (by exact fun _ _ _ h => h) (Or.inl ⟨by rfl, ?_⟩) (by assumption) ?_
      rotate_left
      · intro w' hSw
        go_simp
        try with_reducible rfl
      try simp only [Act.put, List.setIfInBounds_toArray, List.set_cons_zero, List.set_cons_succ]
      refine wpAnyH_take (i := 10) (v := ?_) (by rw [List.getElem?_toArray]; rfl) (by kernel_rfl) (by kernel_rfl) (by kernel_rfl) (by exact fun _ _ _ h => h) (Or.inl ⟨by rfl, ?_⟩) (by assumption) ?_
      rotate_left
      · intro w' hSw
        obtain ⟨_, q00, q01, q02, q03⟩ := hSw
        go_simp
        try with_reducible rfl
      try simp only [Act.put, List.setIfInBounds_toArray, List.set_cons_zero, List.set_cons_succ]
      clear hHeld
      refine wpAnyH_ready (rs := [5]) (by kernel_rfl) (by simp) ?_
      refine AllReadyH.cons (by rw [List.getElem?_toArray]; rfl) (fun Kn hK => ?_) AllReadyH.nil
      go_simp
      go_at_call 11
      with_reducible refine (HK.out _).mono ?_
      rintro e w3 ⟨rfl, hb3⟩
      have HB3 := Lib.hid (bel_call HB2.out hb3)
      replace HSA := Lib.hid (HSA.out.below HOK.out hb3)
      replace HXr := Lib.hid (HXr.out.below hb3)
      clear hb3
      try dsimp only
      refine hK.out _ _ HXr.out (fun hHeld => ?_)
      try simp only [Act.put, List.setIfInBounds_toArray, List.set_cons_zero, List.set_cons_succ]
      clear hHeld
      refine wpAnyH_ready (rs := [11]) (by kernel_rfl) (by simp) ?_
      refine AllReadyH.cons (by rw [List.getElem?_toArray]; rfl) (fun Kn hK => ?_) AllReadyH.nil
      go_simp
      go_at_call 16
      with_reducible refine (st_put HOK.out HSA.out (k := K.data.toList) (b := zB.data.toList) rfl rfl hkz hz4).mono ?_
      rintro e w4 ⟨rfl, XA_1, hs, hn⟩
      have HB4 := Lib.hid hs.b
      have hof := hn.off HXr.out.1 HNrA.out
      replace HXr := Lib.hid (HXr.out.next hn HNrA.out)
      replace HNrA := Lib.hid hof
      clear hof
      replace HSA := Lib.hid hs
      clear hs hn
      try dsimp only
      refine hK.out _ _ HXr.out (fun hHeld => ?_)
      try simp only [Act.put, List.setIfInBounds_toArray, List.set_cons_zero, List.set_cons_succ]
      refine wpAnyH_done (by kernel_rfl) ?_ _
      clear hHeld
      go_wp2
      go_roundw
      case rel => exact ⟨k + 1, _, _, by omega, by go_num, Lib.hid ⟨some_put HF.out.1 _ _, puts_put HF.out.2 _ _⟩, HSA⟩
      case measure => simp [intOf]; omega
    · obtain rfl : k = n := by omega
      go_wp2_with fail
      with_reducible refine (so_list HOK.out HSA.out (K := ⟨#[]⟩) (k := []) rfl (by decide)).mono ?_
      rintro e w2 ⟨hx, hb2⟩
      have HB2 := Lib.hid (bel_call HB1.out hb2)
      replace HSA := Lib.hid (HSA.out.below HOK.out hb2)
      clear hb2
      obtain ⟨la, hla, hx⟩ := hx
      have HLa := Lib.hid hla
      clear hla
      obtain ⟨Aa, ca, Ya, hq, hr, rfl⟩ := hx
      have HQa := Lib.hid hq
      have HRa := Lib.hid hr
      clear hq hr
      try dsimp only
      go_wp2_with fail
      with_reducible refine (so_ever HOK.out HSA.out).mono ?_
      rintro e w3 ⟨hx, hb3⟩
      have HB3 := Lib.hid (bel_call HB2.out hb3)
      replace HSA := Lib.hid (HSA.out.below HOK.out hb3)
      replace HRa := Lib.hid (HRa.out.below hb3)
      clear hb3
      obtain ⟨lb, hlb, hx⟩ := hx
      have HLb := Lib.hid hlb
      clear hlb
      obtain ⟨Ab, cb, Yb, hq, hr, rfl⟩ := hx
      have HQb := Lib.hid hq
      have HRb := Lib.hid hr
      clear hq hr
      try dsimp only
      go_wp2_with fail
      with_reducible refine (so_vers HOK.out HSA.out (K := ⟨#[97]⟩) (k := [97]) rfl (by decide)).mono ?_
      rintro e w4 ⟨hx, hb4⟩
      have HB4 := Lib.hid (bel_call HB3.out hb4)
      replace HSA := Lib.hid (HSA.out.below HOK.out hb4)
      replace HRa := Lib.hid (HRa.out.below hb4)
      replace HRb := Lib.hid (HRb.out.below hb4)
      clear hb4
      obtain ⟨Ac, cc, Yc, hq, hr, rfl⟩ := hx
      have HQc := Lib.hid hq
      have HRc := Lib.hid hr
      clear hq hr
      try dsimp only
      have hla : Ya.length ≤ 100 := by rw [← bl_len, HQa.out]; exact Nat.le_trans (few_list HF.out.1 HSA.out.f HLa.out) hn100
      have hlb : Yb.length ≤ 100 := by rw [← bl_len, HQb.out]; exact Nat.le_trans (few_ever HF.out.1 HLb.out) hn100
      have hlc : Yc.length ≤ 100 := by rw [← bl_len, HQc.out]; exact Nat.le_trans (few_vers HF.out.1 HSA.out.f _) hn100
      have hab : bl Ya = bl Yb := by rw [HQa.out, HQb.out]; exact list_ever HF.out.2 HLa.out HLb.out
      go_wp2_with (first
        | (at_builtin
           refine append_strs rfl _ _ rfl w4.heap.size (.slice (some ⟨w4.heap.size, 0, none⟩) 0 0) 0 [] Ya rfl ?c1 rfl Aa Ya.length ca rfl rfl HRa.out.nil ?c2 ?c3 ?c4 ?_
           case c1 => exact own_empty w4
           case c2 => exact HRa.out.reads.below ((Below.refl _ w4).alloc (Nat.le_refl _) _) (Nat.le_refl _)
           case c3 => omega
           case c4 => simp
           intro v wx hown hb0
           have hbS : Below w4.heap.size w4 wx := ((Below.refl _ w4).alloc (Nat.le_refl _) _).trans hb0
           obtain ⟨Ax, cx, rfl, hrow⟩ := copy_row HOK.out HSA.out hown (by simp)
           have HRx := Lib.hid hrow
           simp only [List.nil_append] at HRx ⊢
           clear hown hb0 hrow
           have HB5 := Lib.hid (bel_call HB4.out hbS)
           replace HSA := Lib.hid (HSA.out.below HOK.out hbS)
           replace HRa := Lib.hid (HRa.out.below hbS)
           replace HRb := Lib.hid (HRb.out.below hbS)
           replace HRc := Lib.hid (HRc.out.below hbS)
           clear hbS)
        | (at_builtin
           refine append_strs rfl _ _ rfl wx.heap.size (.slice (some ⟨wx.heap.size, 0, none⟩) 0 0) 0 [] Yb rfl ?c1 rfl Ab Yb.length cb rfl rfl HRb.out.nil ?c2 ?c3 ?c4 ?_
           case c1 => exact own_empty wx
           case c2 => exact HRb.out.reads.below ((Below.refl _ wx).alloc (Nat.le_refl _) _) (Nat.le_refl _)
           case c3 => omega
           case c4 => simp
           intro v wy hown hb0
           have hbS : Below wx.heap.size wx wy := ((Below.refl _ wx).alloc (Nat.le_refl _) _).trans hb0
           obtain ⟨Ay, cy, rfl, hrow⟩ := copy_row HOK.out HSA.out hown (by simp)
           have HRy := Lib.hid hrow
           simp only [List.nil_append] at HRy ⊢
           clear hown hb0 hrow
           have HB6 := Lib.hid (bel_call HB5.out hbS)
           replace HSA := Lib.hid (HSA.out.below HOK.out hbS)
           replace HRa := Lib.hid (HRa.out.below hbS)
           replace HRb := Lib.hid (HRb.out.below hbS)
           replace HRc := Lib.hid (HRc.out.below hbS)
           replace HRx := Lib.hid (HRx.out.below hbS)
           clear hbS)
        | (at_builtin
           refine append_strs rfl _ _ rfl wy.heap.size (.slice (some ⟨wy.heap.size, 0, none⟩) 0 0) 0 [] Yc rfl ?c1 rfl Ac Yc.length cc rfl rfl HRc.out.nil ?c2 ?c3 ?c4 ?_
           case c1 => exact own_empty wy
           case c2 => exact HRc.out.reads.below ((Below.refl _ wy).alloc (Nat.le_refl _) _) (Nat.le_refl _)
           case c3 => omega
           case c4 => simp
           intro v wz hown hb0
           have hbS : Below wy.heap.size wy wz := ((Below.refl _ wy).alloc (Nat.le_refl _) _).trans hb0
           obtain ⟨Az, cz, rfl, hrow⟩ := copy_row HOK.out HSA.out hown (by simp)
           have HRz := Lib.hid hrow
           simp only [List.nil_append] at HRz ⊢
           clear hown hb0 hrow
           have HB7 := Lib.hid (bel_call HB6.out hbS)
           replace HSA := Lib.hid (HSA.out.below HOK.out hbS)
           replace HRa := Lib.hid (HRa.out.below hbS)
           replace HRb := Lib.hid (HRb.out.below hbS)
           replace HRc := Lib.hid (HRc.out.below hbS)
           replace HRx := Lib.hid (HRx.out.below hbS)
           replace HRy := Lib.hid (HRy.out.below hbS)
           clear hbS))
      go_wp2_with fail
      with_reducible refine (same_any _ _ _ _ _ _ _ HRa.out.reads HRb.out.reads (by omega)).mono ?_
      rintro e w8 ⟨rfl, hb8⟩
      have HB8 := Lib.hid (bel_call HB7.out hb8)
      replace HSA := Lib.hid (HSA.out.below HOK.out hb8)
      replace HRa := Lib.hid (HRa.out.below hb8)
      replace HRb := Lib.hid (HRb.out.below hb8)
      replace HRc := Lib.hid (HRc.out.below hb8)
      replace HRx := Lib.hid (HRx.out.below hb8)
      replace HRy := Lib.hid (HRy.out.below hb8)
      replace HRz := Lib.hid (HRz.out.below hb8)
      clear hb8
      rw [decide_eq_true hab]
      try dsimp only
      replace HRa := Lib.hid HRa.out.weak
      replace HRb := Lib.hid HRb.out.weak
      replace HRc := Lib.hid HRc.out.weak
      replace HRx := Lib.hid HRx.out.weak
      replace HRy := Lib.hid HRy.out.weak
      replace HRz := Lib.hid HRz.out.weak
      clear hab hla hlb hlc
      go_wp2_with fail
      go_loopw [16] (fun i wr => ∃ (k2 : Nat) (X : Nat → Prop) (t : Stt), k2 ≤ n2 ∧ i = .int .i64 k2 ∧ Hid (Some (k + k2) t) ∧ Hid (Sts D w wr aA X t) ∧ Hid (OwnR 0 wr X Aa ca Ya) ∧ Hid (OwnR 0 wr X Ab cb Yb) ∧ Hid (OwnR 0 wr X Ac cc Yc) ∧ Hid (OwnR 0 wr X Ax cx Ya) ∧ Hid (OwnR 0 wr X Ay cy Yb) ∧ Hid (OwnR 0 wr X Az cz Yc)) (fun i _ => n2 - (intOf i).toNat)
      case atStart => exact ⟨0, X, t, Nat.zero_le _, rfl, Lib.hid HF.out.1, HSA, HRa, HRb, HRc, HRx, HRy, HRz⟩
      case round =>
        clear HSA HF HRa HRb HRc HRx HRy HRz
        obtain ⟨k2, X, t, hk2, rfl, HF, HSA, HRa, HRb, HRc, HRx, HRy, HRz⟩ := hrel
        have HB1 := Lib.hid HSA.out.b
        by_cases hlt : k2 < n2
        · have hki : (k2 : Int) < (n2 : Int) := by omega
          have hk0 : (0 : Int) ≤ (k2 : Int) := Int.natCast_nonneg k2
          obtain ⟨b, off, rfl, hblt, ⟨c0, c1, c2, c3⟩, hz⟩ := HR2.out k2 hlt
          obtain ⟨za, hza⟩ : ∃ z, Z2 k2 = z := ⟨_, rfl⟩
          rw [hza] at c0 c1 c2 c3 hz
          obtain ⟨op, zk, zK, zB⟩ := za
          obtain ⟨hz1, hz2, hz3, hz4⟩ := hz
          simp only at c0 c1 c2 c3 hz1 hz2 hz3 hz4
          clear hza
          have HNrA : Hid (¬ X b) := Lib.hid fun hx => by have := HSA.out.x _ hx; omega
          have HXr : Hid (R4 b (off + k2 * 4) wr (.int .i64 op) (.int .i64 zk) (.string zK) (.string zB)) := Lib.hid (R4.below (w := w) ⟨hblt, c0, c1, c2, c3⟩ HB1.out)
          clear c0 c1 c2 c3 hblt
          have HK : Hid (∀ w, Calls Try.prog 11 #[.agg #[.int .i64 op, .int .i64 zk, .string zK, .string zB]] w fun e w' => e = .returned (.string (keyN ⟨op, zk, zK, zB⟩)) ∧ Below w.heap.size w w') := Lib.hid fun w => key_any ⟨op, zk, zK, zB⟩ ⟨hz1, hz2, hz3, hz4⟩ w
          have hkz := keyN_small (a := ⟨op, zk, zK, zB⟩) ⟨hz1, hz2, hz3, hz4⟩
          generalize keyN ⟨op, zk, zK, zB⟩ = K at HK hkz
          have HP : Hid (∀ w, Calls Try.prog 15 #[.int .i64 op, .int .i64 2] w fun e w' => e = .returned (.int .i64 (pk op 2 : Int)) ∧ w' = w) := Lib.hid fun w => pick_any op 2 w hz1 (by decide) (by decide)
          generalize pk op 2 = p2 at HP
          obtain ⟨nr, dr0, dr1, dr2, dr3⟩ := HXr.out
          go_wp2_with fail
          with_reducible refine (HP.out _).mono ?_
          rintro e v1 ⟨rfl, hv1⟩
          obtain rfl : wr = v1 := hv1.symm
          clear nr dr0 dr1 dr2 dr3
          dsimp only
          by_cases h3 : p2 = 0
          · subst h3
            obtain ⟨nr, dr0, dr1, dr2, dr3⟩ := HXr.out
            go_wp2_with fail
            with_reducible refine (HK.out _).mono ?_
            rintro e w2 ⟨rfl, hb2⟩
            clear nr dr0 dr1 dr2 dr3
            have HB2 := Lib.hid (bel_call HB1.out hb2)
            replace HSA := Lib.hid (HSA.out.below HOK.out hb2)
            replace HRa := Lib.hid (HRa.out.below hb2)
            replace HRb := Lib.hid (HRb.out.below hb2)
            replace HRc := Lib.hid (HRc.out.below hb2)
            replace HRx := Lib.hid (HRx.out.below hb2)
            replace HRy := Lib.hid (HRy.out.below hb2)
            replace HRz := Lib.hid (HRz.out.below hb2)
            replace HXr := Lib.hid (HXr.out.below hb2)
            clear hb2
            try dsimp only
            go_wp2_with fail
            with_reducible refine (st_del HOK.out HSA.out (k := K.data.toList) rfl hkz).mono ?_
            rintro e w3 ⟨rfl, XA_1, hs, hn⟩
            have HB3 := Lib.hid hs.b
            replace HRa := Lib.hid (HRa.out.next hn)
            replace HRb := Lib.hid (HRb.out.next hn)
            replace HRc := Lib.hid (HRc.out.next hn)
            replace HRx := Lib.hid (HRx.out.next hn)
            replace HRy := Lib.hid (HRy.out.next hn)
            replace HRz := Lib.hid (HRz.out.next hn)
            have hof := hn.off HXr.out.1 HNrA.out
            replace HXr := Lib.hid (HXr.out.next hn HNrA.out)
            replace HNrA := Lib.hid hof
            clear hof
            replace HSA := Lib.hid hs
            clear hs hn
            try dsimp only
            go_wp2
            go_roundw
            case rel => exact ⟨k2 + 1, _, _, by omega, by go_num, Lib.hid (some_del HF.out _), HSA, HRa, HRb, HRc, HRx, HRy, HRz⟩
            case measure => simp [intOf]; omega
          · have h3i : ¬ (p2 : Int) = 0 := by omega
            go_wp2_with fail
            have hdr : Below wr.heap.size wr wr.drew := Below.drewN' (Below.refl wr.heap.size wr) 1
            refine wp_region_held_drew (S := fun w' => R4 b (off + k2 * 4) w' (.int .i64 op) (.int .i64 zk) (.string zK) (.string zB)) (by kernel_rfl) (HXr.out.below hdr) (fun hHeld => ?_)
            clear hHeld
            generalize wr.drew = wd2 at hdr ⊢
            have HB2 := Lib.hid (bel_call HB1.out hdr)
            replace HSA := Lib.hid (HSA.out.below HOK.out hdr)
            replace HRa := Lib.hid (HRa.out.below hdr)
            replace HRb := Lib.hid (HRb.out.below hdr)
            replace HRc := Lib.hid (HRc.out.below hdr)
            replace HRx := Lib.hid (HRx.out.below hdr)
            replace HRy := Lib.hid (HRy.out.below hdr)
            replace HRz := Lib.hid (HRz.out.below hdr)
            replace HXr := Lib.hid (HXr.out.below hdr)
            clear hdr
            have hHeld : R4 b (off + k2 * 4) wd2 (.int .i64 op) (.int .i64 zk) (.string zK) (.string zB) := HXr.out
            refine wpAnyH_take (i := 0) (v := ?_) (by rw [List.getElem?_toArray]; rfl) (by kernel_rfl) (by kernel_rfl) (by kernel_rfl) (by exact fun _ _ _ h => h) (Or.inl ⟨by rfl, ?_⟩) (by assumption) ?_
            rotate_left
            · intro w' hSw
              go_simp
              try with_reducible rfl
            try simp only [Act.put, List.setIfInBounds_toArray, List.set_cons_zero, List.set_cons_succ]
            refine wpAnyH_take (i := 1) (v := ?_) (by rw [List.getElem?_toArray]; rfl) (by kernel_rfl) (by kernel_rfl) (by kernel_rfl) (by exact fun _ _ _ h => h) (Or.inl ⟨by rfl, ?_⟩) (by assumption) ?_
            rotate_left
            · intro w' hSw
              go_simp
              try with_reducible rfl
            try simp only [Act.put, List.setIfInBounds_toArray, List.set_cons_zero, List.set_cons_succ]
            refine wpAnyH_take (i := 2) (v := ?_) (by rw [List.getElem?_toArray]; rfl) (by kernel_rfl) (by kernel_rfl) (by kernel_rfl) (by exact fun _ _ _ h => h) (Or.inl ⟨by rfl, ?_⟩) (by assumption) ?_
            rotate_left
            · intro w' hSw
              go_simp
              try with_reducible rfl
            try simp only [Act.put, List.setIfInBounds_toArray, List.set_cons_zero, List.set_cons_succ]
            refine wpAnyH_take (i := 3) (v := ?_) (by rw [List.getElem?_toArray]; rfl) (by kernel_rfl) (by kernel_rfl) (by kernel_rfl) (by exact fun _ _ _ h => h) (Or.inl ⟨by rfl, ?_⟩) (by assumption) ?_
            rotate_left
            · intro w' hSw
              go_simp
              try with_reducible rfl
            try simp only [Act.put, List.setIfInBounds_toArray, List.set_cons_zero, List.set_cons_succ]
            refine wpAnyH_take (i := 4) (v := ?_) (by rw [List.getElem?_toArray]; rfl) (by kernel_rfl) (by kernel_rfl) (by kernel_rfl) (by exact fun _ _ _ h => h) (Or.inl ⟨by rfl, ?_⟩) (by assumption) ?_
            rotate_left
            · intro w' hSw
              obtain ⟨_, q00, q01, q02, q03⟩ := hSw
              go_simp
              try with_reducible rfl
            try simp only [Act.put, List.setIfInBounds_toArray, List.set_cons_zero, List.set_cons_succ]
            refine wpAnyH_take (i := 6) (v := ?_) (by rw [List.getElem?_toArray]; rfl) (by kernel_rfl) (by kernel_rfl) (by kernel_rfl) (by exact fun _ _ _ h => h) (Or.inl ⟨by rfl, ?_⟩) (by assumption) ?_
            rotate_left
            · intro w' hSw
              go_simp
              try with_reducible rfl
            try simp only [Act.put, List.setIfInBounds_toArray, List.set_cons_zero, List.set_cons_succ]
            refine wpAnyH_take (i := 7) (v := ?_) (by rw [List.getElem?_toArray]; rfl) (by kernel_rfl) (by kernel_rfl) (by kernel_rfl) (by exact fun _ _ _ h => h) (Or.inl ⟨by rfl, ?_⟩) (by assumption) ?_
            rotate_left
            · intro w' hSw
              go_simp
              try with_reducible rfl
            try simp only [Act.put, List.setIfInBounds_toArray, List.set_cons_zero, List.set_cons_succ]
            refine wpAnyH_take (i := 8) (v := ?_) (by rw [List.getElem?_toArray]; rfl) (by kernel_rfl) (by kernel_rfl) (by kernel_rfl) (by exact fun _ _ _ h => h) (Or.inl ⟨by rfl, ?_⟩) (by assumption) ?_
            rotate_left
            · intro w' hSw
              go_simp
              try with_reducible rfl
            try simp only [Act.put, List.setIfInBounds_toArray, List.set_cons_zero, List.set_cons_succ]
            refine wpAnyH_take (i := 9) (v := ?_) (by rw [List.getElem?_toArray]; rfl) (by kernel_rfl) (by kernel_rfl) (by kernel_rfl) (by exact fun _ _ _ h => h) (Or.inl ⟨by rfl, ?_⟩) (by assumption) ?_
            rotate_left
            · intro w' hSw
              go_simp
              try with_reducible rfl
            try simp only [Act.put, List.setIfInBounds_toArray, List.set_cons_zero, List.set_cons_succ]
            refine wpAnyH_take (i := 10) (v := ?_) (by rw [List.getElem?_toArray]; rfl) (by kernel_rfl) (by kernel_rfl) (by kernel_rfl) (by exact fun _ _ _ h => h) (Or.inl ⟨by rfl, ?_⟩) (by assumption) ?_
            rotate_left
            · intro w' hSw
              obtain ⟨_, q00, q01, q02, q03⟩ := hSw
              go_simp
              try with_reducible rfl
            try simp only [Act.put, List.setIfInBounds_toArray, List.set_cons_zero, List.set_cons_succ]
            clear hHeld
            refine wpAnyH_ready (rs := [5]) (by kernel_rfl) (by simp) ?_
            refine AllReadyH.cons (by rw [List.getElem?_toArray]; rfl) (fun Kn hK => ?_) AllReadyH.nil
            go_simp
            go_at_call 11
            with_reducible refine (HK.out _).mono ?_
            rintro e w3 ⟨rfl, hb3⟩
            have HB3 := Lib.hid (bel_call HB2.out hb3)
            replace HSA := Lib.hid (HSA.out.below HOK.out hb3)
            replace HRa := Lib.hid (HRa.out.below hb3)
            replace HRb := Lib.hid (HRb.out.below hb3)
            replace HRc := Lib.hid (HRc.out.below hb3)
            replace HRx := Lib.hid (HRx.out.below hb3)
            replace HRy := Lib.hid (HRy.out.below hb3)
            replace HRz := Lib.hid (HRz.out.below hb3)
            replace HXr := Lib.hid (HXr.out.below hb3)
            clear hb3
            try dsimp only
            refine hK.out _ _ HXr.out (fun hHeld => ?_)
            try simp only [Act.put, List.setIfInBounds_toArray, List.set_cons_zero, List.set_cons_succ]
            clear hHeld
            refine wpAnyH_ready (rs := [11]) (by kernel_rfl) (by simp) ?_
            refine AllReadyH.cons (by rw [List.getElem?_toArray]; rfl) (fun Kn hK => ?_) AllReadyH.nil
            go_simp
            go_at_call 16
            with_reducible refine (st_put HOK.out HSA.out (k := K.data.toList) (b := zB.data.toList) rfl rfl hkz hz4).mono ?_
            rintro e w4 ⟨rfl, XA_1, hs, hn⟩
            have HB4 := Lib.hid hs.b
            replace HRa := Lib.hid (HRa.out.next hn)
            replace HRb := Lib.hid (HRb.out.next hn)
            replace HRc := Lib.hid (HRc.out.next hn)
            replace HRx := Lib.hid (HRx.out.next hn)
            replace HRy := Lib.hid (HRy.out.next hn)
            replace HRz := Lib.hid (HRz.out.next hn)
            have hof := hn.off HXr.out.1 HNrA.out
            replace HXr := Lib.hid (HXr.out.next hn HNrA.out)
            replace HNrA := Lib.hid hof
            clear hof
            replace HSA := Lib.hid hs
            clear hs hn
            try dsimp only
            refine hK.out _ _ HXr.out (fun hHeld => ?_)
            try simp only [Act.put, List.setIfInBounds_toArray, List.set_cons_zero, List.set_cons_succ]
            refine wpAnyH_done (by kernel_rfl) ?_ _
            clear hHeld
            go_wp2
            go_roundw
            case rel => exact ⟨k2 + 1, _, _, by omega, by go_num, Lib.hid (some_put HF.out _ _), HSA, HRa, HRb, HRc, HRx, HRy, HRz⟩
            case measure => simp [intOf]; omega
        · obtain rfl : k2 = n2 := by omega
          go_wp2_with fail
          with_reducible refine (same_any _ _ _ _ _ _ _ HRa.out.reads HRx.out.reads (Nat.le_trans HRa.out.cap.1 HRa.out.cap.2)).mono ?_
          rintro e w2 ⟨rfl, hb2⟩
          have HB2 := Lib.hid (bel_call HB1.out hb2)
          replace HSA := Lib.hid (HSA.out.below HOK.out hb2)
          replace HRa := Lib.hid (HRa.out.below hb2)
          replace HRb := Lib.hid (HRb.out.below hb2)
          replace HRc := Lib.hid (HRc.out.below hb2)
          replace HRx := Lib.hid (HRx.out.below hb2)
          replace HRy := Lib.hid (HRy.out.below hb2)
          replace HRz := Lib.hid (HRz.out.below hb2)
          clear hb2
          rw [decide_eq_true (rfl : bl Ya = bl Ya)]
          try dsimp only
          go_wp2_with fail
          with_reducible refine (same_any _ _ _ _ _ _ _ HRb.out.reads HRy.out.reads (Nat.le_trans HRb.out.cap.1 HRb.out.cap.2)).mono ?_
          rintro e w3 ⟨rfl, hb3⟩
          have HB3 := Lib.hid (bel_call HB2.out hb3)
          replace HSA := Lib.hid (HSA.out.below HOK.out hb3)
          replace HRa := Lib.hid (HRa.out.below hb3)
          replace HRb := Lib.hid (HRb.out.below hb3)
          replace HRc := Lib.hid (HRc.out.below hb3)
          replace HRx := Lib.hid (HRx.out.below hb3)
          replace HRy := Lib.hid (HRy.out.below hb3)
          replace HRz := Lib.hid (HRz.out.below hb3)
          clear hb3
          rw [decide_eq_true (rfl : bl Yb = bl Yb)]
          try dsimp only
          go_wp2_with fail
          with_reducible refine (same_any _ _ _ _ _ _ _ HRc.out.reads HRz.out.reads (Nat.le_trans HRc.out.cap.1 HRc.out.cap.2)).mono ?_
          rintro e w4 ⟨rfl, hb4⟩
          have HB4 := Lib.hid (bel_call HB3.out hb4)
          replace HSA := Lib.hid (HSA.out.below HOK.out hb4)
          replace HRa := Lib.hid (HRa.out.below hb4)
          replace HRb := Lib.hid (HRb.out.below hb4)
          replace HRc := Lib.hid (HRc.out.below hb4)
          replace HRx := Lib.hid (HRx.out.below hb4)
          replace HRy := Lib.hid (HRy.out.below hb4)
          replace HRz := Lib.hid (HRz.out.below hb4)
          clear hb4
          rw [decide_eq_true (rfl : bl Yc = bl Yc)]
          try dsimp only
          clear HRa
          clear HRb
          clear HRc
          clear HRx
          clear HRy
          clear HRz
          go_wp2_with fail
          with_reducible refine (so_list HOK.out HSA.out (K := ⟨#[]⟩) (k := []) rfl (by decide)).mono ?_
          rintro e w5 ⟨hx, hb5⟩
          have HB5 := Lib.hid (bel_call HB4.out hb5)
          replace HSA := Lib.hid (HSA.out.below HOK.out hb5)
          clear hb5
          obtain ⟨lu, hlu, hx⟩ := hx
          have HLu := Lib.hid hlu
          clear hlu
          obtain ⟨Au, cu, Yu, hq, hr, rfl⟩ := hx
          have HQu := Lib.hid hq
          have HRu := Lib.hid hr
          clear hq hr
          try dsimp only
          replace HRu := Lib.hid (HRu.out.weakTo HB4.out.size)
          have HRu0 := HRu
          go_wp2_with fail
          with_reducible refine (so_vers HOK.out HSA.out (K := ⟨#[97]⟩) (k := [97]) rfl (by decide)).mono ?_
          rintro e w6 ⟨hx, hb6⟩
          have HB6 := Lib.hid (bel_call HB5.out hb6)
          replace HSA := Lib.hid (HSA.out.below HOK.out hb6)
          replace HRu := Lib.hid (HRu.out.below hb6)
          clear hb6
          obtain ⟨Av, cv, Yv, hq, hr, rfl⟩ := hx
          have HQv := Lib.hid hq
          have HRv := Lib.hid hr
          clear hq hr
          try dsimp only
          have HDuv := Lib.hid (own_apart HRu0.out HRv.out (Nat.le_refl _))
          replace HRv := Lib.hid (HRv.out.weakTo HB5.out.size)
          clear HRu0
          have hlu : Yu.length ≤ 200 := by rw [← bl_len, HQu.out]; exact Nat.le_trans (few_list HF.out HSA.out.f HLu.out) (by omega)
          have hlv : Yv.length ≤ 200 := by rw [← bl_len, HQv.out]; exact Nat.le_trans (few_vers HF.out HSA.out.f _) (by omega)
          go_wp2_with (first
            | (at_builtin
               refine append_strs rfl _ _ rfl w6.heap.size (.slice (some ⟨w6.heap.size, 0, none⟩) 0 0) 0 [] Yu rfl ?c1 rfl Au Yu.length cu rfl rfl HRu.out.nil ?c2 ?c3 ?c4 ?_
               case c1 => exact own_empty w6
               case c2 => exact HRu.out.reads.below ((Below.refl _ w6).alloc (Nat.le_refl _) _) (Nat.le_refl _)
               case c3 => omega
               case c4 => simp
               intro v wp hown hb0
               have hbS : Below w6.heap.size w6 wp := ((Below.refl _ w6).alloc (Nat.le_refl _) _).trans hb0
               obtain ⟨Ap, cp, rfl, hrow⟩ := copy_row HOK.out HSA.out hown (by simp)
               have HRp := Lib.hid hrow
               simp only [List.nil_append] at HRp ⊢
               have HDup := Lib.hid (own_apart HRu.out HRp.out (Nat.le_refl _))
               have HDvp := Lib.hid (own_apart HRv.out HRp.out (Nat.le_refl _))
               clear hown hb0 hrow
               have HB7 := Lib.hid (bel_call HB6.out hbS)
               replace HSA := Lib.hid (HSA.out.below HOK.out hbS)
               replace HRu := Lib.hid (HRu.out.below hbS)
               replace HRv := Lib.hid (HRv.out.below hbS)
               clear hbS)
            | (at_builtin
               refine append_strs rfl _ _ rfl wp.heap.size (.slice (some ⟨wp.heap.size, 0, none⟩) 0 0) 0 [] Yv rfl ?c1 rfl Av Yv.length cv rfl rfl HRv.out.nil ?c2 ?c3 ?c4 ?_
               case c1 => exact own_empty wp
               case c2 => exact HRv.out.reads.below ((Below.refl _ wp).alloc (Nat.le_refl _) _) (Nat.le_refl _)
               case c3 => omega
               case c4 => simp
               intro v wq hown hb0
               have hbS : Below wp.heap.size wp wq := ((Below.refl _ wp).alloc (Nat.le_refl _) _).trans hb0
               obtain ⟨Aq, cq, rfl, hrow⟩ := copy_row HOK.out HSA.out hown (by simp)
               have HRq := Lib.hid hrow
               simp only [List.nil_append] at HRq ⊢
               have HDuq := Lib.hid (own_apart HRu.out HRq.out (Nat.le_refl _))
               have HDvq := Lib.hid (own_apart HRv.out HRq.out (Nat.le_refl _))
               clear hown hb0 hrow
               have HB8 := Lib.hid (bel_call HB7.out hbS)
               replace HSA := Lib.hid (HSA.out.below HOK.out hbS)
               replace HRu := Lib.hid (HRu.out.below hbS)
               replace HRv := Lib.hid (HRv.out.below hbS)
               replace HRp := Lib.hid (HRp.out.below hbS)
               clear hbS))
          replace HRp := Lib.hid HRp.out.weak
          replace HRq := Lib.hid HRq.out.weak
          obtain ⟨L, hL⟩ : ∃ L, Yu.length = L := ⟨_, rfl⟩
          obtain ⟨M, hM⟩ : ∃ M, Yv.length = M := ⟨_, rfl⟩
          have HU : Hid (∃ zs : List ByteArray, zs.length = L ∧ OwnR w.heap.size wq X Au cu zs) := Lib.hid ⟨Yu, hL, HRu.out⟩
          have HV : Hid (∃ zs : List ByteArray, zs.length = M ∧ OwnR w.heap.size wq X Av cv zs) := Lib.hid ⟨Yv, hM, HRv.out⟩
          have HYu := Lib.hid hL
          have HYv := Lib.hid hM
          rw [hL] at hlu
          rw [hM] at hlv
          simp only [hL, hM]
          clear hL hM HRu HRv
          go_wp2_with fail
          go_loopw [21] (fun i wr => ∃ (j : Nat), j ≤ L ∧ i = .int .i64 j ∧ Hid (Sts D w wr aA X t) ∧ Hid (∃ zs : List ByteArray, zs.length = L ∧ OwnR w.heap.size wr X Au cu zs) ∧ Hid (∃ zs : List ByteArray, zs.length = M ∧ OwnR w.heap.size wr X Av cv zs) ∧ Hid (OwnR 0 wr X Ap cp Yu) ∧ Hid (OwnR 0 wr X Aq cq Yv)) (fun i _ => L - (intOf i).toNat)
          case atStart => exact ⟨0, Nat.zero_le _, rfl, HSA, HU, HV, HRp, HRq⟩
          case round =>
            clear HSA HU HV HRp HRq
            obtain ⟨j, hj, rfl, HSA, HU, HV, HRp, HRq⟩ := hrel
            have HB1 := Lib.hid HSA.out.b
            by_cases hlt : j < L
            · have hji : (j : Int) < (L : Int) := by omega
              have hj0 : (0 : Int) ≤ (j : Int) := Int.natCast_nonneg j
              obtain ⟨zs, hzl, hown⟩ := HU.out
              obtain ⟨g, rfl, hgl, hgx, hgb, hcq, hfz⟩ := own_cell hown (show j < zs.length by omega)
              have HZL := Lib.hid hzl
              have HOWN := Lib.hid hown
              clear hzl hown
              go_wp2_with fail
              go_roundw
              case rel => exact ⟨j + 1, by omega, by go_num, Lib.hid (HSA.out.set HOK.out hgx hgb), Lib.hid ⟨zs.set j ⟨#[63]⟩, by rw [List.length_set]; exact HZL.out, HOWN.out.same⟩, Lib.hid (by obtain ⟨zs2, h1, h2⟩ := HV.out; exact ⟨zs2, h1, h2.other fun o => HDuv.out g 0 o rfl⟩), Lib.hid (HRp.out.other fun o => HDup.out g 0 o rfl), Lib.hid (HRq.out.other fun o => HDuq.out g 0 o rfl)⟩
              case measure => simp [intOf]; omega
            · obtain rfl : L = j := by omega
              go_wp2_with fail
              go_loopw [22] (fun i wr => ∃ (j : Nat), j ≤ M ∧ i = .int .i64 j ∧ Hid (Sts D w wr aA X t) ∧ Hid (∃ zs : List ByteArray, zs.length = M ∧ OwnR w.heap.size wr X Av cv zs) ∧ Hid (OwnR 0 wr X Ap cp Yu) ∧ Hid (OwnR 0 wr X Aq cq Yv)) (fun i _ => M - (intOf i).toNat)
              case atStart => exact ⟨0, Nat.zero_le _, rfl, HSA, HV, HRp, HRq⟩
              case round =>
                clear HSA HV HRp HRq
                obtain ⟨j, hj, rfl, HSA, HV, HRp, HRq⟩ := hrel
                have HB1 := Lib.hid HSA.out.b
                by_cases hlt : j < M
                · have hji : (j : Int) < (M : Int) := by omega
                  have hj0 : (0 : Int) ≤ (j : Int) := Int.natCast_nonneg j
                  obtain ⟨zs, hzl, hown⟩ := HV.out
                  obtain ⟨g, rfl, hgl, hgx, hgb, hcq, hfz⟩ := own_cell hown (show j < zs.length by omega)
                  have HZL := Lib.hid hzl
                  have HOWN := Lib.hid hown
                  clear hzl hown
                  go_wp2_with fail
                  go_roundw
                  case rel => exact ⟨j + 1, by omega, by go_num, Lib.hid (HSA.out.set HOK.out hgx hgb), Lib.hid ⟨zs.set j ⟨#[63]⟩, by rw [List.length_set]; exact HZL.out, HOWN.out.same⟩, Lib.hid (HRp.out.other fun o => HDvp.out g 0 o rfl), Lib.hid (HRq.out.other fun o => HDvq.out g 0 o rfl)⟩
                  case measure => simp [intOf]; omega
                · skip
                  go_wp2_with fail
                  with_reducible refine (so_list HOK.out HSA.out (K := ⟨#[]⟩) (k := []) rfl (by decide)).mono ?_
                  rintro e w2 ⟨hx, hb2⟩
                  have HB2 := Lib.hid (bel_call HB1.out hb2)
                  replace HSA := Lib.hid (HSA.out.below HOK.out hb2)
                  replace HRp := Lib.hid (HRp.out.below hb2)
                  replace HRq := Lib.hid (HRq.out.below hb2)
                  clear hb2
                  obtain ⟨lm, hlm, hx⟩ := hx
                  have HLm := Lib.hid hlm
                  clear hlm
                  obtain ⟨Am, cm, Ym, hq, hr, rfl⟩ := hx
                  have HQm := Lib.hid hq
                  have HRm := Lib.hid hr
                  clear hq hr
                  try dsimp only
                  have hee : bl Ym = bl Yu := by rw [HQm.out, HQu.out]; exact lists_same (fun _ => rfl) HLm.out HLu.out
                  go_wp2_with fail
                  with_reducible refine ((by have h9 := same_any Am Ap cm cp Ym Yu _ HRm.out.reads HRp.out.reads (Nat.le_trans HRm.out.cap.1 HRm.out.cap.2); rw [HYu.out] at h9; exact h9 : Calls _ _ #[.slice Am Ym.length cm, .slice Ap L cp] _ _)).mono ?_
                  rintro e w3 ⟨rfl, hb3⟩
                  have HB3 := Lib.hid (bel_call HB2.out hb3)
                  replace HSA := Lib.hid (HSA.out.below HOK.out hb3)
                  replace HRp := Lib.hid (HRp.out.below hb3)
                  replace HRq := Lib.hid (HRq.out.below hb3)
                  replace HRm := Lib.hid (HRm.out.below hb3)
                  clear hb3
                  rw [decide_eq_true hee]
                  try dsimp only
                  clear HRm
                  clear HRp
                  go_wp2_with fail
                  with_reducible refine (so_vers HOK.out HSA.out (K := ⟨#[97]⟩) (k := [97]) rfl (by decide)).mono ?_
                  rintro e w4 ⟨hx, hb4⟩
                  have HB4 := Lib.hid (bel_call HB3.out hb4)
                  replace HSA := Lib.hid (HSA.out.below HOK.out hb4)
                  replace HRq := Lib.hid (HRq.out.below hb4)
                  clear hb4
                  obtain ⟨Ao, co, Yo, hq, hr, rfl⟩ := hx
                  have HQo := Lib.hid hq
                  have HRo := Lib.hid hr
                  clear hq hr
                  try dsimp only
                  have hev : bl Yo = bl Yv := by rw [HQo.out, HQv.out]
                  go_wp2_with fail
                  with_reducible refine ((by have h9 := same_any Ao Aq co cq Yo Yv _ HRo.out.reads HRq.out.reads (Nat.le_trans HRo.out.cap.1 HRo.out.cap.2); rw [HYv.out] at h9; exact h9 : Calls _ _ #[.slice Ao Yo.length co, .slice Aq M cq] _ _)).mono ?_
                  rintro e w5 ⟨rfl, hb5⟩
                  have HB5 := Lib.hid (bel_call HB4.out hb5)
                  replace HSA := Lib.hid (HSA.out.below HOK.out hb5)
                  replace HRq := Lib.hid (HRq.out.below hb5)
                  replace HRo := Lib.hid (HRo.out.below hb5)
                  clear hb5
                  rw [decide_eq_true hev]
                  try dsimp only
                  go_wp2
                  go_ret
                  exact ⟨rfl, HB5.out⟩
end Go.Proofs.Ytfeochpjjbnckaa.Sto
