/-
  THE LAW FreshSays, walked. By an AI agent; no person has read it.
-/
import Derived.Test.YtmmeklemaofmjaaFShown
namespace Go.Proofs.Ytmmeklemaofmjaa.Frs
open Go Go.RowKit Wire Term Draw Reg Clo

set_option linter.unusedSimpArgs false
set_option linter.unusedVariables false
set_option maxHeartbeats 8000000 in
set_option maxRecDepth 1000000 in
theorem says_walk (a0 : Int) (ta tb : Nat) (A : Option Addr) (c : Nat) (z : List Int) (A2 : Option Addr) (c2 : Nat) (z2 : List Int) (w : World) (h0 : -9223372036854775808 ≤ a0 ∧ a0 ≤ 9223372036854775807) (hta : ta < 18446744073709551616) (htb : tb < 18446744073709551616) (hr : IReads w A z) (hn : z.length ≤ 9223372036854775807) (hr2 : IReads w A2 z2) (hn2 : z2.length ≤ 9223372036854775807) :
    Calls Try.prog 7 #[.int .i64 a0, .int .u64 (ta : Int), .int .u64 (tb : Int), .slice A z.length c, .slice A2 z2.length c2] w fun e w' => e = .returned (.bool true) ∧ Below w.heap.size w w' := by
  have HSH := Lib.hid fun w => shown_any w
  have HI := Lib.hid hr
  have HI2 := Lib.hid hr2
  have HRO : Hid (∀ w', IReads w' A z → Calls Try.prog 12 #[.slice A z.length c] w' fun e w'' => Tre.Ob w' w'' (Tre.rowL z) e ∧ Below w'.heap.size w' w'') := Lib.hid fun w' h => Tre.row_any A c z w' h hn
  have HSM : Hid (Smalls (Tre.rowL z)) := Lib.hid Tre.rowL_small
  have h8 : (Tre.rowL z).length ≤ 8 := by rw [Tre.rowL_len]; omega
  have HRO2 : Hid (∀ w', IReads w' A2 z2 → Calls Try.prog 12 #[.slice A2 z2.length c2] w' fun e w'' => Tre.Ob w' w'' (Tre.rowL z2) e ∧ Below w'.heap.size w' w'') := Lib.hid fun w' h => Tre.row_any A2 c2 z2 w' h hn2
  have HSM2 : Hid (Smalls (Tre.rowL z2)) := Lib.hid Tre.rowL_small
  have h82 : (Tre.rowL z2).length ≤ 8 := by rw [Tre.rowL_len]; omega
  have HW0 := Lib.hid fun w => Tre.who_any a0 w h0
  have hp0 := Tre.pk_lt a0 (n := 8) (by decide)
  have hOo := who_right hp0
  have hOf := who_l12 (Tre.pk a0 8)
  generalize Tre.whoN (Tre.pk a0 8) = O at HW0 hOo hOf
  obtain ⟨R, G, hM⟩ := made_is (O := O) (t := ta) (l := Tre.rowL z) (hOo) (hOf) hta h8 Tre.rowL_small
  obtain ⟨R2, G2, hM2⟩ := made_is (O := O) (t := tb) (l := Tre.rowL z2) (hOo) (hOf) htb h82 Tre.rowL_small
  obtain ⟨K, hK⟩ := letter_is (secU O.data.toList)
  obtain ⟨PU, hPU⟩ := letter_is (pubU O.data.toList)
  have HS := Lib.hid fun w => sec_to (s := O) (by rw [Lib.size_eq]; exact hOf) hK w
  have HPU := Lib.hid fun w => pub_to (s := O) (by rw [Lib.size_eq]; exact hOf) hPU w
  have HBD : Hid (∀ (A' : Option Addr) (c' : Nat) (ys : List ByteArray) (w' : World), bl ys = Tre.rowL z → (ys.length ≤ c' ∧ c' ≤ 9223372036854775807) → SReads w' A' ys → Calls Try.prog 10 #[.string K, .string O, .int .u64 (ta : Int), .slice A' ys.length c'] w' fun e w'' => e = .returned (.tuple #[.agg #[.string O, .int .u64 (ta : Int), .int .i64 ((Tre.rowL z).length : Int), .string R, .string G], .int .i64 0]) ∧ Below w'.heap.size w' w'') := Lib.hid fun A' c' ys w' hy hc hr => build_to hM hK hy HSM.out hc w' hr
  have HBD2 : Hid (∀ (A' : Option Addr) (c' : Nat) (ys : List ByteArray) (w' : World), bl ys = Tre.rowL z2 → (ys.length ≤ c' ∧ c' ≤ 9223372036854775807) → SReads w' A' ys → Calls Try.prog 10 #[.string K, .string O, .int .u64 (tb : Int), .slice A' ys.length c'] w' fun e w'' => e = .returned (.tuple #[.agg #[.string O, .int .u64 (tb : Int), .int .i64 ((Tre.rowL z2).length : Int), .string R2, .string G2], .int .i64 0]) ∧ Below w'.heap.size w' w'') := Lib.hid fun A' c' ys w' hy hc hr => build_to hM2 hK hy HSM2.out hc w' hr
  have HM := Lib.hid hM
  have HM2 := Lib.hid hM2
  have HHP := Lib.hid hPU
  have HLN : Hid (∀ Y : List ByteArray, bl Y = Tre.rowL z → Y.length = (Tre.rowL z).length) := Lib.hid fun Y h => Tre.bl_length h
  have h8n := hM.eight
  have h8m := hM2.eight
  generalize (Tre.rowL z).length = n at HBD HM HLN h8n
  generalize (Tre.rowL z2).length = m at HBD2 HM2 h8m
  have hok := HM.out.ok
  have HCx : Hid (∀ w', Calls Try.prog 16 #[.agg #[.string O, .int .u64 (tb : Int), .int .i64 (n : Int), .string R, .string G], .string PU, .string O, .int .u64 (tb : Int), .int .u64 0] w' fun e w'' => e = .returned (.int .i64 (if ta = tb then 0 else 7)) ∧ Below w'.heap.size w' w'') := Lib.hid fun w' => mix_to HM.out (t' := tb) (n' := n) (R' := R) (⟨hok.1, hok.2.1, hok.2.2.1, hok.2.2.2⟩) htb (U := O) (P := PU) (Q := O) HM.out.few HHP.out (now := tb) (bound := 0) (by omega) (by decide) (v := (if ta = tb then 0 else 7)) (by
      by_cases he : ta = tb
      · rw [if_pos he, if_pos ⟨rfl, he.symm, rfl, rfl⟩, if_neg (fun h => h rfl), if_neg (by omega)]
      · rw [if_neg he, if_neg (fun h => he (h.2.1.symm))]) w'
  have HCy : Hid (∀ w', Calls Try.prog 16 #[.agg #[.string O, .int .u64 (ta : Int), .int .i64 (m : Int), .string R, .string G], .string PU, .string O, .int .u64 (ta : Int), .int .u64 0] w' fun e w'' => e = .returned (.int .i64 (if n = m then 0 else 7)) ∧ Below w'.heap.size w' w'') := Lib.hid fun w' => mix_to HM.out (t' := ta) (n' := m) (R' := R) (⟨hok.1, ⟨by simp, by simp only; omega⟩, hok.2.2.1, hok.2.2.2⟩) hta (U := O) (P := PU) (Q := O) HM.out.few HHP.out (now := ta) (bound := 0) (by omega) (by decide) (v := (if n = m then 0 else 7)) (by
      by_cases he : n = m
      · rw [if_pos he, if_pos ⟨rfl, rfl, he.symm, rfl⟩, if_neg (fun h => h rfl), if_neg (by omega)]
      · rw [if_neg he, if_neg (fun h => he (h.2.2.1.symm))]) w'
  have HCz : Hid (∀ w', Calls Try.prog 16 #[.agg #[.string O, .int .u64 (ta : Int), .int .i64 (n : Int), .string R2, .string G], .string PU, .string O, .int .u64 (ta : Int), .int .u64 0] w' fun e w'' => e = .returned (.int .i64 (if R.data.toList = R2.data.toList then 0 else 7)) ∧ Below w'.heap.size w' w'') := Lib.hid fun w' => mix_to HM.out (t' := ta) (n' := n) (R' := R2) (⟨hok.1, hok.2.1, HM2.out.rright, hok.2.2.2⟩) hta (U := O) (P := PU) (Q := O) HM.out.few HHP.out (now := ta) (bound := 0) (by omega) (by decide) (v := (if R.data.toList = R2.data.toList then 0 else 7)) (by
      by_cases he : R.data.toList = R2.data.toList
      · rw [if_pos he, if_pos ⟨rfl, rfl, rfl, he.symm⟩, if_neg (fun h => h rfl), if_neg (by omega)]
      · rw [if_neg he, if_neg (fun h => he (h.2.2.2.symm))]) w'
  obtain ⟨vx, bx, hvx, hvx0, htx⟩ : ∃ (v : Int) (b : Bool), (if ta = tb then (0 : Int) else 7) = v ∧ (v == 0) = b ∧ ((ta : Int) == (tb : Int)) = b := ⟨_, _, rfl, rfl, by
      by_cases h : ta = tb
      · simp [h]
      · have h2 : (ta : Int) ≠ (tb : Int) := by omega
        simp [h, h2]⟩
  obtain ⟨vy, by', hvy, hvy0, hty⟩ : ∃ (v : Int) (b : Bool), (if n = m then (0 : Int) else 7) = v ∧ (v == 0) = b ∧ ((n : Int) == (m : Int)) = b := ⟨_, _, rfl, rfl, by
      by_cases h : n = m
      · simp [h]
      · have h2 : (n : Int) ≠ (m : Int) := by omega
        simp [h, h2]⟩
  obtain ⟨vz, bz, hvz, hvz0, htz⟩ : ∃ (v : Int) (b : Bool), (if R.data.toList = R2.data.toList then (0 : Int) else 7) = v ∧ (v == 0) = b ∧ (R.toList == R2.toList) = b := ⟨_, _, rfl, rfl, by
      by_cases h : R.data.toList = R2.data.toList
      · rw [if_pos h, eq_bool h]; rfl
      · rw [if_neg h, ne_bool h]; rfl⟩
  rw [hvx] at HCx
  rw [hvy] at HCy
  rw [hvz] at HCz
  clear hvx hvy hvz
  clear hr hr2 hp0 hOo hM hM2 hPU hK hok HM HM2 HHP hOf
  go_enter Try.func7, Try.ntmps7
  go_wp2_with fail
  with_reducible refine (HSH.out _).mono ?_
  rintro e w1 ⟨rfl, hb1⟩
  have HB1 := Lib.hid hb1
  clear hb1
  try dsimp only
  go_wp2_with fail
  with_reducible refine (HW0.out _).mono ?_
  rintro e w2 ⟨rfl, hb2⟩
  have HB2 := Lib.hid (Bel.call HB1.out hb2)
  clear hb2
  try dsimp only
  go_wp2_with fail
  with_reducible refine (HS.out _).mono ?_
  rintro e w3 ⟨rfl, hb3⟩
  have HB3 := Lib.hid (Bel.call HB2.out hb3)
  clear hb3
  try dsimp only
  go_wp2_with fail
  with_reducible refine (HRO.out _ (HI.out.below HB3.out (Nat.le_refl _))).mono ?_
  rintro e w4 ⟨hx, hb4⟩
  have HB4 := Lib.hid (Bel.call HB3.out hb4)
  clear hb4
  obtain ⟨AX, cX, YX, hq, hc, hr, hb, rfl⟩ := Tre.ob_row hx
  have HQX := Lib.hid hq
  have HCX := Lib.hid hc
  have HRX := Lib.hid hr
  clear hx hq hc hr hb
  try dsimp only
  go_wp2_with fail
  with_reducible refine (HBD.out AX cX YX _ HQX.out HCX.out HRX.out).mono ?_
  rintro e w5 ⟨rfl, hb5⟩
  have HB5 := Lib.hid (Bel.call HB4.out hb5)
  clear hb5
  try dsimp only
  clear HRX
  go_wp2_with fail
  have hbS : Below w5.heap.size w5 (w5.alloc (.cells #[.string O, .int .u64 (ta : Int), .int .i64 (n : Int), .string R, .string G] 27)) := (Below.refl w5.heap.size w5).alloc (Nat.le_refl _) _
  have hxS := c5_new w5 (.string O) (.int .u64 (ta : Int)) (.int .i64 (n : Int)) (.string R) (.string G) 27
  generalize w5.alloc (.cells #[.string O, .int .u64 (ta : Int), .int .i64 (n : Int), .string R, .string G] 27) = wSS at hbS hxS ⊢
  have HB6 := Lib.hid (Bel.call HB5.out hbS)
  have HXS := Lib.hid hxS
  clear hbS hxS
  with_reducible refine (HS.out _).mono ?_
  rintro e w7 ⟨rfl, hb7⟩
  have HB7 := Lib.hid (Bel.call HB6.out hb7)
  replace HXS := Lib.hid (HXS.out.below hb7)
  clear hb7
  try dsimp only
  go_wp2_with fail
  with_reducible refine (HRO2.out _ (HI2.out.below HB7.out (Nat.le_refl _))).mono ?_
  rintro e w8 ⟨hx, hb8⟩
  have HB8 := Lib.hid (Bel.call HB7.out hb8)
  replace HXS := Lib.hid (HXS.out.below hb8)
  clear hb8
  obtain ⟨AY, cY, YY, hq, hc, hr, hb, rfl⟩ := Tre.ob_row hx
  have HQY := Lib.hid hq
  have HCY := Lib.hid hc
  have HRY := Lib.hid hr
  clear hx hq hc hr hb
  try dsimp only
  go_wp2_with fail
  with_reducible refine (HBD2.out AY cY YY _ HQY.out HCY.out HRY.out).mono ?_
  rintro e w9 ⟨rfl, hb9⟩
  have HB9 := Lib.hid (Bel.call HB8.out hb9)
  replace HXS := Lib.hid (HXS.out.below hb9)
  clear hb9
  try dsimp only
  clear HRY
  have NFS2 : w5.heap.size < w9.heap.size + 1 + 1 := by have := HXS.out.1.1; omega
  have NFS3 : w5.heap.size < w9.heap.size + 1 + 1 + 1 := by have := HXS.out.1.1; omega
  have NFS4 : w5.heap.size < w9.heap.size + 1 + 1 + 1 + 1 := by have := HXS.out.1.1; omega
  have NES0 : w5.heap.size ≠ w9.heap.size := by have := HXS.out.1.1; omega
  have NES1 : w5.heap.size ≠ w9.heap.size + 1 := by have := HXS.out.1.1; omega
  have NES2 : w5.heap.size ≠ w9.heap.size + 1 + 1 := by have := HXS.out.1.1; omega
  have NES3 : w5.heap.size ≠ w9.heap.size + 1 + 1 + 1 := by have := HXS.out.1.1; omega
  have NES4 : w5.heap.size ≠ w9.heap.size + 1 + 1 + 1 + 1 := by have := HXS.out.1.1; omega
  obtain ⟨⟨nS, dS0, dS1, dS2, dS3, dS4⟩, kS0, kS1, kS2, kS3, kS4⟩ := HXS.out
  go_wp2_with fail
  clear nS dS0 dS1 dS2 dS3 dS4 kS0 kS1 kS2 kS3 kS4
  have hp5 := c5_four w9 (.string O) (.int .u64 (tb : Int)) (.int .i64 (m : Int)) (.string R2) (.string G2) (.string O) (.int .u64 (tb : Int)) (.int .i64 (n : Int)) (.string R) (.string G) (.string O) (.int .u64 (ta : Int)) (.int .i64 (m : Int)) (.string R) (.string G) (.string O) (.int .u64 (ta : Int)) (.int .i64 (n : Int)) (.string R2) (.string G) 27
  generalize ((((w9.alloc (.cells #[.string O, .int .u64 (tb : Int), .int .i64 (m : Int), .string R2, .string G2] 27)).alloc (.cells #[.string O, .int .u64 (tb : Int), .int .i64 (n : Int), .string R, .string G] 27)).alloc (.cells #[.string O, .int .u64 (ta : Int), .int .i64 (m : Int), .string R, .string G] 27)).alloc (.cells #[.string O, .int .u64 (ta : Int), .int .i64 (n : Int), .string R2, .string G] 27)) = wST at hp5 ⊢
  obtain ⟨hx0, hx1, hx2, hx3, hbS⟩ := hp5
  have HB10 := Lib.hid (Bel.call HB9.out hbS)
  replace HXS := Lib.hid (HXS.out.below hbS)
  have HXT : Hid (C5 (w9.heap.size) wST (.string O) (.int .u64 (tb : Int)) (.int .i64 (m : Int)) (.string R2) (.string G2)) := Lib.hid hx0
  have HXX : Hid (C5 (w9.heap.size + 1) wST (.string O) (.int .u64 (tb : Int)) (.int .i64 (n : Int)) (.string R) (.string G)) := Lib.hid hx1
  have HXY : Hid (C5 (w9.heap.size + 1 + 1) wST (.string O) (.int .u64 (ta : Int)) (.int .i64 (m : Int)) (.string R) (.string G)) := Lib.hid hx2
  have HXZ : Hid (C5 (w9.heap.size + 1 + 1 + 1) wST (.string O) (.int .u64 (ta : Int)) (.int .i64 (n : Int)) (.string R2) (.string G)) := Lib.hid hx3
  clear hbS hx0 hx1 hx2 hx3
  clear NES0 NES1 NES2 NES3 NES4 NFS2 NFS3 NFS4
  with_reducible refine (HPU.out _).mono ?_
  rintro e w11 ⟨rfl, hb11⟩
  have HB11 := Lib.hid (Bel.call HB10.out hb11)
  replace HXS := Lib.hid (HXS.out.below hb11)
  replace HXT := Lib.hid (HXT.out.below hb11)
  replace HXX := Lib.hid (HXX.out.below hb11)
  replace HXY := Lib.hid (HXY.out.below hb11)
  replace HXZ := Lib.hid (HXZ.out.below hb11)
  clear hb11
  try dsimp only
  skip
  go_wp2_with fail
  have hdr : Below w11.heap.size w11 w11.drew := Below.drewN' (Below.refl w11.heap.size w11) 1
  refine wp_region_held_drew (S := fun w' => C5 w5.heap.size w' (.string O) (.int .u64 (ta : Int)) (.int .i64 (n : Int)) (.string R) (.string G) ∧ C5 (w9.heap.size) w' (.string O) (.int .u64 (tb : Int)) (.int .i64 (m : Int)) (.string R2) (.string G2) ∧ C5 (w9.heap.size + 1) w' (.string O) (.int .u64 (tb : Int)) (.int .i64 (n : Int)) (.string R) (.string G) ∧ C5 (w9.heap.size + 1 + 1) w' (.string O) (.int .u64 (ta : Int)) (.int .i64 (m : Int)) (.string R) (.string G) ∧ C5 (w9.heap.size + 1 + 1 + 1) w' (.string O) (.int .u64 (ta : Int)) (.int .i64 (n : Int)) (.string R2) (.string G)) (by kernel_rfl) (⟨HXS.out.below hdr, HXT.out.below hdr, HXX.out.below hdr, HXY.out.below hdr, HXZ.out.below hdr⟩) (fun hHeld => ?_)
  clear hHeld
  generalize w11.drew = wd1 at hdr ⊢
  have HB12 := Lib.hid (Bel.call HB11.out hdr)
  replace HXS := Lib.hid (HXS.out.below hdr)
  replace HXT := Lib.hid (HXT.out.below hdr)
  replace HXX := Lib.hid (HXX.out.below hdr)
  replace HXY := Lib.hid (HXY.out.below hdr)
  replace HXZ := Lib.hid (HXZ.out.below hdr)
  clear hdr
  have hHeld : C5 w5.heap.size wd1 (.string O) (.int .u64 (ta : Int)) (.int .i64 (n : Int)) (.string R) (.string G) ∧ C5 (w9.heap.size) wd1 (.string O) (.int .u64 (tb : Int)) (.int .i64 (m : Int)) (.string R2) (.string G2) ∧ C5 (w9.heap.size + 1) wd1 (.string O) (.int .u64 (tb : Int)) (.int .i64 (n : Int)) (.string R) (.string G) ∧ C5 (w9.heap.size + 1 + 1) wd1 (.string O) (.int .u64 (ta : Int)) (.int .i64 (m : Int)) (.string R) (.string G) ∧ C5 (w9.heap.size + 1 + 1 + 1) wd1 (.string O) (.int .u64 (ta : Int)) (.int .i64 (n : Int)) (.string R2) (.string G) := ⟨HXS.out, HXT.out, HXX.out, HXY.out, HXZ.out⟩
  refine wpAnyH_take (i := 0) (v := ?_) (by rw [List.getElem?_toArray]; rfl) (by kernel_rfl) (by kernel_rfl) (by kernel_rfl) (by exact fun _ _ _ h => h) (Or.inl ⟨by rfl, ?_⟩) (by assumption) ?_
  rotate_left
  · intro w' hSw
    obtain ⟨⟨_, q00, q01, q02, q03, q04⟩, _⟩ := hSw.1
    obtain ⟨⟨_, q10, q11, q12, q13, q14⟩, _⟩ := hSw.2.1
    obtain ⟨⟨_, q20, q21, q22, q23, q24⟩, _⟩ := hSw.2.2.1
    obtain ⟨⟨_, q30, q31, q32, q33, q34⟩, _⟩ := hSw.2.2.2.1
    obtain ⟨⟨_, q40, q41, q42, q43, q44⟩, _⟩ := hSw.2.2.2.2
    go_simp
    try with_reducible rfl
  try simp only [Act.put, List.setIfInBounds_toArray, List.set_cons_zero, List.set_cons_succ]
  refine wpAnyH_take (i := 1) (v := ?_) (by rw [List.getElem?_toArray]; rfl) (by kernel_rfl) (by kernel_rfl) (by kernel_rfl) (by exact fun _ _ _ h => h) (Or.inl ⟨by rfl, ?_⟩) (by assumption) ?_
  rotate_left
  · intro w' hSw
    go_simp
    try with_reducible rfl
  try simp only [Act.put, List.setIfInBounds_toArray, List.set_cons_zero, List.set_cons_succ]
  refine wpAnyH_take (i := 2) (v := ?_) (by rw [List.getElem?_toArray]; rfl) (by kernel_rfl) (by kernel_rfl) (by kernel_rfl) (by exact fun _ _ _ h => h) (Or.inl ⟨by rfl, ?_⟩) (by assumption) ?_
  rotate_left
  · intro w' hSw
    go_simp
    try with_reducible rfl
  try simp only [Act.put, List.setIfInBounds_toArray, List.set_cons_zero, List.set_cons_succ]
  refine wpAnyH_take (i := 3) (v := ?_) (by rw [List.getElem?_toArray]; rfl) (by kernel_rfl) (by kernel_rfl) (by kernel_rfl) (by exact fun _ _ _ h => h) (Or.inl ⟨by rfl, ?_⟩) (by assumption) ?_
  rotate_left
  · intro w' hSw
    go_simp
    try with_reducible rfl
  try simp only [Act.put, List.setIfInBounds_toArray, List.set_cons_zero, List.set_cons_succ]
  refine wpAnyH_take (i := 6) (v := ?_) (by rw [List.getElem?_toArray]; rfl) (by kernel_rfl) (by kernel_rfl) (by kernel_rfl) (by exact fun _ _ _ h => h) (Or.inl ⟨by rfl, ?_⟩) (by assumption) ?_
  rotate_left
  · intro w' hSw
    go_simp
    try with_reducible rfl
  try simp only [Act.put, List.setIfInBounds_toArray, List.set_cons_zero, List.set_cons_succ]
  refine wpAnyH_take (i := 7) (v := ?_) (by rw [List.getElem?_toArray]; rfl) (by kernel_rfl) (by kernel_rfl) (by kernel_rfl) (by exact fun _ _ _ h => h) (Or.inl ⟨by rfl, ?_⟩) (by assumption) ?_
  rotate_left
  · intro w' hSw
    go_simp
    try with_reducible rfl
  try simp only [Act.put, List.setIfInBounds_toArray, List.set_cons_zero, List.set_cons_succ]
  refine wpAnyH_take (i := 8) (v := ?_) (by rw [List.getElem?_toArray]; rfl) (by kernel_rfl) (by kernel_rfl) (by kernel_rfl) (by exact fun _ _ _ h => h) (Or.inl ⟨by rfl, ?_⟩) (by assumption) ?_
  rotate_left
  · intro w' hSw
    go_simp
    try with_reducible rfl
  try simp only [Act.put, List.setIfInBounds_toArray, List.set_cons_zero, List.set_cons_succ]
  clear hHeld
  refine wpAnyH_ready (rs := [4]) (by kernel_rfl) (by simp) ?_
  refine AllReadyH.cons (by rw [List.getElem?_toArray]; rfl) (fun Kn hK => ?_) AllReadyH.nil
  go_simp
  go_at_call 16
  with_reducible refine (HCx.out _).mono ?_
  rintro e w13 ⟨rfl, hb13⟩
  have HB13 := Lib.hid (Bel.call HB12.out hb13)
  replace HXS := Lib.hid (HXS.out.below hb13)
  replace HXT := Lib.hid (HXT.out.below hb13)
  replace HXX := Lib.hid (HXX.out.below hb13)
  replace HXY := Lib.hid (HXY.out.below hb13)
  replace HXZ := Lib.hid (HXZ.out.below hb13)
  clear hb13
  try dsimp only
  refine hK.out _ _ ⟨HXS.out, HXT.out, HXX.out, HXY.out, HXZ.out⟩ (fun hHeld => ?_)
  try simp only [Act.put, List.setIfInBounds_toArray, List.set_cons_zero, List.set_cons_succ]
  refine wpAnyH_take (i := 5) (v := ?_) (by rw [List.getElem?_toArray]; rfl) (by kernel_rfl) (by kernel_rfl) (by kernel_rfl) (by exact fun _ _ _ h => h) (Or.inl ⟨by rfl, ?_⟩) (by assumption) ?_
  rotate_left
  · intro w' hSw
    go_simp
    try with_reducible rfl
  try simp only [Act.put, List.setIfInBounds_toArray, List.set_cons_zero, List.set_cons_succ]
  refine wpAnyH_take (i := 9) (v := ?_) (by rw [List.getElem?_toArray]; rfl) (by kernel_rfl) (by kernel_rfl) (by kernel_rfl) (by exact fun _ _ _ h => h) (Or.inl ⟨by rfl, ?_⟩) (by assumption) ?_
  rotate_left
  · intro w' hSw
    go_simp
    try with_reducible rfl
  try simp only [Act.put, List.setIfInBounds_toArray, List.set_cons_zero, List.set_cons_succ]
  refine wpAnyH_take (i := 10) (v := ?_) (by rw [List.getElem?_toArray]; rfl) (by kernel_rfl) (by kernel_rfl) (by kernel_rfl) (by exact fun _ _ _ h => h) (Or.inl ⟨by rfl, ?_⟩) (by assumption) ?_
  rotate_left
  · intro w' hSw
    go_simp
    try with_reducible rfl
  try simp only [Act.put, List.setIfInBounds_toArray, List.set_cons_zero, List.set_cons_succ]
  refine wpAnyH_take (i := 11) (v := ?_) (by rw [List.getElem?_toArray]; rfl) (by kernel_rfl) (by kernel_rfl) (by kernel_rfl) (by exact fun _ _ _ h => h) (Or.inl ⟨by rfl, ?_⟩) (by assumption) ?_
  rotate_left
  · intro w' hSw
    obtain ⟨⟨_, q00, q01, q02, q03, q04⟩, _⟩ := hSw.1
    obtain ⟨⟨_, q10, q11, q12, q13, q14⟩, _⟩ := hSw.2.1
    obtain ⟨⟨_, q20, q21, q22, q23, q24⟩, _⟩ := hSw.2.2.1
    obtain ⟨⟨_, q30, q31, q32, q33, q34⟩, _⟩ := hSw.2.2.2.1
    obtain ⟨⟨_, q40, q41, q42, q43, q44⟩, _⟩ := hSw.2.2.2.2
    go_simp
    try with_reducible rfl
  try simp only [Act.put, List.setIfInBounds_toArray, List.set_cons_zero, List.set_cons_succ]
  refine wpAnyH_take (i := 12) (v := ?_) (by rw [List.getElem?_toArray]; rfl) (by kernel_rfl) (by kernel_rfl) (by kernel_rfl) (by exact fun _ _ _ h => h) (Or.inl ⟨by rfl, ?_⟩) (by assumption) ?_
  rotate_left
  · intro w' hSw
    go_simp
    try with_reducible rfl
  try simp only [Act.put, List.setIfInBounds_toArray, List.set_cons_zero, List.set_cons_succ]
  refine wpAnyH_take (i := 13) (v := ?_) (by rw [List.getElem?_toArray]; rfl) (by kernel_rfl) (by kernel_rfl) (by kernel_rfl) (by exact fun _ _ _ h => h) (Or.inl ⟨by rfl, ?_⟩) (by assumption) ?_
  rotate_left
  · intro w' hSw
    go_simp
    try with_reducible rfl
  try simp only [Act.put, List.setIfInBounds_toArray, List.set_cons_zero, List.set_cons_succ]
  refine wpAnyH_take (i := 14) (v := ?_) (by rw [List.getElem?_toArray]; rfl) (by kernel_rfl) (by kernel_rfl) (by kernel_rfl) (by exact fun _ _ _ h => h) (Or.inl ⟨by rfl, ?_⟩) (by assumption) ?_
  rotate_left
  · intro w' hSw
    go_simp
    try with_reducible rfl
  try simp only [Act.put, List.setIfInBounds_toArray, List.set_cons_zero, List.set_cons_succ]
  refine wpAnyH_take (i := 17) (v := ?_) (by rw [List.getElem?_toArray]; rfl) (by kernel_rfl) (by kernel_rfl) (by kernel_rfl) (by exact fun _ _ _ h => h) (Or.inl ⟨by rfl, ?_⟩) (by assumption) ?_
  rotate_left
  · intro w' hSw
    go_simp
    try with_reducible rfl
  try simp only [Act.put, List.setIfInBounds_toArray, List.set_cons_zero, List.set_cons_succ]
  refine wpAnyH_take (i := 18) (v := ?_) (by rw [List.getElem?_toArray]; rfl) (by kernel_rfl) (by kernel_rfl) (by kernel_rfl) (by exact fun _ _ _ h => h) (Or.inl ⟨by rfl, ?_⟩) (by assumption) ?_
  rotate_left
  · intro w' hSw
    obtain ⟨⟨_, q00, q01, q02, q03, q04⟩, _⟩ := hSw.1
    obtain ⟨⟨_, q10, q11, q12, q13, q14⟩, _⟩ := hSw.2.1
    obtain ⟨⟨_, q20, q21, q22, q23, q24⟩, _⟩ := hSw.2.2.1
    obtain ⟨⟨_, q30, q31, q32, q33, q34⟩, _⟩ := hSw.2.2.2.1
    obtain ⟨⟨_, q40, q41, q42, q43, q44⟩, _⟩ := hSw.2.2.2.2
    go_simp
    try with_reducible rfl
  try simp only [Act.put, List.setIfInBounds_toArray, List.set_cons_zero, List.set_cons_succ]
  refine wpAnyH_take (i := 19) (v := ?_) (by rw [List.getElem?_toArray]; rfl) (by kernel_rfl) (by kernel_rfl) (by kernel_rfl) (by exact fun _ _ _ h => h) (Or.inl ⟨by rfl, ?_⟩) (by assumption) ?_
  rotate_left
  · intro w' hSw
    go_simp
    try with_reducible rfl
  try simp only [Act.put, List.setIfInBounds_toArray, List.set_cons_zero, List.set_cons_succ]
  refine wpAnyH_take (i := 20) (v := ?_) (by rw [List.getElem?_toArray]; rfl) (by kernel_rfl) (by kernel_rfl) (by kernel_rfl) (by exact fun _ _ _ h => h) (Or.inl ⟨by rfl, ?_⟩) (by assumption) ?_
  rotate_left
  · intro w' hSw
    obtain ⟨⟨_, q00, q01, q02, q03, q04⟩, _⟩ := hSw.1
    obtain ⟨⟨_, q10, q11, q12, q13, q14⟩, _⟩ := hSw.2.1
    obtain ⟨⟨_, q20, q21, q22, q23, q24⟩, _⟩ := hSw.2.2.1
    obtain ⟨⟨_, q30, q31, q32, q33, q34⟩, _⟩ := hSw.2.2.2.1
    obtain ⟨⟨_, q40, q41, q42, q43, q44⟩, _⟩ := hSw.2.2.2.2
    go_simp
    try with_reducible rfl
  try simp only [Act.put, List.setIfInBounds_toArray, List.set_cons_zero, List.set_cons_succ]
  refine wpAnyH_take (i := 21) (v := ?_) (by rw [List.getElem?_toArray]; rfl) (by kernel_rfl) (by kernel_rfl) (by kernel_rfl) (by exact fun _ _ _ h => h) (Or.inl ⟨by rfl, ?_⟩) (by assumption) ?_
  rotate_left
  · intro w' hSw
    go_simp
    try with_reducible rfl
  try simp only [Act.put, List.setIfInBounds_toArray, List.set_cons_zero, List.set_cons_succ]
  clear hHeld
  refine wpAnyH_ready (rs := [15]) (by kernel_rfl) (by simp) ?_
  refine AllReadyH.cons (by rw [List.getElem?_toArray]; rfl) (fun Kn hK => ?_) AllReadyH.nil
  go_simp
  go_at_call 16
  with_reducible refine (HCy.out _).mono ?_
  rintro e w14 ⟨rfl, hb14⟩
  have HB14 := Lib.hid (Bel.call HB13.out hb14)
  replace HXS := Lib.hid (HXS.out.below hb14)
  replace HXT := Lib.hid (HXT.out.below hb14)
  replace HXX := Lib.hid (HXX.out.below hb14)
  replace HXY := Lib.hid (HXY.out.below hb14)
  replace HXZ := Lib.hid (HXZ.out.below hb14)
  clear hb14
  try dsimp only
  refine hK.out _ _ ⟨HXS.out, HXT.out, HXX.out, HXY.out, HXZ.out⟩ (fun hHeld => ?_)
  try simp only [Act.put, List.setIfInBounds_toArray, List.set_cons_zero, List.set_cons_succ]
  refine wpAnyH_take (i := 16) (v := ?_) (by rw [List.getElem?_toArray]; rfl) (by kernel_rfl) (by kernel_rfl) (by kernel_rfl) (by exact fun _ _ _ h => h) (Or.inl ⟨by rfl, ?_⟩) (by assumption) ?_
  rotate_left
  · intro w' hSw
    go_simp
    try with_reducible rfl
  try simp only [Act.put, List.setIfInBounds_toArray, List.set_cons_zero, List.set_cons_succ]
  refine wpAnyH_take (i := 22) (v := ?_) (by rw [List.getElem?_toArray]; rfl) (by kernel_rfl) (by kernel_rfl) (by kernel_rfl) (by exact fun _ _ _ h => h) (Or.inl ⟨by rfl, ?_⟩) (by assumption) ?_
  rotate_left
  · intro w' hSw
    go_simp
    try with_reducible rfl
  try simp only [Act.put, List.setIfInBounds_toArray, List.set_cons_zero, List.set_cons_succ]
  refine wpAnyH_take (i := 23) (v := ?_) (by rw [List.getElem?_toArray]; rfl) (by kernel_rfl) (by kernel_rfl) (by kernel_rfl) (by exact fun _ _ _ h => h) (Or.inl ⟨by rfl, ?_⟩) (by assumption) ?_
  rotate_left
  · intro w' hSw
    go_simp
    try with_reducible rfl
  try simp only [Act.put, List.setIfInBounds_toArray, List.set_cons_zero, List.set_cons_succ]
  refine wpAnyH_take (i := 24) (v := ?_) (by rw [List.getElem?_toArray]; rfl) (by kernel_rfl) (by kernel_rfl) (by kernel_rfl) (by exact fun _ _ _ h => h) (Or.inl ⟨by rfl, ?_⟩) (by assumption) ?_
  rotate_left
  · intro w' hSw
    go_simp
    try with_reducible rfl
  try simp only [Act.put, List.setIfInBounds_toArray, List.set_cons_zero, List.set_cons_succ]
  refine wpAnyH_take (i := 25) (v := ?_) (by rw [List.getElem?_toArray]; rfl) (by kernel_rfl) (by kernel_rfl) (by kernel_rfl) (by exact fun _ _ _ h => h) (Or.inl ⟨by rfl, ?_⟩) (by assumption) ?_
  rotate_left
  · intro w' hSw
    obtain ⟨⟨_, q00, q01, q02, q03, q04⟩, _⟩ := hSw.1
    obtain ⟨⟨_, q10, q11, q12, q13, q14⟩, _⟩ := hSw.2.1
    obtain ⟨⟨_, q20, q21, q22, q23, q24⟩, _⟩ := hSw.2.2.1
    obtain ⟨⟨_, q30, q31, q32, q33, q34⟩, _⟩ := hSw.2.2.2.1
    obtain ⟨⟨_, q40, q41, q42, q43, q44⟩, _⟩ := hSw.2.2.2.2
    go_simp
    try with_reducible rfl
  try simp only [Act.put, List.setIfInBounds_toArray, List.set_cons_zero, List.set_cons_succ]
  refine wpAnyH_take (i := 26) (v := ?_) (by rw [List.getElem?_toArray]; rfl) (by kernel_rfl) (by kernel_rfl) (by kernel_rfl) (by exact fun _ _ _ h => h) (Or.inl ⟨by rfl, ?_⟩) (by assumption) ?_
  rotate_left
  · intro w' hSw
    go_simp
    try with_reducible rfl
  try simp only [Act.put, List.setIfInBounds_toArray, List.set_cons_zero, List.set_cons_succ]
  refine wpAnyH_take (i := 27) (v := ?_) (by rw [List.getElem?_toArray]; rfl) (by kernel_rfl) (by kernel_rfl) (by kernel_rfl) (by exact fun _ _ _ h => h) (Or.inl ⟨by rfl, ?_⟩) (by assumption) ?_
  rotate_left
  · intro w' hSw
    go_simp
    try with_reducible rfl
  try simp only [Act.put, List.setIfInBounds_toArray, List.set_cons_zero, List.set_cons_succ]
  refine wpAnyH_take (i := 28) (v := ?_) (by rw [List.getElem?_toArray]; rfl) (by kernel_rfl) (by kernel_rfl) (by kernel_rfl) (by exact fun _ _ _ h => h) (Or.inl ⟨by rfl, ?_⟩) (by assumption) ?_
  rotate_left
  · intro w' hSw
    go_simp
    try with_reducible rfl
  try simp only [Act.put, List.setIfInBounds_toArray, List.set_cons_zero, List.set_cons_succ]
  refine wpAnyH_take (i := 31) (v := ?_) (by rw [List.getElem?_toArray]; rfl) (by kernel_rfl) (by kernel_rfl) (by kernel_rfl) (by exact fun _ _ _ h => h) (Or.inl ⟨by rfl, ?_⟩) (by assumption) ?_
  rotate_left
  · intro w' hSw
    go_simp
    try with_reducible rfl
  try simp only [Act.put, List.setIfInBounds_toArray, List.set_cons_zero, List.set_cons_succ]
  refine wpAnyH_take (i := 32) (v := ?_) (by rw [List.getElem?_toArray]; rfl) (by kernel_rfl) (by kernel_rfl) (by kernel_rfl) (by exact fun _ _ _ h => h) (Or.inl ⟨by rfl, ?_⟩) (by assumption) ?_
  rotate_left
  · intro w' hSw
    obtain ⟨⟨_, q00, q01, q02, q03, q04⟩, _⟩ := hSw.1
    obtain ⟨⟨_, q10, q11, q12, q13, q14⟩, _⟩ := hSw.2.1
    obtain ⟨⟨_, q20, q21, q22, q23, q24⟩, _⟩ := hSw.2.2.1
    obtain ⟨⟨_, q30, q31, q32, q33, q34⟩, _⟩ := hSw.2.2.2.1
    obtain ⟨⟨_, q40, q41, q42, q43, q44⟩, _⟩ := hSw.2.2.2.2
    go_simp
    try with_reducible rfl
  try simp only [Act.put, List.setIfInBounds_toArray, List.set_cons_zero, List.set_cons_succ]
  refine wpAnyH_take (i := 33) (v := ?_) (by rw [List.getElem?_toArray]; rfl) (by kernel_rfl) (by kernel_rfl) (by kernel_rfl) (by exact fun _ _ _ h => h) (Or.inl ⟨by rfl, ?_⟩) (by assumption) ?_
  rotate_left
  · intro w' hSw
    go_simp
    try with_reducible rfl
  try simp only [Act.put, List.setIfInBounds_toArray, List.set_cons_zero, List.set_cons_succ]
  refine wpAnyH_take (i := 34) (v := ?_) (by rw [List.getElem?_toArray]; rfl) (by kernel_rfl) (by kernel_rfl) (by kernel_rfl) (by exact fun _ _ _ h => h) (Or.inl ⟨by rfl, ?_⟩) (by assumption) ?_
  rotate_left
  · intro w' hSw
    obtain ⟨⟨_, q00, q01, q02, q03, q04⟩, _⟩ := hSw.1
    obtain ⟨⟨_, q10, q11, q12, q13, q14⟩, _⟩ := hSw.2.1
    obtain ⟨⟨_, q20, q21, q22, q23, q24⟩, _⟩ := hSw.2.2.1
    obtain ⟨⟨_, q30, q31, q32, q33, q34⟩, _⟩ := hSw.2.2.2.1
    obtain ⟨⟨_, q40, q41, q42, q43, q44⟩, _⟩ := hSw.2.2.2.2
    go_simp
    try with_reducible rfl
  try simp only [Act.put, List.setIfInBounds_toArray, List.set_cons_zero, List.set_cons_succ]
  refine wpAnyH_take (i := 35) (v := ?_) (by rw [List.getElem?_toArray]; rfl) (by kernel_rfl) (by kernel_rfl) (by kernel_rfl) (by exact fun _ _ _ h => h) (Or.inl ⟨by rfl, ?_⟩) (by assumption) ?_
  rotate_left
  · intro w' hSw
    go_simp
    try with_reducible rfl
  try simp only [Act.put, List.setIfInBounds_toArray, List.set_cons_zero, List.set_cons_succ]
  clear hHeld
  refine wpAnyH_ready (rs := [29]) (by kernel_rfl) (by simp) ?_
  refine AllReadyH.cons (by rw [List.getElem?_toArray]; rfl) (fun Kn hK => ?_) AllReadyH.nil
  go_simp
  go_at_call 16
  with_reducible refine (HCz.out _).mono ?_
  rintro e w15 ⟨rfl, hb15⟩
  have HB15 := Lib.hid (Bel.call HB14.out hb15)
  replace HXS := Lib.hid (HXS.out.below hb15)
  replace HXT := Lib.hid (HXT.out.below hb15)
  replace HXX := Lib.hid (HXX.out.below hb15)
  replace HXY := Lib.hid (HXY.out.below hb15)
  replace HXZ := Lib.hid (HXZ.out.below hb15)
  clear hb15
  try dsimp only
  refine hK.out _ _ ⟨HXS.out, HXT.out, HXX.out, HXY.out, HXZ.out⟩ (fun hHeld => ?_)
  try simp only [Act.put, List.setIfInBounds_toArray, List.set_cons_zero, List.set_cons_succ]
  refine wpAnyH_take (i := 30) (v := ?_) (by rw [List.getElem?_toArray]; rfl) (by kernel_rfl) (by kernel_rfl) (by kernel_rfl) (by exact fun _ _ _ h => h) (Or.inl ⟨by rfl, ?_⟩) (by assumption) ?_
  rotate_left
  · intro w' hSw
    go_simp
    try with_reducible rfl
  try simp only [Act.put, List.setIfInBounds_toArray, List.set_cons_zero, List.set_cons_succ]
  refine wpAnyH_take (i := 36) (v := ?_) (by rw [List.getElem?_toArray]; rfl) (by kernel_rfl) (by kernel_rfl) (by kernel_rfl) (by exact fun _ _ _ h => h) (Or.inl ⟨by rfl, ?_⟩) (by assumption) ?_
  rotate_left
  · intro w' hSw
    go_simp
    try with_reducible rfl
  try simp only [Act.put, List.setIfInBounds_toArray, List.set_cons_zero, List.set_cons_succ]
  refine wpAnyH_take (i := 37) (v := ?_) (by rw [List.getElem?_toArray]; rfl) (by kernel_rfl) (by kernel_rfl) (by kernel_rfl) (by exact fun _ _ _ h => h) (Or.inl ⟨by rfl, ?_⟩) (by assumption) ?_
  rotate_left
  · intro w' hSw
    go_simp
    try with_reducible rfl
  try simp only [Act.put, List.setIfInBounds_toArray, List.set_cons_zero, List.set_cons_succ]
  refine wpAnyH_take (i := 38) (v := ?_) (by rw [List.getElem?_toArray]; rfl) (by kernel_rfl) (by kernel_rfl) (by kernel_rfl) (by exact fun _ _ _ h => h) (Or.inl ⟨by rfl, ?_⟩) (by assumption) ?_
  rotate_left
  · intro w' hSw
    go_simp
    try with_reducible rfl
  try simp only [Act.put, List.setIfInBounds_toArray, List.set_cons_zero, List.set_cons_succ]
  refine wpAnyH_take (i := 39) (v := ?_) (by rw [List.getElem?_toArray]; rfl) (by kernel_rfl) (by kernel_rfl) (by kernel_rfl) (by exact fun _ _ _ h => h) (Or.inl ⟨by rfl, ?_⟩) (by assumption) ?_
  rotate_left
  · intro w' hSw
    go_simp
    try with_reducible rfl
  try simp only [Act.put, List.setIfInBounds_toArray, List.set_cons_zero, List.set_cons_succ]
  refine wpAnyH_take (i := 40) (v := ?_) (by rw [List.getElem?_toArray]; rfl) (by kernel_rfl) (by kernel_rfl) (by kernel_rfl) (by exact fun _ _ _ h => h) (Or.inl ⟨by rfl, ?_⟩) (by assumption) ?_
  rotate_left
  · intro w' hSw
    obtain ⟨⟨_, q00, q01, q02, q03, q04⟩, _⟩ := hSw.1
    obtain ⟨⟨_, q10, q11, q12, q13, q14⟩, _⟩ := hSw.2.1
    obtain ⟨⟨_, q20, q21, q22, q23, q24⟩, _⟩ := hSw.2.2.1
    obtain ⟨⟨_, q30, q31, q32, q33, q34⟩, _⟩ := hSw.2.2.2.1
    obtain ⟨⟨_, q40, q41, q42, q43, q44⟩, _⟩ := hSw.2.2.2.2
    go_simp
    try with_reducible rfl
  try simp only [Act.put, List.setIfInBounds_toArray, List.set_cons_zero, List.set_cons_succ]
  refine wpAnyH_take (i := 41) (v := ?_) (by rw [List.getElem?_toArray]; rfl) (by kernel_rfl) (by kernel_rfl) (by kernel_rfl) (by exact fun _ _ _ h => h) (Or.inl ⟨by rfl, ?_⟩) (by assumption) ?_
  rotate_left
  · intro w' hSw
    go_simp
    try with_reducible rfl
  try simp only [Act.put, List.setIfInBounds_toArray, List.set_cons_zero, List.set_cons_succ]
  clear hHeld
  refine wpAnyH_ready (rs := [42]) (by kernel_rfl) (by simp) ?_
  refine AllReadyH.cons (by rw [List.getElem?_toArray]; rfl) (fun Kn hK => ?_) AllReadyH.nil
  go_simp
  go_at_call 12
  with_reducible refine (HRO.out _ (HI.out.below HB15.out (Nat.le_refl _))).mono ?_
  rintro e w16 ⟨hx, hb16⟩
  have HB16 := Lib.hid (Bel.call HB15.out hb16)
  replace HXS := Lib.hid (HXS.out.below hb16)
  replace HXT := Lib.hid (HXT.out.below hb16)
  replace HXX := Lib.hid (HXX.out.below hb16)
  replace HXY := Lib.hid (HXY.out.below hb16)
  replace HXZ := Lib.hid (HXZ.out.below hb16)
  clear hb16
  obtain ⟨AW, cW, YW, hq, hc, hr, hb, rfl⟩ := Tre.ob_row hx
  have hWn : YW.length = n := HLN.out YW hq
  clear hx hq hc hr hb
  try dsimp only
  rw [hWn]
  refine hK.out _ _ ⟨HXS.out, HXT.out, HXX.out, HXY.out, HXZ.out⟩ (fun hHeld => ?_)
  try simp only [Act.put, List.setIfInBounds_toArray, List.set_cons_zero, List.set_cons_succ]
  refine wpAnyH_take (i := 43) (v := ?_) (by rw [List.getElem?_toArray]; rfl) (by kernel_rfl) (by kernel_rfl) (by kernel_rfl) (by exact fun _ _ _ h => h) (Or.inl ⟨by rfl, ?_⟩) (by assumption) ?_
  rotate_left
  · intro w' hSw
    go_simp
    try with_reducible rfl
  try simp only [Act.put, List.setIfInBounds_toArray, List.set_cons_zero, List.set_cons_succ]
  refine wpAnyH_take (i := 44) (v := ?_) (by rw [List.getElem?_toArray]; rfl) (by kernel_rfl) (by kernel_rfl) (by kernel_rfl) (by exact fun _ _ _ h => h) (Or.inl ⟨by rfl, ?_⟩) (by assumption) ?_
  rotate_left
  · intro w' hSw
    go_simp
    try with_reducible rfl
  try simp only [Act.put, List.setIfInBounds_toArray, List.set_cons_zero, List.set_cons_succ]
  refine wpAnyH_take (i := 45) (v := ?_) (by rw [List.getElem?_toArray]; rfl) (by kernel_rfl) (by kernel_rfl) (by kernel_rfl) (by exact fun _ _ _ h => h) (Or.inl ⟨by rfl, ?_⟩) (by assumption) ?_
  rotate_left
  · intro w' hSw
    go_simp
    try with_reducible rfl
  try simp only [Act.put, List.setIfInBounds_toArray, List.set_cons_zero, List.set_cons_succ]
  refine wpAnyH_take (i := 46) (v := ?_) (by rw [List.getElem?_toArray]; rfl) (by kernel_rfl) (by kernel_rfl) (by kernel_rfl) (by exact fun _ _ _ h => h) (Or.inl ⟨by rfl, ?_⟩) (by assumption) ?_
  rotate_left
  · intro w' hSw
    go_simp
    try with_reducible rfl
  try simp only [Act.put, List.setIfInBounds_toArray, List.set_cons_zero, List.set_cons_succ]
  refine wpAnyH_done (by kernel_rfl) ?_ _
  clear hHeld
  go_wp2
  go_ret
  exact ⟨rfl, HB16.out⟩
end Go.Proofs.Ytmmeklemaofmjaa.Frs
