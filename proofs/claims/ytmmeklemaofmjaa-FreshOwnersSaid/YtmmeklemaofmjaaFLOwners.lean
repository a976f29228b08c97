/-
  THE LAW FreshOwners, walked. By an AI agent; no person has read it.
-/
import Derived.Test.YtmmeklemaofmjaaFShown
namespace Go.Proofs.Ytmmeklemaofmjaa.Frs
open Go Go.RowKit Wire Term Draw Reg Clo

set_option linter.unusedSimpArgs false
set_option linter.unusedVariables false
set_option maxHeartbeats 8000000 in
set_option maxRecDepth 1000000 in
theorem owners_walk (a0 a1 : Int) (t : Nat) (A : Option Addr) (c : Nat) (z : List Int) (w : World) (h0 : -9223372036854775808 ≤ a0 ∧ a0 ≤ 9223372036854775807) (h1 : -9223372036854775808 ≤ a1 ∧ a1 ≤ 9223372036854775807) (ht : t < 18446744073709551616) (hr : IReads w A z) (hn : z.length ≤ 9223372036854775807) :
    Calls Try.prog 6 #[.int .i64 a0, .int .i64 a1, .int .u64 (t : Int), .slice A z.length c] w fun e w' => e = .returned (.bool true) ∧ Below w.heap.size w w' := by
  have HSH := Lib.hid fun w => shown_any w
  have HI := Lib.hid hr
  have HRO : Hid (∀ w', IReads w' A z → Calls Try.prog 12 #[.slice A z.length c] w' fun e w'' => Tre.Ob w' w'' (Tre.rowL z) e ∧ Below w'.heap.size w' w'') := Lib.hid fun w' h => Tre.row_any A c z w' h hn
  have HSM : Hid (Smalls (Tre.rowL z)) := Lib.hid Tre.rowL_small
  have h8 : (Tre.rowL z).length ≤ 8 := by rw [Tre.rowL_len]; omega
  have HW0 := Lib.hid fun w => Tre.who_any a0 w h0
  have HW1 := Lib.hid fun w => Tre.who_any a1 w h1
  have hp0 := Tre.pk_lt a0 (n := 8) (by decide)
  have hp1 := Tre.pk_lt a1 (n := 8) (by decide)
  have hOo := who_right hp0
  have hOf := who_l12 (Tre.pk a0 8)
  have hVo := who_right hp1
  have hVf := who_l12 (Tre.pk a1 8)
  have hUV : (Tre.whoN (Tre.pk a0 8)).data.toList = (Tre.whoN (Tre.pk a1 8)).data.toList ∨ (Tre.whoN (Tre.pk a0 8)).data.toList ≠ (Tre.whoN (Tre.pk a1 8)).data.toList := Classical.em _
  generalize Tre.whoN (Tre.pk a0 8) = O at HW0 hOo hOf hUV
  generalize Tre.whoN (Tre.pk a1 8) = V at HW1 hVo hVf hUV
  obtain ⟨R, G, hM⟩ := made_is (O := O) (t := t) (l := Tre.rowL z) (hOo) (hOf) ht h8 Tre.rowL_small
  obtain ⟨K, hK⟩ := letter_is (secU O.data.toList)
  obtain ⟨PU, hPU⟩ := letter_is (pubU O.data.toList)
  obtain ⟨PV, hPV⟩ := letter_is (pubU V.data.toList)
  have HS := Lib.hid fun w => sec_to (s := O) (by rw [Lib.size_eq]; exact hOf) hK w
  have HPU := Lib.hid fun w => pub_to (s := O) (by rw [Lib.size_eq]; exact hOf) hPU w
  have HPV := Lib.hid fun w => pub_to (s := V) (by rw [Lib.size_eq]; exact hVf) hPV w
  have HBD : Hid (∀ (A' : Option Addr) (c' : Nat) (ys : List ByteArray) (w' : World), bl ys = Tre.rowL z → (ys.length ≤ c' ∧ c' ≤ 9223372036854775807) → SReads w' A' ys → Calls Try.prog 10 #[.string K, .string O, .int .u64 (t : Int), .slice A' ys.length c'] w' fun e w'' => e = .returned (.tuple #[.agg #[.string O, .int .u64 (t : Int), .int .i64 ((Tre.rowL z).length : Int), .string R, .string G], .int .i64 0]) ∧ Below w'.heap.size w' w'') := Lib.hid fun A' c' ys w' hy hc hr => build_to hM hK hy HSM.out hc w' hr
  have HM := Lib.hid hM
  have HHP := Lib.hid hPU
  have HHV := Lib.hid hPV
  have HVF := Lib.hid hVf
  have HTT := Lib.hid ht
  have h8' := h8
  generalize (Tre.rowL z).length = n at HBD HM
  clear hr hp0 hp1 hOo hVo hM hPU hPV hK
  rcases hUV with he | he
  · by_cases hz : t = 0
    · have HCa : Hid (∀ w', Calls Try.prog 16 #[.agg #[.string O, .int .u64 (t : Int), .int .i64 (n : Int), .string R, .string G], .string PV, .string O, .int .u64 (t : Int), .int .u64 0] w' fun e w'' => e = .returned (.int .i64 0) ∧ Below w'.heap.size w' w'') := Lib.hid fun w' => mix_to HM.out (t' := t) (n' := n) (R' := R) HM.out.ok HTT.out (U := V) (P := PV) (Q := O) (HVF.out) HHV.out (now := t) (bound := 0) (by omega) (by decide) (v := 0) (by rw [if_pos ⟨he.symm, rfl, rfl, rfl⟩, if_neg (fun h => h rfl), if_neg (by omega)]) w'
      have HCb : Hid (∀ w', Calls Try.prog 16 #[.agg #[.string O, .int .u64 (t : Int), .int .i64 (n : Int), .string R, .string G], .string PV, .string V, .int .u64 (t : Int), .int .u64 0] w' fun e w'' => e = .returned (.int .i64 0) ∧ Below w'.heap.size w' w'') := Lib.hid fun w' => mix_to HM.out (t' := t) (n' := n) (R' := R) HM.out.ok HTT.out (U := V) (P := PV) (Q := V) (HVF.out) HHV.out (now := t) (bound := 0) (by omega) (by decide) (v := 0) (by rw [if_pos ⟨he.symm, rfl, rfl, rfl⟩, if_neg (fun h => h he), if_neg (by omega)]) w'
      have HCc : Hid (∀ w', Calls Try.prog 16 #[.agg #[.string O, .int .u64 (t : Int), .int .i64 (n : Int), .string R, .string G], .string PU, .string V, .int .u64 (t : Int), .int .u64 0] w' fun e w'' => e = .returned (.int .i64 0) ∧ Below w'.heap.size w' w'') := Lib.hid fun w' => mix_to HM.out (t' := t) (n' := n) (R' := R) HM.out.ok HTT.out (U := O) (P := PU) (Q := V) (HM.out.few) HHP.out (now := t) (bound := 0) (by omega) (by decide) (v := 0) (by rw [if_pos ⟨rfl, rfl, rfl, rfl⟩, if_neg (fun h => h he), if_neg (by omega)]) w'
      have hob := eq_bool he
      have ht0 : ¬ (0 : Int) < (t : Int) := by omega
      clear he hz HM HHP HHV HVF
      go_enter Try.func6, Try.ntmps6
      go_wp2_with fail
      with_reducible refine (HSH.out _).mono ?_
      rintro e w1 ⟨rfl, hb1⟩
      have HB1 := Lib.hid hb1
      replace HI := Lib.hid (HI.out.below hb1 (Nat.le_refl _))
      clear hb1
      try dsimp only
      go_wp2_with fail
      with_reducible refine (HW0.out _).mono ?_
      rintro e w2 ⟨rfl, hb2⟩
      have HB2 := Lib.hid (Bel.call HB1.out hb2)
      replace HI := Lib.hid (HI.out.below hb2 (Nat.le_refl _))
      clear hb2
      try dsimp only
      go_wp2_with fail
      with_reducible refine (HW1.out _).mono ?_
      rintro e w3 ⟨rfl, hb3⟩
      have HB3 := Lib.hid (Bel.call HB2.out hb3)
      replace HI := Lib.hid (HI.out.below hb3 (Nat.le_refl _))
      clear hb3
      try dsimp only
      go_wp2_with fail
      with_reducible refine (HS.out _).mono ?_
      rintro e w4 ⟨rfl, hb4⟩
      have HB4 := Lib.hid (Bel.call HB3.out hb4)
      replace HI := Lib.hid (HI.out.below hb4 (Nat.le_refl _))
      clear hb4
      try dsimp only
      go_wp2_with fail
      with_reducible refine (HRO.out _ HI.out).mono ?_
      rintro e w5 ⟨hx, hb5⟩
      have HB5 := Lib.hid (Bel.call HB4.out hb5)
      replace HI := Lib.hid (HI.out.below hb5 (Nat.le_refl _))
      clear hb5
      obtain ⟨AX, cX, YX, hq, hc, hr, hb, rfl⟩ := Tre.ob_row hx
      have HQX := Lib.hid hq
      have HCX := Lib.hid hc
      have HRX := Lib.hid hr
      clear hx hq hc hr hb
      try dsimp only
      go_wp2_with fail
      with_reducible refine (HBD.out AX cX YX _ HQX.out HCX.out HRX.out).mono ?_
      rintro e w6 ⟨rfl, hb6⟩
      have HB6 := Lib.hid (Bel.call HB5.out hb6)
      replace HI := Lib.hid (HI.out.below hb6 (Nat.le_refl _))
      replace HRX := Lib.hid (HRX.out.below hb6 (Nat.le_refl _))
      clear hb6
      try dsimp only
      clear HRX HI
      go_wp2_with fail
      have hbS : Below w6.heap.size w6 (w6.alloc (.cells #[.string O, .int .u64 (t : Int), .int .i64 (n : Int), .string R, .string G] 27)) := (Below.refl w6.heap.size w6).alloc (Nat.le_refl _) _
      have hxS := c5_new w6 (.string O) (.int .u64 (t : Int)) (.int .i64 (n : Int)) (.string R) (.string G) 27
      generalize w6.alloc (.cells #[.string O, .int .u64 (t : Int), .int .i64 (n : Int), .string R, .string G] 27) = wSS at hbS hxS ⊢
      have HB7 := Lib.hid (Bel.call HB6.out hbS)
      have HXS := Lib.hid hxS
      clear hbS hxS
      go_wp2_with fail
      have hdr : C5 w6.heap.size wSS.drew (.string O) (.int .u64 (t : Int)) (.int .i64 (n : Int)) (.string R) (.string G) ∧ Below wSS.heap.size wSS wSS.drew := ⟨HXS.out.below (Below.drewN' (Below.refl wSS.heap.size wSS) 1), (Below.drewN' (Below.refl wSS.heap.size wSS) 1)⟩
      refine Ord.region_lit (S := fun w' => C5 w6.heap.size w' (.string O) (.int .u64 (t : Int)) (.int .i64 (n : Int)) (.string R) (.string G) ∧ Below wSS.heap.size wSS w') (by kernel_rfl) (by kernel_rfl) hdr ?_
      clear hdr
      refine Ord.stepR (v := ?_) (by rfl) ?_ ?_
      rotate_left
      · intro w' hSw
        obtain ⟨⟨_, q00, q01, q02, q03, q04⟩, _⟩ := hSw.1
        go_simp
        try with_reducible rfl
      try simp only [Act.put, List.setIfInBounds_toArray, List.set_cons_zero, List.set_cons_succ]
      refine Ord.stepR (v := ?_) (by rfl) ?_ ?_
      rotate_left
      · intro w' hSw
        go_simp
        try with_reducible rfl
      try simp only [Act.put, List.setIfInBounds_toArray, List.set_cons_zero, List.set_cons_succ]
      refine Ord.stepC (v := .string PV) (by rfl) ?_ (fun w1 hS => (HPV.out w1).mono fun e w2 h => ⟨h.1, ⟨hS.1.below (h.2), hS.2.trans ((h.2).mono hS.2.size)⟩⟩) ?_
      · intro w' hSw
        go_simp
        try with_reducible rfl
      try simp only [Act.put, List.setIfInBounds_toArray, List.set_cons_zero, List.set_cons_succ]
      refine Ord.stepR (v := ?_) (by rfl) ?_ ?_
      rotate_left
      · intro w' hSw
        go_simp
        try with_reducible rfl
      try simp only [Act.put, List.setIfInBounds_toArray, List.set_cons_zero, List.set_cons_succ]
      refine Ord.stepR (v := ?_) (by rfl) ?_ ?_
      rotate_left
      · intro w' hSw
        go_simp
        try with_reducible rfl
      try simp only [Act.put, List.setIfInBounds_toArray, List.set_cons_zero, List.set_cons_succ]
      refine Ord.stepC (v := .int .i64 0) (by rfl) ?_ (fun w1 hS => (HCa.out w1).mono fun e w2 h => ⟨h.1, ⟨hS.1.below (h.2), hS.2.trans ((h.2).mono hS.2.size)⟩⟩) ?_
      · intro w' hSw
        go_simp
        try with_reducible rfl
      try simp only [Act.put, List.setIfInBounds_toArray, List.set_cons_zero, List.set_cons_succ]
      refine Ord.stepR (v := ?_) (by rfl) ?_ ?_
      rotate_left
      · intro w' hSw
        go_simp
        try with_reducible rfl
      try simp only [Act.put, List.setIfInBounds_toArray, List.set_cons_zero, List.set_cons_succ]
      refine Ord.stepD fun Z1 hZ => ?_
      replace HXS := Lib.hid hZ.1
      have HB8 := Lib.hid (Bel.call HB7.out hZ.2)
      clear hZ
      go_wp2_with fail
      have hdr : C5 w6.heap.size Z1.drew (.string O) (.int .u64 (t : Int)) (.int .i64 (n : Int)) (.string R) (.string G) ∧ Below Z1.heap.size Z1 Z1.drew := ⟨HXS.out.below (Below.drewN' (Below.refl Z1.heap.size Z1) 1), (Below.drewN' (Below.refl Z1.heap.size Z1) 1)⟩
      refine Ord.region_lit (S := fun w' => C5 w6.heap.size w' (.string O) (.int .u64 (t : Int)) (.int .i64 (n : Int)) (.string R) (.string G) ∧ Below Z1.heap.size Z1 w') (by kernel_rfl) (by kernel_rfl) hdr ?_
      clear hdr
      refine Ord.stepR (v := ?_) (by rfl) ?_ ?_
      rotate_left
      · intro w' hSw
        obtain ⟨⟨_, q00, q01, q02, q03, q04⟩, _⟩ := hSw.1
        go_simp
        try with_reducible rfl
      try simp only [Act.put, List.setIfInBounds_toArray, List.set_cons_zero, List.set_cons_succ]
      refine Ord.stepR (v := ?_) (by rfl) ?_ ?_
      rotate_left
      · intro w' hSw
        go_simp
        try with_reducible rfl
      try simp only [Act.put, List.setIfInBounds_toArray, List.set_cons_zero, List.set_cons_succ]
      refine Ord.stepC (v := .string PV) (by rfl) ?_ (fun w1 hS => (HPV.out w1).mono fun e w2 h => ⟨h.1, ⟨hS.1.below (h.2), hS.2.trans ((h.2).mono hS.2.size)⟩⟩) ?_
      · intro w' hSw
        go_simp
        try with_reducible rfl
      try simp only [Act.put, List.setIfInBounds_toArray, List.set_cons_zero, List.set_cons_succ]
      refine Ord.stepR (v := ?_) (by rfl) ?_ ?_
      rotate_left
      · intro w' hSw
        go_simp
        try with_reducible rfl
      try simp only [Act.put, List.setIfInBounds_toArray, List.set_cons_zero, List.set_cons_succ]
      refine Ord.stepR (v := ?_) (by rfl) ?_ ?_
      rotate_left
      · intro w' hSw
        go_simp
        try with_reducible rfl
      try simp only [Act.put, List.setIfInBounds_toArray, List.set_cons_zero, List.set_cons_succ]
      refine Ord.stepC (v := .int .i64 0) (by rfl) ?_ (fun w1 hS => (HCb.out w1).mono fun e w2 h => ⟨h.1, ⟨hS.1.below (h.2), hS.2.trans ((h.2).mono hS.2.size)⟩⟩) ?_
      · intro w' hSw
        go_simp
        try with_reducible rfl
      try simp only [Act.put, List.setIfInBounds_toArray, List.set_cons_zero, List.set_cons_succ]
      refine Ord.stepR (v := ?_) (by rfl) ?_ ?_
      rotate_left
      · intro w' hSw
        go_simp
        try with_reducible rfl
      try simp only [Act.put, List.setIfInBounds_toArray, List.set_cons_zero, List.set_cons_succ]
      refine Ord.stepD fun Z2 hZ => ?_
      replace HXS := Lib.hid hZ.1
      have HB9 := Lib.hid (Bel.call HB8.out hZ.2)
      clear hZ
      go_wp2_with fail
      have hdr : C5 w6.heap.size Z2.drew (.string O) (.int .u64 (t : Int)) (.int .i64 (n : Int)) (.string R) (.string G) ∧ Below Z2.heap.size Z2 Z2.drew := ⟨HXS.out.below (Below.drewN' (Below.refl Z2.heap.size Z2) 1), (Below.drewN' (Below.refl Z2.heap.size Z2) 1)⟩
      refine Ord.region_lit (S := fun w' => C5 w6.heap.size w' (.string O) (.int .u64 (t : Int)) (.int .i64 (n : Int)) (.string R) (.string G) ∧ Below Z2.heap.size Z2 w') (by kernel_rfl) (by kernel_rfl) hdr ?_
      clear hdr
      refine Ord.stepR (v := ?_) (by rfl) ?_ ?_
      rotate_left
      · intro w' hSw
        obtain ⟨⟨_, q00, q01, q02, q03, q04⟩, _⟩ := hSw.1
        go_simp
        try with_reducible rfl
      try simp only [Act.put, List.setIfInBounds_toArray, List.set_cons_zero, List.set_cons_succ]
      refine Ord.stepR (v := ?_) (by rfl) ?_ ?_
      rotate_left
      · intro w' hSw
        go_simp
        try with_reducible rfl
      try simp only [Act.put, List.setIfInBounds_toArray, List.set_cons_zero, List.set_cons_succ]
      refine Ord.stepC (v := .string PU) (by rfl) ?_ (fun w1 hS => (HPU.out w1).mono fun e w2 h => ⟨h.1, ⟨hS.1.below (h.2), hS.2.trans ((h.2).mono hS.2.size)⟩⟩) ?_
      · intro w' hSw
        go_simp
        try with_reducible rfl
      try simp only [Act.put, List.setIfInBounds_toArray, List.set_cons_zero, List.set_cons_succ]
      refine Ord.stepR (v := ?_) (by rfl) ?_ ?_
      rotate_left
      · intro w' hSw
        go_simp
        try with_reducible rfl
      try simp only [Act.put, List.setIfInBounds_toArray, List.set_cons_zero, List.set_cons_succ]
      refine Ord.stepR (v := ?_) (by rfl) ?_ ?_
      rotate_left
      · intro w' hSw
        go_simp
        try with_reducible rfl
      try simp only [Act.put, List.setIfInBounds_toArray, List.set_cons_zero, List.set_cons_succ]
      refine Ord.stepC (v := .int .i64 0) (by rfl) ?_ (fun w1 hS => (HCc.out w1).mono fun e w2 h => ⟨h.1, ⟨hS.1.below (h.2), hS.2.trans ((h.2).mono hS.2.size)⟩⟩) ?_
      · intro w' hSw
        go_simp
        try with_reducible rfl
      try simp only [Act.put, List.setIfInBounds_toArray, List.set_cons_zero, List.set_cons_succ]
      refine Ord.stepR (v := ?_) (by rfl) ?_ ?_
      rotate_left
      · intro w' hSw
        go_simp
        try with_reducible rfl
      try simp only [Act.put, List.setIfInBounds_toArray, List.set_cons_zero, List.set_cons_succ]
      refine Ord.stepD fun Z3 hZ => ?_
      replace HXS := Lib.hid hZ.1
      have HB10 := Lib.hid (Bel.call HB9.out hZ.2)
      clear hZ
      go_wp2
      go_ret
      exact ⟨rfl, HB10.out⟩
    · have HCa : Hid (∀ w', Calls Try.prog 16 #[.agg #[.string O, .int .u64 (t : Int), .int .i64 (n : Int), .string R, .string G], .string PV, .string O, .int .u64 (t : Int), .int .u64 0] w' fun e w'' => e = .returned (.int .i64 0) ∧ Below w'.heap.size w' w'') := Lib.hid fun w' => mix_to HM.out (t' := t) (n' := n) (R' := R) HM.out.ok HTT.out (U := V) (P := PV) (Q := O) (HVF.out) HHV.out (now := t) (bound := 0) (by omega) (by decide) (v := 0) (by rw [if_pos ⟨he.symm, rfl, rfl, rfl⟩, if_neg (fun h => h rfl), if_neg (by omega)]) w'
      have HCb : Hid (∀ w', Calls Try.prog 16 #[.agg #[.string O, .int .u64 (t : Int), .int .i64 (n : Int), .string R, .string G], .string PV, .string V, .int .u64 ((t - 1 : Nat) : Int), .int .u64 0] w' fun e w'' => e = .returned (.int .i64 8) ∧ Below w'.heap.size w' w'') := Lib.hid fun w' => mix_to HM.out (t' := t) (n' := n) (R' := R) HM.out.ok HTT.out (U := V) (P := PV) (Q := V) (HVF.out) HHV.out (now := (t - 1)) (bound := 0) (by omega) (by decide) (v := 8) (by rw [if_pos ⟨he.symm, rfl, rfl, rfl⟩, if_neg (fun h => h he), if_pos (by omega)]) w'
      have HCc : Hid (∀ w', Calls Try.prog 16 #[.agg #[.string O, .int .u64 (t : Int), .int .i64 (n : Int), .string R, .string G], .string PU, .string V, .int .u64 ((t - 1 : Nat) : Int), .int .u64 0] w' fun e w'' => e = .returned (.int .i64 8) ∧ Below w'.heap.size w' w'') := Lib.hid fun w' => mix_to HM.out (t' := t) (n' := n) (R' := R) HM.out.ok HTT.out (U := O) (P := PU) (Q := V) (HM.out.few) HHP.out (now := (t - 1)) (bound := 0) (by omega) (by decide) (v := 8) (by rw [if_pos ⟨rfl, rfl, rfl, rfl⟩, if_neg (fun h => h he), if_pos (by omega)]) w'
      have hob := eq_bool he
      have ht0 : (0 : Int) < (t : Int) := by omega
      have hsub : IntKind.u64.wrap ((t : Int) - 1) = ((t - 1 : Nat) : Int) := by rw [IntKind.wrap_u64]; omega
      clear he hz HM HHP HHV HVF
      go_enter Try.func6, Try.ntmps6
      go_wp2_with fail
      with_reducible refine (HSH.out _).mono ?_
      rintro e w1 ⟨rfl, hb1⟩
      have HB1 := Lib.hid hb1
      replace HI := Lib.hid (HI.out.below hb1 (Nat.le_refl _))
      clear hb1
      try dsimp only
      go_wp2_with fail
      with_reducible refine (HW0.out _).mono ?_
      rintro e w2 ⟨rfl, hb2⟩
      have HB2 := Lib.hid (Bel.call HB1.out hb2)
      replace HI := Lib.hid (HI.out.below hb2 (Nat.le_refl _))
      clear hb2
      try dsimp only
      go_wp2_with fail
      with_reducible refine (HW1.out _).mono ?_
      rintro e w3 ⟨rfl, hb3⟩
      have HB3 := Lib.hid (Bel.call HB2.out hb3)
      replace HI := Lib.hid (HI.out.below hb3 (Nat.le_refl _))
      clear hb3
      try dsimp only
      go_wp2_with fail
      with_reducible refine (HS.out _).mono ?_
      rintro e w4 ⟨rfl, hb4⟩
      have HB4 := Lib.hid (Bel.call HB3.out hb4)
      replace HI := Lib.hid (HI.out.below hb4 (Nat.le_refl _))
      clear hb4
      try dsimp only
      go_wp2_with fail
      with_reducible refine (HRO.out _ HI.out).mono ?_
      rintro e w5 ⟨hx, hb5⟩
      have HB5 := Lib.hid (Bel.call HB4.out hb5)
      replace HI := Lib.hid (HI.out.below hb5 (Nat.le_refl _))
      clear hb5
      obtain ⟨AX, cX, YX, hq, hc, hr, hb, rfl⟩ := Tre.ob_row hx
      have HQX := Lib.hid hq
      have HCX := Lib.hid hc
      have HRX := Lib.hid hr
      clear hx hq hc hr hb
      try dsimp only
      go_wp2_with fail
      with_reducible refine (HBD.out AX cX YX _ HQX.out HCX.out HRX.out).mono ?_
      rintro e w6 ⟨rfl, hb6⟩
      have HB6 := Lib.hid (Bel.call HB5.out hb6)
      replace HI := Lib.hid (HI.out.below hb6 (Nat.le_refl _))
      replace HRX := Lib.hid (HRX.out.below hb6 (Nat.le_refl _))
      clear hb6
      try dsimp only
      clear HRX HI
      go_wp2_with fail
      have hbS : Below w6.heap.size w6 (w6.alloc (.cells #[.string O, .int .u64 (t : Int), .int .i64 (n : Int), .string R, .string G] 27)) := (Below.refl w6.heap.size w6).alloc (Nat.le_refl _) _
      have hxS := c5_new w6 (.string O) (.int .u64 (t : Int)) (.int .i64 (n : Int)) (.string R) (.string G) 27
      generalize w6.alloc (.cells #[.string O, .int .u64 (t : Int), .int .i64 (n : Int), .string R, .string G] 27) = wSS at hbS hxS ⊢
      have HB7 := Lib.hid (Bel.call HB6.out hbS)
      have HXS := Lib.hid hxS
      clear hbS hxS
      go_wp2_with fail
      have hdr : C5 w6.heap.size wSS.drew (.string O) (.int .u64 (t : Int)) (.int .i64 (n : Int)) (.string R) (.string G) ∧ Below wSS.heap.size wSS wSS.drew := ⟨HXS.out.below (Below.drewN' (Below.refl wSS.heap.size wSS) 1), (Below.drewN' (Below.refl wSS.heap.size wSS) 1)⟩
      refine Ord.region_lit (S := fun w' => C5 w6.heap.size w' (.string O) (.int .u64 (t : Int)) (.int .i64 (n : Int)) (.string R) (.string G) ∧ Below wSS.heap.size wSS w') (by kernel_rfl) (by kernel_rfl) hdr ?_
      clear hdr
      refine Ord.stepR (v := ?_) (by rfl) ?_ ?_
      rotate_left
      · intro w' hSw
        obtain ⟨⟨_, q00, q01, q02, q03, q04⟩, _⟩ := hSw.1
        go_simp
        try with_reducible rfl
      try simp only [Act.put, List.setIfInBounds_toArray, List.set_cons_zero, List.set_cons_succ]
      refine Ord.stepR (v := ?_) (by rfl) ?_ ?_
      rotate_left
      · intro w' hSw
        go_simp
        try with_reducible rfl
      try simp only [Act.put, List.setIfInBounds_toArray, List.set_cons_zero, List.set_cons_succ]
      refine Ord.stepC (v := .string PV) (by rfl) ?_ (fun w1 hS => (HPV.out w1).mono fun e w2 h => ⟨h.1, ⟨hS.1.below (h.2), hS.2.trans ((h.2).mono hS.2.size)⟩⟩) ?_
      · intro w' hSw
        go_simp
        try with_reducible rfl
      try simp only [Act.put, List.setIfInBounds_toArray, List.set_cons_zero, List.set_cons_succ]
      refine Ord.stepR (v := ?_) (by rfl) ?_ ?_
      rotate_left
      · intro w' hSw
        go_simp
        try with_reducible rfl
      try simp only [Act.put, List.setIfInBounds_toArray, List.set_cons_zero, List.set_cons_succ]
      refine Ord.stepR (v := ?_) (by rfl) ?_ ?_
      rotate_left
      · intro w' hSw
        go_simp
        try with_reducible rfl
      try simp only [Act.put, List.setIfInBounds_toArray, List.set_cons_zero, List.set_cons_succ]
      refine Ord.stepC (v := .int .i64 0) (by rfl) ?_ (fun w1 hS => (HCa.out w1).mono fun e w2 h => ⟨h.1, ⟨hS.1.below (h.2), hS.2.trans ((h.2).mono hS.2.size)⟩⟩) ?_
      · intro w' hSw
        go_simp
        try with_reducible rfl
      try simp only [Act.put, List.setIfInBounds_toArray, List.set_cons_zero, List.set_cons_succ]
      refine Ord.stepR (v := ?_) (by rfl) ?_ ?_
      rotate_left
      · intro w' hSw
        go_simp
        try with_reducible rfl
      try simp only [Act.put, List.setIfInBounds_toArray, List.set_cons_zero, List.set_cons_succ]
      refine Ord.stepD fun Z1 hZ => ?_
      replace HXS := Lib.hid hZ.1
      have HB8 := Lib.hid (Bel.call HB7.out hZ.2)
      clear hZ
      go_wp2_with fail
      have hdr : C5 w6.heap.size Z1.drew (.string O) (.int .u64 (t : Int)) (.int .i64 (n : Int)) (.string R) (.string G) ∧ Below Z1.heap.size Z1 Z1.drew := ⟨HXS.out.below (Below.drewN' (Below.refl Z1.heap.size Z1) 1), (Below.drewN' (Below.refl Z1.heap.size Z1) 1)⟩
      refine Ord.region_lit (S := fun w' => C5 w6.heap.size w' (.string O) (.int .u64 (t : Int)) (.int .i64 (n : Int)) (.string R) (.string G) ∧ Below Z1.heap.size Z1 w') (by kernel_rfl) (by kernel_rfl) hdr ?_
      clear hdr
      refine Ord.stepR (v := ?_) (by rfl) ?_ ?_
      rotate_left
      · intro w' hSw
        obtain ⟨⟨_, q00, q01, q02, q03, q04⟩, _⟩ := hSw.1
        go_simp
        try with_reducible rfl
      try simp only [Act.put, List.setIfInBounds_toArray, List.set_cons_zero, List.set_cons_succ]
      refine Ord.stepR (v := ?_) (by rfl) ?_ ?_
      rotate_left
      · intro w' hSw
        go_simp
        try with_reducible rfl
      try simp only [Act.put, List.setIfInBounds_toArray, List.set_cons_zero, List.set_cons_succ]
      refine Ord.stepC (v := .string PV) (by rfl) ?_ (fun w1 hS => (HPV.out w1).mono fun e w2 h => ⟨h.1, ⟨hS.1.below (h.2), hS.2.trans ((h.2).mono hS.2.size)⟩⟩) ?_
      · intro w' hSw
        go_simp
        try with_reducible rfl
      try simp only [Act.put, List.setIfInBounds_toArray, List.set_cons_zero, List.set_cons_succ]
      refine Ord.stepR (v := ?_) (by rfl) ?_ ?_
      rotate_left
      · intro w' hSw
        go_simp
        try with_reducible rfl
      try simp only [Act.put, List.setIfInBounds_toArray, List.set_cons_zero, List.set_cons_succ]
      refine Ord.stepR (v := ?_) (by rfl) ?_ ?_
      rotate_left
      · intro w' hSw
        go_simp
        try with_reducible rfl
      try simp only [Act.put, List.setIfInBounds_toArray, List.set_cons_zero, List.set_cons_succ]
      refine Ord.stepC (v := .int .i64 8) (by rfl) ?_ (fun w1 hS => (HCb.out w1).mono fun e w2 h => ⟨h.1, ⟨hS.1.below (h.2), hS.2.trans ((h.2).mono hS.2.size)⟩⟩) ?_
      · intro w' hSw
        go_simp
        try with_reducible rfl
      try simp only [Act.put, List.setIfInBounds_toArray, List.set_cons_zero, List.set_cons_succ]
      refine Ord.stepR (v := ?_) (by rfl) ?_ ?_
      rotate_left
      · intro w' hSw
        go_simp
        try with_reducible rfl
      try simp only [Act.put, List.setIfInBounds_toArray, List.set_cons_zero, List.set_cons_succ]
      refine Ord.stepD fun Z2 hZ => ?_
      replace HXS := Lib.hid hZ.1
      have HB9 := Lib.hid (Bel.call HB8.out hZ.2)
      clear hZ
      go_wp2_with fail
      have hdr : C5 w6.heap.size Z2.drew (.string O) (.int .u64 (t : Int)) (.int .i64 (n : Int)) (.string R) (.string G) ∧ Below Z2.heap.size Z2 Z2.drew := ⟨HXS.out.below (Below.drewN' (Below.refl Z2.heap.size Z2) 1), (Below.drewN' (Below.refl Z2.heap.size Z2) 1)⟩
      refine Ord.region_lit (S := fun w' => C5 w6.heap.size w' (.string O) (.int .u64 (t : Int)) (.int .i64 (n : Int)) (.string R) (.string G) ∧ Below Z2.heap.size Z2 w') (by kernel_rfl) (by kernel_rfl) hdr ?_
      clear hdr
      refine Ord.stepR (v := ?_) (by rfl) ?_ ?_
      rotate_left
      · intro w' hSw
        obtain ⟨⟨_, q00, q01, q02, q03, q04⟩, _⟩ := hSw.1
        go_simp
        try with_reducible rfl
      try simp only [Act.put, List.setIfInBounds_toArray, List.set_cons_zero, List.set_cons_succ]
      refine Ord.stepR (v := ?_) (by rfl) ?_ ?_
      rotate_left
      · intro w' hSw
        go_simp
        try with_reducible rfl
      try simp only [Act.put, List.setIfInBounds_toArray, List.set_cons_zero, List.set_cons_succ]
      refine Ord.stepC (v := .string PU) (by rfl) ?_ (fun w1 hS => (HPU.out w1).mono fun e w2 h => ⟨h.1, ⟨hS.1.below (h.2), hS.2.trans ((h.2).mono hS.2.size)⟩⟩) ?_
      · intro w' hSw
        go_simp
        try with_reducible rfl
      try simp only [Act.put, List.setIfInBounds_toArray, List.set_cons_zero, List.set_cons_succ]
      refine Ord.stepR (v := ?_) (by rfl) ?_ ?_
      rotate_left
      · intro w' hSw
        go_simp
        try with_reducible rfl
      try simp only [Act.put, List.setIfInBounds_toArray, List.set_cons_zero, List.set_cons_succ]
      refine Ord.stepR (v := ?_) (by rfl) ?_ ?_
      rotate_left
      · intro w' hSw
        go_simp
        try with_reducible rfl
      try simp only [Act.put, List.setIfInBounds_toArray, List.set_cons_zero, List.set_cons_succ]
      refine Ord.stepC (v := .int .i64 8) (by rfl) ?_ (fun w1 hS => (HCc.out w1).mono fun e w2 h => ⟨h.1, ⟨hS.1.below (h.2), hS.2.trans ((h.2).mono hS.2.size)⟩⟩) ?_
      · intro w' hSw
        go_simp
        try with_reducible rfl
      try simp only [Act.put, List.setIfInBounds_toArray, List.set_cons_zero, List.set_cons_succ]
      refine Ord.stepR (v := ?_) (by rfl) ?_ ?_
      rotate_left
      · intro w' hSw
        go_simp
        try with_reducible rfl
      try simp only [Act.put, List.setIfInBounds_toArray, List.set_cons_zero, List.set_cons_succ]
      refine Ord.stepD fun Z3 hZ => ?_
      replace HXS := Lib.hid hZ.1
      have HB10 := Lib.hid (Bel.call HB9.out hZ.2)
      clear hZ
      go_wp2
      go_ret
      exact ⟨rfl, HB10.out⟩
  · by_cases hz : t = 0
    · have HCa : Hid (∀ w', Calls Try.prog 16 #[.agg #[.string O, .int .u64 (t : Int), .int .i64 (n : Int), .string R, .string G], .string PV, .string O, .int .u64 (t : Int), .int .u64 0] w' fun e w'' => e = .returned (.int .i64 7) ∧ Below w'.heap.size w' w'') := Lib.hid fun w' => mix_to HM.out (t' := t) (n' := n) (R' := R) HM.out.ok HTT.out (U := V) (P := PV) (Q := O) (HVF.out) HHV.out (now := t) (bound := 0) (by omega) (by decide) (v := 7) (by rw [if_neg (fun h => he h.1.symm)]) w'
      have HCb : Hid (∀ w', Calls Try.prog 16 #[.agg #[.string O, .int .u64 (t : Int), .int .i64 (n : Int), .string R, .string G], .string PV, .string V, .int .u64 (t : Int), .int .u64 0] w' fun e w'' => e = .returned (.int .i64 7) ∧ Below w'.heap.size w' w'') := Lib.hid fun w' => mix_to HM.out (t' := t) (n' := n) (R' := R) HM.out.ok HTT.out (U := V) (P := PV) (Q := V) (HVF.out) HHV.out (now := t) (bound := 0) (by omega) (by decide) (v := 7) (by rw [if_neg (fun h => he h.1.symm)]) w'
      have HCc : Hid (∀ w', Calls Try.prog 16 #[.agg #[.string O, .int .u64 (t : Int), .int .i64 (n : Int), .string R, .string G], .string PU, .string V, .int .u64 (t : Int), .int .u64 0] w' fun e w'' => e = .returned (.int .i64 3) ∧ Below w'.heap.size w' w'') := Lib.hid fun w' => mix_to HM.out (t' := t) (n' := n) (R' := R) HM.out.ok HTT.out (U := O) (P := PU) (Q := V) (HM.out.few) HHP.out (now := t) (bound := 0) (by omega) (by decide) (v := 3) (by rw [if_pos ⟨rfl, rfl, rfl, rfl⟩, if_pos he]) w'
      have hob := ne_bool he
      have ht0 : ¬ (0 : Int) < (t : Int) := by omega
      clear he hz HM HHP HHV HVF
      go_enter Try.func6, Try.ntmps6
      go_wp2_with fail
      with_reducible refine (HSH.out _).mono ?_
      rintro e w1 ⟨rfl, hb1⟩
      have HB1 := Lib.hid hb1
      replace HI := Lib.hid (HI.out.below hb1 (Nat.le_refl _))
      clear hb1
      try dsimp only
      go_wp2_with fail
      with_reducible refine (HW0.out _).mono ?_
      rintro e w2 ⟨rfl, hb2⟩
      have HB2 := Lib.hid (Bel.call HB1.out hb2)
      replace HI := Lib.hid (HI.out.below hb2 (Nat.le_refl _))
      clear hb2
      try dsimp only
      go_wp2_with fail
      with_reducible refine (HW1.out _).mono ?_
      rintro e w3 ⟨rfl, hb3⟩
      have HB3 := Lib.hid (Bel.call HB2.out hb3)
      replace HI := Lib.hid (HI.out.below hb3 (Nat.le_refl _))
      clear hb3
      try dsimp only
      go_wp2_with fail
      with_reducible refine (HS.out _).mono ?_
      rintro e w4 ⟨rfl, hb4⟩
      have HB4 := Lib.hid (Bel.call HB3.out hb4)
      replace HI := Lib.hid (HI.out.below hb4 (Nat.le_refl _))
      clear hb4
      try dsimp only
      go_wp2_with fail
      with_reducible refine (HRO.out _ HI.out).mono ?_
      rintro e w5 ⟨hx, hb5⟩
      have HB5 := Lib.hid (Bel.call HB4.out hb5)
      replace HI := Lib.hid (HI.out.below hb5 (Nat.le_refl _))
      clear hb5
      obtain ⟨AX, cX, YX, hq, hc, hr, hb, rfl⟩ := Tre.ob_row hx
      have HQX := Lib.hid hq
      have HCX := Lib.hid hc
      have HRX := Lib.hid hr
      clear hx hq hc hr hb
      try dsimp only
      go_wp2_with fail
      with_reducible refine (HBD.out AX cX YX _ HQX.out HCX.out HRX.out).mono ?_
      rintro e w6 ⟨rfl, hb6⟩
      have HB6 := Lib.hid (Bel.call HB5.out hb6)
      replace HI := Lib.hid (HI.out.below hb6 (Nat.le_refl _))
      replace HRX := Lib.hid (HRX.out.below hb6 (Nat.le_refl _))
      clear hb6
      try dsimp only
      clear HRX HI
      go_wp2_with fail
      have hbS : Below w6.heap.size w6 (w6.alloc (.cells #[.string O, .int .u64 (t : Int), .int .i64 (n : Int), .string R, .string G] 27)) := (Below.refl w6.heap.size w6).alloc (Nat.le_refl _) _
      have hxS := c5_new w6 (.string O) (.int .u64 (t : Int)) (.int .i64 (n : Int)) (.string R) (.string G) 27
      generalize w6.alloc (.cells #[.string O, .int .u64 (t : Int), .int .i64 (n : Int), .string R, .string G] 27) = wSS at hbS hxS ⊢
      have HB7 := Lib.hid (Bel.call HB6.out hbS)
      have HXS := Lib.hid hxS
      clear hbS hxS
      go_wp2_with fail
      have hdr : C5 w6.heap.size wSS.drew (.string O) (.int .u64 (t : Int)) (.int .i64 (n : Int)) (.string R) (.string G) ∧ Below wSS.heap.size wSS wSS.drew := ⟨HXS.out.below (Below.drewN' (Below.refl wSS.heap.size wSS) 1), (Below.drewN' (Below.refl wSS.heap.size wSS) 1)⟩
      refine Ord.region_lit (S := fun w' => C5 w6.heap.size w' (.string O) (.int .u64 (t : Int)) (.int .i64 (n : Int)) (.string R) (.string G) ∧ Below wSS.heap.size wSS w') (by kernel_rfl) (by kernel_rfl) hdr ?_
      clear hdr
      refine Ord.stepR (v := ?_) (by rfl) ?_ ?_
      rotate_left
      · intro w' hSw
        obtain ⟨⟨_, q00, q01, q02, q03, q04⟩, _⟩ := hSw.1
        go_simp
        try with_reducible rfl
      try simp only [Act.put, List.setIfInBounds_toArray, List.set_cons_zero, List.set_cons_succ]
      refine Ord.stepR (v := ?_) (by rfl) ?_ ?_
      rotate_left
      · intro w' hSw
        go_simp
        try with_reducible rfl
      try simp only [Act.put, List.setIfInBounds_toArray, List.set_cons_zero, List.set_cons_succ]
      refine Ord.stepC (v := .string PV) (by rfl) ?_ (fun w1 hS => (HPV.out w1).mono fun e w2 h => ⟨h.1, ⟨hS.1.below (h.2), hS.2.trans ((h.2).mono hS.2.size)⟩⟩) ?_
      · intro w' hSw
        go_simp
        try with_reducible rfl
      try simp only [Act.put, List.setIfInBounds_toArray, List.set_cons_zero, List.set_cons_succ]
      refine Ord.stepR (v := ?_) (by rfl) ?_ ?_
      rotate_left
      · intro w' hSw
        go_simp
        try with_reducible rfl
      try simp only [Act.put, List.setIfInBounds_toArray, List.set_cons_zero, List.set_cons_succ]
      refine Ord.stepR (v := ?_) (by rfl) ?_ ?_
      rotate_left
      · intro w' hSw
        go_simp
        try with_reducible rfl
      try simp only [Act.put, List.setIfInBounds_toArray, List.set_cons_zero, List.set_cons_succ]
      refine Ord.stepC (v := .int .i64 7) (by rfl) ?_ (fun w1 hS => (HCa.out w1).mono fun e w2 h => ⟨h.1, ⟨hS.1.below (h.2), hS.2.trans ((h.2).mono hS.2.size)⟩⟩) ?_
      · intro w' hSw
        go_simp
        try with_reducible rfl
      try simp only [Act.put, List.setIfInBounds_toArray, List.set_cons_zero, List.set_cons_succ]
      refine Ord.stepR (v := ?_) (by rfl) ?_ ?_
      rotate_left
      · intro w' hSw
        go_simp
        try with_reducible rfl
      try simp only [Act.put, List.setIfInBounds_toArray, List.set_cons_zero, List.set_cons_succ]
      refine Ord.stepD fun Z1 hZ => ?_
      replace HXS := Lib.hid hZ.1
      have HB8 := Lib.hid (Bel.call HB7.out hZ.2)
      clear hZ
      go_wp2_with fail
      have hdr : C5 w6.heap.size Z1.drew (.string O) (.int .u64 (t : Int)) (.int .i64 (n : Int)) (.string R) (.string G) ∧ Below Z1.heap.size Z1 Z1.drew := ⟨HXS.out.below (Below.drewN' (Below.refl Z1.heap.size Z1) 1), (Below.drewN' (Below.refl Z1.heap.size Z1) 1)⟩
      refine Ord.region_lit (S := fun w' => C5 w6.heap.size w' (.string O) (.int .u64 (t : Int)) (.int .i64 (n : Int)) (.string R) (.string G) ∧ Below Z1.heap.size Z1 w') (by kernel_rfl) (by kernel_rfl) hdr ?_
      clear hdr
      refine Ord.stepR (v := ?_) (by rfl) ?_ ?_
      rotate_left
      · intro w' hSw
        obtain ⟨⟨_, q00, q01, q02, q03, q04⟩, _⟩ := hSw.1
        go_simp
        try with_reducible rfl
      try simp only [Act.put, List.setIfInBounds_toArray, List.set_cons_zero, List.set_cons_succ]
      refine Ord.stepR (v := ?_) (by rfl) ?_ ?_
      rotate_left
      · intro w' hSw
        go_simp
        try with_reducible rfl
      try simp only [Act.put, List.setIfInBounds_toArray, List.set_cons_zero, List.set_cons_succ]
      refine Ord.stepC (v := .string PV) (by rfl) ?_ (fun w1 hS => (HPV.out w1).mono fun e w2 h => ⟨h.1, ⟨hS.1.below (h.2), hS.2.trans ((h.2).mono hS.2.size)⟩⟩) ?_
      · intro w' hSw
        go_simp
        try with_reducible rfl
      try simp only [Act.put, List.setIfInBounds_toArray, List.set_cons_zero, List.set_cons_succ]
      refine Ord.stepR (v := ?_) (by rfl) ?_ ?_
      rotate_left
      · intro w' hSw
        go_simp
        try with_reducible rfl
      try simp only [Act.put, List.setIfInBounds_toArray, List.set_cons_zero, List.set_cons_succ]
      refine Ord.stepR (v := ?_) (by rfl) ?_ ?_
      rotate_left
      · intro w' hSw
        go_simp
        try with_reducible rfl
      try simp only [Act.put, List.setIfInBounds_toArray, List.set_cons_zero, List.set_cons_succ]
      refine Ord.stepC (v := .int .i64 7) (by rfl) ?_ (fun w1 hS => (HCb.out w1).mono fun e w2 h => ⟨h.1, ⟨hS.1.below (h.2), hS.2.trans ((h.2).mono hS.2.size)⟩⟩) ?_
      · intro w' hSw
        go_simp
        try with_reducible rfl
      try simp only [Act.put, List.setIfInBounds_toArray, List.set_cons_zero, List.set_cons_succ]
      refine Ord.stepR (v := ?_) (by rfl) ?_ ?_
      rotate_left
      · intro w' hSw
        go_simp
        try with_reducible rfl
      try simp only [Act.put, List.setIfInBounds_toArray, List.set_cons_zero, List.set_cons_succ]
      refine Ord.stepD fun Z2 hZ => ?_
      replace HXS := Lib.hid hZ.1
      have HB9 := Lib.hid (Bel.call HB8.out hZ.2)
      clear hZ
      go_wp2_with fail
      have hdr : C5 w6.heap.size Z2.drew (.string O) (.int .u64 (t : Int)) (.int .i64 (n : Int)) (.string R) (.string G) ∧ Below Z2.heap.size Z2 Z2.drew := ⟨HXS.out.below (Below.drewN' (Below.refl Z2.heap.size Z2) 1), (Below.drewN' (Below.refl Z2.heap.size Z2) 1)⟩
      refine Ord.region_lit (S := fun w' => C5 w6.heap.size w' (.string O) (.int .u64 (t : Int)) (.int .i64 (n : Int)) (.string R) (.string G) ∧ Below Z2.heap.size Z2 w') (by kernel_rfl) (by kernel_rfl) hdr ?_
      clear hdr
      refine Ord.stepR (v := ?_) (by rfl) ?_ ?_
      rotate_left
      · intro w' hSw
        obtain ⟨⟨_, q00, q01, q02, q03, q04⟩, _⟩ := hSw.1
        go_simp
        try with_reducible rfl
      try simp only [Act.put, List.setIfInBounds_toArray, List.set_cons_zero, List.set_cons_succ]
      refine Ord.stepR (v := ?_) (by rfl) ?_ ?_
      rotate_left
      · intro w' hSw
        go_simp
        try with_reducible rfl
      try simp only [Act.put, List.setIfInBounds_toArray, List.set_cons_zero, List.set_cons_succ]
      refine Ord.stepC (v := .string PU) (by rfl) ?_ (fun w1 hS => (HPU.out w1).mono fun e w2 h => ⟨h.1, ⟨hS.1.below (h.2), hS.2.trans ((h.2).mono hS.2.size)⟩⟩) ?_
      · intro w' hSw
        go_simp
        try with_reducible rfl
      try simp only [Act.put, List.setIfInBounds_toArray, List.set_cons_zero, List.set_cons_succ]
      refine Ord.stepR (v := ?_) (by rfl) ?_ ?_
      rotate_left
      · intro w' hSw
        go_simp
        try with_reducible rfl
      try simp only [Act.put, List.setIfInBounds_toArray, List.set_cons_zero, List.set_cons_succ]
      refine Ord.stepR (v := ?_) (by rfl) ?_ ?_
      rotate_left
      · intro w' hSw
        go_simp
        try with_reducible rfl
      try simp only [Act.put, List.setIfInBounds_toArray, List.set_cons_zero, List.set_cons_succ]
      refine Ord.stepC (v := .int .i64 3) (by rfl) ?_ (fun w1 hS => (HCc.out w1).mono fun e w2 h => ⟨h.1, ⟨hS.1.below (h.2), hS.2.trans ((h.2).mono hS.2.size)⟩⟩) ?_
      · intro w' hSw
        go_simp
        try with_reducible rfl
      try simp only [Act.put, List.setIfInBounds_toArray, List.set_cons_zero, List.set_cons_succ]
      refine Ord.stepR (v := ?_) (by rfl) ?_ ?_
      rotate_left
      · intro w' hSw
        go_simp
        try with_reducible rfl
      try simp only [Act.put, List.setIfInBounds_toArray, List.set_cons_zero, List.set_cons_succ]
      refine Ord.stepD fun Z3 hZ => ?_
      replace HXS := Lib.hid hZ.1
      have HB10 := Lib.hid (Bel.call HB9.out hZ.2)
      clear hZ
      go_wp2
      go_ret
      exact ⟨rfl, HB10.out⟩
    · have HCa : Hid (∀ w', Calls Try.prog 16 #[.agg #[.string O, .int .u64 (t : Int), .int .i64 (n : Int), .string R, .string G], .string PV, .string O, .int .u64 (t : Int), .int .u64 0] w' fun e w'' => e = .returned (.int .i64 7) ∧ Below w'.heap.size w' w'') := Lib.hid fun w' => mix_to HM.out (t' := t) (n' := n) (R' := R) HM.out.ok HTT.out (U := V) (P := PV) (Q := O) (HVF.out) HHV.out (now := t) (bound := 0) (by omega) (by decide) (v := 7) (by rw [if_neg (fun h => he h.1.symm)]) w'
      have HCb : Hid (∀ w', Calls Try.prog 16 #[.agg #[.string O, .int .u64 (t : Int), .int .i64 (n : Int), .string R, .string G], .string PV, .string V, .int .u64 ((t - 1 : Nat) : Int), .int .u64 0] w' fun e w'' => e = .returned (.int .i64 7) ∧ Below w'.heap.size w' w'') := Lib.hid fun w' => mix_to HM.out (t' := t) (n' := n) (R' := R) HM.out.ok HTT.out (U := V) (P := PV) (Q := V) (HVF.out) HHV.out (now := (t - 1)) (bound := 0) (by omega) (by decide) (v := 7) (by rw [if_neg (fun h => he h.1.symm)]) w'
      have HCc : Hid (∀ w', Calls Try.prog 16 #[.agg #[.string O, .int .u64 (t : Int), .int .i64 (n : Int), .string R, .string G], .string PU, .string V, .int .u64 ((t - 1 : Nat) : Int), .int .u64 0] w' fun e w'' => e = .returned (.int .i64 3) ∧ Below w'.heap.size w' w'') := Lib.hid fun w' => mix_to HM.out (t' := t) (n' := n) (R' := R) HM.out.ok HTT.out (U := O) (P := PU) (Q := V) (HM.out.few) HHP.out (now := (t - 1)) (bound := 0) (by omega) (by decide) (v := 3) (by rw [if_pos ⟨rfl, rfl, rfl, rfl⟩, if_pos he]) w'
      have hob := ne_bool he
      have ht0 : (0 : Int) < (t : Int) := by omega
      have hsub : IntKind.u64.wrap ((t : Int) - 1) = ((t - 1 : Nat) : Int) := by rw [IntKind.wrap_u64]; omega
      clear he hz HM HHP HHV HVF
      go_enter Try.func6, Try.ntmps6
      go_wp2_with fail
      with_reducible refine (HSH.out _).mono ?_
      rintro e w1 ⟨rfl, hb1⟩
      have HB1 := Lib.hid hb1
      replace HI := Lib.hid (HI.out.below hb1 (Nat.le_refl _))
      clear hb1
      try dsimp only
      go_wp2_with fail
      with_reducible refine (HW0.out _).mono ?_
      rintro e w2 ⟨rfl, hb2⟩
      have HB2 := Lib.hid (Bel.call HB1.out hb2)
      replace HI := Lib.hid (HI.out.below hb2 (Nat.le_refl _))
      clear hb2
      try dsimp only
      go_wp2_with fail
      with_reducible refine (HW1.out _).mono ?_
      rintro e w3 ⟨rfl, hb3⟩
      have HB3 := Lib.hid (Bel.call HB2.out hb3)
      replace HI := Lib.hid (HI.out.below hb3 (Nat.le_refl _))
      clear hb3
      try dsimp only
      go_wp2_with fail
      with_reducible refine (HS.out _).mono ?_
      rintro e w4 ⟨rfl, hb4⟩
      have HB4 := Lib.hid (Bel.call HB3.out hb4)
      replace HI := Lib.hid (HI.out.below hb4 (Nat.le_refl _))
      clear hb4
      try dsimp only
      go_wp2_with fail
      with_reducible refine (HRO.out _ HI.out).mono ?_
      rintro e w5 ⟨hx, hb5⟩
      have HB5 := Lib.hid (Bel.call HB4.out hb5)
      replace HI := Lib.hid (HI.out.below hb5 (Nat.le_refl _))
      clear hb5
      obtain ⟨AX, cX, YX, hq, hc, hr, hb, rfl⟩ := Tre.ob_row hx
      have HQX := Lib.hid hq
      have HCX := Lib.hid hc
      have HRX := Lib.hid hr
      clear hx hq hc hr hb
      try dsimp only
      go_wp2_with fail
      with_reducible refine (HBD.out AX cX YX _ HQX.out HCX.out HRX.out).mono ?_
      rintro e w6 ⟨rfl, hb6⟩
      have HB6 := Lib.hid (Bel.call HB5.out hb6)
      replace HI := Lib.hid (HI.out.below hb6 (Nat.le_refl _))
      replace HRX := Lib.hid (HRX.out.below hb6 (Nat.le_refl _))
      clear hb6
      try dsimp only
      clear HRX HI
      go_wp2_with fail
      have hbS : Below w6.heap.size w6 (w6.alloc (.cells #[.string O, .int .u64 (t : Int), .int .i64 (n : Int), .string R, .string G] 27)) := (Below.refl w6.heap.size w6).alloc (Nat.le_refl _) _
      have hxS := c5_new w6 (.string O) (.int .u64 (t : Int)) (.int .i64 (n : Int)) (.string R) (.string G) 27
      generalize w6.alloc (.cells #[.string O, .int .u64 (t : Int), .int .i64 (n : Int), .string R, .string G] 27) = wSS at hbS hxS ⊢
      have HB7 := Lib.hid (Bel.call HB6.out hbS)
      have HXS := Lib.hid hxS
      clear hbS hxS
      go_wp2_with fail
      have hdr : C5 w6.heap.size wSS.drew (.string O) (.int .u64 (t : Int)) (.int .i64 (n : Int)) (.string R) (.string G) ∧ Below wSS.heap.size wSS wSS.drew := ⟨HXS.out.below (Below.drewN' (Below.refl wSS.heap.size wSS) 1), (Below.drewN' (Below.refl wSS.heap.size wSS) 1)⟩
      refine Ord.region_lit (S := fun w' => C5 w6.heap.size w' (.string O) (.int .u64 (t : Int)) (.int .i64 (n : Int)) (.string R) (.string G) ∧ Below wSS.heap.size wSS w') (by kernel_rfl) (by kernel_rfl) hdr ?_
      clear hdr
      refine Ord.stepR (v := ?_) (by rfl) ?_ ?_
      rotate_left
      · intro w' hSw
        obtain ⟨⟨_, q00, q01, q02, q03, q04⟩, _⟩ := hSw.1
        go_simp
        try with_reducible rfl
      try simp only [Act.put, List.setIfInBounds_toArray, List.set_cons_zero, List.set_cons_succ]
      refine Ord.stepR (v := ?_) (by rfl) ?_ ?_
      rotate_left
      · intro w' hSw
        go_simp
        try with_reducible rfl
      try simp only [Act.put, List.setIfInBounds_toArray, List.set_cons_zero, List.set_cons_succ]
      refine Ord.stepC (v := .string PV) (by rfl) ?_ (fun w1 hS => (HPV.out w1).mono fun e w2 h => ⟨h.1, ⟨hS.1.below (h.2), hS.2.trans ((h.2).mono hS.2.size)⟩⟩) ?_
      · intro w' hSw
        go_simp
        try with_reducible rfl
      try simp only [Act.put, List.setIfInBounds_toArray, List.set_cons_zero, List.set_cons_succ]
      refine Ord.stepR (v := ?_) (by rfl) ?_ ?_
      rotate_left
      · intro w' hSw
        go_simp
        try with_reducible rfl
      try simp only [Act.put, List.setIfInBounds_toArray, List.set_cons_zero, List.set_cons_succ]
      refine Ord.stepR (v := ?_) (by rfl) ?_ ?_
      rotate_left
      · intro w' hSw
        go_simp
        try with_reducible rfl
      try simp only [Act.put, List.setIfInBounds_toArray, List.set_cons_zero, List.set_cons_succ]
      refine Ord.stepC (v := .int .i64 7) (by rfl) ?_ (fun w1 hS => (HCa.out w1).mono fun e w2 h => ⟨h.1, ⟨hS.1.below (h.2), hS.2.trans ((h.2).mono hS.2.size)⟩⟩) ?_
      · intro w' hSw
        go_simp
        try with_reducible rfl
      try simp only [Act.put, List.setIfInBounds_toArray, List.set_cons_zero, List.set_cons_succ]
      refine Ord.stepR (v := ?_) (by rfl) ?_ ?_
      rotate_left
      · intro w' hSw
        go_simp
        try with_reducible rfl
      try simp only [Act.put, List.setIfInBounds_toArray, List.set_cons_zero, List.set_cons_succ]
      refine Ord.stepD fun Z1 hZ => ?_
      replace HXS := Lib.hid hZ.1
      have HB8 := Lib.hid (Bel.call HB7.out hZ.2)
      clear hZ
      go_wp2_with fail
      have hdr : C5 w6.heap.size Z1.drew (.string O) (.int .u64 (t : Int)) (.int .i64 (n : Int)) (.string R) (.string G) ∧ Below Z1.heap.size Z1 Z1.drew := ⟨HXS.out.below (Below.drewN' (Below.refl Z1.heap.size Z1) 1), (Below.drewN' (Below.refl Z1.heap.size Z1) 1)⟩
      refine Ord.region_lit (S := fun w' => C5 w6.heap.size w' (.string O) (.int .u64 (t : Int)) (.int .i64 (n : Int)) (.string R) (.string G) ∧ Below Z1.heap.size Z1 w') (by kernel_rfl) (by kernel_rfl) hdr ?_
      clear hdr
      refine Ord.stepR (v := ?_) (by rfl) ?_ ?_
      rotate_left
      · intro w' hSw
        obtain ⟨⟨_, q00, q01, q02, q03, q04⟩, _⟩ := hSw.1
        go_simp
        try with_reducible rfl
      try simp only [Act.put, List.setIfInBounds_toArray, List.set_cons_zero, List.set_cons_succ]
      refine Ord.stepR (v := ?_) (by rfl) ?_ ?_
      rotate_left
      · intro w' hSw
        go_simp
        try with_reducible rfl
      try simp only [Act.put, List.setIfInBounds_toArray, List.set_cons_zero, List.set_cons_succ]
      refine Ord.stepC (v := .string PV) (by rfl) ?_ (fun w1 hS => (HPV.out w1).mono fun e w2 h => ⟨h.1, ⟨hS.1.below (h.2), hS.2.trans ((h.2).mono hS.2.size)⟩⟩) ?_
      · intro w' hSw
        go_simp
        try with_reducible rfl
      try simp only [Act.put, List.setIfInBounds_toArray, List.set_cons_zero, List.set_cons_succ]
      refine Ord.stepR (v := ?_) (by rfl) ?_ ?_
      rotate_left
      · intro w' hSw
        go_simp
        try with_reducible rfl
      try simp only [Act.put, List.setIfInBounds_toArray, List.set_cons_zero, List.set_cons_succ]
      refine Ord.stepR (v := ?_) (by rfl) ?_ ?_
      rotate_left
      · intro w' hSw
        go_simp
        try with_reducible rfl
      try simp only [Act.put, List.setIfInBounds_toArray, List.set_cons_zero, List.set_cons_succ]
      refine Ord.stepC (v := .int .i64 7) (by rfl) ?_ (fun w1 hS => (HCb.out w1).mono fun e w2 h => ⟨h.1, ⟨hS.1.below (h.2), hS.2.trans ((h.2).mono hS.2.size)⟩⟩) ?_
      · intro w' hSw
        go_simp
        try with_reducible rfl
      try simp only [Act.put, List.setIfInBounds_toArray, List.set_cons_zero, List.set_cons_succ]
      refine Ord.stepR (v := ?_) (by rfl) ?_ ?_
      rotate_left
      · intro w' hSw
        go_simp
        try with_reducible rfl
      try simp only [Act.put, List.setIfInBounds_toArray, List.set_cons_zero, List.set_cons_succ]
      refine Ord.stepD fun Z2 hZ => ?_
      replace HXS := Lib.hid hZ.1
      have HB9 := Lib.hid (Bel.call HB8.out hZ.2)
      clear hZ
      go_wp2_with fail
      have hdr : C5 w6.heap.size Z2.drew (.string O) (.int .u64 (t : Int)) (.int .i64 (n : Int)) (.string R) (.string G) ∧ Below Z2.heap.size Z2 Z2.drew := ⟨HXS.out.below (Below.drewN' (Below.refl Z2.heap.size Z2) 1), (Below.drewN' (Below.refl Z2.heap.size Z2) 1)⟩
      refine Ord.region_lit (S := fun w' => C5 w6.heap.size w' (.string O) (.int .u64 (t : Int)) (.int .i64 (n : Int)) (.string R) (.string G) ∧ Below Z2.heap.size Z2 w') (by kernel_rfl) (by kernel_rfl) hdr ?_
      clear hdr
      refine Ord.stepR (v := ?_) (by rfl) ?_ ?_
      rotate_left
      · intro w' hSw
        obtain ⟨⟨_, q00, q01, q02, q03, q04⟩, _⟩ := hSw.1
        go_simp
        try with_reducible rfl
      try simp only [Act.put, List.setIfInBounds_toArray, List.set_cons_zero, List.set_cons_succ]
      refine Ord.stepR (v := ?_) (by rfl) ?_ ?_
      rotate_left
      · intro w' hSw
        go_simp
        try with_reducible rfl
      try simp only [Act.put, List.setIfInBounds_toArray, List.set_cons_zero, List.set_cons_succ]
      refine Ord.stepC (v := .string PU) (by rfl) ?_ (fun w1 hS => (HPU.out w1).mono fun e w2 h => ⟨h.1, ⟨hS.1.below (h.2), hS.2.trans ((h.2).mono hS.2.size)⟩⟩) ?_
      · intro w' hSw
        go_simp
        try with_reducible rfl
      try simp only [Act.put, List.setIfInBounds_toArray, List.set_cons_zero, List.set_cons_succ]
      refine Ord.stepR (v := ?_) (by rfl) ?_ ?_
      rotate_left
      · intro w' hSw
        go_simp
        try with_reducible rfl
      try simp only [Act.put, List.setIfInBounds_toArray, List.set_cons_zero, List.set_cons_succ]
      refine Ord.stepR (v := ?_) (by rfl) ?_ ?_
      rotate_left
      · intro w' hSw
        go_simp
        try with_reducible rfl
      try simp only [Act.put, List.setIfInBounds_toArray, List.set_cons_zero, List.set_cons_succ]
      refine Ord.stepC (v := .int .i64 3) (by rfl) ?_ (fun w1 hS => (HCc.out w1).mono fun e w2 h => ⟨h.1, ⟨hS.1.below (h.2), hS.2.trans ((h.2).mono hS.2.size)⟩⟩) ?_
      · intro w' hSw
        go_simp
        try with_reducible rfl
      try simp only [Act.put, List.setIfInBounds_toArray, List.set_cons_zero, List.set_cons_succ]
      refine Ord.stepR (v := ?_) (by rfl) ?_ ?_
      rotate_left
      · intro w' hSw
        go_simp
        try with_reducible rfl
      try simp only [Act.put, List.setIfInBounds_toArray, List.set_cons_zero, List.set_cons_succ]
      refine Ord.stepD fun Z3 hZ => ?_
      replace HXS := Lib.hid hZ.1
      have HB10 := Lib.hid (Bel.call HB9.out hZ.2)
      clear hZ
      go_wp2
      go_ret
      exact ⟨rfl, HB10.out⟩
end Go.Proofs.Ytmmeklemaofmjaa.Frs
