/-
  THE LAW FreshChecks, walked. By an AI agent; no person has read it.
-/
import Derived.Test.YtmmeklemaofmjaaFShown
namespace Go.Proofs.Ytmmeklemaofmjaa.Frs
open Go Go.RowKit Wire Term Draw Reg Clo

set_option linter.unusedSimpArgs false
set_option linter.unusedVariables false
set_option maxHeartbeats 8000000 in
set_option maxRecDepth 1000000 in
theorem took_to {O : ByteArray} {t n : Nat} {l : List Tm} {R G : ByteArray} (h : Made O t n l R G) {B : ByteArray} (hB : B.data.toList = rowE O.data.toList t n R.data.toList) (w : World) : Calls Try.prog 14 #[.string B] w fun e w' => e = .returned (.tuple #[.agg #[.string O, .int .u64 (t : Int), .int .i64 (n : Int), .string R, .string G], .int .i64 0]) ∧ Below w.heap.size w w' := by
  have hb := h.bytes
  have hok := h.ok
  rw [h.sig] at hok
  refine (take_to (take_built hok h.time) hB (by rw [Lib.size_eq, hB]; omega) w).mono fun e w' hh => ?_
  obtain ⟨O', R', G', a1, a2, a3, rfl⟩ := ss_open hh.1
  rw [← h.sig] at a3
  rw [str_eq a1, str_eq a2, str_eq a3]
  exact ⟨rfl, hh.2⟩
set_option maxHeartbeats 8000000 in
set_option maxRecDepth 1000000 in
theorem checks_walk (a0 : Int) (t now bound : Nat) (A : Option Addr) (c : Nat) (z : List Int) (w : World) (h0 : -9223372036854775808 ≤ a0 ∧ a0 ≤ 9223372036854775807) (ht : t < 18446744073709551616) (hnow : now < 18446744073709551616) (hbd : bound < 18446744073709551616) (hr : IReads w A z) (hn : z.length ≤ 9223372036854775807) :
    Calls Try.prog 3 #[.int .i64 a0, .int .u64 (t : Int), .int .u64 (now : Int), .int .u64 (bound : Int), .slice A z.length c] w fun e w' => e = .returned (.bool true) ∧ Below w.heap.size w w' := by
  have HSH := Lib.hid fun w => shown_any w
  have HI := Lib.hid hr
  have HRO : Hid (∀ w', IReads w' A z → Calls Try.prog 12 #[.slice A z.length c] w' fun e w'' => Tre.Ob w' w'' (Tre.rowL z) e ∧ Below w'.heap.size w' w'') := Lib.hid fun w' h => Tre.row_any A c z w' h hn
  have HSM : Hid (Smalls (Tre.rowL z)) := Lib.hid Tre.rowL_small
  have h8 : (Tre.rowL z).length ≤ 8 := by rw [Tre.rowL_len]; omega
  have HW0 := Lib.hid fun w => Tre.who_any a0 w h0
  have HPK : Hid (∀ w, Calls Try.prog 15 #[.int .i64 a0, .int .i64 8] w fun e w' => e = .returned (.int .i64 (Tre.pk a0 8 : Int)) ∧ w' = w) := Lib.hid fun w => Tre.pick_any a0 8 w h0 (by decide) (by decide)
  have hp0 := Tre.pk_lt a0 (n := 8) (by decide)
  generalize Tre.pk a0 8 = m0 at HW0 HPK hp0
  have hm1 : Tre.pk ((m0 : Int) + 1) 8 = (m0 + 1) % 8 := by
    unfold Tre.pk
    rw [if_neg (by omega), show ((m0 : Int) + 1).toNat = m0 + 1 by omega]
  have HW1 := Lib.hid fun w => Tre.who_any ((m0 : Int) + 1) w (by omega)
  rw [hm1] at HW1
  have hp1 : (m0 + 1) % 8 < 8 := Nat.mod_lt _ (by decide)
  have hne : (Tre.whoN m0).data.toList ≠ (Tre.whoN ((m0 + 1) % 8)).data.toList := fun h => by have := Tre.who_inj hp0 hp1 h; omega
  have hOo := who_right hp0
  have hOf := who_l12 m0
  have hVf := who_l12 ((m0 + 1) % 8)
  generalize Tre.whoN m0 = O at HW0 hOo hOf hne
  generalize Tre.whoN ((m0 + 1) % 8) = V at HW1 hVf hne
  obtain ⟨R, G, hM⟩ := made_is (O := O) (t := t) (l := Tre.rowL z) (hOo) (hOf) ht h8 Tre.rowL_small
  obtain ⟨K, hK⟩ := letter_is (secU O.data.toList)
  obtain ⟨PU, hPU⟩ := letter_is (pubU O.data.toList)
  obtain ⟨PV, hPV⟩ := letter_is (pubU V.data.toList)
  have HS := Lib.hid fun w => sec_to (s := O) (by rw [Lib.size_eq]; exact hOf) hK w
  have HPU := Lib.hid fun w => pub_to (s := O) (by rw [Lib.size_eq]; exact hOf) hPU w
  have HPV := Lib.hid fun w => pub_to (s := V) (by rw [Lib.size_eq]; exact hVf) hPV w
  have HBD : Hid (∀ (A' : Option Addr) (c' : Nat) (ys : List ByteArray) (w' : World), bl ys = Tre.rowL z → (ys.length ≤ c' ∧ c' ≤ 9223372036854775807) → SReads w' A' ys → Calls Try.prog 10 #[.string K, .string O, .int .u64 (t : Int), .slice A' ys.length c'] w' fun e w'' => e = .returned (.tuple #[.agg #[.string O, .int .u64 (t : Int), .int .i64 ((Tre.rowL z).length : Int), .string R, .string G], .int .i64 0]) ∧ Below w'.heap.size w' w'') := Lib.hid fun A' c' ys w' hy hc hr => build_to hM hK hy HSM.out hc w' hr
  have HM := Lib.hid hM
  have HHP := Lib.hid hPU
  have HHV := Lib.hid hPV
  have HLN : Hid (∀ Y : List ByteArray, bl Y = Tre.rowL z → Y.length = (Tre.rowL z).length) := Lib.hid fun Y h => Tre.bl_length h
  have h8n := hM.eight
  generalize (Tre.rowL z).length = n at HBD HM HLN h8n
  have HPT := Lib.hid fun w => put_to HM.out w
  have HTK := Lib.hid fun B h w => took_to HM.out (B := B) h w
  have hok := HM.out.ok
  obtain ⟨t', ht'⟩ : ∃ t' : Nat, (t + 1) % 18446744073709551616 = t' := ⟨_, rfl⟩
  obtain ⟨n', hn'⟩ : ∃ n' : Nat, (n + 1) % 9 = n' := ⟨_, rfl⟩
  have HC1 : Hid (∀ w', Calls Try.prog 16 #[.agg #[.string O, .int .u64 (t : Int), .int .i64 (n : Int), .string R, .string G], .string PU, .string O, .int .u64 (now : Int), .int .u64 (bound : Int)] w' fun e w'' => e = .returned (.int .i64 (if now < t ∨ bound < now - t then 8 else 0)) ∧ Below w'.heap.size w' w'') := Lib.hid fun w' => mix_to HM.out (t' := t) (n' := n) (R' := R) (⟨hok.1, hok.2.1, hok.2.2.1, hok.2.2.2⟩) (ht) (U := O) (P := PU) (Q := O) HM.out.few HHP.out (now := now) (bound := bound) hnow hbd (v := (if now < t ∨ bound < now - t then 8 else 0)) (by rw [if_pos ⟨rfl, rfl, rfl, rfl⟩, if_neg (fun h => h rfl)]) w'
  have HC2 : Hid (∀ w', Calls Try.prog 16 #[.agg #[.string O, .int .u64 (t : Int), .int .i64 (n : Int), .string R, .string G], .string PV, .string O, .int .u64 (now : Int), .int .u64 (bound : Int)] w' fun e w'' => e = .returned (.int .i64 7) ∧ Below w'.heap.size w' w'') := Lib.hid fun w' => mix_to HM.out (t' := t) (n' := n) (R' := R) (⟨hok.1, hok.2.1, hok.2.2.1, hok.2.2.2⟩) (ht) (U := V) (P := PV) (Q := O) hVf HHV.out (now := now) (bound := bound) hnow hbd (v := 7) (by rw [if_neg (fun h => hne h.1.symm)]) w'
  have HC3 : Hid (∀ w', Calls Try.prog 16 #[.agg #[.string O, .int .u64 (t : Int), .int .i64 (n : Int), .string R, .string G], .string PU, .string V, .int .u64 (now : Int), .int .u64 (bound : Int)] w' fun e w'' => e = .returned (.int .i64 3) ∧ Below w'.heap.size w' w'') := Lib.hid fun w' => mix_to HM.out (t' := t) (n' := n) (R' := R) (⟨hok.1, hok.2.1, hok.2.2.1, hok.2.2.2⟩) (ht) (U := O) (P := PU) (Q := V) HM.out.few HHP.out (now := now) (bound := bound) hnow hbd (v := 3) (by rw [if_pos ⟨rfl, rfl, rfl, rfl⟩, if_pos hne]) w'
  have HC4 : Hid (∀ w', Calls Try.prog 16 #[.agg #[.string O, .int .u64 (t' : Int), .int .i64 (n : Int), .string R, .string G], .string PU, .string O, .int .u64 (now : Int), .int .u64 (bound : Int)] w' fun e w'' => e = .returned (.int .i64 7) ∧ Below w'.heap.size w' w'') := Lib.hid fun w' => mix_to HM.out (t' := t') (n' := n) (R' := R) (⟨hok.1, hok.2.1, hok.2.2.1, hok.2.2.2⟩) (by omega) (U := O) (P := PU) (Q := O) HM.out.few HHP.out (now := now) (bound := bound) hnow hbd (v := 7) (by rw [if_neg (fun h => by have := h.2.1; omega)]) w'
  have HC5 : Hid (∀ w', Calls Try.prog 16 #[.agg #[.string O, .int .u64 (t : Int), .int .i64 (n' : Int), .string R, .string G], .string PU, .string O, .int .u64 (now : Int), .int .u64 (bound : Int)] w' fun e w'' => e = .returned (.int .i64 7) ∧ Below w'.heap.size w' w'') := Lib.hid fun w' => mix_to HM.out (t' := t) (n' := n') (R' := R) (⟨hok.1, ⟨by simp, by simp only; omega⟩, hok.2.2.1, hok.2.2.2⟩) (ht) (U := O) (P := PU) (Q := O) HM.out.few HHP.out (now := now) (bound := bound) hnow hbd (v := 7) (by rw [if_neg (fun h => by have := h.2.2.1; omega)]) w'
  have hz3 := HM.out.sizes
  have hsz := secU_sz hOf
  have HC6 : Hid (∀ w', Calls Try.prog 16 #[.agg #[.string O, .int .u64 (t : Int), .int .i64 (n : Int), .string R, .string G], .string K, .string O, .int .u64 (now : Int), .int .u64 (bound : Int)] w' fun e w'' => e = .returned (.int .i64 1) ∧ Below w'.heap.size w' w'') := Lib.hid fun w' => check_is (check_wrong (by rw [hK, secU_kind hOf]; decide)) (by omega) (by omega) (by omega) (by rw [Lib.size_eq, hK]; omega) ht hnow hbd w'
  have ew1 : IntKind.u64.wrap ((t : Int) + 1) = (t' : Int) := by rw [IntKind.wrap_u64]; omega
  have ew2 : IntKind.i64.wrap ((n : Int) + 1) = (n : Int) + 1 := by rw [IntKind.wrap_i64]; omega
  have ew3 : ((n : Int) + 1).tmod 9 = (n' : Int) := by rw [show ((n : Int) + 1) = ((n + 1 : Nat) : Int) by omega, show (9 : Int) = ((9 : Nat) : Int) from rfl, ← Int.ofNat_tmod, hn']
  have ew4 : ((n : Int) + 1) % 9 = (n' : Int) := by omega
  have ew5 : IntKind.i64.wrap ((m0 : Int) + 1) = (m0 : Int) + 1 := by rw [IntKind.wrap_i64]; omega
  have ewn : IntKind.i64.wrap (n' : Int) = (n' : Int) := by rw [IntKind.wrap_i64]; omega
  clear hr hOo hM hPU hPV hK hok hne hsz hz3 ht' hn' hOf hVf hm1 hp1
  have hm08 : m0 < 8 := hp0
  go_enter Try.func3, Try.ntmps3
  go_wp2_with fail
  with_reducible refine (HSH.out _).mono ?_
  rintro e w1 ⟨rfl, hb1⟩
  have HB1 := Lib.hid hb1
  clear hb1
  try dsimp only
  go_wp2_with fail
  with_reducible refine (HW0.out _).mono ?_
  rintro e w2 ⟨rfl, hb2⟩
  have HB2 := Lib.hid (Bel.call HB1.out hb2)
  clear hb2
  try dsimp only
  go_wp2_with fail
  with_reducible refine (HS.out _).mono ?_
  rintro e w3 ⟨rfl, hb3⟩
  have HB3 := Lib.hid (Bel.call HB2.out hb3)
  clear hb3
  try dsimp only
  go_wp2_with fail
  with_reducible refine (HRO.out _ (HI.out.below HB3.out (Nat.le_refl _))).mono ?_
  rintro e w4 ⟨hx, hb4⟩
  have HB4 := Lib.hid (Bel.call HB3.out hb4)
  clear hb4
  obtain ⟨AX, cX, YX, hq, hc, hr, hb, rfl⟩ := Tre.ob_row hx
  have HQX := Lib.hid hq
  have HCX := Lib.hid hc
  have HRX := Lib.hid hr
  clear hx hq hc hr hb
  try dsimp only
  go_wp2_with fail
  with_reducible refine (HBD.out AX cX YX _ HQX.out HCX.out HRX.out).mono ?_
  rintro e w5 ⟨rfl, hb5⟩
  have HB5 := Lib.hid (Bel.call HB4.out hb5)
  clear hb5
  try dsimp only
  clear HRX
  go_wp2_with fail
  have hbS : Below w5.heap.size w5 (w5.alloc (.cells #[.string O, .int .u64 (t : Int), .int .i64 (n : Int), .string R, .string G] 27)) := (Below.refl w5.heap.size w5).alloc (Nat.le_refl _) _
  have hxS := c5_new w5 (.string O) (.int .u64 (t : Int)) (.int .i64 (n : Int)) (.string R) (.string G) 27
  generalize w5.alloc (.cells #[.string O, .int .u64 (t : Int), .int .i64 (n : Int), .string R, .string G] 27) = wSS at hbS hxS ⊢
  have HB6 := Lib.hid (Bel.call HB5.out hbS)
  have HXS := Lib.hid hxS
  clear hbS hxS
  with_reducible refine (HPT.out _).mono ?_
  rintro e w7 ⟨⟨B, hB, rfl⟩, hb7⟩
  have HB7 := Lib.hid (Bel.call HB6.out hb7)
  replace HXS := Lib.hid (HXS.out.below hb7)
  clear hb7
  try dsimp only at hB
  have HB := Lib.hid hB
  clear hB
  try dsimp only
  go_wp2_with fail
  with_reducible refine (HTK.out B HB.out _).mono ?_
  rintro e w8 ⟨rfl, hb8⟩
  have HB8 := Lib.hid (Bel.call HB7.out hb8)
  replace HXS := Lib.hid (HXS.out.below hb8)
  clear hb8
  try dsimp only
  go_wp2_with fail
  have hbS : Below w8.heap.size w8 (w8.alloc (.cells #[.string O, .int .u64 (t : Int), .int .i64 (n : Int), .string R, .string G] 27)) := (Below.refl w8.heap.size w8).alloc (Nat.le_refl _) _
  have hxS := c5_new w8 (.string O) (.int .u64 (t : Int)) (.int .i64 (n : Int)) (.string R) (.string G) 27
  generalize w8.alloc (.cells #[.string O, .int .u64 (t : Int), .int .i64 (n : Int), .string R, .string G] 27) = wSX at hbS hxS ⊢
  have HB9 := Lib.hid (Bel.call HB8.out hbS)
  replace HXS := Lib.hid (HXS.out.below hbS)
  have HXX := Lib.hid hxS
  clear hbS hxS
  have hdr : Below wSX.heap.size wSX wSX.drew := Below.drewN' (Below.refl wSX.heap.size wSX) 1
  refine wp_region_held_drew (S := fun w' => C5 w5.heap.size w' (.string O) (.int .u64 (t : Int)) (.int .i64 (n : Int)) (.string R) (.string G) ∧ C5 w8.heap.size w' (.string O) (.int .u64 (t : Int)) (.int .i64 (n : Int)) (.string R) (.string G)) (by kernel_rfl) (⟨HXS.out.below hdr, HXX.out.below hdr⟩) (fun hHeld => ?_)
  clear hHeld
  generalize wSX.drew = wd1 at hdr ⊢
  have HB10 := Lib.hid (Bel.call HB9.out hdr)
  replace HXS := Lib.hid (HXS.out.below hdr)
  replace HXX := Lib.hid (HXX.out.below hdr)
  clear hdr
  have hHeld : C5 w5.heap.size wd1 (.string O) (.int .u64 (t : Int)) (.int .i64 (n : Int)) (.string R) (.string G) ∧ C5 w8.heap.size wd1 (.string O) (.int .u64 (t : Int)) (.int .i64 (n : Int)) (.string R) (.string G) := ⟨HXS.out, HXX.out⟩
  refine wpAnyH_take (i := 0) (v := ?_) (by rw [List.getElem?_toArray]; rfl) (by kernel_rfl) (by kernel_rfl) (by kernel_rfl) (by exact fun _ _ _ h => h) (Or.inl ⟨by rfl, ?_⟩) (by assumption) ?_
  rotate_left
  · intro w' hSw
    go_simp
    try with_reducible rfl
  try simp only [Act.put, List.setIfInBounds_toArray, List.set_cons_zero, List.set_cons_succ]
  refine wpAnyH_take (i := 1) (v := ?_) (by rw [List.getElem?_toArray]; rfl) (by kernel_rfl) (by kernel_rfl) (by kernel_rfl) (by exact fun _ _ _ h => h) (Or.inl ⟨by rfl, ?_⟩) (by assumption) ?_
  rotate_left
  · intro w' hSw
    go_simp
    try with_reducible rfl
  try simp only [Act.put, List.setIfInBounds_toArray, List.set_cons_zero, List.set_cons_succ]
  refine wpAnyH_take (i := 2) (v := ?_) (by rw [List.getElem?_toArray]; rfl) (by kernel_rfl) (by kernel_rfl) (by kernel_rfl) (by exact fun _ _ _ h => h) (Or.inl ⟨by rfl, ?_⟩) (by assumption) ?_
  rotate_left
  · intro w' hSw
    go_simp
    try with_reducible rfl
  try simp only [Act.put, List.setIfInBounds_toArray, List.set_cons_zero, List.set_cons_succ]
  refine wpAnyH_take (i := 3) (v := ?_) (by rw [List.getElem?_toArray]; rfl) (by kernel_rfl) (by kernel_rfl) (by kernel_rfl) (by exact fun _ _ _ h => h) (Or.inl ⟨by rfl, ?_⟩) (by assumption) ?_
  rotate_left
  · intro w' hSw
    go_simp
    try with_reducible rfl
  try simp only [Act.put, List.setIfInBounds_toArray, List.set_cons_zero, List.set_cons_succ]
  refine wpAnyH_take (i := 4) (v := ?_) (by rw [List.getElem?_toArray]; rfl) (by kernel_rfl) (by kernel_rfl) (by kernel_rfl) (by exact fun _ _ _ h => h) (Or.inl ⟨by rfl, ?_⟩) (by assumption) ?_
  rotate_left
  · intro w' hSw
    go_simp
    try with_reducible rfl
  try simp only [Act.put, List.setIfInBounds_toArray, List.set_cons_zero, List.set_cons_succ]
  refine wpAnyH_take (i := 5) (v := ?_) (by rw [List.getElem?_toArray]; rfl) (by kernel_rfl) (by kernel_rfl) (by kernel_rfl) (by exact fun _ _ _ h => h) (Or.inl ⟨by rfl, ?_⟩) (by assumption) ?_
  rotate_left
  · intro w' hSw
    go_simp
    try with_reducible rfl
  try simp only [Act.put, List.setIfInBounds_toArray, List.set_cons_zero, List.set_cons_succ]
  refine wpAnyH_take (i := 6) (v := ?_) (by rw [List.getElem?_toArray]; rfl) (by kernel_rfl) (by kernel_rfl) (by kernel_rfl) (by exact fun _ _ _ h => h) (Or.inl ⟨by rfl, ?_⟩) (by assumption) ?_
  rotate_left
  · intro w' hSw
    go_simp
    try with_reducible rfl
  try simp only [Act.put, List.setIfInBounds_toArray, List.set_cons_zero, List.set_cons_succ]
  refine wpAnyH_take (i := 7) (v := ?_) (by rw [List.getElem?_toArray]; rfl) (by kernel_rfl) (by kernel_rfl) (by kernel_rfl) (by exact fun _ _ _ h => h) (Or.inl ⟨by rfl, ?_⟩) (by assumption) ?_
  rotate_left
  · intro w' hSw
    go_simp
    try with_reducible rfl
  try simp only [Act.put, List.setIfInBounds_toArray, List.set_cons_zero, List.set_cons_succ]
  refine wpAnyH_take (i := 8) (v := ?_) (by rw [List.getElem?_toArray]; rfl) (by kernel_rfl) (by kernel_rfl) (by kernel_rfl) (by exact fun _ _ _ h => h) (Or.inl ⟨by rfl, ?_⟩) (by assumption) ?_
  rotate_left
  · intro w' hSw
    go_simp
    try with_reducible rfl
  try simp only [Act.put, List.setIfInBounds_toArray, List.set_cons_zero, List.set_cons_succ]
  refine wpAnyH_take (i := 9) (v := ?_) (by rw [List.getElem?_toArray]; rfl) (by kernel_rfl) (by kernel_rfl) (by kernel_rfl) (by exact fun _ _ _ h => h) (Or.inl ⟨by rfl, ?_⟩) (by assumption) ?_
  rotate_left
  · intro w' hSw
    go_simp
    try with_reducible rfl
  try simp only [Act.put, List.setIfInBounds_toArray, List.set_cons_zero, List.set_cons_succ]
  refine wpAnyH_take (i := 10) (v := ?_) (by rw [List.getElem?_toArray]; rfl) (by kernel_rfl) (by kernel_rfl) (by kernel_rfl) (by exact fun _ _ _ h => h) (Or.inl ⟨by rfl, ?_⟩) (by assumption) ?_
  rotate_left
  · intro w' hSw
    go_simp
    try with_reducible rfl
  try simp only [Act.put, List.setIfInBounds_toArray, List.set_cons_zero, List.set_cons_succ]
  refine wpAnyH_take (i := 11) (v := ?_) (by rw [List.getElem?_toArray]; rfl) (by kernel_rfl) (by kernel_rfl) (by kernel_rfl) (by exact fun _ _ _ h => h) (Or.inl ⟨by rfl, ?_⟩) (by assumption) ?_
  rotate_left
  · intro w' hSw
    obtain ⟨⟨_, q00, q01, q02, q03, q04⟩, _⟩ := hSw.1
    obtain ⟨⟨_, q10, q11, q12, q13, q14⟩, _⟩ := hSw.2
    go_simp
    try with_reducible rfl
  try simp only [Act.put, List.setIfInBounds_toArray, List.set_cons_zero, List.set_cons_succ]
  refine wpAnyH_take (i := 12) (v := ?_) (by rw [List.getElem?_toArray]; rfl) (by kernel_rfl) (by kernel_rfl) (by kernel_rfl) (by exact fun _ _ _ h => h) (Or.inl ⟨by rfl, ?_⟩) (by assumption) ?_
  rotate_left
  · intro w' hSw
    obtain ⟨⟨_, q00, q01, q02, q03, q04⟩, _⟩ := hSw.1
    obtain ⟨⟨_, q10, q11, q12, q13, q14⟩, _⟩ := hSw.2
    go_simp
    try with_reducible rfl
  try simp only [Act.put, List.setIfInBounds_toArray, List.set_cons_zero, List.set_cons_succ]
  refine wpAnyH_take (i := 13) (v := ?_) (by rw [List.getElem?_toArray]; rfl) (by kernel_rfl) (by kernel_rfl) (by kernel_rfl) (by exact fun _ _ _ h => h) (Or.inl ⟨by rfl, ?_⟩) (by assumption) ?_
  rotate_left
  · intro w' hSw
    go_simp
    try with_reducible rfl
  try simp only [Act.put, List.setIfInBounds_toArray, List.set_cons_zero, List.set_cons_succ]
  refine wpAnyH_take (i := 14) (v := ?_) (by rw [List.getElem?_toArray]; rfl) (by kernel_rfl) (by kernel_rfl) (by kernel_rfl) (by exact fun _ _ _ h => h) (Or.inl ⟨by rfl, ?_⟩) (by assumption) ?_
  rotate_left
  · intro w' hSw
    go_simp
    try with_reducible rfl
  try simp only [Act.put, List.setIfInBounds_toArray, List.set_cons_zero, List.set_cons_succ]
  refine wpAnyH_take (i := 15) (v := ?_) (by rw [List.getElem?_toArray]; rfl) (by kernel_rfl) (by kernel_rfl) (by kernel_rfl) (by exact fun _ _ _ h => h) (Or.inl ⟨by rfl, ?_⟩) (by assumption) ?_
  rotate_left
  · intro w' hSw
    go_simp
    try with_reducible rfl
  try simp only [Act.put, List.setIfInBounds_toArray, List.set_cons_zero, List.set_cons_succ]
  refine wpAnyH_take (i := 16) (v := ?_) (by rw [List.getElem?_toArray]; rfl) (by kernel_rfl) (by kernel_rfl) (by kernel_rfl) (by exact fun _ _ _ h => h) (Or.inl ⟨by rfl, ?_⟩) (by assumption) ?_
  rotate_left
  · intro w' hSw
    go_simp
    try with_reducible rfl
  try simp only [Act.put, List.setIfInBounds_toArray, List.set_cons_zero, List.set_cons_succ]
  refine wpAnyH_take (i := 17) (v := ?_) (by rw [List.getElem?_toArray]; rfl) (by kernel_rfl) (by kernel_rfl) (by kernel_rfl) (by exact fun _ _ _ h => h) (Or.inl ⟨by rfl, ?_⟩) (by assumption) ?_
  rotate_left
  · intro w' hSw
    obtain ⟨⟨_, q00, q01, q02, q03, q04⟩, _⟩ := hSw.1
    obtain ⟨⟨_, q10, q11, q12, q13, q14⟩, _⟩ := hSw.2
    go_simp
    try with_reducible rfl
  try simp only [Act.put, List.setIfInBounds_toArray, List.set_cons_zero, List.set_cons_succ]
  refine wpAnyH_take (i := 18) (v := ?_) (by rw [List.getElem?_toArray]; rfl) (by kernel_rfl) (by kernel_rfl) (by kernel_rfl) (by exact fun _ _ _ h => h) (Or.inl ⟨by rfl, ?_⟩) (by assumption) ?_
  rotate_left
  · intro w' hSw
    go_simp
    try with_reducible rfl
  try simp only [Act.put, List.setIfInBounds_toArray, List.set_cons_zero, List.set_cons_succ]
  clear hHeld
  refine wpAnyH_ready (rs := [19]) (by kernel_rfl) (by simp) ?_
  refine AllReadyH.cons (by rw [List.getElem?_toArray]; rfl) (fun Kn hK => ?_) AllReadyH.nil
  go_simp
  go_at_call 12
  with_reducible refine (HRO.out _ (HI.out.below HB10.out (Nat.le_refl _))).mono ?_
  rintro e w11 ⟨hx, hb11⟩
  have HB11 := Lib.hid (Bel.call HB10.out hb11)
  replace HXS := Lib.hid (HXS.out.below hb11)
  replace HXX := Lib.hid (HXX.out.below hb11)
  clear hb11
  obtain ⟨AW, cW, YW, hq, hc, hr, hb, rfl⟩ := Tre.ob_row hx
  have hWn : YW.length = n := HLN.out YW hq
  clear hx hq hc hr hb
  try dsimp only
  rw [hWn]
  clear hWn HRO HI HLN
  refine hK.out _ _ ⟨HXS.out, HXX.out⟩ (fun hHeld => ?_)
  try simp only [Act.put, List.setIfInBounds_toArray, List.set_cons_zero, List.set_cons_succ]
  refine wpAnyH_take (i := 20) (v := ?_) (by rw [List.getElem?_toArray]; rfl) (by kernel_rfl) (by kernel_rfl) (by kernel_rfl) (by exact fun _ _ _ h => h) (Or.inl ⟨by rfl, ?_⟩) (by assumption) ?_
  rotate_left
  · intro w' hSw
    go_simp
    try with_reducible rfl
  try simp only [Act.put, List.setIfInBounds_toArray, List.set_cons_zero, List.set_cons_succ]
  refine wpAnyH_take (i := 21) (v := ?_) (by rw [List.getElem?_toArray]; rfl) (by kernel_rfl) (by kernel_rfl) (by kernel_rfl) (by exact fun _ _ _ h => h) (Or.inl ⟨by rfl, ?_⟩) (by assumption) ?_
  rotate_left
  · intro w' hSw
    go_simp
    try with_reducible rfl
  try simp only [Act.put, List.setIfInBounds_toArray, List.set_cons_zero, List.set_cons_succ]
  refine wpAnyH_take (i := 22) (v := ?_) (by rw [List.getElem?_toArray]; rfl) (by kernel_rfl) (by kernel_rfl) (by kernel_rfl) (by exact fun _ _ _ h => h) (Or.inl ⟨by rfl, ?_⟩) (by assumption) ?_
  rotate_left
  · intro w' hSw
    go_simp
    try with_reducible rfl
  try simp only [Act.put, List.setIfInBounds_toArray, List.set_cons_zero, List.set_cons_succ]
  refine wpAnyH_take (i := 23) (v := ?_) (by rw [List.getElem?_toArray]; rfl) (by kernel_rfl) (by kernel_rfl) (by kernel_rfl) (by exact fun _ _ _ h => h) (Or.inl ⟨by rfl, ?_⟩) (by assumption) ?_
  rotate_left
  · intro w' hSw
    go_simp
    try with_reducible rfl
  try simp only [Act.put, List.setIfInBounds_toArray, List.set_cons_zero, List.set_cons_succ]
  refine wpAnyH_take (i := 24) (v := ?_) (by rw [List.getElem?_toArray]; rfl) (by kernel_rfl) (by kernel_rfl) (by kernel_rfl) (by exact fun _ _ _ h => h) (Or.inl ⟨by rfl, ?_⟩) (by assumption) ?_
  rotate_left
  · intro w' hSw
    go_simp
    try with_reducible rfl
  try simp only [Act.put, List.setIfInBounds_toArray, List.set_cons_zero, List.set_cons_succ]
  refine wpAnyH_take (i := 25) (v := ?_) (by rw [List.getElem?_toArray]; rfl) (by kernel_rfl) (by kernel_rfl) (by kernel_rfl) (by exact fun _ _ _ h => h) (Or.inl ⟨by rfl, ?_⟩) (by assumption) ?_
  rotate_left
  · intro w' hSw
    obtain ⟨⟨_, q00, q01, q02, q03, q04⟩, _⟩ := hSw.1
    obtain ⟨⟨_, q10, q11, q12, q13, q14⟩, _⟩ := hSw.2
    go_simp
    try with_reducible rfl
  try simp only [Act.put, List.setIfInBounds_toArray, List.set_cons_zero, List.set_cons_succ]
  refine wpAnyH_take (i := 26) (v := ?_) (by rw [List.getElem?_toArray]; rfl) (by kernel_rfl) (by kernel_rfl) (by kernel_rfl) (by exact fun _ _ _ h => h) (Or.inl ⟨by rfl, ?_⟩) (by assumption) ?_
  rotate_left
  · intro w' hSw
    go_simp
    try with_reducible rfl
  try simp only [Act.put, List.setIfInBounds_toArray, List.set_cons_zero, List.set_cons_succ]
  refine wpAnyH_take (i := 27) (v := ?_) (by rw [List.getElem?_toArray]; rfl) (by kernel_rfl) (by kernel_rfl) (by kernel_rfl) (by exact fun _ _ _ h => h) (Or.inl ⟨by rfl, ?_⟩) (by assumption) ?_
  rotate_left
  · intro w' hSw
    go_simp
    try with_reducible rfl
  try simp only [Act.put, List.setIfInBounds_toArray, List.set_cons_zero, List.set_cons_succ]
  refine wpAnyH_take (i := 28) (v := ?_) (by rw [List.getElem?_toArray]; rfl) (by kernel_rfl) (by kernel_rfl) (by kernel_rfl) (by exact fun _ _ _ h => h) (Or.inl ⟨by rfl, ?_⟩) (by assumption) ?_
  rotate_left
  · intro w' hSw
    go_simp
    try with_reducible rfl
  try simp only [Act.put, List.setIfInBounds_toArray, List.set_cons_zero, List.set_cons_succ]
  refine wpAnyH_done (by kernel_rfl) ?_ _
  clear hHeld
  have hW : (now : Int) < (t : Int) ∨ (¬ (now : Int) < (t : Int) ∧ (bound : Int) < (now : Int) - (t : Int)) ∨ (¬ (now : Int) < (t : Int) ∧ ¬ (bound : Int) < (now : Int) - (t : Int)) := by omega
  have ewb : ¬ (now : Int) < (t : Int) → IntKind.u64.wrap ((now : Int) - (t : Int)) = (now : Int) - (t : Int) := fun h => by rw [IntKind.wrap_u64]; omega
  rcases hW with hW | ⟨hW, hW2⟩ | ⟨hW, hW2⟩
  · rw [if_pos (by omega)] at HC1
    skip
    clear ewb
    obtain ⟨⟨nS, dS0, dS1, dS2, dS3, dS4⟩, kS0, kS1, kS2, kS3, kS4⟩ := HXS.out
    go_wp2_with fail
    clear nS dS0 dS1 dS2 dS3 dS4 kS0 kS1 kS2 kS3 kS4
    with_reducible refine (HPK.out _).mono ?_
    rintro e v2 ⟨rfl, hv2⟩
    obtain rfl : w11 = v2 := hv2.symm
    dsimp only
    go_wp2_with fail
    with_reducible refine (HW1.out _).mono ?_
    rintro e w12 ⟨rfl, hb12⟩
    have HB12 := Lib.hid (Bel.call HB11.out hb12)
    replace HXS := Lib.hid (HXS.out.below hb12)
    replace HXX := Lib.hid (HXX.out.below hb12)
    clear hb12
    try dsimp only
    have NFS2 : w5.heap.size < w12.heap.size + 1 + 1 := by have := HXS.out.1.1; omega
    have NES0 : w5.heap.size ≠ w12.heap.size := by have := HXS.out.1.1; omega
    have NES1 : w5.heap.size ≠ w12.heap.size + 1 := by have := HXS.out.1.1; omega
    have NES2 : w5.heap.size ≠ w12.heap.size + 1 + 1 := by have := HXS.out.1.1; omega
    obtain ⟨⟨nS, dS0, dS1, dS2, dS3, dS4⟩, kS0, kS1, kS2, kS3, kS4⟩ := HXS.out
    go_wp2_with fail
    clear nS dS0 dS1 dS2 dS3 dS4 kS0 kS1 kS2 kS3 kS4
    have hp5 := c5_pair w12 (.string O) (.int .u64 (t' : Int)) (.int .i64 (n : Int)) (.string R) (.string G) (.string O) (.int .u64 (t : Int)) (.int .i64 (n' : Int)) (.string R) (.string G) 27 27
    generalize ((w12.alloc (.cells #[.string O, .int .u64 (t' : Int), .int .i64 (n : Int), .string R, .string G] 27)).alloc (.cells #[.string O, .int .u64 (t : Int), .int .i64 (n' : Int), .string R, .string G] 27)) = wSY at hp5 ⊢
    obtain ⟨hx0, hx1, hbS⟩ := hp5
    have HB13 := Lib.hid (Bel.call HB12.out hbS)
    replace HXS := Lib.hid (HXS.out.below hbS)
    replace HXX := Lib.hid (HXX.out.below hbS)
    have HXY : Hid (C5 (w12.heap.size) wSY (.string O) (.int .u64 (t' : Int)) (.int .i64 (n : Int)) (.string R) (.string G)) := Lib.hid hx0
    have HXZ : Hid (C5 (w12.heap.size + 1) wSY (.string O) (.int .u64 (t : Int)) (.int .i64 (n' : Int)) (.string R) (.string G)) := Lib.hid hx1
    clear hbS hx0 hx1
    clear NES0 NES1 NES2 NFS2
    have hdr : C5 w5.heap.size wSY.drew (.string O) (.int .u64 (t : Int)) (.int .i64 (n : Int)) (.string R) (.string G) ∧ C5 w8.heap.size wSY.drew (.string O) (.int .u64 (t : Int)) (.int .i64 (n : Int)) (.string R) (.string G) ∧ C5 (w12.heap.size) wSY.drew (.string O) (.int .u64 (t' : Int)) (.int .i64 (n : Int)) (.string R) (.string G) ∧ C5 (w12.heap.size + 1) wSY.drew (.string O) (.int .u64 (t : Int)) (.int .i64 (n' : Int)) (.string R) (.string G) ∧ Below wSY.heap.size wSY wSY.drew := ⟨HXS.out.below (Below.drewN' (Below.refl wSY.heap.size wSY) 1), HXX.out.below (Below.drewN' (Below.refl wSY.heap.size wSY) 1), HXY.out.below (Below.drewN' (Below.refl wSY.heap.size wSY) 1), HXZ.out.below (Below.drewN' (Below.refl wSY.heap.size wSY) 1), (Below.drewN' (Below.refl wSY.heap.size wSY) 1)⟩
    refine Ord.region_lit (S := fun w' => C5 w5.heap.size w' (.string O) (.int .u64 (t : Int)) (.int .i64 (n : Int)) (.string R) (.string G) ∧ C5 w8.heap.size w' (.string O) (.int .u64 (t : Int)) (.int .i64 (n : Int)) (.string R) (.string G) ∧ C5 (w12.heap.size) w' (.string O) (.int .u64 (t' : Int)) (.int .i64 (n : Int)) (.string R) (.string G) ∧ C5 (w12.heap.size + 1) w' (.string O) (.int .u64 (t : Int)) (.int .i64 (n' : Int)) (.string R) (.string G) ∧ Below wSY.heap.size wSY w') (by kernel_rfl) (by kernel_rfl) hdr ?_
    clear hdr
    refine Ord.stepR (v := ?_) (by rfl) ?_ ?_
    rotate_left
    · intro w' hSw
      obtain ⟨⟨_, q00, q01, q02, q03, q04⟩, _⟩ := hSw.1
      obtain ⟨⟨_, q10, q11, q12, q13, q14⟩, _⟩ := hSw.2.1
      obtain ⟨⟨_, q20, q21, q22, q23, q24⟩, _⟩ := hSw.2.2.1
      obtain ⟨⟨_, q30, q31, q32, q33, q34⟩, _⟩ := hSw.2.2.2.1
      go_simp
      try with_reducible rfl
    try simp only [Act.put, List.setIfInBounds_toArray, List.set_cons_zero, List.set_cons_succ]
    refine Ord.stepR (v := ?_) (by rfl) ?_ ?_
    rotate_left
    · intro w' hSw
      go_simp
      try with_reducible rfl
    try simp only [Act.put, List.setIfInBounds_toArray, List.set_cons_zero, List.set_cons_succ]
    refine Ord.stepC (v := .string PU) (by rfl) ?_ (fun w1 hS => (HPU.out w1).mono fun e w2 h => ⟨h.1, ⟨hS.1.below (h.2), hS.2.1.below (h.2), hS.2.2.1.below (h.2), hS.2.2.2.1.below (h.2), hS.2.2.2.2.trans ((h.2).mono hS.2.2.2.2.size)⟩⟩) ?_
    · intro w' hSw
      go_simp
      try with_reducible rfl
    try simp only [Act.put, List.setIfInBounds_toArray, List.set_cons_zero, List.set_cons_succ]
    refine Ord.stepR (v := ?_) (by rfl) ?_ ?_
    rotate_left
    · intro w' hSw
      go_simp
      try with_reducible rfl
    try simp only [Act.put, List.setIfInBounds_toArray, List.set_cons_zero, List.set_cons_succ]
    refine Ord.stepR (v := ?_) (by rfl) ?_ ?_
    rotate_left
    · intro w' hSw
      go_simp
      try with_reducible rfl
    try simp only [Act.put, List.setIfInBounds_toArray, List.set_cons_zero, List.set_cons_succ]
    refine Ord.stepR (v := ?_) (by rfl) ?_ ?_
    rotate_left
    · intro w' hSw
      go_simp
      try with_reducible rfl
    try simp only [Act.put, List.setIfInBounds_toArray, List.set_cons_zero, List.set_cons_succ]
    refine Ord.stepC (v := .int .i64 8) (by rfl) ?_ (fun w1 hS => (HC1.out w1).mono fun e w2 h => ⟨h.1, ⟨hS.1.below (h.2), hS.2.1.below (h.2), hS.2.2.1.below (h.2), hS.2.2.2.1.below (h.2), hS.2.2.2.2.trans ((h.2).mono hS.2.2.2.2.size)⟩⟩) ?_
    · intro w' hSw
      go_simp
      try with_reducible rfl
    try simp only [Act.put, List.setIfInBounds_toArray, List.set_cons_zero, List.set_cons_succ]
    refine Ord.stepR (v := ?_) (by rfl) ?_ ?_
    rotate_left
    · intro w' hSw
      go_simp
      try with_reducible rfl
    try simp only [Act.put, List.setIfInBounds_toArray, List.set_cons_zero, List.set_cons_succ]
    refine Ord.stepR (v := ?_) (by rfl) ?_ ?_
    rotate_left
    · intro w' hSw
      go_simp
      try with_reducible rfl
    try simp only [Act.put, List.setIfInBounds_toArray, List.set_cons_zero, List.set_cons_succ]
    refine Ord.stepR (v := ?_) (by rfl) ?_ ?_
    rotate_left
    · intro w' hSw
      go_simp
      try with_reducible rfl
    try simp only [Act.put, List.setIfInBounds_toArray, List.set_cons_zero, List.set_cons_succ]
    refine Ord.stepR (v := ?_) (by rfl) ?_ ?_
    rotate_left
    · intro w' hSw
      obtain ⟨⟨_, q00, q01, q02, q03, q04⟩, _⟩ := hSw.1
      obtain ⟨⟨_, q10, q11, q12, q13, q14⟩, _⟩ := hSw.2.1
      obtain ⟨⟨_, q20, q21, q22, q23, q24⟩, _⟩ := hSw.2.2.1
      obtain ⟨⟨_, q30, q31, q32, q33, q34⟩, _⟩ := hSw.2.2.2.1
      go_simp
      try with_reducible rfl
    try simp only [Act.put, List.setIfInBounds_toArray, List.set_cons_zero, List.set_cons_succ]
    refine Ord.stepR (v := ?_) (by rfl) ?_ ?_
    rotate_left
    · intro w' hSw
      go_simp
      try with_reducible rfl
    try simp only [Act.put, List.setIfInBounds_toArray, List.set_cons_zero, List.set_cons_succ]
    refine Ord.stepC (v := .string PV) (by rfl) ?_ (fun w1 hS => (HPV.out w1).mono fun e w2 h => ⟨h.1, ⟨hS.1.below (h.2), hS.2.1.below (h.2), hS.2.2.1.below (h.2), hS.2.2.2.1.below (h.2), hS.2.2.2.2.trans ((h.2).mono hS.2.2.2.2.size)⟩⟩) ?_
    · intro w' hSw
      go_simp
      try with_reducible rfl
    try simp only [Act.put, List.setIfInBounds_toArray, List.set_cons_zero, List.set_cons_succ]
    refine Ord.stepR (v := ?_) (by rfl) ?_ ?_
    rotate_left
    · intro w' hSw
      go_simp
      try with_reducible rfl
    try simp only [Act.put, List.setIfInBounds_toArray, List.set_cons_zero, List.set_cons_succ]
    refine Ord.stepR (v := ?_) (by rfl) ?_ ?_
    rotate_left
    · intro w' hSw
      go_simp
      try with_reducible rfl
    try simp only [Act.put, List.setIfInBounds_toArray, List.set_cons_zero, List.set_cons_succ]
    refine Ord.stepR (v := ?_) (by rfl) ?_ ?_
    rotate_left
    · intro w' hSw
      go_simp
      try with_reducible rfl
    try simp only [Act.put, List.setIfInBounds_toArray, List.set_cons_zero, List.set_cons_succ]
    refine Ord.stepC (v := .int .i64 7) (by rfl) ?_ (fun w1 hS => (HC2.out w1).mono fun e w2 h => ⟨h.1, ⟨hS.1.below (h.2), hS.2.1.below (h.2), hS.2.2.1.below (h.2), hS.2.2.2.1.below (h.2), hS.2.2.2.2.trans ((h.2).mono hS.2.2.2.2.size)⟩⟩) ?_
    · intro w' hSw
      go_simp
      try with_reducible rfl
    try simp only [Act.put, List.setIfInBounds_toArray, List.set_cons_zero, List.set_cons_succ]
    refine Ord.stepR (v := ?_) (by rfl) ?_ ?_
    rotate_left
    · intro w' hSw
      go_simp
      try with_reducible rfl
    try simp only [Act.put, List.setIfInBounds_toArray, List.set_cons_zero, List.set_cons_succ]
    refine Ord.stepR (v := ?_) (by rfl) ?_ ?_
    rotate_left
    · intro w' hSw
      go_simp
      try with_reducible rfl
    try simp only [Act.put, List.setIfInBounds_toArray, List.set_cons_zero, List.set_cons_succ]
    refine Ord.stepR (v := ?_) (by rfl) ?_ ?_
    rotate_left
    · intro w' hSw
      go_simp
      try with_reducible rfl
    try simp only [Act.put, List.setIfInBounds_toArray, List.set_cons_zero, List.set_cons_succ]
    refine Ord.stepR (v := ?_) (by rfl) ?_ ?_
    rotate_left
    · intro w' hSw
      obtain ⟨⟨_, q00, q01, q02, q03, q04⟩, _⟩ := hSw.1
      obtain ⟨⟨_, q10, q11, q12, q13, q14⟩, _⟩ := hSw.2.1
      obtain ⟨⟨_, q20, q21, q22, q23, q24⟩, _⟩ := hSw.2.2.1
      obtain ⟨⟨_, q30, q31, q32, q33, q34⟩, _⟩ := hSw.2.2.2.1
      go_simp
      try with_reducible rfl
    try simp only [Act.put, List.setIfInBounds_toArray, List.set_cons_zero, List.set_cons_succ]
    refine Ord.stepR (v := ?_) (by rfl) ?_ ?_
    rotate_left
    · intro w' hSw
      go_simp
      try with_reducible rfl
    try simp only [Act.put, List.setIfInBounds_toArray, List.set_cons_zero, List.set_cons_succ]
    refine Ord.stepC (v := .string PU) (by rfl) ?_ (fun w1 hS => (HPU.out w1).mono fun e w2 h => ⟨h.1, ⟨hS.1.below (h.2), hS.2.1.below (h.2), hS.2.2.1.below (h.2), hS.2.2.2.1.below (h.2), hS.2.2.2.2.trans ((h.2).mono hS.2.2.2.2.size)⟩⟩) ?_
    · intro w' hSw
      go_simp
      try with_reducible rfl
    try simp only [Act.put, List.setIfInBounds_toArray, List.set_cons_zero, List.set_cons_succ]
    refine Ord.stepR (v := ?_) (by rfl) ?_ ?_
    rotate_left
    · intro w' hSw
      go_simp
      try with_reducible rfl
    try simp only [Act.put, List.setIfInBounds_toArray, List.set_cons_zero, List.set_cons_succ]
    refine Ord.stepR (v := ?_) (by rfl) ?_ ?_
    rotate_left
    · intro w' hSw
      go_simp
      try with_reducible rfl
    try simp only [Act.put, List.setIfInBounds_toArray, List.set_cons_zero, List.set_cons_succ]
    refine Ord.stepR (v := ?_) (by rfl) ?_ ?_
    rotate_left
    · intro w' hSw
      go_simp
      try with_reducible rfl
    try simp only [Act.put, List.setIfInBounds_toArray, List.set_cons_zero, List.set_cons_succ]
    refine Ord.stepC (v := .int .i64 3) (by rfl) ?_ (fun w1 hS => (HC3.out w1).mono fun e w2 h => ⟨h.1, ⟨hS.1.below (h.2), hS.2.1.below (h.2), hS.2.2.1.below (h.2), hS.2.2.2.1.below (h.2), hS.2.2.2.2.trans ((h.2).mono hS.2.2.2.2.size)⟩⟩) ?_
    · intro w' hSw
      go_simp
      try with_reducible rfl
    try simp only [Act.put, List.setIfInBounds_toArray, List.set_cons_zero, List.set_cons_succ]
    refine Ord.stepR (v := ?_) (by rfl) ?_ ?_
    rotate_left
    · intro w' hSw
      go_simp
      try with_reducible rfl
    try simp only [Act.put, List.setIfInBounds_toArray, List.set_cons_zero, List.set_cons_succ]
    refine Ord.stepR (v := ?_) (by rfl) ?_ ?_
    rotate_left
    · intro w' hSw
      go_simp
      try with_reducible rfl
    try simp only [Act.put, List.setIfInBounds_toArray, List.set_cons_zero, List.set_cons_succ]
    refine Ord.stepR (v := ?_) (by rfl) ?_ ?_
    rotate_left
    · intro w' hSw
      go_simp
      try with_reducible rfl
    try simp only [Act.put, List.setIfInBounds_toArray, List.set_cons_zero, List.set_cons_succ]
    refine Ord.stepR (v := ?_) (by rfl) ?_ ?_
    rotate_left
    · intro w' hSw
      obtain ⟨⟨_, q00, q01, q02, q03, q04⟩, _⟩ := hSw.1
      obtain ⟨⟨_, q10, q11, q12, q13, q14⟩, _⟩ := hSw.2.1
      obtain ⟨⟨_, q20, q21, q22, q23, q24⟩, _⟩ := hSw.2.2.1
      obtain ⟨⟨_, q30, q31, q32, q33, q34⟩, _⟩ := hSw.2.2.2.1
      go_simp
      try with_reducible rfl
    try simp only [Act.put, List.setIfInBounds_toArray, List.set_cons_zero, List.set_cons_succ]
    refine Ord.stepR (v := ?_) (by rfl) ?_ ?_
    rotate_left
    · intro w' hSw
      go_simp
      try with_reducible rfl
    try simp only [Act.put, List.setIfInBounds_toArray, List.set_cons_zero, List.set_cons_succ]
    refine Ord.stepC (v := .string PU) (by rfl) ?_ (fun w1 hS => (HPU.out w1).mono fun e w2 h => ⟨h.1, ⟨hS.1.below (h.2), hS.2.1.below (h.2), hS.2.2.1.below (h.2), hS.2.2.2.1.below (h.2), hS.2.2.2.2.trans ((h.2).mono hS.2.2.2.2.size)⟩⟩) ?_
    · intro w' hSw
      go_simp
      try with_reducible rfl
    try simp only [Act.put, List.setIfInBounds_toArray, List.set_cons_zero, List.set_cons_succ]
    refine Ord.stepR (v := ?_) (by rfl) ?_ ?_
    rotate_left
    · intro w' hSw
      go_simp
      try with_reducible rfl
    try simp only [Act.put, List.setIfInBounds_toArray, List.set_cons_zero, List.set_cons_succ]
    refine Ord.stepR (v := ?_) (by rfl) ?_ ?_
    rotate_left
    · intro w' hSw
      go_simp
      try with_reducible rfl
    try simp only [Act.put, List.setIfInBounds_toArray, List.set_cons_zero, List.set_cons_succ]
    refine Ord.stepR (v := ?_) (by rfl) ?_ ?_
    rotate_left
    · intro w' hSw
      go_simp
      try with_reducible rfl
    try simp only [Act.put, List.setIfInBounds_toArray, List.set_cons_zero, List.set_cons_succ]
    refine Ord.stepC (v := .int .i64 7) (by rfl) ?_ (fun w1 hS => (HC4.out w1).mono fun e w2 h => ⟨h.1, ⟨hS.1.below (h.2), hS.2.1.below (h.2), hS.2.2.1.below (h.2), hS.2.2.2.1.below (h.2), hS.2.2.2.2.trans ((h.2).mono hS.2.2.2.2.size)⟩⟩) ?_
    · intro w' hSw
      go_simp
      try with_reducible rfl
    try simp only [Act.put, List.setIfInBounds_toArray, List.set_cons_zero, List.set_cons_succ]
    refine Ord.stepR (v := ?_) (by rfl) ?_ ?_
    rotate_left
    · intro w' hSw
      go_simp
      try with_reducible rfl
    try simp only [Act.put, List.setIfInBounds_toArray, List.set_cons_zero, List.set_cons_succ]
    refine Ord.stepR (v := ?_) (by rfl) ?_ ?_
    rotate_left
    · intro w' hSw
      go_simp
      try with_reducible rfl
    try simp only [Act.put, List.setIfInBounds_toArray, List.set_cons_zero, List.set_cons_succ]
    refine Ord.stepR (v := ?_) (by rfl) ?_ ?_
    rotate_left
    · intro w' hSw
      go_simp
      try with_reducible rfl
    try simp only [Act.put, List.setIfInBounds_toArray, List.set_cons_zero, List.set_cons_succ]
    refine Ord.stepR (v := ?_) (by rfl) ?_ ?_
    rotate_left
    · intro w' hSw
      obtain ⟨⟨_, q00, q01, q02, q03, q04⟩, _⟩ := hSw.1
      obtain ⟨⟨_, q10, q11, q12, q13, q14⟩, _⟩ := hSw.2.1
      obtain ⟨⟨_, q20, q21, q22, q23, q24⟩, _⟩ := hSw.2.2.1
      obtain ⟨⟨_, q30, q31, q32, q33, q34⟩, _⟩ := hSw.2.2.2.1
      go_simp
      try with_reducible rfl
    try simp only [Act.put, List.setIfInBounds_toArray, List.set_cons_zero, List.set_cons_succ]
    refine Ord.stepR (v := ?_) (by rfl) ?_ ?_
    rotate_left
    · intro w' hSw
      go_simp
      try with_reducible rfl
    try simp only [Act.put, List.setIfInBounds_toArray, List.set_cons_zero, List.set_cons_succ]
    refine Ord.stepC (v := .string PU) (by rfl) ?_ (fun w1 hS => (HPU.out w1).mono fun e w2 h => ⟨h.1, ⟨hS.1.below (h.2), hS.2.1.below (h.2), hS.2.2.1.below (h.2), hS.2.2.2.1.below (h.2), hS.2.2.2.2.trans ((h.2).mono hS.2.2.2.2.size)⟩⟩) ?_
    · intro w' hSw
      go_simp
      try with_reducible rfl
    try simp only [Act.put, List.setIfInBounds_toArray, List.set_cons_zero, List.set_cons_succ]
    refine Ord.stepR (v := ?_) (by rfl) ?_ ?_
    rotate_left
    · intro w' hSw
      go_simp
      try with_reducible rfl
    try simp only [Act.put, List.setIfInBounds_toArray, List.set_cons_zero, List.set_cons_succ]
    refine Ord.stepR (v := ?_) (by rfl) ?_ ?_
    rotate_left
    · intro w' hSw
      go_simp
      try with_reducible rfl
    try simp only [Act.put, List.setIfInBounds_toArray, List.set_cons_zero, List.set_cons_succ]
    refine Ord.stepR (v := ?_) (by rfl) ?_ ?_
    rotate_left
    · intro w' hSw
      go_simp
      try with_reducible rfl
    try simp only [Act.put, List.setIfInBounds_toArray, List.set_cons_zero, List.set_cons_succ]
    refine Ord.stepC (v := .int .i64 7) (by rfl) ?_ (fun w1 hS => (HC5.out w1).mono fun e w2 h => ⟨h.1, ⟨hS.1.below (h.2), hS.2.1.below (h.2), hS.2.2.1.below (h.2), hS.2.2.2.1.below (h.2), hS.2.2.2.2.trans ((h.2).mono hS.2.2.2.2.size)⟩⟩) ?_
    · intro w' hSw
      go_simp
      try with_reducible rfl
    try simp only [Act.put, List.setIfInBounds_toArray, List.set_cons_zero, List.set_cons_succ]
    refine Ord.stepR (v := ?_) (by rfl) ?_ ?_
    rotate_left
    · intro w' hSw
      go_simp
      try with_reducible rfl
    try simp only [Act.put, List.setIfInBounds_toArray, List.set_cons_zero, List.set_cons_succ]
    refine Ord.stepR (v := ?_) (by rfl) ?_ ?_
    rotate_left
    · intro w' hSw
      go_simp
      try with_reducible rfl
    try simp only [Act.put, List.setIfInBounds_toArray, List.set_cons_zero, List.set_cons_succ]
    refine Ord.stepR (v := ?_) (by rfl) ?_ ?_
    rotate_left
    · intro w' hSw
      go_simp
      try with_reducible rfl
    try simp only [Act.put, List.setIfInBounds_toArray, List.set_cons_zero, List.set_cons_succ]
    refine Ord.stepR (v := ?_) (by rfl) ?_ ?_
    rotate_left
    · intro w' hSw
      obtain ⟨⟨_, q00, q01, q02, q03, q04⟩, _⟩ := hSw.1
      obtain ⟨⟨_, q10, q11, q12, q13, q14⟩, _⟩ := hSw.2.1
      obtain ⟨⟨_, q20, q21, q22, q23, q24⟩, _⟩ := hSw.2.2.1
      obtain ⟨⟨_, q30, q31, q32, q33, q34⟩, _⟩ := hSw.2.2.2.1
      go_simp
      try with_reducible rfl
    try simp only [Act.put, List.setIfInBounds_toArray, List.set_cons_zero, List.set_cons_succ]
    refine Ord.stepR (v := ?_) (by rfl) ?_ ?_
    rotate_left
    · intro w' hSw
      go_simp
      try with_reducible rfl
    try simp only [Act.put, List.setIfInBounds_toArray, List.set_cons_zero, List.set_cons_succ]
    refine Ord.stepC (v := .string K) (by rfl) ?_ (fun w1 hS => (HS.out w1).mono fun e w2 h => ⟨h.1, ⟨hS.1.below (h.2), hS.2.1.below (h.2), hS.2.2.1.below (h.2), hS.2.2.2.1.below (h.2), hS.2.2.2.2.trans ((h.2).mono hS.2.2.2.2.size)⟩⟩) ?_
    · intro w' hSw
      go_simp
      try with_reducible rfl
    try simp only [Act.put, List.setIfInBounds_toArray, List.set_cons_zero, List.set_cons_succ]
    refine Ord.stepR (v := ?_) (by rfl) ?_ ?_
    rotate_left
    · intro w' hSw
      go_simp
      try with_reducible rfl
    try simp only [Act.put, List.setIfInBounds_toArray, List.set_cons_zero, List.set_cons_succ]
    refine Ord.stepR (v := ?_) (by rfl) ?_ ?_
    rotate_left
    · intro w' hSw
      go_simp
      try with_reducible rfl
    try simp only [Act.put, List.setIfInBounds_toArray, List.set_cons_zero, List.set_cons_succ]
    refine Ord.stepR (v := ?_) (by rfl) ?_ ?_
    rotate_left
    · intro w' hSw
      go_simp
      try with_reducible rfl
    try simp only [Act.put, List.setIfInBounds_toArray, List.set_cons_zero, List.set_cons_succ]
    refine Ord.stepC (v := .int .i64 1) (by rfl) ?_ (fun w1 hS => (HC6.out w1).mono fun e w2 h => ⟨h.1, ⟨hS.1.below (h.2), hS.2.1.below (h.2), hS.2.2.1.below (h.2), hS.2.2.2.1.below (h.2), hS.2.2.2.2.trans ((h.2).mono hS.2.2.2.2.size)⟩⟩) ?_
    · intro w' hSw
      go_simp
      try with_reducible rfl
    try simp only [Act.put, List.setIfInBounds_toArray, List.set_cons_zero, List.set_cons_succ]
    refine Ord.stepR (v := ?_) (by rfl) ?_ ?_
    rotate_left
    · intro w' hSw
      go_simp
      try with_reducible rfl
    try simp only [Act.put, List.setIfInBounds_toArray, List.set_cons_zero, List.set_cons_succ]
    refine Ord.stepR (v := ?_) (by rfl) ?_ ?_
    rotate_left
    · intro w' hSw
      go_simp
      try with_reducible rfl
    try simp only [Act.put, List.setIfInBounds_toArray, List.set_cons_zero, List.set_cons_succ]
    refine Ord.stepR (v := ?_) (by rfl) ?_ ?_
    rotate_left
    · intro w' hSw
      go_simp
      try with_reducible rfl
    try simp only [Act.put, List.setIfInBounds_toArray, List.set_cons_zero, List.set_cons_succ]
    refine Ord.stepD fun Z3 hZ => ?_
    replace HXS := Lib.hid hZ.1
    replace HXX := Lib.hid hZ.2.1
    replace HXY := Lib.hid hZ.2.2.1
    replace HXZ := Lib.hid hZ.2.2.2.1
    have HB14 := Lib.hid (Bel.call HB13.out hZ.2.2.2.2)
    clear hZ
    go_wp2
    go_ret
    exact ⟨rfl, HB14.out⟩
  · rw [if_pos (by omega)] at HC1
    have ewb' := ewb hW
    clear ewb
    obtain ⟨⟨nS, dS0, dS1, dS2, dS3, dS4⟩, kS0, kS1, kS2, kS3, kS4⟩ := HXS.out
    go_wp2_with fail
    clear nS dS0 dS1 dS2 dS3 dS4 kS0 kS1 kS2 kS3 kS4
    with_reducible refine (HPK.out _).mono ?_
    rintro e v2 ⟨rfl, hv2⟩
    obtain rfl : w11 = v2 := hv2.symm
    dsimp only
    go_wp2_with fail
    with_reducible refine (HW1.out _).mono ?_
    rintro e w12 ⟨rfl, hb12⟩
    have HB12 := Lib.hid (Bel.call HB11.out hb12)
    replace HXS := Lib.hid (HXS.out.below hb12)
    replace HXX := Lib.hid (HXX.out.below hb12)
    clear hb12
    try dsimp only
    have NFS2 : w5.heap.size < w12.heap.size + 1 + 1 := by have := HXS.out.1.1; omega
    have NES0 : w5.heap.size ≠ w12.heap.size := by have := HXS.out.1.1; omega
    have NES1 : w5.heap.size ≠ w12.heap.size + 1 := by have := HXS.out.1.1; omega
    have NES2 : w5.heap.size ≠ w12.heap.size + 1 + 1 := by have := HXS.out.1.1; omega
    obtain ⟨⟨nS, dS0, dS1, dS2, dS3, dS4⟩, kS0, kS1, kS2, kS3, kS4⟩ := HXS.out
    go_wp2_with fail
    clear nS dS0 dS1 dS2 dS3 dS4 kS0 kS1 kS2 kS3 kS4
    have hp5 := c5_pair w12 (.string O) (.int .u64 (t' : Int)) (.int .i64 (n : Int)) (.string R) (.string G) (.string O) (.int .u64 (t : Int)) (.int .i64 (n' : Int)) (.string R) (.string G) 27 27
    generalize ((w12.alloc (.cells #[.string O, .int .u64 (t' : Int), .int .i64 (n : Int), .string R, .string G] 27)).alloc (.cells #[.string O, .int .u64 (t : Int), .int .i64 (n' : Int), .string R, .string G] 27)) = wSY at hp5 ⊢
    obtain ⟨hx0, hx1, hbS⟩ := hp5
    have HB13 := Lib.hid (Bel.call HB12.out hbS)
    replace HXS := Lib.hid (HXS.out.below hbS)
    replace HXX := Lib.hid (HXX.out.below hbS)
    have HXY : Hid (C5 (w12.heap.size) wSY (.string O) (.int .u64 (t' : Int)) (.int .i64 (n : Int)) (.string R) (.string G)) := Lib.hid hx0
    have HXZ : Hid (C5 (w12.heap.size + 1) wSY (.string O) (.int .u64 (t : Int)) (.int .i64 (n' : Int)) (.string R) (.string G)) := Lib.hid hx1
    clear hbS hx0 hx1
    clear NES0 NES1 NES2 NFS2
    have hdr : C5 w5.heap.size wSY.drew (.string O) (.int .u64 (t : Int)) (.int .i64 (n : Int)) (.string R) (.string G) ∧ C5 w8.heap.size wSY.drew (.string O) (.int .u64 (t : Int)) (.int .i64 (n : Int)) (.string R) (.string G) ∧ C5 (w12.heap.size) wSY.drew (.string O) (.int .u64 (t' : Int)) (.int .i64 (n : Int)) (.string R) (.string G) ∧ C5 (w12.heap.size + 1) wSY.drew (.string O) (.int .u64 (t : Int)) (.int .i64 (n' : Int)) (.string R) (.string G) ∧ Below wSY.heap.size wSY wSY.drew := ⟨HXS.out.below (Below.drewN' (Below.refl wSY.heap.size wSY) 1), HXX.out.below (Below.drewN' (Below.refl wSY.heap.size wSY) 1), HXY.out.below (Below.drewN' (Below.refl wSY.heap.size wSY) 1), HXZ.out.below (Below.drewN' (Below.refl wSY.heap.size wSY) 1), (Below.drewN' (Below.refl wSY.heap.size wSY) 1)⟩
    refine Ord.region_lit (S := fun w' => C5 w5.heap.size w' (.string O) (.int .u64 (t : Int)) (.int .i64 (n : Int)) (.string R) (.string G) ∧ C5 w8.heap.size w' (.string O) (.int .u64 (t : Int)) (.int .i64 (n : Int)) (.string R) (.string G) ∧ C5 (w12.heap.size) w' (.string O) (.int .u64 (t' : Int)) (.int .i64 (n : Int)) (.string R) (.string G) ∧ C5 (w12.heap.size + 1) w' (.string O) (.int .u64 (t : Int)) (.int .i64 (n' : Int)) (.string R) (.string G) ∧ Below wSY.heap.size wSY w') (by kernel_rfl) (by kernel_rfl) hdr ?_
    clear hdr
    refine Ord.stepR (v := ?_) (by rfl) ?_ ?_
    rotate_left
    · intro w' hSw
      obtain ⟨⟨_, q00, q01, q02, q03, q04⟩, _⟩ := hSw.1
      obtain ⟨⟨_, q10, q11, q12, q13, q14⟩, _⟩ := hSw.2.1
      obtain ⟨⟨_, q20, q21, q22, q23, q24⟩, _⟩ := hSw.2.2.1
      obtain ⟨⟨_, q30, q31, q32, q33, q34⟩, _⟩ := hSw.2.2.2.1
      go_simp
      try with_reducible rfl
    try simp only [Act.put, List.setIfInBounds_toArray, List.set_cons_zero, List.set_cons_succ]
    refine Ord.stepR (v := ?_) (by rfl) ?_ ?_
    rotate_left
    · intro w' hSw
      go_simp
      try with_reducible rfl
    try simp only [Act.put, List.setIfInBounds_toArray, List.set_cons_zero, List.set_cons_succ]
    refine Ord.stepC (v := .string PU) (by rfl) ?_ (fun w1 hS => (HPU.out w1).mono fun e w2 h => ⟨h.1, ⟨hS.1.below (h.2), hS.2.1.below (h.2), hS.2.2.1.below (h.2), hS.2.2.2.1.below (h.2), hS.2.2.2.2.trans ((h.2).mono hS.2.2.2.2.size)⟩⟩) ?_
    · intro w' hSw
      go_simp
      try with_reducible rfl
    try simp only [Act.put, List.setIfInBounds_toArray, List.set_cons_zero, List.set_cons_succ]
    refine Ord.stepR (v := ?_) (by rfl) ?_ ?_
    rotate_left
    · intro w' hSw
      go_simp
      try with_reducible rfl
    try simp only [Act.put, List.setIfInBounds_toArray, List.set_cons_zero, List.set_cons_succ]
    refine Ord.stepR (v := ?_) (by rfl) ?_ ?_
    rotate_left
    · intro w' hSw
      go_simp
      try with_reducible rfl
    try simp only [Act.put, List.setIfInBounds_toArray, List.set_cons_zero, List.set_cons_succ]
    refine Ord.stepR (v := ?_) (by rfl) ?_ ?_
    rotate_left
    · intro w' hSw
      go_simp
      try with_reducible rfl
    try simp only [Act.put, List.setIfInBounds_toArray, List.set_cons_zero, List.set_cons_succ]
    refine Ord.stepC (v := .int .i64 8) (by rfl) ?_ (fun w1 hS => (HC1.out w1).mono fun e w2 h => ⟨h.1, ⟨hS.1.below (h.2), hS.2.1.below (h.2), hS.2.2.1.below (h.2), hS.2.2.2.1.below (h.2), hS.2.2.2.2.trans ((h.2).mono hS.2.2.2.2.size)⟩⟩) ?_
    · intro w' hSw
      go_simp
      try with_reducible rfl
    try simp only [Act.put, List.setIfInBounds_toArray, List.set_cons_zero, List.set_cons_succ]
    refine Ord.stepR (v := ?_) (by rfl) ?_ ?_
    rotate_left
    · intro w' hSw
      go_simp
      try with_reducible rfl
    try simp only [Act.put, List.setIfInBounds_toArray, List.set_cons_zero, List.set_cons_succ]
    refine Ord.stepR (v := ?_) (by rfl) ?_ ?_
    rotate_left
    · intro w' hSw
      go_simp
      try with_reducible rfl
    try simp only [Act.put, List.setIfInBounds_toArray, List.set_cons_zero, List.set_cons_succ]
    refine Ord.stepR (v := ?_) (by rfl) ?_ ?_
    rotate_left
    · intro w' hSw
      go_simp
      try with_reducible rfl
    try simp only [Act.put, List.setIfInBounds_toArray, List.set_cons_zero, List.set_cons_succ]
    refine Ord.stepR (v := ?_) (by rfl) ?_ ?_
    rotate_left
    · intro w' hSw
      obtain ⟨⟨_, q00, q01, q02, q03, q04⟩, _⟩ := hSw.1
      obtain ⟨⟨_, q10, q11, q12, q13, q14⟩, _⟩ := hSw.2.1
      obtain ⟨⟨_, q20, q21, q22, q23, q24⟩, _⟩ := hSw.2.2.1
      obtain ⟨⟨_, q30, q31, q32, q33, q34⟩, _⟩ := hSw.2.2.2.1
      go_simp
      try with_reducible rfl
    try simp only [Act.put, List.setIfInBounds_toArray, List.set_cons_zero, List.set_cons_succ]
    refine Ord.stepR (v := ?_) (by rfl) ?_ ?_
    rotate_left
    · intro w' hSw
      go_simp
      try with_reducible rfl
    try simp only [Act.put, List.setIfInBounds_toArray, List.set_cons_zero, List.set_cons_succ]
    refine Ord.stepC (v := .string PV) (by rfl) ?_ (fun w1 hS => (HPV.out w1).mono fun e w2 h => ⟨h.1, ⟨hS.1.below (h.2), hS.2.1.below (h.2), hS.2.2.1.below (h.2), hS.2.2.2.1.below (h.2), hS.2.2.2.2.trans ((h.2).mono hS.2.2.2.2.size)⟩⟩) ?_
    · intro w' hSw
      go_simp
      try with_reducible rfl
    try simp only [Act.put, List.setIfInBounds_toArray, List.set_cons_zero, List.set_cons_succ]
    refine Ord.stepR (v := ?_) (by rfl) ?_ ?_
    rotate_left
    · intro w' hSw
      go_simp
      try with_reducible rfl
    try simp only [Act.put, List.setIfInBounds_toArray, List.set_cons_zero, List.set_cons_succ]
    refine Ord.stepR (v := ?_) (by rfl) ?_ ?_
    rotate_left
    · intro w' hSw
      go_simp
      try with_reducible rfl
    try simp only [Act.put, List.setIfInBounds_toArray, List.set_cons_zero, List.set_cons_succ]
    refine Ord.stepR (v := ?_) (by rfl) ?_ ?_
    rotate_left
    · intro w' hSw
      go_simp
      try with_reducible rfl
    try simp only [Act.put, List.setIfInBounds_toArray, List.set_cons_zero, List.set_cons_succ]
    refine Ord.stepC (v := .int .i64 7) (by rfl) ?_ (fun w1 hS => (HC2.out w1).mono fun e w2 h => ⟨h.1, ⟨hS.1.below (h.2), hS.2.1.below (h.2), hS.2.2.1.below (h.2), hS.2.2.2.1.below (h.2), hS.2.2.2.2.trans ((h.2).mono hS.2.2.2.2.size)⟩⟩) ?_
    · intro w' hSw
      go_simp
      try with_reducible rfl
    try simp only [Act.put, List.setIfInBounds_toArray, List.set_cons_zero, List.set_cons_succ]
    refine Ord.stepR (v := ?_) (by rfl) ?_ ?_
    rotate_left
    · intro w' hSw
      go_simp
      try with_reducible rfl
    try simp only [Act.put, List.setIfInBounds_toArray, List.set_cons_zero, List.set_cons_succ]
    refine Ord.stepR (v := ?_) (by rfl) ?_ ?_
    rotate_left
    · intro w' hSw
      go_simp
      try with_reducible rfl
    try simp only [Act.put, List.setIfInBounds_toArray, List.set_cons_zero, List.set_cons_succ]
    refine Ord.stepR (v := ?_) (by rfl) ?_ ?_
    rotate_left
    · intro w' hSw
      go_simp
      try with_reducible rfl
    try simp only [Act.put, List.setIfInBounds_toArray, List.set_cons_zero, List.set_cons_succ]
    refine Ord.stepR (v := ?_) (by rfl) ?_ ?_
    rotate_left
    · intro w' hSw
      obtain ⟨⟨_, q00, q01, q02, q03, q04⟩, _⟩ := hSw.1
      obtain ⟨⟨_, q10, q11, q12, q13, q14⟩, _⟩ := hSw.2.1
      obtain ⟨⟨_, q20, q21, q22, q23, q24⟩, _⟩ := hSw.2.2.1
      obtain ⟨⟨_, q30, q31, q32, q33, q34⟩, _⟩ := hSw.2.2.2.1
      go_simp
      try with_reducible rfl
    try simp only [Act.put, List.setIfInBounds_toArray, List.set_cons_zero, List.set_cons_succ]
    refine Ord.stepR (v := ?_) (by rfl) ?_ ?_
    rotate_left
    · intro w' hSw
      go_simp
      try with_reducible rfl
    try simp only [Act.put, List.setIfInBounds_toArray, List.set_cons_zero, List.set_cons_succ]
    refine Ord.stepC (v := .string PU) (by rfl) ?_ (fun w1 hS => (HPU.out w1).mono fun e w2 h => ⟨h.1, ⟨hS.1.below (h.2), hS.2.1.below (h.2), hS.2.2.1.below (h.2), hS.2.2.2.1.below (h.2), hS.2.2.2.2.trans ((h.2).mono hS.2.2.2.2.size)⟩⟩) ?_
    · intro w' hSw
      go_simp
      try with_reducible rfl
    try simp only [Act.put, List.setIfInBounds_toArray, List.set_cons_zero, List.set_cons_succ]
    refine Ord.stepR (v := ?_) (by rfl) ?_ ?_
    rotate_left
    · intro w' hSw
      go_simp
      try with_reducible rfl
    try simp only [Act.put, List.setIfInBounds_toArray, List.set_cons_zero, List.set_cons_succ]
    refine Ord.stepR (v := ?_) (by rfl) ?_ ?_
    rotate_left
    · intro w' hSw
      go_simp
      try with_reducible rfl
    try simp only [Act.put, List.setIfInBounds_toArray, List.set_cons_zero, List.set_cons_succ]
    refine Ord.stepR (v := ?_) (by rfl) ?_ ?_
    rotate_left
    · intro w' hSw
      go_simp
      try with_reducible rfl
    try simp only [Act.put, List.setIfInBounds_toArray, List.set_cons_zero, List.set_cons_succ]
    refine Ord.stepC (v := .int .i64 3) (by rfl) ?_ (fun w1 hS => (HC3.out w1).mono fun e w2 h => ⟨h.1, ⟨hS.1.below (h.2), hS.2.1.below (h.2), hS.2.2.1.below (h.2), hS.2.2.2.1.below (h.2), hS.2.2.2.2.trans ((h.2).mono hS.2.2.2.2.size)⟩⟩) ?_
    · intro w' hSw
      go_simp
      try with_reducible rfl
    try simp only [Act.put, List.setIfInBounds_toArray, List.set_cons_zero, List.set_cons_succ]
    refine Ord.stepR (v := ?_) (by rfl) ?_ ?_
    rotate_left
    · intro w' hSw
      go_simp
      try with_reducible rfl
    try simp only [Act.put, List.setIfInBounds_toArray, List.set_cons_zero, List.set_cons_succ]
    refine Ord.stepR (v := ?_) (by rfl) ?_ ?_
    rotate_left
    · intro w' hSw
      go_simp
      try with_reducible rfl
    try simp only [Act.put, List.setIfInBounds_toArray, List.set_cons_zero, List.set_cons_succ]
    refine Ord.stepR (v := ?_) (by rfl) ?_ ?_
    rotate_left
    · intro w' hSw
      go_simp
      try with_reducible rfl
    try simp only [Act.put, List.setIfInBounds_toArray, List.set_cons_zero, List.set_cons_succ]
    refine Ord.stepR (v := ?_) (by rfl) ?_ ?_
    rotate_left
    · intro w' hSw
      obtain ⟨⟨_, q00, q01, q02, q03, q04⟩, _⟩ := hSw.1
      obtain ⟨⟨_, q10, q11, q12, q13, q14⟩, _⟩ := hSw.2.1
      obtain ⟨⟨_, q20, q21, q22, q23, q24⟩, _⟩ := hSw.2.2.1
      obtain ⟨⟨_, q30, q31, q32, q33, q34⟩, _⟩ := hSw.2.2.2.1
      go_simp
      try with_reducible rfl
    try simp only [Act.put, List.setIfInBounds_toArray, List.set_cons_zero, List.set_cons_succ]
    refine Ord.stepR (v := ?_) (by rfl) ?_ ?_
    rotate_left
    · intro w' hSw
      go_simp
      try with_reducible rfl
    try simp only [Act.put, List.setIfInBounds_toArray, List.set_cons_zero, List.set_cons_succ]
    refine Ord.stepC (v := .string PU) (by rfl) ?_ (fun w1 hS => (HPU.out w1).mono fun e w2 h => ⟨h.1, ⟨hS.1.below (h.2), hS.2.1.below (h.2), hS.2.2.1.below (h.2), hS.2.2.2.1.below (h.2), hS.2.2.2.2.trans ((h.2).mono hS.2.2.2.2.size)⟩⟩) ?_
    · intro w' hSw
      go_simp
      try with_reducible rfl
    try simp only [Act.put, List.setIfInBounds_toArray, List.set_cons_zero, List.set_cons_succ]
    refine Ord.stepR (v := ?_) (by rfl) ?_ ?_
    rotate_left
    · intro w' hSw
      go_simp
      try with_reducible rfl
    try simp only [Act.put, List.setIfInBounds_toArray, List.set_cons_zero, List.set_cons_succ]
    refine Ord.stepR (v := ?_) (by rfl) ?_ ?_
    rotate_left
    · intro w' hSw
      go_simp
      try with_reducible rfl
    try simp only [Act.put, List.setIfInBounds_toArray, List.set_cons_zero, List.set_cons_succ]
    refine Ord.stepR (v := ?_) (by rfl) ?_ ?_
    rotate_left
    · intro w' hSw
      go_simp
      try with_reducible rfl
    try simp only [Act.put, List.setIfInBounds_toArray, List.set_cons_zero, List.set_cons_succ]
    refine Ord.stepC (v := .int .i64 7) (by rfl) ?_ (fun w1 hS => (HC4.out w1).mono fun e w2 h => ⟨h.1, ⟨hS.1.below (h.2), hS.2.1.below (h.2), hS.2.2.1.below (h.2), hS.2.2.2.1.below (h.2), hS.2.2.2.2.trans ((h.2).mono hS.2.2.2.2.size)⟩⟩) ?_
    · intro w' hSw
      go_simp
      try with_reducible rfl
    try simp only [Act.put, List.setIfInBounds_toArray, List.set_cons_zero, List.set_cons_succ]
    refine Ord.stepR (v := ?_) (by rfl) ?_ ?_
    rotate_left
    · intro w' hSw
      go_simp
      try with_reducible rfl
    try simp only [Act.put, List.setIfInBounds_toArray, List.set_cons_zero, List.set_cons_succ]
    refine Ord.stepR (v := ?_) (by rfl) ?_ ?_
    rotate_left
    · intro w' hSw
      go_simp
      try with_reducible rfl
    try simp only [Act.put, List.setIfInBounds_toArray, List.set_cons_zero, List.set_cons_succ]
    refine Ord.stepR (v := ?_) (by rfl) ?_ ?_
    rotate_left
    · intro w' hSw
      go_simp
      try with_reducible rfl
    try simp only [Act.put, List.setIfInBounds_toArray, List.set_cons_zero, List.set_cons_succ]
    refine Ord.stepR (v := ?_) (by rfl) ?_ ?_
    rotate_left
    · intro w' hSw
      obtain ⟨⟨_, q00, q01, q02, q03, q04⟩, _⟩ := hSw.1
      obtain ⟨⟨_, q10, q11, q12, q13, q14⟩, _⟩ := hSw.2.1
      obtain ⟨⟨_, q20, q21, q22, q23, q24⟩, _⟩ := hSw.2.2.1
      obtain ⟨⟨_, q30, q31, q32, q33, q34⟩, _⟩ := hSw.2.2.2.1
      go_simp
      try with_reducible rfl
    try simp only [Act.put, List.setIfInBounds_toArray, List.set_cons_zero, List.set_cons_succ]
    refine Ord.stepR (v := ?_) (by rfl) ?_ ?_
    rotate_left
    · intro w' hSw
      go_simp
      try with_reducible rfl
    try simp only [Act.put, List.setIfInBounds_toArray, List.set_cons_zero, List.set_cons_succ]
    refine Ord.stepC (v := .string PU) (by rfl) ?_ (fun w1 hS => (HPU.out w1).mono fun e w2 h => ⟨h.1, ⟨hS.1.below (h.2), hS.2.1.below (h.2), hS.2.2.1.below (h.2), hS.2.2.2.1.below (h.2), hS.2.2.2.2.trans ((h.2).mono hS.2.2.2.2.size)⟩⟩) ?_
    · intro w' hSw
      go_simp
      try with_reducible rfl
    try simp only [Act.put, List.setIfInBounds_toArray, List.set_cons_zero, List.set_cons_succ]
    refine Ord.stepR (v := ?_) (by rfl) ?_ ?_
    rotate_left
    · intro w' hSw
      go_simp
      try with_reducible rfl
    try simp only [Act.put, List.setIfInBounds_toArray, List.set_cons_zero, List.set_cons_succ]
    refine Ord.stepR (v := ?_) (by rfl) ?_ ?_
    rotate_left
    · intro w' hSw
      go_simp
      try with_reducible rfl
    try simp only [Act.put, List.setIfInBounds_toArray, List.set_cons_zero, List.set_cons_succ]
    refine Ord.stepR (v := ?_) (by rfl) ?_ ?_
    rotate_left
    · intro w' hSw
      go_simp
      try with_reducible rfl
    try simp only [Act.put, List.setIfInBounds_toArray, List.set_cons_zero, List.set_cons_succ]
    refine Ord.stepC (v := .int .i64 7) (by rfl) ?_ (fun w1 hS => (HC5.out w1).mono fun e w2 h => ⟨h.1, ⟨hS.1.below (h.2), hS.2.1.below (h.2), hS.2.2.1.below (h.2), hS.2.2.2.1.below (h.2), hS.2.2.2.2.trans ((h.2).mono hS.2.2.2.2.size)⟩⟩) ?_
    · intro w' hSw
      go_simp
      try with_reducible rfl
    try simp only [Act.put, List.setIfInBounds_toArray, List.set_cons_zero, List.set_cons_succ]
    refine Ord.stepR (v := ?_) (by rfl) ?_ ?_
    rotate_left
    · intro w' hSw
      go_simp
      try with_reducible rfl
    try simp only [Act.put, List.setIfInBounds_toArray, List.set_cons_zero, List.set_cons_succ]
    refine Ord.stepR (v := ?_) (by rfl) ?_ ?_
    rotate_left
    · intro w' hSw
      go_simp
      try with_reducible rfl
    try simp only [Act.put, List.setIfInBounds_toArray, List.set_cons_zero, List.set_cons_succ]
    refine Ord.stepR (v := ?_) (by rfl) ?_ ?_
    rotate_left
    · intro w' hSw
      go_simp
      try with_reducible rfl
    try simp only [Act.put, List.setIfInBounds_toArray, List.set_cons_zero, List.set_cons_succ]
    refine Ord.stepR (v := ?_) (by rfl) ?_ ?_
    rotate_left
    · intro w' hSw
      obtain ⟨⟨_, q00, q01, q02, q03, q04⟩, _⟩ := hSw.1
      obtain ⟨⟨_, q10, q11, q12, q13, q14⟩, _⟩ := hSw.2.1
      obtain ⟨⟨_, q20, q21, q22, q23, q24⟩, _⟩ := hSw.2.2.1
      obtain ⟨⟨_, q30, q31, q32, q33, q34⟩, _⟩ := hSw.2.2.2.1
      go_simp
      try with_reducible rfl
    try simp only [Act.put, List.setIfInBounds_toArray, List.set_cons_zero, List.set_cons_succ]
    refine Ord.stepR (v := ?_) (by rfl) ?_ ?_
    rotate_left
    · intro w' hSw
      go_simp
      try with_reducible rfl
    try simp only [Act.put, List.setIfInBounds_toArray, List.set_cons_zero, List.set_cons_succ]
    refine Ord.stepC (v := .string K) (by rfl) ?_ (fun w1 hS => (HS.out w1).mono fun e w2 h => ⟨h.1, ⟨hS.1.below (h.2), hS.2.1.below (h.2), hS.2.2.1.below (h.2), hS.2.2.2.1.below (h.2), hS.2.2.2.2.trans ((h.2).mono hS.2.2.2.2.size)⟩⟩) ?_
    · intro w' hSw
      go_simp
      try with_reducible rfl
    try simp only [Act.put, List.setIfInBounds_toArray, List.set_cons_zero, List.set_cons_succ]
    refine Ord.stepR (v := ?_) (by rfl) ?_ ?_
    rotate_left
    · intro w' hSw
      go_simp
      try with_reducible rfl
    try simp only [Act.put, List.setIfInBounds_toArray, List.set_cons_zero, List.set_cons_succ]
    refine Ord.stepR (v := ?_) (by rfl) ?_ ?_
    rotate_left
    · intro w' hSw
      go_simp
      try with_reducible rfl
    try simp only [Act.put, List.setIfInBounds_toArray, List.set_cons_zero, List.set_cons_succ]
    refine Ord.stepR (v := ?_) (by rfl) ?_ ?_
    rotate_left
    · intro w' hSw
      go_simp
      try with_reducible rfl
    try simp only [Act.put, List.setIfInBounds_toArray, List.set_cons_zero, List.set_cons_succ]
    refine Ord.stepC (v := .int .i64 1) (by rfl) ?_ (fun w1 hS => (HC6.out w1).mono fun e w2 h => ⟨h.1, ⟨hS.1.below (h.2), hS.2.1.below (h.2), hS.2.2.1.below (h.2), hS.2.2.2.1.below (h.2), hS.2.2.2.2.trans ((h.2).mono hS.2.2.2.2.size)⟩⟩) ?_
    · intro w' hSw
      go_simp
      try with_reducible rfl
    try simp only [Act.put, List.setIfInBounds_toArray, List.set_cons_zero, List.set_cons_succ]
    refine Ord.stepR (v := ?_) (by rfl) ?_ ?_
    rotate_left
    · intro w' hSw
      go_simp
      try with_reducible rfl
    try simp only [Act.put, List.setIfInBounds_toArray, List.set_cons_zero, List.set_cons_succ]
    refine Ord.stepR (v := ?_) (by rfl) ?_ ?_
    rotate_left
    · intro w' hSw
      go_simp
      try with_reducible rfl
    try simp only [Act.put, List.setIfInBounds_toArray, List.set_cons_zero, List.set_cons_succ]
    refine Ord.stepR (v := ?_) (by rfl) ?_ ?_
    rotate_left
    · intro w' hSw
      go_simp
      try with_reducible rfl
    try simp only [Act.put, List.setIfInBounds_toArray, List.set_cons_zero, List.set_cons_succ]
    refine Ord.stepD fun Z3 hZ => ?_
    replace HXS := Lib.hid hZ.1
    replace HXX := Lib.hid hZ.2.1
    replace HXY := Lib.hid hZ.2.2.1
    replace HXZ := Lib.hid hZ.2.2.2.1
    have HB14 := Lib.hid (Bel.call HB13.out hZ.2.2.2.2)
    clear hZ
    go_wp2
    go_ret
    exact ⟨rfl, HB14.out⟩
  · rw [if_neg (by omega)] at HC1
    have ewb' := ewb hW
    clear ewb
    obtain ⟨⟨nS, dS0, dS1, dS2, dS3, dS4⟩, kS0, kS1, kS2, kS3, kS4⟩ := HXS.out
    go_wp2_with fail
    clear nS dS0 dS1 dS2 dS3 dS4 kS0 kS1 kS2 kS3 kS4
    with_reducible refine (HPK.out _).mono ?_
    rintro e v2 ⟨rfl, hv2⟩
    obtain rfl : w11 = v2 := hv2.symm
    dsimp only
    go_wp2_with fail
    with_reducible refine (HW1.out _).mono ?_
    rintro e w12 ⟨rfl, hb12⟩
    have HB12 := Lib.hid (Bel.call HB11.out hb12)
    replace HXS := Lib.hid (HXS.out.below hb12)
    replace HXX := Lib.hid (HXX.out.below hb12)
    clear hb12
    try dsimp only
    have NFS2 : w5.heap.size < w12.heap.size + 1 + 1 := by have := HXS.out.1.1; omega
    have NES0 : w5.heap.size ≠ w12.heap.size := by have := HXS.out.1.1; omega
    have NES1 : w5.heap.size ≠ w12.heap.size + 1 := by have := HXS.out.1.1; omega
    have NES2 : w5.heap.size ≠ w12.heap.size + 1 + 1 := by have := HXS.out.1.1; omega
    obtain ⟨⟨nS, dS0, dS1, dS2, dS3, dS4⟩, kS0, kS1, kS2, kS3, kS4⟩ := HXS.out
    go_wp2_with fail
    clear nS dS0 dS1 dS2 dS3 dS4 kS0 kS1 kS2 kS3 kS4
    have hp5 := c5_pair w12 (.string O) (.int .u64 (t' : Int)) (.int .i64 (n : Int)) (.string R) (.string G) (.string O) (.int .u64 (t : Int)) (.int .i64 (n' : Int)) (.string R) (.string G) 27 27
    generalize ((w12.alloc (.cells #[.string O, .int .u64 (t' : Int), .int .i64 (n : Int), .string R, .string G] 27)).alloc (.cells #[.string O, .int .u64 (t : Int), .int .i64 (n' : Int), .string R, .string G] 27)) = wSY at hp5 ⊢
    obtain ⟨hx0, hx1, hbS⟩ := hp5
    have HB13 := Lib.hid (Bel.call HB12.out hbS)
    replace HXS := Lib.hid (HXS.out.below hbS)
    replace HXX := Lib.hid (HXX.out.below hbS)
    have HXY : Hid (C5 (w12.heap.size) wSY (.string O) (.int .u64 (t' : Int)) (.int .i64 (n : Int)) (.string R) (.string G)) := Lib.hid hx0
    have HXZ : Hid (C5 (w12.heap.size + 1) wSY (.string O) (.int .u64 (t : Int)) (.int .i64 (n' : Int)) (.string R) (.string G)) := Lib.hid hx1
    clear hbS hx0 hx1
    clear NES0 NES1 NES2 NFS2
    have hdr : C5 w5.heap.size wSY.drew (.string O) (.int .u64 (t : Int)) (.int .i64 (n : Int)) (.string R) (.string G) ∧ C5 w8.heap.size wSY.drew (.string O) (.int .u64 (t : Int)) (.int .i64 (n : Int)) (.string R) (.string G) ∧ C5 (w12.heap.size) wSY.drew (.string O) (.int .u64 (t' : Int)) (.int .i64 (n : Int)) (.string R) (.string G) ∧ C5 (w12.heap.size + 1) wSY.drew (.string O) (.int .u64 (t : Int)) (.int .i64 (n' : Int)) (.string R) (.string G) ∧ Below wSY.heap.size wSY wSY.drew := ⟨HXS.out.below (Below.drewN' (Below.refl wSY.heap.size wSY) 1), HXX.out.below (Below.drewN' (Below.refl wSY.heap.size wSY) 1), HXY.out.below (Below.drewN' (Below.refl wSY.heap.size wSY) 1), HXZ.out.below (Below.drewN' (Below.refl wSY.heap.size wSY) 1), (Below.drewN' (Below.refl wSY.heap.size wSY) 1)⟩
    refine Ord.region_lit (S := fun w' => C5 w5.heap.size w' (.string O) (.int .u64 (t : Int)) (.int .i64 (n : Int)) (.string R) (.string G) ∧ C5 w8.heap.size w' (.string O) (.int .u64 (t : Int)) (.int .i64 (n : Int)) (.string R) (.string G) ∧ C5 (w12.heap.size) w' (.string O) (.int .u64 (t' : Int)) (.int .i64 (n : Int)) (.string R) (.string G) ∧ C5 (w12.heap.size + 1) w' (.string O) (.int .u64 (t : Int)) (.int .i64 (n' : Int)) (.string R) (.string G) ∧ Below wSY.heap.size wSY w') (by kernel_rfl) (by kernel_rfl) hdr ?_
    clear hdr
    refine Ord.stepR (v := ?_) (by rfl) ?_ ?_
    rotate_left
    · intro w' hSw
      obtain ⟨⟨_, q00, q01, q02, q03, q04⟩, _⟩ := hSw.1
      obtain ⟨⟨_, q10, q11, q12, q13, q14⟩, _⟩ := hSw.2.1
      obtain ⟨⟨_, q20, q21, q22, q23, q24⟩, _⟩ := hSw.2.2.1
      obtain ⟨⟨_, q30, q31, q32, q33, q34⟩, _⟩ := hSw.2.2.2.1
      go_simp
      try with_reducible rfl
    try simp only [Act.put, List.setIfInBounds_toArray, List.set_cons_zero, List.set_cons_succ]
    refine Ord.stepR (v := ?_) (by rfl) ?_ ?_
    rotate_left
    · intro w' hSw
      go_simp
      try with_reducible rfl
    try simp only [Act.put, List.setIfInBounds_toArray, List.set_cons_zero, List.set_cons_succ]
    refine Ord.stepC (v := .string PU) (by rfl) ?_ (fun w1 hS => (HPU.out w1).mono fun e w2 h => ⟨h.1, ⟨hS.1.below (h.2), hS.2.1.below (h.2), hS.2.2.1.below (h.2), hS.2.2.2.1.below (h.2), hS.2.2.2.2.trans ((h.2).mono hS.2.2.2.2.size)⟩⟩) ?_
    · intro w' hSw
      go_simp
      try with_reducible rfl
    try simp only [Act.put, List.setIfInBounds_toArray, List.set_cons_zero, List.set_cons_succ]
    refine Ord.stepR (v := ?_) (by rfl) ?_ ?_
    rotate_left
    · intro w' hSw
      go_simp
      try with_reducible rfl
    try simp only [Act.put, List.setIfInBounds_toArray, List.set_cons_zero, List.set_cons_succ]
    refine Ord.stepR (v := ?_) (by rfl) ?_ ?_
    rotate_left
    · intro w' hSw
      go_simp
      try with_reducible rfl
    try simp only [Act.put, List.setIfInBounds_toArray, List.set_cons_zero, List.set_cons_succ]
    refine Ord.stepR (v := ?_) (by rfl) ?_ ?_
    rotate_left
    · intro w' hSw
      go_simp
      try with_reducible rfl
    try simp only [Act.put, List.setIfInBounds_toArray, List.set_cons_zero, List.set_cons_succ]
    refine Ord.stepC (v := .int .i64 0) (by rfl) ?_ (fun w1 hS => (HC1.out w1).mono fun e w2 h => ⟨h.1, ⟨hS.1.below (h.2), hS.2.1.below (h.2), hS.2.2.1.below (h.2), hS.2.2.2.1.below (h.2), hS.2.2.2.2.trans ((h.2).mono hS.2.2.2.2.size)⟩⟩) ?_
    · intro w' hSw
      go_simp
      try with_reducible rfl
    try simp only [Act.put, List.setIfInBounds_toArray, List.set_cons_zero, List.set_cons_succ]
    refine Ord.stepR (v := ?_) (by rfl) ?_ ?_
    rotate_left
    · intro w' hSw
      go_simp
      try with_reducible rfl
    try simp only [Act.put, List.setIfInBounds_toArray, List.set_cons_zero, List.set_cons_succ]
    refine Ord.stepR (v := ?_) (by rfl) ?_ ?_
    rotate_left
    · intro w' hSw
      go_simp
      try with_reducible rfl
    try simp only [Act.put, List.setIfInBounds_toArray, List.set_cons_zero, List.set_cons_succ]
    refine Ord.stepR (v := ?_) (by rfl) ?_ ?_
    rotate_left
    · intro w' hSw
      go_simp
      try with_reducible rfl
    try simp only [Act.put, List.setIfInBounds_toArray, List.set_cons_zero, List.set_cons_succ]
    refine Ord.stepR (v := ?_) (by rfl) ?_ ?_
    rotate_left
    · intro w' hSw
      obtain ⟨⟨_, q00, q01, q02, q03, q04⟩, _⟩ := hSw.1
      obtain ⟨⟨_, q10, q11, q12, q13, q14⟩, _⟩ := hSw.2.1
      obtain ⟨⟨_, q20, q21, q22, q23, q24⟩, _⟩ := hSw.2.2.1
      obtain ⟨⟨_, q30, q31, q32, q33, q34⟩, _⟩ := hSw.2.2.2.1
      go_simp
      try with_reducible rfl
    try simp only [Act.put, List.setIfInBounds_toArray, List.set_cons_zero, List.set_cons_succ]
    refine Ord.stepR (v := ?_) (by rfl) ?_ ?_
    rotate_left
    · intro w' hSw
      go_simp
      try with_reducible rfl
    try simp only [Act.put, List.setIfInBounds_toArray, List.set_cons_zero, List.set_cons_succ]
    refine Ord.stepC (v := .string PV) (by rfl) ?_ (fun w1 hS => (HPV.out w1).mono fun e w2 h => ⟨h.1, ⟨hS.1.below (h.2), hS.2.1.below (h.2), hS.2.2.1.below (h.2), hS.2.2.2.1.below (h.2), hS.2.2.2.2.trans ((h.2).mono hS.2.2.2.2.size)⟩⟩) ?_
    · intro w' hSw
      go_simp
      try with_reducible rfl
    try simp only [Act.put, List.setIfInBounds_toArray, List.set_cons_zero, List.set_cons_succ]
    refine Ord.stepR (v := ?_) (by rfl) ?_ ?_
    rotate_left
    · intro w' hSw
      go_simp
      try with_reducible rfl
    try simp only [Act.put, List.setIfInBounds_toArray, List.set_cons_zero, List.set_cons_succ]
    refine Ord.stepR (v := ?_) (by rfl) ?_ ?_
    rotate_left
    · intro w' hSw
      go_simp
      try with_reducible rfl
    try simp only [Act.put, List.setIfInBounds_toArray, List.set_cons_zero, List.set_cons_succ]
    refine Ord.stepR (v := ?_) (by rfl) ?_ ?_
    rotate_left
    · intro w' hSw
      go_simp
      try with_reducible rfl
    try simp only [Act.put, List.setIfInBounds_toArray, List.set_cons_zero, List.set_cons_succ]
    refine Ord.stepC (v := .int .i64 7) (by rfl) ?_ (fun w1 hS => (HC2.out w1).mono fun e w2 h => ⟨h.1, ⟨hS.1.below (h.2), hS.2.1.below (h.2), hS.2.2.1.below (h.2), hS.2.2.2.1.below (h.2), hS.2.2.2.2.trans ((h.2).mono hS.2.2.2.2.size)⟩⟩) ?_
    · intro w' hSw
      go_simp
      try with_reducible rfl
    try simp only [Act.put, List.setIfInBounds_toArray, List.set_cons_zero, List.set_cons_succ]
    refine Ord.stepR (v := ?_) (by rfl) ?_ ?_
    rotate_left
    · intro w' hSw
      go_simp
      try with_reducible rfl
    try simp only [Act.put, List.setIfInBounds_toArray, List.set_cons_zero, List.set_cons_succ]
    refine Ord.stepR (v := ?_) (by rfl) ?_ ?_
    rotate_left
    · intro w' hSw
      go_simp
      try with_reducible rfl
    try simp only [Act.put, List.setIfInBounds_toArray, List.set_cons_zero, List.set_cons_succ]
    refine Ord.stepR (v := ?_) (by rfl) ?_ ?_
    rotate_left
    · intro w' hSw
      go_simp
      try with_reducible rfl
    try simp only [Act.put, List.setIfInBounds_toArray, List.set_cons_zero, List.set_cons_succ]
    refine Ord.stepR (v := ?_) (by rfl) ?_ ?_
    rotate_left
    · intro w' hSw
      obtain ⟨⟨_, q00, q01, q02, q03, q04⟩, _⟩ := hSw.1
      obtain ⟨⟨_, q10, q11, q12, q13, q14⟩, _⟩ := hSw.2.1
      obtain ⟨⟨_, q20, q21, q22, q23, q24⟩, _⟩ := hSw.2.2.1
      obtain ⟨⟨_, q30, q31, q32, q33, q34⟩, _⟩ := hSw.2.2.2.1
      go_simp
      try with_reducible rfl
    try simp only [Act.put, List.setIfInBounds_toArray, List.set_cons_zero, List.set_cons_succ]
    refine Ord.stepR (v := ?_) (by rfl) ?_ ?_
    rotate_left
    · intro w' hSw
      go_simp
      try with_reducible rfl
    try simp only [Act.put, List.setIfInBounds_toArray, List.set_cons_zero, List.set_cons_succ]
    refine Ord.stepC (v := .string PU) (by rfl) ?_ (fun w1 hS => (HPU.out w1).mono fun e w2 h => ⟨h.1, ⟨hS.1.below (h.2), hS.2.1.below (h.2), hS.2.2.1.below (h.2), hS.2.2.2.1.below (h.2), hS.2.2.2.2.trans ((h.2).mono hS.2.2.2.2.size)⟩⟩) ?_
    · intro w' hSw
      go_simp
      try with_reducible rfl
    try simp only [Act.put, List.setIfInBounds_toArray, List.set_cons_zero, List.set_cons_succ]
    refine Ord.stepR (v := ?_) (by rfl) ?_ ?_
    rotate_left
    · intro w' hSw
      go_simp
      try with_reducible rfl
    try simp only [Act.put, List.setIfInBounds_toArray, List.set_cons_zero, List.set_cons_succ]
    refine Ord.stepR (v := ?_) (by rfl) ?_ ?_
    rotate_left
    · intro w' hSw
      go_simp
      try with_reducible rfl
    try simp only [Act.put, List.setIfInBounds_toArray, List.set_cons_zero, List.set_cons_succ]
    refine Ord.stepR (v := ?_) (by rfl) ?_ ?_
    rotate_left
    · intro w' hSw
      go_simp
      try with_reducible rfl
    try simp only [Act.put, List.setIfInBounds_toArray, List.set_cons_zero, List.set_cons_succ]
    refine Ord.stepC (v := .int .i64 3) (by rfl) ?_ (fun w1 hS => (HC3.out w1).mono fun e w2 h => ⟨h.1, ⟨hS.1.below (h.2), hS.2.1.below (h.2), hS.2.2.1.below (h.2), hS.2.2.2.1.below (h.2), hS.2.2.2.2.trans ((h.2).mono hS.2.2.2.2.size)⟩⟩) ?_
    · intro w' hSw
      go_simp
      try with_reducible rfl
    try simp only [Act.put, List.setIfInBounds_toArray, List.set_cons_zero, List.set_cons_succ]
    refine Ord.stepR (v := ?_) (by rfl) ?_ ?_
    rotate_left
    · intro w' hSw
      go_simp
      try with_reducible rfl
    try simp only [Act.put, List.setIfInBounds_toArray, List.set_cons_zero, List.set_cons_succ]
    refine Ord.stepR (v := ?_) (by rfl) ?_ ?_
    rotate_left
    · intro w' hSw
      go_simp
      try with_reducible rfl
    try simp only [Act.put, List.setIfInBounds_toArray, List.set_cons_zero, List.set_cons_succ]
    refine Ord.stepR (v := ?_) (by rfl) ?_ ?_
    rotate_left
    · intro w' hSw
      go_simp
      try with_reducible rfl
    try simp only [Act.put, List.setIfInBounds_toArray, List.set_cons_zero, List.set_cons_succ]
    refine Ord.stepR (v := ?_) (by rfl) ?_ ?_
    rotate_left
    · intro w' hSw
      obtain ⟨⟨_, q00, q01, q02, q03, q04⟩, _⟩ := hSw.1
      obtain ⟨⟨_, q10, q11, q12, q13, q14⟩, _⟩ := hSw.2.1
      obtain ⟨⟨_, q20, q21, q22, q23, q24⟩, _⟩ := hSw.2.2.1
      obtain ⟨⟨_, q30, q31, q32, q33, q34⟩, _⟩ := hSw.2.2.2.1
      go_simp
      try with_reducible rfl
    try simp only [Act.put, List.setIfInBounds_toArray, List.set_cons_zero, List.set_cons_succ]
    refine Ord.stepR (v := ?_) (by rfl) ?_ ?_
    rotate_left
    · intro w' hSw
      go_simp
      try with_reducible rfl
    try simp only [Act.put, List.setIfInBounds_toArray, List.set_cons_zero, List.set_cons_succ]
    refine Ord.stepC (v := .string PU) (by rfl) ?_ (fun w1 hS => (HPU.out w1).mono fun e w2 h => ⟨h.1, ⟨hS.1.below (h.2), hS.2.1.below (h.2), hS.2.2.1.below (h.2), hS.2.2.2.1.below (h.2), hS.2.2.2.2.trans ((h.2).mono hS.2.2.2.2.size)⟩⟩) ?_
    · intro w' hSw
      go_simp
      try with_reducible rfl
    try simp only [Act.put, List.setIfInBounds_toArray, List.set_cons_zero, List.set_cons_succ]
    refine Ord.stepR (v := ?_) (by rfl) ?_ ?_
    rotate_left
    · intro w' hSw
      go_simp
      try with_reducible rfl
    try simp only [Act.put, List.setIfInBounds_toArray, List.set_cons_zero, List.set_cons_succ]
    refine Ord.stepR (v := ?_) (by rfl) ?_ ?_
    rotate_left
    · intro w' hSw
      go_simp
      try with_reducible rfl
    try simp only [Act.put, List.setIfInBounds_toArray, List.set_cons_zero, List.set_cons_succ]
    refine Ord.stepR (v := ?_) (by rfl) ?_ ?_
    rotate_left
    · intro w' hSw
      go_simp
      try with_reducible rfl
    try simp only [Act.put, List.setIfInBounds_toArray, List.set_cons_zero, List.set_cons_succ]
    refine Ord.stepC (v := .int .i64 7) (by rfl) ?_ (fun w1 hS => (HC4.out w1).mono fun e w2 h => ⟨h.1, ⟨hS.1.below (h.2), hS.2.1.below (h.2), hS.2.2.1.below (h.2), hS.2.2.2.1.below (h.2), hS.2.2.2.2.trans ((h.2).mono hS.2.2.2.2.size)⟩⟩) ?_
    · intro w' hSw
      go_simp
      try with_reducible rfl
    try simp only [Act.put, List.setIfInBounds_toArray, List.set_cons_zero, List.set_cons_succ]
    refine Ord.stepR (v := ?_) (by rfl) ?_ ?_
    rotate_left
    · intro w' hSw
      go_simp
      try with_reducible rfl
    try simp only [Act.put, List.setIfInBounds_toArray, List.set_cons_zero, List.set_cons_succ]
    refine Ord.stepR (v := ?_) (by rfl) ?_ ?_
    rotate_left
    · intro w' hSw
      go_simp
      try with_reducible rfl
    try simp only [Act.put, List.setIfInBounds_toArray, List.set_cons_zero, List.set_cons_succ]
    refine Ord.stepR (v := ?_) (by rfl) ?_ ?_
    rotate_left
    · intro w' hSw
      go_simp
      try with_reducible rfl
    try simp only [Act.put, List.setIfInBounds_toArray, List.set_cons_zero, List.set_cons_succ]
    refine Ord.stepR (v := ?_) (by rfl) ?_ ?_
    rotate_left
    · intro w' hSw
      obtain ⟨⟨_, q00, q01, q02, q03, q04⟩, _⟩ := hSw.1
      obtain ⟨⟨_, q10, q11, q12, q13, q14⟩, _⟩ := hSw.2.1
      obtain ⟨⟨_, q20, q21, q22, q23, q24⟩, _⟩ := hSw.2.2.1
      obtain ⟨⟨_, q30, q31, q32, q33, q34⟩, _⟩ := hSw.2.2.2.1
      go_simp
      try with_reducible rfl
    try simp only [Act.put, List.setIfInBounds_toArray, List.set_cons_zero, List.set_cons_succ]
    refine Ord.stepR (v := ?_) (by rfl) ?_ ?_
    rotate_left
    · intro w' hSw
      go_simp
      try with_reducible rfl
    try simp only [Act.put, List.setIfInBounds_toArray, List.set_cons_zero, List.set_cons_succ]
    refine Ord.stepC (v := .string PU) (by rfl) ?_ (fun w1 hS => (HPU.out w1).mono fun e w2 h => ⟨h.1, ⟨hS.1.below (h.2), hS.2.1.below (h.2), hS.2.2.1.below (h.2), hS.2.2.2.1.below (h.2), hS.2.2.2.2.trans ((h.2).mono hS.2.2.2.2.size)⟩⟩) ?_
    · intro w' hSw
      go_simp
      try with_reducible rfl
    try simp only [Act.put, List.setIfInBounds_toArray, List.set_cons_zero, List.set_cons_succ]
    refine Ord.stepR (v := ?_) (by rfl) ?_ ?_
    rotate_left
    · intro w' hSw
      go_simp
      try with_reducible rfl
    try simp only [Act.put, List.setIfInBounds_toArray, List.set_cons_zero, List.set_cons_succ]
    refine Ord.stepR (v := ?_) (by rfl) ?_ ?_
    rotate_left
    · intro w' hSw
      go_simp
      try with_reducible rfl
    try simp only [Act.put, List.setIfInBounds_toArray, List.set_cons_zero, List.set_cons_succ]
    refine Ord.stepR (v := ?_) (by rfl) ?_ ?_
    rotate_left
    · intro w' hSw
      go_simp
      try with_reducible rfl
    try simp only [Act.put, List.setIfInBounds_toArray, List.set_cons_zero, List.set_cons_succ]
    refine Ord.stepC (v := .int .i64 7) (by rfl) ?_ (fun w1 hS => (HC5.out w1).mono fun e w2 h => ⟨h.1, ⟨hS.1.below (h.2), hS.2.1.below (h.2), hS.2.2.1.below (h.2), hS.2.2.2.1.below (h.2), hS.2.2.2.2.trans ((h.2).mono hS.2.2.2.2.size)⟩⟩) ?_
    · intro w' hSw
      go_simp
      try with_reducible rfl
    try simp only [Act.put, List.setIfInBounds_toArray, List.set_cons_zero, List.set_cons_succ]
    refine Ord.stepR (v := ?_) (by rfl) ?_ ?_
    rotate_left
    · intro w' hSw
      go_simp
      try with_reducible rfl
    try simp only [Act.put, List.setIfInBounds_toArray, List.set_cons_zero, List.set_cons_succ]
    refine Ord.stepR (v := ?_) (by rfl) ?_ ?_
    rotate_left
    · intro w' hSw
      go_simp
      try with_reducible rfl
    try simp only [Act.put, List.setIfInBounds_toArray, List.set_cons_zero, List.set_cons_succ]
    refine Ord.stepR (v := ?_) (by rfl) ?_ ?_
    rotate_left
    · intro w' hSw
      go_simp
      try with_reducible rfl
    try simp only [Act.put, List.setIfInBounds_toArray, List.set_cons_zero, List.set_cons_succ]
    refine Ord.stepR (v := ?_) (by rfl) ?_ ?_
    rotate_left
    · intro w' hSw
      obtain ⟨⟨_, q00, q01, q02, q03, q04⟩, _⟩ := hSw.1
      obtain ⟨⟨_, q10, q11, q12, q13, q14⟩, _⟩ := hSw.2.1
      obtain ⟨⟨_, q20, q21, q22, q23, q24⟩, _⟩ := hSw.2.2.1
      obtain ⟨⟨_, q30, q31, q32, q33, q34⟩, _⟩ := hSw.2.2.2.1
      go_simp
      try with_reducible rfl
    try simp only [Act.put, List.setIfInBounds_toArray, List.set_cons_zero, List.set_cons_succ]
    refine Ord.stepR (v := ?_) (by rfl) ?_ ?_
    rotate_left
    · intro w' hSw
      go_simp
      try with_reducible rfl
    try simp only [Act.put, List.setIfInBounds_toArray, List.set_cons_zero, List.set_cons_succ]
    refine Ord.stepC (v := .string K) (by rfl) ?_ (fun w1 hS => (HS.out w1).mono fun e w2 h => ⟨h.1, ⟨hS.1.below (h.2), hS.2.1.below (h.2), hS.2.2.1.below (h.2), hS.2.2.2.1.below (h.2), hS.2.2.2.2.trans ((h.2).mono hS.2.2.2.2.size)⟩⟩) ?_
    · intro w' hSw
      go_simp
      try with_reducible rfl
    try simp only [Act.put, List.setIfInBounds_toArray, List.set_cons_zero, List.set_cons_succ]
    refine Ord.stepR (v := ?_) (by rfl) ?_ ?_
    rotate_left
    · intro w' hSw
      go_simp
      try with_reducible rfl
    try simp only [Act.put, List.setIfInBounds_toArray, List.set_cons_zero, List.set_cons_succ]
    refine Ord.stepR (v := ?_) (by rfl) ?_ ?_
    rotate_left
    · intro w' hSw
      go_simp
      try with_reducible rfl
    try simp only [Act.put, List.setIfInBounds_toArray, List.set_cons_zero, List.set_cons_succ]
    refine Ord.stepR (v := ?_) (by rfl) ?_ ?_
    rotate_left
    · intro w' hSw
      go_simp
      try with_reducible rfl
    try simp only [Act.put, List.setIfInBounds_toArray, List.set_cons_zero, List.set_cons_succ]
    refine Ord.stepC (v := .int .i64 1) (by rfl) ?_ (fun w1 hS => (HC6.out w1).mono fun e w2 h => ⟨h.1, ⟨hS.1.below (h.2), hS.2.1.below (h.2), hS.2.2.1.below (h.2), hS.2.2.2.1.below (h.2), hS.2.2.2.2.trans ((h.2).mono hS.2.2.2.2.size)⟩⟩) ?_
    · intro w' hSw
      go_simp
      try with_reducible rfl
    try simp only [Act.put, List.setIfInBounds_toArray, List.set_cons_zero, List.set_cons_succ]
    refine Ord.stepR (v := ?_) (by rfl) ?_ ?_
    rotate_left
    · intro w' hSw
      go_simp
      try with_reducible rfl
    try simp only [Act.put, List.setIfInBounds_toArray, List.set_cons_zero, List.set_cons_succ]
    refine Ord.stepR (v := ?_) (by rfl) ?_ ?_
    rotate_left
    · intro w' hSw
      go_simp
      try with_reducible rfl
    try simp only [Act.put, List.setIfInBounds_toArray, List.set_cons_zero, List.set_cons_succ]
    refine Ord.stepR (v := ?_) (by rfl) ?_ ?_
    rotate_left
    · intro w' hSw
      go_simp
      try with_reducible rfl
    try simp only [Act.put, List.setIfInBounds_toArray, List.set_cons_zero, List.set_cons_succ]
    refine Ord.stepD fun Z3 hZ => ?_
    replace HXS := Lib.hid hZ.1
    replace HXX := Lib.hid hZ.2.1
    replace HXY := Lib.hid hZ.2.2.1
    replace HXZ := Lib.hid hZ.2.2.2.1
    have HB14 := Lib.hid (Bel.call HB13.out hZ.2.2.2.2)
    clear hZ
    go_wp2
    go_ret
    exact ⟨rfl, HB14.out⟩
end Go.Proofs.Ytmmeklemaofmjaa.Frs
