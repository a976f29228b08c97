/-
  THE LAW DataBack, walked over the landed code. By an AI agent; no person has read it.
-/
import Derived.Test.YtjdignbmlfbdnaaQShown
namespace Go.Proofs.Ytjdignbmlfbdnaa.Dta
open Go.RowKit Wire Term Draw Reg Clo

set_option linter.unusedSimpArgs false
set_option linter.unusedVariables false
theorem tail_get {m k : Nat} (h : k + 1 < m) : (sgps m).tail.getD k [] = sgp (k + 1) := by
  rw [List.getD, List.getElem?_tail]
  exact sgps_get h
/-- A row's texts but the first. -/
theorem row_tail {w : World} {A : Option Addr} {vs : List ByteArray} {m : Nat} (hv : bl vs = sgps (m + 1)) (hr : SReads w A vs) : ∃ g off vt, A = some ⟨g, off, none⟩ ∧ bl vt = (sgps (m + 1)).tail ∧ vs.length = vt.length + 1 ∧ g < w.heap.size ∧ SReads w (some ⟨g, off + 1, none⟩) vt := by
  cases vs with
  | nil =>
    have := congrArg List.length hv
    rw [sgps_len] at this
    exact absurd this (by simp [bl])
  | cons v vt =>
    obtain ⟨g, off, e, hg, _⟩ := hr 0 (by simp)
    refine ⟨g, off, vt, e, by rw [← hv]; rfl, rfl, hg, fun j hj => ?_⟩
    obtain ⟨g2, off2, e2, hg2, hc⟩ := hr (j + 1) (by simp; omega)
    rw [e] at e2
    injection e2 with e2
    injection e2 with e3 e4 _
    subst e3; subst e4
    exact ⟨g, off + 1, rfl, hg2, by rw [show off + 1 + j = off + (j + 1) by omega, hc]; rfl⟩
theorem tail_sizes {vs : List ByteArray} {m : Nat} (h : bl vs = (sgps m).tail) (hm : m ≤ 40) : ∀ v ∈ vs, v.size ≤ 100000 := fun v hv => by
  have h1 : v.data.toList ∈ bl vs := List.mem_map.2 ⟨v, hv, rfl⟩
  rw [h] at h1
  obtain ⟨i, hi, he⟩ := List.mem_map.1 (List.mem_of_mem_tail h1)
  rw [Lib.size_eq, ← he]
  have := (sgp_sz (i := i) (by have := List.mem_range.1 hi; omega)).2
  omega
set_option maxHeartbeats 8000000 in
set_option maxRecDepth 1000000 in
theorem back_walk (root a b : Int) (C : ByteArray) (w : World) (h1 : -9223372036854775808 ≤ root ∧ root ≤ 9223372036854775807) (h2 : -9223372036854775808 ≤ a ∧ a ≤ 9223372036854775807) (h3 : -9223372036854775808 ≤ b ∧ b ≤ 9223372036854775807) :
    Calls Try.prog 3 #[.int .i64 root, .int .i64 a, .int .i64 b, .string C] w fun e w' => e = .returned (.bool true) ∧ Below w.heap.size w w' := by
  have HSH := Lib.hid fun w => shown9_any w
  by_cases h200 : 200 < C.size
  · go_enter Try.func3, Try.ntmps3
    go_wp2_with fail
    with_reducible refine (HSH.out _).mono ?_
    rintro e w1 ⟨rfl, hb1⟩
    dsimp only
    go_wp2
    go_ret
    exact ⟨rfl, hb1⟩
  have HPA : Hid (∀ w, Calls Try.prog 9 #[.int .i64 a, .int .i64 8] w fun e w' => e = .returned (.int .i64 (pk a 8 : Int)) ∧ w' = w) := Lib.hid fun w => pick9_any a 8 w h2 (by decide) (by decide)
  have HPB : Hid (∀ w, Calls Try.prog 9 #[.int .i64 b, .int .i64 8] w fun e w' => e = .returned (.int .i64 (pk b 8 : Int)) ∧ w' = w) := Lib.hid fun w => pick9_any b 8 w h3 (by decide) (by decide)
  have HRT := Lib.hid fun w => rootOf_any root w h1
  have hX := pk_lt a (n := 8) (by decide)
  have hY := pk_lt b (n := 8) (by decide)
  have hN := pk_lt root (n := 5) (by decide)
  generalize pk a 8 = X at HPA hX
  generalize pk b 8 = Y at HPB hY
  generalize pk root 5 = N at HRT hN
  have hn : N < 18446744073709551616 := by omega
  have stl : ∀ k, k ≤ 7 → (hs k (rootS N)).length ≤ 100000 := fun k hk => by have := (st_sz hn hk).2; omega
  have HST : Hid (∀ (R : ByteArray) (w : World), R.data.toList = rootS N → Calls Try.prog 10 #[.string R, .int .i64 (X : Int)] w fun e w' => Sr (hs (7 - X) (rootS N), 0) e ∧ Below w.heap.size w w') := Lib.hid fun R w hR => state_to hn (x := X) (by omega) hR w
  have HTT : Hid (∀ (R : ByteArray) (w : World), R.data.toList = rootS N → Calls Try.prog 10 #[.string R, .int .i64 (Y : Int)] w fun e w' => Sr (hs (7 - Y) (rootS N), 0) e ∧ Below w.heap.size w w') := Lib.hid fun R w hR => state_to hn (x := Y) (by omega) hR w
  have HSG : Hid (∀ (w : World), Calls Try.prog 13 #[.int .i64 (X : Int)] w fun e w' => St (sgn X) e ∧ Below w.heap.size w w') := Lib.hid fun w => signerOf_any X w (by omega)
  by_cases h64 : 64 < C.size
  · have HBD : Hid (∀ (S G : ByteArray) (w : World), S.data.toList = hs (7 - X) (rootS N) → G.data.toList = sgn X → Calls Try.prog 12 #[.string S, .int .i64 (X : Int), .string G, .string ⟨#[97, 110, 110, 97, 47, 110, 111, 116, 101, 115]⟩, .string C] w fun e w' => Bs (bzero, 10) e ∧ Below w.heap.size w w') := Lib.hid fun S G w hS hG => build_no hn (x := X) (i := X) (by omega) (by omega) hS hG (P := ⟨#[97, 110, 110, 97, 47, 110, 111, 116, 101, 115]⟩) (C := C) pN_path (by omega) (by omega) w
    have HRZ : Hid (∀ w, Calls Try.prog 14 #[.agg #[.int .i64 0, .string ⟨#[]⟩, .string ⟨#[]⟩]] w fun e w' => e = .returned (.bool false) ∧ Below w.heap.size w w') := Lib.hid fun w => by
      have := right_is zb_is (by decide) (by decide) w
      rw [decide_eq_false (show ¬ BR bzero by decide)] at this
      exact this
    go_enter Try.func3, Try.ntmps3
    go_wp2_with fail
    with_reducible refine (HSH.out _).mono ?_
    rintro e w1 ⟨rfl, hb1⟩
    have HB1 := Lib.hid hb1
    clear hb1
    dsimp only
    go_wp2_with fail
    with_reducible refine (HPA.out _).mono ?_
    rintro e v1 ⟨rfl, hv1⟩
    obtain rfl : w1 = v1 := hv1.symm
    dsimp only
    go_wp2_with fail
    with_reducible refine (HPB.out _).mono ?_
    rintro e v2 ⟨rfl, hv2⟩
    obtain rfl : w1 = v2 := hv2.symm
    dsimp only
    go_wp2_with fail
    with_reducible refine (HRT.out _).mono ?_
    rintro e w2 ⟨⟨R, hR, rfl⟩, hb2⟩
    have HB2 := Lib.hid (Bel.call HB1.out hb2)
    clear hb2
    try dsimp only at hR
    have HR := Lib.hid hR
    clear hR
    dsimp only
    go_wp2_with fail
    with_reducible refine (HST.out R _ HR.out).mono ?_
    rintro e w3 ⟨⟨S, hS, rfl⟩, hb3⟩
    have HB3 := Lib.hid (Bel.call HB2.out hb3)
    clear hb3
    try dsimp only at hS
    have HS := Lib.hid hS
    clear hS
    dsimp only
    go_wp2_with fail
    with_reducible refine (HRT.out _).mono ?_
    rintro e w4 ⟨⟨Q, hQ, rfl⟩, hb4⟩
    have HB4 := Lib.hid (Bel.call HB3.out hb4)
    clear hb4
    try dsimp only at hQ
    have HQ := Lib.hid hQ
    clear hQ
    dsimp only
    go_wp2_with fail
    with_reducible refine (HTT.out Q _ HQ.out).mono ?_
    rintro e w5 ⟨⟨T, hT, rfl⟩, hb5⟩
    have HB5 := Lib.hid (Bel.call HB4.out hb5)
    clear hb5
    try dsimp only at hT
    have HT := Lib.hid hT
    clear hT
    dsimp only
    go_wp2_with fail
    with_reducible refine (HSG.out _).mono ?_
    rintro e w6 ⟨⟨G, hG, rfl⟩, hb6⟩
    have HB6 := Lib.hid (Bel.call HB5.out hb6)
    clear hb6
    try dsimp only at hG
    have HG := Lib.hid hG
    clear hG
    dsimp only
    go_wp2_with fail
    with_reducible refine (HBD.out S G _ HS.out HG.out).mono ?_
    rintro e w7 ⟨hx, hb7⟩
    have HB7 := Lib.hid (Bel.call HB6.out hb7)
    clear hb7
    obtain rfl := bs_zero hx
    dsimp only
    go_wp2_with fail
    have hbS : Below w7.heap.size w7 (w7.alloc (.cells #[.int .i64 0, .string ⟨#[]⟩, .string ⟨#[]⟩] 29)) := (Below.refl w7.heap.size w7).alloc (Nat.le_refl _) _
    have hxS := r3_new w7 (0) ⟨#[]⟩ ⟨#[]⟩ 29
    generalize w7.alloc (.cells #[.int .i64 0, .string ⟨#[]⟩, .string ⟨#[]⟩] 29) = wSD at hbS hxS ⊢
    have HB8 := Lib.hid (Bel.call HB7.out hbS)
    have HXD := Lib.hid hxS
    clear hbS hxS
    with_reducible refine (HRZ.out _).mono ?_
    rintro e w9 ⟨rfl, hb9⟩
    have HB9 := Lib.hid (Bel.call HB8.out hb9)
    replace HXD := Lib.hid (HXD.out.below hb9)
    clear hb9
    dsimp only
    go_wp2
    go_ret
    exact ⟨rfl, HB9.out⟩
  have hbr : BR (bOf N X X (⟨#[97, 110, 110, 97, 47, 110, 111, 116, 101, 115]⟩ : ByteArray).data.toList C.data.toList) := bOf_right hn (by omega) (by omega) pN_path (by rw [← Lib.size_eq]; omega)
  have HBD : Hid (∀ (S G : ByteArray) (w : World), S.data.toList = hs (7 - X) (rootS N) → G.data.toList = sgn X → Calls Try.prog 12 #[.string S, .int .i64 (X : Int), .string G, .string ⟨#[97, 110, 110, 97, 47, 110, 111, 116, 101, 115]⟩, .string C] w fun e w' => Bs (bOf N X X (⟨#[97, 110, 110, 97, 47, 110, 111, 116, 101, 115]⟩ : ByteArray).data.toList (C : ByteArray).data.toList, 0) e ∧ Below w.heap.size w w') := Lib.hid fun S G w hS hG => build_to hn (x := X) (i := X) (by omega) (by omega) hS hG (P := ⟨#[97, 110, 110, 97, 47, 110, 111, 116, 101, 115]⟩) (C := C) (pN_path) (by omega) w
  have HVF : Hid (∀ (w : World), Calls Try.prog 18 #[.int .i64 (Y : Int)] w fun e w' => Vf (Y + 1) e w' ∧ Below w.heap.size w w') := Lib.hid fun w => by
    have := verifyOf_any (Y + 1) w (by omega)
    rw [show (((Y + 1) : Nat) : Int) - 1 = (Y : Int) by omega] at this
    exact this
  have HPU : Hid (∀ (S G : ByteArray) (w : World), S.data.toList = (bOf N X X (⟨#[97, 110, 110, 97, 47, 110, 111, 116, 101, 115]⟩ : ByteArray).data.toList C.data.toList).sl → G.data.toList = (bOf N X X (⟨#[97, 110, 110, 97, 47, 110, 111, 116, 101, 115]⟩ : ByteArray).data.toList C.data.toList).sg → Calls Try.prog 15 #[.agg #[.int .i64 (X : Int), .string S, .string G]] w fun e w' => Sr (row (bOf N X X (⟨#[97, 110, 110, 97, 47, 110, 111, 116, 101, 115]⟩ : ByteArray).data.toList C.data.toList), 0) e ∧ Below w.heap.size w w') := Lib.hid fun S G w hS hG => put_to hbr hS hG w
  have HTA : Hid (∀ (P : ByteArray) (w : World), P.data.toList = row (bOf N X X (⟨#[97, 110, 110, 97, 47, 110, 111, 116, 101, 115]⟩ : ByteArray).data.toList C.data.toList) → Calls Try.prog 16 #[.string P] w fun e w' => Bs (bOf N X X (⟨#[97, 110, 110, 97, 47, 110, 111, 116, 101, 115]⟩ : ByteArray).data.toList C.data.toList, 0) e ∧ Below w.heap.size w w') := Lib.hid fun P w hP => take_to (takeB_put hbr) hP (by rw [Lib.size_eq, hP]; have := row_small hbr; omega) w
  by_cases hxy : Y < X
  · have HO1 : Hid (∀ (S G T : ByteArray) (A : Option Addr) (c : Nat) (vs : List ByteArray) (w : World), S.data.toList = (bOf N X X (⟨#[97, 110, 110, 97, 47, 110, 111, 116, 101, 115]⟩ : ByteArray).data.toList C.data.toList).sl → G.data.toList = (bOf N X X (⟨#[97, 110, 110, 97, 47, 110, 111, 116, 101, 115]⟩ : ByteArray).data.toList C.data.toList).sg → T.data.toList = hs (7 - Y) (rootS N) → bl vs = sgps (Y + 1) → SReads w A vs → Calls Try.prog 17 #[.agg #[.int .i64 (X : Int), .string S, .string G], .slice A vs.length c, .string T, .int .i64 (Y : Int), .string ⟨#[97, 110, 110, 97, 47, 110, 111, 116, 101, 115]⟩] w fun e w' => Sr ([], 7) e ∧ Below w.heap.size w w') := Lib.hid fun S G T A c vs w hS hG hT hv hr => by
      have hbr : BR (bOf N X X (⟨#[97, 110, 110, 97, 47, 110, 111, 116, 101, 115]⟩ : ByteArray).data.toList C.data.toList) := hbr
      have hvl : vs.length ≤ 40 := by
        have := congrArg List.length hv
        simp only [bl_len', sgps_len, List.length_map, List.length_range, List.length_tail] at this
        omega
      exact open_to (b := bOf N X X (⟨#[97, 110, 110, 97, 47, 110, 111, 116, 101, 115]⟩ : ByteArray).data.toList C.data.toList) (L := sgps (Y + 1)) (q := (⟨#[97, 110, 110, 97, 47, 110, 111, 116, 101, 115]⟩ : ByteArray).data.toList) (by
        show openB (bOf N X X pN C.data.toList) (sgps (Y + 1)) (hs (7 - Y) (rootS N)) (Y : Int) pN = _
        exact open_late hn (by omega) (by omega) pN_path (by rw [← Lib.size_eq]; omega) (by omega) (by omega) (sgps_len _) (st_right hn (by omega)) (by omega)) rfl hS hG hv rfl hT rfl (seal_size hbr hS) (sig_size hbr hG) (by rw [Lib.size_eq, hT]; exact stl _ (by omega)) (by decide) (by omega) (sgps_sizes hv (by omega)) (by omega) w hr
    go_enter Try.func3, Try.ntmps3
    go_wp2_with fail
    with_reducible refine (HSH.out _).mono ?_
    rintro e w1 ⟨rfl, hb1⟩
    have HB1 := Lib.hid hb1
    clear hb1
    dsimp only
    go_wp2_with fail
    with_reducible refine (HPA.out _).mono ?_
    rintro e v1 ⟨rfl, hv1⟩
    obtain rfl : w1 = v1 := hv1.symm
    dsimp only
    go_wp2_with fail
    with_reducible refine (HPB.out _).mono ?_
    rintro e v2 ⟨rfl, hv2⟩
    obtain rfl : w1 = v2 := hv2.symm
    dsimp only
    go_wp2_with fail
    with_reducible refine (HRT.out _).mono ?_
    rintro e w2 ⟨⟨R, hR, rfl⟩, hb2⟩
    have HB2 := Lib.hid (Bel.call HB1.out hb2)
    clear hb2
    try dsimp only at hR
    have HR := Lib.hid hR
    clear hR
    dsimp only
    go_wp2_with fail
    with_reducible refine (HST.out R _ HR.out).mono ?_
    rintro e w3 ⟨⟨S, hS, rfl⟩, hb3⟩
    have HB3 := Lib.hid (Bel.call HB2.out hb3)
    clear hb3
    try dsimp only at hS
    have HS := Lib.hid hS
    clear hS
    dsimp only
    go_wp2_with fail
    with_reducible refine (HRT.out _).mono ?_
    rintro e w4 ⟨⟨Q, hQ, rfl⟩, hb4⟩
    have HB4 := Lib.hid (Bel.call HB3.out hb4)
    clear hb4
    try dsimp only at hQ
    have HQ := Lib.hid hQ
    clear hQ
    dsimp only
    go_wp2_with fail
    with_reducible refine (HTT.out Q _ HQ.out).mono ?_
    rintro e w5 ⟨⟨T, hT, rfl⟩, hb5⟩
    have HB5 := Lib.hid (Bel.call HB4.out hb5)
    clear hb5
    try dsimp only at hT
    have HT := Lib.hid hT
    clear hT
    dsimp only
    go_wp2_with fail
    with_reducible refine (HSG.out _).mono ?_
    rintro e w6 ⟨⟨G, hG, rfl⟩, hb6⟩
    have HB6 := Lib.hid (Bel.call HB5.out hb6)
    clear hb6
    try dsimp only at hG
    have HG := Lib.hid hG
    clear hG
    dsimp only
    go_wp2_with fail
    with_reducible refine (HBD.out S G _ HS.out HG.out).mono ?_
    rintro e w7 ⟨hx, hb7⟩
    have HB7 := Lib.hid (Bel.call HB6.out hb7)
    clear hb7
    obtain ⟨SD, GD, hSD, hGD, rfl⟩ := bs_bOf hx
    have HSD := Lib.hid hSD
    have HGD := Lib.hid hGD
    clear hx hSD hGD
    dsimp only
    go_wp2_with fail
    have hbS : Below w7.heap.size w7 (w7.alloc (.cells #[.int .i64 (X : Int), .string SD, .string GD] 29)) := (Below.refl w7.heap.size w7).alloc (Nat.le_refl _) _
    have hxS := r3_new w7 ((X : Int)) SD GD 29
    generalize w7.alloc (.cells #[.int .i64 (X : Int), .string SD, .string GD] 29) = wSD at hbS hxS ⊢
    have HB8 := Lib.hid (Bel.call HB7.out hbS)
    have HXD := Lib.hid hxS
    clear hbS hxS
    with_reducible refine (HPU.out SD GD _ HSD.out HGD.out).mono ?_
    rintro e w9 ⟨⟨P, hP, rfl⟩, hb9⟩
    have HB9 := Lib.hid (Bel.call HB8.out hb9)
    replace HXD := Lib.hid (HXD.out.below hb9)
    clear hb9
    try dsimp only at hP
    have HP := Lib.hid hP
    clear hP
    dsimp only
    go_wp2_with fail
    with_reducible refine (HTA.out P _ HP.out).mono ?_
    rintro e w10 ⟨hx, hb10⟩
    have HB10 := Lib.hid (Bel.call HB9.out hb10)
    replace HXD := Lib.hid (HXD.out.below hb10)
    clear hb10
    obtain ⟨SU, GU, hSU, hGU, rfl⟩ := bs_bOf hx
    have HSU := Lib.hid hSU
    have HGU := Lib.hid hGU
    clear hx hSU hGU
    dsimp only
    go_wp2_with fail
    have hbS : Below w10.heap.size w10 (w10.alloc (.cells #[.int .i64 (X : Int), .string SU, .string GU] 29)) := (Below.refl w10.heap.size w10).alloc (Nat.le_refl _) _
    have hxS := r3_new w10 ((X : Int)) SU GU 29
    generalize w10.alloc (.cells #[.int .i64 (X : Int), .string SU, .string GU] 29) = wSU at hbS hxS ⊢
    have HB11 := Lib.hid (Bel.call HB10.out hbS)
    replace HXD := Lib.hid (HXD.out.below hbS)
    have HXU := Lib.hid hxS
    clear hbS hxS
    refine wp_region_held_drew (S := fun w' => R3 w10.heap.size w' (X : Int) SU GU) (by kernel_rfl) (HXU.out.below (Below.drewN' (Below.refl wSU.heap.size wSU) 1)) (fun hHeld => ?_)
    refine wpAnyH_take (i := 0) (v := ?_) (by rw [List.getElem?_toArray]; rfl) (by kernel_rfl) (by kernel_rfl) (by kernel_rfl) (by exact fun _ _ _ h => h) (Or.inl ⟨by rfl, ?_⟩) (by assumption) ?_
    rotate_left
    · intro w' hSw
      obtain ⟨⟨_, c0, c1, c2⟩, _⟩ := hSw
      go_simp
      try with_reducible rfl
    try simp only [Act.put, List.setIfInBounds_toArray, List.set_cons_zero, List.set_cons_succ]
    refine wpAnyH_take (i := 1) (v := ?_) (by rw [List.getElem?_toArray]; rfl) (by kernel_rfl) (by kernel_rfl) (by kernel_rfl) (by exact fun _ _ _ h => h) (Or.inl ⟨by rfl, ?_⟩) (by assumption) ?_
    rotate_left
    · intro w' hSw
      obtain ⟨⟨_, c0, c1, c2⟩, _⟩ := hSw
      go_simp
      try with_reducible rfl
    try simp only [Act.put, List.setIfInBounds_toArray, List.set_cons_zero, List.set_cons_succ]
    refine wpAnyH_take (i := 3) (v := ?_) (by rw [List.getElem?_toArray]; rfl) (by kernel_rfl) (by kernel_rfl) (by kernel_rfl) (by exact fun _ _ _ h => h) (Or.inl ⟨by rfl, ?_⟩) (by assumption) ?_
    rotate_left
    · intro w' hSw
      obtain ⟨⟨_, c0, c1, c2⟩, _⟩ := hSw
      go_simp
      try with_reducible rfl
    try simp only [Act.put, List.setIfInBounds_toArray, List.set_cons_zero, List.set_cons_succ]
    refine wpAnyH_take (i := 4) (v := ?_) (by rw [List.getElem?_toArray]; rfl) (by kernel_rfl) (by kernel_rfl) (by kernel_rfl) (by exact fun _ _ _ h => h) (Or.inl ⟨by rfl, ?_⟩) (by assumption) ?_
    rotate_left
    · intro w' hSw
      obtain ⟨⟨_, c0, c1, c2⟩, _⟩ := hSw
      go_simp
      try with_reducible rfl
    try simp only [Act.put, List.setIfInBounds_toArray, List.set_cons_zero, List.set_cons_succ]
    have hdr : Below wSU.heap.size wSU wSU.drew := Below.drewN' (Below.refl wSU.heap.size wSU) 1
    clear hHeld
    generalize wSU.drew = wd12 at hdr ⊢
    have HB12 := Lib.hid (Bel.call HB11.out hdr)
    replace HXD := Lib.hid (HXD.out.below hdr)
    replace HXU := Lib.hid (HXU.out.below hdr)
    clear hdr
    refine wpAnyH_ready (rs := [2]) (by kernel_rfl) (by simp) ?_
    refine AllReadyH.cons (by rw [List.getElem?_toArray]; rfl) (fun K hK => ?_) AllReadyH.nil
    go_simp
    go_at_call 18
    with_reducible refine (HVF.out _).mono ?_
    rintro e w13 ⟨⟨AV, cV, vsV, hvs, hvn, hvc, hvr, hvz, rfl⟩, hb13⟩
    have HB13 := Lib.hid (Bel.call HB12.out hb13)
    replace HXD := Lib.hid (HXD.out.below hb13)
    replace HXU := Lib.hid (HXU.out.below hb13)
    clear hb13
    have HSV := Lib.hid hvs
    have HNV := Lib.hid hvn
    have HRV := Lib.hid hvr
    have HCV := Lib.hid hvc
    clear hvs hvn hvc hvr hvz
    dsimp only
    refine hK.out _ _ HXU.out (fun hHeld => ?_)
    try simp only [Act.put, List.setIfInBounds_toArray, List.set_cons_zero, List.set_cons_succ]
    clear hHeld
    refine wpAnyH_ready (rs := [5]) (by kernel_rfl) (by simp) ?_
    refine AllReadyH.cons (by rw [List.getElem?_toArray]; rfl) (fun K hK => ?_) AllReadyH.nil
    go_simp
    go_at_call 17
    with_reducible refine (HO1.out SU GU T _ _ _ _ HSU.out HGU.out HT.out HSV.out HRV.out).mono ?_
    rintro e w14 ⟨⟨CT, hCT, rfl⟩, hb14⟩
    have HB14 := Lib.hid (Bel.call HB13.out hb14)
    replace HXD := Lib.hid (HXD.out.below hb14)
    replace HXU := Lib.hid (HXU.out.below hb14)
    replace HRV := Lib.hid (HRV.out.below hb14 (Nat.le_refl _))
    clear hb14
    try dsimp only at hCT
    have HCT := Lib.hid hCT
    clear hCT
    dsimp only
    refine hK.out _ _ HXU.out (fun hHeld => ?_)
    try simp only [Act.put, List.setIfInBounds_toArray, List.set_cons_zero, List.set_cons_succ]
    refine wpAnyH_take (i := 6) (v := ?_) (by rw [List.getElem?_toArray]; rfl) (by kernel_rfl) (by kernel_rfl) (by kernel_rfl) (by exact fun _ _ _ h => h) (Or.inl ⟨by rfl, ?_⟩) (by assumption) ?_
    rotate_left
    · intro w' hSw
      obtain ⟨⟨_, c0, c1, c2⟩, _⟩ := hSw
      go_simp
      try with_reducible rfl
    try simp only [Act.put, List.setIfInBounds_toArray, List.set_cons_zero, List.set_cons_succ]
    refine wpAnyH_take (i := 7) (v := ?_) (by rw [List.getElem?_toArray]; rfl) (by kernel_rfl) (by kernel_rfl) (by kernel_rfl) (by exact fun _ _ _ h => h) (Or.inl ⟨by rfl, ?_⟩) (by assumption) ?_
    rotate_left
    · intro w' hSw
      obtain ⟨⟨_, c0, c1, c2⟩, _⟩ := hSw
      go_simp
      try with_reducible rfl
    try simp only [Act.put, List.setIfInBounds_toArray, List.set_cons_zero, List.set_cons_succ]
    refine wpAnyH_take (i := 8) (v := ?_) (by rw [List.getElem?_toArray]; rfl) (by kernel_rfl) (by kernel_rfl) (by kernel_rfl) (by exact fun _ _ _ h => h) (Or.inl ⟨by rfl, ?_⟩) (by assumption) ?_
    rotate_left
    · intro w' hSw
      obtain ⟨⟨_, c0, c1, c2⟩, _⟩ := hSw
      go_simp
      try with_reducible rfl
    try simp only [Act.put, List.setIfInBounds_toArray, List.set_cons_zero, List.set_cons_succ]
    refine wpAnyH_take (i := 9) (v := ?_) (by rw [List.getElem?_toArray]; rfl) (by kernel_rfl) (by kernel_rfl) (by kernel_rfl) (by exact fun _ _ _ h => h) (Or.inl ⟨by rfl, ?_⟩) (by assumption) ?_
    rotate_left
    · intro w' hSw
      obtain ⟨⟨_, c0, c1, c2⟩, _⟩ := hSw
      go_simp
      try with_reducible rfl
    try simp only [Act.put, List.setIfInBounds_toArray, List.set_cons_zero, List.set_cons_succ]
    refine wpAnyH_take (i := 10) (v := ?_) (by rw [List.getElem?_toArray]; rfl) (by kernel_rfl) (by kernel_rfl) (by kernel_rfl) (by exact fun _ _ _ h => h) (Or.inl ⟨by rfl, ?_⟩) (by assumption) ?_
    rotate_left
    · intro w' hSw
      obtain ⟨⟨_, c0, c1, c2⟩, _⟩ := hSw
      go_simp
      try with_reducible rfl
    try simp only [Act.put, List.setIfInBounds_toArray, List.set_cons_zero, List.set_cons_succ]
    refine wpAnyH_done (by kernel_rfl) ?_ _
    clear hHeld HRV
    obtain rfl : CT = ⟨#[]⟩ := str_eq HCT.out
    obtain rfl : SU = SD := str_eq (HSU.out.trans HSD.out.symm)
    obtain rfl : GU = GD := str_eq (HGU.out.trans HGD.out.symm)
    obtain ⟨⟨_, dD0, dD1, dD2⟩, kD0, kD1, kD2⟩ := HXD.out
    obtain ⟨⟨_, dU0, dU1, dU2⟩, kU0, kU1, kU2⟩ := HXU.out
    go_wp2
    go_ret
    exact ⟨rfl, HB14.out⟩
  have HO1 : Hid (∀ (S G T : ByteArray) (A : Option Addr) (c : Nat) (vs : List ByteArray) (w : World), S.data.toList = (bOf N X X (⟨#[97, 110, 110, 97, 47, 110, 111, 116, 101, 115]⟩ : ByteArray).data.toList C.data.toList).sl → G.data.toList = (bOf N X X (⟨#[97, 110, 110, 97, 47, 110, 111, 116, 101, 115]⟩ : ByteArray).data.toList C.data.toList).sg → T.data.toList = hs (7 - Y) (rootS N) → bl vs = sgps (Y + 1) → SReads w A vs → Calls Try.prog 17 #[.agg #[.int .i64 (X : Int), .string S, .string G], .slice A vs.length c, .string T, .int .i64 (Y : Int), .string ⟨#[97, 110, 110, 97, 47, 110, 111, 116, 101, 115]⟩] w fun e w' => Sr (C.data.toList, 0) e ∧ Below w.heap.size w w') := Lib.hid fun S G T A c vs w hS hG hT hv hr => by
    have hbr : BR (bOf N X X (⟨#[97, 110, 110, 97, 47, 110, 111, 116, 101, 115]⟩ : ByteArray).data.toList C.data.toList) := hbr
    have hvl : vs.length ≤ 40 := by
      have := congrArg List.length hv
      simp only [bl_len', sgps_len, List.length_map, List.length_range, List.length_tail] at this
      omega
    exact open_to (b := bOf N X X (⟨#[97, 110, 110, 97, 47, 110, 111, 116, 101, 115]⟩ : ByteArray).data.toList C.data.toList) (L := sgps (Y + 1)) (q := (⟨#[97, 110, 110, 97, 47, 110, 111, 116, 101, 115]⟩ : ByteArray).data.toList) (by
      show openB (bOf N X X pN C.data.toList) (sgps (Y + 1)) (hs (7 - Y) (rootS N)) (Y : Int) pN = _
      rw [open_is hn (by omega) (by omega) pN_path (by rw [← Lib.size_eq]; omega) (by omega) (j := X) (by omega) (sgps_len _) (by omega) (sgps_get (by omega)), if_pos ⟨rfl, rfl⟩]) rfl hS hG hv rfl hT rfl (seal_size hbr hS) (sig_size hbr hG) (by rw [Lib.size_eq, hT]; exact stl _ (by omega)) (by decide) (by omega) (sgps_sizes hv (by omega)) (by omega) w hr
  have HO2 : Hid (∀ (S G T : ByteArray) (A : Option Addr) (c : Nat) (vs : List ByteArray) (w : World), S.data.toList = (bOf N X X (⟨#[97, 110, 110, 97, 47, 110, 111, 116, 101, 115]⟩ : ByteArray).data.toList C.data.toList).sl → G.data.toList = (bOf N X X (⟨#[97, 110, 110, 97, 47, 110, 111, 116, 101, 115]⟩ : ByteArray).data.toList C.data.toList).sg → T.data.toList = hs (7 - Y) (rootS N) → bl vs = sgps (Y + 1) → SReads w A vs → Calls Try.prog 17 #[.agg #[.int .i64 (X : Int), .string S, .string G], .slice A vs.length c, .string T, .int .i64 (Y : Int), .string ⟨#[97, 110, 110, 97, 47, 110, 111, 116, 101]⟩] w fun e w' => Sr ([], 7) e ∧ Below w.heap.size w w') := Lib.hid fun S G T A c vs w hS hG hT hv hr => by
    have hbr : BR (bOf N X X (⟨#[97, 110, 110, 97, 47, 110, 111, 116, 101, 115]⟩ : ByteArray).data.toList C.data.toList) := hbr
    have hvl : vs.length ≤ 40 := by
      have := congrArg List.length hv
      simp only [bl_len', sgps_len, List.length_map, List.length_range, List.length_tail] at this
      omega
    exact open_to (b := bOf N X X (⟨#[97, 110, 110, 97, 47, 110, 111, 116, 101, 115]⟩ : ByteArray).data.toList C.data.toList) (L := sgps (Y + 1)) (q := (⟨#[97, 110, 110, 97, 47, 110, 111, 116, 101]⟩ : ByteArray).data.toList) (by
      show openB (bOf N X X pN C.data.toList) (sgps (Y + 1)) (hs (7 - Y) (rootS N)) (Y : Int) pT = _
      rw [open_is hn (by omega) (by omega) pN_path (by rw [← Lib.size_eq]; omega) (by omega) (j := X) (by omega) (sgps_len _) (by omega) (sgps_get (by omega)), if_neg (fun h => pN_ne h.2)]) rfl hS hG hv rfl hT rfl (seal_size hbr hS) (sig_size hbr hG) (by rw [Lib.size_eq, hT]; exact stl _ (by omega)) (by decide) (by omega) (sgps_sizes hv (by omega)) (by omega) w hr
  have HO3 : Hid (∀ (S G T : ByteArray) (A : Option Addr) (c : Nat) (vs : List ByteArray) (w : World), S.data.toList = (bOf N X X (⟨#[97, 110, 110, 97, 47, 110, 111, 116, 101, 115]⟩ : ByteArray).data.toList C.data.toList).sl → G.data.toList = (bOf N X X (⟨#[97, 110, 110, 97, 47, 110, 111, 116, 101, 115]⟩ : ByteArray).data.toList C.data.toList).sg → T.data.toList = hs (7 - Y) (rootS N) → bl vs = (sgps (Y + 2)).tail → SReads w A vs → Calls Try.prog 17 #[.agg #[.int .i64 (X : Int), .string S, .string G], .slice A vs.length c, .string T, .int .i64 (Y : Int), .string ⟨#[97, 110, 110, 97, 47, 110, 111, 116, 101, 115]⟩] w fun e w' => Sr ([], 7) e ∧ Below w.heap.size w w') := Lib.hid fun S G T A c vs w hS hG hT hv hr => by
    have hbr : BR (bOf N X X (⟨#[97, 110, 110, 97, 47, 110, 111, 116, 101, 115]⟩ : ByteArray).data.toList C.data.toList) := hbr
    have hvl : vs.length ≤ 40 := by
      have := congrArg List.length hv
      simp only [bl_len', sgps_len, List.length_map, List.length_range, List.length_tail] at this
      omega
    exact open_to (b := bOf N X X (⟨#[97, 110, 110, 97, 47, 110, 111, 116, 101, 115]⟩ : ByteArray).data.toList C.data.toList) (L := (sgps (Y + 2)).tail) (q := (⟨#[97, 110, 110, 97, 47, 110, 111, 116, 101, 115]⟩ : ByteArray).data.toList) (by
      show openB (bOf N X X pN C.data.toList) ((sgps (Y + 2)).tail) (hs (7 - Y) (rootS N)) (Y : Int) pN = _
      rw [open_is hn (by omega) (by omega) pN_path (by rw [← Lib.size_eq]; omega) (by omega) (j := X + 1) (by omega) (by rw [List.length_tail, sgps_len]; omega) (by omega) (tail_get (by omega)), if_neg (fun h => absurd h.1 (by omega))]) rfl hS hG hv rfl hT rfl (seal_size hbr hS) (sig_size hbr hG) (by rw [Lib.size_eq, hT]; exact stl _ (by omega)) (by decide) (by omega) (tail_sizes hv (by omega)) (by omega) w hr
  have HVG : Hid (∀ (w : World), Calls Try.prog 18 #[.int .i64 ((Y : Int) + 1)] w fun e w' => Vf (Y + 2) e w' ∧ Below w.heap.size w w') := Lib.hid fun w => by
    have := verifyOf_any (Y + 2) w (by omega)
    rw [show (((Y + 2) : Nat) : Int) - 1 = ((Y : Int) + 1) by omega] at this
    exact this
  have hw1 : IntKind.i64.wrap ((Y : Int) + 1) = (Y : Int) + 1 := by rw [IntKind.wrap_i64]; omega
  by_cases hne : X = Y
  · subst hne
    have HO4 : Hid (∀ (S G T : ByteArray) (A : Option Addr) (c : Nat) (vs : List ByteArray) (w : World), S.data.toList = (bOf N X X (⟨#[97, 110, 110, 97, 47, 110, 111, 116, 101, 115]⟩ : ByteArray).data.toList C.data.toList).sl → G.data.toList = (bOf N X X (⟨#[97, 110, 110, 97, 47, 110, 111, 116, 101, 115]⟩ : ByteArray).data.toList C.data.toList).sg → T.data.toList = hs (7 - X) (rootS N) → bl vs = sgps (X + 1) → SReads w A vs → Calls Try.prog 17 #[.agg #[.int .i64 (X : Int), .string S, .string G], .slice A vs.length c, .string T, .int .i64 (X : Int), .string ⟨#[97, 110, 110, 97, 47, 110, 111, 116, 101, 115]⟩] w fun e w' => Sr (C.data.toList, 0) e ∧ Below w.heap.size w w') := Lib.hid fun S G T A c vs w hS hG hT hv hr => by
      have hbr : BR (bOf N X X (⟨#[97, 110, 110, 97, 47, 110, 111, 116, 101, 115]⟩ : ByteArray).data.toList C.data.toList) := hbr
      have hvl : vs.length ≤ 40 := by
        have := congrArg List.length hv
        simp only [bl_len', sgps_len, List.length_map, List.length_range, List.length_tail] at this
        omega
      exact open_to (b := bOf N X X (⟨#[97, 110, 110, 97, 47, 110, 111, 116, 101, 115]⟩ : ByteArray).data.toList C.data.toList) (L := sgps (X + 1)) (q := (⟨#[97, 110, 110, 97, 47, 110, 111, 116, 101, 115]⟩ : ByteArray).data.toList) (by
        show openB (bOf N X X pN C.data.toList) (sgps (X + 1)) (hs (7 - X) (rootS N)) (X : Int) pN = _
        rw [open_is hn (by omega) (by omega) pN_path (by rw [← Lib.size_eq]; omega) (by omega) (j := X) (by omega) (sgps_len _) (by omega) (sgps_get (by omega)), if_pos ⟨rfl, rfl⟩]) rfl hS hG hv rfl hT rfl (seal_size hbr hS) (sig_size hbr hG) (by rw [Lib.size_eq, hT]; exact stl _ (by omega)) (by decide) (by omega) (sgps_sizes hv (by omega)) (by omega) w hr
    go_enter Try.func3, Try.ntmps3
    go_wp2_with fail
    with_reducible refine (HSH.out _).mono ?_
    rintro e w1 ⟨rfl, hb1⟩
    have HB1 := Lib.hid hb1
    clear hb1
    dsimp only
    go_wp2_with fail
    with_reducible refine (HPA.out _).mono ?_
    rintro e v1 ⟨rfl, hv1⟩
    obtain rfl : w1 = v1 := hv1.symm
    dsimp only
    go_wp2_with fail
    with_reducible refine (HPB.out _).mono ?_
    rintro e v2 ⟨rfl, hv2⟩
    obtain rfl : w1 = v2 := hv2.symm
    dsimp only
    go_wp2_with fail
    with_reducible refine (HRT.out _).mono ?_
    rintro e w2 ⟨⟨R, hR, rfl⟩, hb2⟩
    have HB2 := Lib.hid (Bel.call HB1.out hb2)
    clear hb2
    try dsimp only at hR
    have HR := Lib.hid hR
    clear hR
    dsimp only
    go_wp2_with fail
    with_reducible refine (HST.out R _ HR.out).mono ?_
    rintro e w3 ⟨⟨S, hS, rfl⟩, hb3⟩
    have HB3 := Lib.hid (Bel.call HB2.out hb3)
    clear hb3
    try dsimp only at hS
    have HS := Lib.hid hS
    clear hS
    dsimp only
    go_wp2_with fail
    with_reducible refine (HRT.out _).mono ?_
    rintro e w4 ⟨⟨Q, hQ, rfl⟩, hb4⟩
    have HB4 := Lib.hid (Bel.call HB3.out hb4)
    clear hb4
    try dsimp only at hQ
    have HQ := Lib.hid hQ
    clear hQ
    dsimp only
    go_wp2_with fail
    with_reducible refine (HTT.out Q _ HQ.out).mono ?_
    rintro e w5 ⟨⟨T, hT, rfl⟩, hb5⟩
    have HB5 := Lib.hid (Bel.call HB4.out hb5)
    clear hb5
    try dsimp only at hT
    have HT := Lib.hid hT
    clear hT
    dsimp only
    go_wp2_with fail
    with_reducible refine (HSG.out _).mono ?_
    rintro e w6 ⟨⟨G, hG, rfl⟩, hb6⟩
    have HB6 := Lib.hid (Bel.call HB5.out hb6)
    clear hb6
    try dsimp only at hG
    have HG := Lib.hid hG
    clear hG
    dsimp only
    go_wp2_with fail
    with_reducible refine (HBD.out S G _ HS.out HG.out).mono ?_
    rintro e w7 ⟨hx, hb7⟩
    have HB7 := Lib.hid (Bel.call HB6.out hb7)
    clear hb7
    obtain ⟨SD, GD, hSD, hGD, rfl⟩ := bs_bOf hx
    have HSD := Lib.hid hSD
    have HGD := Lib.hid hGD
    clear hx hSD hGD
    dsimp only
    go_wp2_with fail
    have hbS : Below w7.heap.size w7 (w7.alloc (.cells #[.int .i64 (X : Int), .string SD, .string GD] 29)) := (Below.refl w7.heap.size w7).alloc (Nat.le_refl _) _
    have hxS := r3_new w7 ((X : Int)) SD GD 29
    generalize w7.alloc (.cells #[.int .i64 (X : Int), .string SD, .string GD] 29) = wSD at hbS hxS ⊢
    have HB8 := Lib.hid (Bel.call HB7.out hbS)
    have HXD := Lib.hid hxS
    clear hbS hxS
    with_reducible refine (HPU.out SD GD _ HSD.out HGD.out).mono ?_
    rintro e w9 ⟨⟨P, hP, rfl⟩, hb9⟩
    have HB9 := Lib.hid (Bel.call HB8.out hb9)
    replace HXD := Lib.hid (HXD.out.below hb9)
    clear hb9
    try dsimp only at hP
    have HP := Lib.hid hP
    clear hP
    dsimp only
    go_wp2_with fail
    with_reducible refine (HTA.out P _ HP.out).mono ?_
    rintro e w10 ⟨hx, hb10⟩
    have HB10 := Lib.hid (Bel.call HB9.out hb10)
    replace HXD := Lib.hid (HXD.out.below hb10)
    clear hb10
    obtain ⟨SU, GU, hSU, hGU, rfl⟩ := bs_bOf hx
    have HSU := Lib.hid hSU
    have HGU := Lib.hid hGU
    clear hx hSU hGU
    dsimp only
    go_wp2_with fail
    have hbS : Below w10.heap.size w10 (w10.alloc (.cells #[.int .i64 (X : Int), .string SU, .string GU] 29)) := (Below.refl w10.heap.size w10).alloc (Nat.le_refl _) _
    have hxS := r3_new w10 ((X : Int)) SU GU 29
    generalize w10.alloc (.cells #[.int .i64 (X : Int), .string SU, .string GU] 29) = wSU at hbS hxS ⊢
    have HB11 := Lib.hid (Bel.call HB10.out hbS)
    replace HXD := Lib.hid (HXD.out.below hbS)
    have HXU := Lib.hid hxS
    clear hbS hxS
    refine wp_region_held_drew (S := fun w' => R3 w10.heap.size w' (X : Int) SU GU) (by kernel_rfl) (HXU.out.below (Below.drewN' (Below.refl wSU.heap.size wSU) 1)) (fun hHeld => ?_)
    refine wpAnyH_take (i := 0) (v := ?_) (by rw [List.getElem?_toArray]; rfl) (by kernel_rfl) (by kernel_rfl) (by kernel_rfl) (by exact fun _ _ _ h => h) (Or.inl ⟨by rfl, ?_⟩) (by assumption) ?_
    rotate_left
    · intro w' hSw
      obtain ⟨⟨_, c0, c1, c2⟩, _⟩ := hSw
      go_simp
      try with_reducible rfl
    try simp only [Act.put, List.setIfInBounds_toArray, List.set_cons_zero, List.set_cons_succ]
    refine wpAnyH_take (i := 1) (v := ?_) (by rw [List.getElem?_toArray]; rfl) (by kernel_rfl) (by kernel_rfl) (by kernel_rfl) (by exact fun _ _ _ h => h) (Or.inl ⟨by rfl, ?_⟩) (by assumption) ?_
    rotate_left
    · intro w' hSw
      obtain ⟨⟨_, c0, c1, c2⟩, _⟩ := hSw
      go_simp
      try with_reducible rfl
    try simp only [Act.put, List.setIfInBounds_toArray, List.set_cons_zero, List.set_cons_succ]
    refine wpAnyH_take (i := 3) (v := ?_) (by rw [List.getElem?_toArray]; rfl) (by kernel_rfl) (by kernel_rfl) (by kernel_rfl) (by exact fun _ _ _ h => h) (Or.inl ⟨by rfl, ?_⟩) (by assumption) ?_
    rotate_left
    · intro w' hSw
      obtain ⟨⟨_, c0, c1, c2⟩, _⟩ := hSw
      go_simp
      try with_reducible rfl
    try simp only [Act.put, List.setIfInBounds_toArray, List.set_cons_zero, List.set_cons_succ]
    refine wpAnyH_take (i := 4) (v := ?_) (by rw [List.getElem?_toArray]; rfl) (by kernel_rfl) (by kernel_rfl) (by kernel_rfl) (by exact fun _ _ _ h => h) (Or.inl ⟨by rfl, ?_⟩) (by assumption) ?_
    rotate_left
    · intro w' hSw
      obtain ⟨⟨_, c0, c1, c2⟩, _⟩ := hSw
      go_simp
      try with_reducible rfl
    try simp only [Act.put, List.setIfInBounds_toArray, List.set_cons_zero, List.set_cons_succ]
    have hdr : Below wSU.heap.size wSU wSU.drew := Below.drewN' (Below.refl wSU.heap.size wSU) 1
    clear hHeld
    generalize wSU.drew = wd12 at hdr ⊢
    have HB12 := Lib.hid (Bel.call HB11.out hdr)
    replace HXD := Lib.hid (HXD.out.below hdr)
    replace HXU := Lib.hid (HXU.out.below hdr)
    clear hdr
    refine wpAnyH_ready (rs := [2]) (by kernel_rfl) (by simp) ?_
    refine AllReadyH.cons (by rw [List.getElem?_toArray]; rfl) (fun K hK => ?_) AllReadyH.nil
    go_simp
    go_at_call 18
    with_reducible refine (HVF.out _).mono ?_
    rintro e w13 ⟨⟨AV, cV, vsV, hvs, hvn, hvc, hvr, hvz, rfl⟩, hb13⟩
    have HB13 := Lib.hid (Bel.call HB12.out hb13)
    replace HXD := Lib.hid (HXD.out.below hb13)
    replace HXU := Lib.hid (HXU.out.below hb13)
    clear hb13
    have HSV := Lib.hid hvs
    have HNV := Lib.hid hvn
    have HRV := Lib.hid hvr
    have HCV := Lib.hid hvc
    clear hvs hvn hvc hvr hvz
    dsimp only
    refine hK.out _ _ HXU.out (fun hHeld => ?_)
    try simp only [Act.put, List.setIfInBounds_toArray, List.set_cons_zero, List.set_cons_succ]
    clear hHeld
    refine wpAnyH_ready (rs := [5]) (by kernel_rfl) (by simp) ?_
    refine AllReadyH.cons (by rw [List.getElem?_toArray]; rfl) (fun K hK => ?_) AllReadyH.nil
    go_simp
    go_at_call 17
    with_reducible refine (HO1.out SU GU T _ _ _ _ HSU.out HGU.out HT.out HSV.out HRV.out).mono ?_
    rintro e w14 ⟨⟨CT, hCT, rfl⟩, hb14⟩
    have HB14 := Lib.hid (Bel.call HB13.out hb14)
    replace HXD := Lib.hid (HXD.out.below hb14)
    replace HXU := Lib.hid (HXU.out.below hb14)
    replace HRV := Lib.hid (HRV.out.below hb14 (Nat.le_refl _))
    clear hb14
    try dsimp only at hCT
    have HCT := Lib.hid hCT
    clear hCT
    dsimp only
    refine hK.out _ _ HXU.out (fun hHeld => ?_)
    try simp only [Act.put, List.setIfInBounds_toArray, List.set_cons_zero, List.set_cons_succ]
    refine wpAnyH_take (i := 6) (v := ?_) (by rw [List.getElem?_toArray]; rfl) (by kernel_rfl) (by kernel_rfl) (by kernel_rfl) (by exact fun _ _ _ h => h) (Or.inl ⟨by rfl, ?_⟩) (by assumption) ?_
    rotate_left
    · intro w' hSw
      obtain ⟨⟨_, c0, c1, c2⟩, _⟩ := hSw
      go_simp
      try with_reducible rfl
    try simp only [Act.put, List.setIfInBounds_toArray, List.set_cons_zero, List.set_cons_succ]
    refine wpAnyH_take (i := 7) (v := ?_) (by rw [List.getElem?_toArray]; rfl) (by kernel_rfl) (by kernel_rfl) (by kernel_rfl) (by exact fun _ _ _ h => h) (Or.inl ⟨by rfl, ?_⟩) (by assumption) ?_
    rotate_left
    · intro w' hSw
      obtain ⟨⟨_, c0, c1, c2⟩, _⟩ := hSw
      go_simp
      try with_reducible rfl
    try simp only [Act.put, List.setIfInBounds_toArray, List.set_cons_zero, List.set_cons_succ]
    refine wpAnyH_take (i := 8) (v := ?_) (by rw [List.getElem?_toArray]; rfl) (by kernel_rfl) (by kernel_rfl) (by kernel_rfl) (by exact fun _ _ _ h => h) (Or.inl ⟨by rfl, ?_⟩) (by assumption) ?_
    rotate_left
    · intro w' hSw
      obtain ⟨⟨_, c0, c1, c2⟩, _⟩ := hSw
      go_simp
      try with_reducible rfl
    try simp only [Act.put, List.setIfInBounds_toArray, List.set_cons_zero, List.set_cons_succ]
    refine wpAnyH_take (i := 9) (v := ?_) (by rw [List.getElem?_toArray]; rfl) (by kernel_rfl) (by kernel_rfl) (by kernel_rfl) (by exact fun _ _ _ h => h) (Or.inl ⟨by rfl, ?_⟩) (by assumption) ?_
    rotate_left
    · intro w' hSw
      obtain ⟨⟨_, c0, c1, c2⟩, _⟩ := hSw
      go_simp
      try with_reducible rfl
    try simp only [Act.put, List.setIfInBounds_toArray, List.set_cons_zero, List.set_cons_succ]
    refine wpAnyH_take (i := 10) (v := ?_) (by rw [List.getElem?_toArray]; rfl) (by kernel_rfl) (by kernel_rfl) (by kernel_rfl) (by exact fun _ _ _ h => h) (Or.inl ⟨by rfl, ?_⟩) (by assumption) ?_
    rotate_left
    · intro w' hSw
      obtain ⟨⟨_, c0, c1, c2⟩, _⟩ := hSw
      go_simp
      try with_reducible rfl
    try simp only [Act.put, List.setIfInBounds_toArray, List.set_cons_zero, List.set_cons_succ]
    refine wpAnyH_done (by kernel_rfl) ?_ _
    clear hHeld HRV
    obtain rfl : C = CT := (str_eq HCT.out).symm
    obtain rfl : SD = SU := str_eq (HSD.out.trans HSU.out.symm)
    obtain rfl : GD = GU := str_eq (HGD.out.trans HGU.out.symm)
    obtain ⟨⟨_, dD0, dD1, dD2⟩, kD0, kD1, kD2⟩ := HXD.out
    obtain ⟨⟨_, dU0, dU1, dU2⟩, kU0, kU1, kU2⟩ := HXU.out
    go_wp2_with fail
    clear dD0 dD1 dD2 kD0 kD1 kD2
    clear dU0 dU1 dU2 kU0 kU1 kU2
    refine wp_region_held_drew (S := fun w' => R3 w10.heap.size w' (X : Int) SD GD) (by kernel_rfl) (HXU.out.below (Below.drewN' (Below.refl w14.heap.size w14) 1)) (fun hHeld => ?_)
    refine wpAnyH_take (i := 0) (v := ?_) (by rw [List.getElem?_toArray]; rfl) (by kernel_rfl) (by kernel_rfl) (by kernel_rfl) (by exact fun _ _ _ h => h) (Or.inl ⟨by rfl, ?_⟩) (by assumption) ?_
    rotate_left
    · intro w' hSw
      obtain ⟨⟨_, c0, c1, c2⟩, _⟩ := hSw
      go_simp
      try with_reducible rfl
    try simp only [Act.put, List.setIfInBounds_toArray, List.set_cons_zero, List.set_cons_succ]
    refine wpAnyH_take (i := 1) (v := ?_) (by rw [List.getElem?_toArray]; rfl) (by kernel_rfl) (by kernel_rfl) (by kernel_rfl) (by exact fun _ _ _ h => h) (Or.inl ⟨by rfl, ?_⟩) (by assumption) ?_
    rotate_left
    · intro w' hSw
      obtain ⟨⟨_, c0, c1, c2⟩, _⟩ := hSw
      go_simp
      try with_reducible rfl
    try simp only [Act.put, List.setIfInBounds_toArray, List.set_cons_zero, List.set_cons_succ]
    refine wpAnyH_take (i := 3) (v := ?_) (by rw [List.getElem?_toArray]; rfl) (by kernel_rfl) (by kernel_rfl) (by kernel_rfl) (by exact fun _ _ _ h => h) (Or.inl ⟨by rfl, ?_⟩) (by assumption) ?_
    rotate_left
    · intro w' hSw
      obtain ⟨⟨_, c0, c1, c2⟩, _⟩ := hSw
      go_simp
      try with_reducible rfl
    try simp only [Act.put, List.setIfInBounds_toArray, List.set_cons_zero, List.set_cons_succ]
    refine wpAnyH_take (i := 4) (v := ?_) (by rw [List.getElem?_toArray]; rfl) (by kernel_rfl) (by kernel_rfl) (by kernel_rfl) (by exact fun _ _ _ h => h) (Or.inl ⟨by rfl, ?_⟩) (by assumption) ?_
    rotate_left
    · intro w' hSw
      obtain ⟨⟨_, c0, c1, c2⟩, _⟩ := hSw
      go_simp
      try with_reducible rfl
    try simp only [Act.put, List.setIfInBounds_toArray, List.set_cons_zero, List.set_cons_succ]
    have hdr : Below w14.heap.size w14 w14.drew := Below.drewN' (Below.refl w14.heap.size w14) 1
    clear hHeld
    generalize w14.drew = wd15 at hdr ⊢
    have HB15 := Lib.hid (Bel.call HB14.out hdr)
    replace HXD := Lib.hid (HXD.out.below hdr)
    replace HXU := Lib.hid (HXU.out.below hdr)
    clear hdr
    refine wpAnyH_ready (rs := [2]) (by kernel_rfl) (by simp) ?_
    refine AllReadyH.cons (by rw [List.getElem?_toArray]; rfl) (fun K hK => ?_) AllReadyH.nil
    go_simp
    go_at_call 18
    with_reducible refine (HVF.out _).mono ?_
    rintro e w16 ⟨⟨AW, cW, vsW, hvs, hvn, hvc, hvr, hvz, rfl⟩, hb16⟩
    have HB16 := Lib.hid (Bel.call HB15.out hb16)
    replace HXD := Lib.hid (HXD.out.below hb16)
    replace HXU := Lib.hid (HXU.out.below hb16)
    clear hb16
    have HSW := Lib.hid hvs
    have HNW := Lib.hid hvn
    have HRW := Lib.hid hvr
    have HCW := Lib.hid hvc
    clear hvs hvn hvc hvr hvz
    dsimp only
    refine hK.out _ _ HXU.out (fun hHeld => ?_)
    try simp only [Act.put, List.setIfInBounds_toArray, List.set_cons_zero, List.set_cons_succ]
    clear hHeld
    refine wpAnyH_ready (rs := [5]) (by kernel_rfl) (by simp) ?_
    refine AllReadyH.cons (by rw [List.getElem?_toArray]; rfl) (fun K hK => ?_) AllReadyH.nil
    go_simp
    go_at_call 17
    with_reducible refine (HO2.out SD GD T _ _ _ _ HSU.out HGU.out HT.out HSW.out HRW.out).mono ?_
    rintro e w17 ⟨⟨CI, hCI, rfl⟩, hb17⟩
    have HB17 := Lib.hid (Bel.call HB16.out hb17)
    replace HXD := Lib.hid (HXD.out.below hb17)
    replace HXU := Lib.hid (HXU.out.below hb17)
    replace HRW := Lib.hid (HRW.out.below hb17 (Nat.le_refl _))
    clear hb17
    try dsimp only at hCI
    have HCI := Lib.hid hCI
    clear hCI
    dsimp only
    refine hK.out _ _ HXU.out (fun hHeld => ?_)
    try simp only [Act.put, List.setIfInBounds_toArray, List.set_cons_zero, List.set_cons_succ]
    refine wpAnyH_take (i := 6) (v := ?_) (by rw [List.getElem?_toArray]; rfl) (by kernel_rfl) (by kernel_rfl) (by kernel_rfl) (by exact fun _ _ _ h => h) (Or.inl ⟨by rfl, ?_⟩) (by assumption) ?_
    rotate_left
    · intro w' hSw
      obtain ⟨⟨_, c0, c1, c2⟩, _⟩ := hSw
      go_simp
      try with_reducible rfl
    try simp only [Act.put, List.setIfInBounds_toArray, List.set_cons_zero, List.set_cons_succ]
    refine wpAnyH_take (i := 7) (v := ?_) (by rw [List.getElem?_toArray]; rfl) (by kernel_rfl) (by kernel_rfl) (by kernel_rfl) (by exact fun _ _ _ h => h) (Or.inl ⟨by rfl, ?_⟩) (by assumption) ?_
    rotate_left
    · intro w' hSw
      obtain ⟨⟨_, c0, c1, c2⟩, _⟩ := hSw
      go_simp
      try with_reducible rfl
    try simp only [Act.put, List.setIfInBounds_toArray, List.set_cons_zero, List.set_cons_succ]
    refine wpAnyH_take (i := 8) (v := ?_) (by rw [List.getElem?_toArray]; rfl) (by kernel_rfl) (by kernel_rfl) (by kernel_rfl) (by exact fun _ _ _ h => h) (Or.inl ⟨by rfl, ?_⟩) (by assumption) ?_
    rotate_left
    · intro w' hSw
      obtain ⟨⟨_, c0, c1, c2⟩, _⟩ := hSw
      go_simp
      try with_reducible rfl
    try simp only [Act.put, List.setIfInBounds_toArray, List.set_cons_zero, List.set_cons_succ]
    refine wpAnyH_take (i := 9) (v := ?_) (by rw [List.getElem?_toArray]; rfl) (by kernel_rfl) (by kernel_rfl) (by kernel_rfl) (by exact fun _ _ _ h => h) (Or.inl ⟨by rfl, ?_⟩) (by assumption) ?_
    rotate_left
    · intro w' hSw
      obtain ⟨⟨_, c0, c1, c2⟩, _⟩ := hSw
      go_simp
      try with_reducible rfl
    try simp only [Act.put, List.setIfInBounds_toArray, List.set_cons_zero, List.set_cons_succ]
    refine wpAnyH_take (i := 10) (v := ?_) (by rw [List.getElem?_toArray]; rfl) (by kernel_rfl) (by kernel_rfl) (by kernel_rfl) (by exact fun _ _ _ h => h) (Or.inl ⟨by rfl, ?_⟩) (by assumption) ?_
    rotate_left
    · intro w' hSw
      obtain ⟨⟨_, c0, c1, c2⟩, _⟩ := hSw
      go_simp
      try with_reducible rfl
    try simp only [Act.put, List.setIfInBounds_toArray, List.set_cons_zero, List.set_cons_succ]
    refine wpAnyH_done (by kernel_rfl) ?_ _
    clear hHeld HRW
    go_wp2_with fail
    refine wp_region_held_drew (S := fun w' => R3 w10.heap.size w' (X : Int) SD GD) (by kernel_rfl) (HXU.out.below (Below.drewN' (Below.refl w17.heap.size w17) 1)) (fun hHeld => ?_)
    refine wpAnyH_take (i := 0) (v := ?_) (by rw [List.getElem?_toArray]; rfl) (by kernel_rfl) (by kernel_rfl) (by kernel_rfl) (by exact fun _ _ _ h => h) (Or.inl ⟨by rfl, ?_⟩) (by assumption) ?_
    rotate_left
    · intro w' hSw
      obtain ⟨⟨_, c0, c1, c2⟩, _⟩ := hSw
      go_simp
      try with_reducible rfl
    try simp only [Act.put, List.setIfInBounds_toArray, List.set_cons_zero, List.set_cons_succ]
    refine wpAnyH_take (i := 1) (v := ?_) (by rw [List.getElem?_toArray]; rfl) (by kernel_rfl) (by kernel_rfl) (by kernel_rfl) (by exact fun _ _ _ h => h) (Or.inl ⟨by rfl, ?_⟩) (by assumption) ?_
    rotate_left
    · intro w' hSw
      obtain ⟨⟨_, c0, c1, c2⟩, _⟩ := hSw
      go_simp
      try with_reducible rfl
    try simp only [Act.put, List.setIfInBounds_toArray, List.set_cons_zero, List.set_cons_succ]
    refine wpAnyH_take (i := 2) (v := ?_) (by rw [List.getElem?_toArray]; rfl) (by kernel_rfl) (by kernel_rfl) (by kernel_rfl) (by exact fun _ _ _ h => h) (Or.inl ⟨by rfl, ?_⟩) (by assumption) ?_
    rotate_left
    · intro w' hSw
      obtain ⟨⟨_, c0, c1, c2⟩, _⟩ := hSw
      go_simp
      try with_reducible rfl
    try simp only [Act.put, List.setIfInBounds_toArray, List.set_cons_zero, List.set_cons_succ]
    refine wpAnyH_take (i := 5) (v := ?_) (by rw [List.getElem?_toArray]; rfl) (by kernel_rfl) (by kernel_rfl) (by kernel_rfl) (by exact fun _ _ _ h => h) (Or.inl ⟨by rfl, ?_⟩) (by assumption) ?_
    rotate_left
    · intro w' hSw
      obtain ⟨⟨_, c0, c1, c2⟩, _⟩ := hSw
      go_simp
      try with_reducible rfl
    try simp only [Act.put, List.setIfInBounds_toArray, List.set_cons_zero, List.set_cons_succ]
    refine wpAnyH_take (i := 6) (v := ?_) (by rw [List.getElem?_toArray]; rfl) (by kernel_rfl) (by kernel_rfl) (by kernel_rfl) (by exact fun _ _ _ h => h) (Or.inl ⟨by rfl, ?_⟩) (by assumption) ?_
    rotate_left
    · intro w' hSw
      obtain ⟨⟨_, c0, c1, c2⟩, _⟩ := hSw
      go_simp
      try with_reducible rfl
    try simp only [Act.put, List.setIfInBounds_toArray, List.set_cons_zero, List.set_cons_succ]
    have hdr : Below w17.heap.size w17 w17.drew := Below.drewN' (Below.refl w17.heap.size w17) 1
    clear hHeld
    generalize w17.drew = wd18 at hdr ⊢
    have HB18 := Lib.hid (Bel.call HB17.out hdr)
    replace HXD := Lib.hid (HXD.out.below hdr)
    replace HXU := Lib.hid (HXU.out.below hdr)
    clear hdr
    refine wpAnyH_ready (rs := [3]) (by kernel_rfl) (by simp) ?_
    refine AllReadyH.cons (by rw [List.getElem?_toArray]; rfl) (fun K hK => ?_) AllReadyH.nil
    go_simp
    go_at_call 18
    with_reducible refine (HVG.out _).mono ?_
    rintro e w19 ⟨⟨AZ, cZ, vsZ, hvs, hvn, hvc, hvr, hvz, rfl⟩, hb19⟩
    have HB19 := Lib.hid (Bel.call HB18.out hb19)
    replace HXD := Lib.hid (HXD.out.below hb19)
    replace HXU := Lib.hid (HXU.out.below hb19)
    clear hb19
    have HSZ := Lib.hid hvs
    have HNZ := Lib.hid hvn
    have HRZ := Lib.hid hvr
    have HCZ := Lib.hid hvc
    clear hvs hvn hvc hvr hvz
    dsimp only
    obtain ⟨g, off, vt, rfl, hvt, hvl, hg0, hrt⟩ := row_tail HSZ.out HRZ.out
    have hcz := HCZ.out
    have hlz : vsZ.length = vt.length + 1 := hvl
    have hz1 : (1 : Int) ≤ (vt.length : Int) + 1 := by omega
    have hz2 : ¬ cZ = 1 := by omega
    have HVT := Lib.hid hvt
    have HRT2 := Lib.hid hrt
    clear hvt hvl hg0 hrt hcz
    refine hK.out _ _ HXU.out (fun hHeld => ?_)
    try simp only [Act.put, List.setIfInBounds_toArray, List.set_cons_zero, List.set_cons_succ]
    clear hHeld
    refine wpAnyH_take (i := 4) (v := ?_) (by rw [List.getElem?_toArray]; rfl) (by kernel_rfl) (by kernel_rfl) (by kernel_rfl) (by exact fun _ _ _ h => h) (Or.inl ⟨by rfl, ?_⟩) (by assumption) ?_
    rotate_left
    · intro w' hSw
      go_simp
      try with_reducible rfl
    try simp only [Act.put, List.setIfInBounds_toArray, List.set_cons_zero, List.set_cons_succ]
    refine wpAnyH_ready (rs := [7]) (by kernel_rfl) (by simp) ?_
    refine AllReadyH.cons (by rw [List.getElem?_toArray]; rfl) (fun K hK => ?_) AllReadyH.nil
    go_simp
    go_at_call 17
    with_reducible refine (HO3.out SD GD T _ _ _ _ HSU.out HGU.out HT.out HVT.out HRT2.out).mono ?_
    rintro e w20 ⟨⟨CJ, hCJ, rfl⟩, hb20⟩
    have HB20 := Lib.hid (Bel.call HB19.out hb20)
    replace HXD := Lib.hid (HXD.out.below hb20)
    replace HXU := Lib.hid (HXU.out.below hb20)
    replace HRZ := Lib.hid (HRZ.out.below hb20 (Nat.le_refl _))
    clear hb20
    try dsimp only at hCJ
    have HCJ := Lib.hid hCJ
    clear hCJ
    dsimp only
    refine hK.out _ _ HXU.out (fun hHeld => ?_)
    try simp only [Act.put, List.setIfInBounds_toArray, List.set_cons_zero, List.set_cons_succ]
    refine wpAnyH_take (i := 8) (v := ?_) (by rw [List.getElem?_toArray]; rfl) (by kernel_rfl) (by kernel_rfl) (by kernel_rfl) (by exact fun _ _ _ h => h) (Or.inl ⟨by rfl, ?_⟩) (by assumption) ?_
    rotate_left
    · intro w' hSw
      obtain ⟨⟨_, c0, c1, c2⟩, _⟩ := hSw
      go_simp
      try with_reducible rfl
    try simp only [Act.put, List.setIfInBounds_toArray, List.set_cons_zero, List.set_cons_succ]
    refine wpAnyH_take (i := 9) (v := ?_) (by rw [List.getElem?_toArray]; rfl) (by kernel_rfl) (by kernel_rfl) (by kernel_rfl) (by exact fun _ _ _ h => h) (Or.inl ⟨by rfl, ?_⟩) (by assumption) ?_
    rotate_left
    · intro w' hSw
      obtain ⟨⟨_, c0, c1, c2⟩, _⟩ := hSw
      go_simp
      try with_reducible rfl
    try simp only [Act.put, List.setIfInBounds_toArray, List.set_cons_zero, List.set_cons_succ]
    refine wpAnyH_take (i := 10) (v := ?_) (by rw [List.getElem?_toArray]; rfl) (by kernel_rfl) (by kernel_rfl) (by kernel_rfl) (by exact fun _ _ _ h => h) (Or.inl ⟨by rfl, ?_⟩) (by assumption) ?_
    rotate_left
    · intro w' hSw
      obtain ⟨⟨_, c0, c1, c2⟩, _⟩ := hSw
      go_simp
      try with_reducible rfl
    try simp only [Act.put, List.setIfInBounds_toArray, List.set_cons_zero, List.set_cons_succ]
    refine wpAnyH_take (i := 11) (v := ?_) (by rw [List.getElem?_toArray]; rfl) (by kernel_rfl) (by kernel_rfl) (by kernel_rfl) (by exact fun _ _ _ h => h) (Or.inl ⟨by rfl, ?_⟩) (by assumption) ?_
    rotate_left
    · intro w' hSw
      obtain ⟨⟨_, c0, c1, c2⟩, _⟩ := hSw
      go_simp
      try with_reducible rfl
    try simp only [Act.put, List.setIfInBounds_toArray, List.set_cons_zero, List.set_cons_succ]
    refine wpAnyH_take (i := 12) (v := ?_) (by rw [List.getElem?_toArray]; rfl) (by kernel_rfl) (by kernel_rfl) (by kernel_rfl) (by exact fun _ _ _ h => h) (Or.inl ⟨by rfl, ?_⟩) (by assumption) ?_
    rotate_left
    · intro w' hSw
      obtain ⟨⟨_, c0, c1, c2⟩, _⟩ := hSw
      go_simp
      try with_reducible rfl
    try simp only [Act.put, List.setIfInBounds_toArray, List.set_cons_zero, List.set_cons_succ]
    refine wpAnyH_done (by kernel_rfl) ?_ _
    clear hHeld HRZ
    go_wp2_with fail
    refine wp_region_held_drew (S := fun w' => R3 w10.heap.size w' (X : Int) SD GD) (by kernel_rfl) (HXU.out.below (Below.drewN' (Below.refl w20.heap.size w20) 1)) (fun hHeld => ?_)
    refine wpAnyH_take (i := 0) (v := ?_) (by rw [List.getElem?_toArray]; rfl) (by kernel_rfl) (by kernel_rfl) (by kernel_rfl) (by exact fun _ _ _ h => h) (Or.inl ⟨by rfl, ?_⟩) (by assumption) ?_
    rotate_left
    · intro w' hSw
      obtain ⟨⟨_, c0, c1, c2⟩, _⟩ := hSw
      go_simp
      try with_reducible rfl
    try simp only [Act.put, List.setIfInBounds_toArray, List.set_cons_zero, List.set_cons_succ]
    refine wpAnyH_take (i := 1) (v := ?_) (by rw [List.getElem?_toArray]; rfl) (by kernel_rfl) (by kernel_rfl) (by kernel_rfl) (by exact fun _ _ _ h => h) (Or.inl ⟨by rfl, ?_⟩) (by assumption) ?_
    rotate_left
    · intro w' hSw
      obtain ⟨⟨_, c0, c1, c2⟩, _⟩ := hSw
      go_simp
      try with_reducible rfl
    try simp only [Act.put, List.setIfInBounds_toArray, List.set_cons_zero, List.set_cons_succ]
    refine wpAnyH_take (i := 3) (v := ?_) (by rw [List.getElem?_toArray]; rfl) (by kernel_rfl) (by kernel_rfl) (by kernel_rfl) (by exact fun _ _ _ h => h) (Or.inl ⟨by rfl, ?_⟩) (by assumption) ?_
    rotate_left
    · intro w' hSw
      obtain ⟨⟨_, c0, c1, c2⟩, _⟩ := hSw
      go_simp
      try with_reducible rfl
    try simp only [Act.put, List.setIfInBounds_toArray, List.set_cons_zero, List.set_cons_succ]
    refine wpAnyH_take (i := 4) (v := ?_) (by rw [List.getElem?_toArray]; rfl) (by kernel_rfl) (by kernel_rfl) (by kernel_rfl) (by exact fun _ _ _ h => h) (Or.inl ⟨by rfl, ?_⟩) (by assumption) ?_
    rotate_left
    · intro w' hSw
      obtain ⟨⟨_, c0, c1, c2⟩, _⟩ := hSw
      go_simp
      try with_reducible rfl
    try simp only [Act.put, List.setIfInBounds_toArray, List.set_cons_zero, List.set_cons_succ]
    have hdr : Below w20.heap.size w20 w20.drew := Below.drewN' (Below.refl w20.heap.size w20) 1
    clear hHeld
    generalize w20.drew = wd21 at hdr ⊢
    have HB21 := Lib.hid (Bel.call HB20.out hdr)
    replace HXD := Lib.hid (HXD.out.below hdr)
    replace HXU := Lib.hid (HXU.out.below hdr)
    clear hdr
    refine wpAnyH_ready (rs := [2]) (by kernel_rfl) (by simp) ?_
    refine AllReadyH.cons (by rw [List.getElem?_toArray]; rfl) (fun K hK => ?_) AllReadyH.nil
    go_simp
    go_at_call 18
    with_reducible refine (HVF.out _).mono ?_
    rintro e w22 ⟨⟨AY, cY, vsY, hvs, hvn, hvc, hvr, hvz, rfl⟩, hb22⟩
    have HB22 := Lib.hid (Bel.call HB21.out hb22)
    replace HXD := Lib.hid (HXD.out.below hb22)
    replace HXU := Lib.hid (HXU.out.below hb22)
    clear hb22
    have HSY := Lib.hid hvs
    have HNY := Lib.hid hvn
    have HRY := Lib.hid hvr
    have HCY := Lib.hid hvc
    clear hvs hvn hvc hvr hvz
    dsimp only
    refine hK.out _ _ HXU.out (fun hHeld => ?_)
    try simp only [Act.put, List.setIfInBounds_toArray, List.set_cons_zero, List.set_cons_succ]
    clear hHeld
    refine wpAnyH_ready (rs := [5]) (by kernel_rfl) (by simp) ?_
    refine AllReadyH.cons (by rw [List.getElem?_toArray]; rfl) (fun K hK => ?_) AllReadyH.nil
    go_simp
    go_at_call 17
    with_reducible refine (HO4.out SD GD S _ _ _ _ HSU.out HGU.out HS.out HSY.out HRY.out).mono ?_
    rintro e w23 ⟨⟨CK, hCK, rfl⟩, hb23⟩
    have HB23 := Lib.hid (Bel.call HB22.out hb23)
    replace HXD := Lib.hid (HXD.out.below hb23)
    replace HXU := Lib.hid (HXU.out.below hb23)
    replace HRY := Lib.hid (HRY.out.below hb23 (Nat.le_refl _))
    clear hb23
    try dsimp only at hCK
    have HCK := Lib.hid hCK
    clear hCK
    dsimp only
    refine hK.out _ _ HXU.out (fun hHeld => ?_)
    try simp only [Act.put, List.setIfInBounds_toArray, List.set_cons_zero, List.set_cons_succ]
    refine wpAnyH_take (i := 6) (v := ?_) (by rw [List.getElem?_toArray]; rfl) (by kernel_rfl) (by kernel_rfl) (by kernel_rfl) (by exact fun _ _ _ h => h) (Or.inl ⟨by rfl, ?_⟩) (by assumption) ?_
    rotate_left
    · intro w' hSw
      obtain ⟨⟨_, c0, c1, c2⟩, _⟩ := hSw
      go_simp
      try with_reducible rfl
    try simp only [Act.put, List.setIfInBounds_toArray, List.set_cons_zero, List.set_cons_succ]
    refine wpAnyH_take (i := 7) (v := ?_) (by rw [List.getElem?_toArray]; rfl) (by kernel_rfl) (by kernel_rfl) (by kernel_rfl) (by exact fun _ _ _ h => h) (Or.inl ⟨by rfl, ?_⟩) (by assumption) ?_
    rotate_left
    · intro w' hSw
      obtain ⟨⟨_, c0, c1, c2⟩, _⟩ := hSw
      go_simp
      try with_reducible rfl
    try simp only [Act.put, List.setIfInBounds_toArray, List.set_cons_zero, List.set_cons_succ]
    refine wpAnyH_take (i := 8) (v := ?_) (by rw [List.getElem?_toArray]; rfl) (by kernel_rfl) (by kernel_rfl) (by kernel_rfl) (by exact fun _ _ _ h => h) (Or.inl ⟨by rfl, ?_⟩) (by assumption) ?_
    rotate_left
    · intro w' hSw
      obtain ⟨⟨_, c0, c1, c2⟩, _⟩ := hSw
      go_simp
      try with_reducible rfl
    try simp only [Act.put, List.setIfInBounds_toArray, List.set_cons_zero, List.set_cons_succ]
    refine wpAnyH_take (i := 9) (v := ?_) (by rw [List.getElem?_toArray]; rfl) (by kernel_rfl) (by kernel_rfl) (by kernel_rfl) (by exact fun _ _ _ h => h) (Or.inl ⟨by rfl, ?_⟩) (by assumption) ?_
    rotate_left
    · intro w' hSw
      obtain ⟨⟨_, c0, c1, c2⟩, _⟩ := hSw
      go_simp
      try with_reducible rfl
    try simp only [Act.put, List.setIfInBounds_toArray, List.set_cons_zero, List.set_cons_succ]
    refine wpAnyH_take (i := 10) (v := ?_) (by rw [List.getElem?_toArray]; rfl) (by kernel_rfl) (by kernel_rfl) (by kernel_rfl) (by exact fun _ _ _ h => h) (Or.inl ⟨by rfl, ?_⟩) (by assumption) ?_
    rotate_left
    · intro w' hSw
      obtain ⟨⟨_, c0, c1, c2⟩, _⟩ := hSw
      go_simp
      try with_reducible rfl
    try simp only [Act.put, List.setIfInBounds_toArray, List.set_cons_zero, List.set_cons_succ]
    refine wpAnyH_done (by kernel_rfl) ?_ _
    clear hHeld HRY
    go_wp2
    go_ret
    exact ⟨rfl, HB23.out⟩
  · have HO4 : Hid (∀ (S G T : ByteArray) (A : Option Addr) (c : Nat) (vs : List ByteArray) (w : World), S.data.toList = (bOf N X X (⟨#[97, 110, 110, 97, 47, 110, 111, 116, 101, 115]⟩ : ByteArray).data.toList C.data.toList).sl → G.data.toList = (bOf N X X (⟨#[97, 110, 110, 97, 47, 110, 111, 116, 101, 115]⟩ : ByteArray).data.toList C.data.toList).sg → T.data.toList = hs (7 - X) (rootS N) → bl vs = sgps (Y + 1) → SReads w A vs → Calls Try.prog 17 #[.agg #[.int .i64 (X : Int), .string S, .string G], .slice A vs.length c, .string T, .int .i64 (Y : Int), .string ⟨#[97, 110, 110, 97, 47, 110, 111, 116, 101, 115]⟩] w fun e w' => Sr ([], 7) e ∧ Below w.heap.size w w') := Lib.hid fun S G T A c vs w hS hG hT hv hr => by
      have hbr : BR (bOf N X X (⟨#[97, 110, 110, 97, 47, 110, 111, 116, 101, 115]⟩ : ByteArray).data.toList C.data.toList) := hbr
      have hvl : vs.length ≤ 40 := by
        have := congrArg List.length hv
        simp only [bl_len', sgps_len, List.length_map, List.length_range, List.length_tail] at this
        omega
      exact open_to (b := bOf N X X (⟨#[97, 110, 110, 97, 47, 110, 111, 116, 101, 115]⟩ : ByteArray).data.toList C.data.toList) (L := sgps (Y + 1)) (q := (⟨#[97, 110, 110, 97, 47, 110, 111, 116, 101, 115]⟩ : ByteArray).data.toList) (by
        show openB (bOf N X X pN C.data.toList) (sgps (Y + 1)) (hs (7 - X) (rootS N)) (Y : Int) pN = _
        exact open_state hn (by omega) (by omega) pN_path (by rw [← Lib.size_eq]; omega) (by omega) (by omega) (j := X) (by omega) (sgps_len _) (by omega) (by omega) (sgps_get (by omega)) pN) rfl hS hG hv rfl hT rfl (seal_size hbr hS) (sig_size hbr hG) (by rw [Lib.size_eq, hT]; exact stl _ (by omega)) (by decide) (by omega) (sgps_sizes hv (by omega)) (by omega) w hr
    have hneb : ((X : Int) == (Y : Int)) = false := by rw [beq_eq_false_iff_ne]; omega
    go_enter Try.func3, Try.ntmps3
    go_wp2_with fail
    with_reducible refine (HSH.out _).mono ?_
    rintro e w1 ⟨rfl, hb1⟩
    have HB1 := Lib.hid hb1
    clear hb1
    dsimp only
    go_wp2_with fail
    with_reducible refine (HPA.out _).mono ?_
    rintro e v1 ⟨rfl, hv1⟩
    obtain rfl : w1 = v1 := hv1.symm
    dsimp only
    go_wp2_with fail
    with_reducible refine (HPB.out _).mono ?_
    rintro e v2 ⟨rfl, hv2⟩
    obtain rfl : w1 = v2 := hv2.symm
    dsimp only
    go_wp2_with fail
    with_reducible refine (HRT.out _).mono ?_
    rintro e w2 ⟨⟨R, hR, rfl⟩, hb2⟩
    have HB2 := Lib.hid (Bel.call HB1.out hb2)
    clear hb2
    try dsimp only at hR
    have HR := Lib.hid hR
    clear hR
    dsimp only
    go_wp2_with fail
    with_reducible refine (HST.out R _ HR.out).mono ?_
    rintro e w3 ⟨⟨S, hS, rfl⟩, hb3⟩
    have HB3 := Lib.hid (Bel.call HB2.out hb3)
    clear hb3
    try dsimp only at hS
    have HS := Lib.hid hS
    clear hS
    dsimp only
    go_wp2_with fail
    with_reducible refine (HRT.out _).mono ?_
    rintro e w4 ⟨⟨Q, hQ, rfl⟩, hb4⟩
    have HB4 := Lib.hid (Bel.call HB3.out hb4)
    clear hb4
    try dsimp only at hQ
    have HQ := Lib.hid hQ
    clear hQ
    dsimp only
    go_wp2_with fail
    with_reducible refine (HTT.out Q _ HQ.out).mono ?_
    rintro e w5 ⟨⟨T, hT, rfl⟩, hb5⟩
    have HB5 := Lib.hid (Bel.call HB4.out hb5)
    clear hb5
    try dsimp only at hT
    have HT := Lib.hid hT
    clear hT
    dsimp only
    go_wp2_with fail
    with_reducible refine (HSG.out _).mono ?_
    rintro e w6 ⟨⟨G, hG, rfl⟩, hb6⟩
    have HB6 := Lib.hid (Bel.call HB5.out hb6)
    clear hb6
    try dsimp only at hG
    have HG := Lib.hid hG
    clear hG
    dsimp only
    go_wp2_with fail
    with_reducible refine (HBD.out S G _ HS.out HG.out).mono ?_
    rintro e w7 ⟨hx, hb7⟩
    have HB7 := Lib.hid (Bel.call HB6.out hb7)
    clear hb7
    obtain ⟨SD, GD, hSD, hGD, rfl⟩ := bs_bOf hx
    have HSD := Lib.hid hSD
    have HGD := Lib.hid hGD
    clear hx hSD hGD
    dsimp only
    go_wp2_with fail
    have hbS : Below w7.heap.size w7 (w7.alloc (.cells #[.int .i64 (X : Int), .string SD, .string GD] 29)) := (Below.refl w7.heap.size w7).alloc (Nat.le_refl _) _
    have hxS := r3_new w7 ((X : Int)) SD GD 29
    generalize w7.alloc (.cells #[.int .i64 (X : Int), .string SD, .string GD] 29) = wSD at hbS hxS ⊢
    have HB8 := Lib.hid (Bel.call HB7.out hbS)
    have HXD := Lib.hid hxS
    clear hbS hxS
    with_reducible refine (HPU.out SD GD _ HSD.out HGD.out).mono ?_
    rintro e w9 ⟨⟨P, hP, rfl⟩, hb9⟩
    have HB9 := Lib.hid (Bel.call HB8.out hb9)
    replace HXD := Lib.hid (HXD.out.below hb9)
    clear hb9
    try dsimp only at hP
    have HP := Lib.hid hP
    clear hP
    dsimp only
    go_wp2_with fail
    with_reducible refine (HTA.out P _ HP.out).mono ?_
    rintro e w10 ⟨hx, hb10⟩
    have HB10 := Lib.hid (Bel.call HB9.out hb10)
    replace HXD := Lib.hid (HXD.out.below hb10)
    clear hb10
    obtain ⟨SU, GU, hSU, hGU, rfl⟩ := bs_bOf hx
    have HSU := Lib.hid hSU
    have HGU := Lib.hid hGU
    clear hx hSU hGU
    dsimp only
    go_wp2_with fail
    have hbS : Below w10.heap.size w10 (w10.alloc (.cells #[.int .i64 (X : Int), .string SU, .string GU] 29)) := (Below.refl w10.heap.size w10).alloc (Nat.le_refl _) _
    have hxS := r3_new w10 ((X : Int)) SU GU 29
    generalize w10.alloc (.cells #[.int .i64 (X : Int), .string SU, .string GU] 29) = wSU at hbS hxS ⊢
    have HB11 := Lib.hid (Bel.call HB10.out hbS)
    replace HXD := Lib.hid (HXD.out.below hbS)
    have HXU := Lib.hid hxS
    clear hbS hxS
    refine wp_region_held_drew (S := fun w' => R3 w10.heap.size w' (X : Int) SU GU) (by kernel_rfl) (HXU.out.below (Below.drewN' (Below.refl wSU.heap.size wSU) 1)) (fun hHeld => ?_)
    refine wpAnyH_take (i := 0) (v := ?_) (by rw [List.getElem?_toArray]; rfl) (by kernel_rfl) (by kernel_rfl) (by kernel_rfl) (by exact fun _ _ _ h => h) (Or.inl ⟨by rfl, ?_⟩) (by assumption) ?_
    rotate_left
    · intro w' hSw
      obtain ⟨⟨_, c0, c1, c2⟩, _⟩ := hSw
      go_simp
      try with_reducible rfl
    try simp only [Act.put, List.setIfInBounds_toArray, List.set_cons_zero, List.set_cons_succ]
    refine wpAnyH_take (i := 1) (v := ?_) (by rw [List.getElem?_toArray]; rfl) (by kernel_rfl) (by kernel_rfl) (by kernel_rfl) (by exact fun _ _ _ h => h) (Or.inl ⟨by rfl, ?_⟩) (by assumption) ?_
    rotate_left
    · intro w' hSw
      obtain ⟨⟨_, c0, c1, c2⟩, _⟩ := hSw
      go_simp
      try with_reducible rfl
    try simp only [Act.put, List.setIfInBounds_toArray, List.set_cons_zero, List.set_cons_succ]
    refine wpAnyH_take (i := 3) (v := ?_) (by rw [List.getElem?_toArray]; rfl) (by kernel_rfl) (by kernel_rfl) (by kernel_rfl) (by exact fun _ _ _ h => h) (Or.inl ⟨by rfl, ?_⟩) (by assumption) ?_
    rotate_left
    · intro w' hSw
      obtain ⟨⟨_, c0, c1, c2⟩, _⟩ := hSw
      go_simp
      try with_reducible rfl
    try simp only [Act.put, List.setIfInBounds_toArray, List.set_cons_zero, List.set_cons_succ]
    refine wpAnyH_take (i := 4) (v := ?_) (by rw [List.getElem?_toArray]; rfl) (by kernel_rfl) (by kernel_rfl) (by kernel_rfl) (by exact fun _ _ _ h => h) (Or.inl ⟨by rfl, ?_⟩) (by assumption) ?_
    rotate_left
    · intro w' hSw
      obtain ⟨⟨_, c0, c1, c2⟩, _⟩ := hSw
      go_simp
      try with_reducible rfl
    try simp only [Act.put, List.setIfInBounds_toArray, List.set_cons_zero, List.set_cons_succ]
    have hdr : Below wSU.heap.size wSU wSU.drew := Below.drewN' (Below.refl wSU.heap.size wSU) 1
    clear hHeld
    generalize wSU.drew = wd12 at hdr ⊢
    have HB12 := Lib.hid (Bel.call HB11.out hdr)
    replace HXD := Lib.hid (HXD.out.below hdr)
    replace HXU := Lib.hid (HXU.out.below hdr)
    clear hdr
    refine wpAnyH_ready (rs := [2]) (by kernel_rfl) (by simp) ?_
    refine AllReadyH.cons (by rw [List.getElem?_toArray]; rfl) (fun K hK => ?_) AllReadyH.nil
    go_simp
    go_at_call 18
    with_reducible refine (HVF.out _).mono ?_
    rintro e w13 ⟨⟨AV, cV, vsV, hvs, hvn, hvc, hvr, hvz, rfl⟩, hb13⟩
    have HB13 := Lib.hid (Bel.call HB12.out hb13)
    replace HXD := Lib.hid (HXD.out.below hb13)
    replace HXU := Lib.hid (HXU.out.below hb13)
    clear hb13
    have HSV := Lib.hid hvs
    have HNV := Lib.hid hvn
    have HRV := Lib.hid hvr
    have HCV := Lib.hid hvc
    clear hvs hvn hvc hvr hvz
    dsimp only
    refine hK.out _ _ HXU.out (fun hHeld => ?_)
    try simp only [Act.put, List.setIfInBounds_toArray, List.set_cons_zero, List.set_cons_succ]
    clear hHeld
    refine wpAnyH_ready (rs := [5]) (by kernel_rfl) (by simp) ?_
    refine AllReadyH.cons (by rw [List.getElem?_toArray]; rfl) (fun K hK => ?_) AllReadyH.nil
    go_simp
    go_at_call 17
    with_reducible refine (HO1.out SU GU T _ _ _ _ HSU.out HGU.out HT.out HSV.out HRV.out).mono ?_
    rintro e w14 ⟨⟨CT, hCT, rfl⟩, hb14⟩
    have HB14 := Lib.hid (Bel.call HB13.out hb14)
    replace HXD := Lib.hid (HXD.out.below hb14)
    replace HXU := Lib.hid (HXU.out.below hb14)
    replace HRV := Lib.hid (HRV.out.below hb14 (Nat.le_refl _))
    clear hb14
    try dsimp only at hCT
    have HCT := Lib.hid hCT
    clear hCT
    dsimp only
    refine hK.out _ _ HXU.out (fun hHeld => ?_)
    try simp only [Act.put, List.setIfInBounds_toArray, List.set_cons_zero, List.set_cons_succ]
    refine wpAnyH_take (i := 6) (v := ?_) (by rw [List.getElem?_toArray]; rfl) (by kernel_rfl) (by kernel_rfl) (by kernel_rfl) (by exact fun _ _ _ h => h) (Or.inl ⟨by rfl, ?_⟩) (by assumption) ?_
    rotate_left
    · intro w' hSw
      obtain ⟨⟨_, c0, c1, c2⟩, _⟩ := hSw
      go_simp
      try with_reducible rfl
    try simp only [Act.put, List.setIfInBounds_toArray, List.set_cons_zero, List.set_cons_succ]
    refine wpAnyH_take (i := 7) (v := ?_) (by rw [List.getElem?_toArray]; rfl) (by kernel_rfl) (by kernel_rfl) (by kernel_rfl) (by exact fun _ _ _ h => h) (Or.inl ⟨by rfl, ?_⟩) (by assumption) ?_
    rotate_left
    · intro w' hSw
      obtain ⟨⟨_, c0, c1, c2⟩, _⟩ := hSw
      go_simp
      try with_reducible rfl
    try simp only [Act.put, List.setIfInBounds_toArray, List.set_cons_zero, List.set_cons_succ]
    refine wpAnyH_take (i := 8) (v := ?_) (by rw [List.getElem?_toArray]; rfl) (by kernel_rfl) (by kernel_rfl) (by kernel_rfl) (by exact fun _ _ _ h => h) (Or.inl ⟨by rfl, ?_⟩) (by assumption) ?_
    rotate_left
    · intro w' hSw
      obtain ⟨⟨_, c0, c1, c2⟩, _⟩ := hSw
      go_simp
      try with_reducible rfl
    try simp only [Act.put, List.setIfInBounds_toArray, List.set_cons_zero, List.set_cons_succ]
    refine wpAnyH_take (i := 9) (v := ?_) (by rw [List.getElem?_toArray]; rfl) (by kernel_rfl) (by kernel_rfl) (by kernel_rfl) (by exact fun _ _ _ h => h) (Or.inl ⟨by rfl, ?_⟩) (by assumption) ?_
    rotate_left
    · intro w' hSw
      obtain ⟨⟨_, c0, c1, c2⟩, _⟩ := hSw
      go_simp
      try with_reducible rfl
    try simp only [Act.put, List.setIfInBounds_toArray, List.set_cons_zero, List.set_cons_succ]
    refine wpAnyH_take (i := 10) (v := ?_) (by rw [List.getElem?_toArray]; rfl) (by kernel_rfl) (by kernel_rfl) (by kernel_rfl) (by exact fun _ _ _ h => h) (Or.inl ⟨by rfl, ?_⟩) (by assumption) ?_
    rotate_left
    · intro w' hSw
      obtain ⟨⟨_, c0, c1, c2⟩, _⟩ := hSw
      go_simp
      try with_reducible rfl
    try simp only [Act.put, List.setIfInBounds_toArray, List.set_cons_zero, List.set_cons_succ]
    refine wpAnyH_done (by kernel_rfl) ?_ _
    clear hHeld HRV
    obtain rfl : C = CT := (str_eq HCT.out).symm
    obtain rfl : SD = SU := str_eq (HSD.out.trans HSU.out.symm)
    obtain rfl : GD = GU := str_eq (HGD.out.trans HGU.out.symm)
    obtain ⟨⟨_, dD0, dD1, dD2⟩, kD0, kD1, kD2⟩ := HXD.out
    obtain ⟨⟨_, dU0, dU1, dU2⟩, kU0, kU1, kU2⟩ := HXU.out
    go_wp2_with fail
    clear dD0 dD1 dD2 kD0 kD1 kD2
    clear dU0 dU1 dU2 kU0 kU1 kU2
    refine wp_region_held_drew (S := fun w' => R3 w10.heap.size w' (X : Int) SD GD) (by kernel_rfl) (HXU.out.below (Below.drewN' (Below.refl w14.heap.size w14) 1)) (fun hHeld => ?_)
    refine wpAnyH_take (i := 0) (v := ?_) (by rw [List.getElem?_toArray]; rfl) (by kernel_rfl) (by kernel_rfl) (by kernel_rfl) (by exact fun _ _ _ h => h) (Or.inl ⟨by rfl, ?_⟩) (by assumption) ?_
    rotate_left
    · intro w' hSw
      obtain ⟨⟨_, c0, c1, c2⟩, _⟩ := hSw
      go_simp
      try with_reducible rfl
    try simp only [Act.put, List.setIfInBounds_toArray, List.set_cons_zero, List.set_cons_succ]
    refine wpAnyH_take (i := 1) (v := ?_) (by rw [List.getElem?_toArray]; rfl) (by kernel_rfl) (by kernel_rfl) (by kernel_rfl) (by exact fun _ _ _ h => h) (Or.inl ⟨by rfl, ?_⟩) (by assumption) ?_
    rotate_left
    · intro w' hSw
      obtain ⟨⟨_, c0, c1, c2⟩, _⟩ := hSw
      go_simp
      try with_reducible rfl
    try simp only [Act.put, List.setIfInBounds_toArray, List.set_cons_zero, List.set_cons_succ]
    refine wpAnyH_take (i := 3) (v := ?_) (by rw [List.getElem?_toArray]; rfl) (by kernel_rfl) (by kernel_rfl) (by kernel_rfl) (by exact fun _ _ _ h => h) (Or.inl ⟨by rfl, ?_⟩) (by assumption) ?_
    rotate_left
    · intro w' hSw
      obtain ⟨⟨_, c0, c1, c2⟩, _⟩ := hSw
      go_simp
      try with_reducible rfl
    try simp only [Act.put, List.setIfInBounds_toArray, List.set_cons_zero, List.set_cons_succ]
    refine wpAnyH_take (i := 4) (v := ?_) (by rw [List.getElem?_toArray]; rfl) (by kernel_rfl) (by kernel_rfl) (by kernel_rfl) (by exact fun _ _ _ h => h) (Or.inl ⟨by rfl, ?_⟩) (by assumption) ?_
    rotate_left
    · intro w' hSw
      obtain ⟨⟨_, c0, c1, c2⟩, _⟩ := hSw
      go_simp
      try with_reducible rfl
    try simp only [Act.put, List.setIfInBounds_toArray, List.set_cons_zero, List.set_cons_succ]
    have hdr : Below w14.heap.size w14 w14.drew := Below.drewN' (Below.refl w14.heap.size w14) 1
    clear hHeld
    generalize w14.drew = wd15 at hdr ⊢
    have HB15 := Lib.hid (Bel.call HB14.out hdr)
    replace HXD := Lib.hid (HXD.out.below hdr)
    replace HXU := Lib.hid (HXU.out.below hdr)
    clear hdr
    refine wpAnyH_ready (rs := [2]) (by kernel_rfl) (by simp) ?_
    refine AllReadyH.cons (by rw [List.getElem?_toArray]; rfl) (fun K hK => ?_) AllReadyH.nil
    go_simp
    go_at_call 18
    with_reducible refine (HVF.out _).mono ?_
    rintro e w16 ⟨⟨AW, cW, vsW, hvs, hvn, hvc, hvr, hvz, rfl⟩, hb16⟩
    have HB16 := Lib.hid (Bel.call HB15.out hb16)
    replace HXD := Lib.hid (HXD.out.below hb16)
    replace HXU := Lib.hid (HXU.out.below hb16)
    clear hb16
    have HSW := Lib.hid hvs
    have HNW := Lib.hid hvn
    have HRW := Lib.hid hvr
    have HCW := Lib.hid hvc
    clear hvs hvn hvc hvr hvz
    dsimp only
    refine hK.out _ _ HXU.out (fun hHeld => ?_)
    try simp only [Act.put, List.setIfInBounds_toArray, List.set_cons_zero, List.set_cons_succ]
    clear hHeld
    refine wpAnyH_ready (rs := [5]) (by kernel_rfl) (by simp) ?_
    refine AllReadyH.cons (by rw [List.getElem?_toArray]; rfl) (fun K hK => ?_) AllReadyH.nil
    go_simp
    go_at_call 17
    with_reducible refine (HO2.out SD GD T _ _ _ _ HSU.out HGU.out HT.out HSW.out HRW.out).mono ?_
    rintro e w17 ⟨⟨CI, hCI, rfl⟩, hb17⟩
    have HB17 := Lib.hid (Bel.call HB16.out hb17)
    replace HXD := Lib.hid (HXD.out.below hb17)
    replace HXU := Lib.hid (HXU.out.below hb17)
    replace HRW := Lib.hid (HRW.out.below hb17 (Nat.le_refl _))
    clear hb17
    try dsimp only at hCI
    have HCI := Lib.hid hCI
    clear hCI
    dsimp only
    refine hK.out _ _ HXU.out (fun hHeld => ?_)
    try simp only [Act.put, List.setIfInBounds_toArray, List.set_cons_zero, List.set_cons_succ]
    refine wpAnyH_take (i := 6) (v := ?_) (by rw [List.getElem?_toArray]; rfl) (by kernel_rfl) (by kernel_rfl) (by kernel_rfl) (by exact fun _ _ _ h => h) (Or.inl ⟨by rfl, ?_⟩) (by assumption) ?_
    rotate_left
    · intro w' hSw
      obtain ⟨⟨_, c0, c1, c2⟩, _⟩ := hSw
      go_simp
      try with_reducible rfl
    try simp only [Act.put, List.setIfInBounds_toArray, List.set_cons_zero, List.set_cons_succ]
    refine wpAnyH_take (i := 7) (v := ?_) (by rw [List.getElem?_toArray]; rfl) (by kernel_rfl) (by kernel_rfl) (by kernel_rfl) (by exact fun _ _ _ h => h) (Or.inl ⟨by rfl, ?_⟩) (by assumption) ?_
    rotate_left
    · intro w' hSw
      obtain ⟨⟨_, c0, c1, c2⟩, _⟩ := hSw
      go_simp
      try with_reducible rfl
    try simp only [Act.put, List.setIfInBounds_toArray, List.set_cons_zero, List.set_cons_succ]
    refine wpAnyH_take (i := 8) (v := ?_) (by rw [List.getElem?_toArray]; rfl) (by kernel_rfl) (by kernel_rfl) (by kernel_rfl) (by exact fun _ _ _ h => h) (Or.inl ⟨by rfl, ?_⟩) (by assumption) ?_
    rotate_left
    · intro w' hSw
      obtain ⟨⟨_, c0, c1, c2⟩, _⟩ := hSw
      go_simp
      try with_reducible rfl
    try simp only [Act.put, List.setIfInBounds_toArray, List.set_cons_zero, List.set_cons_succ]
    refine wpAnyH_take (i := 9) (v := ?_) (by rw [List.getElem?_toArray]; rfl) (by kernel_rfl) (by kernel_rfl) (by kernel_rfl) (by exact fun _ _ _ h => h) (Or.inl ⟨by rfl, ?_⟩) (by assumption) ?_
    rotate_left
    · intro w' hSw
      obtain ⟨⟨_, c0, c1, c2⟩, _⟩ := hSw
      go_simp
      try with_reducible rfl
    try simp only [Act.put, List.setIfInBounds_toArray, List.set_cons_zero, List.set_cons_succ]
    refine wpAnyH_take (i := 10) (v := ?_) (by rw [List.getElem?_toArray]; rfl) (by kernel_rfl) (by kernel_rfl) (by kernel_rfl) (by exact fun _ _ _ h => h) (Or.inl ⟨by rfl, ?_⟩) (by assumption) ?_
    rotate_left
    · intro w' hSw
      obtain ⟨⟨_, c0, c1, c2⟩, _⟩ := hSw
      go_simp
      try with_reducible rfl
    try simp only [Act.put, List.setIfInBounds_toArray, List.set_cons_zero, List.set_cons_succ]
    refine wpAnyH_done (by kernel_rfl) ?_ _
    clear hHeld HRW
    go_wp2_with fail
    refine wp_region_held_drew (S := fun w' => R3 w10.heap.size w' (X : Int) SD GD) (by kernel_rfl) (HXU.out.below (Below.drewN' (Below.refl w17.heap.size w17) 1)) (fun hHeld => ?_)
    refine wpAnyH_take (i := 0) (v := ?_) (by rw [List.getElem?_toArray]; rfl) (by kernel_rfl) (by kernel_rfl) (by kernel_rfl) (by exact fun _ _ _ h => h) (Or.inl ⟨by rfl, ?_⟩) (by assumption) ?_
    rotate_left
    · intro w' hSw
      obtain ⟨⟨_, c0, c1, c2⟩, _⟩ := hSw
      go_simp
      try with_reducible rfl
    try simp only [Act.put, List.setIfInBounds_toArray, List.set_cons_zero, List.set_cons_succ]
    refine wpAnyH_take (i := 1) (v := ?_) (by rw [List.getElem?_toArray]; rfl) (by kernel_rfl) (by kernel_rfl) (by kernel_rfl) (by exact fun _ _ _ h => h) (Or.inl ⟨by rfl, ?_⟩) (by assumption) ?_
    rotate_left
    · intro w' hSw
      obtain ⟨⟨_, c0, c1, c2⟩, _⟩ := hSw
      go_simp
      try with_reducible rfl
    try simp only [Act.put, List.setIfInBounds_toArray, List.set_cons_zero, List.set_cons_succ]
    refine wpAnyH_take (i := 2) (v := ?_) (by rw [List.getElem?_toArray]; rfl) (by kernel_rfl) (by kernel_rfl) (by kernel_rfl) (by exact fun _ _ _ h => h) (Or.inl ⟨by rfl, ?_⟩) (by assumption) ?_
    rotate_left
    · intro w' hSw
      obtain ⟨⟨_, c0, c1, c2⟩, _⟩ := hSw
      go_simp
      try with_reducible rfl
    try simp only [Act.put, List.setIfInBounds_toArray, List.set_cons_zero, List.set_cons_succ]
    refine wpAnyH_take (i := 5) (v := ?_) (by rw [List.getElem?_toArray]; rfl) (by kernel_rfl) (by kernel_rfl) (by kernel_rfl) (by exact fun _ _ _ h => h) (Or.inl ⟨by rfl, ?_⟩) (by assumption) ?_
    rotate_left
    · intro w' hSw
      obtain ⟨⟨_, c0, c1, c2⟩, _⟩ := hSw
      go_simp
      try with_reducible rfl
    try simp only [Act.put, List.setIfInBounds_toArray, List.set_cons_zero, List.set_cons_succ]
    refine wpAnyH_take (i := 6) (v := ?_) (by rw [List.getElem?_toArray]; rfl) (by kernel_rfl) (by kernel_rfl) (by kernel_rfl) (by exact fun _ _ _ h => h) (Or.inl ⟨by rfl, ?_⟩) (by assumption) ?_
    rotate_left
    · intro w' hSw
      obtain ⟨⟨_, c0, c1, c2⟩, _⟩ := hSw
      go_simp
      try with_reducible rfl
    try simp only [Act.put, List.setIfInBounds_toArray, List.set_cons_zero, List.set_cons_succ]
    have hdr : Below w17.heap.size w17 w17.drew := Below.drewN' (Below.refl w17.heap.size w17) 1
    clear hHeld
    generalize w17.drew = wd18 at hdr ⊢
    have HB18 := Lib.hid (Bel.call HB17.out hdr)
    replace HXD := Lib.hid (HXD.out.below hdr)
    replace HXU := Lib.hid (HXU.out.below hdr)
    clear hdr
    refine wpAnyH_ready (rs := [3]) (by kernel_rfl) (by simp) ?_
    refine AllReadyH.cons (by rw [List.getElem?_toArray]; rfl) (fun K hK => ?_) AllReadyH.nil
    go_simp
    go_at_call 18
    with_reducible refine (HVG.out _).mono ?_
    rintro e w19 ⟨⟨AZ, cZ, vsZ, hvs, hvn, hvc, hvr, hvz, rfl⟩, hb19⟩
    have HB19 := Lib.hid (Bel.call HB18.out hb19)
    replace HXD := Lib.hid (HXD.out.below hb19)
    replace HXU := Lib.hid (HXU.out.below hb19)
    clear hb19
    have HSZ := Lib.hid hvs
    have HNZ := Lib.hid hvn
    have HRZ := Lib.hid hvr
    have HCZ := Lib.hid hvc
    clear hvs hvn hvc hvr hvz
    dsimp only
    obtain ⟨g, off, vt, rfl, hvt, hvl, hg0, hrt⟩ := row_tail HSZ.out HRZ.out
    have hcz := HCZ.out
    have hlz : vsZ.length = vt.length + 1 := hvl
    have hz1 : (1 : Int) ≤ (vt.length : Int) + 1 := by omega
    have hz2 : ¬ cZ = 1 := by omega
    have HVT := Lib.hid hvt
    have HRT2 := Lib.hid hrt
    clear hvt hvl hg0 hrt hcz
    refine hK.out _ _ HXU.out (fun hHeld => ?_)
    try simp only [Act.put, List.setIfInBounds_toArray, List.set_cons_zero, List.set_cons_succ]
    clear hHeld
    refine wpAnyH_take (i := 4) (v := ?_) (by rw [List.getElem?_toArray]; rfl) (by kernel_rfl) (by kernel_rfl) (by kernel_rfl) (by exact fun _ _ _ h => h) (Or.inl ⟨by rfl, ?_⟩) (by assumption) ?_
    rotate_left
    · intro w' hSw
      go_simp
      try with_reducible rfl
    try simp only [Act.put, List.setIfInBounds_toArray, List.set_cons_zero, List.set_cons_succ]
    refine wpAnyH_ready (rs := [7]) (by kernel_rfl) (by simp) ?_
    refine AllReadyH.cons (by rw [List.getElem?_toArray]; rfl) (fun K hK => ?_) AllReadyH.nil
    go_simp
    go_at_call 17
    with_reducible refine (HO3.out SD GD T _ _ _ _ HSU.out HGU.out HT.out HVT.out HRT2.out).mono ?_
    rintro e w20 ⟨⟨CJ, hCJ, rfl⟩, hb20⟩
    have HB20 := Lib.hid (Bel.call HB19.out hb20)
    replace HXD := Lib.hid (HXD.out.below hb20)
    replace HXU := Lib.hid (HXU.out.below hb20)
    replace HRZ := Lib.hid (HRZ.out.below hb20 (Nat.le_refl _))
    clear hb20
    try dsimp only at hCJ
    have HCJ := Lib.hid hCJ
    clear hCJ
    dsimp only
    refine hK.out _ _ HXU.out (fun hHeld => ?_)
    try simp only [Act.put, List.setIfInBounds_toArray, List.set_cons_zero, List.set_cons_succ]
    refine wpAnyH_take (i := 8) (v := ?_) (by rw [List.getElem?_toArray]; rfl) (by kernel_rfl) (by kernel_rfl) (by kernel_rfl) (by exact fun _ _ _ h => h) (Or.inl ⟨by rfl, ?_⟩) (by assumption) ?_
    rotate_left
    · intro w' hSw
      obtain ⟨⟨_, c0, c1, c2⟩, _⟩ := hSw
      go_simp
      try with_reducible rfl
    try simp only [Act.put, List.setIfInBounds_toArray, List.set_cons_zero, List.set_cons_succ]
    refine wpAnyH_take (i := 9) (v := ?_) (by rw [List.getElem?_toArray]; rfl) (by kernel_rfl) (by kernel_rfl) (by kernel_rfl) (by exact fun _ _ _ h => h) (Or.inl ⟨by rfl, ?_⟩) (by assumption) ?_
    rotate_left
    · intro w' hSw
      obtain ⟨⟨_, c0, c1, c2⟩, _⟩ := hSw
      go_simp
      try with_reducible rfl
    try simp only [Act.put, List.setIfInBounds_toArray, List.set_cons_zero, List.set_cons_succ]
    refine wpAnyH_take (i := 10) (v := ?_) (by rw [List.getElem?_toArray]; rfl) (by kernel_rfl) (by kernel_rfl) (by kernel_rfl) (by exact fun _ _ _ h => h) (Or.inl ⟨by rfl, ?_⟩) (by assumption) ?_
    rotate_left
    · intro w' hSw
      obtain ⟨⟨_, c0, c1, c2⟩, _⟩ := hSw
      go_simp
      try with_reducible rfl
    try simp only [Act.put, List.setIfInBounds_toArray, List.set_cons_zero, List.set_cons_succ]
    refine wpAnyH_take (i := 11) (v := ?_) (by rw [List.getElem?_toArray]; rfl) (by kernel_rfl) (by kernel_rfl) (by kernel_rfl) (by exact fun _ _ _ h => h) (Or.inl ⟨by rfl, ?_⟩) (by assumption) ?_
    rotate_left
    · intro w' hSw
      obtain ⟨⟨_, c0, c1, c2⟩, _⟩ := hSw
      go_simp
      try with_reducible rfl
    try simp only [Act.put, List.setIfInBounds_toArray, List.set_cons_zero, List.set_cons_succ]
    refine wpAnyH_take (i := 12) (v := ?_) (by rw [List.getElem?_toArray]; rfl) (by kernel_rfl) (by kernel_rfl) (by kernel_rfl) (by exact fun _ _ _ h => h) (Or.inl ⟨by rfl, ?_⟩) (by assumption) ?_
    rotate_left
    · intro w' hSw
      obtain ⟨⟨_, c0, c1, c2⟩, _⟩ := hSw
      go_simp
      try with_reducible rfl
    try simp only [Act.put, List.setIfInBounds_toArray, List.set_cons_zero, List.set_cons_succ]
    refine wpAnyH_done (by kernel_rfl) ?_ _
    clear hHeld HRZ
    go_wp2_with fail
    refine wp_region_held_drew (S := fun w' => R3 w10.heap.size w' (X : Int) SD GD) (by kernel_rfl) (HXU.out.below (Below.drewN' (Below.refl w20.heap.size w20) 1)) (fun hHeld => ?_)
    refine wpAnyH_take (i := 0) (v := ?_) (by rw [List.getElem?_toArray]; rfl) (by kernel_rfl) (by kernel_rfl) (by kernel_rfl) (by exact fun _ _ _ h => h) (Or.inl ⟨by rfl, ?_⟩) (by assumption) ?_
    rotate_left
    · intro w' hSw
      obtain ⟨⟨_, c0, c1, c2⟩, _⟩ := hSw
      go_simp
      try with_reducible rfl
    try simp only [Act.put, List.setIfInBounds_toArray, List.set_cons_zero, List.set_cons_succ]
    refine wpAnyH_take (i := 1) (v := ?_) (by rw [List.getElem?_toArray]; rfl) (by kernel_rfl) (by kernel_rfl) (by kernel_rfl) (by exact fun _ _ _ h => h) (Or.inl ⟨by rfl, ?_⟩) (by assumption) ?_
    rotate_left
    · intro w' hSw
      obtain ⟨⟨_, c0, c1, c2⟩, _⟩ := hSw
      go_simp
      try with_reducible rfl
    try simp only [Act.put, List.setIfInBounds_toArray, List.set_cons_zero, List.set_cons_succ]
    refine wpAnyH_take (i := 3) (v := ?_) (by rw [List.getElem?_toArray]; rfl) (by kernel_rfl) (by kernel_rfl) (by kernel_rfl) (by exact fun _ _ _ h => h) (Or.inl ⟨by rfl, ?_⟩) (by assumption) ?_
    rotate_left
    · intro w' hSw
      obtain ⟨⟨_, c0, c1, c2⟩, _⟩ := hSw
      go_simp
      try with_reducible rfl
    try simp only [Act.put, List.setIfInBounds_toArray, List.set_cons_zero, List.set_cons_succ]
    refine wpAnyH_take (i := 4) (v := ?_) (by rw [List.getElem?_toArray]; rfl) (by kernel_rfl) (by kernel_rfl) (by kernel_rfl) (by exact fun _ _ _ h => h) (Or.inl ⟨by rfl, ?_⟩) (by assumption) ?_
    rotate_left
    · intro w' hSw
      obtain ⟨⟨_, c0, c1, c2⟩, _⟩ := hSw
      go_simp
      try with_reducible rfl
    try simp only [Act.put, List.setIfInBounds_toArray, List.set_cons_zero, List.set_cons_succ]
    have hdr : Below w20.heap.size w20 w20.drew := Below.drewN' (Below.refl w20.heap.size w20) 1
    clear hHeld
    generalize w20.drew = wd21 at hdr ⊢
    have HB21 := Lib.hid (Bel.call HB20.out hdr)
    replace HXD := Lib.hid (HXD.out.below hdr)
    replace HXU := Lib.hid (HXU.out.below hdr)
    clear hdr
    refine wpAnyH_ready (rs := [2]) (by kernel_rfl) (by simp) ?_
    refine AllReadyH.cons (by rw [List.getElem?_toArray]; rfl) (fun K hK => ?_) AllReadyH.nil
    go_simp
    go_at_call 18
    with_reducible refine (HVF.out _).mono ?_
    rintro e w22 ⟨⟨AY, cY, vsY, hvs, hvn, hvc, hvr, hvz, rfl⟩, hb22⟩
    have HB22 := Lib.hid (Bel.call HB21.out hb22)
    replace HXD := Lib.hid (HXD.out.below hb22)
    replace HXU := Lib.hid (HXU.out.below hb22)
    clear hb22
    have HSY := Lib.hid hvs
    have HNY := Lib.hid hvn
    have HRY := Lib.hid hvr
    have HCY := Lib.hid hvc
    clear hvs hvn hvc hvr hvz
    dsimp only
    refine hK.out _ _ HXU.out (fun hHeld => ?_)
    try simp only [Act.put, List.setIfInBounds_toArray, List.set_cons_zero, List.set_cons_succ]
    clear hHeld
    refine wpAnyH_ready (rs := [5]) (by kernel_rfl) (by simp) ?_
    refine AllReadyH.cons (by rw [List.getElem?_toArray]; rfl) (fun K hK => ?_) AllReadyH.nil
    go_simp
    go_at_call 17
    with_reducible refine (HO4.out SD GD S _ _ _ _ HSU.out HGU.out HS.out HSY.out HRY.out).mono ?_
    rintro e w23 ⟨⟨CK, hCK, rfl⟩, hb23⟩
    have HB23 := Lib.hid (Bel.call HB22.out hb23)
    replace HXD := Lib.hid (HXD.out.below hb23)
    replace HXU := Lib.hid (HXU.out.below hb23)
    replace HRY := Lib.hid (HRY.out.below hb23 (Nat.le_refl _))
    clear hb23
    try dsimp only at hCK
    have HCK := Lib.hid hCK
    clear hCK
    dsimp only
    refine hK.out _ _ HXU.out (fun hHeld => ?_)
    try simp only [Act.put, List.setIfInBounds_toArray, List.set_cons_zero, List.set_cons_succ]
    refine wpAnyH_take (i := 6) (v := ?_) (by rw [List.getElem?_toArray]; rfl) (by kernel_rfl) (by kernel_rfl) (by kernel_rfl) (by exact fun _ _ _ h => h) (Or.inl ⟨by rfl, ?_⟩) (by assumption) ?_
    rotate_left
    · intro w' hSw
      obtain ⟨⟨_, c0, c1, c2⟩, _⟩ := hSw
      go_simp
      try with_reducible rfl
    try simp only [Act.put, List.setIfInBounds_toArray, List.set_cons_zero, List.set_cons_succ]
    refine wpAnyH_take (i := 7) (v := ?_) (by rw [List.getElem?_toArray]; rfl) (by kernel_rfl) (by kernel_rfl) (by kernel_rfl) (by exact fun _ _ _ h => h) (Or.inl ⟨by rfl, ?_⟩) (by assumption) ?_
    rotate_left
    · intro w' hSw
      obtain ⟨⟨_, c0, c1, c2⟩, _⟩ := hSw
      go_simp
      try with_reducible rfl
    try simp only [Act.put, List.setIfInBounds_toArray, List.set_cons_zero, List.set_cons_succ]
    refine wpAnyH_take (i := 8) (v := ?_) (by rw [List.getElem?_toArray]; rfl) (by kernel_rfl) (by kernel_rfl) (by kernel_rfl) (by exact fun _ _ _ h => h) (Or.inl ⟨by rfl, ?_⟩) (by assumption) ?_
    rotate_left
    · intro w' hSw
      obtain ⟨⟨_, c0, c1, c2⟩, _⟩ := hSw
      go_simp
      try with_reducible rfl
    try simp only [Act.put, List.setIfInBounds_toArray, List.set_cons_zero, List.set_cons_succ]
    refine wpAnyH_take (i := 9) (v := ?_) (by rw [List.getElem?_toArray]; rfl) (by kernel_rfl) (by kernel_rfl) (by kernel_rfl) (by exact fun _ _ _ h => h) (Or.inl ⟨by rfl, ?_⟩) (by assumption) ?_
    rotate_left
    · intro w' hSw
      obtain ⟨⟨_, c0, c1, c2⟩, _⟩ := hSw
      go_simp
      try with_reducible rfl
    try simp only [Act.put, List.setIfInBounds_toArray, List.set_cons_zero, List.set_cons_succ]
    refine wpAnyH_take (i := 10) (v := ?_) (by rw [List.getElem?_toArray]; rfl) (by kernel_rfl) (by kernel_rfl) (by kernel_rfl) (by exact fun _ _ _ h => h) (Or.inl ⟨by rfl, ?_⟩) (by assumption) ?_
    rotate_left
    · intro w' hSw
      obtain ⟨⟨_, c0, c1, c2⟩, _⟩ := hSw
      go_simp
      try with_reducible rfl
    try simp only [Act.put, List.setIfInBounds_toArray, List.set_cons_zero, List.set_cons_succ]
    refine wpAnyH_done (by kernel_rfl) ?_ _
    clear hHeld HRY
    go_wp2
    go_ret
    exact ⟨rfl, HB23.out⟩
end Go.Proofs.Ytjdignbmlfbdnaa.Dta
