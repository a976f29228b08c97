/-
  THE LAW DataLong, walked over the landed code. By an AI agent; no person has read it.
-/
import Derived.Test.YtjdignbmlfbdnaaQShown
namespace Go.Proofs.Ytjdignbmlfbdnaa.Dta
open Go.RowKit Wire Term Draw Reg Clo

set_option linter.unusedSimpArgs false
set_option linter.unusedVariables false
theorem txtT_len {c : Tm} (h : c.length ≤ 64) : (txtT c).length = (txtT []).length + c.length + (if 0 < c.length then 1 else 0) := by
  have e0 : (txtT []).length = 2 := by
    show (116 :: putText []).length = 2
    rw [List.length_cons, putText_len, show ([] : Tm).length = 0 from rfl, put_zero]
    rfl
  rw [e0]
  show (116 :: putText c).length = _
  rw [List.length_cons, putText_len]
  split
  · rename_i h0
    rw [put_byte h0 (by omega)]
    simp only [List.length_cons, List.length_nil]
    try omega
  · rename_i h0
    rw [show c.length = 0 by omega, put_zero]
    rfl
theorem sealT_len {n x : Nat} {p c : Tm} (h : c.length ≤ 64) : (sealT n x p c).length = (sealT n x p []).length + c.length + (if 0 < c.length then 1 else 0) := by
  have := txtT_len h
  unfold sealT inner
  simp only [List.length_cons, List.length_append]
  omega
set_option maxHeartbeats 8000000 in
set_option maxRecDepth 1000000 in
theorem long_walk (root a : Int) (C : ByteArray) (times : Int) (w : World) (h1 : -9223372036854775808 ≤ root ∧ root ≤ 9223372036854775807) (h2 : -9223372036854775808 ≤ a ∧ a ≤ 9223372036854775807) (h3 : -9223372036854775808 ≤ times ∧ times ≤ 9223372036854775807) :
    Calls Try.prog 5 #[.int .i64 root, .int .i64 a, .string C, .int .i64 times] w fun e w' => e = .returned (.bool true) ∧ Below w.heap.size w w' := by
  have HSH := Lib.hid fun w => shown9_any w
  by_cases h100 : 100 < C.size
  · go_enter Try.func5, Try.ntmps5
    go_wp2_with fail
    with_reducible refine (HSH.out _).mono ?_
    rintro e w1 ⟨rfl, hb1⟩
    dsimp only
    go_wp2
    go_ret
    exact ⟨rfl, hb1⟩
  have HPA : Hid (∀ w, Calls Try.prog 9 #[.int .i64 a, .int .i64 8] w fun e w' => e = .returned (.int .i64 (pk a 8 : Int)) ∧ w' = w) := Lib.hid fun w => pick9_any a 8 w h2 (by decide) (by decide)
  have HPT : Hid (∀ w, Calls Try.prog 9 #[.int .i64 times, .int .i64 5] w fun e w' => e = .returned (.int .i64 (pk times 5 : Int)) ∧ w' = w) := Lib.hid fun w => pick9_any times 5 w h3 (by decide) (by decide)
  have HRT := Lib.hid fun w => rootOf_any root w h1
  have hX := pk_lt a (n := 8) (by decide)
  have hM := pk_lt times (n := 5) (by decide)
  have hN := pk_lt root (n := 5) (by decide)
  generalize pk a 8 = X at HPA hX
  generalize pk times 5 = M at HPT hM
  generalize pk root 5 = N at HRT hN
  have hn : N < 18446744073709551616 := by omega
  have stl : ∀ k, k ≤ 7 → (hs k (rootS N)).length ≤ 100000 := fun k hk => by have := (st_sz hn hk).2; omega
  have HST : Hid (∀ (R : ByteArray) (w : World), R.data.toList = rootS N → Calls Try.prog 10 #[.string R, .int .i64 (X : Int)] w fun e w' => Sr (hs (7 - X) (rootS N), 0) e ∧ Below w.heap.size w w') := Lib.hid fun R w hR => state_to hn (x := X) (by omega) hR w
  have HSG : Hid (∀ (w : World), Calls Try.prog 13 #[.int .i64 (X : Int)] w fun e w' => St (sgn X) e ∧ Below w.heap.size w w') := Lib.hid fun w => signerOf_any X w (by omega)
  have HVF : Hid (∀ (w : World), Calls Try.prog 18 #[.int .i64 (X : Int)] w fun e w' => Vf (X + 1) e w' ∧ Below w.heap.size w w') := Lib.hid fun w => by
    have := verifyOf_any (X + 1) w (by omega)
    rw [show (((X + 1) : Nat) : Int) - 1 = (X : Int) by omega] at this
    exact this
  have HBE : Hid (∀ (S G : ByteArray) (w : World), S.data.toList = hs (7 - X) (rootS N) → G.data.toList = sgn X → Calls Try.prog 12 #[.string S, .int .i64 (X : Int), .string G, .string ⟨#[97, 110, 110, 97, 47, 110, 111, 116, 101, 115]⟩, .string ⟨#[]⟩] w fun e w' => Bs (bOf N X X (⟨#[97, 110, 110, 97, 47, 110, 111, 116, 101, 115]⟩ : ByteArray).data.toList (⟨#[]⟩ : ByteArray).data.toList, 0) e ∧ Below w.heap.size w w') := Lib.hid fun S G w hS hG => build_to hn (x := X) (i := X) (by omega) (by omega) hS hG (P := ⟨#[97, 110, 110, 97, 47, 110, 111, 116, 101, 115]⟩) (C := ⟨#[]⟩) (pN_path) (by decide) w
  go_enter Try.func5, Try.ntmps5
  go_wp2_with fail
  with_reducible refine (HSH.out _).mono ?_
  rintro e w1 ⟨rfl, hb1⟩
  have HB1 := Lib.hid hb1
  clear hb1
  dsimp only
  go_wp2_with fail
  with_reducible refine (HPA.out _).mono ?_
  rintro e v1 ⟨rfl, hv1⟩
  obtain rfl : w1 = v1 := hv1.symm
  dsimp only
  go_wp2_with fail
  with_reducible refine (HRT.out _).mono ?_
  rintro e w2 ⟨⟨R, hR, rfl⟩, hb2⟩
  have HB2 := Lib.hid (Bel.call HB1.out hb2)
  clear hb2
  try dsimp only at hR
  have HR := Lib.hid hR
  clear hR
  dsimp only
  go_wp2_with fail
  with_reducible refine (HST.out R _ HR.out).mono ?_
  rintro e w3 ⟨⟨S, hS, rfl⟩, hb3⟩
  have HB3 := Lib.hid (Bel.call HB2.out hb3)
  clear hb3
  try dsimp only at hS
  have HS := Lib.hid hS
  clear hS
  dsimp only
  go_wp2_with fail
  go_loopw [13, 14] (fun v i wr => ∃ (k : Nat) (TX : ByteArray), k ≤ M + 1 ∧ v = .string TX ∧ i = .int .i64 (k : Int) ∧ TX.size ≤ 100 * k ∧ Hid (Below w.heap.size w wr)) (fun _ i _ => M + 1 - (intOf i).toNat)
  case atStart => exact ⟨0, ⟨#[]⟩, Nat.zero_le _, by simp, by simp, by decide, HB3⟩
  case round =>
    obtain ⟨k, TX, hk, rfl, rfl, hT, HB20⟩ := hrel
    by_cases hle : k ≤ M
    · have hsum : ¬ (9223372036854775807 < TX.size + C.size) := by omega
      go_wp2_with fail
      with_reducible refine (HPT.out _).mono ?_
      rintro e v1 ⟨rfl, hv1⟩
      obtain rfl : wr = v1 := hv1.symm
      dsimp only
      obtain ⟨TC, hTC⟩ : ∃ TC, TX ++ C = TC := ⟨_, rfl⟩
      have hTS : TC.size ≤ 100 * (k + 1) := by rw [← hTC, ByteArray.size_append]; omega
      go_wp2
      go_roundw
      case rel => exact ⟨k + 1, TC, by omega, rfl, by go_num, hTS, HB20⟩
      case measure => simp [intOf]; omega
    · have hT5 : TX.size ≤ 500 := by omega
      clear hT
      by_cases h64 : 64 < TX.size
      · have HBD : Hid (∀ (S G : ByteArray) (w : World), S.data.toList = hs (7 - X) (rootS N) → G.data.toList = sgn X → Calls Try.prog 12 #[.string S, .int .i64 (X : Int), .string G, .string ⟨#[97, 110, 110, 97, 47, 110, 111, 116, 101, 115]⟩, .string TX] w fun e w' => Bs (bzero, 10) e ∧ Below w.heap.size w w') := Lib.hid fun S G w hS hG => build_no hn (x := X) (i := X) (by omega) (by omega) hS hG (P := ⟨#[97, 110, 110, 97, 47, 110, 111, 116, 101, 115]⟩) (C := TX) pN_path (by omega) (by omega) w
        go_wp2_with fail
        with_reducible refine (HPT.out _).mono ?_
        rintro e v1 ⟨rfl, hv1⟩
        obtain rfl : wr = v1 := hv1.symm
        dsimp only
        go_wp2_with fail
        with_reducible refine (HSG.out _).mono ?_
        rintro e w21 ⟨⟨G, hG, rfl⟩, hb21⟩
        have HB21 := Lib.hid (Bel.call HB20.out hb21)
        clear hb21
        try dsimp only at hG
        have HG := Lib.hid hG
        clear hG
        dsimp only
        go_wp2_with fail
        with_reducible refine (HBD.out S G _ HS.out HG.out).mono ?_
        rintro e w22 ⟨hx, hb22⟩
        have HB22 := Lib.hid (Bel.call HB21.out hb22)
        clear hb22
        obtain rfl := bs_zero hx
        dsimp only
        go_wp2_with fail
        have hbS : Below w22.heap.size w22 (w22.alloc (.cells #[.int .i64 0, .string ⟨#[]⟩, .string ⟨#[]⟩] 29)) := (Below.refl w22.heap.size w22).alloc (Nat.le_refl _) _
        have hxS := r3_new w22 (0) ⟨#[]⟩ ⟨#[]⟩ 29
        generalize w22.alloc (.cells #[.int .i64 0, .string ⟨#[]⟩, .string ⟨#[]⟩] 29) = wSD at hbS hxS ⊢
        have HB23 := Lib.hid (Bel.call HB22.out hbS)
        have HXD := Lib.hid hxS
        clear hbS hxS
        with_reducible refine (HSG.out _).mono ?_
        rintro e w24 ⟨⟨K, hK, rfl⟩, hb24⟩
        have HB24 := Lib.hid (Bel.call HB23.out hb24)
        replace HXD := Lib.hid (HXD.out.below hb24)
        clear hb24
        try dsimp only at hK
        have HK := Lib.hid hK
        clear hK
        dsimp only
        go_wp2_with fail
        with_reducible refine (HBE.out S K _ HS.out HK.out).mono ?_
        rintro e w25 ⟨hx, hb25⟩
        have HB25 := Lib.hid (Bel.call HB24.out hb25)
        replace HXD := Lib.hid (HXD.out.below hb25)
        clear hb25
        obtain ⟨SE, GE, hSE, hGE, rfl⟩ := bs_bOf hx
        have HSE := Lib.hid hSE
        have HGE := Lib.hid hGE
        clear hx hSE hGE
        dsimp only
        obtain ⟨⟨_, dD0, dD1, dD2⟩, kD0, kD1, kD2⟩ := HXD.out
        have hbS : Below w25.heap.size w25 (w25.alloc (.cells #[.int .i64 (X : Int), .string SE, .string GE] 29)) := (Below.refl w25.heap.size w25).alloc (Nat.le_refl _) _
        obtain ⟨⟨_, c0, c1, c2⟩, _⟩ := HXD.out.below hbS
        have HBL := Lib.hid (Bel.call HB25.out hbS)
        clear hbS
        go_wp2
        go_ret
        exact ⟨rfl, HBL.out⟩
      · have hbr : BR (bOf N X X (⟨#[97, 110, 110, 97, 47, 110, 111, 116, 101, 115]⟩ : ByteArray).data.toList TX.data.toList) := bOf_right hn (by omega) (by omega) pN_path (by rw [← Lib.size_eq]; omega)
        have HBD : Hid (∀ (S G : ByteArray) (w : World), S.data.toList = hs (7 - X) (rootS N) → G.data.toList = sgn X → Calls Try.prog 12 #[.string S, .int .i64 (X : Int), .string G, .string ⟨#[97, 110, 110, 97, 47, 110, 111, 116, 101, 115]⟩, .string TX] w fun e w' => Bs (bOf N X X (⟨#[97, 110, 110, 97, 47, 110, 111, 116, 101, 115]⟩ : ByteArray).data.toList (TX : ByteArray).data.toList, 0) e ∧ Below w.heap.size w w') := Lib.hid fun S G w hS hG => build_to hn (x := X) (i := X) (by omega) (by omega) hS hG (P := ⟨#[97, 110, 110, 97, 47, 110, 111, 116, 101, 115]⟩) (C := TX) (pN_path) (by omega) w
        have HO1 : Hid (∀ (S G T : ByteArray) (A : Option Addr) (c : Nat) (vs : List ByteArray) (w : World), S.data.toList = (bOf N X X (⟨#[97, 110, 110, 97, 47, 110, 111, 116, 101, 115]⟩ : ByteArray).data.toList TX.data.toList).sl → G.data.toList = (bOf N X X (⟨#[97, 110, 110, 97, 47, 110, 111, 116, 101, 115]⟩ : ByteArray).data.toList TX.data.toList).sg → T.data.toList = hs (7 - X) (rootS N) → bl vs = sgps (X + 1) → SReads w A vs → Calls Try.prog 17 #[.agg #[.int .i64 (X : Int), .string S, .string G], .slice A vs.length c, .string T, .int .i64 (X : Int), .string ⟨#[97, 110, 110, 97, 47, 110, 111, 116, 101, 115]⟩] w fun e w' => Sr (TX.data.toList, 0) e ∧ Below w.heap.size w w') := Lib.hid fun S G T A c vs w hS hG hT hv hr => by
          have hbr : BR (bOf N X X (⟨#[97, 110, 110, 97, 47, 110, 111, 116, 101, 115]⟩ : ByteArray).data.toList TX.data.toList) := hbr
          have hvl : vs.length ≤ 40 := by
            have := congrArg List.length hv
            simp only [bl_len', sgps_len, List.length_map, List.length_range, List.length_tail] at this
            omega
          exact open_to (b := bOf N X X (⟨#[97, 110, 110, 97, 47, 110, 111, 116, 101, 115]⟩ : ByteArray).data.toList TX.data.toList) (L := sgps (X + 1)) (q := (⟨#[97, 110, 110, 97, 47, 110, 111, 116, 101, 115]⟩ : ByteArray).data.toList) (by
            show openB (bOf N X X pN TX.data.toList) (sgps (X + 1)) (hs (7 - X) (rootS N)) (X : Int) pN = _
            rw [open_is hn (by omega) (by omega) pN_path (by rw [← Lib.size_eq]; omega) (by omega) (j := X) (by omega) (sgps_len _) (by omega) (sgps_get (by omega)), if_pos ⟨rfl, rfl⟩]) rfl hS hG hv rfl hT rfl (seal_size hbr hS) (sig_size hbr hG) (by rw [Lib.size_eq, hT]; exact stl _ (by omega)) (by decide) (by omega) (sgps_sizes hv (by omega)) (by omega) w hr
        have HLEN : Hid (∀ SD SE : ByteArray, SD.data.toList = (bOf N X X (⟨#[97, 110, 110, 97, 47, 110, 111, 116, 101, 115]⟩ : ByteArray).data.toList TX.data.toList).sl → SE.data.toList = (bOf N X X (⟨#[97, 110, 110, 97, 47, 110, 111, 116, 101, 115]⟩ : ByteArray).data.toList (⟨#[]⟩ : ByteArray).data.toList).sl → SD.size = SE.size + TX.size + (if 0 < TX.size then 1 else 0)) := Lib.hid fun SD SE h1 h2 => by
          have := sealT_len (n := N) (x := X) (p := pN) (c := TX.data.toList) (by rw [← Lib.size_eq]; omega)
          rw [Lib.size_eq SD, h1, Lib.size_eq SE, h2, Lib.size_eq TX]
          exact this
        by_cases h0 : 0 < TX.size
        · go_wp2_with fail
          with_reducible refine (HPT.out _).mono ?_
          rintro e v1 ⟨rfl, hv1⟩
          obtain rfl : wr = v1 := hv1.symm
          dsimp only
          go_wp2_with fail
          with_reducible refine (HSG.out _).mono ?_
          rintro e w21 ⟨⟨G, hG, rfl⟩, hb21⟩
          have HB21 := Lib.hid (Bel.call HB20.out hb21)
          clear hb21
          try dsimp only at hG
          have HG := Lib.hid hG
          clear hG
          dsimp only
          go_wp2_with fail
          with_reducible refine (HBD.out S G _ HS.out HG.out).mono ?_
          rintro e w22 ⟨hx, hb22⟩
          have HB22 := Lib.hid (Bel.call HB21.out hb22)
          clear hb22
          obtain ⟨SD, GD, hSD, hGD, rfl⟩ := bs_bOf hx
          have HSD := Lib.hid hSD
          have HGD := Lib.hid hGD
          clear hx hSD hGD
          dsimp only
          go_wp2_with fail
          have hbS : Below w22.heap.size w22 (w22.alloc (.cells #[.int .i64 (X : Int), .string SD, .string GD] 29)) := (Below.refl w22.heap.size w22).alloc (Nat.le_refl _) _
          have hxS := r3_new w22 ((X : Int)) SD GD 29
          generalize w22.alloc (.cells #[.int .i64 (X : Int), .string SD, .string GD] 29) = wSD at hbS hxS ⊢
          have HB23 := Lib.hid (Bel.call HB22.out hbS)
          have HXD := Lib.hid hxS
          clear hbS hxS
          with_reducible refine (HSG.out _).mono ?_
          rintro e w24 ⟨⟨K, hK, rfl⟩, hb24⟩
          have HB24 := Lib.hid (Bel.call HB23.out hb24)
          replace HXD := Lib.hid (HXD.out.below hb24)
          clear hb24
          try dsimp only at hK
          have HK := Lib.hid hK
          clear hK
          dsimp only
          go_wp2_with fail
          with_reducible refine (HBE.out S K _ HS.out HK.out).mono ?_
          rintro e w25 ⟨hx, hb25⟩
          have HB25 := Lib.hid (Bel.call HB24.out hb25)
          replace HXD := Lib.hid (HXD.out.below hb25)
          clear hb25
          obtain ⟨SE, GE, hSE, hGE, rfl⟩ := bs_bOf hx
          have HSE := Lib.hid hSE
          have HGE := Lib.hid hGE
          clear hx hSE hGE
          dsimp only
          go_wp2_with fail
          have hbS : Below w25.heap.size w25 (w25.alloc (.cells #[.int .i64 (X : Int), .string SE, .string GE] 29)) := (Below.refl w25.heap.size w25).alloc (Nat.le_refl _) _
          have hxS := r3_new w25 ((X : Int)) SE GE 29
          generalize w25.alloc (.cells #[.int .i64 (X : Int), .string SE, .string GE] 29) = wSE at hbS hxS ⊢
          have HB26 := Lib.hid (Bel.call HB25.out hbS)
          replace HXD := Lib.hid (HXD.out.below hbS)
          have HXE := Lib.hid hxS
          clear hbS hxS
          refine wp_region_held_drew (S := fun w' => R3 w22.heap.size w' (X : Int) SD GD) (by kernel_rfl) (HXD.out.below (Below.drewN' (Below.refl wSE.heap.size wSE) 1)) (fun hHeld => ?_)
          refine wpAnyH_take (i := 0) (v := ?_) (by rw [List.getElem?_toArray]; rfl) (by kernel_rfl) (by kernel_rfl) (by kernel_rfl) (by exact fun _ _ _ h => h) (Or.inl ⟨by rfl, ?_⟩) (by assumption) ?_
          rotate_left
          · intro w' hSw
            obtain ⟨⟨_, c0, c1, c2⟩, _⟩ := hSw
            go_simp
            try with_reducible rfl
          try simp only [Act.put, List.setIfInBounds_toArray, List.set_cons_zero, List.set_cons_succ]
          refine wpAnyH_take (i := 1) (v := ?_) (by rw [List.getElem?_toArray]; rfl) (by kernel_rfl) (by kernel_rfl) (by kernel_rfl) (by exact fun _ _ _ h => h) (Or.inl ⟨by rfl, ?_⟩) (by assumption) ?_
          rotate_left
          · intro w' hSw
            obtain ⟨⟨_, c0, c1, c2⟩, _⟩ := hSw
            go_simp
            try with_reducible rfl
          try simp only [Act.put, List.setIfInBounds_toArray, List.set_cons_zero, List.set_cons_succ]
          refine wpAnyH_take (i := 3) (v := ?_) (by rw [List.getElem?_toArray]; rfl) (by kernel_rfl) (by kernel_rfl) (by kernel_rfl) (by exact fun _ _ _ h => h) (Or.inl ⟨by rfl, ?_⟩) (by assumption) ?_
          rotate_left
          · intro w' hSw
            obtain ⟨⟨_, c0, c1, c2⟩, _⟩ := hSw
            go_simp
            try with_reducible rfl
          try simp only [Act.put, List.setIfInBounds_toArray, List.set_cons_zero, List.set_cons_succ]
          refine wpAnyH_take (i := 4) (v := ?_) (by rw [List.getElem?_toArray]; rfl) (by kernel_rfl) (by kernel_rfl) (by kernel_rfl) (by exact fun _ _ _ h => h) (Or.inl ⟨by rfl, ?_⟩) (by assumption) ?_
          rotate_left
          · intro w' hSw
            obtain ⟨⟨_, c0, c1, c2⟩, _⟩ := hSw
            go_simp
            try with_reducible rfl
          try simp only [Act.put, List.setIfInBounds_toArray, List.set_cons_zero, List.set_cons_succ]
          have hdr : Below wSE.heap.size wSE wSE.drew := Below.drewN' (Below.refl wSE.heap.size wSE) 1
          clear hHeld
          generalize wSE.drew = wd27 at hdr ⊢
          have HB27 := Lib.hid (Bel.call HB26.out hdr)
          replace HXD := Lib.hid (HXD.out.below hdr)
          replace HXE := Lib.hid (HXE.out.below hdr)
          clear hdr
          refine wpAnyH_ready (rs := [2]) (by kernel_rfl) (by simp) ?_
          refine AllReadyH.cons (by rw [List.getElem?_toArray]; rfl) (fun K hK => ?_) AllReadyH.nil
          go_simp
          go_at_call 18
          with_reducible refine (HVF.out _).mono ?_
          rintro e w28 ⟨⟨AV, cV, vsV, hvs, hvn, hvc, hvr, hvz, rfl⟩, hb28⟩
          have HB28 := Lib.hid (Bel.call HB27.out hb28)
          replace HXD := Lib.hid (HXD.out.below hb28)
          replace HXE := Lib.hid (HXE.out.below hb28)
          clear hb28
          have HSV := Lib.hid hvs
          have HNV := Lib.hid hvn
          have HRV := Lib.hid hvr
          have HCV := Lib.hid hvc
          clear hvs hvn hvc hvr hvz
          dsimp only
          refine hK.out _ _ HXD.out (fun hHeld => ?_)
          try simp only [Act.put, List.setIfInBounds_toArray, List.set_cons_zero, List.set_cons_succ]
          clear hHeld
          refine wpAnyH_ready (rs := [5]) (by kernel_rfl) (by simp) ?_
          refine AllReadyH.cons (by rw [List.getElem?_toArray]; rfl) (fun K hK => ?_) AllReadyH.nil
          go_simp
          go_at_call 17
          with_reducible refine (HO1.out SD GD S _ _ _ _ HSD.out HGD.out HS.out HSV.out HRV.out).mono ?_
          rintro e w29 ⟨⟨CT, hCT, rfl⟩, hb29⟩
          have HB29 := Lib.hid (Bel.call HB28.out hb29)
          replace HXD := Lib.hid (HXD.out.below hb29)
          replace HXE := Lib.hid (HXE.out.below hb29)
          replace HRV := Lib.hid (HRV.out.below hb29 (Nat.le_refl _))
          clear hb29
          try dsimp only at hCT
          have HCT := Lib.hid hCT
          clear hCT
          dsimp only
          refine hK.out _ _ HXD.out (fun hHeld => ?_)
          try simp only [Act.put, List.setIfInBounds_toArray, List.set_cons_zero, List.set_cons_succ]
          refine wpAnyH_take (i := 6) (v := ?_) (by rw [List.getElem?_toArray]; rfl) (by kernel_rfl) (by kernel_rfl) (by kernel_rfl) (by exact fun _ _ _ h => h) (Or.inl ⟨by rfl, ?_⟩) (by assumption) ?_
          rotate_left
          · intro w' hSw
            obtain ⟨⟨_, c0, c1, c2⟩, _⟩ := hSw
            go_simp
            try with_reducible rfl
          try simp only [Act.put, List.setIfInBounds_toArray, List.set_cons_zero, List.set_cons_succ]
          refine wpAnyH_take (i := 7) (v := ?_) (by rw [List.getElem?_toArray]; rfl) (by kernel_rfl) (by kernel_rfl) (by kernel_rfl) (by exact fun _ _ _ h => h) (Or.inl ⟨by rfl, ?_⟩) (by assumption) ?_
          rotate_left
          · intro w' hSw
            obtain ⟨⟨_, c0, c1, c2⟩, _⟩ := hSw
            go_simp
            try with_reducible rfl
          try simp only [Act.put, List.setIfInBounds_toArray, List.set_cons_zero, List.set_cons_succ]
          refine wpAnyH_take (i := 8) (v := ?_) (by rw [List.getElem?_toArray]; rfl) (by kernel_rfl) (by kernel_rfl) (by kernel_rfl) (by exact fun _ _ _ h => h) (Or.inl ⟨by rfl, ?_⟩) (by assumption) ?_
          rotate_left
          · intro w' hSw
            obtain ⟨⟨_, c0, c1, c2⟩, _⟩ := hSw
            go_simp
            try with_reducible rfl
          try simp only [Act.put, List.setIfInBounds_toArray, List.set_cons_zero, List.set_cons_succ]
          refine wpAnyH_take (i := 9) (v := ?_) (by rw [List.getElem?_toArray]; rfl) (by kernel_rfl) (by kernel_rfl) (by kernel_rfl) (by exact fun _ _ _ h => h) (Or.inl ⟨by rfl, ?_⟩) (by assumption) ?_
          rotate_left
          · intro w' hSw
            obtain ⟨⟨_, c0, c1, c2⟩, _⟩ := hSw
            go_simp
            try with_reducible rfl
          try simp only [Act.put, List.setIfInBounds_toArray, List.set_cons_zero, List.set_cons_succ]
          refine wpAnyH_take (i := 10) (v := ?_) (by rw [List.getElem?_toArray]; rfl) (by kernel_rfl) (by kernel_rfl) (by kernel_rfl) (by exact fun _ _ _ h => h) (Or.inl ⟨by rfl, ?_⟩) (by assumption) ?_
          rotate_left
          · intro w' hSw
            obtain ⟨⟨_, c0, c1, c2⟩, _⟩ := hSw
            go_simp
            try with_reducible rfl
          try simp only [Act.put, List.setIfInBounds_toArray, List.set_cons_zero, List.set_cons_succ]
          refine wpAnyH_done (by kernel_rfl) ?_ _
          clear hHeld HRV
          obtain rfl : TX = CT := (str_eq HCT.out).symm
          obtain ⟨⟨_, dD0, dD1, dD2⟩, kD0, kD1, kD2⟩ := HXD.out
          obtain ⟨⟨_, dE0, dE1, dE2⟩, kE0, kE1, kE2⟩ := HXE.out
          have hlen := HLEN.out SD SE HSD.out HSE.out
          have hsd := seal_size hbr HSD.out
          rw [if_pos h0] at hlen
          have hw1 : IntKind.i64.wrap ((SE.size : Int) + (TX.size : Int)) = (SE.size : Int) + (TX.size : Int) := by rw [IntKind.wrap_i64]; omega
          have hw2 : IntKind.i64.wrap ((SE.size : Int) + (TX.size : Int) + 1) = (SE.size : Int) + (TX.size : Int) + 1 := by rw [IntKind.wrap_i64]; omega
          have hq : ((SD.size : Int) == (SE.size : Int) + (TX.size : Int) + 1) = true := by simp; omega
          clear hlen hsd
          go_wp2
          go_ret
          exact ⟨rfl, HB29.out⟩
        · go_wp2_with fail
          with_reducible refine (HPT.out _).mono ?_
          rintro e v1 ⟨rfl, hv1⟩
          obtain rfl : wr = v1 := hv1.symm
          dsimp only
          go_wp2_with fail
          with_reducible refine (HSG.out _).mono ?_
          rintro e w21 ⟨⟨G, hG, rfl⟩, hb21⟩
          have HB21 := Lib.hid (Bel.call HB20.out hb21)
          clear hb21
          try dsimp only at hG
          have HG := Lib.hid hG
          clear hG
          dsimp only
          go_wp2_with fail
          with_reducible refine (HBD.out S G _ HS.out HG.out).mono ?_
          rintro e w22 ⟨hx, hb22⟩
          have HB22 := Lib.hid (Bel.call HB21.out hb22)
          clear hb22
          obtain ⟨SD, GD, hSD, hGD, rfl⟩ := bs_bOf hx
          have HSD := Lib.hid hSD
          have HGD := Lib.hid hGD
          clear hx hSD hGD
          dsimp only
          go_wp2_with fail
          have hbS : Below w22.heap.size w22 (w22.alloc (.cells #[.int .i64 (X : Int), .string SD, .string GD] 29)) := (Below.refl w22.heap.size w22).alloc (Nat.le_refl _) _
          have hxS := r3_new w22 ((X : Int)) SD GD 29
          generalize w22.alloc (.cells #[.int .i64 (X : Int), .string SD, .string GD] 29) = wSD at hbS hxS ⊢
          have HB23 := Lib.hid (Bel.call HB22.out hbS)
          have HXD := Lib.hid hxS
          clear hbS hxS
          with_reducible refine (HSG.out _).mono ?_
          rintro e w24 ⟨⟨K, hK, rfl⟩, hb24⟩
          have HB24 := Lib.hid (Bel.call HB23.out hb24)
          replace HXD := Lib.hid (HXD.out.below hb24)
          clear hb24
          try dsimp only at hK
          have HK := Lib.hid hK
          clear hK
          dsimp only
          go_wp2_with fail
          with_reducible refine (HBE.out S K _ HS.out HK.out).mono ?_
          rintro e w25 ⟨hx, hb25⟩
          have HB25 := Lib.hid (Bel.call HB24.out hb25)
          replace HXD := Lib.hid (HXD.out.below hb25)
          clear hb25
          obtain ⟨SE, GE, hSE, hGE, rfl⟩ := bs_bOf hx
          have HSE := Lib.hid hSE
          have HGE := Lib.hid hGE
          clear hx hSE hGE
          dsimp only
          go_wp2_with fail
          have hbS : Below w25.heap.size w25 (w25.alloc (.cells #[.int .i64 (X : Int), .string SE, .string GE] 29)) := (Below.refl w25.heap.size w25).alloc (Nat.le_refl _) _
          have hxS := r3_new w25 ((X : Int)) SE GE 29
          generalize w25.alloc (.cells #[.int .i64 (X : Int), .string SE, .string GE] 29) = wSE at hbS hxS ⊢
          have HB26 := Lib.hid (Bel.call HB25.out hbS)
          replace HXD := Lib.hid (HXD.out.below hbS)
          have HXE := Lib.hid hxS
          clear hbS hxS
          refine wp_region_held_drew (S := fun w' => R3 w22.heap.size w' (X : Int) SD GD) (by kernel_rfl) (HXD.out.below (Below.drewN' (Below.refl wSE.heap.size wSE) 1)) (fun hHeld => ?_)
          refine wpAnyH_take (i := 0) (v := ?_) (by rw [List.getElem?_toArray]; rfl) (by kernel_rfl) (by kernel_rfl) (by kernel_rfl) (by exact fun _ _ _ h => h) (Or.inl ⟨by rfl, ?_⟩) (by assumption) ?_
          rotate_left
          · intro w' hSw
            obtain ⟨⟨_, c0, c1, c2⟩, _⟩ := hSw
            go_simp
            try with_reducible rfl
          try simp only [Act.put, List.setIfInBounds_toArray, List.set_cons_zero, List.set_cons_succ]
          refine wpAnyH_take (i := 1) (v := ?_) (by rw [List.getElem?_toArray]; rfl) (by kernel_rfl) (by kernel_rfl) (by kernel_rfl) (by exact fun _ _ _ h => h) (Or.inl ⟨by rfl, ?_⟩) (by assumption) ?_
          rotate_left
          · intro w' hSw
            obtain ⟨⟨_, c0, c1, c2⟩, _⟩ := hSw
            go_simp
            try with_reducible rfl
          try simp only [Act.put, List.setIfInBounds_toArray, List.set_cons_zero, List.set_cons_succ]
          refine wpAnyH_take (i := 3) (v := ?_) (by rw [List.getElem?_toArray]; rfl) (by kernel_rfl) (by kernel_rfl) (by kernel_rfl) (by exact fun _ _ _ h => h) (Or.inl ⟨by rfl, ?_⟩) (by assumption) ?_
          rotate_left
          · intro w' hSw
            obtain ⟨⟨_, c0, c1, c2⟩, _⟩ := hSw
            go_simp
            try with_reducible rfl
          try simp only [Act.put, List.setIfInBounds_toArray, List.set_cons_zero, List.set_cons_succ]
          refine wpAnyH_take (i := 4) (v := ?_) (by rw [List.getElem?_toArray]; rfl) (by kernel_rfl) (by kernel_rfl) (by kernel_rfl) (by exact fun _ _ _ h => h) (Or.inl ⟨by rfl, ?_⟩) (by assumption) ?_
          rotate_left
          · intro w' hSw
            obtain ⟨⟨_, c0, c1, c2⟩, _⟩ := hSw
            go_simp
            try with_reducible rfl
          try simp only [Act.put, List.setIfInBounds_toArray, List.set_cons_zero, List.set_cons_succ]
          have hdr : Below wSE.heap.size wSE wSE.drew := Below.drewN' (Below.refl wSE.heap.size wSE) 1
          clear hHeld
          generalize wSE.drew = wd27 at hdr ⊢
          have HB27 := Lib.hid (Bel.call HB26.out hdr)
          replace HXD := Lib.hid (HXD.out.below hdr)
          replace HXE := Lib.hid (HXE.out.below hdr)
          clear hdr
          refine wpAnyH_ready (rs := [2]) (by kernel_rfl) (by simp) ?_
          refine AllReadyH.cons (by rw [List.getElem?_toArray]; rfl) (fun K hK => ?_) AllReadyH.nil
          go_simp
          go_at_call 18
          with_reducible refine (HVF.out _).mono ?_
          rintro e w28 ⟨⟨AV, cV, vsV, hvs, hvn, hvc, hvr, hvz, rfl⟩, hb28⟩
          have HB28 := Lib.hid (Bel.call HB27.out hb28)
          replace HXD := Lib.hid (HXD.out.below hb28)
          replace HXE := Lib.hid (HXE.out.below hb28)
          clear hb28
          have HSV := Lib.hid hvs
          have HNV := Lib.hid hvn
          have HRV := Lib.hid hvr
          have HCV := Lib.hid hvc
          clear hvs hvn hvc hvr hvz
          dsimp only
          refine hK.out _ _ HXD.out (fun hHeld => ?_)
          try simp only [Act.put, List.setIfInBounds_toArray, List.set_cons_zero, List.set_cons_succ]
          clear hHeld
          refine wpAnyH_ready (rs := [5]) (by kernel_rfl) (by simp) ?_
          refine AllReadyH.cons (by rw [List.getElem?_toArray]; rfl) (fun K hK => ?_) AllReadyH.nil
          go_simp
          go_at_call 17
          with_reducible refine (HO1.out SD GD S _ _ _ _ HSD.out HGD.out HS.out HSV.out HRV.out).mono ?_
          rintro e w29 ⟨⟨CT, hCT, rfl⟩, hb29⟩
          have HB29 := Lib.hid (Bel.call HB28.out hb29)
          replace HXD := Lib.hid (HXD.out.below hb29)
          replace HXE := Lib.hid (HXE.out.below hb29)
          replace HRV := Lib.hid (HRV.out.below hb29 (Nat.le_refl _))
          clear hb29
          try dsimp only at hCT
          have HCT := Lib.hid hCT
          clear hCT
          dsimp only
          refine hK.out _ _ HXD.out (fun hHeld => ?_)
          try simp only [Act.put, List.setIfInBounds_toArray, List.set_cons_zero, List.set_cons_succ]
          refine wpAnyH_take (i := 6) (v := ?_) (by rw [List.getElem?_toArray]; rfl) (by kernel_rfl) (by kernel_rfl) (by kernel_rfl) (by exact fun _ _ _ h => h) (Or.inl ⟨by rfl, ?_⟩) (by assumption) ?_
          rotate_left
          · intro w' hSw
            obtain ⟨⟨_, c0, c1, c2⟩, _⟩ := hSw
            go_simp
            try with_reducible rfl
          try simp only [Act.put, List.setIfInBounds_toArray, List.set_cons_zero, List.set_cons_succ]
          refine wpAnyH_take (i := 7) (v := ?_) (by rw [List.getElem?_toArray]; rfl) (by kernel_rfl) (by kernel_rfl) (by kernel_rfl) (by exact fun _ _ _ h => h) (Or.inl ⟨by rfl, ?_⟩) (by assumption) ?_
          rotate_left
          · intro w' hSw
            obtain ⟨⟨_, c0, c1, c2⟩, _⟩ := hSw
            go_simp
            try with_reducible rfl
          try simp only [Act.put, List.setIfInBounds_toArray, List.set_cons_zero, List.set_cons_succ]
          refine wpAnyH_take (i := 8) (v := ?_) (by rw [List.getElem?_toArray]; rfl) (by kernel_rfl) (by kernel_rfl) (by kernel_rfl) (by exact fun _ _ _ h => h) (Or.inl ⟨by rfl, ?_⟩) (by assumption) ?_
          rotate_left
          · intro w' hSw
            obtain ⟨⟨_, c0, c1, c2⟩, _⟩ := hSw
            go_simp
            try with_reducible rfl
          try simp only [Act.put, List.setIfInBounds_toArray, List.set_cons_zero, List.set_cons_succ]
          refine wpAnyH_take (i := 9) (v := ?_) (by rw [List.getElem?_toArray]; rfl) (by kernel_rfl) (by kernel_rfl) (by kernel_rfl) (by exact fun _ _ _ h => h) (Or.inl ⟨by rfl, ?_⟩) (by assumption) ?_
          rotate_left
          · intro w' hSw
            obtain ⟨⟨_, c0, c1, c2⟩, _⟩ := hSw
            go_simp
            try with_reducible rfl
          try simp only [Act.put, List.setIfInBounds_toArray, List.set_cons_zero, List.set_cons_succ]
          refine wpAnyH_take (i := 10) (v := ?_) (by rw [List.getElem?_toArray]; rfl) (by kernel_rfl) (by kernel_rfl) (by kernel_rfl) (by exact fun _ _ _ h => h) (Or.inl ⟨by rfl, ?_⟩) (by assumption) ?_
          rotate_left
          · intro w' hSw
            obtain ⟨⟨_, c0, c1, c2⟩, _⟩ := hSw
            go_simp
            try with_reducible rfl
          try simp only [Act.put, List.setIfInBounds_toArray, List.set_cons_zero, List.set_cons_succ]
          refine wpAnyH_done (by kernel_rfl) ?_ _
          clear hHeld HRV
          obtain rfl : TX = CT := (str_eq HCT.out).symm
          obtain ⟨⟨_, dD0, dD1, dD2⟩, kD0, kD1, kD2⟩ := HXD.out
          obtain ⟨⟨_, dE0, dE1, dE2⟩, kE0, kE1, kE2⟩ := HXE.out
          have hlen := HLEN.out SD SE HSD.out HSE.out
          have hsd := seal_size hbr HSD.out
          rw [if_neg h0] at hlen
          have hw1 : IntKind.i64.wrap ((SE.size : Int) + (TX.size : Int)) = (SE.size : Int) + (TX.size : Int) := by rw [IntKind.wrap_i64]; omega
          have hq : ((SD.size : Int) == (SE.size : Int) + (TX.size : Int)) = true := by simp; omega
          clear hlen hsd
          go_wp2
          go_ret
          exact ⟨rfl, HB29.out⟩
end Go.Proofs.Ytjdignbmlfbdnaa.Dta
