/-
  THE CHAPTER's EXAMPLE (letterlocklaw9.shown). By an AI agent; no person has read it.
-/
import Derived.Test.YtjdignbmlfbdnaaGreatQTo
namespace Go.Proofs.YtjdignbmlfbdnaaGreat.Dta
open Go.RowKit Wire Term Draw Reg Clo

set_option linter.unusedSimpArgs false
set_option linter.unusedVariables false
set_option maxHeartbeats 8000000 in
set_option maxRecDepth 1000000 in
theorem shown9_any (w : World) : Calls Tryz.prog 5 #[] w fun e w' => e = .returned (.bool true) ∧ Below w.heap.size w w' := by
  have HTK := Lib.hid fun w => take_to takeB_nil (P := ⟨#[]⟩) rfl (by decide) w
  have HRT := Lib.hid fun w => rootOf_any 0 w (by decide)
  rw [show pk 0 5 = 0 from rfl] at HRT
  have hn : 0 < 18446744073709551616 := by decide
  have HST : Hid (∀ (R : ByteArray) (w : World), R.data.toList = rootS 0 → Calls Tryz.prog 18 #[.string R, .int .i64 2] w fun e w' => Sr (hs (7 - 2) (rootS 0), 0) e ∧ Below w.heap.size w w') := Lib.hid fun R w hR => state_to hn (x := 2) (by omega) hR w
  have HSG : Hid (∀ (w : World), Calls Tryz.prog 24 #[.int .i64 2] w fun e w' => St (sgn 2) e ∧ Below w.heap.size w w') := Lib.hid fun w => signerOf_any 2 w (by omega)
  have HBD : Hid (∀ (S G : ByteArray) (w : World), S.data.toList = hs (7 - 2) (rootS 0) → G.data.toList = sgn 2 → Calls Tryz.prog 11 #[.string S, .int .i64 2, .string G, .string ⟨#[97, 110, 110, 97, 47, 110, 111, 116, 101, 115]⟩, .string ⟨#[104, 105]⟩] w fun e w' => Bs (bOf 0 2 2 (⟨#[97, 110, 110, 97, 47, 110, 111, 116, 101, 115]⟩ : ByteArray).data.toList (⟨#[104, 105]⟩ : ByteArray).data.toList, 0) e ∧ Below w.heap.size w w') := Lib.hid fun S G w hS hG => build_to hn (x := 2) (i := 2) (by omega) (by omega) hS hG (P := ⟨#[97, 110, 110, 97, 47, 110, 111, 116, 101, 115]⟩) (C := ⟨#[104, 105]⟩) (pN_path) (by decide) w
  have HVF : Hid (∀ (w : World), Calls Tryz.prog 26 #[.int .i64 2] w fun e w' => Vf 3 e w' ∧ Below w.heap.size w w') := Lib.hid fun w => by
    have := verifyOf_any 3 w (by omega)
    rw [show ((3 : Nat) : Int) - 1 = 2 by omega] at this
    exact this
  have stl : (hs (7 - 2) (rootS 0)).length ≤ 100000 := by have := (st_sz hn (k := 7 - 2) (by omega)).2; omega
  have HOP : Hid (∀ (S G T : ByteArray) (A : Option Addr) (c : Nat) (vs : List ByteArray) (w : World), S.data.toList = (bOf 0 2 2 (⟨#[97, 110, 110, 97, 47, 110, 111, 116, 101, 115]⟩ : ByteArray).data.toList (⟨#[104, 105]⟩ : ByteArray).data.toList).sl → G.data.toList = (bOf 0 2 2 (⟨#[97, 110, 110, 97, 47, 110, 111, 116, 101, 115]⟩ : ByteArray).data.toList (⟨#[104, 105]⟩ : ByteArray).data.toList).sg → T.data.toList = hs (7 - 2) (rootS 0) → bl vs = sgps 3 → SReads w A vs → Calls Tryz.prog 13 #[.agg #[.int .i64 2, .string S, .string G], .slice A vs.length c, .string T, .int .i64 2, .string ⟨#[97, 110, 110, 97, 47, 110, 111, 116, 101, 115]⟩] w fun e w' => Sr ([104, 105], 0) e ∧ Below w.heap.size w w') := Lib.hid fun S G T A c vs w hS hG hT hv hr => by
    have hbr : BR (bOf 0 2 2 (⟨#[97, 110, 110, 97, 47, 110, 111, 116, 101, 115]⟩ : ByteArray).data.toList (⟨#[104, 105]⟩ : ByteArray).data.toList) := bOf_right hn (by omega) (by omega) pN_path (by decide)
    have hvl : vs.length ≤ 40 := by
      have := congrArg List.length hv
      simp only [bl_len', sgps_len, List.length_map, List.length_range, List.length_tail] at this
      omega
    exact open_to (b := bOf 0 2 2 (⟨#[97, 110, 110, 97, 47, 110, 111, 116, 101, 115]⟩ : ByteArray).data.toList (⟨#[104, 105]⟩ : ByteArray).data.toList) (L := sgps 3) (q := (⟨#[97, 110, 110, 97, 47, 110, 111, 116, 101, 115]⟩ : ByteArray).data.toList) (by
      show openB (bOf 0 2 2 pN hiB.data.toList) (sgps 3) (hs (7 - 2) (rootS 0)) ((2 : Nat) : Int) pN = _
      rw [open_is hn (by omega) (by omega) pN_path (by decide) (by omega) (j := 2) (by omega) (sgps_len 3) (by omega) (sgps_get (by omega)), if_pos ⟨rfl, rfl⟩]
      rfl) rfl hS hG hv rfl hT rfl (seal_size hbr hS) (sig_size hbr hG) (by rw [Lib.size_eq, hT]; exact stl) (by decide) (by omega) (sgps_sizes hv (by omega)) (by omega) w hr
  go_enter Tryz.func5, Tryz.ntmps5
  go_wp2_with fail
  with_reducible refine (HTK.out _).mono ?_
  rintro e w1 ⟨hx, hb1⟩
  have HB1 := Lib.hid hb1
  clear hb1
  obtain rfl := bs_zero hx
  dsimp only
  go_wp2_with fail
  have hbS : Below w1.heap.size w1 (w1.alloc (.cells #[.int .i64 0, .string ⟨#[]⟩, .string ⟨#[]⟩] 23)) := (Below.refl w1.heap.size w1).alloc (Nat.le_refl _) _
  have hxS := r3_new w1 (0) ⟨#[]⟩ ⟨#[]⟩ 23
  generalize w1.alloc (.cells #[.int .i64 0, .string ⟨#[]⟩, .string ⟨#[]⟩] 23) = wS1 at hbS hxS ⊢
  have HB2 := Lib.hid (Bel.call HB1.out hbS)
  have HX1 := Lib.hid hxS
  clear hbS hxS
  with_reducible refine (HRT.out _).mono ?_
  rintro e w3 ⟨⟨R, hR, rfl⟩, hb3⟩
  have HB3 := Lib.hid (Bel.call HB2.out hb3)
  replace HX1 := Lib.hid (HX1.out.below hb3)
  clear hb3
  try dsimp only at hR
  have HR := Lib.hid hR
  clear hR
  dsimp only
  go_wp2_with fail
  with_reducible refine (HST.out R _ HR.out).mono ?_
  rintro e w4 ⟨⟨S, hS, rfl⟩, hb4⟩
  have HB4 := Lib.hid (Bel.call HB3.out hb4)
  replace HX1 := Lib.hid (HX1.out.below hb4)
  clear hb4
  try dsimp only at hS
  have HS := Lib.hid hS
  clear hS
  dsimp only
  go_wp2_with fail
  with_reducible refine (HSG.out _).mono ?_
  rintro e w5 ⟨⟨G, hG, rfl⟩, hb5⟩
  have HB5 := Lib.hid (Bel.call HB4.out hb5)
  replace HX1 := Lib.hid (HX1.out.below hb5)
  clear hb5
  try dsimp only at hG
  have HG := Lib.hid hG
  clear hG
  dsimp only
  go_wp2_with fail
  with_reducible refine (HBD.out S G _ HS.out HG.out).mono ?_
  rintro e w6 ⟨hx, hb6⟩
  have HB6 := Lib.hid (Bel.call HB5.out hb6)
  replace HX1 := Lib.hid (HX1.out.below hb6)
  clear hb6
  obtain ⟨S2, G2, hS2, hG2, rfl⟩ := bs_bOf hx
  have HS2 := Lib.hid hS2
  have HG2 := Lib.hid hG2
  clear hx hS2 hG2
  dsimp only
  go_wp2_with fail
  have hbS : Below w6.heap.size w6 (w6.alloc (.cells #[.int .i64 2, .string S2, .string G2] 23)) := (Below.refl w6.heap.size w6).alloc (Nat.le_refl _) _
  have hxS := r3_new w6 (2) S2 G2 23
  generalize w6.alloc (.cells #[.int .i64 2, .string S2, .string G2] 23) = wS2 at hbS hxS ⊢
  have HB7 := Lib.hid (Bel.call HB6.out hbS)
  replace HX1 := Lib.hid (HX1.out.below hbS)
  have HX2 := Lib.hid hxS
  clear hbS hxS
  refine wp_region_held_drew (S := fun w' => R3 w6.heap.size w' 2 S2 G2) (by kernel_rfl) (HX2.out.below (Below.drewN' (Below.refl wS2.heap.size wS2) 1)) (fun hHeld => ?_)
  refine wpAnyH_take (i := 0) (v := ?_) (by rw [List.getElem?_toArray]; rfl) (by kernel_rfl) (by kernel_rfl) (by kernel_rfl) (by exact fun _ _ _ h => h) (Or.inl ⟨by rfl, ?_⟩) (by assumption) ?_
  rotate_left
  · intro w' hSw
    obtain ⟨⟨_, c0, c1, c2⟩, _⟩ := hSw
    go_simp
    try with_reducible rfl
  try simp only [Act.put, List.setIfInBounds_toArray, List.set_cons_zero, List.set_cons_succ]
  refine wpAnyH_take (i := 2) (v := ?_) (by rw [List.getElem?_toArray]; rfl) (by kernel_rfl) (by kernel_rfl) (by kernel_rfl) (by exact fun _ _ _ h => h) (Or.inl ⟨by rfl, ?_⟩) (by assumption) ?_
  rotate_left
  · intro w' hSw
    obtain ⟨⟨_, c0, c1, c2⟩, _⟩ := hSw
    go_simp
    try with_reducible rfl
  try simp only [Act.put, List.setIfInBounds_toArray, List.set_cons_zero, List.set_cons_succ]
  have hdr : Below wS2.heap.size wS2 wS2.drew := Below.drewN' (Below.refl wS2.heap.size wS2) 1
  clear hHeld
  generalize wS2.drew = wd8 at hdr ⊢
  have HB8 := Lib.hid (Bel.call HB7.out hdr)
  replace HX1 := Lib.hid (HX1.out.below hdr)
  replace HX2 := Lib.hid (HX2.out.below hdr)
  clear hdr
  refine wpAnyH_ready (rs := [1]) (by kernel_rfl) (by simp) ?_
  refine AllReadyH.cons (by rw [List.getElem?_toArray]; rfl) (fun K hK => ?_) AllReadyH.nil
  go_simp
  go_at_call 26
  with_reducible refine (HVF.out _).mono ?_
  rintro e w9 ⟨⟨AV, cV, vsV, hvs, hvn, hvc, hvr, hvz, rfl⟩, hb9⟩
  have HB9 := Lib.hid (Bel.call HB8.out hb9)
  replace HX1 := Lib.hid (HX1.out.below hb9)
  replace HX2 := Lib.hid (HX2.out.below hb9)
  clear hb9
  have HSV := Lib.hid hvs
  have HNV := Lib.hid hvn
  have HRV := Lib.hid hvr
  clear hvs hvn hvc hvr hvz
  dsimp only
  refine hK.out _ _ HX2.out (fun hHeld => ?_)
  try simp only [Act.put, List.setIfInBounds_toArray, List.set_cons_zero, List.set_cons_succ]
  clear hHeld
  refine wpAnyH_ready (rs := [3]) (by kernel_rfl) (by simp) ?_
  refine AllReadyH.cons (by rw [List.getElem?_toArray]; rfl) (fun K hK => ?_) AllReadyH.nil
  go_simp
  go_at_call 13
  with_reducible refine (HOP.out S2 G2 S _ _ _ _ HS2.out HG2.out HS.out HSV.out HRV.out).mono ?_
  rintro e w10 ⟨⟨C, hC, rfl⟩, hb10⟩
  have HB10 := Lib.hid (Bel.call HB9.out hb10)
  replace HX1 := Lib.hid (HX1.out.below hb10)
  replace HX2 := Lib.hid (HX2.out.below hb10)
  replace HRV := Lib.hid (HRV.out.below hb10 (Nat.le_refl _))
  clear hb10
  try dsimp only at hC
  have HC := Lib.hid hC
  clear hC
  dsimp only
  refine hK.out _ _ HX2.out (fun hHeld => ?_)
  try simp only [Act.put, List.setIfInBounds_toArray, List.set_cons_zero, List.set_cons_succ]
  refine wpAnyH_take (i := 4) (v := ?_) (by rw [List.getElem?_toArray]; rfl) (by kernel_rfl) (by kernel_rfl) (by kernel_rfl) (by exact fun _ _ _ h => h) (Or.inl ⟨by rfl, ?_⟩) (by assumption) ?_
  rotate_left
  · intro w' hSw
    obtain ⟨⟨_, c0, c1, c2⟩, _⟩ := hSw
    go_simp
    try with_reducible rfl
  try simp only [Act.put, List.setIfInBounds_toArray, List.set_cons_zero, List.set_cons_succ]
  refine wpAnyH_take (i := 5) (v := ?_) (by rw [List.getElem?_toArray]; rfl) (by kernel_rfl) (by kernel_rfl) (by kernel_rfl) (by exact fun _ _ _ h => h) (Or.inl ⟨by rfl, ?_⟩) (by assumption) ?_
  rotate_left
  · intro w' hSw
    obtain ⟨⟨_, c0, c1, c2⟩, _⟩ := hSw
    go_simp
    try with_reducible rfl
  try simp only [Act.put, List.setIfInBounds_toArray, List.set_cons_zero, List.set_cons_succ]
  refine wpAnyH_take (i := 6) (v := ?_) (by rw [List.getElem?_toArray]; rfl) (by kernel_rfl) (by kernel_rfl) (by kernel_rfl) (by exact fun _ _ _ h => h) (Or.inl ⟨by rfl, ?_⟩) (by assumption) ?_
  rotate_left
  · intro w' hSw
    obtain ⟨⟨_, c0, c1, c2⟩, _⟩ := hSw
    go_simp
    try with_reducible rfl
  try simp only [Act.put, List.setIfInBounds_toArray, List.set_cons_zero, List.set_cons_succ]
  refine wpAnyH_take (i := 7) (v := ?_) (by rw [List.getElem?_toArray]; rfl) (by kernel_rfl) (by kernel_rfl) (by kernel_rfl) (by exact fun _ _ _ h => h) (Or.inl ⟨by rfl, ?_⟩) (by assumption) ?_
  rotate_left
  · intro w' hSw
    obtain ⟨⟨_, c0, c1, c2⟩, _⟩ := hSw
    go_simp
    try with_reducible rfl
  try simp only [Act.put, List.setIfInBounds_toArray, List.set_cons_zero, List.set_cons_succ]
  refine wpAnyH_take (i := 8) (v := ?_) (by rw [List.getElem?_toArray]; rfl) (by kernel_rfl) (by kernel_rfl) (by kernel_rfl) (by exact fun _ _ _ h => h) (Or.inl ⟨by rfl, ?_⟩) (by assumption) ?_
  rotate_left
  · intro w' hSw
    obtain ⟨⟨_, c0, c1, c2⟩, _⟩ := hSw
    go_simp
    try with_reducible rfl
  try simp only [Act.put, List.setIfInBounds_toArray, List.set_cons_zero, List.set_cons_succ]
  refine wpAnyH_done (by kernel_rfl) ?_ _
  clear hHeld HRV
  obtain rfl : C = ⟨#[104, 105]⟩ := str_eq HC.out
  go_wp2
  go_ret
  exact ⟨rfl, HB10.out⟩
end Go.Proofs.YtjdignbmlfbdnaaGreat.Dta
