/-
  THE LAW DataSpoils, walked over the landed code. By an AI agent; no person has read it.
-/
import Derived.Test.YtjdignbmlfbdnaaQShown
import Derived.Test.YtjdignbmlfbdnaaQSpoilP
import Derived.Test.YtjdignbmlfbdnaaQBytes
namespace Go.Proofs.Ytjdignbmlfbdnaa.Dta
open Go.RowKit Wire Term Draw Reg Clo

set_option linter.unusedSimpArgs false
set_option linter.unusedVariables false
set_option maxHeartbeats 8000000 in
set_option maxRecDepth 1000000 in
theorem spoils_walk (root a : Int) (C : ByteArray) (at_ bit : Int) (w : World) (h1 : -9223372036854775808 ≤ root ∧ root ≤ 9223372036854775807) (h2 : -9223372036854775808 ≤ a ∧ a ≤ 9223372036854775807) (h3 : -9223372036854775808 ≤ at_ ∧ at_ ≤ 9223372036854775807) (h4 : -9223372036854775808 ≤ bit ∧ bit ≤ 9223372036854775807) :
    Calls Try.prog 4 #[.int .i64 root, .int .i64 a, .string C, .int .i64 at_, .int .i64 bit] w fun e w' => e = .returned (.bool true) ∧ Below w.heap.size w w' := by
  have HSH := Lib.hid fun w => shown9_any w
  by_cases h64 : 64 < C.size
  · go_enter Try.func4, Try.ntmps4
    go_wp2_with fail
    with_reducible refine (HSH.out _).mono ?_
    rintro e w1 ⟨rfl, hb1⟩
    dsimp only
    go_wp2
    go_ret
    exact ⟨rfl, hb1⟩
  have HPA : Hid (∀ w, Calls Try.prog 9 #[.int .i64 a, .int .i64 8] w fun e w' => e = .returned (.int .i64 (pk a 8 : Int)) ∧ w' = w) := Lib.hid fun w => pick9_any a 8 w h2 (by decide) (by decide)
  have HPB : Hid (∀ w, Calls Try.prog 9 #[.int .i64 bit, .int .i64 8] w fun e w' => e = .returned (.int .i64 (pk bit 8 : Int)) ∧ w' = w) := Lib.hid fun w => pick9_any bit 8 w h4 (by decide) (by decide)
  have HRT := Lib.hid fun w => rootOf_any root w h1
  have hX := pk_lt a (n := 8) (by decide)
  have hV := pk_lt bit (n := 8) (by decide)
  have hN := pk_lt root (n := 5) (by decide)
  generalize pk a 8 = X at HPA hX
  generalize pk bit 8 = V at HPB hV
  generalize pk root 5 = N at HRT hN
  have hn : N < 18446744073709551616 := by omega
  have stl : (rootS N).length ≤ 100000 := by have := (st_sz hn (k := 0) (by omega)).2; exact Nat.le_trans this (by omega)
  have hbr : BR (bOf N X X (⟨#[97, 110, 110, 97, 47, 110, 111, 116, 101, 115]⟩ : ByteArray).data.toList C.data.toList) := bOf_right hn (by omega) (by omega) pN_path (by rw [← Lib.size_eq]; omega)
  have hrs := row_small hbr
  obtain ⟨ROW, hROW⟩ : ∃ r, row (bOf N X X (⟨#[97, 110, 110, 97, 47, 110, 111, 116, 101, 115]⟩ : ByteArray).data.toList C.data.toList) = r := ⟨_, rfl⟩
  have hr0 : 0 < ROW.length := by rw [← hROW]; unfold row putAll; rw [List.length_append]; have := (put_le (n := ([put (bOf N X X (⟨#[97, 110, 110, 97, 47, 110, 111, 116, 101, 115]⟩ : ByteArray).data.toList C.data.toList).ep.toNat, (bOf N X X (⟨#[97, 110, 110, 97, 47, 110, 111, 116, 101, 115]⟩ : ByteArray).data.toList C.data.toList).sl, (bOf N X X (⟨#[97, 110, 110, 97, 47, 110, 111, 116, 101, 115]⟩ : ByteArray).data.toList C.data.toList).sg] : List Tm).length) (by simp)).1; omega
  have HST : Hid (∀ (R : ByteArray) (w : World), R.data.toList = rootS N → Calls Try.prog 10 #[.string R, .int .i64 (X : Int)] w fun e w' => Sr (hs (7 - X) (rootS N), 0) e ∧ Below w.heap.size w w') := Lib.hid fun R w hR => state_to hn (x := X) (by omega) hR w
  have HSG : Hid (∀ (w : World), Calls Try.prog 13 #[.int .i64 (X : Int)] w fun e w' => St (sgn X) e ∧ Below w.heap.size w w') := Lib.hid fun w => signerOf_any X w (by omega)
  have HVF : Hid (∀ (w : World), Calls Try.prog 18 #[.int .i64 7] w fun e w' => Vf 8 e w' ∧ Below w.heap.size w w') := Lib.hid fun w => by
    have := verifyOf_any 8 w (by omega)
    rw [show ((8 : Nat) : Int) - 1 = 7 by omega] at this
    exact this
  have HBD : Hid (∀ (S G : ByteArray) (w : World), S.data.toList = hs (7 - X) (rootS N) → G.data.toList = sgn X → Calls Try.prog 12 #[.string S, .int .i64 (X : Int), .string G, .string ⟨#[97, 110, 110, 97, 47, 110, 111, 116, 101, 115]⟩, .string C] w fun e w' => Bs (bOf N X X (⟨#[97, 110, 110, 97, 47, 110, 111, 116, 101, 115]⟩ : ByteArray).data.toList (C : ByteArray).data.toList, 0) e ∧ Below w.heap.size w w') := Lib.hid fun S G w hS hG => build_to hn (x := X) (i := X) (by omega) (by omega) hS hG (P := ⟨#[97, 110, 110, 97, 47, 110, 111, 116, 101, 115]⟩) (C := C) (pN_path) (by omega) w
  have HPU : Hid (∀ (S G : ByteArray) (w : World), S.data.toList = (bOf N X X (⟨#[97, 110, 110, 97, 47, 110, 111, 116, 101, 115]⟩ : ByteArray).data.toList C.data.toList).sl → G.data.toList = (bOf N X X (⟨#[97, 110, 110, 97, 47, 110, 111, 116, 101, 115]⟩ : ByteArray).data.toList C.data.toList).sg → Calls Try.prog 15 #[.agg #[.int .i64 (X : Int), .string S, .string G]] w fun e w' => Sr (ROW, 0) e ∧ Below w.heap.size w w') := Lib.hid fun S G w hS hG => by
    have := put_to hbr hS hG w
    rw [hROW] at this
    exact this
  have HPK : Hid (∀ (n : Nat) (w : World), 0 < n → n ≤ 100000 → Calls Try.prog 9 #[.int .i64 at_, .int .i64 (n : Int)] w fun e w' => e = .returned (.int .i64 (pk at_ n : Int)) ∧ w' = w) := Lib.hid fun n w hn1 hn2 => pick9_any at_ n w h3 hn1 (by omega)
  go_enter Try.func4, Try.ntmps4
  go_wp2_with fail
  with_reducible refine (HSH.out _).mono ?_
  rintro e w1 ⟨rfl, hb1⟩
  have HB1 := Lib.hid hb1
  clear hb1
  dsimp only
  go_wp2_with fail
  with_reducible refine (HPA.out _).mono ?_
  rintro e v1 ⟨rfl, hv1⟩
  obtain rfl : w1 = v1 := hv1.symm
  dsimp only
  go_wp2_with fail
  with_reducible refine (HRT.out _).mono ?_
  rintro e w2 ⟨⟨R, hR, rfl⟩, hb2⟩
  have HB2 := Lib.hid (Bel.call HB1.out hb2)
  clear hb2
  try dsimp only at hR
  have HR := Lib.hid hR
  clear hR
  dsimp only
  go_wp2_with fail
  with_reducible refine (HST.out R _ HR.out).mono ?_
  rintro e w3 ⟨⟨S, hS, rfl⟩, hb3⟩
  have HB3 := Lib.hid (Bel.call HB2.out hb3)
  clear hb3
  try dsimp only at hS
  have HS := Lib.hid hS
  clear hS
  dsimp only
  go_wp2_with fail
  with_reducible refine (HSG.out _).mono ?_
  rintro e w4 ⟨⟨G, hG, rfl⟩, hb4⟩
  have HB4 := Lib.hid (Bel.call HB3.out hb4)
  clear hb4
  try dsimp only at hG
  have HG := Lib.hid hG
  clear hG
  dsimp only
  go_wp2_with fail
  with_reducible refine (HBD.out S G _ HS.out HG.out).mono ?_
  rintro e w5 ⟨hx, hb5⟩
  have HB5 := Lib.hid (Bel.call HB4.out hb5)
  clear hb5
  obtain ⟨SB, GB, hSB, hGB, rfl⟩ := bs_bOf hx
  have HSB := Lib.hid hSB
  have HGB := Lib.hid hGB
  clear hx hSB hGB
  dsimp only
  go_wp2_with fail
  have hbS : Below w5.heap.size w5 (w5.alloc (.cells #[.int .i64 (X : Int), .string SB, .string GB] 29)) := (Below.refl w5.heap.size w5).alloc (Nat.le_refl _) _
  have hxS := r3_new w5 ((X : Int)) SB GB 29
  generalize w5.alloc (.cells #[.int .i64 (X : Int), .string SB, .string GB] 29) = wSB at hbS hxS ⊢
  have HB6 := Lib.hid (Bel.call HB5.out hbS)
  have HXB := Lib.hid hxS
  clear hbS hxS
  with_reducible refine (HPU.out SB GB _ HSB.out HGB.out).mono ?_
  rintro e w7 ⟨⟨P, hP, rfl⟩, hb7⟩
  have HB7 := Lib.hid (Bel.call HB6.out hb7)
  replace HXB := Lib.hid (HXB.out.below hb7)
  clear hb7
  try dsimp only at hP
  have HP := Lib.hid hP
  clear hP
  dsimp only
  have hps : P.size = ROW.length := by rw [Lib.size_eq, HP.out]
  have hpe : P.toList.isEmpty = false := by
    rw [Lib.toList_data, HP.out]
    cases hrr : ROW with
    | nil => rw [hrr] at hr0; exact absurd hr0 (by decide)
    | cons x y => rfl
  have HPZ := Lib.hid hps
  clear hps
  have kc := fun w => Lib.run_convert_string_bytes (P := Try.prog) w 9 39 5 P Try.underlying9 Try.underlying39 Try.underlying5
  go_wp2_with fail
  have hbS := bel_bytes w7 5 P
  have hxS := bq_new w7 5 P
  generalize grownCap w7 P.size 0 5 = cq
  generalize Lib.bytesWorld w7 5 P = wQ at hbS hxS ⊢
  have HB8 := Lib.hid (Bel.call HB7.out hbS)
  replace HXB := Lib.hid (HXB.out.below hbS)
  have HBQ := Lib.hid hxS
  clear hbS hxS kc
  have hp0 : 0 < P.size := by rw [HPZ.out]; exact hr0
  have hp1 : P.size ≤ 100000 := by rw [HPZ.out, ← hROW]; omega
  have HPQ := Lib.hid fun w => HPK.out P.size w hp0 hp1
  have hKK := pk_lt at_ (n := P.size) hp0
  generalize pk at_ P.size = KK at HPQ hKK
  have hkk1 : (KK : Int) < (P.size : Int) := by omega
  have hkl : KK < P.data.toList.length := by rw [← Lib.size_eq]; exact hKK
  obtain ⟨b0, hb0⟩ : ∃ b, P.data.toList.getD KK 0 = b := ⟨_, rfl⟩
  obtain ⟨vv, hvb, hxor⟩ := flip b0 hV
  obtain ⟨TB, hTB⟩ : ∃ l, P.data.toList.set KK vv = l := ⟨_, rfl⟩
  obtain ⟨TT, hTT⟩ : ∃ T : ByteArray, (⟨TB.toArray⟩ : ByteArray) = T := ⟨_, rfl⟩
  have hTd : TT.data.toList = TB := by rw [← hTT]
  have hTl : TB.length = P.size := by rw [← hTB, List.length_set, Lib.size_eq]
  have hTs : TT.size ≤ 1000000 := by rw [Lib.size_eq, hTd]; omega
  have HSP : Hid (∀ ub : Bb, takeB TB = (ub, 0) → openB ub (sgps 8) (rootS N) 7 pN' = ([], 7)) := Lib.hid fun ub hub => by
    have hPR : P.data.toList = row (bOf N X X pN' C.data.toList) := HP.out.trans hROW.symm
    have hk9 : KK < (row (bOf N X X pN' C.data.toList)).length := by rw [← hPR]; exact hkl
    refine spoilt (k := KK) (v := vv) hn (by omega) (by rw [← Lib.size_eq]; omega) hk9 (fun h => hvb ?_) (by rw [← hPR]; exact hTB.symm) pN_path hub
    rw [← hPR] at h
    have h9 : P.data.toList.getD KK 0 = vv := by rw [List.getD, h]; rfl
    rw [← h9]; exact hb0
  obtain ⟨ub, uf, htk⟩ : ∃ ub uf, takeB TB = (ub, uf) := ⟨_, _, rfl⟩
  have htf := takeM_err (m := 4000) (s := TB)
  have HTA := Lib.hid fun w => take_to htk hTd hTs w
  refine wp_region_held_drew (S := fun _ => True) (by kernel_rfl) trivial (fun hHeld => ?_)
  refine wpAnyH_take (i := 0) (v := ?_) (by rw [List.getElem?_toArray]; rfl) (by kernel_rfl) (by kernel_rfl) (by kernel_rfl) (by exact fun _ _ _ h => h) (Or.inl ⟨by rfl, ?_⟩) (by assumption) ?_
  rotate_left
  · intro w' hSw
    go_simp
    try with_reducible rfl
  try simp only [Act.put, List.setIfInBounds_toArray, List.set_cons_zero, List.set_cons_succ]
  refine wpAnyH_take (i := 1) (v := ?_) (by rw [List.getElem?_toArray]; rfl) (by kernel_rfl) (by kernel_rfl) (by kernel_rfl) (by exact fun _ _ _ h => h) (Or.inl ⟨by rfl, ?_⟩) (by assumption) ?_
  rotate_left
  · intro w' hSw
    go_simp
    try with_reducible rfl
  try simp only [Act.put, List.setIfInBounds_toArray, List.set_cons_zero, List.set_cons_succ]
  refine wpAnyH_take (i := 2) (v := ?_) (by rw [List.getElem?_toArray]; rfl) (by kernel_rfl) (by kernel_rfl) (by kernel_rfl) (by exact fun _ _ _ h => h) (Or.inl ⟨by rfl, ?_⟩) (by assumption) ?_
  rotate_left
  · intro w' hSw
    go_simp
    try with_reducible rfl
  try simp only [Act.put, List.setIfInBounds_toArray, List.set_cons_zero, List.set_cons_succ]
  refine wpAnyH_take (i := 3) (v := ?_) (by rw [List.getElem?_toArray]; rfl) (by kernel_rfl) (by kernel_rfl) (by kernel_rfl) (by exact fun _ _ _ h => h) (Or.inl ⟨by rfl, ?_⟩) (by assumption) ?_
  rotate_left
  · intro w' hSw
    go_simp
    try with_reducible rfl
  try simp only [Act.put, List.setIfInBounds_toArray, List.set_cons_zero, List.set_cons_succ]
  refine wpAnyH_take (i := 7) (v := ?_) (by rw [List.getElem?_toArray]; rfl) (by kernel_rfl) (by kernel_rfl) (by kernel_rfl) (by exact fun _ _ _ h => h) (Or.inl ⟨by rfl, ?_⟩) (by assumption) ?_
  rotate_left
  · intro w' hSw
    go_simp
    try with_reducible rfl
  try simp only [Act.put, List.setIfInBounds_toArray, List.set_cons_zero, List.set_cons_succ]
  have hdr : Below wQ.heap.size wQ wQ.drew := Below.drewN' (Below.refl wQ.heap.size wQ) 1
  clear hHeld
  generalize wQ.drew = wd9 at hdr ⊢
  have HB9 := Lib.hid (Bel.call HB8.out hdr)
  replace HXB := Lib.hid (HXB.out.below hdr)
  replace HBQ := Lib.hid (HBQ.out.below hdr)
  clear hdr
  refine wpAnyH_ready (rs := [4]) (by kernel_rfl) (by simp) ?_
  refine AllReadyH.cons (by rw [List.getElem?_toArray]; rfl) (fun K hK => ?_) AllReadyH.nil
  go_simp
  go_at_call 9
  with_reducible refine (HPQ.out _).mono ?_
  rintro e v2 ⟨rfl, hv2⟩
  obtain rfl : wd9 = v2 := hv2.symm
  dsimp only
  refine hK.out _ _ trivial (fun hHeld => ?_)
  try simp only [Act.put, List.setIfInBounds_toArray, List.set_cons_zero, List.set_cons_succ]
  refine wpAnyH_take (i := 5) (v := ?_) (by rw [List.getElem?_toArray]; rfl) (by kernel_rfl) (by kernel_rfl) (by kernel_rfl) (by exact fun _ _ _ h => h) (Or.inl ⟨by rfl, ?_⟩) (by assumption) ?_
  rotate_left
  · intro w' hSw
    go_simp
    try with_reducible rfl
  try simp only [Act.put, List.setIfInBounds_toArray, List.set_cons_zero, List.set_cons_succ]
  clear hHeld
  obtain ⟨ck, fk⟩ := HBQ.out.2 KK hkl
  rw [hb0] at ck
  rcases htf with hf | hf
  · have hf : uf = 0 := by
      have : (takeB TB).2 = 0 := hf
      rw [htk] at this
      exact this
    subst hf
    have HTA2 : Hid (∀ w, Calls Try.prog 16 #[.string TT] w fun e w' => Bs (ub, 0) e ∧ Below w.heap.size w w') := HTA
    have HO1 : Hid (∀ (S G T : ByteArray) (A : Option Addr) (c : Nat) (vs : List ByteArray) (w : World), S.data.toList = (ub).sl → G.data.toList = (ub).sg → T.data.toList = rootS N → bl vs = sgps 8 → SReads w A vs → Calls Try.prog 17 #[.agg #[.int .i64 ub.ep, .string S, .string G], .slice A vs.length c, .string T, .int .i64 7, .string ⟨#[97, 110, 110, 97, 47, 110, 111, 116, 101, 115]⟩] w fun e w' => Sr ([], 7) e ∧ Below w.heap.size w w') := Lib.hid fun S G T A c vs w hS hG hT hv hr => by
      have hbr : BR (ub) := (takeM_back htk).1
      have hvl : vs.length ≤ 40 := by
        have := congrArg List.length hv
        simp only [bl_len', sgps_len, List.length_map, List.length_range, List.length_tail] at this
        omega
      exact open_to (b := ub) (L := sgps 8) (q := (⟨#[97, 110, 110, 97, 47, 110, 111, 116, 101, 115]⟩ : ByteArray).data.toList) (HSP.out ub htk) rfl hS hG hv rfl hT rfl (seal_size hbr hS) (sig_size hbr hG) (by rw [Lib.size_eq, hT]; exact stl) (by decide) (by omega) (sgps_sizes hv (by omega)) (by omega) w hr
    clear htk HTA
    refine wpAnyH_ready (rs := [6, 8]) (by kernel_rfl) (by simp) ?_
    refine AllReadyH.cons (by rw [List.getElem?_toArray]; rfl) (fun K hK => ?_) (AllReadyH.cons (by rw [List.getElem?_toArray]; rfl) (fun K hK => ?_) AllReadyH.nil)
    · go_simp
      refine hK.out _ _ trivial (fun hHeld => ?_)
      try simp only [Act.put, List.setIfInBounds_toArray, List.set_cons_zero, List.set_cons_succ]
      clear hHeld
      refine wpAnyH_ready (rs := [8]) (by kernel_rfl) (by simp) ?_
      refine AllReadyH.cons (by rw [List.getElem?_toArray]; rfl) (fun K hK => ?_) AllReadyH.nil
      go_simp
      go_at_call 9
      with_reducible refine (HPB.out _).mono ?_
      rintro e v3 ⟨rfl, hv3⟩
      obtain rfl : wd9 = v3 := hv3.symm
      dsimp only
      refine hK.out _ _ trivial (fun hHeld => ?_)
      try simp only [Act.put, List.setIfInBounds_toArray, List.set_cons_zero, List.set_cons_succ]
      refine wpAnyH_take (i := 9) (v := ?_) (by rw [List.getElem?_toArray]; rfl) (by kernel_rfl) (by kernel_rfl) (by kernel_rfl) (by exact fun _ _ _ h => h) (Or.inl ⟨by rfl, ?_⟩) (by assumption) ?_
      rotate_left
      · intro w' hSw
        go_simp
        try with_reducible rfl
      try simp only [Act.put, List.setIfInBounds_toArray, List.set_cons_zero, List.set_cons_succ]
      refine wpAnyH_take (i := 10) (v := ?_) (by rw [List.getElem?_toArray]; rfl) (by kernel_rfl) (by kernel_rfl) (by kernel_rfl) (by exact fun _ _ _ h => h) (Or.inl ⟨by rfl, ?_⟩) (by assumption) ?_
      rotate_left
      · intro w' hSw
        go_simp
        try with_reducible rfl
      try simp only [Act.put, List.setIfInBounds_toArray, List.set_cons_zero, List.set_cons_succ]
      refine wpAnyH_take (i := 11) (v := ?_) (by rw [List.getElem?_toArray]; rfl) (by kernel_rfl) (by kernel_rfl) (by kernel_rfl) (by exact fun _ _ _ h => h) (Or.inl ⟨by rfl, ?_⟩) (by assumption) ?_
      rotate_left
      · intro w' hSw
        go_simp
        try with_reducible rfl
      try simp only [Act.put, List.setIfInBounds_toArray, List.set_cons_zero, List.set_cons_succ]
      clear hHeld
      refine wpAnyH_ready (rs := [12]) (by kernel_rfl) (by simp) ?_
      refine AllReadyH.cons (by rw [List.getElem?_toArray]; rfl) (fun K hK => ?_) AllReadyH.nil
      go_simp
      refine hK.out _ _ trivial (fun hHeld => ?_)
      try simp only [Act.put, List.setIfInBounds_toArray, List.set_cons_zero, List.set_cons_succ]
      have hbs : Bq w7.heap.size (wd9.setCell ⟨w7.heap.size, KK, none⟩ (.int .u8 (vv.toNat : Int))) TB := by rw [← hTB]; exact bq_set HBQ.out
      have HB10 : Hid (Below w.heap.size w (wd9.setCell ⟨w7.heap.size, KK, none⟩ (.int .u8 (vv.toNat : Int)))) := Lib.hid (HB9.out.setCell HB7.out.size _)
      clear hHeld ck fk
      generalize wd9.setCell ⟨w7.heap.size, KK, none⟩ (.int .u8 (vv.toNat : Int)) = wT at hbs HB10 ⊢
      refine wpAnyH_done (by kernel_rfl) ?_ _
      have kc := bq_text hbs cq Try.prog 39 9 5 Try.underlying39 Try.underlying5 Try.underlying9
      rw [hTl, hTT] at kc
      clear hbs
      go_wp2_with fail
      with_reducible refine (HTA2.out _).mono ?_
      rintro e w11 ⟨hx, hb11⟩
      have HB11 := Lib.hid (Bel.call HB10.out hb11)
      clear hb11
      obtain ⟨SU, GU, hSU, hGU, rfl⟩ := bs_open hx
      have HSU := Lib.hid hSU
      have HGU := Lib.hid hGU
      clear hx hSU hGU
      dsimp only
      go_wp2_with fail
      have hbS : Below w11.heap.size w11 (w11.alloc (.cells #[.int .i64 ub.ep, .string SU, .string GU] 29)) := (Below.refl w11.heap.size w11).alloc (Nat.le_refl _) _
      have hxS := r3_new w11 (ub.ep) SU GU 29
      generalize w11.alloc (.cells #[.int .i64 ub.ep, .string SU, .string GU] 29) = wSU at hbS hxS ⊢
      have HB12 := Lib.hid (Bel.call HB11.out hbS)
      have HXU := Lib.hid hxS
      clear hbS hxS
      refine wp_region_held_drew (S := fun w' => R3 w11.heap.size w' ub.ep SU GU) (by kernel_rfl) (HXU.out.below (Below.drewN' (Below.refl wSU.heap.size wSU) 1)) (fun hHeld => ?_)
      refine wpAnyH_take (i := 0) (v := ?_) (by rw [List.getElem?_toArray]; rfl) (by kernel_rfl) (by kernel_rfl) (by kernel_rfl) (by exact fun _ _ _ h => h) (Or.inl ⟨by rfl, ?_⟩) (by assumption) ?_
      rotate_left
      · intro w' hSw
        obtain ⟨⟨_, c0, c1, c2⟩, _⟩ := hSw
        go_simp
        try with_reducible rfl
      try simp only [Act.put, List.setIfInBounds_toArray, List.set_cons_zero, List.set_cons_succ]
      refine wpAnyH_take (i := 2) (v := ?_) (by rw [List.getElem?_toArray]; rfl) (by kernel_rfl) (by kernel_rfl) (by kernel_rfl) (by exact fun _ _ _ h => h) (Or.inl ⟨by rfl, ?_⟩) (by assumption) ?_
      rotate_left
      · intro w' hSw
        obtain ⟨⟨_, c0, c1, c2⟩, _⟩ := hSw
        go_simp
        try with_reducible rfl
      try simp only [Act.put, List.setIfInBounds_toArray, List.set_cons_zero, List.set_cons_succ]
      have hdr : Below wSU.heap.size wSU wSU.drew := Below.drewN' (Below.refl wSU.heap.size wSU) 1
      clear hHeld
      generalize wSU.drew = wd13 at hdr ⊢
      have HB13 := Lib.hid (Bel.call HB12.out hdr)
      replace HXU := Lib.hid (HXU.out.below hdr)
      clear hdr
      refine wpAnyH_ready (rs := [1]) (by kernel_rfl) (by simp) ?_
      refine AllReadyH.cons (by rw [List.getElem?_toArray]; rfl) (fun K hK => ?_) AllReadyH.nil
      go_simp
      go_at_call 18
      with_reducible refine (HVF.out _).mono ?_
      rintro e w14 ⟨⟨AV, cV, vsV, hvs, hvn, hvc, hvr, hvz, rfl⟩, hb14⟩
      have HB14 := Lib.hid (Bel.call HB13.out hb14)
      replace HXU := Lib.hid (HXU.out.below hb14)
      clear hb14
      have HSV := Lib.hid hvs
      have HNV := Lib.hid hvn
      have HRV := Lib.hid hvr
      have HCV := Lib.hid hvc
      clear hvs hvn hvc hvr hvz
      dsimp only
      refine hK.out _ _ HXU.out (fun hHeld => ?_)
      try simp only [Act.put, List.setIfInBounds_toArray, List.set_cons_zero, List.set_cons_succ]
      clear hHeld
      refine wpAnyH_ready (rs := [3]) (by kernel_rfl) (by simp) ?_
      refine AllReadyH.cons (by rw [List.getElem?_toArray]; rfl) (fun K hK => ?_) AllReadyH.nil
      go_simp
      go_at_call 11
      with_reducible refine (HRT.out _).mono ?_
      rintro e w15 ⟨⟨RR, hRR, rfl⟩, hb15⟩
      have HB15 := Lib.hid (Bel.call HB14.out hb15)
      replace HXU := Lib.hid (HXU.out.below hb15)
      replace HRV := Lib.hid (HRV.out.below hb15 (Nat.le_refl _))
      clear hb15
      try dsimp only at hRR
      have HRR := Lib.hid hRR
      clear hRR
      dsimp only
      refine hK.out _ _ HXU.out (fun hHeld => ?_)
      try simp only [Act.put, List.setIfInBounds_toArray, List.set_cons_zero, List.set_cons_succ]
      clear hHeld
      refine wpAnyH_ready (rs := [4]) (by kernel_rfl) (by simp) ?_
      refine AllReadyH.cons (by rw [List.getElem?_toArray]; rfl) (fun K hK => ?_) AllReadyH.nil
      go_simp
      go_at_call 17
      with_reducible refine (HO1.out SU GU RR _ _ _ _ HSU.out HGU.out HRR.out HSV.out HRV.out).mono ?_
      rintro e w16 ⟨⟨CT, hCT, rfl⟩, hb16⟩
      have HB16 := Lib.hid (Bel.call HB15.out hb16)
      replace HXU := Lib.hid (HXU.out.below hb16)
      replace HRV := Lib.hid (HRV.out.below hb16 (Nat.le_refl _))
      clear hb16
      try dsimp only at hCT
      have HCT := Lib.hid hCT
      clear hCT
      dsimp only
      refine hK.out _ _ HXU.out (fun hHeld => ?_)
      try simp only [Act.put, List.setIfInBounds_toArray, List.set_cons_zero, List.set_cons_succ]
      refine wpAnyH_take (i := 5) (v := ?_) (by rw [List.getElem?_toArray]; rfl) (by kernel_rfl) (by kernel_rfl) (by kernel_rfl) (by exact fun _ _ _ h => h) (Or.inl ⟨by rfl, ?_⟩) (by assumption) ?_
      rotate_left
      · intro w' hSw
        obtain ⟨⟨_, c0, c1, c2⟩, _⟩ := hSw
        go_simp
        try with_reducible rfl
      try simp only [Act.put, List.setIfInBounds_toArray, List.set_cons_zero, List.set_cons_succ]
      refine wpAnyH_take (i := 6) (v := ?_) (by rw [List.getElem?_toArray]; rfl) (by kernel_rfl) (by kernel_rfl) (by kernel_rfl) (by exact fun _ _ _ h => h) (Or.inl ⟨by rfl, ?_⟩) (by assumption) ?_
      rotate_left
      · intro w' hSw
        obtain ⟨⟨_, c0, c1, c2⟩, _⟩ := hSw
        go_simp
        try with_reducible rfl
      try simp only [Act.put, List.setIfInBounds_toArray, List.set_cons_zero, List.set_cons_succ]
      refine wpAnyH_take (i := 7) (v := ?_) (by rw [List.getElem?_toArray]; rfl) (by kernel_rfl) (by kernel_rfl) (by kernel_rfl) (by exact fun _ _ _ h => h) (Or.inl ⟨by rfl, ?_⟩) (by assumption) ?_
      rotate_left
      · intro w' hSw
        obtain ⟨⟨_, c0, c1, c2⟩, _⟩ := hSw
        go_simp
        try with_reducible rfl
      try simp only [Act.put, List.setIfInBounds_toArray, List.set_cons_zero, List.set_cons_succ]
      refine wpAnyH_take (i := 8) (v := ?_) (by rw [List.getElem?_toArray]; rfl) (by kernel_rfl) (by kernel_rfl) (by kernel_rfl) (by exact fun _ _ _ h => h) (Or.inl ⟨by rfl, ?_⟩) (by assumption) ?_
      rotate_left
      · intro w' hSw
        obtain ⟨⟨_, c0, c1, c2⟩, _⟩ := hSw
        go_simp
        try with_reducible rfl
      try simp only [Act.put, List.setIfInBounds_toArray, List.set_cons_zero, List.set_cons_succ]
      refine wpAnyH_take (i := 9) (v := ?_) (by rw [List.getElem?_toArray]; rfl) (by kernel_rfl) (by kernel_rfl) (by kernel_rfl) (by exact fun _ _ _ h => h) (Or.inl ⟨by rfl, ?_⟩) (by assumption) ?_
      rotate_left
      · intro w' hSw
        obtain ⟨⟨_, c0, c1, c2⟩, _⟩ := hSw
        go_simp
        try with_reducible rfl
      try simp only [Act.put, List.setIfInBounds_toArray, List.set_cons_zero, List.set_cons_succ]
      refine wpAnyH_done (by kernel_rfl) ?_ _
      clear hHeld HRV
      go_wp2
      go_ret
      exact ⟨rfl, HB16.out⟩
    · go_simp
      go_at_call 9
      with_reducible refine (HPB.out _).mono ?_
      rintro e v3 ⟨rfl, hv3⟩
      obtain rfl : wd9 = v3 := hv3.symm
      dsimp only
      refine hK.out _ _ trivial (fun hHeld => ?_)
      try simp only [Act.put, List.setIfInBounds_toArray, List.set_cons_zero, List.set_cons_succ]
      refine wpAnyH_take (i := 9) (v := ?_) (by rw [List.getElem?_toArray]; rfl) (by kernel_rfl) (by kernel_rfl) (by kernel_rfl) (by exact fun _ _ _ h => h) (Or.inl ⟨by rfl, ?_⟩) (by assumption) ?_
      rotate_left
      · intro w' hSw
        go_simp
        try with_reducible rfl
      try simp only [Act.put, List.setIfInBounds_toArray, List.set_cons_zero, List.set_cons_succ]
      clear hHeld
      refine wpAnyH_ready (rs := [6]) (by kernel_rfl) (by simp) ?_
      refine AllReadyH.cons (by rw [List.getElem?_toArray]; rfl) (fun K hK => ?_) AllReadyH.nil
      go_simp
      refine hK.out _ _ trivial (fun hHeld => ?_)
      try simp only [Act.put, List.setIfInBounds_toArray, List.set_cons_zero, List.set_cons_succ]
      refine wpAnyH_take (i := 10) (v := ?_) (by rw [List.getElem?_toArray]; rfl) (by kernel_rfl) (by kernel_rfl) (by kernel_rfl) (by exact fun _ _ _ h => h) (Or.inl ⟨by rfl, ?_⟩) (by assumption) ?_
      rotate_left
      · intro w' hSw
        go_simp
        try with_reducible rfl
      try simp only [Act.put, List.setIfInBounds_toArray, List.set_cons_zero, List.set_cons_succ]
      refine wpAnyH_take (i := 11) (v := ?_) (by rw [List.getElem?_toArray]; rfl) (by kernel_rfl) (by kernel_rfl) (by kernel_rfl) (by exact fun _ _ _ h => h) (Or.inl ⟨by rfl, ?_⟩) (by assumption) ?_
      rotate_left
      · intro w' hSw
        go_simp
        try with_reducible rfl
      try simp only [Act.put, List.setIfInBounds_toArray, List.set_cons_zero, List.set_cons_succ]
      clear hHeld
      refine wpAnyH_ready (rs := [12]) (by kernel_rfl) (by simp) ?_
      refine AllReadyH.cons (by rw [List.getElem?_toArray]; rfl) (fun K hK => ?_) AllReadyH.nil
      go_simp
      refine hK.out _ _ trivial (fun hHeld => ?_)
      try simp only [Act.put, List.setIfInBounds_toArray, List.set_cons_zero, List.set_cons_succ]
      have hbs : Bq w7.heap.size (wd9.setCell ⟨w7.heap.size, KK, none⟩ (.int .u8 (vv.toNat : Int))) TB := by rw [← hTB]; exact bq_set HBQ.out
      have HB10 : Hid (Below w.heap.size w (wd9.setCell ⟨w7.heap.size, KK, none⟩ (.int .u8 (vv.toNat : Int)))) := Lib.hid (HB9.out.setCell HB7.out.size _)
      clear hHeld ck fk
      generalize wd9.setCell ⟨w7.heap.size, KK, none⟩ (.int .u8 (vv.toNat : Int)) = wT at hbs HB10 ⊢
      refine wpAnyH_done (by kernel_rfl) ?_ _
      have kc := bq_text hbs cq Try.prog 39 9 5 Try.underlying39 Try.underlying5 Try.underlying9
      rw [hTl, hTT] at kc
      clear hbs
      go_wp2_with fail
      with_reducible refine (HTA2.out _).mono ?_
      rintro e w11 ⟨hx, hb11⟩
      have HB11 := Lib.hid (Bel.call HB10.out hb11)
      clear hb11
      obtain ⟨SU, GU, hSU, hGU, rfl⟩ := bs_open hx
      have HSU := Lib.hid hSU
      have HGU := Lib.hid hGU
      clear hx hSU hGU
      dsimp only
      go_wp2_with fail
      have hbS : Below w11.heap.size w11 (w11.alloc (.cells #[.int .i64 ub.ep, .string SU, .string GU] 29)) := (Below.refl w11.heap.size w11).alloc (Nat.le_refl _) _
      have hxS := r3_new w11 (ub.ep) SU GU 29
      generalize w11.alloc (.cells #[.int .i64 ub.ep, .string SU, .string GU] 29) = wSU at hbS hxS ⊢
      have HB12 := Lib.hid (Bel.call HB11.out hbS)
      have HXU := Lib.hid hxS
      clear hbS hxS
      refine wp_region_held_drew (S := fun w' => R3 w11.heap.size w' ub.ep SU GU) (by kernel_rfl) (HXU.out.below (Below.drewN' (Below.refl wSU.heap.size wSU) 1)) (fun hHeld => ?_)
      refine wpAnyH_take (i := 0) (v := ?_) (by rw [List.getElem?_toArray]; rfl) (by kernel_rfl) (by kernel_rfl) (by kernel_rfl) (by exact fun _ _ _ h => h) (Or.inl ⟨by rfl, ?_⟩) (by assumption) ?_
      rotate_left
      · intro w' hSw
        obtain ⟨⟨_, c0, c1, c2⟩, _⟩ := hSw
        go_simp
        try with_reducible rfl
      try simp only [Act.put, List.setIfInBounds_toArray, List.set_cons_zero, List.set_cons_succ]
      refine wpAnyH_take (i := 2) (v := ?_) (by rw [List.getElem?_toArray]; rfl) (by kernel_rfl) (by kernel_rfl) (by kernel_rfl) (by exact fun _ _ _ h => h) (Or.inl ⟨by rfl, ?_⟩) (by assumption) ?_
      rotate_left
      · intro w' hSw
        obtain ⟨⟨_, c0, c1, c2⟩, _⟩ := hSw
        go_simp
        try with_reducible rfl
      try simp only [Act.put, List.setIfInBounds_toArray, List.set_cons_zero, List.set_cons_succ]
      have hdr : Below wSU.heap.size wSU wSU.drew := Below.drewN' (Below.refl wSU.heap.size wSU) 1
      clear hHeld
      generalize wSU.drew = wd13 at hdr ⊢
      have HB13 := Lib.hid (Bel.call HB12.out hdr)
      replace HXU := Lib.hid (HXU.out.below hdr)
      clear hdr
      refine wpAnyH_ready (rs := [1]) (by kernel_rfl) (by simp) ?_
      refine AllReadyH.cons (by rw [List.getElem?_toArray]; rfl) (fun K hK => ?_) AllReadyH.nil
      go_simp
      go_at_call 18
      with_reducible refine (HVF.out _).mono ?_
      rintro e w14 ⟨⟨AV, cV, vsV, hvs, hvn, hvc, hvr, hvz, rfl⟩, hb14⟩
      have HB14 := Lib.hid (Bel.call HB13.out hb14)
      replace HXU := Lib.hid (HXU.out.below hb14)
      clear hb14
      have HSV := Lib.hid hvs
      have HNV := Lib.hid hvn
      have HRV := Lib.hid hvr
      have HCV := Lib.hid hvc
      clear hvs hvn hvc hvr hvz
      dsimp only
      refine hK.out _ _ HXU.out (fun hHeld => ?_)
      try simp only [Act.put, List.setIfInBounds_toArray, List.set_cons_zero, List.set_cons_succ]
      clear hHeld
      refine wpAnyH_ready (rs := [3]) (by kernel_rfl) (by simp) ?_
      refine AllReadyH.cons (by rw [List.getElem?_toArray]; rfl) (fun K hK => ?_) AllReadyH.nil
      go_simp
      go_at_call 11
      with_reducible refine (HRT.out _).mono ?_
      rintro e w15 ⟨⟨RR, hRR, rfl⟩, hb15⟩
      have HB15 := Lib.hid (Bel.call HB14.out hb15)
      replace HXU := Lib.hid (HXU.out.below hb15)
      replace HRV := Lib.hid (HRV.out.below hb15 (Nat.le_refl _))
      clear hb15
      try dsimp only at hRR
      have HRR := Lib.hid hRR
      clear hRR
      dsimp only
      refine hK.out _ _ HXU.out (fun hHeld => ?_)
      try simp only [Act.put, List.setIfInBounds_toArray, List.set_cons_zero, List.set_cons_succ]
      clear hHeld
      refine wpAnyH_ready (rs := [4]) (by kernel_rfl) (by simp) ?_
      refine AllReadyH.cons (by rw [List.getElem?_toArray]; rfl) (fun K hK => ?_) AllReadyH.nil
      go_simp
      go_at_call 17
      with_reducible refine (HO1.out SU GU RR _ _ _ _ HSU.out HGU.out HRR.out HSV.out HRV.out).mono ?_
      rintro e w16 ⟨⟨CT, hCT, rfl⟩, hb16⟩
      have HB16 := Lib.hid (Bel.call HB15.out hb16)
      replace HXU := Lib.hid (HXU.out.below hb16)
      replace HRV := Lib.hid (HRV.out.below hb16 (Nat.le_refl _))
      clear hb16
      try dsimp only at hCT
      have HCT := Lib.hid hCT
      clear hCT
      dsimp only
      refine hK.out _ _ HXU.out (fun hHeld => ?_)
      try simp only [Act.put, List.setIfInBounds_toArray, List.set_cons_zero, List.set_cons_succ]
      refine wpAnyH_take (i := 5) (v := ?_) (by rw [List.getElem?_toArray]; rfl) (by kernel_rfl) (by kernel_rfl) (by kernel_rfl) (by exact fun _ _ _ h => h) (Or.inl ⟨by rfl, ?_⟩) (by assumption) ?_
      rotate_left
      · intro w' hSw
        obtain ⟨⟨_, c0, c1, c2⟩, _⟩ := hSw
        go_simp
        try with_reducible rfl
      try simp only [Act.put, List.setIfInBounds_toArray, List.set_cons_zero, List.set_cons_succ]
      refine wpAnyH_take (i := 6) (v := ?_) (by rw [List.getElem?_toArray]; rfl) (by kernel_rfl) (by kernel_rfl) (by kernel_rfl) (by exact fun _ _ _ h => h) (Or.inl ⟨by rfl, ?_⟩) (by assumption) ?_
      rotate_left
      · intro w' hSw
        obtain ⟨⟨_, c0, c1, c2⟩, _⟩ := hSw
        go_simp
        try with_reducible rfl
      try simp only [Act.put, List.setIfInBounds_toArray, List.set_cons_zero, List.set_cons_succ]
      refine wpAnyH_take (i := 7) (v := ?_) (by rw [List.getElem?_toArray]; rfl) (by kernel_rfl) (by kernel_rfl) (by kernel_rfl) (by exact fun _ _ _ h => h) (Or.inl ⟨by rfl, ?_⟩) (by assumption) ?_
      rotate_left
      · intro w' hSw
        obtain ⟨⟨_, c0, c1, c2⟩, _⟩ := hSw
        go_simp
        try with_reducible rfl
      try simp only [Act.put, List.setIfInBounds_toArray, List.set_cons_zero, List.set_cons_succ]
      refine wpAnyH_take (i := 8) (v := ?_) (by rw [List.getElem?_toArray]; rfl) (by kernel_rfl) (by kernel_rfl) (by kernel_rfl) (by exact fun _ _ _ h => h) (Or.inl ⟨by rfl, ?_⟩) (by assumption) ?_
      rotate_left
      · intro w' hSw
        obtain ⟨⟨_, c0, c1, c2⟩, _⟩ := hSw
        go_simp
        try with_reducible rfl
      try simp only [Act.put, List.setIfInBounds_toArray, List.set_cons_zero, List.set_cons_succ]
      refine wpAnyH_take (i := 9) (v := ?_) (by rw [List.getElem?_toArray]; rfl) (by kernel_rfl) (by kernel_rfl) (by kernel_rfl) (by exact fun _ _ _ h => h) (Or.inl ⟨by rfl, ?_⟩) (by assumption) ?_
      rotate_left
      · intro w' hSw
        obtain ⟨⟨_, c0, c1, c2⟩, _⟩ := hSw
        go_simp
        try with_reducible rfl
      try simp only [Act.put, List.setIfInBounds_toArray, List.set_cons_zero, List.set_cons_succ]
      refine wpAnyH_done (by kernel_rfl) ?_ _
      clear hHeld HRV
      go_wp2
      go_ret
      exact ⟨rfl, HB16.out⟩
  · have htk2 : takeB TB = (bzero, 2) := hf
    rw [htk] at htk2
    obtain ⟨rfl, rfl⟩ := Prod.mk.inj htk2
    have HTA2 : Hid (∀ w, Calls Try.prog 16 #[.string TT] w fun e w' => Bs (bzero, 2) e ∧ Below w.heap.size w w') := HTA
    clear htk htk2 HTA hf
    refine wpAnyH_ready (rs := [6, 8]) (by kernel_rfl) (by simp) ?_
    refine AllReadyH.cons (by rw [List.getElem?_toArray]; rfl) (fun K hK => ?_) (AllReadyH.cons (by rw [List.getElem?_toArray]; rfl) (fun K hK => ?_) AllReadyH.nil)
    · go_simp
      refine hK.out _ _ trivial (fun hHeld => ?_)
      try simp only [Act.put, List.setIfInBounds_toArray, List.set_cons_zero, List.set_cons_succ]
      clear hHeld
      refine wpAnyH_ready (rs := [8]) (by kernel_rfl) (by simp) ?_
      refine AllReadyH.cons (by rw [List.getElem?_toArray]; rfl) (fun K hK => ?_) AllReadyH.nil
      go_simp
      go_at_call 9
      with_reducible refine (HPB.out _).mono ?_
      rintro e v3 ⟨rfl, hv3⟩
      obtain rfl : wd9 = v3 := hv3.symm
      dsimp only
      refine hK.out _ _ trivial (fun hHeld => ?_)
      try simp only [Act.put, List.setIfInBounds_toArray, List.set_cons_zero, List.set_cons_succ]
      refine wpAnyH_take (i := 9) (v := ?_) (by rw [List.getElem?_toArray]; rfl) (by kernel_rfl) (by kernel_rfl) (by kernel_rfl) (by exact fun _ _ _ h => h) (Or.inl ⟨by rfl, ?_⟩) (by assumption) ?_
      rotate_left
      · intro w' hSw
        go_simp
        try with_reducible rfl
      try simp only [Act.put, List.setIfInBounds_toArray, List.set_cons_zero, List.set_cons_succ]
      refine wpAnyH_take (i := 10) (v := ?_) (by rw [List.getElem?_toArray]; rfl) (by kernel_rfl) (by kernel_rfl) (by kernel_rfl) (by exact fun _ _ _ h => h) (Or.inl ⟨by rfl, ?_⟩) (by assumption) ?_
      rotate_left
      · intro w' hSw
        go_simp
        try with_reducible rfl
      try simp only [Act.put, List.setIfInBounds_toArray, List.set_cons_zero, List.set_cons_succ]
      refine wpAnyH_take (i := 11) (v := ?_) (by rw [List.getElem?_toArray]; rfl) (by kernel_rfl) (by kernel_rfl) (by kernel_rfl) (by exact fun _ _ _ h => h) (Or.inl ⟨by rfl, ?_⟩) (by assumption) ?_
      rotate_left
      · intro w' hSw
        go_simp
        try with_reducible rfl
      try simp only [Act.put, List.setIfInBounds_toArray, List.set_cons_zero, List.set_cons_succ]
      clear hHeld
      refine wpAnyH_ready (rs := [12]) (by kernel_rfl) (by simp) ?_
      refine AllReadyH.cons (by rw [List.getElem?_toArray]; rfl) (fun K hK => ?_) AllReadyH.nil
      go_simp
      refine hK.out _ _ trivial (fun hHeld => ?_)
      try simp only [Act.put, List.setIfInBounds_toArray, List.set_cons_zero, List.set_cons_succ]
      have hbs : Bq w7.heap.size (wd9.setCell ⟨w7.heap.size, KK, none⟩ (.int .u8 (vv.toNat : Int))) TB := by rw [← hTB]; exact bq_set HBQ.out
      have HB10 : Hid (Below w.heap.size w (wd9.setCell ⟨w7.heap.size, KK, none⟩ (.int .u8 (vv.toNat : Int)))) := Lib.hid (HB9.out.setCell HB7.out.size _)
      clear hHeld ck fk
      generalize wd9.setCell ⟨w7.heap.size, KK, none⟩ (.int .u8 (vv.toNat : Int)) = wT at hbs HB10 ⊢
      refine wpAnyH_done (by kernel_rfl) ?_ _
      have kc := bq_text hbs cq Try.prog 39 9 5 Try.underlying39 Try.underlying5 Try.underlying9
      rw [hTl, hTT] at kc
      clear hbs
      go_wp2_with fail
      with_reducible refine (HTA2.out _).mono ?_
      rintro e w11 ⟨hx, hb11⟩
      have HB11 := Lib.hid (Bel.call HB10.out hb11)
      clear hb11
      obtain rfl := bs_zero hx
      dsimp only
      have hbS : Below w11.heap.size w11 (w11.alloc (.cells #[.int .i64 0, .string ⟨#[]⟩, .string ⟨#[]⟩] 29)) := (Below.refl w11.heap.size w11).alloc (Nat.le_refl _) _
      have HBL := Lib.hid (Bel.call HB11.out hbS)
      clear hbS
      go_wp2
      go_ret
      exact ⟨rfl, HBL.out⟩
    · go_simp
      go_at_call 9
      with_reducible refine (HPB.out _).mono ?_
      rintro e v3 ⟨rfl, hv3⟩
      obtain rfl : wd9 = v3 := hv3.symm
      dsimp only
      refine hK.out _ _ trivial (fun hHeld => ?_)
      try simp only [Act.put, List.setIfInBounds_toArray, List.set_cons_zero, List.set_cons_succ]
      refine wpAnyH_take (i := 9) (v := ?_) (by rw [List.getElem?_toArray]; rfl) (by kernel_rfl) (by kernel_rfl) (by kernel_rfl) (by exact fun _ _ _ h => h) (Or.inl ⟨by rfl, ?_⟩) (by assumption) ?_
      rotate_left
      · intro w' hSw
        go_simp
        try with_reducible rfl
      try simp only [Act.put, List.setIfInBounds_toArray, List.set_cons_zero, List.set_cons_succ]
      clear hHeld
      refine wpAnyH_ready (rs := [6]) (by kernel_rfl) (by simp) ?_
      refine AllReadyH.cons (by rw [List.getElem?_toArray]; rfl) (fun K hK => ?_) AllReadyH.nil
      go_simp
      refine hK.out _ _ trivial (fun hHeld => ?_)
      try simp only [Act.put, List.setIfInBounds_toArray, List.set_cons_zero, List.set_cons_succ]
      refine wpAnyH_take (i := 10) (v := ?_) (by rw [List.getElem?_toArray]; rfl) (by kernel_rfl) (by kernel_rfl) (by kernel_rfl) (by exact fun _ _ _ h => h) (Or.inl ⟨by rfl, ?_⟩) (by assumption) ?_
      rotate_left
      · intro w' hSw
        go_simp
        try with_reducible rfl
      try simp only [Act.put, List.setIfInBounds_toArray, List.set_cons_zero, List.set_cons_succ]
      refine wpAnyH_take (i := 11) (v := ?_) (by rw [List.getElem?_toArray]; rfl) (by kernel_rfl) (by kernel_rfl) (by kernel_rfl) (by exact fun _ _ _ h => h) (Or.inl ⟨by rfl, ?_⟩) (by assumption) ?_
      rotate_left
      · intro w' hSw
        go_simp
        try with_reducible rfl
      try simp only [Act.put, List.setIfInBounds_toArray, List.set_cons_zero, List.set_cons_succ]
      clear hHeld
      refine wpAnyH_ready (rs := [12]) (by kernel_rfl) (by simp) ?_
      refine AllReadyH.cons (by rw [List.getElem?_toArray]; rfl) (fun K hK => ?_) AllReadyH.nil
      go_simp
      refine hK.out _ _ trivial (fun hHeld => ?_)
      try simp only [Act.put, List.setIfInBounds_toArray, List.set_cons_zero, List.set_cons_succ]
      have hbs : Bq w7.heap.size (wd9.setCell ⟨w7.heap.size, KK, none⟩ (.int .u8 (vv.toNat : Int))) TB := by rw [← hTB]; exact bq_set HBQ.out
      have HB10 : Hid (Below w.heap.size w (wd9.setCell ⟨w7.heap.size, KK, none⟩ (.int .u8 (vv.toNat : Int)))) := Lib.hid (HB9.out.setCell HB7.out.size _)
      clear hHeld ck fk
      generalize wd9.setCell ⟨w7.heap.size, KK, none⟩ (.int .u8 (vv.toNat : Int)) = wT at hbs HB10 ⊢
      refine wpAnyH_done (by kernel_rfl) ?_ _
      have kc := bq_text hbs cq Try.prog 39 9 5 Try.underlying39 Try.underlying5 Try.underlying9
      rw [hTl, hTT] at kc
      clear hbs
      go_wp2_with fail
      with_reducible refine (HTA2.out _).mono ?_
      rintro e w11 ⟨hx, hb11⟩
      have HB11 := Lib.hid (Bel.call HB10.out hb11)
      clear hb11
      obtain rfl := bs_zero hx
      dsimp only
      have hbS : Below w11.heap.size w11 (w11.alloc (.cells #[.int .i64 0, .string ⟨#[]⟩, .string ⟨#[]⟩] 29)) := (Below.refl w11.heap.size w11).alloc (Nat.le_refl _) _
      have HBL := Lib.hid (Bel.call HB11.out hbS)
      clear hbS
      go_wp2
      go_ret
      exact ⟨rfl, HBL.out⟩
end Go.Proofs.Ytjdignbmlfbdnaa.Dta
