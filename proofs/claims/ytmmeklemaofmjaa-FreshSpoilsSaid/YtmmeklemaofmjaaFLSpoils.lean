/-
  THE LAW FreshSpoils, walked. By an AI agent; no person has read it.
-/
import Derived.Test.YtmmeklemaofmjaaFShown
import Derived.Test.YtmmeklemaofmjaaFBytes
namespace Go.Proofs.Ytmmeklemaofmjaa.Frs
open Go Go.RowKit Wire Term Draw Reg Clo

set_option linter.unusedSimpArgs false
set_option linter.unusedVariables false
set_option maxHeartbeats 8000000 in
set_option maxRecDepth 1000000 in
set_option maxHeartbeats 8000000 in
set_option maxRecDepth 1000000 in
theorem spoils_walk (a0 : Int) (t : Nat) (A : Option Addr) (c : Nat) (z : List Int) (at_ bit : Int) (w : World) (h0 : -9223372036854775808 ≤ a0 ∧ a0 ≤ 9223372036854775807) (ht : t < 18446744073709551616) (hr : IReads w A z) (hn : z.length ≤ 9223372036854775807) (h3 : -9223372036854775808 ≤ at_ ∧ at_ ≤ 9223372036854775807) (h4 : -9223372036854775808 ≤ bit ∧ bit ≤ 9223372036854775807) :
    Calls Try.prog 5 #[.int .i64 a0, .int .u64 (t : Int), .slice A z.length c, .int .i64 at_, .int .i64 bit] w fun e w' => e = .returned (.bool true) ∧ Below w.heap.size w w' := by
  have HSH := Lib.hid fun w => shown_any w
  have HI := Lib.hid hr
  have HRO : Hid (∀ w', IReads w' A z → Calls Try.prog 12 #[.slice A z.length c] w' fun e w'' => Tre.Ob w' w'' (Tre.rowL z) e ∧ Below w'.heap.size w' w'') := Lib.hid fun w' h => Tre.row_any A c z w' h hn
  have HSM : Hid (Smalls (Tre.rowL z)) := Lib.hid Tre.rowL_small
  have h8 : (Tre.rowL z).length ≤ 8 := by rw [Tre.rowL_len]; omega
  have HW0 := Lib.hid fun w => Tre.who_any a0 w h0
  have hp0 := Tre.pk_lt a0 (n := 8) (by decide)
  have hOo := who_right hp0
  have hOf := who_l12 (Tre.pk a0 8)
  generalize Tre.whoN (Tre.pk a0 8) = O at HW0 hOo hOf
  obtain ⟨R, G, hM⟩ := made_is (O := O) (t := t) (l := Tre.rowL z) (hOo) (hOf) ht h8 Tre.rowL_small
  obtain ⟨K, hK⟩ := letter_is (secU O.data.toList)
  obtain ⟨PU, hPU⟩ := letter_is (pubU O.data.toList)
  have HS := Lib.hid fun w => sec_to (s := O) (by rw [Lib.size_eq]; exact hOf) hK w
  have HPU := Lib.hid fun w => pub_to (s := O) (by rw [Lib.size_eq]; exact hOf) hPU w
  have HBD : Hid (∀ (A' : Option Addr) (c' : Nat) (ys : List ByteArray) (w' : World), bl ys = Tre.rowL z → (ys.length ≤ c' ∧ c' ≤ 9223372036854775807) → SReads w' A' ys → Calls Try.prog 10 #[.string K, .string O, .int .u64 (t : Int), .slice A' ys.length c'] w' fun e w'' => e = .returned (.tuple #[.agg #[.string O, .int .u64 (t : Int), .int .i64 ((Tre.rowL z).length : Int), .string R, .string G], .int .i64 0]) ∧ Below w'.heap.size w' w'') := Lib.hid fun A' c' ys w' hy hc hr => build_to hM hK hy HSM.out hc w' hr
  have HM := Lib.hid hM
  have HHP := Lib.hid hPU
  generalize (Tre.rowL z).length = n at HBD HM
  have HPT := Lib.hid fun w => put_to HM.out w
  have hby := HM.out.bytes
  have HPB : Hid (∀ w, Calls Try.prog 15 #[.int .i64 bit, .int .i64 8] w fun e w' => e = .returned (.int .i64 (Tre.pk bit 8 : Int)) ∧ w' = w) := Lib.hid fun w => Tre.pick_any bit 8 w h4 (by decide) (by decide)
  have hV := Tre.pk_lt bit (n := 8) (by decide)
  generalize Tre.pk bit 8 = V at HPB hV
  have HPK : Hid (∀ (n : Nat) (w : World), 0 < n → n ≤ 100000 → Calls Try.prog 15 #[.int .i64 at_, .int .i64 (n : Int)] w fun e w' => e = .returned (.int .i64 (Tre.pk at_ n : Int)) ∧ w' = w) := Lib.hid fun n w hn1 hn2 => Tre.pick_any at_ n w h3 hn1 (by omega)
  obtain ⟨ROW, hROW⟩ : ∃ r, rowE O.data.toList t n R.data.toList = r := ⟨_, rfl⟩
  rw [hROW] at HPT hby
  obtain ⟨hby1, hby0⟩ := hby
  clear hr hOo hM hPU hK hp0
  go_enter Try.func5, Try.ntmps5
  go_wp2_with fail
  with_reducible refine (HSH.out _).mono ?_
  rintro e w1 ⟨rfl, hb1⟩
  have HB1 := Lib.hid hb1
  clear hb1
  try dsimp only
  go_wp2_with fail
  with_reducible refine (HW0.out _).mono ?_
  rintro e w2 ⟨rfl, hb2⟩
  have HB2 := Lib.hid (Bel.call HB1.out hb2)
  clear hb2
  try dsimp only
  go_wp2_with fail
  with_reducible refine (HS.out _).mono ?_
  rintro e w3 ⟨rfl, hb3⟩
  have HB3 := Lib.hid (Bel.call HB2.out hb3)
  clear hb3
  try dsimp only
  go_wp2_with fail
  with_reducible refine (HRO.out _ (HI.out.below HB3.out (Nat.le_refl _))).mono ?_
  rintro e w4 ⟨hx, hb4⟩
  have HB4 := Lib.hid (Bel.call HB3.out hb4)
  clear hb4
  obtain ⟨AX, cX, YX, hq, hc, hr, hb, rfl⟩ := Tre.ob_row hx
  have HQX := Lib.hid hq
  have HCX := Lib.hid hc
  have HRX := Lib.hid hr
  clear hx hq hc hr hb
  try dsimp only
  go_wp2_with fail
  with_reducible refine (HBD.out AX cX YX _ HQX.out HCX.out HRX.out).mono ?_
  rintro e w5 ⟨rfl, hb5⟩
  have HB5 := Lib.hid (Bel.call HB4.out hb5)
  clear hb5
  try dsimp only
  clear HRX HRO HI
  go_wp2_with fail
  have hbS : Below w5.heap.size w5 (w5.alloc (.cells #[.string O, .int .u64 (t : Int), .int .i64 (n : Int), .string R, .string G] 27)) := (Below.refl w5.heap.size w5).alloc (Nat.le_refl _) _
  have hxS := c5_new w5 (.string O) (.int .u64 (t : Int)) (.int .i64 (n : Int)) (.string R) (.string G) 27
  generalize w5.alloc (.cells #[.string O, .int .u64 (t : Int), .int .i64 (n : Int), .string R, .string G] 27) = wSS at hbS hxS ⊢
  have HB6 := Lib.hid (Bel.call HB5.out hbS)
  have HXS := Lib.hid hxS
  clear hbS hxS
  with_reducible refine (HPT.out _).mono ?_
  rintro e w7 ⟨⟨P, hP, rfl⟩, hb7⟩
  have HB7 := Lib.hid (Bel.call HB6.out hb7)
  replace HXS := Lib.hid (HXS.out.below hb7)
  clear hb7
  try dsimp only at hP
  have HP := Lib.hid hP
  clear hP
  try dsimp only
  clear HXS
  have hps : P.size = ROW.length := by rw [Lib.size_eq, HP.out]
  have hpe : P.toList.isEmpty = false := by
    rw [Lib.toList_data, HP.out]
    cases hrr : ROW with
    | nil => rw [hrr] at hby0; exact absurd hby0 (by decide)
    | cons x y => rfl
  have hp0 : 0 < P.size := by rw [hps]; exact hby0
  have hp1 : P.size ≤ 100000 := by rw [hps]; omega
  have hpz : ((P.size : Int) == 0) = false := by rw [beq_eq_false_iff_ne]; omega
  have HPZ := Lib.hid hps
  clear hps
  have kc := fun w => Lib.run_convert_string_bytes (P := Try.prog) w 9 45 5 P Try.underlying9 Try.underlying45 Try.underlying5
  go_wp2_with fail
  have hbS := bel_bytes w7 5 P
  have hxS := bq_new w7 5 P
  generalize grownCap w7 P.size 0 5 = cq
  generalize Lib.bytesWorld w7 5 P = wQ at hbS hxS ⊢
  have HB8 := Lib.hid (Bel.call HB7.out hbS)
  have HBQ := Lib.hid hxS
  clear hbS hxS kc
  have HPQ := Lib.hid fun w => HPK.out P.size w hp0 hp1
  have hKK := Tre.pk_lt at_ (n := P.size) hp0
  generalize Tre.pk at_ P.size = KK at HPQ hKK
  have hkk1 : (KK : Int) < (P.size : Int) := by omega
  have hkl : KK < P.data.toList.length := by rw [← Lib.size_eq]; exact hKK
  obtain ⟨b0, hb0⟩ : ∃ b, P.data.toList.getD KK 0 = b := ⟨_, rfl⟩
  obtain ⟨vv, hvb, hxor⟩ := flip b0 hV
  have hxor3 : bits .xor .u8 (b0.toNat : Int) (IntKind.u8.wrap (2 ^ min (IntKind.u64.wrap (V : Int)).toNat 8)) = (vv.toNat : Int) := by rw [show min (IntKind.u64.wrap (V : Int)).toNat 8 = V by rw [IntKind.wrap_u64]; omega]; exact hxor
  have HXR := Lib.hid hxor3
  clear hxor hxor3
  obtain ⟨TB, hTB⟩ : ∃ l, P.data.toList.set KK vv = l := ⟨_, rfl⟩
  obtain ⟨TT, hTT⟩ : ∃ T : ByteArray, (⟨TB.toArray⟩ : ByteArray) = T := ⟨_, rfl⟩
  have hTd : TT.data.toList = TB := by rw [← hTT]
  have hTl : TB.length = P.size := by rw [← hTB, List.length_set, Lib.size_eq]
  have hTs : TT.size ≤ 1000000 := by rw [Lib.size_eq, hTd]; omega
  have HSP : Hid (∀ ub : Sp, takeS TB = (ub, 0) → checkS ub (pubU O.data.toList) O.data.toList ub.time 0 ≠ 0) := Lib.hid fun ub hub => by
    have hPR : P.data.toList = rowE O.data.toList t n R.data.toList := HP.out.trans hROW.symm
    have hok := HM.out.ok
    rw [HM.out.sig] at hok
    refine spoilt (k := KK) (v := vv) HM.out.few ht hok (by rw [← hPR]; exact hkl) (fun h => hvb ?_) (by rw [← hPR]; exact hTB.symm) hub
    rw [← hPR] at h
    have h9 : P.data.toList.getD KK 0 = vv := by rw [List.getD, h]; rfl
    rw [← h9]; exact hb0
  obtain ⟨ub, uf, htk⟩ : ∃ ub uf, takeS TB = (ub, uf) := ⟨_, _, rfl⟩
  have htf : (takeS TB).2 = 0 ∨ takeS TB = (szero, 2) := takeM_err (m := 4000) (b := TB)
  have HTA := Lib.hid fun w => take_to htk hTd hTs w
  with_reducible refine (HPQ.out _).mono ?_
  rintro e v1 ⟨rfl, hv1⟩
  obtain rfl : wQ = v1 := hv1.symm
  dsimp only
  have hfl := HBQ.out.2 KK hkl
  rw [hb0] at hfl
  obtain ⟨ck, fk⟩ := hfl
  clear ck fk
  go_wp2_with fail
  refine wp_region_held_drew (S := fun _ => True) (by kernel_rfl) trivial (fun hHeld => ?_)
  have hdr : Below wQ.heap.size wQ wQ.drew := Below.drewN' (Below.refl wQ.heap.size wQ) 1
  clear hHeld
  generalize wQ.drew = wd at hdr ⊢
  have HB9 := Lib.hid (Bel.call HB8.out hdr)
  replace HBQ := Lib.hid (HBQ.out.below hdr)
  clear hdr
  have hHeld : True := trivial
  obtain ⟨ck, fk⟩ := HBQ.out.2 KK hkl
  rw [hb0] at ck
  refine wpAnyH_take (i := 0) (v := ?_) (by rw [List.getElem?_toArray]; rfl) (by kernel_rfl) (by kernel_rfl) (by kernel_rfl) (by exact fun _ _ _ h => h) (Or.inl ⟨by rfl, ?_⟩) (by assumption) ?_
  rotate_left
  · intro w' hSw
    go_simp
    try with_reducible rfl
  try simp only [Act.put, List.setIfInBounds_toArray, List.set_cons_zero, List.set_cons_succ]
  refine wpAnyH_take (i := 1) (v := ?_) (by rw [List.getElem?_toArray]; rfl) (by kernel_rfl) (by kernel_rfl) (by kernel_rfl) (by exact fun _ _ _ h => h) (Or.inl ⟨by rfl, ?_⟩) (by assumption) ?_
  rotate_left
  · intro w' hSw
    go_simp
    try with_reducible rfl
  try simp only [Act.put, List.setIfInBounds_toArray, List.set_cons_zero, List.set_cons_succ]
  refine wpAnyH_take (i := 2) (v := ?_) (by rw [List.getElem?_toArray]; rfl) (by kernel_rfl) (by kernel_rfl) (by kernel_rfl) (by exact fun _ _ _ h => h) (Or.inl ⟨by rfl, ?_⟩) (by assumption) ?_
  rotate_left
  · intro w' hSw
    go_simp
    try with_reducible rfl
  try simp only [Act.put, List.setIfInBounds_toArray, List.set_cons_zero, List.set_cons_succ]
  refine wpAnyH_take (i := 3) (v := ?_) (by rw [List.getElem?_toArray]; rfl) (by kernel_rfl) (by kernel_rfl) (by kernel_rfl) (by exact fun _ _ _ h => h) (Or.inl ⟨by rfl, ?_⟩) (by assumption) ?_
  rotate_left
  · intro w' hSw
    go_simp
    try with_reducible rfl
  try simp only [Act.put, List.setIfInBounds_toArray, List.set_cons_zero, List.set_cons_succ]
  refine wpAnyH_take (i := 4) (v := ?_) (by rw [List.getElem?_toArray]; rfl) (by kernel_rfl) (by kernel_rfl) (by kernel_rfl) (by exact fun _ _ _ h => h) (Or.inl ⟨by rfl, ?_⟩) (by assumption) ?_
  rotate_left
  · intro w' hSw
    go_simp
    try with_reducible rfl
  try simp only [Act.put, List.setIfInBounds_toArray, List.set_cons_zero, List.set_cons_succ]
  refine wpAnyH_take (i := 6) (v := ?_) (by rw [List.getElem?_toArray]; rfl) (by kernel_rfl) (by kernel_rfl) (by kernel_rfl) (by exact fun _ _ _ h => h) (Or.inl ⟨by rfl, ?_⟩) (by assumption) ?_
  rotate_left
  · intro w' hSw
    go_simp
    try with_reducible rfl
  try simp only [Act.put, List.setIfInBounds_toArray, List.set_cons_zero, List.set_cons_succ]
  rcases htf with hf | hf
  · have hf : uf = 0 := by
      have : (takeS TB).2 = 0 := hf
      rw [htk] at this
      exact this
    subst hf
    have HTA2 : Hid (∀ w, Calls Try.prog 14 #[.string TT] w fun e w' => Ss (ub, 0) e ∧ Below w.heap.size w w') := HTA
    have hSRu := takeM_back (show takeM 4000 TB = (ub, 0) from htk)
    obtain ⟨hs1, hs2, hs3⟩ := hSRu
    have hl := sr_lens hs1
    obtain ⟨cv, hcv⟩ : ∃ v, checkS ub (pubU O.data.toList) O.data.toList ub.time 0 = v := ⟨_, rfl⟩
    have hcn : cv ≠ 0 := by rw [← hcv]; exact HSP.out ub htk
    have hcb : (cv == 0) = false := by simpa using hcn
    have hcb2 : (cv != 0) = true := by simpa using hcn
    have HCK : Hid (∀ (UO UR UG : ByteArray), UO.data.toList = ub.own → UR.data.toList = ub.root → UG.data.toList = ub.sig → ∀ w', Calls Try.prog 16 #[.agg #[.string UO, .int .u64 (ub.time : Int), .int .i64 ub.many, .string UR, .string UG], .string PU, .string O, .int .u64 (ub.time : Int), .int .u64 0] w' fun e w'' => e = .returned (.int .i64 cv) ∧ Below w'.heap.size w' w'') := Lib.hid fun UO UR UG e1 e2 e3 w' => check_is (now := ub.time) (bound := 0) (by rw [e1, e2, e3, HHP.out]; exact hcv) (by rw [Lib.size_eq, e1]; omega) (by rw [Lib.size_eq, e2]; omega) (by rw [Lib.size_eq, e3]; omega) (by rw [Lib.size_eq, HHP.out]; unfold pubU; rw [List.length_cons]; have := (secU_sz hOf).2; omega) hs3 hs3 (by decide) w'
    clear htk HTA hs1 hs2 hl hcv hcn HSP
    clear hHeld
    refine wpAnyH_ready (rs := [5, 7]) (by kernel_rfl) (by simp) ?_
    refine AllReadyH.cons (by rw [List.getElem?_toArray]; rfl) (fun Kn hK => ?_) (AllReadyH.cons (by rw [List.getElem?_toArray]; rfl) (fun Kn hK => ?_) AllReadyH.nil)
    · go_simp
      refine hK.out _ _ trivial (fun hHeld => ?_)
      try simp only [Act.put, List.setIfInBounds_toArray, List.set_cons_zero, List.set_cons_succ]
      clear hHeld
      refine wpAnyH_ready (rs := [7]) (by kernel_rfl) (by simp) ?_
      refine AllReadyH.cons (by rw [List.getElem?_toArray]; rfl) (fun Kn hK => ?_) AllReadyH.nil
      go_simp
      go_at_call 15
      with_reducible refine (HPB.out _).mono ?_
      rintro e v2 ⟨rfl, hv2⟩
      obtain rfl : wd = v2 := hv2.symm
      dsimp only
      refine hK.out _ _ trivial (fun hHeld => ?_)
      try simp only [Act.put, List.setIfInBounds_toArray, List.set_cons_zero, List.set_cons_succ]
      refine wpAnyH_take (i := 8) (v := ?_) (by rw [List.getElem?_toArray]; rfl) (by kernel_rfl) (by kernel_rfl) (by kernel_rfl) (by exact fun _ _ _ h => h) (Or.inl ⟨by rfl, ?_⟩) (by assumption) ?_
      rotate_left
      · intro w' hSw
        go_simp
        try with_reducible rfl
      try simp only [Act.put, List.setIfInBounds_toArray, List.set_cons_zero, List.set_cons_succ]
      refine wpAnyH_take (i := 9) (v := ?_) (by rw [List.getElem?_toArray]; rfl) (by kernel_rfl) (by kernel_rfl) (by kernel_rfl) (by exact fun _ _ _ h => h) (Or.inl ⟨by rfl, ?_⟩) (by assumption) ?_
      rotate_left
      · intro w' hSw
        go_simp
        try with_reducible rfl
      try simp only [Act.put, List.setIfInBounds_toArray, List.set_cons_zero, List.set_cons_succ]
      refine wpAnyH_take (i := 10) (v := ?_) (by rw [List.getElem?_toArray]; rfl) (by kernel_rfl) (by kernel_rfl) (by kernel_rfl) (by exact fun _ _ _ h => h) (Or.inl ⟨by rfl, ?_⟩) (by assumption) ?_
      rotate_left
      · intro w' hSw
        go_simp
        try with_reducible rfl
      try simp only [Act.put, List.setIfInBounds_toArray, List.set_cons_zero, List.set_cons_succ]
      refine wpAnyH_take (i := 11) (v := ?_) (by rw [List.getElem?_toArray]; rfl) (by kernel_rfl) (by kernel_rfl) (by kernel_rfl) (by exact fun _ _ _ h => h) (Or.inl ⟨by rfl, ?_⟩) (by assumption) ?_
      rotate_left
      · intro w' hSw
        go_simp
        try with_reducible rfl
      try simp only [Act.put, List.setIfInBounds_toArray, List.set_cons_zero, List.set_cons_succ]
      clear hHeld
      refine wpAnyH_ready (rs := [12]) (by kernel_rfl) (by simp) ?_
      refine AllReadyH.cons (by rw [List.getElem?_toArray]; rfl) (fun Kn hK => ?_) AllReadyH.nil
      go_simp
      refine hK.out _ _ trivial (fun hHeld => ?_)
      try simp only [Act.put, List.setIfInBounds_toArray, List.set_cons_zero, List.set_cons_succ]
      clear hHeld
      have hbs : Bq w7.heap.size (wd.setCell ⟨w7.heap.size, KK, none⟩ (.int .u8 (vv.toNat : Int))) TB := by rw [← hTB]; exact bq_set HBQ.out
      have HB10 : Hid (Below w.heap.size w (wd.setCell ⟨w7.heap.size, KK, none⟩ (.int .u8 (vv.toNat : Int)))) := Lib.hid (HB9.out.setCell HB7.out.size _)
      rw [HXR.out]
      clear ck fk
      generalize wd.setCell ⟨w7.heap.size, KK, none⟩ (.int .u8 (vv.toNat : Int)) = wT at hbs HB10 ⊢
      refine wpAnyH_done (by kernel_rfl) ?_ _
      have kc := bq_text hbs cq Try.prog 45 9 5 Try.underlying45 Try.underlying5 Try.underlying9
      rw [hTl, hTT] at kc
      clear hbs HBQ
      go_wp2_with fail
      with_reducible refine (HTA2.out _).mono ?_
      rintro e w11 ⟨hx, hb11⟩
      have HB11 := Lib.hid (Bel.call HB10.out hb11)
      clear hb11
      obtain ⟨UO, UR, UG, hUO, hUR, hUG, rfl⟩ := ss_open hx
      have HUO := Lib.hid hUO
      have HUR := Lib.hid hUR
      have HUG := Lib.hid hUG
      clear hx hUO hUR hUG kc
      have HCF := Lib.hid (HCK.out UO UR UG HUO.out HUR.out HUG.out)
      try dsimp only
      go_wp2_with fail
      have hbS : Below w11.heap.size w11 (w11.alloc (.cells #[.string UO, .int .u64 (ub.time : Int), .int .i64 ub.many, .string UR, .string UG] 27)) := (Below.refl w11.heap.size w11).alloc (Nat.le_refl _) _
      have hxS := c5_new w11 (.string UO) (.int .u64 (ub.time : Int)) (.int .i64 ub.many) (.string UR) (.string UG) 27
      generalize w11.alloc (.cells #[.string UO, .int .u64 (ub.time : Int), .int .i64 ub.many, .string UR, .string UG] 27) = wST at hbS hxS ⊢
      have HB12 := Lib.hid (Bel.call HB11.out hbS)
      have HXT := Lib.hid hxS
      clear hbS hxS
      have hdr : C5 w11.heap.size wST.drew (.string UO) (.int .u64 (ub.time : Int)) (.int .i64 ub.many) (.string UR) (.string UG) ∧ Below wST.heap.size wST wST.drew := ⟨HXT.out.below (Below.drewN' (Below.refl wST.heap.size wST) 1), (Below.drewN' (Below.refl wST.heap.size wST) 1)⟩
      refine Ord.region_lit (S := fun w' => C5 w11.heap.size w' (.string UO) (.int .u64 (ub.time : Int)) (.int .i64 ub.many) (.string UR) (.string UG) ∧ Below wST.heap.size wST w') (by kernel_rfl) (by kernel_rfl) hdr ?_
      clear hdr
      refine Ord.stepR (v := ?_) (by rfl) ?_ ?_
      rotate_left
      · intro w' hSw
        go_simp
        try with_reducible rfl
      try simp only [Act.put, List.setIfInBounds_toArray, List.set_cons_zero, List.set_cons_succ]
      refine Ord.stepR (v := ?_) (by rfl) ?_ ?_
      rotate_left
      · intro w' hSw
        go_simp
        try with_reducible rfl
      try simp only [Act.put, List.setIfInBounds_toArray, List.set_cons_zero, List.set_cons_succ]
      refine Ord.stepR (v := ?_) (by rfl) ?_ ?_
      rotate_left
      · intro w' hSw
        go_simp
        try with_reducible rfl
      try simp only [Act.put, List.setIfInBounds_toArray, List.set_cons_zero, List.set_cons_succ]
      refine Ord.stepS (by rfl) ?_
      try simp only [Act.put, List.setIfInBounds_toArray, List.set_cons_zero, List.set_cons_succ]
      refine Ord.stepS (by rfl) ?_
      try simp only [Act.put, List.setIfInBounds_toArray, List.set_cons_zero, List.set_cons_succ]
      refine Ord.stepS (by rfl) ?_
      try simp only [Act.put, List.setIfInBounds_toArray, List.set_cons_zero, List.set_cons_succ]
      refine Ord.stepR (v := ?_) (by rfl) ?_ ?_
      rotate_left
      · intro w' hSw
        go_simp
        try with_reducible rfl
      try simp only [Act.put, List.setIfInBounds_toArray, List.set_cons_zero, List.set_cons_succ]
      refine Ord.stepR (v := ?_) (by rfl) ?_ ?_
      rotate_left
      · intro w' hSw
        go_simp
        try with_reducible rfl
      try simp only [Act.put, List.setIfInBounds_toArray, List.set_cons_zero, List.set_cons_succ]
      refine Ord.stepR (v := ?_) (by rfl) ?_ ?_
      rotate_left
      · intro w' hSw
        go_simp
        try with_reducible rfl
      try simp only [Act.put, List.setIfInBounds_toArray, List.set_cons_zero, List.set_cons_succ]
      refine Ord.stepR (v := ?_) (by rfl) ?_ ?_
      rotate_left
      · intro w' hSw
        go_simp
        try with_reducible rfl
      try simp only [Act.put, List.setIfInBounds_toArray, List.set_cons_zero, List.set_cons_succ]
      refine Ord.stepR (v := ?_) (by rfl) ?_ ?_
      rotate_left
      · intro w' hSw
        go_simp
        try with_reducible rfl
      try simp only [Act.put, List.setIfInBounds_toArray, List.set_cons_zero, List.set_cons_succ]
      refine Ord.stepR (v := ?_) (by rfl) ?_ ?_
      rotate_left
      · intro w' hSw
        obtain ⟨⟨_, q00, q01, q02, q03, q04⟩, _⟩ := hSw.1
        go_simp
        try with_reducible rfl
      try simp only [Act.put, List.setIfInBounds_toArray, List.set_cons_zero, List.set_cons_succ]
      refine Ord.stepR (v := ?_) (by rfl) ?_ ?_
      rotate_left
      · intro w' hSw
        go_simp
        try with_reducible rfl
      try simp only [Act.put, List.setIfInBounds_toArray, List.set_cons_zero, List.set_cons_succ]
      refine Ord.stepC (v := .string PU) (by rfl) ?_ (fun w1 hS => (HPU.out w1).mono fun e w2 h => ⟨h.1, ⟨hS.1.below (h.2), hS.2.trans ((h.2).mono hS.2.size)⟩⟩) ?_
      · intro w' hSw
        go_simp
        try with_reducible rfl
      try simp only [Act.put, List.setIfInBounds_toArray, List.set_cons_zero, List.set_cons_succ]
      refine Ord.stepR (v := ?_) (by rfl) ?_ ?_
      rotate_left
      · intro w' hSw
        go_simp
        try with_reducible rfl
      try simp only [Act.put, List.setIfInBounds_toArray, List.set_cons_zero, List.set_cons_succ]
      refine Ord.stepR (v := ?_) (by rfl) ?_ ?_
      rotate_left
      · intro w' hSw
        go_simp
        try with_reducible rfl
      try simp only [Act.put, List.setIfInBounds_toArray, List.set_cons_zero, List.set_cons_succ]
      refine Ord.stepR (v := ?_) (by rfl) ?_ ?_
      rotate_left
      · intro w' hSw
        obtain ⟨⟨_, q00, q01, q02, q03, q04⟩, _⟩ := hSw.1
        go_simp
        try with_reducible rfl
      try simp only [Act.put, List.setIfInBounds_toArray, List.set_cons_zero, List.set_cons_succ]
      refine Ord.stepC (v := .int .i64 cv) (by rfl) ?_ (fun w1 hS => (HCF.out w1).mono fun e w2 h => ⟨h.1, ⟨hS.1.below (h.2), hS.2.trans ((h.2).mono hS.2.size)⟩⟩) ?_
      · intro w' hSw
        go_simp
        try with_reducible rfl
      try simp only [Act.put, List.setIfInBounds_toArray, List.set_cons_zero, List.set_cons_succ]
      refine Ord.stepR (v := ?_) (by rfl) ?_ ?_
      rotate_left
      · intro w' hSw
        go_simp
        try with_reducible rfl
      try simp only [Act.put, List.setIfInBounds_toArray, List.set_cons_zero, List.set_cons_succ]
      refine Ord.stepR (v := ?_) (by rfl) ?_ ?_
      rotate_left
      · intro w' hSw
        go_simp
        try with_reducible rfl
      try simp only [Act.put, List.setIfInBounds_toArray, List.set_cons_zero, List.set_cons_succ]
      refine Ord.stepR (v := ?_) (by rfl) ?_ ?_
      rotate_left
      · intro w' hSw
        go_simp
        try with_reducible rfl
      try simp only [Act.put, List.setIfInBounds_toArray, List.set_cons_zero, List.set_cons_succ]
      refine Ord.stepR (v := ?_) (by rfl) ?_ ?_
      rotate_left
      · intro w' hSw
        go_simp
        try with_reducible rfl
      try simp only [Act.put, List.setIfInBounds_toArray, List.set_cons_zero, List.set_cons_succ]
      refine Ord.stepD fun Z3 hZ => ?_
      replace HXT := Lib.hid hZ.1
      have HB13 := Lib.hid (Bel.call HB12.out hZ.2)
      clear hZ
      go_wp2
      go_ret
      exact ⟨rfl, HB13.out⟩
    · go_simp
      go_at_call 15
      with_reducible refine (HPB.out _).mono ?_
      rintro e v2 ⟨rfl, hv2⟩
      obtain rfl : wd = v2 := hv2.symm
      dsimp only
      refine hK.out _ _ trivial (fun hHeld => ?_)
      try simp only [Act.put, List.setIfInBounds_toArray, List.set_cons_zero, List.set_cons_succ]
      refine wpAnyH_take (i := 8) (v := ?_) (by rw [List.getElem?_toArray]; rfl) (by kernel_rfl) (by kernel_rfl) (by kernel_rfl) (by exact fun _ _ _ h => h) (Or.inl ⟨by rfl, ?_⟩) (by assumption) ?_
      rotate_left
      · intro w' hSw
        go_simp
        try with_reducible rfl
      try simp only [Act.put, List.setIfInBounds_toArray, List.set_cons_zero, List.set_cons_succ]
      refine wpAnyH_take (i := 9) (v := ?_) (by rw [List.getElem?_toArray]; rfl) (by kernel_rfl) (by kernel_rfl) (by kernel_rfl) (by exact fun _ _ _ h => h) (Or.inl ⟨by rfl, ?_⟩) (by assumption) ?_
      rotate_left
      · intro w' hSw
        go_simp
        try with_reducible rfl
      try simp only [Act.put, List.setIfInBounds_toArray, List.set_cons_zero, List.set_cons_succ]
      clear hHeld
      refine wpAnyH_ready (rs := [5]) (by kernel_rfl) (by simp) ?_
      refine AllReadyH.cons (by rw [List.getElem?_toArray]; rfl) (fun Kn hK => ?_) AllReadyH.nil
      go_simp
      refine hK.out _ _ trivial (fun hHeld => ?_)
      try simp only [Act.put, List.setIfInBounds_toArray, List.set_cons_zero, List.set_cons_succ]
      refine wpAnyH_take (i := 10) (v := ?_) (by rw [List.getElem?_toArray]; rfl) (by kernel_rfl) (by kernel_rfl) (by kernel_rfl) (by exact fun _ _ _ h => h) (Or.inl ⟨by rfl, ?_⟩) (by assumption) ?_
      rotate_left
      · intro w' hSw
        go_simp
        try with_reducible rfl
      try simp only [Act.put, List.setIfInBounds_toArray, List.set_cons_zero, List.set_cons_succ]
      refine wpAnyH_take (i := 11) (v := ?_) (by rw [List.getElem?_toArray]; rfl) (by kernel_rfl) (by kernel_rfl) (by kernel_rfl) (by exact fun _ _ _ h => h) (Or.inl ⟨by rfl, ?_⟩) (by assumption) ?_
      rotate_left
      · intro w' hSw
        go_simp
        try with_reducible rfl
      try simp only [Act.put, List.setIfInBounds_toArray, List.set_cons_zero, List.set_cons_succ]
      clear hHeld
      refine wpAnyH_ready (rs := [12]) (by kernel_rfl) (by simp) ?_
      refine AllReadyH.cons (by rw [List.getElem?_toArray]; rfl) (fun Kn hK => ?_) AllReadyH.nil
      go_simp
      refine hK.out _ _ trivial (fun hHeld => ?_)
      try simp only [Act.put, List.setIfInBounds_toArray, List.set_cons_zero, List.set_cons_succ]
      clear hHeld
      have hbs : Bq w7.heap.size (wd.setCell ⟨w7.heap.size, KK, none⟩ (.int .u8 (vv.toNat : Int))) TB := by rw [← hTB]; exact bq_set HBQ.out
      have HB10 : Hid (Below w.heap.size w (wd.setCell ⟨w7.heap.size, KK, none⟩ (.int .u8 (vv.toNat : Int)))) := Lib.hid (HB9.out.setCell HB7.out.size _)
      rw [HXR.out]
      clear ck fk
      generalize wd.setCell ⟨w7.heap.size, KK, none⟩ (.int .u8 (vv.toNat : Int)) = wT at hbs HB10 ⊢
      refine wpAnyH_done (by kernel_rfl) ?_ _
      have kc := bq_text hbs cq Try.prog 45 9 5 Try.underlying45 Try.underlying5 Try.underlying9
      rw [hTl, hTT] at kc
      clear hbs HBQ
      go_wp2_with fail
      with_reducible refine (HTA2.out _).mono ?_
      rintro e w11 ⟨hx, hb11⟩
      have HB11 := Lib.hid (Bel.call HB10.out hb11)
      clear hb11
      obtain ⟨UO, UR, UG, hUO, hUR, hUG, rfl⟩ := ss_open hx
      have HUO := Lib.hid hUO
      have HUR := Lib.hid hUR
      have HUG := Lib.hid hUG
      clear hx hUO hUR hUG kc
      have HCF := Lib.hid (HCK.out UO UR UG HUO.out HUR.out HUG.out)
      try dsimp only
      go_wp2_with fail
      have hbS : Below w11.heap.size w11 (w11.alloc (.cells #[.string UO, .int .u64 (ub.time : Int), .int .i64 ub.many, .string UR, .string UG] 27)) := (Below.refl w11.heap.size w11).alloc (Nat.le_refl _) _
      have hxS := c5_new w11 (.string UO) (.int .u64 (ub.time : Int)) (.int .i64 ub.many) (.string UR) (.string UG) 27
      generalize w11.alloc (.cells #[.string UO, .int .u64 (ub.time : Int), .int .i64 ub.many, .string UR, .string UG] 27) = wST at hbS hxS ⊢
      have HB12 := Lib.hid (Bel.call HB11.out hbS)
      have HXT := Lib.hid hxS
      clear hbS hxS
      have hdr : C5 w11.heap.size wST.drew (.string UO) (.int .u64 (ub.time : Int)) (.int .i64 ub.many) (.string UR) (.string UG) ∧ Below wST.heap.size wST wST.drew := ⟨HXT.out.below (Below.drewN' (Below.refl wST.heap.size wST) 1), (Below.drewN' (Below.refl wST.heap.size wST) 1)⟩
      refine Ord.region_lit (S := fun w' => C5 w11.heap.size w' (.string UO) (.int .u64 (ub.time : Int)) (.int .i64 ub.many) (.string UR) (.string UG) ∧ Below wST.heap.size wST w') (by kernel_rfl) (by kernel_rfl) hdr ?_
      clear hdr
      refine Ord.stepR (v := ?_) (by rfl) ?_ ?_
      rotate_left
      · intro w' hSw
        go_simp
        try with_reducible rfl
      try simp only [Act.put, List.setIfInBounds_toArray, List.set_cons_zero, List.set_cons_succ]
      refine Ord.stepR (v := ?_) (by rfl) ?_ ?_
      rotate_left
      · intro w' hSw
        go_simp
        try with_reducible rfl
      try simp only [Act.put, List.setIfInBounds_toArray, List.set_cons_zero, List.set_cons_succ]
      refine Ord.stepR (v := ?_) (by rfl) ?_ ?_
      rotate_left
      · intro w' hSw
        go_simp
        try with_reducible rfl
      try simp only [Act.put, List.setIfInBounds_toArray, List.set_cons_zero, List.set_cons_succ]
      refine Ord.stepS (by rfl) ?_
      try simp only [Act.put, List.setIfInBounds_toArray, List.set_cons_zero, List.set_cons_succ]
      refine Ord.stepS (by rfl) ?_
      try simp only [Act.put, List.setIfInBounds_toArray, List.set_cons_zero, List.set_cons_succ]
      refine Ord.stepS (by rfl) ?_
      try simp only [Act.put, List.setIfInBounds_toArray, List.set_cons_zero, List.set_cons_succ]
      refine Ord.stepR (v := ?_) (by rfl) ?_ ?_
      rotate_left
      · intro w' hSw
        go_simp
        try with_reducible rfl
      try simp only [Act.put, List.setIfInBounds_toArray, List.set_cons_zero, List.set_cons_succ]
      refine Ord.stepR (v := ?_) (by rfl) ?_ ?_
      rotate_left
      · intro w' hSw
        go_simp
        try with_reducible rfl
      try simp only [Act.put, List.setIfInBounds_toArray, List.set_cons_zero, List.set_cons_succ]
      refine Ord.stepR (v := ?_) (by rfl) ?_ ?_
      rotate_left
      · intro w' hSw
        go_simp
        try with_reducible rfl
      try simp only [Act.put, List.setIfInBounds_toArray, List.set_cons_zero, List.set_cons_succ]
      refine Ord.stepR (v := ?_) (by rfl) ?_ ?_
      rotate_left
      · intro w' hSw
        go_simp
        try with_reducible rfl
      try simp only [Act.put, List.setIfInBounds_toArray, List.set_cons_zero, List.set_cons_succ]
      refine Ord.stepR (v := ?_) (by rfl) ?_ ?_
      rotate_left
      · intro w' hSw
        go_simp
        try with_reducible rfl
      try simp only [Act.put, List.setIfInBounds_toArray, List.set_cons_zero, List.set_cons_succ]
      refine Ord.stepR (v := ?_) (by rfl) ?_ ?_
      rotate_left
      · intro w' hSw
        obtain ⟨⟨_, q00, q01, q02, q03, q04⟩, _⟩ := hSw.1
        go_simp
        try with_reducible rfl
      try simp only [Act.put, List.setIfInBounds_toArray, List.set_cons_zero, List.set_cons_succ]
      refine Ord.stepR (v := ?_) (by rfl) ?_ ?_
      rotate_left
      · intro w' hSw
        go_simp
        try with_reducible rfl
      try simp only [Act.put, List.setIfInBounds_toArray, List.set_cons_zero, List.set_cons_succ]
      refine Ord.stepC (v := .string PU) (by rfl) ?_ (fun w1 hS => (HPU.out w1).mono fun e w2 h => ⟨h.1, ⟨hS.1.below (h.2), hS.2.trans ((h.2).mono hS.2.size)⟩⟩) ?_
      · intro w' hSw
        go_simp
        try with_reducible rfl
      try simp only [Act.put, List.setIfInBounds_toArray, List.set_cons_zero, List.set_cons_succ]
      refine Ord.stepR (v := ?_) (by rfl) ?_ ?_
      rotate_left
      · intro w' hSw
        go_simp
        try with_reducible rfl
      try simp only [Act.put, List.setIfInBounds_toArray, List.set_cons_zero, List.set_cons_succ]
      refine Ord.stepR (v := ?_) (by rfl) ?_ ?_
      rotate_left
      · intro w' hSw
        go_simp
        try with_reducible rfl
      try simp only [Act.put, List.setIfInBounds_toArray, List.set_cons_zero, List.set_cons_succ]
      refine Ord.stepR (v := ?_) (by rfl) ?_ ?_
      rotate_left
      · intro w' hSw
        obtain ⟨⟨_, q00, q01, q02, q03, q04⟩, _⟩ := hSw.1
        go_simp
        try with_reducible rfl
      try simp only [Act.put, List.setIfInBounds_toArray, List.set_cons_zero, List.set_cons_succ]
      refine Ord.stepC (v := .int .i64 cv) (by rfl) ?_ (fun w1 hS => (HCF.out w1).mono fun e w2 h => ⟨h.1, ⟨hS.1.below (h.2), hS.2.trans ((h.2).mono hS.2.size)⟩⟩) ?_
      · intro w' hSw
        go_simp
        try with_reducible rfl
      try simp only [Act.put, List.setIfInBounds_toArray, List.set_cons_zero, List.set_cons_succ]
      refine Ord.stepR (v := ?_) (by rfl) ?_ ?_
      rotate_left
      · intro w' hSw
        go_simp
        try with_reducible rfl
      try simp only [Act.put, List.setIfInBounds_toArray, List.set_cons_zero, List.set_cons_succ]
      refine Ord.stepR (v := ?_) (by rfl) ?_ ?_
      rotate_left
      · intro w' hSw
        go_simp
        try with_reducible rfl
      try simp only [Act.put, List.setIfInBounds_toArray, List.set_cons_zero, List.set_cons_succ]
      refine Ord.stepR (v := ?_) (by rfl) ?_ ?_
      rotate_left
      · intro w' hSw
        go_simp
        try with_reducible rfl
      try simp only [Act.put, List.setIfInBounds_toArray, List.set_cons_zero, List.set_cons_succ]
      refine Ord.stepR (v := ?_) (by rfl) ?_ ?_
      rotate_left
      · intro w' hSw
        go_simp
        try with_reducible rfl
      try simp only [Act.put, List.setIfInBounds_toArray, List.set_cons_zero, List.set_cons_succ]
      refine Ord.stepD fun Z3 hZ => ?_
      replace HXT := Lib.hid hZ.1
      have HB13 := Lib.hid (Bel.call HB12.out hZ.2)
      clear hZ
      go_wp2
      go_ret
      exact ⟨rfl, HB13.out⟩
  · have htk2 : takeS TB = (szero, 2) := hf
    rw [htk] at htk2
    obtain ⟨rfl, rfl⟩ := Prod.mk.inj htk2
    have HTA2 : Hid (∀ w, Calls Try.prog 14 #[.string TT] w fun e w' => Ss (szero, 2) e ∧ Below w.heap.size w w') := HTA
    clear htk htk2 HTA hf
    clear hHeld
    refine wpAnyH_ready (rs := [5, 7]) (by kernel_rfl) (by simp) ?_
    refine AllReadyH.cons (by rw [List.getElem?_toArray]; rfl) (fun Kn hK => ?_) (AllReadyH.cons (by rw [List.getElem?_toArray]; rfl) (fun Kn hK => ?_) AllReadyH.nil)
    · go_simp
      refine hK.out _ _ trivial (fun hHeld => ?_)
      try simp only [Act.put, List.setIfInBounds_toArray, List.set_cons_zero, List.set_cons_succ]
      clear hHeld
      refine wpAnyH_ready (rs := [7]) (by kernel_rfl) (by simp) ?_
      refine AllReadyH.cons (by rw [List.getElem?_toArray]; rfl) (fun Kn hK => ?_) AllReadyH.nil
      go_simp
      go_at_call 15
      with_reducible refine (HPB.out _).mono ?_
      rintro e v2 ⟨rfl, hv2⟩
      obtain rfl : wd = v2 := hv2.symm
      dsimp only
      refine hK.out _ _ trivial (fun hHeld => ?_)
      try simp only [Act.put, List.setIfInBounds_toArray, List.set_cons_zero, List.set_cons_succ]
      refine wpAnyH_take (i := 8) (v := ?_) (by rw [List.getElem?_toArray]; rfl) (by kernel_rfl) (by kernel_rfl) (by kernel_rfl) (by exact fun _ _ _ h => h) (Or.inl ⟨by rfl, ?_⟩) (by assumption) ?_
      rotate_left
      · intro w' hSw
        go_simp
        try with_reducible rfl
      try simp only [Act.put, List.setIfInBounds_toArray, List.set_cons_zero, List.set_cons_succ]
      refine wpAnyH_take (i := 9) (v := ?_) (by rw [List.getElem?_toArray]; rfl) (by kernel_rfl) (by kernel_rfl) (by kernel_rfl) (by exact fun _ _ _ h => h) (Or.inl ⟨by rfl, ?_⟩) (by assumption) ?_
      rotate_left
      · intro w' hSw
        go_simp
        try with_reducible rfl
      try simp only [Act.put, List.setIfInBounds_toArray, List.set_cons_zero, List.set_cons_succ]
      refine wpAnyH_take (i := 10) (v := ?_) (by rw [List.getElem?_toArray]; rfl) (by kernel_rfl) (by kernel_rfl) (by kernel_rfl) (by exact fun _ _ _ h => h) (Or.inl ⟨by rfl, ?_⟩) (by assumption) ?_
      rotate_left
      · intro w' hSw
        go_simp
        try with_reducible rfl
      try simp only [Act.put, List.setIfInBounds_toArray, List.set_cons_zero, List.set_cons_succ]
      refine wpAnyH_take (i := 11) (v := ?_) (by rw [List.getElem?_toArray]; rfl) (by kernel_rfl) (by kernel_rfl) (by kernel_rfl) (by exact fun _ _ _ h => h) (Or.inl ⟨by rfl, ?_⟩) (by assumption) ?_
      rotate_left
      · intro w' hSw
        go_simp
        try with_reducible rfl
      try simp only [Act.put, List.setIfInBounds_toArray, List.set_cons_zero, List.set_cons_succ]
      clear hHeld
      refine wpAnyH_ready (rs := [12]) (by kernel_rfl) (by simp) ?_
      refine AllReadyH.cons (by rw [List.getElem?_toArray]; rfl) (fun Kn hK => ?_) AllReadyH.nil
      go_simp
      refine hK.out _ _ trivial (fun hHeld => ?_)
      try simp only [Act.put, List.setIfInBounds_toArray, List.set_cons_zero, List.set_cons_succ]
      clear hHeld
      have hbs : Bq w7.heap.size (wd.setCell ⟨w7.heap.size, KK, none⟩ (.int .u8 (vv.toNat : Int))) TB := by rw [← hTB]; exact bq_set HBQ.out
      have HB10 : Hid (Below w.heap.size w (wd.setCell ⟨w7.heap.size, KK, none⟩ (.int .u8 (vv.toNat : Int)))) := Lib.hid (HB9.out.setCell HB7.out.size _)
      rw [HXR.out]
      clear ck fk
      generalize wd.setCell ⟨w7.heap.size, KK, none⟩ (.int .u8 (vv.toNat : Int)) = wT at hbs HB10 ⊢
      refine wpAnyH_done (by kernel_rfl) ?_ _
      have kc := bq_text hbs cq Try.prog 45 9 5 Try.underlying45 Try.underlying5 Try.underlying9
      rw [hTl, hTT] at kc
      clear hbs HBQ
      go_wp2_with fail
      with_reducible refine (HTA2.out _).mono ?_
      rintro e w11 ⟨hx, hb11⟩
      have HB11 := Lib.hid (Bel.call HB10.out hb11)
      clear hb11
      obtain rfl := ss_zero hx
      clear hx kc
      try dsimp only
      go_wp2_with fail
      have hbS : Below w11.heap.size w11 (w11.alloc (.cells #[.string ⟨#[]⟩, .int .u64 0, .int .i64 0, .string ⟨#[]⟩, .string ⟨#[]⟩] 27)) := (Below.refl w11.heap.size w11).alloc (Nat.le_refl _) _
      have hxS := c5_new w11 (.string ⟨#[]⟩) (.int .u64 0) (.int .i64 0) (.string ⟨#[]⟩) (.string ⟨#[]⟩) 27
      generalize w11.alloc (.cells #[.string ⟨#[]⟩, .int .u64 0, .int .i64 0, .string ⟨#[]⟩, .string ⟨#[]⟩] 27) = wST at hbS hxS ⊢
      have HB12 := Lib.hid (Bel.call HB11.out hbS)
      have HXT := Lib.hid hxS
      clear hbS hxS
      have hdr : C5 w11.heap.size wST.drew (.string ⟨#[]⟩) (.int .u64 0) (.int .i64 0) (.string ⟨#[]⟩) (.string ⟨#[]⟩) ∧ Below wST.heap.size wST wST.drew := ⟨HXT.out.below (Below.drewN' (Below.refl wST.heap.size wST) 1), (Below.drewN' (Below.refl wST.heap.size wST) 1)⟩
      refine Ord.region_lit (S := fun w' => C5 w11.heap.size w' (.string ⟨#[]⟩) (.int .u64 0) (.int .i64 0) (.string ⟨#[]⟩) (.string ⟨#[]⟩) ∧ Below wST.heap.size wST w') (by kernel_rfl) (by kernel_rfl) hdr ?_
      clear hdr
      refine Ord.stepR (v := ?_) (by rfl) ?_ ?_
      rotate_left
      · intro w' hSw
        go_simp
        try with_reducible rfl
      try simp only [Act.put, List.setIfInBounds_toArray, List.set_cons_zero, List.set_cons_succ]
      refine Ord.stepR (v := ?_) (by rfl) ?_ ?_
      rotate_left
      · intro w' hSw
        go_simp
        try with_reducible rfl
      try simp only [Act.put, List.setIfInBounds_toArray, List.set_cons_zero, List.set_cons_succ]
      refine Ord.stepR (v := ?_) (by rfl) ?_ ?_
      rotate_left
      · intro w' hSw
        go_simp
        try with_reducible rfl
      try simp only [Act.put, List.setIfInBounds_toArray, List.set_cons_zero, List.set_cons_succ]
      refine Ord.stepR (v := ?_) (by rfl) ?_ ?_
      rotate_left
      · intro w' hSw
        obtain ⟨⟨_, q00, q01, q02, q03, q04⟩, _⟩ := hSw.1
        go_simp
        try with_reducible rfl
      try simp only [Act.put, List.setIfInBounds_toArray, List.set_cons_zero, List.set_cons_succ]
      refine Ord.stepR (v := ?_) (by rfl) ?_ ?_
      rotate_left
      · intro w' hSw
        go_simp
        try with_reducible rfl
      try simp only [Act.put, List.setIfInBounds_toArray, List.set_cons_zero, List.set_cons_succ]
      refine Ord.stepR (v := ?_) (by rfl) ?_ ?_
      rotate_left
      · intro w' hSw
        go_simp
        try with_reducible rfl
      try simp only [Act.put, List.setIfInBounds_toArray, List.set_cons_zero, List.set_cons_succ]
      refine Ord.stepR (v := ?_) (by rfl) ?_ ?_
      rotate_left
      · intro w' hSw
        go_simp
        try with_reducible rfl
      try simp only [Act.put, List.setIfInBounds_toArray, List.set_cons_zero, List.set_cons_succ]
      refine Ord.stepR (v := ?_) (by rfl) ?_ ?_
      rotate_left
      · intro w' hSw
        go_simp
        try with_reducible rfl
      try simp only [Act.put, List.setIfInBounds_toArray, List.set_cons_zero, List.set_cons_succ]
      refine Ord.stepS (by rfl) ?_
      try simp only [Act.put, List.setIfInBounds_toArray, List.set_cons_zero, List.set_cons_succ]
      refine Ord.stepS (by rfl) ?_
      try simp only [Act.put, List.setIfInBounds_toArray, List.set_cons_zero, List.set_cons_succ]
      refine Ord.stepS (by rfl) ?_
      try simp only [Act.put, List.setIfInBounds_toArray, List.set_cons_zero, List.set_cons_succ]
      refine Ord.stepS (by rfl) ?_
      try simp only [Act.put, List.setIfInBounds_toArray, List.set_cons_zero, List.set_cons_succ]
      refine Ord.stepS (by rfl) ?_
      try simp only [Act.put, List.setIfInBounds_toArray, List.set_cons_zero, List.set_cons_succ]
      refine Ord.stepS (by rfl) ?_
      try simp only [Act.put, List.setIfInBounds_toArray, List.set_cons_zero, List.set_cons_succ]
      refine Ord.stepS (by rfl) ?_
      try simp only [Act.put, List.setIfInBounds_toArray, List.set_cons_zero, List.set_cons_succ]
      refine Ord.stepS (by rfl) ?_
      try simp only [Act.put, List.setIfInBounds_toArray, List.set_cons_zero, List.set_cons_succ]
      refine Ord.stepS (by rfl) ?_
      try simp only [Act.put, List.setIfInBounds_toArray, List.set_cons_zero, List.set_cons_succ]
      refine Ord.stepS (by rfl) ?_
      try simp only [Act.put, List.setIfInBounds_toArray, List.set_cons_zero, List.set_cons_succ]
      refine Ord.stepS (by rfl) ?_
      try simp only [Act.put, List.setIfInBounds_toArray, List.set_cons_zero, List.set_cons_succ]
      refine Ord.stepS (by rfl) ?_
      try simp only [Act.put, List.setIfInBounds_toArray, List.set_cons_zero, List.set_cons_succ]
      refine Ord.stepR (v := ?_) (by rfl) ?_ ?_
      rotate_left
      · intro w' hSw
        go_simp
        try with_reducible rfl
      try simp only [Act.put, List.setIfInBounds_toArray, List.set_cons_zero, List.set_cons_succ]
      refine Ord.stepR (v := ?_) (by rfl) ?_ ?_
      rotate_left
      · intro w' hSw
        go_simp
        try with_reducible rfl
      try simp only [Act.put, List.setIfInBounds_toArray, List.set_cons_zero, List.set_cons_succ]
      refine Ord.stepD fun Z3 hZ => ?_
      replace HXT := Lib.hid hZ.1
      have HB13 := Lib.hid (Bel.call HB12.out hZ.2)
      clear hZ
      go_wp2
      go_ret
      exact ⟨rfl, HB13.out⟩
    · go_simp
      go_at_call 15
      with_reducible refine (HPB.out _).mono ?_
      rintro e v2 ⟨rfl, hv2⟩
      obtain rfl : wd = v2 := hv2.symm
      dsimp only
      refine hK.out _ _ trivial (fun hHeld => ?_)
      try simp only [Act.put, List.setIfInBounds_toArray, List.set_cons_zero, List.set_cons_succ]
      refine wpAnyH_take (i := 8) (v := ?_) (by rw [List.getElem?_toArray]; rfl) (by kernel_rfl) (by kernel_rfl) (by kernel_rfl) (by exact fun _ _ _ h => h) (Or.inl ⟨by rfl, ?_⟩) (by assumption) ?_
      rotate_left
      · intro w' hSw
        go_simp
        try with_reducible rfl
      try simp only [Act.put, List.setIfInBounds_toArray, List.set_cons_zero, List.set_cons_succ]
      refine wpAnyH_take (i := 9) (v := ?_) (by rw [List.getElem?_toArray]; rfl) (by kernel_rfl) (by kernel_rfl) (by kernel_rfl) (by exact fun _ _ _ h => h) (Or.inl ⟨by rfl, ?_⟩) (by assumption) ?_
      rotate_left
      · intro w' hSw
        go_simp
        try with_reducible rfl
      try simp only [Act.put, List.setIfInBounds_toArray, List.set_cons_zero, List.set_cons_succ]
      clear hHeld
      refine wpAnyH_ready (rs := [5]) (by kernel_rfl) (by simp) ?_
      refine AllReadyH.cons (by rw [List.getElem?_toArray]; rfl) (fun Kn hK => ?_) AllReadyH.nil
      go_simp
      refine hK.out _ _ trivial (fun hHeld => ?_)
      try simp only [Act.put, List.setIfInBounds_toArray, List.set_cons_zero, List.set_cons_succ]
      refine wpAnyH_take (i := 10) (v := ?_) (by rw [List.getElem?_toArray]; rfl) (by kernel_rfl) (by kernel_rfl) (by kernel_rfl) (by exact fun _ _ _ h => h) (Or.inl ⟨by rfl, ?_⟩) (by assumption) ?_
      rotate_left
      · intro w' hSw
        go_simp
        try with_reducible rfl
      try simp only [Act.put, List.setIfInBounds_toArray, List.set_cons_zero, List.set_cons_succ]
      refine wpAnyH_take (i := 11) (v := ?_) (by rw [List.getElem?_toArray]; rfl) (by kernel_rfl) (by kernel_rfl) (by kernel_rfl) (by exact fun _ _ _ h => h) (Or.inl ⟨by rfl, ?_⟩) (by assumption) ?_
      rotate_left
      · intro w' hSw
        go_simp
        try with_reducible rfl
      try simp only [Act.put, List.setIfInBounds_toArray, List.set_cons_zero, List.set_cons_succ]
      clear hHeld
      refine wpAnyH_ready (rs := [12]) (by kernel_rfl) (by simp) ?_
      refine AllReadyH.cons (by rw [List.getElem?_toArray]; rfl) (fun Kn hK => ?_) AllReadyH.nil
      go_simp
      refine hK.out _ _ trivial (fun hHeld => ?_)
      try simp only [Act.put, List.setIfInBounds_toArray, List.set_cons_zero, List.set_cons_succ]
      clear hHeld
      have hbs : Bq w7.heap.size (wd.setCell ⟨w7.heap.size, KK, none⟩ (.int .u8 (vv.toNat : Int))) TB := by rw [← hTB]; exact bq_set HBQ.out
      have HB10 : Hid (Below w.heap.size w (wd.setCell ⟨w7.heap.size, KK, none⟩ (.int .u8 (vv.toNat : Int)))) := Lib.hid (HB9.out.setCell HB7.out.size _)
      rw [HXR.out]
      clear ck fk
      generalize wd.setCell ⟨w7.heap.size, KK, none⟩ (.int .u8 (vv.toNat : Int)) = wT at hbs HB10 ⊢
      refine wpAnyH_done (by kernel_rfl) ?_ _
      have kc := bq_text hbs cq Try.prog 45 9 5 Try.underlying45 Try.underlying5 Try.underlying9
      rw [hTl, hTT] at kc
      clear hbs HBQ
      go_wp2_with fail
      with_reducible refine (HTA2.out _).mono ?_
      rintro e w11 ⟨hx, hb11⟩
      have HB11 := Lib.hid (Bel.call HB10.out hb11)
      clear hb11
      obtain rfl := ss_zero hx
      clear hx kc
      try dsimp only
      go_wp2_with fail
      have hbS : Below w11.heap.size w11 (w11.alloc (.cells #[.string ⟨#[]⟩, .int .u64 0, .int .i64 0, .string ⟨#[]⟩, .string ⟨#[]⟩] 27)) := (Below.refl w11.heap.size w11).alloc (Nat.le_refl _) _
      have hxS := c5_new w11 (.string ⟨#[]⟩) (.int .u64 0) (.int .i64 0) (.string ⟨#[]⟩) (.string ⟨#[]⟩) 27
      generalize w11.alloc (.cells #[.string ⟨#[]⟩, .int .u64 0, .int .i64 0, .string ⟨#[]⟩, .string ⟨#[]⟩] 27) = wST at hbS hxS ⊢
      have HB12 := Lib.hid (Bel.call HB11.out hbS)
      have HXT := Lib.hid hxS
      clear hbS hxS
      have hdr : C5 w11.heap.size wST.drew (.string ⟨#[]⟩) (.int .u64 0) (.int .i64 0) (.string ⟨#[]⟩) (.string ⟨#[]⟩) ∧ Below wST.heap.size wST wST.drew := ⟨HXT.out.below (Below.drewN' (Below.refl wST.heap.size wST) 1), (Below.drewN' (Below.refl wST.heap.size wST) 1)⟩
      refine Ord.region_lit (S := fun w' => C5 w11.heap.size w' (.string ⟨#[]⟩) (.int .u64 0) (.int .i64 0) (.string ⟨#[]⟩) (.string ⟨#[]⟩) ∧ Below wST.heap.size wST w') (by kernel_rfl) (by kernel_rfl) hdr ?_
      clear hdr
      refine Ord.stepR (v := ?_) (by rfl) ?_ ?_
      rotate_left
      · intro w' hSw
        go_simp
        try with_reducible rfl
      try simp only [Act.put, List.setIfInBounds_toArray, List.set_cons_zero, List.set_cons_succ]
      refine Ord.stepR (v := ?_) (by rfl) ?_ ?_
      rotate_left
      · intro w' hSw
        go_simp
        try with_reducible rfl
      try simp only [Act.put, List.setIfInBounds_toArray, List.set_cons_zero, List.set_cons_succ]
      refine Ord.stepR (v := ?_) (by rfl) ?_ ?_
      rotate_left
      · intro w' hSw
        go_simp
        try with_reducible rfl
      try simp only [Act.put, List.setIfInBounds_toArray, List.set_cons_zero, List.set_cons_succ]
      refine Ord.stepR (v := ?_) (by rfl) ?_ ?_
      rotate_left
      · intro w' hSw
        obtain ⟨⟨_, q00, q01, q02, q03, q04⟩, _⟩ := hSw.1
        go_simp
        try with_reducible rfl
      try simp only [Act.put, List.setIfInBounds_toArray, List.set_cons_zero, List.set_cons_succ]
      refine Ord.stepR (v := ?_) (by rfl) ?_ ?_
      rotate_left
      · intro w' hSw
        go_simp
        try with_reducible rfl
      try simp only [Act.put, List.setIfInBounds_toArray, List.set_cons_zero, List.set_cons_succ]
      refine Ord.stepR (v := ?_) (by rfl) ?_ ?_
      rotate_left
      · intro w' hSw
        go_simp
        try with_reducible rfl
      try simp only [Act.put, List.setIfInBounds_toArray, List.set_cons_zero, List.set_cons_succ]
      refine Ord.stepR (v := ?_) (by rfl) ?_ ?_
      rotate_left
      · intro w' hSw
        go_simp
        try with_reducible rfl
      try simp only [Act.put, List.setIfInBounds_toArray, List.set_cons_zero, List.set_cons_succ]
      refine Ord.stepR (v := ?_) (by rfl) ?_ ?_
      rotate_left
      · intro w' hSw
        go_simp
        try with_reducible rfl
      try simp only [Act.put, List.setIfInBounds_toArray, List.set_cons_zero, List.set_cons_succ]
      refine Ord.stepS (by rfl) ?_
      try simp only [Act.put, List.setIfInBounds_toArray, List.set_cons_zero, List.set_cons_succ]
      refine Ord.stepS (by rfl) ?_
      try simp only [Act.put, List.setIfInBounds_toArray, List.set_cons_zero, List.set_cons_succ]
      refine Ord.stepS (by rfl) ?_
      try simp only [Act.put, List.setIfInBounds_toArray, List.set_cons_zero, List.set_cons_succ]
      refine Ord.stepS (by rfl) ?_
      try simp only [Act.put, List.setIfInBounds_toArray, List.set_cons_zero, List.set_cons_succ]
      refine Ord.stepS (by rfl) ?_
      try simp only [Act.put, List.setIfInBounds_toArray, List.set_cons_zero, List.set_cons_succ]
      refine Ord.stepS (by rfl) ?_
      try simp only [Act.put, List.setIfInBounds_toArray, List.set_cons_zero, List.set_cons_succ]
      refine Ord.stepS (by rfl) ?_
      try simp only [Act.put, List.setIfInBounds_toArray, List.set_cons_zero, List.set_cons_succ]
      refine Ord.stepS (by rfl) ?_
      try simp only [Act.put, List.setIfInBounds_toArray, List.set_cons_zero, List.set_cons_succ]
      refine Ord.stepS (by rfl) ?_
      try simp only [Act.put, List.setIfInBounds_toArray, List.set_cons_zero, List.set_cons_succ]
      refine Ord.stepS (by rfl) ?_
      try simp only [Act.put, List.setIfInBounds_toArray, List.set_cons_zero, List.set_cons_succ]
      refine Ord.stepS (by rfl) ?_
      try simp only [Act.put, List.setIfInBounds_toArray, List.set_cons_zero, List.set_cons_succ]
      refine Ord.stepS (by rfl) ?_
      try simp only [Act.put, List.setIfInBounds_toArray, List.set_cons_zero, List.set_cons_succ]
      refine Ord.stepR (v := ?_) (by rfl) ?_ ?_
      rotate_left
      · intro w' hSw
        go_simp
        try with_reducible rfl
      try simp only [Act.put, List.setIfInBounds_toArray, List.set_cons_zero, List.set_cons_succ]
      refine Ord.stepR (v := ?_) (by rfl) ?_ ?_
      rotate_left
      · intro w' hSw
        go_simp
        try with_reducible rfl
      try simp only [Act.put, List.setIfInBounds_toArray, List.set_cons_zero, List.set_cons_succ]
      refine Ord.stepD fun Z3 hZ => ?_
      replace HXT := Lib.hid hZ.1
      have HB13 := Lib.hid (Bel.call HB12.out hZ.2)
      clear hZ
      go_wp2
      go_ret
      exact ⟨rfl, HB13.out⟩
end Go.Proofs.Ytmmeklemaofmjaa.Frs
