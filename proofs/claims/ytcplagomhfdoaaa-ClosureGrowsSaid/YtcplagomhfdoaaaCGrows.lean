/-
  THE WALK of ClosureGrows. By an AI agent; no person has read it.
-/
import Derived.Test.YtcplagomhfdoaaaCLaw
import Derived.Laws.Cover1
namespace Go.Proofs.Ytcplagomhfdoaaa.Clo
open Go.RowKit Wire Term

theorem rising_at {hs : List ByteArray} {k : Nat} {q z : ByteArray} (h : Rising (bl hs)) (hk : 0 < k) (hlt : k < hs.length) (hq : hs.getD (k - 1) ByteArray.empty = q) (hz : hs.getD k ByteArray.empty = z) : Op.bytesLess q.data.toList z.data.toList = true := by
  have e1 : hs[k - 1] = q := by rw [← hq]; simp [List.getD, show k - 1 < hs.length by omega]
  have e2 : hs[k] = z := by rw [← hz]; simp [List.getD, hlt]
  have h2 := List.pairwise_iff_getElem.1 h (k - 1) k (by rw [bl_len]; omega) (by rw [bl_len]; exact hlt) (by omega)
  simp only [bl, List.getElem_map] at h2
  rw [e1, e2] at h2
  exact h2
theorem less_no {q z : ByteArray} (h : Op.bytesLess q.data.toList z.data.toList = true) : Op.bytesLess z.toList q.toList = false := by
  rw [Lib.toList_data, Lib.toList_data]; exact less_asymm h
theorem less_ne {q z : ByteArray} (h : Op.bytesLess q.data.toList z.data.toList = true) : (z.toList == q.toList) = false := by
  refine ne_bool fun e => ?_
  rw [e, less_irrefl] at h; cases h
set_option maxHeartbeats 16000000 in
set_option maxRecDepth 1000000 in
theorem grows_walk (CA : ApartOK) (CD : DerivesOK) (l : Option Addr) (cl : Nat) (rows : List (List Int)) (m : Option Addr) (cm : Nat) (ms : List Int) (t : Option Addr) (ct : Nat) (ts : List Int) (u : Option Addr) (cu : Nat) (us : List Int) (w : World)
    (hr : RReads w l rows) (hm : IReads w m ms) (ht : IReads w t ts) (hu : IReads w u us) :
    Calls Try.prog 4 #[.slice l rows.length cl, .slice m ms.length cm, .slice t ts.length ct, .slice u us.length cu] w fun e w' => e = .returned (.bool true) ∧ Below w.heap.size w w' := by
  have HR := Lib.hid hr
  have HM0 := Lib.hid hm
  have HT0 := Lib.hid ht
  have HU0 := Lib.hid hu
  have HSH : Hid (∀ w : World, Calls Try.prog 10 #[] w fun e w' => e = .returned (.bool true) ∧ Below w.heap.size w w') := fun w => shown_any CD w
  clear hr hm ht hu
  by_cases h20 : (20 : Int) < (rows.length : Int)
  · go_enter Try.func4, Try.ntmps4
    go_wp2_with (go_at_call 10; refine (HSH.out _).mono ?_; rintro e w1 ⟨rfl, hb1⟩; have HB1 := Lib.hid hb1; clear hb1)
    go_ret
    exact ⟨rfl, HB1.out⟩
  go_enter Try.func4, Try.ntmps4
  go_wp2_with (go_at_call 10; refine (HSH.out _).mono ?_; rintro e w1 ⟨rfl, hb1⟩; have HB1 := Lib.hid hb1; clear hb1)
  refine (some_any l cl rows _ (HR.out.below HB1.out (Nat.le_refl _))).mono ?_
  rintro e w2 ⟨⟨D, cd, ys, hy6, hyc, hnil, hyr, hyg, rfl⟩, hb2⟩
  have HB2 := Lib.hid (HB1.out.trans (hb2.mono HB1.out.size))
  have HYR := Lib.hid hyr
  have HYN := Lib.hid hnil
  have HYZ : Hid (∀ y ∈ ys, y.size ≤ 140737488355328) := fun y hy => Nat.le_trans (good_size (hyg y hy)) (by decide)
  have HYB : Hid (∀ z ∈ bl ys, right z = true) := fun z hz => (good_bl hyg z hz).1
  have HYL : Hid ((bl ys).length ≤ 6) := by show (bl ys).length ≤ 6; rw [bl_len]; exact hy6
  have BB2 := Lib.hid (Below.refl w2.heap.size w2)
  clear hb2 hyr hyg hnil HB1
  go_wp2_with fail
  refine (grownG_any t ct ts _ (HT0.out.below (Bel.call HB2.out BB2.out) (Nat.le_refl _))).mono ?_
  rintro e w3 ⟨⟨X, hX, rfl⟩, hb3⟩
  have BB3 := Lib.hid (Bel.call BB2.out hb3)
  have hXz := good_size hX
  have HX := Lib.hid hX
  clear hb3 hX BB2
  go_wp2_with fail
  refine (grownG_any u cu us _ (HU0.out.below (Bel.call HB2.out BB3.out) (Nat.le_refl _))).mono ?_
  rintro e w4 ⟨⟨Y, hY, rfl⟩, hb4⟩
  have BB4 := Lib.hid (Bel.call BB3.out hb4)
  have hYz := good_size hY
  have HY := Lib.hid hY
  clear hb4 hY BB3
  go_wp2_with fail
  refine (der_reads CD (w0 := w2) D cd ys X HYR.out hyc BB4.out (by omega) HYZ.out (by omega)).mono ?_
  rintro e w7 ⟨⟨b1, f7, h7, rfl⟩, hb7⟩
  obtain ⟨rfl, hi7⟩ := dv_ok h7 HYB.out (by have := HYL.out; omega) HX.out.1
  have HIb1 := Lib.hid hi7
  have BB7 := Lib.hid hb7
  clear hb7 h7 hi7 BB4
  dsimp only
  have HE8 := Lib.hid (own_empty w7 w2.heap.size BB7.out.size)
  have BA8 := Lib.hid (BB7.out.alloc BB7.out.size (.cells #[] 9))
  have HS8 := Lib.hid (HYR.out.below BA8.out (Nat.le_refl _))
  go_wp2_with (at_builtin; refine append_strs rfl _ _ rfl w2.heap.size _ 0 [] ys rfl rfl HE8.out _ _ _ rfl rfl HYN.out HS8.out (by omega) BA8.out.size ?_)
  intro u8 x8 hown8 hbb8
  have HX8 := Lib.hid (BA8.out.trans hbb8)
  have HOX8 := Lib.hid hown8
  clear hown8 hbb8 HE8 HS8 BA8 BB7
  go_wp2_with fail
  refine (grownG_any m cm ms _ (HM0.out.below (Bel.call HB2.out HX8.out) (Nat.le_refl _))).mono ?_
  rintro e w81 ⟨⟨M, hM, rfl⟩, hb81⟩
  have HX81 := Lib.hid (HX8.out.trans (hb81.mono HX8.out.size))
  have hMz := good_size hM
  have HM := Lib.hid hM
  have HOX81 := Lib.hid (own_below HOX8.out hb81 (Nat.le_refl _))
  clear hb81 hM HX8 HOX8
  have HLX8 := Lib.hid (lit_reads w81 [M] #[.string M] rfl w81.heap.size rfl)
  have BX8 := Lib.hid (HX81.out.alloc HX81.out.size (.cells #[.string M] 9))
  go_wp2_with (at_builtin; refine append_strs rfl _ _ rfl w2.heap.size _ ys.length ys [M] rfl rfl (HOX81.out.alloc _) _ 1 1 rfl rfl (by simp) HLX8.out (by omega) BX8.out.size ?_)
  intro v8 w8 hown8 hbb8
  have BB8 := Lib.hid (BX8.out.trans hbb8)
  have HO8 := Lib.hid hown8
  obtain ⟨P8, p8, rfl⟩ := own_value HO8.out
  clear hown8 hbb8 HLX8 BX8 HX81 HOX81
  go_wp2_with fail
  refine (der_own CD (w0 := w2) P8 _ p8 (ys ++ [M]) X (by simp) HO8.out BB8.out (by simp; omega) (fun y hy => ?_) (by omega)).mono ?_
  · rcases List.mem_append.1 hy with h | h
    · exact HYZ.out y h
    · rw [List.mem_singleton.1 h]; omega
  rintro e w9 ⟨⟨b2, f9, h9, rfl⟩, hb9⟩
  have hbl9 : bl (ys ++ [M]) = bl ys ++ [M.data.toList] := by simp [bl]
  rw [hbl9] at h9
  obtain ⟨rfl, hi9⟩ := dv_ok h9 (fun z hz => by
    rcases List.mem_append.1 hz with h | h
    · exact HYB.out z h
    · rw [List.mem_singleton.1 h]; exact HM.out.1) (by have := HYL.out; simp; omega) HX.out.1
  have HIb2 := Lib.hid hi9
  have BB9 := Lib.hid hb9
  clear hb9 h9 hi9 hbl9 BB8 HO8
  dsimp only
  go_wp2_with fail
  refine (der_reads CD (w0 := w2) D cd ys Y HYR.out hyc BB9.out (by omega) HYZ.out (by omega)).mono ?_
  rintro e w10 ⟨⟨b3, f10, h10, rfl⟩, hb10⟩
  obtain ⟨rfl, hi10⟩ := dv_ok h10 HYB.out (by have := HYL.out; omega) HY.out.1
  have HIb3 := Lib.hid hi10
  have BB10 := Lib.hid hb10
  clear hb10 h10 hi10 BB9
  dsimp only
  have HE11 := Lib.hid (own_empty w10 w2.heap.size BB10.out.size)
  have BA11 := Lib.hid (BB10.out.alloc BB10.out.size (.cells #[] 9))
  have HS11 := Lib.hid (HYR.out.below BA11.out (Nat.le_refl _))
  go_wp2_with (at_builtin; refine append_strs rfl _ _ rfl w2.heap.size _ 0 [] ys rfl rfl HE11.out _ _ _ rfl rfl HYN.out HS11.out (by omega) BA11.out.size ?_)
  intro u11 x11 hown11 hbb11
  have HX11 := Lib.hid (BA11.out.trans hbb11)
  have HOX11 := Lib.hid hown11
  have HLX11 := Lib.hid (lit_reads x11 [X] #[.string X] rfl x11.heap.size rfl)
  have BX11 := Lib.hid (HX11.out.alloc HX11.out.size (.cells #[.string X] 9))
  clear hown11 hbb11 HE11 HS11 BA11 BB10
  go_wp2_with (at_builtin; refine append_strs rfl _ _ rfl w2.heap.size _ ys.length ys [X] rfl rfl (HOX11.out.alloc _) _ 1 1 rfl rfl (by simp) HLX11.out (by omega) BX11.out.size ?_)
  intro v11 w11 hown11 hbb11
  have BB11 := Lib.hid (BX11.out.trans hbb11)
  have HO11 := Lib.hid hown11
  obtain ⟨P11, p11, rfl⟩ := own_value HO11.out
  clear hown11 hbb11 HLX11 BX11 HX11 HOX11
  go_wp2_with fail
  refine (der_own CD (w0 := w2) P11 _ p11 (ys ++ [X]) Y (by simp) HO11.out BB11.out (by simp; omega) (fun y hy => ?_) (by omega)).mono ?_
  · rcases List.mem_append.1 hy with h | h
    · exact HYZ.out y h
    · rw [List.mem_singleton.1 h]; omega
  rintro e w12 ⟨⟨b4, f12, h12, rfl⟩, hb12⟩
  have hbl12 : bl (ys ++ [X]) = bl ys ++ [X.data.toList] := by simp [bl]
  rw [hbl12] at h12
  obtain ⟨rfl, hi12⟩ := dv_ok h12 (fun z hz => by
    rcases List.mem_append.1 hz with h | h
    · exact HYB.out z h
    · rw [List.mem_singleton.1 h]; exact HX.out.1) (by have := HYL.out; simp; omega) HY.out.1
  have HIb4 := Lib.hid hi12
  have BB12 := Lib.hid hb12
  clear hb12 h12 hi12 hbl12 BB11 HO11
  dsimp only
  have h12 : b1 = true → b2 = true := fun h => HIb2.out.2 (der_mono (fun z hz => List.mem_append_left _ hz) (HIb1.out.1 h))
  have h34 : b1 = true → b3 = b4 := fun h => bool_iff HIb3.out (HIb4.out.trans (der_more (HIb1.out.1 h)))
  have HYH := Lib.hid (HYR.out.below BB12.out (Nat.le_refl _))
  clear HIb1 HIb2 HIb3 HIb4
  cases b1 with
  | false =>
    clear h12 h34
    go_wp2_with fail
    refine (CA D cd ys _ HYH.out hyc (by omega) HYZ.out).mono ?_
    rintro e w13 ⟨⟨E, ce, hs, f13, hap, hec, hel, her, rfl⟩, hb13⟩
    obtain ⟨h130, hris, hmem⟩ := ap_ok hap HYB.out (by have := HYL.out; omega)
    obtain rfl : f13 = 0 := h130
    have HRIS := Lib.hid hris
    have HMEM : Hid (∀ y, y ∈ bl hs ↔ Had (bl ys) y) := hmem
    have HRT : Hid (∀ z ∈ bl hs, right z = true) := fun z hz => had_right HYB.out ((hmem z).1 hz)
    have HSZ : Hid (∀ y ∈ hs, y.size ≤ 4000) := fun y hy => (right_sz (HRT.out _ (List.mem_map.2 ⟨y, hy, rfl⟩))).2
    have HB13 := Lib.hid (Bel.call (Bel.call HB2.out BB12.out) hb13)
    have HYR13 := Lib.hid (HYH.out.below hb13 (Nat.le_refl _))
    have HER := Lib.hid her
    clear hb13 hap hris hmem her HYH BB12 HYR HB2
    dsimp only
    go_wp2_with fail
    refine (CA E ce hs _ HER.out hec hel (fun y hy => Nat.le_trans (HSZ.out y hy) (by decide))).mono ?_
    rintro e w14 ⟨⟨G, cg, gs, f14, hap, hgc, hgl, hgr, rfl⟩, hb14⟩
    have hk : (f14 = 10 ∧ 200 < hs.length) ∨ (f14 = 0 ∧ hs.length ≤ 200 ∧ bl hs = bl gs) := by
      rcases hap with ⟨h, _⟩ | ⟨_, h, h2⟩ | ⟨_, h, h2, h3, h4⟩
      · exact (wrong_not h HRT.out).elim
      · rw [bl_len] at h
        injection h2 with _ h5
        exact .inl ⟨h5, h⟩
      · rw [bl_len] at h
        exact .inr ⟨h2, h, rising_eq HRIS.out h3 fun z => (h4 z).trans ((had_idem HMEM.out).trans (HMEM.out z).symm) |>.symm⟩
    have HB14 := Lib.hid (Bel.call HB13.out hb14)
    have HGR := Lib.hid hgr
    have HER14 := Lib.hid (HER.out.below hb14 (Nat.le_refl _))
    have HYR14 := Lib.hid (HYR13.out.below hb14 (Nat.le_refl _))
    clear hb14 hap hgr HB13 HER HYR13
    dsimp only
    rcases hk with ⟨rfl, hbig⟩ | ⟨rfl, hsmall, hsame⟩
    · have hbig2 : ¬ (hs.length : Int) ≤ 200 := by omega
      go_wp2_with fail
      have HERL := HER14
      have HYRL := HYR14
      have HBL := HB14
      have BBL := Lib.hid (Below.refl w14.heap.size w14)
      go_loopw [25] (fun i wr => ∃ k : Nat, k ≤ hs.length ∧ i = .int .i64 k ∧ Hid (Below w14.heap.size w14 wr)) (fun i _ => hs.length - (intOf i).toNat)
      case atStart => exact ⟨0, Nat.zero_le _, rfl, BBL⟩
      case round =>
        obtain ⟨k, hk, rfl, HW⟩ := hrel
        by_cases hlt : k < hs.length
        · obtain ⟨bb, off, rfl, hblt, hcell⟩ := HERL.out k hlt
          obtain ⟨z, hzz⟩ : ∃ z, hs.getD k ByteArray.empty = z := ⟨_, rfl⟩
          rw [hzz] at hcell
          have hzm : z ∈ hs := getD_mem hlt hzz
          have hzs := HSZ.out z hzm
          have HZR := Lib.hid (HRT.out _ (List.mem_map.2 ⟨z, hzm, rfl⟩))
          have HZD : Hid (Der (bl ys) z.data.toList) := tog_of ((HMEM.out _).1 (List.mem_map.2 ⟨z, hzm, rfl⟩))
          have hcr := hcell
          rw [← HW.out.cell (p := ⟨bb, off + k, none⟩) hblt] at hcr
          go_wp2_with fail
          refine (der_reads CD (w0 := w14) D cd ys z HYRL.out hyc HW.out (by omega) HYZ.out (by omega)).mono ?_
          rintro e w20 ⟨⟨b20, f20, h20', rfl⟩, hb20⟩
          obtain ⟨rfl, hi20⟩ := dv_ok h20' HYB.out (by have := HYL.out; omega) HZR.out
          obtain rfl : b20 = true := hi20.2 HZD.out
          have HB20 := Lib.hid hb20
          have hc20 := hcell
          rw [← hb20.cell (p := ⟨bb, off + k, none⟩) hblt] at hc20
          clear h20' hi20 hcr hb20
          dsimp only
          by_cases hk0 : k = 0
          · subst hk0
            clear hcell hzm hzz
            go_wp2
            go_quiet (fail)
            go_wp2
            go_roundw
            case rel => exact ⟨1, by omega, by go_num, Lib.hid (HB20.out.trans (bdrew _ _))⟩
            case measure => simp [intOf]; omega
          · obtain ⟨bb2, off2, he2, hblt2, hcell2⟩ := HERL.out (k - 1) (by omega)
            injection he2 with he2
            injection he2 with he2 he3
            subst he2 he3
            obtain ⟨q, hqq⟩ : ∃ q, hs.getD (k - 1) ByteArray.empty = q := ⟨_, rfl⟩
            rw [hqq] at hcell2
            have hcq := hcell2
            rw [← HB20.out.cell (p := ⟨bb, off + (k - 1), none⟩) hblt] at hcq
            have hlq := rising_at HRIS.out (by omega) hlt hqq hzz
            have hle1 := less_no hlq
            have hle2 := less_ne hlq
            have hi1 : (1 : Int) ≤ (k : Int) := by omega
            have hi2 : IntKind.i64.wrap ((k : Int) - 1) = (k : Int) - 1 := by rw [IntKind.wrap_i64]; omega
            have hi3 : ((k : Int) - 1).toNat = k - 1 := by omega
            have hi4 : (0 : Int) ≤ (k : Int) - 1 := by omega
            have hi5 : (k : Int) - 1 < (hs.length : Int) := by omega
            have hi6 : (0 : Int) < (k : Int) := by omega
            have hi8 : 0 < k := by omega
            have hi7 : (k : Int) < (hs.length : Int) := by omega
            clear hcell hcell2 hzm hzz hqq hlq hk0
            go_wp2
            go_quiet (fail)
            go_wp2
            go_roundw
            case rel => exact ⟨k + 1, by omega, by go_num, Lib.hid (HB20.out.trans (bdrew _ _))⟩
            case measure => simp [intOf]; omega
        · obtain rfl : k = hs.length := by omega
          go_wp2
          go_ret
          exact ⟨rfl, Bel.call HBL.out HW.out⟩
    · go_wp2_with fail
      refine (same_any E G ce cg hs gs _ HER14.out HGR.out hel).mono ?_
      rintro e w15 ⟨rfl, hb15⟩
      rw [show decide (bl hs = bl gs) = true from decide_eq_true hsame]
      have HBL := Lib.hid (Bel.call HB14.out hb15)
      have HERL := Lib.hid (HER14.out.below hb15 (Nat.le_refl _))
      have HYRL := Lib.hid (HYR14.out.below hb15 (Nat.le_refl _))
      clear hb15 HB14 HER14 HYR14 hsame
      go_wp2_with fail
      have BBL := Lib.hid (Below.refl w15.heap.size w15)
      go_loopw [25] (fun i wr => ∃ k : Nat, k ≤ hs.length ∧ i = .int .i64 k ∧ Hid (Below w15.heap.size w15 wr)) (fun i _ => hs.length - (intOf i).toNat)
      case atStart => exact ⟨0, Nat.zero_le _, rfl, BBL⟩
      case round =>
        obtain ⟨k, hk, rfl, HW⟩ := hrel
        by_cases hlt : k < hs.length
        · obtain ⟨bb, off, rfl, hblt, hcell⟩ := HERL.out k hlt
          obtain ⟨z, hzz⟩ : ∃ z, hs.getD k ByteArray.empty = z := ⟨_, rfl⟩
          rw [hzz] at hcell
          have hzm : z ∈ hs := getD_mem hlt hzz
          have hzs := HSZ.out z hzm
          have HZR := Lib.hid (HRT.out _ (List.mem_map.2 ⟨z, hzm, rfl⟩))
          have HZD : Hid (Der (bl ys) z.data.toList) := tog_of ((HMEM.out _).1 (List.mem_map.2 ⟨z, hzm, rfl⟩))
          have hcr := hcell
          rw [← HW.out.cell (p := ⟨bb, off + k, none⟩) hblt] at hcr
          go_wp2_with fail
          refine (der_reads CD (w0 := w15) D cd ys z HYRL.out hyc HW.out (by omega) HYZ.out (by omega)).mono ?_
          rintro e w20 ⟨⟨b20, f20, h20', rfl⟩, hb20⟩
          obtain ⟨rfl, hi20⟩ := dv_ok h20' HYB.out (by have := HYL.out; omega) HZR.out
          obtain rfl : b20 = true := hi20.2 HZD.out
          have HB20 := Lib.hid hb20
          have hc20 := hcell
          rw [← hb20.cell (p := ⟨bb, off + k, none⟩) hblt] at hc20
          clear h20' hi20 hcr hb20
          dsimp only
          by_cases hk0 : k = 0
          · subst hk0
            clear hcell hzm hzz
            go_wp2
            go_quiet (fail)
            go_wp2
            go_roundw
            case rel => exact ⟨1, by omega, by go_num, Lib.hid (HB20.out.trans (bdrew _ _))⟩
            case measure => simp [intOf]; omega
          · obtain ⟨bb2, off2, he2, hblt2, hcell2⟩ := HERL.out (k - 1) (by omega)
            injection he2 with he2
            injection he2 with he2 he3
            subst he2 he3
            obtain ⟨q, hqq⟩ : ∃ q, hs.getD (k - 1) ByteArray.empty = q := ⟨_, rfl⟩
            rw [hqq] at hcell2
            have hcq := hcell2
            rw [← HB20.out.cell (p := ⟨bb, off + (k - 1), none⟩) hblt] at hcq
            have hlq := rising_at HRIS.out (by omega) hlt hqq hzz
            have hle1 := less_no hlq
            have hle2 := less_ne hlq
            have hi1 : (1 : Int) ≤ (k : Int) := by omega
            have hi2 : IntKind.i64.wrap ((k : Int) - 1) = (k : Int) - 1 := by rw [IntKind.wrap_i64]; omega
            have hi3 : ((k : Int) - 1).toNat = k - 1 := by omega
            have hi4 : (0 : Int) ≤ (k : Int) - 1 := by omega
            have hi5 : (k : Int) - 1 < (hs.length : Int) := by omega
            have hi6 : (0 : Int) < (k : Int) := by omega
            have hi8 : 0 < k := by omega
            have hi7 : (k : Int) < (hs.length : Int) := by omega
            clear hcell hcell2 hzm hzz hqq hlq hk0
            go_wp2
            go_quiet (fail)
            go_wp2
            go_roundw
            case rel => exact ⟨k + 1, by omega, by go_num, Lib.hid (HB20.out.trans (bdrew _ _))⟩
            case measure => simp [intOf]; omega
        · obtain rfl : k = hs.length := by omega
          go_wp2
          go_ret
          exact ⟨rfl, Bel.call HBL.out HW.out⟩
  | true =>
    obtain rfl := h12 rfl
    obtain rfl := h34 rfl
    clear h12 h34
    cases b3 with
    | false =>
      go_wp2_with fail
      refine (CA D cd ys _ HYH.out hyc (by omega) HYZ.out).mono ?_
      rintro e w13 ⟨⟨E, ce, hs, f13, hap, hec, hel, her, rfl⟩, hb13⟩
      obtain ⟨h130, hris, hmem⟩ := ap_ok hap HYB.out (by have := HYL.out; omega)
      obtain rfl : f13 = 0 := h130
      have HRIS := Lib.hid hris
      have HMEM : Hid (∀ y, y ∈ bl hs ↔ Had (bl ys) y) := hmem
      have HRT : Hid (∀ z ∈ bl hs, right z = true) := fun z hz => had_right HYB.out ((hmem z).1 hz)
      have HSZ : Hid (∀ y ∈ hs, y.size ≤ 4000) := fun y hy => (right_sz (HRT.out _ (List.mem_map.2 ⟨y, hy, rfl⟩))).2
      have HB13 := Lib.hid (Bel.call (Bel.call HB2.out BB12.out) hb13)
      have HYR13 := Lib.hid (HYH.out.below hb13 (Nat.le_refl _))
      have HER := Lib.hid her
      clear hb13 hap hris hmem her HYH BB12 HYR HB2
      dsimp only
      go_wp2_with fail
      refine (CA E ce hs _ HER.out hec hel (fun y hy => Nat.le_trans (HSZ.out y hy) (by decide))).mono ?_
      rintro e w14 ⟨⟨G, cg, gs, f14, hap, hgc, hgl, hgr, rfl⟩, hb14⟩
      have hk : (f14 = 10 ∧ 200 < hs.length) ∨ (f14 = 0 ∧ hs.length ≤ 200 ∧ bl hs = bl gs) := by
        rcases hap with ⟨h, _⟩ | ⟨_, h, h2⟩ | ⟨_, h, h2, h3, h4⟩
        · exact (wrong_not h HRT.out).elim
        · rw [bl_len] at h
          injection h2 with _ h5
          exact .inl ⟨h5, h⟩
        · rw [bl_len] at h
          exact .inr ⟨h2, h, rising_eq HRIS.out h3 fun z => (h4 z).trans ((had_idem HMEM.out).trans (HMEM.out z).symm) |>.symm⟩
      have HB14 := Lib.hid (Bel.call HB13.out hb14)
      have HGR := Lib.hid hgr
      have HER14 := Lib.hid (HER.out.below hb14 (Nat.le_refl _))
      have HYR14 := Lib.hid (HYR13.out.below hb14 (Nat.le_refl _))
      clear hb14 hap hgr HB13 HER HYR13
      dsimp only
      rcases hk with ⟨rfl, hbig⟩ | ⟨rfl, hsmall, hsame⟩
      · have hbig2 : ¬ (hs.length : Int) ≤ 200 := by omega
        go_wp2_with fail
        have HERL := HER14
        have HYRL := HYR14
        have HBL := HB14
        have BBL := Lib.hid (Below.refl w14.heap.size w14)
        go_loopw [25] (fun i wr => ∃ k : Nat, k ≤ hs.length ∧ i = .int .i64 k ∧ Hid (Below w14.heap.size w14 wr)) (fun i _ => hs.length - (intOf i).toNat)
        case atStart => exact ⟨0, Nat.zero_le _, rfl, BBL⟩
        case round =>
          obtain ⟨k, hk, rfl, HW⟩ := hrel
          by_cases hlt : k < hs.length
          · obtain ⟨bb, off, rfl, hblt, hcell⟩ := HERL.out k hlt
            obtain ⟨z, hzz⟩ : ∃ z, hs.getD k ByteArray.empty = z := ⟨_, rfl⟩
            rw [hzz] at hcell
            have hzm : z ∈ hs := getD_mem hlt hzz
            have hzs := HSZ.out z hzm
            have HZR := Lib.hid (HRT.out _ (List.mem_map.2 ⟨z, hzm, rfl⟩))
            have HZD : Hid (Der (bl ys) z.data.toList) := tog_of ((HMEM.out _).1 (List.mem_map.2 ⟨z, hzm, rfl⟩))
            have hcr := hcell
            rw [← HW.out.cell (p := ⟨bb, off + k, none⟩) hblt] at hcr
            go_wp2_with fail
            refine (der_reads CD (w0 := w14) D cd ys z HYRL.out hyc HW.out (by omega) HYZ.out (by omega)).mono ?_
            rintro e w20 ⟨⟨b20, f20, h20', rfl⟩, hb20⟩
            obtain ⟨rfl, hi20⟩ := dv_ok h20' HYB.out (by have := HYL.out; omega) HZR.out
            obtain rfl : b20 = true := hi20.2 HZD.out
            have HB20 := Lib.hid hb20
            have hc20 := hcell
            rw [← hb20.cell (p := ⟨bb, off + k, none⟩) hblt] at hc20
            clear h20' hi20 hcr hb20
            dsimp only
            by_cases hk0 : k = 0
            · subst hk0
              clear hcell hzm hzz
              go_wp2
              go_quiet (fail)
              go_wp2
              go_roundw
              case rel => exact ⟨1, by omega, by go_num, Lib.hid (HB20.out.trans (bdrew _ _))⟩
              case measure => simp [intOf]; omega
            · obtain ⟨bb2, off2, he2, hblt2, hcell2⟩ := HERL.out (k - 1) (by omega)
              injection he2 with he2
              injection he2 with he2 he3
              subst he2 he3
              obtain ⟨q, hqq⟩ : ∃ q, hs.getD (k - 1) ByteArray.empty = q := ⟨_, rfl⟩
              rw [hqq] at hcell2
              have hcq := hcell2
              rw [← HB20.out.cell (p := ⟨bb, off + (k - 1), none⟩) hblt] at hcq
              have hlq := rising_at HRIS.out (by omega) hlt hqq hzz
              have hle1 := less_no hlq
              have hle2 := less_ne hlq
              have hi1 : (1 : Int) ≤ (k : Int) := by omega
              have hi2 : IntKind.i64.wrap ((k : Int) - 1) = (k : Int) - 1 := by rw [IntKind.wrap_i64]; omega
              have hi3 : ((k : Int) - 1).toNat = k - 1 := by omega
              have hi4 : (0 : Int) ≤ (k : Int) - 1 := by omega
              have hi5 : (k : Int) - 1 < (hs.length : Int) := by omega
              have hi6 : (0 : Int) < (k : Int) := by omega
              have hi8 : 0 < k := by omega
              have hi7 : (k : Int) < (hs.length : Int) := by omega
              clear hcell hcell2 hzm hzz hqq hlq hk0
              go_wp2
              go_quiet (fail)
              go_wp2
              go_roundw
              case rel => exact ⟨k + 1, by omega, by go_num, Lib.hid (HB20.out.trans (bdrew _ _))⟩
              case measure => simp [intOf]; omega
          · obtain rfl : k = hs.length := by omega
            go_wp2
            go_ret
            exact ⟨rfl, Bel.call HBL.out HW.out⟩
      · go_wp2_with fail
        refine (same_any E G ce cg hs gs _ HER14.out HGR.out hel).mono ?_
        rintro e w15 ⟨rfl, hb15⟩
        rw [show decide (bl hs = bl gs) = true from decide_eq_true hsame]
        have HBL := Lib.hid (Bel.call HB14.out hb15)
        have HERL := Lib.hid (HER14.out.below hb15 (Nat.le_refl _))
        have HYRL := Lib.hid (HYR14.out.below hb15 (Nat.le_refl _))
        clear hb15 HB14 HER14 HYR14 hsame
        go_wp2_with fail
        have BBL := Lib.hid (Below.refl w15.heap.size w15)
        go_loopw [25] (fun i wr => ∃ k : Nat, k ≤ hs.length ∧ i = .int .i64 k ∧ Hid (Below w15.heap.size w15 wr)) (fun i _ => hs.length - (intOf i).toNat)
        case atStart => exact ⟨0, Nat.zero_le _, rfl, BBL⟩
        case round =>
          obtain ⟨k, hk, rfl, HW⟩ := hrel
          by_cases hlt : k < hs.length
          · obtain ⟨bb, off, rfl, hblt, hcell⟩ := HERL.out k hlt
            obtain ⟨z, hzz⟩ : ∃ z, hs.getD k ByteArray.empty = z := ⟨_, rfl⟩
            rw [hzz] at hcell
            have hzm : z ∈ hs := getD_mem hlt hzz
            have hzs := HSZ.out z hzm
            have HZR := Lib.hid (HRT.out _ (List.mem_map.2 ⟨z, hzm, rfl⟩))
            have HZD : Hid (Der (bl ys) z.data.toList) := tog_of ((HMEM.out _).1 (List.mem_map.2 ⟨z, hzm, rfl⟩))
            have hcr := hcell
            rw [← HW.out.cell (p := ⟨bb, off + k, none⟩) hblt] at hcr
            go_wp2_with fail
            refine (der_reads CD (w0 := w15) D cd ys z HYRL.out hyc HW.out (by omega) HYZ.out (by omega)).mono ?_
            rintro e w20 ⟨⟨b20, f20, h20', rfl⟩, hb20⟩
            obtain ⟨rfl, hi20⟩ := dv_ok h20' HYB.out (by have := HYL.out; omega) HZR.out
            obtain rfl : b20 = true := hi20.2 HZD.out
            have HB20 := Lib.hid hb20
            have hc20 := hcell
            rw [← hb20.cell (p := ⟨bb, off + k, none⟩) hblt] at hc20
            clear h20' hi20 hcr hb20
            dsimp only
            by_cases hk0 : k = 0
            · subst hk0
              clear hcell hzm hzz
              go_wp2
              go_quiet (fail)
              go_wp2
              go_roundw
              case rel => exact ⟨1, by omega, by go_num, Lib.hid (HB20.out.trans (bdrew _ _))⟩
              case measure => simp [intOf]; omega
            · obtain ⟨bb2, off2, he2, hblt2, hcell2⟩ := HERL.out (k - 1) (by omega)
              injection he2 with he2
              injection he2 with he2 he3
              subst he2 he3
              obtain ⟨q, hqq⟩ : ∃ q, hs.getD (k - 1) ByteArray.empty = q := ⟨_, rfl⟩
              rw [hqq] at hcell2
              have hcq := hcell2
              rw [← HB20.out.cell (p := ⟨bb, off + (k - 1), none⟩) hblt] at hcq
              have hlq := rising_at HRIS.out (by omega) hlt hqq hzz
              have hle1 := less_no hlq
              have hle2 := less_ne hlq
              have hi1 : (1 : Int) ≤ (k : Int) := by omega
              have hi2 : IntKind.i64.wrap ((k : Int) - 1) = (k : Int) - 1 := by rw [IntKind.wrap_i64]; omega
              have hi3 : ((k : Int) - 1).toNat = k - 1 := by omega
              have hi4 : (0 : Int) ≤ (k : Int) - 1 := by omega
              have hi5 : (k : Int) - 1 < (hs.length : Int) := by omega
              have hi6 : (0 : Int) < (k : Int) := by omega
              have hi8 : 0 < k := by omega
              have hi7 : (k : Int) < (hs.length : Int) := by omega
              clear hcell hcell2 hzm hzz hqq hlq hk0
              go_wp2
              go_quiet (fail)
              go_wp2
              go_roundw
              case rel => exact ⟨k + 1, by omega, by go_num, Lib.hid (HB20.out.trans (bdrew _ _))⟩
              case measure => simp [intOf]; omega
          · obtain rfl : k = hs.length := by omega
            go_wp2
            go_ret
            exact ⟨rfl, Bel.call HBL.out HW.out⟩
    | true =>
      go_wp2_with fail
      refine (CA D cd ys _ HYH.out hyc (by omega) HYZ.out).mono ?_
      rintro e w13 ⟨⟨E, ce, hs, f13, hap, hec, hel, her, rfl⟩, hb13⟩
      obtain ⟨h130, hris, hmem⟩ := ap_ok hap HYB.out (by have := HYL.out; omega)
      obtain rfl : f13 = 0 := h130
      have HRIS := Lib.hid hris
      have HMEM : Hid (∀ y, y ∈ bl hs ↔ Had (bl ys) y) := hmem
      have HRT : Hid (∀ z ∈ bl hs, right z = true) := fun z hz => had_right HYB.out ((hmem z).1 hz)
      have HSZ : Hid (∀ y ∈ hs, y.size ≤ 4000) := fun y hy => (right_sz (HRT.out _ (List.mem_map.2 ⟨y, hy, rfl⟩))).2
      have HB13 := Lib.hid (Bel.call (Bel.call HB2.out BB12.out) hb13)
      have HYR13 := Lib.hid (HYH.out.below hb13 (Nat.le_refl _))
      have HER := Lib.hid her
      clear hb13 hap hris hmem her HYH BB12 HYR HB2
      dsimp only
      go_wp2_with fail
      refine (CA E ce hs _ HER.out hec hel (fun y hy => Nat.le_trans (HSZ.out y hy) (by decide))).mono ?_
      rintro e w14 ⟨⟨G, cg, gs, f14, hap, hgc, hgl, hgr, rfl⟩, hb14⟩
      have hk : (f14 = 10 ∧ 200 < hs.length) ∨ (f14 = 0 ∧ hs.length ≤ 200 ∧ bl hs = bl gs) := by
        rcases hap with ⟨h, _⟩ | ⟨_, h, h2⟩ | ⟨_, h, h2, h3, h4⟩
        · exact (wrong_not h HRT.out).elim
        · rw [bl_len] at h
          injection h2 with _ h5
          exact .inl ⟨h5, h⟩
        · rw [bl_len] at h
          exact .inr ⟨h2, h, rising_eq HRIS.out h3 fun z => (h4 z).trans ((had_idem HMEM.out).trans (HMEM.out z).symm) |>.symm⟩
      have HB14 := Lib.hid (Bel.call HB13.out hb14)
      have HGR := Lib.hid hgr
      have HER14 := Lib.hid (HER.out.below hb14 (Nat.le_refl _))
      have HYR14 := Lib.hid (HYR13.out.below hb14 (Nat.le_refl _))
      clear hb14 hap hgr HB13 HER HYR13
      dsimp only
      rcases hk with ⟨rfl, hbig⟩ | ⟨rfl, hsmall, hsame⟩
      · have hbig2 : ¬ (hs.length : Int) ≤ 200 := by omega
        go_wp2_with fail
        have HERL := HER14
        have HYRL := HYR14
        have HBL := HB14
        have BBL := Lib.hid (Below.refl w14.heap.size w14)
        go_loopw [25] (fun i wr => ∃ k : Nat, k ≤ hs.length ∧ i = .int .i64 k ∧ Hid (Below w14.heap.size w14 wr)) (fun i _ => hs.length - (intOf i).toNat)
        case atStart => exact ⟨0, Nat.zero_le _, rfl, BBL⟩
        case round =>
          obtain ⟨k, hk, rfl, HW⟩ := hrel
          by_cases hlt : k < hs.length
          · obtain ⟨bb, off, rfl, hblt, hcell⟩ := HERL.out k hlt
            obtain ⟨z, hzz⟩ : ∃ z, hs.getD k ByteArray.empty = z := ⟨_, rfl⟩
            rw [hzz] at hcell
            have hzm : z ∈ hs := getD_mem hlt hzz
            have hzs := HSZ.out z hzm
            have HZR := Lib.hid (HRT.out _ (List.mem_map.2 ⟨z, hzm, rfl⟩))
            have HZD : Hid (Der (bl ys) z.data.toList) := tog_of ((HMEM.out _).1 (List.mem_map.2 ⟨z, hzm, rfl⟩))
            have hcr := hcell
            rw [← HW.out.cell (p := ⟨bb, off + k, none⟩) hblt] at hcr
            go_wp2_with fail
            refine (der_reads CD (w0 := w14) D cd ys z HYRL.out hyc HW.out (by omega) HYZ.out (by omega)).mono ?_
            rintro e w20 ⟨⟨b20, f20, h20', rfl⟩, hb20⟩
            obtain ⟨rfl, hi20⟩ := dv_ok h20' HYB.out (by have := HYL.out; omega) HZR.out
            obtain rfl : b20 = true := hi20.2 HZD.out
            have HB20 := Lib.hid hb20
            have hc20 := hcell
            rw [← hb20.cell (p := ⟨bb, off + k, none⟩) hblt] at hc20
            clear h20' hi20 hcr hb20
            dsimp only
            by_cases hk0 : k = 0
            · subst hk0
              clear hcell hzm hzz
              go_wp2
              go_quiet (fail)
              go_wp2
              go_roundw
              case rel => exact ⟨1, by omega, by go_num, Lib.hid (HB20.out.trans (bdrew _ _))⟩
              case measure => simp [intOf]; omega
            · obtain ⟨bb2, off2, he2, hblt2, hcell2⟩ := HERL.out (k - 1) (by omega)
              injection he2 with he2
              injection he2 with he2 he3
              subst he2 he3
              obtain ⟨q, hqq⟩ : ∃ q, hs.getD (k - 1) ByteArray.empty = q := ⟨_, rfl⟩
              rw [hqq] at hcell2
              have hcq := hcell2
              rw [← HB20.out.cell (p := ⟨bb, off + (k - 1), none⟩) hblt] at hcq
              have hlq := rising_at HRIS.out (by omega) hlt hqq hzz
              have hle1 := less_no hlq
              have hle2 := less_ne hlq
              have hi1 : (1 : Int) ≤ (k : Int) := by omega
              have hi2 : IntKind.i64.wrap ((k : Int) - 1) = (k : Int) - 1 := by rw [IntKind.wrap_i64]; omega
              have hi3 : ((k : Int) - 1).toNat = k - 1 := by omega
              have hi4 : (0 : Int) ≤ (k : Int) - 1 := by omega
              have hi5 : (k : Int) - 1 < (hs.length : Int) := by omega
              have hi6 : (0 : Int) < (k : Int) := by omega
              have hi8 : 0 < k := by omega
              have hi7 : (k : Int) < (hs.length : Int) := by omega
              clear hcell hcell2 hzm hzz hqq hlq hk0
              go_wp2
              go_quiet (fail)
              go_wp2
              go_roundw
              case rel => exact ⟨k + 1, by omega, by go_num, Lib.hid (HB20.out.trans (bdrew _ _))⟩
              case measure => simp [intOf]; omega
          · obtain rfl : k = hs.length := by omega
            go_wp2
            go_ret
            exact ⟨rfl, Bel.call HBL.out HW.out⟩
      · go_wp2_with fail
        refine (same_any E G ce cg hs gs _ HER14.out HGR.out hel).mono ?_
        rintro e w15 ⟨rfl, hb15⟩
        rw [show decide (bl hs = bl gs) = true from decide_eq_true hsame]
        have HBL := Lib.hid (Bel.call HB14.out hb15)
        have HERL := Lib.hid (HER14.out.below hb15 (Nat.le_refl _))
        have HYRL := Lib.hid (HYR14.out.below hb15 (Nat.le_refl _))
        clear hb15 HB14 HER14 HYR14 hsame
        go_wp2_with fail
        have BBL := Lib.hid (Below.refl w15.heap.size w15)
        go_loopw [25] (fun i wr => ∃ k : Nat, k ≤ hs.length ∧ i = .int .i64 k ∧ Hid (Below w15.heap.size w15 wr)) (fun i _ => hs.length - (intOf i).toNat)
        case atStart => exact ⟨0, Nat.zero_le _, rfl, BBL⟩
        case round =>
          obtain ⟨k, hk, rfl, HW⟩ := hrel
          by_cases hlt : k < hs.length
          · obtain ⟨bb, off, rfl, hblt, hcell⟩ := HERL.out k hlt
            obtain ⟨z, hzz⟩ : ∃ z, hs.getD k ByteArray.empty = z := ⟨_, rfl⟩
            rw [hzz] at hcell
            have hzm : z ∈ hs := getD_mem hlt hzz
            have hzs := HSZ.out z hzm
            have HZR := Lib.hid (HRT.out _ (List.mem_map.2 ⟨z, hzm, rfl⟩))
            have HZD : Hid (Der (bl ys) z.data.toList) := tog_of ((HMEM.out _).1 (List.mem_map.2 ⟨z, hzm, rfl⟩))
            have hcr := hcell
            rw [← HW.out.cell (p := ⟨bb, off + k, none⟩) hblt] at hcr
            go_wp2_with fail
            refine (der_reads CD (w0 := w15) D cd ys z HYRL.out hyc HW.out (by omega) HYZ.out (by omega)).mono ?_
            rintro e w20 ⟨⟨b20, f20, h20', rfl⟩, hb20⟩
            obtain ⟨rfl, hi20⟩ := dv_ok h20' HYB.out (by have := HYL.out; omega) HZR.out
            obtain rfl : b20 = true := hi20.2 HZD.out
            have HB20 := Lib.hid hb20
            have hc20 := hcell
            rw [← hb20.cell (p := ⟨bb, off + k, none⟩) hblt] at hc20
            clear h20' hi20 hcr hb20
            dsimp only
            by_cases hk0 : k = 0
            · subst hk0
              clear hcell hzm hzz
              go_wp2
              go_quiet (fail)
              go_wp2
              go_roundw
              case rel => exact ⟨1, by omega, by go_num, Lib.hid (HB20.out.trans (bdrew _ _))⟩
              case measure => simp [intOf]; omega
            · obtain ⟨bb2, off2, he2, hblt2, hcell2⟩ := HERL.out (k - 1) (by omega)
              injection he2 with he2
              injection he2 with he2 he3
              subst he2 he3
              obtain ⟨q, hqq⟩ : ∃ q, hs.getD (k - 1) ByteArray.empty = q := ⟨_, rfl⟩
              rw [hqq] at hcell2
              have hcq := hcell2
              rw [← HB20.out.cell (p := ⟨bb, off + (k - 1), none⟩) hblt] at hcq
              have hlq := rising_at HRIS.out (by omega) hlt hqq hzz
              have hle1 := less_no hlq
              have hle2 := less_ne hlq
              have hi1 : (1 : Int) ≤ (k : Int) := by omega
              have hi2 : IntKind.i64.wrap ((k : Int) - 1) = (k : Int) - 1 := by rw [IntKind.wrap_i64]; omega
              have hi3 : ((k : Int) - 1).toNat = k - 1 := by omega
              have hi4 : (0 : Int) ≤ (k : Int) - 1 := by omega
              have hi5 : (k : Int) - 1 < (hs.length : Int) := by omega
              have hi6 : (0 : Int) < (k : Int) := by omega
              have hi8 : 0 < k := by omega
              have hi7 : (k : Int) < (hs.length : Int) := by omega
              clear hcell hcell2 hzm hzz hqq hlq hk0
              go_wp2
              go_quiet (fail)
              go_wp2
              go_roundw
              case rel => exact ⟨k + 1, by omega, by go_num, Lib.hid (HB20.out.trans (bdrew _ _))⟩
              case measure => simp [intOf]; omega
          · obtain rfl : k = hs.length := by omega
            go_wp2
            go_ret
            exact ⟨rfl, Bel.call HBL.out HW.out⟩
end Go.Proofs.Ytcplagomhfdoaaa.Clo
