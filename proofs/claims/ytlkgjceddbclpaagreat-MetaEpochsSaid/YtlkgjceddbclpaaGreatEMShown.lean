/-
  MShown. By an AI agent.
-/
import Derived.Test.YtlkgjceddbclpaaGreatEZ
import Derived.Test.YtlkgjceddbclpaaGreatEMReg
namespace Go.Proofs.YtlkgjceddbclpaaGreat.Mta
open Go.RowKit Wire Term Rig Draw

set_option linter.unusedSimpArgs false
set_option linter.unusedVariables false
set_option maxHeartbeats 8000000 in
set_option maxRecDepth 1000000 in
theorem shown8_any (MT : MTakeOK) (MB : MBuildOK) (MC : MCheckOK) (w : World) : Calls Tryz.prog 10 #[] w fun e w' => e = .returned (.bool true) ∧ Below w.heap.size w w' := by
 have HT0 : Hid (∀ w, Calls Tryz.prog 28 #[.string ⟨#[]⟩] w fun e w' => Me (Off []) (mzero, 2) e w' ∧ Below w.heap.size w w') := fun w => by
  have h := MT [] ⟨#[]⟩ w gs_nil (by decide)
  rw [show (ByteArray.mk #[]).data.toList = ([] : Tm) from rfl, takeM_nil] at h
  exact h
 have HN : Hid (∀ w, Calls Tryz.prog 46 #[.string ⟨#[97, 110, 110, 97]⟩, .string ⟨#[110, 111, 116, 101, 115]⟩] w fun e w' => Re (Off []) (r0, 0) e w' ∧ Below w.heap.size w w') := fun w => by
  have h := rnew_is [] annaB notesB w gs_nil (by decide) (by decide)
  rw [new0] at h
  exact h
 have HSE : Hid (∀ w, Calls Tryz.prog 14 #[.string ⟨#[97, 110, 110, 97]⟩] w fun e w' => St (secU annaT) e ∧ Below w.heap.size w w') := fun w => secretOf_any annaB w (by decide)
 have HPU : Hid (∀ w, Calls Tryz.prog 36 #[.string ⟨#[97, 110, 110, 97]⟩] w fun e w' => e = .returned (.string ⟨⟨pubU annaT⟩⟩) ∧ Below w.heap.size w w') := fun w => (publicOf_any annaB w (by decide)).mono fun e w' h => by
  obtain ⟨⟨⟨⟨l⟩⟩, hl, he⟩, hb⟩ := h
  have hl' : l = pubU annaT := hl
  subst hl'
  exact ⟨he, hb⟩
 have HRO : Hid (∀ w, Calls Tryz.prog 15 #[.int .i64 0] w fun e w' => St (Reg.rootS 0) e ∧ Below w.heap.size w w') := fun w => rootOf_any 0 w (by decide)
 have HSG : Hid (∀ w, Calls Tryz.prog 13 #[.int .i64 1] w fun e w' => Lst w.heap.size (sgs (r0.ep.toNat + 1)) e w' ∧ Below w.heap.size w w') := fun w => signersOf_any 1 w (by decide)
 go_enter Tryz.func10, Tryz.ntmps10
 have HB := zh (Below.refl w.heap.size w)
 go_wp2_with fail
 (with_reducible refine (HT0.out _).mono ?_); rintro e1 w1 ⟨⟨v1, hm1, rfl⟩, hb1⟩; replace HB := zh (Bel.call HB.out hb1); clear hb1; obtain ⟨ot, ft, gt, pt, At, ct, rst, Bt, dt, wst, ut, Vt, xt, vst, Kt, yt, kst, rfl, hit, _, _, _, _, _⟩ := isM_lit hm1; have HEt := zh hit; have HIt := zh hm1; clear hm1 hit; dsimp only
 go_wp2_with fail
 have hal := al w1 (.cells #[.string ot, .string ft, .int .i64 pt, .slice At rst.length ct, .slice Bt wst.length dt, .int .u64 (ut : Int), .slice Vt vst.length xt, .slice Kt kst.length yt, .string gt] 39)
 have hXX := mx_alloc w1 ot ft pt At rst.length ct Bt wst.length dt ut Vt vst.length xt Kt kst.length yt gt 39
 obtain ⟨Gt, hG⟩ : ∃ g, w1.heap.size = g := ⟨_, rfl⟩
 generalize w1.alloc (.cells #[.string ot, .string ft, .int .i64 pt, .slice At rst.length ct, .slice Bt wst.length dt, .int .u64 (ut : Int), .slice Vt vst.length xt, .slice Kt kst.length yt, .string gt] 39) = v2 at hal hXX ⊢
 replace HB := zh (Bel.call HB.out hal); replace HIt := zh (HIt.out.below hal zl); rw [hG] at hXX ⊢; have HXt := zh hXX; clear hal hXX hG; obtain ⟨⟨t_0, t_1, t_2, t_3, t_4, t_5, t_6, t_7, t_8⟩, _⟩ := HXt.out; (with_reducible refine (HN.out _).mono ?_); rintro e3 w3 ⟨⟨v3, hx3, rfl⟩, hb3⟩; clear t_0 t_1 t_2 t_3 t_4 t_5 t_6 t_7 t_8; replace HB := zh (Bel.call HB.out hb3); replace HIt := zh (HIt.out.below hb3 zl); replace HXt := zh (HXt.out.call hb3); clear hb3; obtain ⟨or, fr, pr, Ar, nr, cr, Br, mr, dr, rfl, hq1, hq2, hq3, hq4, hq5, hx3⟩ := isX_lit hx3; clear hq1 hq2 hq3 hq4 hq5; dsimp only at hx3; have HIr := zh hx3; clear hx3; obtain ⟨⟨t_0, t_1, t_2, t_3, t_4, t_5, t_6, t_7, t_8⟩, _⟩ := HXt.out; dsimp only
 go_wp2_with fail
 clear t_0 t_1 t_2 t_3 t_4 t_5 t_6 t_7 t_8
 have hal := al w3 (.cells #[.string or, .string fr, .int .i64 pr, .slice Ar nr cr, .slice Br mr dr] 27)
 have hXX := bx_alloc w3 or fr pr Ar nr cr Br mr dr 27
 obtain ⟨Gr, hG⟩ : ∃ g, w3.heap.size = g := ⟨_, rfl⟩
 generalize w3.alloc (.cells #[.string or, .string fr, .int .i64 pr, .slice Ar nr cr, .slice Br mr dr] 27) = v4 at hal hXX ⊢
 replace HB := zh (Bel.call HB.out hal); replace HIt := zh (HIt.out.below hal zl); replace HXt := zh (HXt.out.call hal); replace HIr := zh (HIr.out.below hal zl); rw [hG] at hXX ⊢; have HXr := zh hXX; clear hal hXX hG; obtain ⟨⟨t_0, t_1, t_2, t_3, t_4, t_5, t_6, t_7, t_8⟩, _⟩ := HXt.out; obtain ⟨r_0, r_1, r_2, r_3, r_4, _⟩ := HXr.out
 refine region_join (R := fun a ex a' w' => ex = .normal ∧ ∃ (G : Nat) (t16 t17 t18 t19 t20 t15 t21 t22 : Value) (om fm gm : ByteArray) (pm : Int) (Am : Option Addr) (cm : Nat) (rsm : List ByteArray) (Bm : Option Addr) (dm : Nat) (wsm : List ByteArray) (um : Nat) (Vm : Option Addr) (xm : Nat) (vsm : List ByteArray) (Km : Option Addr) (ym : Nat) (ksm : List (ByteArray × ByteArray)), a' = ((((((((((a.put (some 16) t16).put (some 17) t17).put (some 18) t18).put (some 19) t19).put (some 20) t20).put (some 15) t15).put (some 21) t21).put (some 22) t22).put (some 5) (.pointer (some ⟨G, 0, none⟩))).put (some 6) (.int .i64 0)) ∧ Mx G w' om fm pm Am rsm.length cm Bm wsm.length dm um Vm vsm.length xm Km ksm.length ym gm ∧ IsM AnyB w' (.agg #[.string om, .string fm, .int .i64 pm, .slice Am rsm.length cm, .slice Bm wsm.length dm, .int .u64 (um : Int), .slice Vm vsm.length xm, .slice Km ksm.length ym, .string gm]) (mOf r0 0 1) ∧ SepM w' (.agg #[.string om, .string fm, .int .i64 pm, .slice Am rsm.length cm, .slice Bm wsm.length dm, .int .u64 (um : Int), .slice Vm vsm.length xm, .slice Km ksm.length ym, .string gm]) ∧ Below v4.heap.size v4 w') ?_ ?_
 ·
  have ZHB := HB
  have ZHIt := HIt
  have ZHXt := HXt
  have ZHIr := HIr
  have ZHXr := HXr
  refine wp_region_held_drew (S := fun w' => (Bx Gr w' or fr pr Ar nr cr Br mr dr)) (by kernel_rfl) (HXr.out.below (Below.drewN' (Below.refl v4.heap.size v4) 1) HXr.out.2.2.2.2.2) (fun hHeld => ?_)
  clear t_0 t_1 t_2 t_3 t_4 t_5 t_6 t_7 t_8 r_0 r_1 r_2 r_3 r_4
  have hdr : Below v4.heap.size v4 v4.drew := Below.drewN' (Below.refl _ _) 1
  obtain ⟨d5, hwd⟩ : ∃ z, v4.drew = z := ⟨_, rfl⟩; rw [hwd] at hdr hHeld ⊢; replace HB := zh (Bel.call HB.out hdr); replace HIt := zh (HIt.out.below hdr zl); replace HXt := zh (HXt.out.call hdr); replace HIr := zh (HIr.out.below hdr zl); replace HXr := zh (HXr.out.below hdr HXr.out.2.2.2.2.2); have HA := zh hdr; clear hwd hdr hHeld; obtain ⟨⟨t_0, t_1, t_2, t_3, t_4, t_5, t_6, t_7, t_8⟩, _⟩ := HXt.out; obtain ⟨r_0, r_1, r_2, r_3, r_4, _⟩ := HXr.out
  have hHeld : (Bx Gr d5 or fr pr Ar nr cr Br mr dr) := HXr.out
  refine zqU 1 ?_ ?_ ?_; rotate_left
  · intro w' hSw; obtain ⟨r_0, r_1, r_2, r_3, r_4, _⟩ := hSw; go_simp; try with_reducible rfl
  (try simp only [Act.put, zq1, zq2, zq3]); clear hHeld; refine zqR [0, 8] ?_; refine zqC (fun K hK => ?_) ?_
  ·
   go_simp; (with_reducible refine (HSE.out _).mono ?_); rintro e6 w6 ⟨⟨S, hTS, rfl⟩, hb6⟩; clear t_0 t_1 t_2 t_3 t_4 t_5 t_6 t_7 t_8 r_0 r_1 r_2 r_3 r_4; replace HB := zh (Bel.call HB.out hb6); replace HIt := zh (HIt.out.below hb6 zl); replace HXt := zh (HXt.out.call hb6); replace HIr := zh (HIr.out.below hb6 zl); replace HXr := zh (HXr.out.below hb6 HXr.out.2.2.2.2.2); replace HA := zh (Bel.call HA.out hb6); clear hb6
   try dsimp only at hTS
   have HTS := zh hTS; clear hTS; obtain ⟨⟨t_0, t_1, t_2, t_3, t_4, t_5, t_6, t_7, t_8⟩, _⟩ := HXt.out; obtain ⟨r_0, r_1, r_2, r_3, r_4, _⟩ := HXr.out; dsimp only; refine hK.out _ _ (HXr.out) (fun _ => ?_); (try simp only [Act.put, zq1, zq2, zq3]); refine zqR [2, 8] ?_; refine zqC (fun K hK => ?_) ?_
   ·
    go_simp; (with_reducible refine (HRO.out _).mono ?_); rintro e7 w7 ⟨⟨R, hTR, rfl⟩, hb7⟩; clear t_0 t_1 t_2 t_3 t_4 t_5 t_6 t_7 t_8 r_0 r_1 r_2 r_3 r_4; replace HB := zh (Bel.call HB.out hb7); replace HIt := zh (HIt.out.below hb7 zl); replace HXt := zh (HXt.out.call hb7); replace HIr := zh (HIr.out.below hb7 zl); replace HXr := zh (HXr.out.below hb7 HXr.out.2.2.2.2.2); replace HA := zh (Bel.call HA.out hb7); clear hb7
    try dsimp only at hTR
    have HTR := zh hTR; clear hTR; obtain ⟨⟨t_0, t_1, t_2, t_3, t_4, t_5, t_6, t_7, t_8⟩, _⟩ := HXt.out; obtain ⟨r_0, r_1, r_2, r_3, r_4, _⟩ := HXr.out; dsimp only; refine hK.out _ _ (HXr.out) (fun _ => ?_); (try simp only [Act.put, zq1, zq2, zq3]); refine zqR [3, 8] ?_; refine zqC (fun K hK => ?_) ?_
    ·
     go_simp; (with_reducible refine (HSG.out _).mono ?_); rintro e8 w8 ⟨⟨As, cs, ls, hls, hcs, hrs, _, rfl⟩, hb8⟩; clear t_0 t_1 t_2 t_3 t_4 t_5 t_6 t_7 t_8 r_0 r_1 r_2 r_3 r_4; replace HB := zh (Bel.call HB.out hb8); replace HIt := zh (HIt.out.below hb8 zl); replace HXt := zh (HXt.out.call hb8); replace HIr := zh (HIr.out.below hb8 zl); replace HXr := zh (HXr.out.below hb8 HXr.out.2.2.2.2.2); replace HA := zh (Bel.call HA.out hb8); clear hb8; have HLs := zh hls; have HCs := zh hcs; have HSs := zh hrs; clear hls hcs hrs; obtain ⟨⟨t_0, t_1, t_2, t_3, t_4, t_5, t_6, t_7, t_8⟩, _⟩ := HXt.out; obtain ⟨r_0, r_1, r_2, r_3, r_4, _⟩ := HXr.out; dsimp only; refine hK.out _ _ (HXr.out) (fun _ => ?_); (try simp only [Act.put, zq1, zq2, zq3]); refine zqR [4, 8] ?_; refine zqC (fun K hK => ?_) ?_
     ·
      go_simp; (with_reducible refine (build_to MB ann0 (n := 0) (ver := 1) (by decide) (by decide) HTS.out HTR.out HLs.out oth_nil fit_nil (K := none) (ck := 0) (ks := []) [] _ _ gs_nil HIr.out HSs.out HCs.out (PReads.nil _ _) ⟨Nat.le_refl _, fun _ => rfl⟩ (vz := 1) rfl rfl (nk := 0) rfl).mono ?_); rintro e9 w9 ⟨⟨v9, hm9, hs9, rfl⟩, hb9⟩; clear t_0 t_1 t_2 t_3 t_4 t_5 t_6 t_7 t_8 r_0 r_1 r_2 r_3 r_4; replace HB := zh (Bel.call HB.out hb9); replace HIt := zh (HIt.out.below hb9 zl); replace HXt := zh (HXt.out.call hb9); replace HIr := zh (HIr.out.below hb9 zl); replace HXr := zh (HXr.out.below hb9 HXr.out.2.2.2.2.2); replace HA := zh (Bel.call HA.out hb9); replace HSs := zh (HSs.out.below hb9 zl); clear hb9; obtain ⟨om, fm, gm, pm, Am, cm, rsm, Bm, dm, wsm, um, Vm, xm, vsm, Km, ym, ksm, rfl, him, _, _, _, _, _⟩ := isM_lit hm9; have HEm := zh him; have HIm := zh hm9; clear hm9 him; have HPm := zh hs9; clear hs9; obtain ⟨⟨t_0, t_1, t_2, t_3, t_4, t_5, t_6, t_7, t_8⟩, _⟩ := HXt.out; obtain ⟨r_0, r_1, r_2, r_3, r_4, _⟩ := HXr.out; dsimp only; refine hK.out _ _ (HXr.out) (fun _ => ?_); try simp only [Act.put, zq1, zq2, zq3]
      have hHeld : (Bx Gr w9 or fr pr Ar nr cr Br mr dr) := HXr.out
      refine zqU 5 ?_ ?_ ?_; rotate_left
      · intro w' hSw; obtain ⟨r_0, r_1, r_2, r_3, r_4, _⟩ := hSw; go_simp; try with_reducible rfl
      (try simp only [Act.put, zq1, zq2, zq3]); clear hHeld
      have hHeld : (Bx Gr w9 or fr pr Ar nr cr Br mr dr) := HXr.out
      refine zqU 6 ?_ ?_ ?_; rotate_left
      · intro w' hSw; obtain ⟨r_0, r_1, r_2, r_3, r_4, _⟩ := hSw; go_simp; try with_reducible rfl
      (try simp only [Act.put, zq1, zq2, zq3]); clear hHeld
      have hHeld : (Bx Gr w9 or fr pr Ar nr cr Br mr dr) := HXr.out
      refine zqU 7 ?_ ?_ ?_; rotate_left
      · intro w' hSw; obtain ⟨r_0, r_1, r_2, r_3, r_4, _⟩ := hSw; go_simp; try with_reducible rfl
      (try simp only [Act.put, zq1, zq2, zq3]); clear hHeld; refine zqR [8] ?_
      refine zqN fun K hK => ?_
      go_simp; clear t_0 t_1 t_2 t_3 t_4 t_5 t_6 t_7 t_8 r_0 r_1 r_2 r_3 r_4
      have hal := al w9 (.cells #[.string ⟨#[]⟩, .string ⟨#[]⟩, .int .i64 0, .slice none 0 0, .slice none 0 0, .int .u64 0, .slice none 0 0, .slice none 0 0, .string ⟨#[]⟩] 39)
      have hXX : Mx w9.heap.size (w9.alloc (.cells #[.string ⟨#[]⟩, .string ⟨#[]⟩, .int .i64 0, .slice none 0 0, .slice none 0 0, .int .u64 0, .slice none 0 0, .slice none 0 0, .string ⟨#[]⟩] 39)) ⟨#[]⟩ ⟨#[]⟩ 0 none 0 0 none 0 0 0 none 0 0 none 0 0 ⟨#[]⟩ := mx_alloc w9 ⟨#[]⟩ ⟨#[]⟩ 0 none 0 0 none 0 0 0 none 0 0 none 0 0 ⟨#[]⟩ 39
      have hFF := sf9_alloc w9 #[.string ⟨#[]⟩, .string ⟨#[]⟩, .int .i64 0, .slice none 0 0, .slice none 0 0, .int .u64 0, .slice none 0 0, .slice none 0 0, .string ⟨#[]⟩] 39
      have hGE : v4.heap.size ≤ w9.heap.size := HA.out.size
      have hGL : w9.heap.size ≤ w9.heap.size := Nat.le_refl _
      obtain ⟨Gm, hG⟩ : ∃ g, w9.heap.size = g := ⟨_, rfl⟩
      generalize w9.alloc (.cells #[.string ⟨#[]⟩, .string ⟨#[]⟩, .int .i64 0, .slice none 0 0, .slice none 0 0, .int .u64 0, .slice none 0 0, .slice none 0 0, .string ⟨#[]⟩] 39) = v10 at hal hXX hFF ⊢
      rw [hG] at hXX hFF hGE ⊢; replace HIr := zh (offX_new HIr.out (Nat.le_of_eq hG)); replace HIm := zh (off_new HIm.out (Nat.le_of_eq hG)); replace HB := zh (Bel.call HB.out hal); replace HIt := zh (HIt.out.below hal zl); replace HXt := zh (HXt.out.call hal); replace HIr := zh (HIr.out.below hal zl); replace HXr := zh (HXr.out.below hal HXr.out.2.2.2.2.2); replace HA := zh (Bel.call HA.out hal); replace HSs := zh (HSs.out.below hal zl); replace HIm := zh (HIm.out.below hal zl); replace HPm := zh (HPm.out.below hal); have HXm := zh hXX; have HFm := zh hFF; have HGm := zh hGE; clear hal hXX hFF hGE hGL hG; obtain ⟨⟨t_0, t_1, t_2, t_3, t_4, t_5, t_6, t_7, t_8⟩, _⟩ := HXt.out; obtain ⟨r_0, r_1, r_2, r_3, r_4, _⟩ := HXr.out; obtain ⟨⟨m_0, m_1, m_2, m_3, m_4, m_5, m_6, m_7, m_8⟩, _⟩ := HXm.out; refine hK.out _ _ (HXr.out) (fun _ => ?_); (try simp only [Act.put, zq1, zq2, zq3]); refine zqR [9] ?_
      refine zqN fun K hK => ?_
      obtain ⟨z0, z1, z2, z3, z4, z5, z6, z7, z8⟩ := HFm.out; go_simp
      have hXX : Mx Gm (((((((((v10.setCell ⟨Gm, 0, none⟩ (.string om)).setCell ⟨Gm, 1, none⟩ (.string fm)).setCell ⟨Gm, 2, none⟩ (.int .i64 pm)).setCell ⟨Gm, 3, none⟩ (.slice Am rsm.length cm)).setCell ⟨Gm, 4, none⟩ (.slice Bm wsm.length dm)).setCell ⟨Gm, 5, none⟩ (.int .u64 (um : Int))).setCell ⟨Gm, 6, none⟩ (.slice Vm vsm.length xm)).setCell ⟨Gm, 7, none⟩ (.slice Km ksm.length ym)).setCell ⟨Gm, 8, none⟩ (.string gm)) om fm pm Am rsm.length cm Bm wsm.length dm um Vm vsm.length xm Km ksm.length ym gm := mx_set9 HXm.out
      have hII : IsM AnyB (((((((((v10.setCell ⟨Gm, 0, none⟩ (.string om)).setCell ⟨Gm, 1, none⟩ (.string fm)).setCell ⟨Gm, 2, none⟩ (.int .i64 pm)).setCell ⟨Gm, 3, none⟩ (.slice Am rsm.length cm)).setCell ⟨Gm, 4, none⟩ (.slice Bm wsm.length dm)).setCell ⟨Gm, 5, none⟩ (.int .u64 (um : Int))).setCell ⟨Gm, 6, none⟩ (.slice Vm vsm.length xm)).setCell ⟨Gm, 7, none⟩ (.slice Km ksm.length ym)).setCell ⟨Gm, 8, none⟩ (.string gm)) (.agg #[.string om, .string fm, .int .i64 pm, .slice Am rsm.length cm, .slice Bm wsm.length dm, .int .u64 (um : Int), .slice Vm vsm.length xm, .slice Km ksm.length ym, .string gm]) (mOf r0 0 1) := (isM_set9 (List.mem_cons_self ..) HIm.out).any
      have hSP : SepM (((((((((v10.setCell ⟨Gm, 0, none⟩ (.string om)).setCell ⟨Gm, 1, none⟩ (.string fm)).setCell ⟨Gm, 2, none⟩ (.int .i64 pm)).setCell ⟨Gm, 3, none⟩ (.slice Am rsm.length cm)).setCell ⟨Gm, 4, none⟩ (.slice Bm wsm.length dm)).setCell ⟨Gm, 5, none⟩ (.int .u64 (um : Int))).setCell ⟨Gm, 6, none⟩ (.slice Vm vsm.length xm)).setCell ⟨Gm, 7, none⟩ (.slice Km ksm.length ym)).setCell ⟨Gm, 8, none⟩ (.string gm)) (.agg #[.string om, .string fm, .int .i64 pm, .slice Am rsm.length cm, .slice Bm wsm.length dm, .int .u64 (um : Int), .slice Vm vsm.length xm, .slice Km ksm.length ym, .string gm]) := sepM_set9 HPm.out
      have hBB : Below v4.heap.size v4 (((((((((v10.setCell ⟨Gm, 0, none⟩ (.string om)).setCell ⟨Gm, 1, none⟩ (.string fm)).setCell ⟨Gm, 2, none⟩ (.int .i64 pm)).setCell ⟨Gm, 3, none⟩ (.slice Am rsm.length cm)).setCell ⟨Gm, 4, none⟩ (.slice Bm wsm.length dm)).setCell ⟨Gm, 5, none⟩ (.int .u64 (um : Int))).setCell ⟨Gm, 6, none⟩ (.slice Vm vsm.length xm)).setCell ⟨Gm, 7, none⟩ (.slice Km ksm.length ym)).setCell ⟨Gm, 8, none⟩ (.string gm)) := set9 HA.out HGm.out
      have hKr : Bx Gr (((((((((v10.setCell ⟨Gm, 0, none⟩ (.string om)).setCell ⟨Gm, 1, none⟩ (.string fm)).setCell ⟨Gm, 2, none⟩ (.int .i64 pm)).setCell ⟨Gm, 3, none⟩ (.slice Am rsm.length cm)).setCell ⟨Gm, 4, none⟩ (.slice Bm wsm.length dm)).setCell ⟨Gm, 5, none⟩ (.int .u64 (um : Int))).setCell ⟨Gm, 6, none⟩ (.slice Vm vsm.length xm)).setCell ⟨Gm, 7, none⟩ (.slice Km ksm.length ym)).setCell ⟨Gm, 8, none⟩ (.string gm)) or fr pr Ar nr cr Br mr dr := bx_other9 HXr.out (fun e => by have h1 := ZHXr.out.2.2.2.2.2; have h2 := HGm.out; omega)
      clear t_0 t_1 t_2 t_3 t_4 t_5 t_6 t_7 t_8 r_0 r_1 r_2 r_3 r_4 m_0 m_1 m_2 m_3 m_4 m_5 m_6 m_7 m_8
      generalize (((((((((v10.setCell ⟨Gm, 0, none⟩ (.string om)).setCell ⟨Gm, 1, none⟩ (.string fm)).setCell ⟨Gm, 2, none⟩ (.int .i64 pm)).setCell ⟨Gm, 3, none⟩ (.slice Am rsm.length cm)).setCell ⟨Gm, 4, none⟩ (.slice Bm wsm.length dm)).setCell ⟨Gm, 5, none⟩ (.int .u64 (um : Int))).setCell ⟨Gm, 6, none⟩ (.slice Vm vsm.length xm)).setCell ⟨Gm, 7, none⟩ (.slice Km ksm.length ym)).setCell ⟨Gm, 8, none⟩ (.string gm)) = v11 at hXX hII hSP hBB hKr ⊢
      have HSX := zh hXX; have HSI := zh hII; have HSS := zh hSP; have HSB := zh hBB; clear hXX hII hSP hBB z0 z1 z2 z3 z4 z5 z6 z7 z8; refine hK.out _ _ (hKr) (fun _ => ?_); try simp only [Act.put, zq1, zq2, zq3]
      have hHeld : (Bx Gr v11 or fr pr Ar nr cr Br mr dr) := hKr
      refine zqU 10 ?_ ?_ ?_; rotate_left
      · intro w' hSw; obtain ⟨r_0, r_1, r_2, r_3, r_4, _⟩ := hSw; go_simp; try with_reducible rfl
      (try simp only [Act.put, zq1, zq2, zq3]); clear hHeld
      refine wpAnyH_done (by kernel_rfl) ?_ _
      exact ⟨rfl, Gm, _, _, _, _, _, _, _, _, om, fm, gm, pm, Am, cm, rsm, Bm, dm, wsm, um, Vm, xm, vsm, Km, ym, ksm, rfl, HSX.out, HSI.out, HSS.out, HSB.out⟩
     refine zqN fun K hK => ?_
     go_simp; clear t_0 t_1 t_2 t_3 t_4 t_5 t_6 t_7 t_8 r_0 r_1 r_2 r_3 r_4
     have hal := al w8 (.cells #[.string ⟨#[]⟩, .string ⟨#[]⟩, .int .i64 0, .slice none 0 0, .slice none 0 0, .int .u64 0, .slice none 0 0, .slice none 0 0, .string ⟨#[]⟩] 39)
     have hXX : Mx w8.heap.size (w8.alloc (.cells #[.string ⟨#[]⟩, .string ⟨#[]⟩, .int .i64 0, .slice none 0 0, .slice none 0 0, .int .u64 0, .slice none 0 0, .slice none 0 0, .string ⟨#[]⟩] 39)) ⟨#[]⟩ ⟨#[]⟩ 0 none 0 0 none 0 0 0 none 0 0 none 0 0 ⟨#[]⟩ := mx_alloc w8 ⟨#[]⟩ ⟨#[]⟩ 0 none 0 0 none 0 0 0 none 0 0 none 0 0 ⟨#[]⟩ 39
     have hFF := sf9_alloc w8 #[.string ⟨#[]⟩, .string ⟨#[]⟩, .int .i64 0, .slice none 0 0, .slice none 0 0, .int .u64 0, .slice none 0 0, .slice none 0 0, .string ⟨#[]⟩] 39
     have hGE : v4.heap.size ≤ w8.heap.size := HA.out.size
     have hGL : w8.heap.size ≤ w8.heap.size := Nat.le_refl _
     obtain ⟨Gm, hG⟩ : ∃ g, w8.heap.size = g := ⟨_, rfl⟩
     generalize w8.alloc (.cells #[.string ⟨#[]⟩, .string ⟨#[]⟩, .int .i64 0, .slice none 0 0, .slice none 0 0, .int .u64 0, .slice none 0 0, .slice none 0 0, .string ⟨#[]⟩] 39) = v9 at hal hXX hFF ⊢
     rw [hG] at hXX hFF hGE ⊢; replace HIr := zh (offX_new HIr.out (Nat.le_of_eq hG)); replace HB := zh (Bel.call HB.out hal); replace HIt := zh (HIt.out.below hal zl); replace HXt := zh (HXt.out.call hal); replace HIr := zh (HIr.out.below hal zl); replace HXr := zh (HXr.out.below hal HXr.out.2.2.2.2.2); replace HA := zh (Bel.call HA.out hal); replace HSs := zh (HSs.out.below hal zl); have HXm := zh hXX; have HFm := zh hFF; have HGm := zh hGE; clear hal hXX hFF hGE hGL hG; obtain ⟨⟨t_0, t_1, t_2, t_3, t_4, t_5, t_6, t_7, t_8⟩, _⟩ := HXt.out; obtain ⟨r_0, r_1, r_2, r_3, r_4, _⟩ := HXr.out; obtain ⟨⟨m_0, m_1, m_2, m_3, m_4, m_5, m_6, m_7, m_8⟩, _⟩ := HXm.out; refine hK.out _ _ (HXr.out) (fun _ => ?_); (try simp only [Act.put, zq1, zq2, zq3]); refine zqR [4] ?_
     refine zqN fun K hK => ?_
     go_simp; (with_reducible refine (build_to MB ann0 (n := 0) (ver := 1) (by decide) (by decide) HTS.out HTR.out HLs.out oth_nil fit_nil (K := none) (ck := 0) (ks := []) [Gm] _ _ (gs_cons (Mx.lt HXm.out) gs_nil) HIr.out HSs.out HCs.out (PReads.nil _ _) ⟨Nat.le_refl _, fun _ => rfl⟩ (vz := 1) rfl rfl (nk := 0) rfl).mono ?_); rintro e10 w10 ⟨⟨v10, hm10, hs10, rfl⟩, hb10⟩; clear t_0 t_1 t_2 t_3 t_4 t_5 t_6 t_7 t_8 r_0 r_1 r_2 r_3 r_4 m_0 m_1 m_2 m_3 m_4 m_5 m_6 m_7 m_8; replace HB := zh (Bel.call HB.out hb10); replace HIt := zh (HIt.out.below hb10 zl); replace HXt := zh (HXt.out.call hb10); replace HIr := zh (HIr.out.below hb10 zl); replace HXr := zh (HXr.out.below hb10 HXr.out.2.2.2.2.2); replace HA := zh (Bel.call HA.out hb10); replace HSs := zh (HSs.out.below hb10 zl); replace HFm := zh (HFm.out.below hb10 HXm.out.2); replace HXm := zh (HXm.out.call hb10); clear hb10; obtain ⟨om, fm, gm, pm, Am, cm, rsm, Bm, dm, wsm, um, Vm, xm, vsm, Km, ym, ksm, rfl, him, _, _, _, _, _⟩ := isM_lit hm10; have HEm := zh him; have HIm := zh hm10; clear hm10 him; have HPm := zh hs10; clear hs10; obtain ⟨⟨t_0, t_1, t_2, t_3, t_4, t_5, t_6, t_7, t_8⟩, _⟩ := HXt.out; obtain ⟨r_0, r_1, r_2, r_3, r_4, _⟩ := HXr.out; obtain ⟨⟨m_0, m_1, m_2, m_3, m_4, m_5, m_6, m_7, m_8⟩, _⟩ := HXm.out; dsimp only; refine hK.out _ _ (HXr.out) (fun _ => ?_); try simp only [Act.put, zq1, zq2, zq3]
     have hHeld : (Bx Gr w10 or fr pr Ar nr cr Br mr dr) := HXr.out
     refine zqU 5 ?_ ?_ ?_; rotate_left
     · intro w' hSw; obtain ⟨r_0, r_1, r_2, r_3, r_4, _⟩ := hSw; go_simp; try with_reducible rfl
     (try simp only [Act.put, zq1, zq2, zq3]); clear hHeld
     have hHeld : (Bx Gr w10 or fr pr Ar nr cr Br mr dr) := HXr.out
     refine zqU 6 ?_ ?_ ?_; rotate_left
     · intro w' hSw; obtain ⟨r_0, r_1, r_2, r_3, r_4, _⟩ := hSw; go_simp; try with_reducible rfl
     (try simp only [Act.put, zq1, zq2, zq3]); clear hHeld
     have hHeld : (Bx Gr w10 or fr pr Ar nr cr Br mr dr) := HXr.out
     refine zqU 7 ?_ ?_ ?_; rotate_left
     · intro w' hSw; obtain ⟨r_0, r_1, r_2, r_3, r_4, _⟩ := hSw; go_simp; try with_reducible rfl
     (try simp only [Act.put, zq1, zq2, zq3]); clear hHeld; refine zqR [9] ?_
     refine zqN fun K hK => ?_
     obtain ⟨z0, z1, z2, z3, z4, z5, z6, z7, z8⟩ := HFm.out; go_simp
     have hXX : Mx Gm (((((((((w10.setCell ⟨Gm, 0, none⟩ (.string om)).setCell ⟨Gm, 1, none⟩ (.string fm)).setCell ⟨Gm, 2, none⟩ (.int .i64 pm)).setCell ⟨Gm, 3, none⟩ (.slice Am rsm.length cm)).setCell ⟨Gm, 4, none⟩ (.slice Bm wsm.length dm)).setCell ⟨Gm, 5, none⟩ (.int .u64 (um : Int))).setCell ⟨Gm, 6, none⟩ (.slice Vm vsm.length xm)).setCell ⟨Gm, 7, none⟩ (.slice Km ksm.length ym)).setCell ⟨Gm, 8, none⟩ (.string gm)) om fm pm Am rsm.length cm Bm wsm.length dm um Vm vsm.length xm Km ksm.length ym gm := mx_set9 HXm.out
     have hII : IsM AnyB (((((((((w10.setCell ⟨Gm, 0, none⟩ (.string om)).setCell ⟨Gm, 1, none⟩ (.string fm)).setCell ⟨Gm, 2, none⟩ (.int .i64 pm)).setCell ⟨Gm, 3, none⟩ (.slice Am rsm.length cm)).setCell ⟨Gm, 4, none⟩ (.slice Bm wsm.length dm)).setCell ⟨Gm, 5, none⟩ (.int .u64 (um : Int))).setCell ⟨Gm, 6, none⟩ (.slice Vm vsm.length xm)).setCell ⟨Gm, 7, none⟩ (.slice Km ksm.length ym)).setCell ⟨Gm, 8, none⟩ (.string gm)) (.agg #[.string om, .string fm, .int .i64 pm, .slice Am rsm.length cm, .slice Bm wsm.length dm, .int .u64 (um : Int), .slice Vm vsm.length xm, .slice Km ksm.length ym, .string gm]) (mOf r0 0 1) := (isM_set9 (List.mem_cons_self ..) HIm.out).any
     have hSP : SepM (((((((((w10.setCell ⟨Gm, 0, none⟩ (.string om)).setCell ⟨Gm, 1, none⟩ (.string fm)).setCell ⟨Gm, 2, none⟩ (.int .i64 pm)).setCell ⟨Gm, 3, none⟩ (.slice Am rsm.length cm)).setCell ⟨Gm, 4, none⟩ (.slice Bm wsm.length dm)).setCell ⟨Gm, 5, none⟩ (.int .u64 (um : Int))).setCell ⟨Gm, 6, none⟩ (.slice Vm vsm.length xm)).setCell ⟨Gm, 7, none⟩ (.slice Km ksm.length ym)).setCell ⟨Gm, 8, none⟩ (.string gm)) (.agg #[.string om, .string fm, .int .i64 pm, .slice Am rsm.length cm, .slice Bm wsm.length dm, .int .u64 (um : Int), .slice Vm vsm.length xm, .slice Km ksm.length ym, .string gm]) := sepM_set9 HPm.out
     have hBB : Below v4.heap.size v4 (((((((((w10.setCell ⟨Gm, 0, none⟩ (.string om)).setCell ⟨Gm, 1, none⟩ (.string fm)).setCell ⟨Gm, 2, none⟩ (.int .i64 pm)).setCell ⟨Gm, 3, none⟩ (.slice Am rsm.length cm)).setCell ⟨Gm, 4, none⟩ (.slice Bm wsm.length dm)).setCell ⟨Gm, 5, none⟩ (.int .u64 (um : Int))).setCell ⟨Gm, 6, none⟩ (.slice Vm vsm.length xm)).setCell ⟨Gm, 7, none⟩ (.slice Km ksm.length ym)).setCell ⟨Gm, 8, none⟩ (.string gm)) := set9 HA.out HGm.out
     have hKr : Bx Gr (((((((((w10.setCell ⟨Gm, 0, none⟩ (.string om)).setCell ⟨Gm, 1, none⟩ (.string fm)).setCell ⟨Gm, 2, none⟩ (.int .i64 pm)).setCell ⟨Gm, 3, none⟩ (.slice Am rsm.length cm)).setCell ⟨Gm, 4, none⟩ (.slice Bm wsm.length dm)).setCell ⟨Gm, 5, none⟩ (.int .u64 (um : Int))).setCell ⟨Gm, 6, none⟩ (.slice Vm vsm.length xm)).setCell ⟨Gm, 7, none⟩ (.slice Km ksm.length ym)).setCell ⟨Gm, 8, none⟩ (.string gm)) or fr pr Ar nr cr Br mr dr := bx_other9 HXr.out (fun e => by have h1 := ZHXr.out.2.2.2.2.2; have h2 := HGm.out; omega)
     clear t_0 t_1 t_2 t_3 t_4 t_5 t_6 t_7 t_8 r_0 r_1 r_2 r_3 r_4 m_0 m_1 m_2 m_3 m_4 m_5 m_6 m_7 m_8
     generalize (((((((((w10.setCell ⟨Gm, 0, none⟩ (.string om)).setCell ⟨Gm, 1, none⟩ (.string fm)).setCell ⟨Gm, 2, none⟩ (.int .i64 pm)).setCell ⟨Gm, 3, none⟩ (.slice Am rsm.length cm)).setCell ⟨Gm, 4, none⟩ (.slice Bm wsm.length dm)).setCell ⟨Gm, 5, none⟩ (.int .u64 (um : Int))).setCell ⟨Gm, 6, none⟩ (.slice Vm vsm.length xm)).setCell ⟨Gm, 7, none⟩ (.slice Km ksm.length ym)).setCell ⟨Gm, 8, none⟩ (.string gm)) = v11 at hXX hII hSP hBB hKr ⊢
     have HSX := zh hXX; have HSI := zh hII; have HSS := zh hSP; have HSB := zh hBB; clear hXX hII hSP hBB z0 z1 z2 z3 z4 z5 z6 z7 z8; refine hK.out _ _ (hKr) (fun _ => ?_); try simp only [Act.put, zq1, zq2, zq3]
     have hHeld : (Bx Gr v11 or fr pr Ar nr cr Br mr dr) := hKr
     refine zqU 10 ?_ ?_ ?_; rotate_left
     · intro w' hSw; obtain ⟨r_0, r_1, r_2, r_3, r_4, _⟩ := hSw; go_simp; try with_reducible rfl
     (try simp only [Act.put, zq1, zq2, zq3]); clear hHeld
     refine wpAnyH_done (by kernel_rfl) ?_ _
     exact ⟨rfl, Gm, _, _, _, _, _, _, _, _, om, fm, gm, pm, Am, cm, rsm, Bm, dm, wsm, um, Vm, xm, vsm, Km, ym, ksm, rfl, HSX.out, HSI.out, HSS.out, HSB.out⟩
    refine zqN fun K hK => ?_
    go_simp; clear t_0 t_1 t_2 t_3 t_4 t_5 t_6 t_7 t_8 r_0 r_1 r_2 r_3 r_4
    have hal := al w7 (.cells #[.string ⟨#[]⟩, .string ⟨#[]⟩, .int .i64 0, .slice none 0 0, .slice none 0 0, .int .u64 0, .slice none 0 0, .slice none 0 0, .string ⟨#[]⟩] 39)
    have hXX : Mx w7.heap.size (w7.alloc (.cells #[.string ⟨#[]⟩, .string ⟨#[]⟩, .int .i64 0, .slice none 0 0, .slice none 0 0, .int .u64 0, .slice none 0 0, .slice none 0 0, .string ⟨#[]⟩] 39)) ⟨#[]⟩ ⟨#[]⟩ 0 none 0 0 none 0 0 0 none 0 0 none 0 0 ⟨#[]⟩ := mx_alloc w7 ⟨#[]⟩ ⟨#[]⟩ 0 none 0 0 none 0 0 0 none 0 0 none 0 0 ⟨#[]⟩ 39
    have hFF := sf9_alloc w7 #[.string ⟨#[]⟩, .string ⟨#[]⟩, .int .i64 0, .slice none 0 0, .slice none 0 0, .int .u64 0, .slice none 0 0, .slice none 0 0, .string ⟨#[]⟩] 39
    have hGE : v4.heap.size ≤ w7.heap.size := HA.out.size
    have hGL : w7.heap.size ≤ w7.heap.size := Nat.le_refl _
    obtain ⟨Gm, hG⟩ : ∃ g, w7.heap.size = g := ⟨_, rfl⟩
    generalize w7.alloc (.cells #[.string ⟨#[]⟩, .string ⟨#[]⟩, .int .i64 0, .slice none 0 0, .slice none 0 0, .int .u64 0, .slice none 0 0, .slice none 0 0, .string ⟨#[]⟩] 39) = v8 at hal hXX hFF ⊢
    rw [hG] at hXX hFF hGE ⊢; replace HIr := zh (offX_new HIr.out (Nat.le_of_eq hG)); replace HB := zh (Bel.call HB.out hal); replace HIt := zh (HIt.out.below hal zl); replace HXt := zh (HXt.out.call hal); replace HIr := zh (HIr.out.below hal zl); replace HXr := zh (HXr.out.below hal HXr.out.2.2.2.2.2); replace HA := zh (Bel.call HA.out hal); have HXm := zh hXX; have HFm := zh hFF; have HGm := zh hGE; clear hal hXX hFF hGE hGL hG; obtain ⟨⟨t_0, t_1, t_2, t_3, t_4, t_5, t_6, t_7, t_8⟩, _⟩ := HXt.out; obtain ⟨r_0, r_1, r_2, r_3, r_4, _⟩ := HXr.out; obtain ⟨⟨m_0, m_1, m_2, m_3, m_4, m_5, m_6, m_7, m_8⟩, _⟩ := HXm.out; refine hK.out _ _ (HXr.out) (fun _ => ?_); (try simp only [Act.put, zq1, zq2, zq3]); refine zqR [3] ?_
    refine zqN fun K hK => ?_
    go_simp; (with_reducible refine (HSG.out _).mono ?_); rintro e9 w9 ⟨⟨As, cs, ls, hls, hcs, hrs, _, rfl⟩, hb9⟩; clear t_0 t_1 t_2 t_3 t_4 t_5 t_6 t_7 t_8 r_0 r_1 r_2 r_3 r_4 m_0 m_1 m_2 m_3 m_4 m_5 m_6 m_7 m_8; replace HB := zh (Bel.call HB.out hb9); replace HIt := zh (HIt.out.below hb9 zl); replace HXt := zh (HXt.out.call hb9); replace HIr := zh (HIr.out.below hb9 zl); replace HXr := zh (HXr.out.below hb9 HXr.out.2.2.2.2.2); replace HA := zh (Bel.call HA.out hb9); replace HFm := zh (HFm.out.below hb9 HXm.out.2); replace HXm := zh (HXm.out.call hb9); clear hb9; have HLs := zh hls; have HCs := zh hcs; have HSs := zh hrs; clear hls hcs hrs; obtain ⟨⟨t_0, t_1, t_2, t_3, t_4, t_5, t_6, t_7, t_8⟩, _⟩ := HXt.out; obtain ⟨r_0, r_1, r_2, r_3, r_4, _⟩ := HXr.out; obtain ⟨⟨m_0, m_1, m_2, m_3, m_4, m_5, m_6, m_7, m_8⟩, _⟩ := HXm.out; dsimp only; refine hK.out _ _ (HXr.out) (fun _ => ?_); (try simp only [Act.put, zq1, zq2, zq3]); refine zqR [4] ?_
    refine zqN fun K hK => ?_
    go_simp; (with_reducible refine (build_to MB ann0 (n := 0) (ver := 1) (by decide) (by decide) HTS.out HTR.out HLs.out oth_nil fit_nil (K := none) (ck := 0) (ks := []) [Gm] _ _ (gs_cons (Mx.lt HXm.out) gs_nil) HIr.out HSs.out HCs.out (PReads.nil _ _) ⟨Nat.le_refl _, fun _ => rfl⟩ (vz := 1) rfl rfl (nk := 0) rfl).mono ?_); rintro e10 w10 ⟨⟨v10, hm10, hs10, rfl⟩, hb10⟩; clear t_0 t_1 t_2 t_3 t_4 t_5 t_6 t_7 t_8 r_0 r_1 r_2 r_3 r_4 m_0 m_1 m_2 m_3 m_4 m_5 m_6 m_7 m_8; replace HB := zh (Bel.call HB.out hb10); replace HIt := zh (HIt.out.below hb10 zl); replace HXt := zh (HXt.out.call hb10); replace HIr := zh (HIr.out.below hb10 zl); replace HXr := zh (HXr.out.below hb10 HXr.out.2.2.2.2.2); replace HA := zh (Bel.call HA.out hb10); replace HFm := zh (HFm.out.below hb10 HXm.out.2); replace HXm := zh (HXm.out.call hb10); replace HSs := zh (HSs.out.below hb10 zl); clear hb10; obtain ⟨om, fm, gm, pm, Am, cm, rsm, Bm, dm, wsm, um, Vm, xm, vsm, Km, ym, ksm, rfl, him, _, _, _, _, _⟩ := isM_lit hm10; have HEm := zh him; have HIm := zh hm10; clear hm10 him; have HPm := zh hs10; clear hs10; obtain ⟨⟨t_0, t_1, t_2, t_3, t_4, t_5, t_6, t_7, t_8⟩, _⟩ := HXt.out; obtain ⟨r_0, r_1, r_2, r_3, r_4, _⟩ := HXr.out; obtain ⟨⟨m_0, m_1, m_2, m_3, m_4, m_5, m_6, m_7, m_8⟩, _⟩ := HXm.out; dsimp only; refine hK.out _ _ (HXr.out) (fun _ => ?_); try simp only [Act.put, zq1, zq2, zq3]
    have hHeld : (Bx Gr w10 or fr pr Ar nr cr Br mr dr) := HXr.out
    refine zqU 5 ?_ ?_ ?_; rotate_left
    · intro w' hSw; obtain ⟨r_0, r_1, r_2, r_3, r_4, _⟩ := hSw; go_simp; try with_reducible rfl
    (try simp only [Act.put, zq1, zq2, zq3]); clear hHeld
    have hHeld : (Bx Gr w10 or fr pr Ar nr cr Br mr dr) := HXr.out
    refine zqU 6 ?_ ?_ ?_; rotate_left
    · intro w' hSw; obtain ⟨r_0, r_1, r_2, r_3, r_4, _⟩ := hSw; go_simp; try with_reducible rfl
    (try simp only [Act.put, zq1, zq2, zq3]); clear hHeld
    have hHeld : (Bx Gr w10 or fr pr Ar nr cr Br mr dr) := HXr.out
    refine zqU 7 ?_ ?_ ?_; rotate_left
    · intro w' hSw; obtain ⟨r_0, r_1, r_2, r_3, r_4, _⟩ := hSw; go_simp; try with_reducible rfl
    (try simp only [Act.put, zq1, zq2, zq3]); clear hHeld; refine zqR [9] ?_
    refine zqN fun K hK => ?_
    obtain ⟨z0, z1, z2, z3, z4, z5, z6, z7, z8⟩ := HFm.out; go_simp
    have hXX : Mx Gm (((((((((w10.setCell ⟨Gm, 0, none⟩ (.string om)).setCell ⟨Gm, 1, none⟩ (.string fm)).setCell ⟨Gm, 2, none⟩ (.int .i64 pm)).setCell ⟨Gm, 3, none⟩ (.slice Am rsm.length cm)).setCell ⟨Gm, 4, none⟩ (.slice Bm wsm.length dm)).setCell ⟨Gm, 5, none⟩ (.int .u64 (um : Int))).setCell ⟨Gm, 6, none⟩ (.slice Vm vsm.length xm)).setCell ⟨Gm, 7, none⟩ (.slice Km ksm.length ym)).setCell ⟨Gm, 8, none⟩ (.string gm)) om fm pm Am rsm.length cm Bm wsm.length dm um Vm vsm.length xm Km ksm.length ym gm := mx_set9 HXm.out
    have hII : IsM AnyB (((((((((w10.setCell ⟨Gm, 0, none⟩ (.string om)).setCell ⟨Gm, 1, none⟩ (.string fm)).setCell ⟨Gm, 2, none⟩ (.int .i64 pm)).setCell ⟨Gm, 3, none⟩ (.slice Am rsm.length cm)).setCell ⟨Gm, 4, none⟩ (.slice Bm wsm.length dm)).setCell ⟨Gm, 5, none⟩ (.int .u64 (um : Int))).setCell ⟨Gm, 6, none⟩ (.slice Vm vsm.length xm)).setCell ⟨Gm, 7, none⟩ (.slice Km ksm.length ym)).setCell ⟨Gm, 8, none⟩ (.string gm)) (.agg #[.string om, .string fm, .int .i64 pm, .slice Am rsm.length cm, .slice Bm wsm.length dm, .int .u64 (um : Int), .slice Vm vsm.length xm, .slice Km ksm.length ym, .string gm]) (mOf r0 0 1) := (isM_set9 (List.mem_cons_self ..) HIm.out).any
    have hSP : SepM (((((((((w10.setCell ⟨Gm, 0, none⟩ (.string om)).setCell ⟨Gm, 1, none⟩ (.string fm)).setCell ⟨Gm, 2, none⟩ (.int .i64 pm)).setCell ⟨Gm, 3, none⟩ (.slice Am rsm.length cm)).setCell ⟨Gm, 4, none⟩ (.slice Bm wsm.length dm)).setCell ⟨Gm, 5, none⟩ (.int .u64 (um : Int))).setCell ⟨Gm, 6, none⟩ (.slice Vm vsm.length xm)).setCell ⟨Gm, 7, none⟩ (.slice Km ksm.length ym)).setCell ⟨Gm, 8, none⟩ (.string gm)) (.agg #[.string om, .string fm, .int .i64 pm, .slice Am rsm.length cm, .slice Bm wsm.length dm, .int .u64 (um : Int), .slice Vm vsm.length xm, .slice Km ksm.length ym, .string gm]) := sepM_set9 HPm.out
    have hBB : Below v4.heap.size v4 (((((((((w10.setCell ⟨Gm, 0, none⟩ (.string om)).setCell ⟨Gm, 1, none⟩ (.string fm)).setCell ⟨Gm, 2, none⟩ (.int .i64 pm)).setCell ⟨Gm, 3, none⟩ (.slice Am rsm.length cm)).setCell ⟨Gm, 4, none⟩ (.slice Bm wsm.length dm)).setCell ⟨Gm, 5, none⟩ (.int .u64 (um : Int))).setCell ⟨Gm, 6, none⟩ (.slice Vm vsm.length xm)).setCell ⟨Gm, 7, none⟩ (.slice Km ksm.length ym)).setCell ⟨Gm, 8, none⟩ (.string gm)) := set9 HA.out HGm.out
    have hKr : Bx Gr (((((((((w10.setCell ⟨Gm, 0, none⟩ (.string om)).setCell ⟨Gm, 1, none⟩ (.string fm)).setCell ⟨Gm, 2, none⟩ (.int .i64 pm)).setCell ⟨Gm, 3, none⟩ (.slice Am rsm.length cm)).setCell ⟨Gm, 4, none⟩ (.slice Bm wsm.length dm)).setCell ⟨Gm, 5, none⟩ (.int .u64 (um : Int))).setCell ⟨Gm, 6, none⟩ (.slice Vm vsm.length xm)).setCell ⟨Gm, 7, none⟩ (.slice Km ksm.length ym)).setCell ⟨Gm, 8, none⟩ (.string gm)) or fr pr Ar nr cr Br mr dr := bx_other9 HXr.out (fun e => by have h1 := ZHXr.out.2.2.2.2.2; have h2 := HGm.out; omega)
    clear t_0 t_1 t_2 t_3 t_4 t_5 t_6 t_7 t_8 r_0 r_1 r_2 r_3 r_4 m_0 m_1 m_2 m_3 m_4 m_5 m_6 m_7 m_8
    generalize (((((((((w10.setCell ⟨Gm, 0, none⟩ (.string om)).setCell ⟨Gm, 1, none⟩ (.string fm)).setCell ⟨Gm, 2, none⟩ (.int .i64 pm)).setCell ⟨Gm, 3, none⟩ (.slice Am rsm.length cm)).setCell ⟨Gm, 4, none⟩ (.slice Bm wsm.length dm)).setCell ⟨Gm, 5, none⟩ (.int .u64 (um : Int))).setCell ⟨Gm, 6, none⟩ (.slice Vm vsm.length xm)).setCell ⟨Gm, 7, none⟩ (.slice Km ksm.length ym)).setCell ⟨Gm, 8, none⟩ (.string gm)) = v11 at hXX hII hSP hBB hKr ⊢
    have HSX := zh hXX; have HSI := zh hII; have HSS := zh hSP; have HSB := zh hBB; clear hXX hII hSP hBB z0 z1 z2 z3 z4 z5 z6 z7 z8; refine hK.out _ _ (hKr) (fun _ => ?_); try simp only [Act.put, zq1, zq2, zq3]
    have hHeld : (Bx Gr v11 or fr pr Ar nr cr Br mr dr) := hKr
    refine zqU 10 ?_ ?_ ?_; rotate_left
    · intro w' hSw; obtain ⟨r_0, r_1, r_2, r_3, r_4, _⟩ := hSw; go_simp; try with_reducible rfl
    (try simp only [Act.put, zq1, zq2, zq3]); clear hHeld
    refine wpAnyH_done (by kernel_rfl) ?_ _
    exact ⟨rfl, Gm, _, _, _, _, _, _, _, _, om, fm, gm, pm, Am, cm, rsm, Bm, dm, wsm, um, Vm, xm, vsm, Km, ym, ksm, rfl, HSX.out, HSI.out, HSS.out, HSB.out⟩
   refine zqN fun K hK => ?_
   go_simp; clear t_0 t_1 t_2 t_3 t_4 t_5 t_6 t_7 t_8 r_0 r_1 r_2 r_3 r_4
   have hal := al w6 (.cells #[.string ⟨#[]⟩, .string ⟨#[]⟩, .int .i64 0, .slice none 0 0, .slice none 0 0, .int .u64 0, .slice none 0 0, .slice none 0 0, .string ⟨#[]⟩] 39)
   have hXX : Mx w6.heap.size (w6.alloc (.cells #[.string ⟨#[]⟩, .string ⟨#[]⟩, .int .i64 0, .slice none 0 0, .slice none 0 0, .int .u64 0, .slice none 0 0, .slice none 0 0, .string ⟨#[]⟩] 39)) ⟨#[]⟩ ⟨#[]⟩ 0 none 0 0 none 0 0 0 none 0 0 none 0 0 ⟨#[]⟩ := mx_alloc w6 ⟨#[]⟩ ⟨#[]⟩ 0 none 0 0 none 0 0 0 none 0 0 none 0 0 ⟨#[]⟩ 39
   have hFF := sf9_alloc w6 #[.string ⟨#[]⟩, .string ⟨#[]⟩, .int .i64 0, .slice none 0 0, .slice none 0 0, .int .u64 0, .slice none 0 0, .slice none 0 0, .string ⟨#[]⟩] 39
   have hGE : v4.heap.size ≤ w6.heap.size := HA.out.size
   have hGL : w6.heap.size ≤ w6.heap.size := Nat.le_refl _
   obtain ⟨Gm, hG⟩ : ∃ g, w6.heap.size = g := ⟨_, rfl⟩
   generalize w6.alloc (.cells #[.string ⟨#[]⟩, .string ⟨#[]⟩, .int .i64 0, .slice none 0 0, .slice none 0 0, .int .u64 0, .slice none 0 0, .slice none 0 0, .string ⟨#[]⟩] 39) = v7 at hal hXX hFF ⊢
   rw [hG] at hXX hFF hGE ⊢; replace HIr := zh (offX_new HIr.out (Nat.le_of_eq hG)); replace HB := zh (Bel.call HB.out hal); replace HIt := zh (HIt.out.below hal zl); replace HXt := zh (HXt.out.call hal); replace HIr := zh (HIr.out.below hal zl); replace HXr := zh (HXr.out.below hal HXr.out.2.2.2.2.2); replace HA := zh (Bel.call HA.out hal); have HXm := zh hXX; have HFm := zh hFF; have HGm := zh hGE; clear hal hXX hFF hGE hGL hG; obtain ⟨⟨t_0, t_1, t_2, t_3, t_4, t_5, t_6, t_7, t_8⟩, _⟩ := HXt.out; obtain ⟨r_0, r_1, r_2, r_3, r_4, _⟩ := HXr.out; obtain ⟨⟨m_0, m_1, m_2, m_3, m_4, m_5, m_6, m_7, m_8⟩, _⟩ := HXm.out; refine hK.out _ _ (HXr.out) (fun _ => ?_); (try simp only [Act.put, zq1, zq2, zq3]); refine zqR [2] ?_
   refine zqN fun K hK => ?_
   go_simp; (with_reducible refine (HRO.out _).mono ?_); rintro e8 w8 ⟨⟨R, hTR, rfl⟩, hb8⟩; clear t_0 t_1 t_2 t_3 t_4 t_5 t_6 t_7 t_8 r_0 r_1 r_2 r_3 r_4 m_0 m_1 m_2 m_3 m_4 m_5 m_6 m_7 m_8; replace HB := zh (Bel.call HB.out hb8); replace HIt := zh (HIt.out.below hb8 zl); replace HXt := zh (HXt.out.call hb8); replace HIr := zh (HIr.out.below hb8 zl); replace HXr := zh (HXr.out.below hb8 HXr.out.2.2.2.2.2); replace HA := zh (Bel.call HA.out hb8); replace HFm := zh (HFm.out.below hb8 HXm.out.2); replace HXm := zh (HXm.out.call hb8); clear hb8
   try dsimp only at hTR
   have HTR := zh hTR; clear hTR; obtain ⟨⟨t_0, t_1, t_2, t_3, t_4, t_5, t_6, t_7, t_8⟩, _⟩ := HXt.out; obtain ⟨r_0, r_1, r_2, r_3, r_4, _⟩ := HXr.out; obtain ⟨⟨m_0, m_1, m_2, m_3, m_4, m_5, m_6, m_7, m_8⟩, _⟩ := HXm.out; dsimp only; refine hK.out _ _ (HXr.out) (fun _ => ?_); (try simp only [Act.put, zq1, zq2, zq3]); refine zqR [3] ?_
   refine zqN fun K hK => ?_
   go_simp; (with_reducible refine (HSG.out _).mono ?_); rintro e9 w9 ⟨⟨As, cs, ls, hls, hcs, hrs, _, rfl⟩, hb9⟩; clear t_0 t_1 t_2 t_3 t_4 t_5 t_6 t_7 t_8 r_0 r_1 r_2 r_3 r_4 m_0 m_1 m_2 m_3 m_4 m_5 m_6 m_7 m_8; replace HB := zh (Bel.call HB.out hb9); replace HIt := zh (HIt.out.below hb9 zl); replace HXt := zh (HXt.out.call hb9); replace HIr := zh (HIr.out.below hb9 zl); replace HXr := zh (HXr.out.below hb9 HXr.out.2.2.2.2.2); replace HA := zh (Bel.call HA.out hb9); replace HFm := zh (HFm.out.below hb9 HXm.out.2); replace HXm := zh (HXm.out.call hb9); clear hb9; have HLs := zh hls; have HCs := zh hcs; have HSs := zh hrs; clear hls hcs hrs; obtain ⟨⟨t_0, t_1, t_2, t_3, t_4, t_5, t_6, t_7, t_8⟩, _⟩ := HXt.out; obtain ⟨r_0, r_1, r_2, r_3, r_4, _⟩ := HXr.out; obtain ⟨⟨m_0, m_1, m_2, m_3, m_4, m_5, m_6, m_7, m_8⟩, _⟩ := HXm.out; dsimp only; refine hK.out _ _ (HXr.out) (fun _ => ?_); (try simp only [Act.put, zq1, zq2, zq3]); refine zqR [4] ?_
   refine zqN fun K hK => ?_
   go_simp; (with_reducible refine (build_to MB ann0 (n := 0) (ver := 1) (by decide) (by decide) HTS.out HTR.out HLs.out oth_nil fit_nil (K := none) (ck := 0) (ks := []) [Gm] _ _ (gs_cons (Mx.lt HXm.out) gs_nil) HIr.out HSs.out HCs.out (PReads.nil _ _) ⟨Nat.le_refl _, fun _ => rfl⟩ (vz := 1) rfl rfl (nk := 0) rfl).mono ?_); rintro e10 w10 ⟨⟨v10, hm10, hs10, rfl⟩, hb10⟩; clear t_0 t_1 t_2 t_3 t_4 t_5 t_6 t_7 t_8 r_0 r_1 r_2 r_3 r_4 m_0 m_1 m_2 m_3 m_4 m_5 m_6 m_7 m_8; replace HB := zh (Bel.call HB.out hb10); replace HIt := zh (HIt.out.below hb10 zl); replace HXt := zh (HXt.out.call hb10); replace HIr := zh (HIr.out.below hb10 zl); replace HXr := zh (HXr.out.below hb10 HXr.out.2.2.2.2.2); replace HA := zh (Bel.call HA.out hb10); replace HFm := zh (HFm.out.below hb10 HXm.out.2); replace HXm := zh (HXm.out.call hb10); replace HSs := zh (HSs.out.below hb10 zl); clear hb10; obtain ⟨om, fm, gm, pm, Am, cm, rsm, Bm, dm, wsm, um, Vm, xm, vsm, Km, ym, ksm, rfl, him, _, _, _, _, _⟩ := isM_lit hm10; have HEm := zh him; have HIm := zh hm10; clear hm10 him; have HPm := zh hs10; clear hs10; obtain ⟨⟨t_0, t_1, t_2, t_3, t_4, t_5, t_6, t_7, t_8⟩, _⟩ := HXt.out; obtain ⟨r_0, r_1, r_2, r_3, r_4, _⟩ := HXr.out; obtain ⟨⟨m_0, m_1, m_2, m_3, m_4, m_5, m_6, m_7, m_8⟩, _⟩ := HXm.out; dsimp only; refine hK.out _ _ (HXr.out) (fun _ => ?_); try simp only [Act.put, zq1, zq2, zq3]
   have hHeld : (Bx Gr w10 or fr pr Ar nr cr Br mr dr) := HXr.out
   refine zqU 5 ?_ ?_ ?_; rotate_left
   · intro w' hSw; obtain ⟨r_0, r_1, r_2, r_3, r_4, _⟩ := hSw; go_simp; try with_reducible rfl
   (try simp only [Act.put, zq1, zq2, zq3]); clear hHeld
   have hHeld : (Bx Gr w10 or fr pr Ar nr cr Br mr dr) := HXr.out
   refine zqU 6 ?_ ?_ ?_; rotate_left
   · intro w' hSw; obtain ⟨r_0, r_1, r_2, r_3, r_4, _⟩ := hSw; go_simp; try with_reducible rfl
   (try simp only [Act.put, zq1, zq2, zq3]); clear hHeld
   have hHeld : (Bx Gr w10 or fr pr Ar nr cr Br mr dr) := HXr.out
   refine zqU 7 ?_ ?_ ?_; rotate_left
   · intro w' hSw; obtain ⟨r_0, r_1, r_2, r_3, r_4, _⟩ := hSw; go_simp; try with_reducible rfl
   (try simp only [Act.put, zq1, zq2, zq3]); clear hHeld; refine zqR [9] ?_
   refine zqN fun K hK => ?_
   obtain ⟨z0, z1, z2, z3, z4, z5, z6, z7, z8⟩ := HFm.out; go_simp
   have hXX : Mx Gm (((((((((w10.setCell ⟨Gm, 0, none⟩ (.string om)).setCell ⟨Gm, 1, none⟩ (.string fm)).setCell ⟨Gm, 2, none⟩ (.int .i64 pm)).setCell ⟨Gm, 3, none⟩ (.slice Am rsm.length cm)).setCell ⟨Gm, 4, none⟩ (.slice Bm wsm.length dm)).setCell ⟨Gm, 5, none⟩ (.int .u64 (um : Int))).setCell ⟨Gm, 6, none⟩ (.slice Vm vsm.length xm)).setCell ⟨Gm, 7, none⟩ (.slice Km ksm.length ym)).setCell ⟨Gm, 8, none⟩ (.string gm)) om fm pm Am rsm.length cm Bm wsm.length dm um Vm vsm.length xm Km ksm.length ym gm := mx_set9 HXm.out
   have hII : IsM AnyB (((((((((w10.setCell ⟨Gm, 0, none⟩ (.string om)).setCell ⟨Gm, 1, none⟩ (.string fm)).setCell ⟨Gm, 2, none⟩ (.int .i64 pm)).setCell ⟨Gm, 3, none⟩ (.slice Am rsm.length cm)).setCell ⟨Gm, 4, none⟩ (.slice Bm wsm.length dm)).setCell ⟨Gm, 5, none⟩ (.int .u64 (um : Int))).setCell ⟨Gm, 6, none⟩ (.slice Vm vsm.length xm)).setCell ⟨Gm, 7, none⟩ (.slice Km ksm.length ym)).setCell ⟨Gm, 8, none⟩ (.string gm)) (.agg #[.string om, .string fm, .int .i64 pm, .slice Am rsm.length cm, .slice Bm wsm.length dm, .int .u64 (um : Int), .slice Vm vsm.length xm, .slice Km ksm.length ym, .string gm]) (mOf r0 0 1) := (isM_set9 (List.mem_cons_self ..) HIm.out).any
   have hSP : SepM (((((((((w10.setCell ⟨Gm, 0, none⟩ (.string om)).setCell ⟨Gm, 1, none⟩ (.string fm)).setCell ⟨Gm, 2, none⟩ (.int .i64 pm)).setCell ⟨Gm, 3, none⟩ (.slice Am rsm.length cm)).setCell ⟨Gm, 4, none⟩ (.slice Bm wsm.length dm)).setCell ⟨Gm, 5, none⟩ (.int .u64 (um : Int))).setCell ⟨Gm, 6, none⟩ (.slice Vm vsm.length xm)).setCell ⟨Gm, 7, none⟩ (.slice Km ksm.length ym)).setCell ⟨Gm, 8, none⟩ (.string gm)) (.agg #[.string om, .string fm, .int .i64 pm, .slice Am rsm.length cm, .slice Bm wsm.length dm, .int .u64 (um : Int), .slice Vm vsm.length xm, .slice Km ksm.length ym, .string gm]) := sepM_set9 HPm.out
   have hBB : Below v4.heap.size v4 (((((((((w10.setCell ⟨Gm, 0, none⟩ (.string om)).setCell ⟨Gm, 1, none⟩ (.string fm)).setCell ⟨Gm, 2, none⟩ (.int .i64 pm)).setCell ⟨Gm, 3, none⟩ (.slice Am rsm.length cm)).setCell ⟨Gm, 4, none⟩ (.slice Bm wsm.length dm)).setCell ⟨Gm, 5, none⟩ (.int .u64 (um : Int))).setCell ⟨Gm, 6, none⟩ (.slice Vm vsm.length xm)).setCell ⟨Gm, 7, none⟩ (.slice Km ksm.length ym)).setCell ⟨Gm, 8, none⟩ (.string gm)) := set9 HA.out HGm.out
   have hKr : Bx Gr (((((((((w10.setCell ⟨Gm, 0, none⟩ (.string om)).setCell ⟨Gm, 1, none⟩ (.string fm)).setCell ⟨Gm, 2, none⟩ (.int .i64 pm)).setCell ⟨Gm, 3, none⟩ (.slice Am rsm.length cm)).setCell ⟨Gm, 4, none⟩ (.slice Bm wsm.length dm)).setCell ⟨Gm, 5, none⟩ (.int .u64 (um : Int))).setCell ⟨Gm, 6, none⟩ (.slice Vm vsm.length xm)).setCell ⟨Gm, 7, none⟩ (.slice Km ksm.length ym)).setCell ⟨Gm, 8, none⟩ (.string gm)) or fr pr Ar nr cr Br mr dr := bx_other9 HXr.out (fun e => by have h1 := ZHXr.out.2.2.2.2.2; have h2 := HGm.out; omega)
   clear t_0 t_1 t_2 t_3 t_4 t_5 t_6 t_7 t_8 r_0 r_1 r_2 r_3 r_4 m_0 m_1 m_2 m_3 m_4 m_5 m_6 m_7 m_8
   generalize (((((((((w10.setCell ⟨Gm, 0, none⟩ (.string om)).setCell ⟨Gm, 1, none⟩ (.string fm)).setCell ⟨Gm, 2, none⟩ (.int .i64 pm)).setCell ⟨Gm, 3, none⟩ (.slice Am rsm.length cm)).setCell ⟨Gm, 4, none⟩ (.slice Bm wsm.length dm)).setCell ⟨Gm, 5, none⟩ (.int .u64 (um : Int))).setCell ⟨Gm, 6, none⟩ (.slice Vm vsm.length xm)).setCell ⟨Gm, 7, none⟩ (.slice Km ksm.length ym)).setCell ⟨Gm, 8, none⟩ (.string gm)) = v11 at hXX hII hSP hBB hKr ⊢
   have HSX := zh hXX; have HSI := zh hII; have HSS := zh hSP; have HSB := zh hBB; clear hXX hII hSP hBB z0 z1 z2 z3 z4 z5 z6 z7 z8; refine hK.out _ _ (hKr) (fun _ => ?_); try simp only [Act.put, zq1, zq2, zq3]
   have hHeld : (Bx Gr v11 or fr pr Ar nr cr Br mr dr) := hKr
   refine zqU 10 ?_ ?_ ?_; rotate_left
   · intro w' hSw; obtain ⟨r_0, r_1, r_2, r_3, r_4, _⟩ := hSw; go_simp; try with_reducible rfl
   (try simp only [Act.put, zq1, zq2, zq3]); clear hHeld
   refine wpAnyH_done (by kernel_rfl) ?_ _
   exact ⟨rfl, Gm, _, _, _, _, _, _, _, _, om, fm, gm, pm, Am, cm, rsm, Bm, dm, wsm, um, Vm, xm, vsm, Km, ym, ksm, rfl, HSX.out, HSI.out, HSS.out, HSB.out⟩
  refine zqN fun K hK => ?_
  go_simp; clear t_0 t_1 t_2 t_3 t_4 t_5 t_6 t_7 t_8 r_0 r_1 r_2 r_3 r_4
  have hal := al d5 (.cells #[.string ⟨#[]⟩, .string ⟨#[]⟩, .int .i64 0, .slice none 0 0, .slice none 0 0, .int .u64 0, .slice none 0 0, .slice none 0 0, .string ⟨#[]⟩] 39)
  have hXX : Mx d5.heap.size (d5.alloc (.cells #[.string ⟨#[]⟩, .string ⟨#[]⟩, .int .i64 0, .slice none 0 0, .slice none 0 0, .int .u64 0, .slice none 0 0, .slice none 0 0, .string ⟨#[]⟩] 39)) ⟨#[]⟩ ⟨#[]⟩ 0 none 0 0 none 0 0 0 none 0 0 none 0 0 ⟨#[]⟩ := mx_alloc d5 ⟨#[]⟩ ⟨#[]⟩ 0 none 0 0 none 0 0 0 none 0 0 none 0 0 ⟨#[]⟩ 39
  have hFF := sf9_alloc d5 #[.string ⟨#[]⟩, .string ⟨#[]⟩, .int .i64 0, .slice none 0 0, .slice none 0 0, .int .u64 0, .slice none 0 0, .slice none 0 0, .string ⟨#[]⟩] 39
  have hGE : v4.heap.size ≤ d5.heap.size := HA.out.size
  have hGL : d5.heap.size ≤ d5.heap.size := Nat.le_refl _
  obtain ⟨Gm, hG⟩ : ∃ g, d5.heap.size = g := ⟨_, rfl⟩
  generalize d5.alloc (.cells #[.string ⟨#[]⟩, .string ⟨#[]⟩, .int .i64 0, .slice none 0 0, .slice none 0 0, .int .u64 0, .slice none 0 0, .slice none 0 0, .string ⟨#[]⟩] 39) = v6 at hal hXX hFF ⊢
  rw [hG] at hXX hFF hGE ⊢; replace HIr := zh (offX_new HIr.out (Nat.le_of_eq hG)); replace HB := zh (Bel.call HB.out hal); replace HIt := zh (HIt.out.below hal zl); replace HXt := zh (HXt.out.call hal); replace HIr := zh (HIr.out.below hal zl); replace HXr := zh (HXr.out.below hal HXr.out.2.2.2.2.2); replace HA := zh (Bel.call HA.out hal); have HXm := zh hXX; have HFm := zh hFF; have HGm := zh hGE; clear hal hXX hFF hGE hGL hG; obtain ⟨⟨t_0, t_1, t_2, t_3, t_4, t_5, t_6, t_7, t_8⟩, _⟩ := HXt.out; obtain ⟨r_0, r_1, r_2, r_3, r_4, _⟩ := HXr.out; obtain ⟨⟨m_0, m_1, m_2, m_3, m_4, m_5, m_6, m_7, m_8⟩, _⟩ := HXm.out; refine hK.out _ _ (HXr.out) (fun _ => ?_); (try simp only [Act.put, zq1, zq2, zq3]); refine zqR [0] ?_
  refine zqN fun K hK => ?_
  go_simp; (with_reducible refine (HSE.out _).mono ?_); rintro e7 w7 ⟨⟨S, hTS, rfl⟩, hb7⟩; clear t_0 t_1 t_2 t_3 t_4 t_5 t_6 t_7 t_8 r_0 r_1 r_2 r_3 r_4 m_0 m_1 m_2 m_3 m_4 m_5 m_6 m_7 m_8; replace HB := zh (Bel.call HB.out hb7); replace HIt := zh (HIt.out.below hb7 zl); replace HXt := zh (HXt.out.call hb7); replace HIr := zh (HIr.out.below hb7 zl); replace HXr := zh (HXr.out.below hb7 HXr.out.2.2.2.2.2); replace HA := zh (Bel.call HA.out hb7); replace HFm := zh (HFm.out.below hb7 HXm.out.2); replace HXm := zh (HXm.out.call hb7); clear hb7
  try dsimp only at hTS
  have HTS := zh hTS; clear hTS; obtain ⟨⟨t_0, t_1, t_2, t_3, t_4, t_5, t_6, t_7, t_8⟩, _⟩ := HXt.out; obtain ⟨r_0, r_1, r_2, r_3, r_4, _⟩ := HXr.out; obtain ⟨⟨m_0, m_1, m_2, m_3, m_4, m_5, m_6, m_7, m_8⟩, _⟩ := HXm.out; dsimp only; refine hK.out _ _ (HXr.out) (fun _ => ?_); (try simp only [Act.put, zq1, zq2, zq3]); refine zqR [2] ?_
  refine zqN fun K hK => ?_
  go_simp; (with_reducible refine (HRO.out _).mono ?_); rintro e8 w8 ⟨⟨R, hTR, rfl⟩, hb8⟩; clear t_0 t_1 t_2 t_3 t_4 t_5 t_6 t_7 t_8 r_0 r_1 r_2 r_3 r_4 m_0 m_1 m_2 m_3 m_4 m_5 m_6 m_7 m_8; replace HB := zh (Bel.call HB.out hb8); replace HIt := zh (HIt.out.below hb8 zl); replace HXt := zh (HXt.out.call hb8); replace HIr := zh (HIr.out.below hb8 zl); replace HXr := zh (HXr.out.below hb8 HXr.out.2.2.2.2.2); replace HA := zh (Bel.call HA.out hb8); replace HFm := zh (HFm.out.below hb8 HXm.out.2); replace HXm := zh (HXm.out.call hb8); clear hb8
  try dsimp only at hTR
  have HTR := zh hTR; clear hTR; obtain ⟨⟨t_0, t_1, t_2, t_3, t_4, t_5, t_6, t_7, t_8⟩, _⟩ := HXt.out; obtain ⟨r_0, r_1, r_2, r_3, r_4, _⟩ := HXr.out; obtain ⟨⟨m_0, m_1, m_2, m_3, m_4, m_5, m_6, m_7, m_8⟩, _⟩ := HXm.out; dsimp only; refine hK.out _ _ (HXr.out) (fun _ => ?_); (try simp only [Act.put, zq1, zq2, zq3]); refine zqR [3] ?_
  refine zqN fun K hK => ?_
  go_simp; (with_reducible refine (HSG.out _).mono ?_); rintro e9 w9 ⟨⟨As, cs, ls, hls, hcs, hrs, _, rfl⟩, hb9⟩; clear t_0 t_1 t_2 t_3 t_4 t_5 t_6 t_7 t_8 r_0 r_1 r_2 r_3 r_4 m_0 m_1 m_2 m_3 m_4 m_5 m_6 m_7 m_8; replace HB := zh (Bel.call HB.out hb9); replace HIt := zh (HIt.out.below hb9 zl); replace HXt := zh (HXt.out.call hb9); replace HIr := zh (HIr.out.below hb9 zl); replace HXr := zh (HXr.out.below hb9 HXr.out.2.2.2.2.2); replace HA := zh (Bel.call HA.out hb9); replace HFm := zh (HFm.out.below hb9 HXm.out.2); replace HXm := zh (HXm.out.call hb9); clear hb9; have HLs := zh hls; have HCs := zh hcs; have HSs := zh hrs; clear hls hcs hrs; obtain ⟨⟨t_0, t_1, t_2, t_3, t_4, t_5, t_6, t_7, t_8⟩, _⟩ := HXt.out; obtain ⟨r_0, r_1, r_2, r_3, r_4, _⟩ := HXr.out; obtain ⟨⟨m_0, m_1, m_2, m_3, m_4, m_5, m_6, m_7, m_8⟩, _⟩ := HXm.out; dsimp only; refine hK.out _ _ (HXr.out) (fun _ => ?_); (try simp only [Act.put, zq1, zq2, zq3]); refine zqR [4] ?_
  refine zqN fun K hK => ?_
  go_simp; (with_reducible refine (build_to MB ann0 (n := 0) (ver := 1) (by decide) (by decide) HTS.out HTR.out HLs.out oth_nil fit_nil (K := none) (ck := 0) (ks := []) [Gm] _ _ (gs_cons (Mx.lt HXm.out) gs_nil) HIr.out HSs.out HCs.out (PReads.nil _ _) ⟨Nat.le_refl _, fun _ => rfl⟩ (vz := 1) rfl rfl (nk := 0) rfl).mono ?_); rintro e10 w10 ⟨⟨v10, hm10, hs10, rfl⟩, hb10⟩; clear t_0 t_1 t_2 t_3 t_4 t_5 t_6 t_7 t_8 r_0 r_1 r_2 r_3 r_4 m_0 m_1 m_2 m_3 m_4 m_5 m_6 m_7 m_8; replace HB := zh (Bel.call HB.out hb10); replace HIt := zh (HIt.out.below hb10 zl); replace HXt := zh (HXt.out.call hb10); replace HIr := zh (HIr.out.below hb10 zl); replace HXr := zh (HXr.out.below hb10 HXr.out.2.2.2.2.2); replace HA := zh (Bel.call HA.out hb10); replace HFm := zh (HFm.out.below hb10 HXm.out.2); replace HXm := zh (HXm.out.call hb10); replace HSs := zh (HSs.out.below hb10 zl); clear hb10; obtain ⟨om, fm, gm, pm, Am, cm, rsm, Bm, dm, wsm, um, Vm, xm, vsm, Km, ym, ksm, rfl, him, _, _, _, _, _⟩ := isM_lit hm10; have HEm := zh him; have HIm := zh hm10; clear hm10 him; have HPm := zh hs10; clear hs10; obtain ⟨⟨t_0, t_1, t_2, t_3, t_4, t_5, t_6, t_7, t_8⟩, _⟩ := HXt.out; obtain ⟨r_0, r_1, r_2, r_3, r_4, _⟩ := HXr.out; obtain ⟨⟨m_0, m_1, m_2, m_3, m_4, m_5, m_6, m_7, m_8⟩, _⟩ := HXm.out; dsimp only; refine hK.out _ _ (HXr.out) (fun _ => ?_); try simp only [Act.put, zq1, zq2, zq3]
  have hHeld : (Bx Gr w10 or fr pr Ar nr cr Br mr dr) := HXr.out
  refine zqU 5 ?_ ?_ ?_; rotate_left
  · intro w' hSw; obtain ⟨r_0, r_1, r_2, r_3, r_4, _⟩ := hSw; go_simp; try with_reducible rfl
  (try simp only [Act.put, zq1, zq2, zq3]); clear hHeld
  have hHeld : (Bx Gr w10 or fr pr Ar nr cr Br mr dr) := HXr.out
  refine zqU 6 ?_ ?_ ?_; rotate_left
  · intro w' hSw; obtain ⟨r_0, r_1, r_2, r_3, r_4, _⟩ := hSw; go_simp; try with_reducible rfl
  (try simp only [Act.put, zq1, zq2, zq3]); clear hHeld
  have hHeld : (Bx Gr w10 or fr pr Ar nr cr Br mr dr) := HXr.out
  refine zqU 7 ?_ ?_ ?_; rotate_left
  · intro w' hSw; obtain ⟨r_0, r_1, r_2, r_3, r_4, _⟩ := hSw; go_simp; try with_reducible rfl
  (try simp only [Act.put, zq1, zq2, zq3]); clear hHeld; refine zqR [9] ?_
  refine zqN fun K hK => ?_
  obtain ⟨z0, z1, z2, z3, z4, z5, z6, z7, z8⟩ := HFm.out; go_simp
  have hXX : Mx Gm (((((((((w10.setCell ⟨Gm, 0, none⟩ (.string om)).setCell ⟨Gm, 1, none⟩ (.string fm)).setCell ⟨Gm, 2, none⟩ (.int .i64 pm)).setCell ⟨Gm, 3, none⟩ (.slice Am rsm.length cm)).setCell ⟨Gm, 4, none⟩ (.slice Bm wsm.length dm)).setCell ⟨Gm, 5, none⟩ (.int .u64 (um : Int))).setCell ⟨Gm, 6, none⟩ (.slice Vm vsm.length xm)).setCell ⟨Gm, 7, none⟩ (.slice Km ksm.length ym)).setCell ⟨Gm, 8, none⟩ (.string gm)) om fm pm Am rsm.length cm Bm wsm.length dm um Vm vsm.length xm Km ksm.length ym gm := mx_set9 HXm.out
  have hII : IsM AnyB (((((((((w10.setCell ⟨Gm, 0, none⟩ (.string om)).setCell ⟨Gm, 1, none⟩ (.string fm)).setCell ⟨Gm, 2, none⟩ (.int .i64 pm)).setCell ⟨Gm, 3, none⟩ (.slice Am rsm.length cm)).setCell ⟨Gm, 4, none⟩ (.slice Bm wsm.length dm)).setCell ⟨Gm, 5, none⟩ (.int .u64 (um : Int))).setCell ⟨Gm, 6, none⟩ (.slice Vm vsm.length xm)).setCell ⟨Gm, 7, none⟩ (.slice Km ksm.length ym)).setCell ⟨Gm, 8, none⟩ (.string gm)) (.agg #[.string om, .string fm, .int .i64 pm, .slice Am rsm.length cm, .slice Bm wsm.length dm, .int .u64 (um : Int), .slice Vm vsm.length xm, .slice Km ksm.length ym, .string gm]) (mOf r0 0 1) := (isM_set9 (List.mem_cons_self ..) HIm.out).any
  have hSP : SepM (((((((((w10.setCell ⟨Gm, 0, none⟩ (.string om)).setCell ⟨Gm, 1, none⟩ (.string fm)).setCell ⟨Gm, 2, none⟩ (.int .i64 pm)).setCell ⟨Gm, 3, none⟩ (.slice Am rsm.length cm)).setCell ⟨Gm, 4, none⟩ (.slice Bm wsm.length dm)).setCell ⟨Gm, 5, none⟩ (.int .u64 (um : Int))).setCell ⟨Gm, 6, none⟩ (.slice Vm vsm.length xm)).setCell ⟨Gm, 7, none⟩ (.slice Km ksm.length ym)).setCell ⟨Gm, 8, none⟩ (.string gm)) (.agg #[.string om, .string fm, .int .i64 pm, .slice Am rsm.length cm, .slice Bm wsm.length dm, .int .u64 (um : Int), .slice Vm vsm.length xm, .slice Km ksm.length ym, .string gm]) := sepM_set9 HPm.out
  have hBB : Below v4.heap.size v4 (((((((((w10.setCell ⟨Gm, 0, none⟩ (.string om)).setCell ⟨Gm, 1, none⟩ (.string fm)).setCell ⟨Gm, 2, none⟩ (.int .i64 pm)).setCell ⟨Gm, 3, none⟩ (.slice Am rsm.length cm)).setCell ⟨Gm, 4, none⟩ (.slice Bm wsm.length dm)).setCell ⟨Gm, 5, none⟩ (.int .u64 (um : Int))).setCell ⟨Gm, 6, none⟩ (.slice Vm vsm.length xm)).setCell ⟨Gm, 7, none⟩ (.slice Km ksm.length ym)).setCell ⟨Gm, 8, none⟩ (.string gm)) := set9 HA.out HGm.out
  have hKr : Bx Gr (((((((((w10.setCell ⟨Gm, 0, none⟩ (.string om)).setCell ⟨Gm, 1, none⟩ (.string fm)).setCell ⟨Gm, 2, none⟩ (.int .i64 pm)).setCell ⟨Gm, 3, none⟩ (.slice Am rsm.length cm)).setCell ⟨Gm, 4, none⟩ (.slice Bm wsm.length dm)).setCell ⟨Gm, 5, none⟩ (.int .u64 (um : Int))).setCell ⟨Gm, 6, none⟩ (.slice Vm vsm.length xm)).setCell ⟨Gm, 7, none⟩ (.slice Km ksm.length ym)).setCell ⟨Gm, 8, none⟩ (.string gm)) or fr pr Ar nr cr Br mr dr := bx_other9 HXr.out (fun e => by have h1 := ZHXr.out.2.2.2.2.2; have h2 := HGm.out; omega)
  clear t_0 t_1 t_2 t_3 t_4 t_5 t_6 t_7 t_8 r_0 r_1 r_2 r_3 r_4 m_0 m_1 m_2 m_3 m_4 m_5 m_6 m_7 m_8
  generalize (((((((((w10.setCell ⟨Gm, 0, none⟩ (.string om)).setCell ⟨Gm, 1, none⟩ (.string fm)).setCell ⟨Gm, 2, none⟩ (.int .i64 pm)).setCell ⟨Gm, 3, none⟩ (.slice Am rsm.length cm)).setCell ⟨Gm, 4, none⟩ (.slice Bm wsm.length dm)).setCell ⟨Gm, 5, none⟩ (.int .u64 (um : Int))).setCell ⟨Gm, 6, none⟩ (.slice Vm vsm.length xm)).setCell ⟨Gm, 7, none⟩ (.slice Km ksm.length ym)).setCell ⟨Gm, 8, none⟩ (.string gm)) = v11 at hXX hII hSP hBB hKr ⊢
  have HSX := zh hXX; have HSI := zh hII; have HSS := zh hSP; have HSB := zh hBB; clear hXX hII hSP hBB z0 z1 z2 z3 z4 z5 z6 z7 z8; refine hK.out _ _ (hKr) (fun _ => ?_); try simp only [Act.put, zq1, zq2, zq3]
  have hHeld : (Bx Gr v11 or fr pr Ar nr cr Br mr dr) := hKr
  refine zqU 10 ?_ ?_ ?_; rotate_left
  · intro w' hSw; obtain ⟨r_0, r_1, r_2, r_3, r_4, _⟩ := hSw; go_simp; try with_reducible rfl
  (try simp only [Act.put, zq1, zq2, zq3]); clear hHeld
  refine wpAnyH_done (by kernel_rfl) ?_ _
  exact ⟨rfl, Gm, _, _, _, _, _, _, _, _, om, fm, gm, pm, Am, cm, rsm, Bm, dm, wsm, um, Vm, xm, vsm, Km, ym, ksm, rfl, HSX.out, HSI.out, HSS.out, HSB.out⟩
 rintro _ _ wJm ⟨rfl, Gm, t16, t17, t18, t19, t20, t15, t21, t22, om, fm, gm, pm, Am, cm, rsm, Bm, dm, wsm, um, Vm, xm, vsm, Km, ym, ksm, rfl, hXX, hII, hSP, hbJ⟩; clear t_0 t_1 t_2 t_3 t_4 t_5 t_6 t_7 t_8 r_0 r_1 r_2 r_3 r_4; replace HB := zh (Bel.call HB.out hbJ); replace HIt := zh (HIt.out.below hbJ zl); replace HXt := zh (HXt.out.call hbJ); replace HIr := zh (HIr.out.below hbJ zl); replace HXr := zh (HXr.out.below hbJ HXr.out.2.2.2.2.2); clear hbJ; have HXm := zh hXX; have HIm := zh hII; have HPm := zh hSP; clear hXX hII hSP; obtain ⟨⟨t_0, t_1, t_2, t_3, t_4, t_5, t_6, t_7, t_8⟩, _⟩ := HXt.out; obtain ⟨r_0, r_1, r_2, r_3, r_4, _⟩ := HXr.out; obtain ⟨⟨m_0, m_1, m_2, m_3, m_4, m_5, m_6, m_7, m_8⟩, _⟩ := HXm.out
 simp only [Act.put, List.setIfInBounds_toArray, List.set_cons_zero, List.set_cons_succ]
 go_wp2_with fail
 have hdr := Below.drewN' (Below.refl wJm.heap.size wJm) 1
 refine Ord.region_lit (S := fun w' => Below wJm.heap.size wJm w') (by kernel_rfl) (by kernel_rfl) hdr ?_; clear hdr; clear t_0 t_1 t_2 t_3 t_4 t_5 t_6 t_7 t_8 r_0 r_1 r_2 r_3 r_4 m_0 m_1 m_2 m_3 m_4 m_5 m_6 m_7 m_8; refine Ord.stepR (v := ?_) (by rfl) ?_ ?_; rotate_left
 · intro w' hSw; obtain ⟨⟨m_0, m_1, m_2, m_3, m_4, m_5, m_6, m_7, m_8⟩, _⟩ := HXm.out.call hSw; go_simp; try with_reducible rfl
 (try simp only [Act.put, zq1, zq2, zq3]); refine Ord.stepR (v := ?_) (by rfl) ?_ ?_; rotate_left
 · intro w' hSw; obtain ⟨⟨m_0, m_1, m_2, m_3, m_4, m_5, m_6, m_7, m_8⟩, _⟩ := HXm.out.call hSw; go_simp; try with_reducible rfl
 (try simp only [Act.put, zq1, zq2, zq3]); refine Ord.stepR (v := ?_) (by rfl) ?_ ?_; rotate_left
 · intro w' hSw; obtain ⟨⟨m_0, m_1, m_2, m_3, m_4, m_5, m_6, m_7, m_8⟩, _⟩ := HXm.out.call hSw; go_simp; try with_reducible rfl
 (try simp only [Act.put, zq1, zq2, zq3]); refine Ord.stepR (v := ?_) (by rfl) ?_ ?_; rotate_left
 · intro w' hSw; obtain ⟨⟨m_0, m_1, m_2, m_3, m_4, m_5, m_6, m_7, m_8⟩, _⟩ := HXm.out.call hSw; go_simp; try with_reducible rfl
 (try simp only [Act.put, zq1, zq2, zq3]); refine Ord.stepR (v := ?_) (by rfl) ?_ ?_; rotate_left
 · intro w' hSw; obtain ⟨⟨m_0, m_1, m_2, m_3, m_4, m_5, m_6, m_7, m_8⟩, _⟩ := HXm.out.call hSw; go_simp; try with_reducible rfl
 (try simp only [Act.put, zq1, zq2, zq3]); refine Ord.stepR (v := ?_) (by rfl) ?_ ?_; rotate_left
 · intro w' hSw; obtain ⟨⟨m_0, m_1, m_2, m_3, m_4, m_5, m_6, m_7, m_8⟩, _⟩ := HXm.out.call hSw; go_simp; try with_reducible rfl
 (try simp only [Act.put, zq1, zq2, zq3]); refine Ord.stepR (v := ?_) (by rfl) ?_ ?_; rotate_left
 · intro w' hSw; obtain ⟨⟨m_0, m_1, m_2, m_3, m_4, m_5, m_6, m_7, m_8⟩, _⟩ := HXm.out.call hSw; go_simp; try with_reducible rfl
 (try simp only [Act.put, zq1, zq2, zq3]); refine Ord.stepR (v := ?_) (by rfl) ?_ ?_; rotate_left
 · intro w' hSw; obtain ⟨⟨m_0, m_1, m_2, m_3, m_4, m_5, m_6, m_7, m_8⟩, _⟩ := HXm.out.call hSw; go_simp; try with_reducible rfl
 (try simp only [Act.put, zq1, zq2, zq3]); refine Ord.stepC (v := .string ⟨⟨pubU annaT⟩⟩) (by rfl) ?_ (fun w1 hS => (HPU.out w1).mono fun e w2 h => ⟨h.1, Bel.call hS h.2⟩) ?_
 · intro w' hSw; obtain ⟨⟨m_0, m_1, m_2, m_3, m_4, m_5, m_6, m_7, m_8⟩, _⟩ := HXm.out.call hSw; go_simp; (try with_reducible rfl); try exact ⟨rfl, rfl⟩
 (try simp only [Act.put, zq1, zq2, zq3]); refine Ord.stepC (v := .int .i64 0) (by rfl) ?_ (fun w1 hS => (check_to MC (P := ⟨⟨pubU annaT⟩⟩) (O := annaB) (F := notesB) (c := 0) ((check_mOf ann0 (by decide) (by decide) anna_len _ _).trans rfl) (few_mOf ann0 (by decide) (by decide)) (pub_size (T := ⟨⟨pubU annaT⟩⟩) anna_len rfl) (by decide) (by decide) _ (HIm.out.below hS zl)).mono fun e w2 h => ⟨h.1, Bel.call hS h.2⟩) ?_
 · intro w' hSw; obtain ⟨⟨m_0, m_1, m_2, m_3, m_4, m_5, m_6, m_7, m_8⟩, _⟩ := HXm.out.call hSw; go_simp; (try with_reducible rfl); try exact ⟨rfl, rfl⟩
 (try simp only [Act.put, zq1, zq2, zq3]); refine Ord.stepR (v := ?_) (by rfl) ?_ ?_; rotate_left
 · intro w' hSw; obtain ⟨⟨m_0, m_1, m_2, m_3, m_4, m_5, m_6, m_7, m_8⟩, _⟩ := HXm.out.call hSw; go_simp; try with_reducible rfl
 (try simp only [Act.put, zq1, zq2, zq3]); refine Ord.stepR (v := ?_) (by rfl) ?_ ?_; rotate_left
 · intro w' hSw; obtain ⟨⟨m_0, m_1, m_2, m_3, m_4, m_5, m_6, m_7, m_8⟩, _⟩ := HXm.out.call hSw; go_simp; try with_reducible rfl
 (try simp only [Act.put, zq1, zq2, zq3]); refine Ord.stepR (v := ?_) (by rfl) ?_ ?_; rotate_left
 · intro w' hSw; obtain ⟨⟨m_0, m_1, m_2, m_3, m_4, m_5, m_6, m_7, m_8⟩, _⟩ := HXm.out.call hSw; go_simp; try with_reducible rfl
 try simp only [Act.put, zq1, zq2, zq3]
 refine Ord.stepD fun w' hS => ?_
 go_wp2
 go_ret
 exact ⟨rfl, Bel.call HB.out hS⟩
end Go.Proofs.YtlkgjceddbclpaaGreat.Mta

