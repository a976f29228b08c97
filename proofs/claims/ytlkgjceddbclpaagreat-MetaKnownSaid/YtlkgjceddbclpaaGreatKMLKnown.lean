/-
  MLKnown. By an AI agent; no person has read it.
-/
import Derived.Test.YtlkgjceddbclpaaGreatKZ
import Derived.Test.YtlkgjceddbclpaaGreatKMShown
import Derived.Test.YtlkgjceddbclpaaGreatKMPairs
namespace Go.Proofs.YtlkgjceddbclpaaGreat.Mta
open Go.RowKit Wire Term Rig Draw

set_option linter.unusedSimpArgs false
set_option linter.unusedVariables false
theorem known_at {j : Nat} (hj : j < 8) : knownL[j]? = some (kn j) := by
 unfold knownL
 rw [List.getElem?_map, List.getElem?_range hj]; rfl
theorem knows_oth {k : List (Tm × Tm)} (h : Knows k) {r : Rt} (hr : Ann r) : ∀ s ∈ oth r, pub k s = (pubU s, 0) := fun s hs => h s (oth_wn hr s hs)
theorem isM_ver {ok : Nat → Prop} {w : World} {m : Mt} {a0 a1 a2 a3 a4 a6 a7 a8 : Value} {u : Nat} (h : IsM ok w (.agg #[a0, a1, a2, a3, a4, .int .u64 (u : Int), a6, a7, a8]) m) : u = m.ver := by
 obtain ⟨o, f, g, p, A, c, rs, B, d, ws, u', V, x, vs, K, y, ks, he, hm, _⟩ := isM_lit h
 rw [hm]
 injection he with he
 have h5 := congrArg (fun a => a[5]?) he
 simp at h5
 show u = u'
 omega
theorem put_to (MP : MPutOK) {r : Rt} (h : Ann r) {n ver : Nat} (hn : n < 18446744073709551616) (hv : ver < 18446744073709551616) (v : Value) (w : World) (hm : IsM AnyB w v (mOf r n ver)) :
  Calls Tryz.prog 24 #[v] w fun e w' => e = .returned (.tuple #[.string ⟨⟨both (bodyB (mOf r n ver))⟩⟩, .int .i64 0]) ∧ Below w.heap.size w w' := by
 have h2 := MP v _ w hm (few_mOf h hn hv)
 rw [put_mOf h hn hv] at h2
 refine h2.mono fun e w' h => ?_
 obtain ⟨⟨⟨⟨l⟩⟩, hl, he⟩, hb⟩ := h
 have hl' : l = both (bodyB (mOf r n ver)) := hl
 subst hl'
 exact ⟨he, hb⟩
theorem knows_here {zs : List (ByteArray × ByteArray)} {q : Nat} (hz : pl zs = (List.range 8).map fun i => kn ((i + q) % 8)) (hq : q < 8) (x : ByteArray) (tl : List (ByteArray × ByteArray)) : Knows (pl (([(⟨#[122, 111, 101]⟩, x)] ++ zs) ++ tl)) := by
 have h : pl (([(⟨#[122, 111, 101]⟩, x)] ++ zs) ++ tl) = [(zoeT, x.data.toList)] ++ (List.range 8).map (fun i => kn ((i + q) % 8)) ++ pl tl := by
  rw [← hz]; simp [pl]; rfl
 rw [h]
 refine knows_turned hq fun y hy => ?_
 obtain rfl := List.mem_singleton.1 hy
 exact zoe_not
theorem fit_here {zs : List (ByteArray × ByteArray)} {q : Nat} (hz : pl zs = (List.range 8).map fun i => kn ((i + q) % 8)) (hq : q < 8) {Y : ByteArray} (hY : Y.data.toList = pubU [122, 111, 101]) : Fit (pl (([(⟨#[122, 111, 101]⟩, ⟨#[120]⟩)] ++ zs) ++ [(⟨#[98, 101, 110]⟩, Y), (⟨#[99, 121]⟩, ⟨#[]⟩)])) := by
 have h : pl (([(⟨#[122, 111, 101]⟩, ⟨#[120]⟩)] ++ zs) ++ [(⟨#[98, 101, 110]⟩, Y), (⟨#[99, 121]⟩, ⟨#[]⟩)]) = [(zoeT, [120])] ++ (List.range 8).map (fun i => kn ((i + q) % 8)) ++ [([98, 101, 110], pubU zoeT), ([99, 121], [])] := by
  rw [← hz]; simp [pl, hY]; exact ⟨rfl, rfl⟩
 rw [h]
 refine ⟨by simp, fun b hb => ?_⟩
 have hz := (pubU_sz (who := zoeT) (by decide)).2
 rcases List.mem_append.1 hb with hb | hb
 ·
  rcases List.mem_append.1 hb with hb | hb
  ·
   obtain rfl := List.mem_singleton.1 hb
   exact ⟨by decide, by decide⟩
  ·
   obtain ⟨i, _, rfl⟩ := List.mem_map.1 hb
   exact fit_kn (Nat.mod_lt _ (by decide))
 ·
  simp only [List.mem_cons, List.not_mem_nil, or_false] at hb
  rcases hb with rfl | rfl
  · exact ⟨by show 3 ≤ _; omega, by show (pubU zoeT).length ≤ _; omega⟩
  · exact ⟨by show 2 ≤ _; omega, by show 0 ≤ _; omega⟩
set_option maxHeartbeats 8000000 in
set_option maxRecDepth 1000000 in
theorem known_walk (MT : MTakeOK) (MB : MBuildOK) (MC : MCheckOK) (MP : MPutOK) (a : Option Addr) (n c : Nat) (Z : Nat → Nat → Int) (ver : Nat) (root by0 : Int) (w : World) (ha : Acts.AReads 2 w a n Z) (hv : ver < 18446744073709551616)
    (hr0 : -9223372036854775808 ≤ root ∧ root ≤ 9223372036854775807) (hb0 : -9223372036854775808 ≤ by0 ∧ by0 ≤ 9223372036854775807) :
    Calls Tryz.prog 7 #[.slice a n c, .int .u64 (ver : Int), .int .i64 root, .int .i64 by0] w fun e w' => e = .returned (.bool true) ∧ Below w.heap.size w w' := by
  have HSH := zh fun w => shown8_any MT MB MC w
  have HD := zh fun w' (hb : Below w.heap.size w w') => turned_any a n c Z [] w' (ha.below hb zl) gs_nil
  have HKN := zh fun w => known_any w
  have HZP := zh fun w => publicOf_any ⟨#[122, 111, 101]⟩ w (by decide)
  have HSE : Hid (∀ w, Calls Tryz.prog 14 #[.string ⟨#[97, 110, 110, 97]⟩] w fun e w' => St (secU annaT) e ∧ Below w.heap.size w w') := fun w => secretOf_any annaB w (by decide)
  have HRO := zh fun w => rootOf_any root w hr0
  have HPK : Hid (∀ w, Calls Tryz.prog 12 #[.int .i64 by0, .int .i64 8] w fun e w' => e = .returned (.int .i64 (Rig.pk by0 8 : Int)) ∧ w' = w) := fun w => pick7_any by0 8 w hb0 (by decide) (by decide)
  have hnr : Rig.pk root 5 < 18446744073709551616 := by have := Rig.pk_lt root (n := 5) (by decide); omega
  have hpl := Rig.pk_lt by0 (n := 8) (by decide)
  obtain ⟨i0, hi0, hz0, hz1, hz2⟩ := info_parts known_info
  obtain ⟨q, hq⟩ : ∃ q, Rig.pk by0 8 = q := ⟨_, rfl⟩
  rw [hq] at HPK hpl
  clear ha hq hb0 hr0
  go_enter Tryz.func7, Tryz.ntmps7
  have HB := zh (Below.refl w.heap.size w)
  go_wp2_with fail
  with_reducible refine (HSH.out _).mono ?_
  rintro e1 w1 ⟨rfl, hb1⟩
  replace HB := zh (Bel.call HB.out hb1)
  clear hb1
  dsimp only
  go_wp2_with fail
  with_reducible refine (HD.out _ HB.out).mono ?_
  rintro e2 w2 ⟨⟨v2, r, han, hx2, rfl⟩, hb2⟩
  replace HB := zh (Bel.call HB.out hb2)
  clear hb2
  obtain ⟨or, fr, pr, Ar, nr, cr, Br, mr, dr, rfl, hq1, hq2, hq3, hq4, hq5, hx2⟩ := isX_lit hx2
  have HEr := zh hq1
  have HNr := zh hq2
  have HMr := zh hq3
  clear hq1 hq2 hq3 hq4 hq5
  have HIr := zh hx2
  have HAN := zh han
  clear hx2 han
  dsimp only
  have hep := (ann_ep HAN.out).1
  have hep2 := (ann_ep HAN.out).2
  have hpr0 : 0 ≤ pr := by rw [HEr.out]; omega
  have hpr7 : pr ≤ 7 := by rw [HEr.out]; omega
  have HSG : Hid (∀ w, Calls Tryz.prog 13 #[.int .i64 (pr + 1)] w fun e w' => Lst w.heap.size (sgs (r.ep.toNat + 1)) e w' ∧ Below w.heap.size w w') := fun w => by
    have h := signersOf_any (r.ep.toNat + 1) w (by omega)
    rw [show (((r.ep.toNat + 1 : Nat)) : Int) = pr + 1 from by rw [HEr.out]; omega] at h
    exact h
  clear hep hep2
  go_wp2_with fail
  have hal := al w2 (.cells #[.string or, .string fr, .int .i64 pr, .slice Ar nr cr, .slice Br mr dr] 27)
  have hXX := bx_alloc w2 or fr pr Ar nr cr Br mr dr 27
  obtain ⟨Gr, hG⟩ : ∃ g, w2.heap.size = g := ⟨_, rfl⟩
  generalize w2.alloc (.cells #[.string or, .string fr, .int .i64 pr, .slice Ar nr cr, .slice Br mr dr] 27) = v3 at hal hXX ⊢
  replace HB := zh (Bel.call HB.out hal)
  replace HIr := zh (HIr.out.below hal zl)
  rw [hG] at hXX ⊢
  have HXr := zh hXX
  clear hal hXX hG
  obtain ⟨r_0, r_1, r_2, r_3, r_4, _⟩ := HXr.out
  with_reducible refine (HKN.out _).mono ?_
  rintro e4 w4 ⟨⟨Al, cl, ll, hll, hcl, hrl, _, rfl⟩, hb4⟩
  clear r_0 r_1 r_2 r_3 r_4
  replace HB := zh (Bel.call HB.out hb4)
  replace HIr := zh (HIr.out.below hb4 zl)
  replace HXr := zh (HXr.out.below hb4 HXr.out.2.2.2.2.2)
  clear hb4
  have HLl := zh hll
  have HCl := zh hcl
  have HSl := zh hrl
  clear hll hcl hrl
  obtain ⟨r_0, r_1, r_2, r_3, r_4, _⟩ := HXr.out
  dsimp only
  go_wp2_with fail
  clear r_0 r_1 r_2 r_3 r_4
  have hll : ll.length = 8 := by have := congrArg List.length HLl.out; rw [pl_len] at this; exact this.trans (by decide)
  rw [hll]
  go_loopw [12, 13] (fun v i wr => ∃ (k : Nat) (V : Value), k ≤ 8 ∧ i = .int .i64 (k : Int) ∧ V = v ∧ Hid (OwnsP 36 w4 ((List.range k).map fun i => kn ((i + q) % 8)) V wr)) (fun _ i _ => 8 - (intOf i).toNat)
  case atStart => exact ⟨0, _, Nat.zero_le _, rfl, rfl, zh (ownsP_nil _ w4 (Below.refl _ _))⟩
  case round =>
    obtain ⟨k, v, hk, rfl, rfl, HO⟩ := hrel
    obtain ⟨zs, hz, hown, hbel⟩ := HO.out
    have HOW := zh hown
    have HBL := zh hbel
    have HZ := zh hz
    have hzl : zs.length = k := by
      have := congrArg List.length hz
      rw [pl_len, List.length_map, List.length_range] at this
      exact this
    have HPR := zh (HSl.out.below hbel zl)
    clear hown hbel hz
    by_cases hlt : k < 8
    · have hlt' : (k : Int) < 8 := by omega
      obtain ⟨j, hj⟩ : ∃ j, (k + q) % 8 = j := ⟨_, rfl⟩
      have hji : ((k : Int) + (q : Int)) % 8 = (j : Int) := by omega
      have hjl : j < 8 := by omega
      have hjl2 : (j : Int) < 8 := by omega
      have hat := pl_at (ks := ll) (k := j) (by omega)
      rw [HLl.out, show knownL[j]? = some (kn j) from known_at hjl] at hat
      obtain ⟨b, off, rfl, hbl, hcl, hcl2⟩ := HPR.out j (by omega)
      obtain ⟨u, x, hux⟩ : ∃ u x, ll.getD j default = (u, x) := ⟨_, _, rfl⟩
      rw [hux] at hat hcl hcl2
      simp only at hat hcl hcl2
      have HKJ := zh (Option.some.inj hat)
      have HJ := zh hj
      clear hux hat hj
      go_wp2_with fail
      with_reducible refine (HPK.out _).mono ?_
      rintro e1 wp1 ⟨rfl, rfl⟩
      dsimp only
      go_wp2_with (first
        | (at_builtin
           refine wpList_append_own _ rfl _ _ _ rfl w4.heap.size 36 i0 _ 2 32 Tryz.underlying33 hi0 hz0 hz1 hz2 rfl (by decide) _ zs.length (pcs zs) rfl ?c1 _ 1 1 [.string u, .string x] rfl rfl ?c2 ?c3 ?c4 ?c5 ?c6 ?_
           case c1 => exact HOW.out.alloc _
           case c2 => exact lit_cells _ _ _
           case c3 => exact pcs_one [(u, x)]
           case c4 => simp only [maxLen]; omega
           case c5 => omega
           case c6 =>
             have h := HBL.out.size
             simp only [World.alloc, Array.size_push]
             omega
           intro v6 w6 hown hgrow _
           have HO6 := zh hown
           have HG6 := zh hgrow
           clear hown hgrow))
      go_roundw
      case rel =>
        refine ⟨k + 1, _, by omega, by go_num, rfl, zh ⟨zs ++ [(u, x)], ?_, by have := HO6.out; rw [pcs_app]; simpa [pcs] using this, ?_⟩⟩
        · rw [List.range_succ, List.map_append, List.map_cons, List.map_nil, ← HZ.out, HJ.out, HKJ.out]; simp [pl]
        · have h1 := HBL.out
          refine (h1.alloc h1.size (.cells #[.string u, .string x] 36)).grown HG6.out (by
            have := h1.size
            simp only [World.alloc, Array.size_push]
            omega) fun g hg => ?_
          exact (HOW.out.lt g hg).1
      case measure => show 8 - ((k : Int) + 1).toNat < 8 - (k : Int).toNat; omega
    · obtain rfl : k = 8 := by omega
      clear HPR
      replace HB := zh (Bel.call HB.out HBL.out)
      replace HIr := zh (HIr.out.below HBL.out zl)
      replace HXr := zh (HXr.out.below HBL.out HXr.out.2.2.2.2.2)
      replace HSl := zh (HSl.out.below HBL.out zl)
      obtain ⟨At, ct, rfl⟩ := own_value HOW.out
      obtain ⟨ht1, _, ht3, _⟩ := preads_own HOW.out
      rw [hzl] at ht3 ⊢
      have HT1 := zh ht1
      have HT3 := zh ht3
      clear ht1 ht3 HOW HBL
      obtain ⟨r_0, r_1, r_2, r_3, r_4, _⟩ := HXr.out
      go_wp2_with (first
        | (at_builtin
           refine append_prs rfl _ _ 33 36 i0 Tryz.underlying33 hi0 hz0 hz1 hz2 rfl wr.heap.size _ 1 [(⟨#[122, 111, 101]⟩, ⟨#[120]⟩)] zs rfl ?c1 _ _ _ rfl ?c2 ?c3 ?c4 ?c5 ?c6 ?_
           case c1 => exact own_lit_prs wr _ [(⟨#[122, 111, 101]⟩, ⟨#[120]⟩)] _ rfl _ rfl 1 rfl (by decide)
           case c2 => exact hzl.symm
           case c3 => exact HT3.out.2
           case c4 => exact HT1.out.below (al _ _) zl
           case c5 => omega
           case c6 => simp only [World.alloc, Array.size_push]; omega
           intro v6 w6 hown hbl
           have HO6 := zh hown
           have hb6 := (al wr (.cells #[.string ⟨#[122, 111, 101]⟩, .string ⟨#[120]⟩] 36)).trans hbl
           clear hown hbl))
      clear r_0 r_1 r_2 r_3 r_4
      have HBR := zh hb6
      clear hb6
      with_reducible refine (HZP.out _).mono ?_
      rintro e5 w5 ⟨⟨Y, hTY, rfl⟩, hb5⟩
      replace HBR := zh (Bel.call HBR.out hb5)
      replace HO6 := zh (own_below HO6.out hb5 zl)
      clear hb5
      try dsimp only at hTY
      have HTY := zh hTY
      clear hTY
      dsimp only
      have hwr : wr.heap.size ≤ w5.heap.size := HBR.out.size
      go_wp2_with (first
        | (at_builtin
           refine wpList_append_own _ rfl _ _ _ rfl wr.heap.size 36 i0 _ 2 32 Tryz.underlying33 hi0 hz0 hz1 hz2 rfl (by decide) _ 9 (pcs ([(⟨#[122, 111, 101]⟩, ⟨#[120]⟩)] ++ zs)) rfl ?c1 _ 2 2 (pcs [(⟨#[98, 101, 110]⟩, Y), (⟨#[99, 121]⟩, ⟨#[]⟩)]) rfl rfl ?c2 ?c3 ?c4 ?c5 ?c6 ?_
           case c1 => exact HO6.out.alloc _
           case c2 => exact lit_cells _ _ _
           case c3 => exact pcs_one _
           case c4 => decide
           case c5 => decide
           case c6 => simp only [World.alloc, Array.size_push]; omega
           intro v8 w8 hown hgrow _
           have hO8 : w8.ownsRow wr.heap.size 36 2 v8 11 (pcs (([(⟨#[122, 111, 101]⟩, ⟨#[120]⟩)] ++ zs) ++ [(⟨#[98, 101, 110]⟩, Y), (⟨#[99, 121]⟩, ⟨#[]⟩)])) := by rw [pcs_app]; exact hown
           have hbR := HBR.out.trans (Below.grown ((al w5 (.cells (pcs [(⟨#[98, 101, 110]⟩, Y), (⟨#[99, 121]⟩, ⟨#[]⟩)]).toArray 36)).mono hwr) hgrow (by simp only [World.alloc, Array.size_push]; omega) fun g hg => (HO6.out.lt g hg).1)
           clear hown hgrow
           obtain ⟨Ak, ck, rfl⟩ := own_value hO8
           obtain ⟨hk1, hk2, hk3, _⟩ := preads_own hO8
           have hkk : Knows (pl (([(⟨#[122, 111, 101]⟩, ⟨#[120]⟩)] ++ zs) ++ [(⟨#[98, 101, 110]⟩, Y), (⟨#[99, 121]⟩, ⟨#[]⟩)])) := knows_here HZ.out hpl _ _
           have hkf : Fit (pl (([(⟨#[122, 111, 101]⟩, ⟨#[120]⟩)] ++ zs) ++ [(⟨#[98, 101, 110]⟩, Y), (⟨#[99, 121]⟩, ⟨#[]⟩)])) := fit_here HZ.out hpl HTY.out
           generalize ([(⟨#[122, 111, 101]⟩, ⟨#[120]⟩)] ++ zs) ++ [(⟨#[98, 101, 110]⟩, Y), (⟨#[99, 121]⟩, ⟨#[]⟩)] = ks at hk1 hk2 hkk hkf
           have HSk := zh hk1
           have HNk := zh hk2
           have HCk := zh (show ks.length ≤ ck ∧ (Ak = none → ck = 0) from ⟨by omega, hk3.2⟩)
           have HKk := zh hkk
           have HFk := zh hkf
           clear hO8 hk1 hk2 hk3 hkk hkf
           replace HB := zh (Bel.call HB.out hbR)
           replace HIr := zh (HIr.out.below hbR zl)
           replace HXr := zh (HXr.out.below hbR HXr.out.2.2.2.2.2)
           replace HSl := zh (HSl.out.below hbR zl)
           obtain ⟨r_0, r_1, r_2, r_3, r_4, _⟩ := HXr.out))
      with_reducible refine (HSG.out _).mono ?_
      rintro e6 w6 ⟨⟨As, cs, ls, hls, hcs, hrs, _, rfl⟩, hb6⟩
      clear r_0 r_1 r_2 r_3 r_4
      replace HB := zh (Bel.call HB.out hb6)
      replace HIr := zh (HIr.out.below hb6 zl)
      replace HXr := zh (HXr.out.below hb6 HXr.out.2.2.2.2.2)
      replace HSl := zh (HSl.out.below hb6 zl)
      replace HSk := zh (HSk.out.below hb6 zl)
      clear hb6
      have HLs := zh hls
      have HCs := zh hcs
      have HSs := zh hrs
      clear hls hcs hrs
      obtain ⟨r_0, r_1, r_2, r_3, r_4, _⟩ := HXr.out
      dsimp only
      go_wp2_with fail
      refine region_join (R := fun a ex a' w' => ex = .normal ∧ ∃ (G : Nat) (t59 t60 t61 t62 t63 t64 t65 t66 t58 t67 t68 : Value) (om fm gm : ByteArray) (pm : Int) (Am : Option Addr) (cm : Nat) (rsm : List ByteArray) (Bm : Option Addr) (dm : Nat) (wsm : List ByteArray) (um : Nat) (Vm : Option Addr) (xm : Nat) (vsm : List ByteArray) (Km : Option Addr) (ym : Nat) (ksm : List (ByteArray × ByteArray)), a' = (((((((((((((a.put (some 59) t59).put (some 60) t60).put (some 61) t61).put (some 62) t62).put (some 63) t63).put (some 64) t64).put (some 65) t65).put (some 66) t66).put (some 58) t58).put (some 67) t67).put (some 68) t68).put (some 15) (.pointer (some ⟨G, 0, none⟩))).put (some 16) (.int .i64 0)) ∧ Mx G w' om fm pm Am rsm.length cm Bm wsm.length dm um Vm vsm.length xm Km ksm.length ym gm ∧ IsM AnyB w' (.agg #[.string om, .string fm, .int .i64 pm, .slice Am rsm.length cm, .slice Bm wsm.length dm, .int .u64 (um : Int), .slice Vm vsm.length xm, .slice Km ksm.length ym, .string gm]) (mOf r (Rig.pk root 5) ver) ∧ SepM w' (.agg #[.string om, .string fm, .int .i64 pm, .slice Am rsm.length cm, .slice Bm wsm.length dm, .int .u64 (um : Int), .slice Vm vsm.length xm, .slice Km ksm.length ym, .string gm]) ∧ Below w6.heap.size w6 w') ?_ ?_
      · have ZHB := HB
        have ZHIr := HIr
        have ZHXr := HXr
        have ZHSl := HSl
        have ZHSk := HSk
        have ZHSs := HSs
        refine wp_region_held_drew (S := fun w' => (Bx Gr w' or fr pr Ar nr cr Br mr dr)) (by kernel_rfl) (HXr.out.below (Below.drewN' (Below.refl w6.heap.size w6) 1) HXr.out.2.2.2.2.2) (fun hHeld => ?_)
        clear r_0 r_1 r_2 r_3 r_4
        have hdr : Below w6.heap.size w6 w6.drew := Below.drewN' (Below.refl _ _) 1
        obtain ⟨d7, hwd⟩ : ∃ z, w6.drew = z := ⟨_, rfl⟩
        rw [hwd] at hdr hHeld ⊢
        replace HB := zh (Bel.call HB.out hdr)
        replace HIr := zh (HIr.out.below hdr zl)
        replace HXr := zh (HXr.out.below hdr HXr.out.2.2.2.2.2)
        replace HSl := zh (HSl.out.below hdr zl)
        replace HSk := zh (HSk.out.below hdr zl)
        replace HSs := zh (HSs.out.below hdr zl)
        have HA := zh hdr
        clear hwd hdr hHeld
        obtain ⟨r_0, r_1, r_2, r_3, r_4, _⟩ := HXr.out
        have hHeld : (Bx Gr d7 or fr pr Ar nr cr Br mr dr) := HXr.out
        refine zqU 1 ?_ ?_ ?_
        rotate_left
        · intro w' hSw; obtain ⟨r_0, r_1, r_2, r_3, r_4, _⟩ := hSw; go_simp; try with_reducible rfl
        try simp only [Act.put, zq1, zq2, zq3]
        clear hHeld
        have hHeld : (Bx Gr d7 or fr pr Ar nr cr Br mr dr) := HXr.out
        refine zqU 2 ?_ ?_ ?_
        rotate_left
        · intro w' hSw; obtain ⟨r_0, r_1, r_2, r_3, r_4, _⟩ := hSw; go_simp; try with_reducible rfl
        try simp only [Act.put, zq1, zq2, zq3]
        clear hHeld
        have hHeld : (Bx Gr d7 or fr pr Ar nr cr Br mr dr) := HXr.out
        refine zqU 3 ?_ ?_ ?_
        rotate_left
        · intro w' hSw; obtain ⟨r_0, r_1, r_2, r_3, r_4, _⟩ := hSw; go_simp; try with_reducible rfl
        try simp only [Act.put, zq1, zq2, zq3]
        clear hHeld
        have hHeld : (Bx Gr d7 or fr pr Ar nr cr Br mr dr) := HXr.out
        refine zqU 5 ?_ ?_ ?_
        rotate_left
        · intro w' hSw; obtain ⟨r_0, r_1, r_2, r_3, r_4, _⟩ := hSw; go_simp; try with_reducible rfl
        try simp only [Act.put, zq1, zq2, zq3]
        clear hHeld
        have hHeld : (Bx Gr d7 or fr pr Ar nr cr Br mr dr) := HXr.out
        refine zqU 6 ?_ ?_ ?_
        rotate_left
        · intro w' hSw; obtain ⟨r_0, r_1, r_2, r_3, r_4, _⟩ := hSw; go_simp; try with_reducible rfl
        try simp only [Act.put, zq1, zq2, zq3]
        clear hHeld
        refine zqR [0, 11] ?_
        refine zqC (fun K hK => ?_) ?_
        · go_simp
          with_reducible refine (HSE.out _).mono ?_
          rintro e8 w8 ⟨⟨S, hTS, rfl⟩, hb8⟩
          clear r_0 r_1 r_2 r_3 r_4
          replace HB := zh (Bel.call HB.out hb8)
          replace HIr := zh (HIr.out.below hb8 zl)
          replace HXr := zh (HXr.out.below hb8 HXr.out.2.2.2.2.2)
          replace HSl := zh (HSl.out.below hb8 zl)
          replace HSk := zh (HSk.out.below hb8 zl)
          replace HSs := zh (HSs.out.below hb8 zl)
          replace HA := zh (Bel.call HA.out hb8)
          clear hb8
          try dsimp only at hTS
          have HTS := zh hTS
          clear hTS
          obtain ⟨r_0, r_1, r_2, r_3, r_4, _⟩ := HXr.out
          dsimp only
          refine hK.out _ _ (HXr.out) (fun hHeld => ?_)
          clear hHeld
          try simp only [Act.put, zq1, zq2, zq3]
          refine zqR [4, 11] ?_
          refine zqC (fun K hK => ?_) ?_
          · go_simp
            with_reducible refine (HRO.out _).mono ?_
            rintro e9 w9 ⟨⟨R, hTR, rfl⟩, hb9⟩
            clear r_0 r_1 r_2 r_3 r_4
            replace HB := zh (Bel.call HB.out hb9)
            replace HIr := zh (HIr.out.below hb9 zl)
            replace HXr := zh (HXr.out.below hb9 HXr.out.2.2.2.2.2)
            replace HSl := zh (HSl.out.below hb9 zl)
            replace HSk := zh (HSk.out.below hb9 zl)
            replace HSs := zh (HSs.out.below hb9 zl)
            replace HA := zh (Bel.call HA.out hb9)
            clear hb9
            try dsimp only at hTR
            have HTR := zh hTR
            clear hTR
            obtain ⟨r_0, r_1, r_2, r_3, r_4, _⟩ := HXr.out
            dsimp only
            refine hK.out _ _ (HXr.out) (fun hHeld => ?_)
            clear hHeld
            try simp only [Act.put, zq1, zq2, zq3]
            refine zqR [7, 11] ?_
            refine zqC (fun K hK => ?_) ?_
            · go_simp
              with_reducible refine (build_to MB HAN.out (n := Rig.pk root 5) (ver := ver) hnr hv HTS.out HTR.out HLs.out (by rw [HLl.out]; exact knows_oth knows_all HAN.out) (by rw [HLl.out]; exact fit_known) (K := Al) (ck := cl) (ks := ll) [] _ _ gs_nil HIr.out HSs.out HCs.out HSl.out HCl.out (vz := (ver : Int)) rfl (ns := ls.length) rfl (nk := 8) (hll.symm)).mono ?_
              rintro e10 w10 ⟨⟨v10, hm10, hs10, rfl⟩, hb10⟩
              clear r_0 r_1 r_2 r_3 r_4
              replace HB := zh (Bel.call HB.out hb10)
              replace HIr := zh (HIr.out.below hb10 zl)
              replace HXr := zh (HXr.out.below hb10 HXr.out.2.2.2.2.2)
              replace HSl := zh (HSl.out.below hb10 zl)
              replace HSk := zh (HSk.out.below hb10 zl)
              replace HSs := zh (HSs.out.below hb10 zl)
              replace HA := zh (Bel.call HA.out hb10)
              clear hb10
              obtain ⟨om, fm, gm, pm, Am, cm, rsm, Bm, dm, wsm, um, Vm, xm, vsm, Km, ym, ksm, rfl, him, _, _, _, _, _⟩ := isM_lit hm10
              have HEm := zh him
              have HIm := zh hm10
              clear hm10 him
              have HPm := zh hs10
              clear hs10
              obtain ⟨r_0, r_1, r_2, r_3, r_4, _⟩ := HXr.out
              dsimp only
              refine hK.out _ _ (HXr.out) (fun hHeld => ?_)
              clear hHeld
              try simp only [Act.put, zq1, zq2, zq3]
              have hHeld : (Bx Gr w10 or fr pr Ar nr cr Br mr dr) := HXr.out
              refine zqU 8 ?_ ?_ ?_
              rotate_left
              · intro w' hSw; obtain ⟨r_0, r_1, r_2, r_3, r_4, _⟩ := hSw; go_simp; try with_reducible rfl
              try simp only [Act.put, zq1, zq2, zq3]
              clear hHeld
              have hHeld : (Bx Gr w10 or fr pr Ar nr cr Br mr dr) := HXr.out
              refine zqU 9 ?_ ?_ ?_
              rotate_left
              · intro w' hSw; obtain ⟨r_0, r_1, r_2, r_3, r_4, _⟩ := hSw; go_simp; try with_reducible rfl
              try simp only [Act.put, zq1, zq2, zq3]
              clear hHeld
              have hHeld : (Bx Gr w10 or fr pr Ar nr cr Br mr dr) := HXr.out
              refine zqU 10 ?_ ?_ ?_
              rotate_left
              · intro w' hSw; obtain ⟨r_0, r_1, r_2, r_3, r_4, _⟩ := hSw; go_simp; try with_reducible rfl
              try simp only [Act.put, zq1, zq2, zq3]
              clear hHeld
              refine zqR [11] ?_
              refine zqC (fun K hK => ?_) AllReadyH.nil
              go_simp
              clear r_0 r_1 r_2 r_3 r_4
              have hal := al w10 (.cells #[.string ⟨#[]⟩, .string ⟨#[]⟩, .int .i64 0, .slice none 0 0, .slice none 0 0, .int .u64 0, .slice none 0 0, .slice none 0 0, .string ⟨#[]⟩] 39)
              have hXX : Mx w10.heap.size (w10.alloc (.cells #[.string ⟨#[]⟩, .string ⟨#[]⟩, .int .i64 0, .slice none 0 0, .slice none 0 0, .int .u64 0, .slice none 0 0, .slice none 0 0, .string ⟨#[]⟩] 39)) ⟨#[]⟩ ⟨#[]⟩ 0 none 0 0 none 0 0 0 none 0 0 none 0 0 ⟨#[]⟩ := mx_alloc w10 ⟨#[]⟩ ⟨#[]⟩ 0 none 0 0 none 0 0 0 none 0 0 none 0 0 ⟨#[]⟩ 39
              have hFF := sf9_alloc w10 #[.string ⟨#[]⟩, .string ⟨#[]⟩, .int .i64 0, .slice none 0 0, .slice none 0 0, .int .u64 0, .slice none 0 0, .slice none 0 0, .string ⟨#[]⟩] 39
              have hGE : w6.heap.size ≤ w10.heap.size := HA.out.size
              have hGL : w10.heap.size ≤ w10.heap.size := Nat.le_refl _
              obtain ⟨Gm, hG⟩ : ∃ g, w10.heap.size = g := ⟨_, rfl⟩
              generalize w10.alloc (.cells #[.string ⟨#[]⟩, .string ⟨#[]⟩, .int .i64 0, .slice none 0 0, .slice none 0 0, .int .u64 0, .slice none 0 0, .slice none 0 0, .string ⟨#[]⟩] 39) = v11 at hal hXX hFF ⊢
              rw [hG] at hXX hFF hGE ⊢
              replace HIr := zh (offX_new HIr.out (Nat.le_of_eq hG))
              replace HIm := zh (off_new HIm.out (Nat.le_of_eq hG))
              replace HB := zh (Bel.call HB.out hal)
              replace HIr := zh (HIr.out.below hal zl)
              replace HXr := zh (HXr.out.below hal HXr.out.2.2.2.2.2)
              replace HSl := zh (HSl.out.below hal zl)
              replace HSk := zh (HSk.out.below hal zl)
              replace HSs := zh (HSs.out.below hal zl)
              replace HA := zh (Bel.call HA.out hal)
              replace HIm := zh (HIm.out.below hal zl)
              replace HPm := zh (HPm.out.below hal)
              have HXm := zh hXX
              have HFm := zh hFF
              have HGm := zh hGE
              clear hal hXX hFF hGE hGL hG
              obtain ⟨r_0, r_1, r_2, r_3, r_4, _⟩ := HXr.out
              obtain ⟨⟨m_0, m_1, m_2, m_3, m_4, m_5, m_6, m_7, m_8⟩, _⟩ := HXm.out
              refine hK.out _ _ (HXr.out) (fun hHeld => ?_)
              clear hHeld
              try simp only [Act.put, zq1, zq2, zq3]
              refine zqR [12] ?_
              refine zqC (fun K hK => ?_) AllReadyH.nil
              obtain ⟨z0, z1, z2, z3, z4, z5, z6, z7, z8⟩ := HFm.out
              go_simp
              have hXX : Mx Gm (((((((((v11.setCell ⟨Gm, 0, none⟩ (.string om)).setCell ⟨Gm, 1, none⟩ (.string fm)).setCell ⟨Gm, 2, none⟩ (.int .i64 pm)).setCell ⟨Gm, 3, none⟩ (.slice Am rsm.length cm)).setCell ⟨Gm, 4, none⟩ (.slice Bm wsm.length dm)).setCell ⟨Gm, 5, none⟩ (.int .u64 (um : Int))).setCell ⟨Gm, 6, none⟩ (.slice Vm vsm.length xm)).setCell ⟨Gm, 7, none⟩ (.slice Km ksm.length ym)).setCell ⟨Gm, 8, none⟩ (.string gm)) om fm pm Am rsm.length cm Bm wsm.length dm um Vm vsm.length xm Km ksm.length ym gm := mx_set9 HXm.out
              have hII : IsM AnyB (((((((((v11.setCell ⟨Gm, 0, none⟩ (.string om)).setCell ⟨Gm, 1, none⟩ (.string fm)).setCell ⟨Gm, 2, none⟩ (.int .i64 pm)).setCell ⟨Gm, 3, none⟩ (.slice Am rsm.length cm)).setCell ⟨Gm, 4, none⟩ (.slice Bm wsm.length dm)).setCell ⟨Gm, 5, none⟩ (.int .u64 (um : Int))).setCell ⟨Gm, 6, none⟩ (.slice Vm vsm.length xm)).setCell ⟨Gm, 7, none⟩ (.slice Km ksm.length ym)).setCell ⟨Gm, 8, none⟩ (.string gm)) (.agg #[.string om, .string fm, .int .i64 pm, .slice Am rsm.length cm, .slice Bm wsm.length dm, .int .u64 (um : Int), .slice Vm vsm.length xm, .slice Km ksm.length ym, .string gm]) (mOf r (Rig.pk root 5) ver) := (isM_set9 (List.mem_cons_self ..) HIm.out).any
              have hSP : SepM (((((((((v11.setCell ⟨Gm, 0, none⟩ (.string om)).setCell ⟨Gm, 1, none⟩ (.string fm)).setCell ⟨Gm, 2, none⟩ (.int .i64 pm)).setCell ⟨Gm, 3, none⟩ (.slice Am rsm.length cm)).setCell ⟨Gm, 4, none⟩ (.slice Bm wsm.length dm)).setCell ⟨Gm, 5, none⟩ (.int .u64 (um : Int))).setCell ⟨Gm, 6, none⟩ (.slice Vm vsm.length xm)).setCell ⟨Gm, 7, none⟩ (.slice Km ksm.length ym)).setCell ⟨Gm, 8, none⟩ (.string gm)) (.agg #[.string om, .string fm, .int .i64 pm, .slice Am rsm.length cm, .slice Bm wsm.length dm, .int .u64 (um : Int), .slice Vm vsm.length xm, .slice Km ksm.length ym, .string gm]) := sepM_set9 HPm.out
              have hBB : Below w6.heap.size w6 (((((((((v11.setCell ⟨Gm, 0, none⟩ (.string om)).setCell ⟨Gm, 1, none⟩ (.string fm)).setCell ⟨Gm, 2, none⟩ (.int .i64 pm)).setCell ⟨Gm, 3, none⟩ (.slice Am rsm.length cm)).setCell ⟨Gm, 4, none⟩ (.slice Bm wsm.length dm)).setCell ⟨Gm, 5, none⟩ (.int .u64 (um : Int))).setCell ⟨Gm, 6, none⟩ (.slice Vm vsm.length xm)).setCell ⟨Gm, 7, none⟩ (.slice Km ksm.length ym)).setCell ⟨Gm, 8, none⟩ (.string gm)) := set9 HA.out HGm.out
              have hKr : Bx Gr (((((((((v11.setCell ⟨Gm, 0, none⟩ (.string om)).setCell ⟨Gm, 1, none⟩ (.string fm)).setCell ⟨Gm, 2, none⟩ (.int .i64 pm)).setCell ⟨Gm, 3, none⟩ (.slice Am rsm.length cm)).setCell ⟨Gm, 4, none⟩ (.slice Bm wsm.length dm)).setCell ⟨Gm, 5, none⟩ (.int .u64 (um : Int))).setCell ⟨Gm, 6, none⟩ (.slice Vm vsm.length xm)).setCell ⟨Gm, 7, none⟩ (.slice Km ksm.length ym)).setCell ⟨Gm, 8, none⟩ (.string gm)) or fr pr Ar nr cr Br mr dr := bx_other9 HXr.out (fun e => by have h1 := ZHXr.out.2.2.2.2.2; have h2 := HGm.out; omega)
              clear r_0 r_1 r_2 r_3 r_4 m_0 m_1 m_2 m_3 m_4 m_5 m_6 m_7 m_8
              generalize (((((((((v11.setCell ⟨Gm, 0, none⟩ (.string om)).setCell ⟨Gm, 1, none⟩ (.string fm)).setCell ⟨Gm, 2, none⟩ (.int .i64 pm)).setCell ⟨Gm, 3, none⟩ (.slice Am rsm.length cm)).setCell ⟨Gm, 4, none⟩ (.slice Bm wsm.length dm)).setCell ⟨Gm, 5, none⟩ (.int .u64 (um : Int))).setCell ⟨Gm, 6, none⟩ (.slice Vm vsm.length xm)).setCell ⟨Gm, 7, none⟩ (.slice Km ksm.length ym)).setCell ⟨Gm, 8, none⟩ (.string gm)) = v12 at hXX hII hSP hBB hKr ⊢
              have HSX := zh hXX
              have HSI := zh hII
              have HSS := zh hSP
              have HSB := zh hBB
              clear hXX hII hSP hBB z0 z1 z2 z3 z4 z5 z6 z7 z8
              refine hK.out _ _ (hKr) (fun hHeld => ?_)
              clear hHeld
              try simp only [Act.put, zq1, zq2, zq3]
              have hHeld : (Bx Gr v12 or fr pr Ar nr cr Br mr dr) := hKr
              refine zqU 13 ?_ ?_ ?_
              rotate_left
              · intro w' hSw; obtain ⟨r_0, r_1, r_2, r_3, r_4, _⟩ := hSw; go_simp; try with_reducible rfl
              try simp only [Act.put, zq1, zq2, zq3]
              clear hHeld
              refine wpAnyH_done (by kernel_rfl) ?_ _
              exact ⟨rfl, Gm, _, _, _, _, _, _, _, _, _, _, _, om, fm, gm, pm, Am, cm, rsm, Bm, dm, wsm, um, Vm, xm, vsm, Km, ym, ksm, rfl, HSX.out, HSI.out, HSS.out, HSB.out⟩
            refine zqC (fun K hK => ?_) AllReadyH.nil
            go_simp
            clear r_0 r_1 r_2 r_3 r_4
            have hal := al w9 (.cells #[.string ⟨#[]⟩, .string ⟨#[]⟩, .int .i64 0, .slice none 0 0, .slice none 0 0, .int .u64 0, .slice none 0 0, .slice none 0 0, .string ⟨#[]⟩] 39)
            have hXX : Mx w9.heap.size (w9.alloc (.cells #[.string ⟨#[]⟩, .string ⟨#[]⟩, .int .i64 0, .slice none 0 0, .slice none 0 0, .int .u64 0, .slice none 0 0, .slice none 0 0, .string ⟨#[]⟩] 39)) ⟨#[]⟩ ⟨#[]⟩ 0 none 0 0 none 0 0 0 none 0 0 none 0 0 ⟨#[]⟩ := mx_alloc w9 ⟨#[]⟩ ⟨#[]⟩ 0 none 0 0 none 0 0 0 none 0 0 none 0 0 ⟨#[]⟩ 39
            have hFF := sf9_alloc w9 #[.string ⟨#[]⟩, .string ⟨#[]⟩, .int .i64 0, .slice none 0 0, .slice none 0 0, .int .u64 0, .slice none 0 0, .slice none 0 0, .string ⟨#[]⟩] 39
            have hGE : w6.heap.size ≤ w9.heap.size := HA.out.size
            have hGL : w9.heap.size ≤ w9.heap.size := Nat.le_refl _
            obtain ⟨Gm, hG⟩ : ∃ g, w9.heap.size = g := ⟨_, rfl⟩
            generalize w9.alloc (.cells #[.string ⟨#[]⟩, .string ⟨#[]⟩, .int .i64 0, .slice none 0 0, .slice none 0 0, .int .u64 0, .slice none 0 0, .slice none 0 0, .string ⟨#[]⟩] 39) = v10 at hal hXX hFF ⊢
            rw [hG] at hXX hFF hGE ⊢
            replace HIr := zh (offX_new HIr.out (Nat.le_of_eq hG))
            replace HB := zh (Bel.call HB.out hal)
            replace HIr := zh (HIr.out.below hal zl)
            replace HXr := zh (HXr.out.below hal HXr.out.2.2.2.2.2)
            replace HSl := zh (HSl.out.below hal zl)
            replace HSk := zh (HSk.out.below hal zl)
            replace HSs := zh (HSs.out.below hal zl)
            replace HA := zh (Bel.call HA.out hal)
            have HXm := zh hXX
            have HFm := zh hFF
            have HGm := zh hGE
            clear hal hXX hFF hGE hGL hG
            obtain ⟨r_0, r_1, r_2, r_3, r_4, _⟩ := HXr.out
            obtain ⟨⟨m_0, m_1, m_2, m_3, m_4, m_5, m_6, m_7, m_8⟩, _⟩ := HXm.out
            refine hK.out _ _ (HXr.out) (fun hHeld => ?_)
            clear hHeld
            try simp only [Act.put, zq1, zq2, zq3]
            refine zqR [7] ?_
            refine zqC (fun K hK => ?_) AllReadyH.nil
            go_simp
            with_reducible refine (build_to MB HAN.out (n := Rig.pk root 5) (ver := ver) hnr hv HTS.out HTR.out HLs.out (by rw [HLl.out]; exact knows_oth knows_all HAN.out) (by rw [HLl.out]; exact fit_known) (K := Al) (ck := cl) (ks := ll) [Gm] _ _ (gs_cons (Mx.lt HXm.out) gs_nil) HIr.out HSs.out HCs.out HSl.out HCl.out (vz := (ver : Int)) rfl (ns := ls.length) rfl (nk := 8) (hll.symm)).mono ?_
            rintro e11 w11 ⟨⟨v11, hm11, hs11, rfl⟩, hb11⟩
            clear r_0 r_1 r_2 r_3 r_4 m_0 m_1 m_2 m_3 m_4 m_5 m_6 m_7 m_8
            replace HB := zh (Bel.call HB.out hb11)
            replace HIr := zh (HIr.out.below hb11 zl)
            replace HXr := zh (HXr.out.below hb11 HXr.out.2.2.2.2.2)
            replace HSl := zh (HSl.out.below hb11 zl)
            replace HSk := zh (HSk.out.below hb11 zl)
            replace HSs := zh (HSs.out.below hb11 zl)
            replace HA := zh (Bel.call HA.out hb11)
            replace HFm := zh (HFm.out.below hb11 HXm.out.2)
            replace HXm := zh (HXm.out.call hb11)
            clear hb11
            obtain ⟨om, fm, gm, pm, Am, cm, rsm, Bm, dm, wsm, um, Vm, xm, vsm, Km, ym, ksm, rfl, him, _, _, _, _, _⟩ := isM_lit hm11
            have HEm := zh him
            have HIm := zh hm11
            clear hm11 him
            have HPm := zh hs11
            clear hs11
            obtain ⟨r_0, r_1, r_2, r_3, r_4, _⟩ := HXr.out
            obtain ⟨⟨m_0, m_1, m_2, m_3, m_4, m_5, m_6, m_7, m_8⟩, _⟩ := HXm.out
            dsimp only
            refine hK.out _ _ (HXr.out) (fun hHeld => ?_)
            clear hHeld
            try simp only [Act.put, zq1, zq2, zq3]
            have hHeld : (Bx Gr w11 or fr pr Ar nr cr Br mr dr) := HXr.out
            refine zqU 8 ?_ ?_ ?_
            rotate_left
            · intro w' hSw; obtain ⟨r_0, r_1, r_2, r_3, r_4, _⟩ := hSw; go_simp; try with_reducible rfl
            try simp only [Act.put, zq1, zq2, zq3]
            clear hHeld
            have hHeld : (Bx Gr w11 or fr pr Ar nr cr Br mr dr) := HXr.out
            refine zqU 9 ?_ ?_ ?_
            rotate_left
            · intro w' hSw; obtain ⟨r_0, r_1, r_2, r_3, r_4, _⟩ := hSw; go_simp; try with_reducible rfl
            try simp only [Act.put, zq1, zq2, zq3]
            clear hHeld
            have hHeld : (Bx Gr w11 or fr pr Ar nr cr Br mr dr) := HXr.out
            refine zqU 10 ?_ ?_ ?_
            rotate_left
            · intro w' hSw; obtain ⟨r_0, r_1, r_2, r_3, r_4, _⟩ := hSw; go_simp; try with_reducible rfl
            try simp only [Act.put, zq1, zq2, zq3]
            clear hHeld
            refine zqR [12] ?_
            refine zqC (fun K hK => ?_) AllReadyH.nil
            obtain ⟨z0, z1, z2, z3, z4, z5, z6, z7, z8⟩ := HFm.out
            go_simp
            have hXX : Mx Gm (((((((((w11.setCell ⟨Gm, 0, none⟩ (.string om)).setCell ⟨Gm, 1, none⟩ (.string fm)).setCell ⟨Gm, 2, none⟩ (.int .i64 pm)).setCell ⟨Gm, 3, none⟩ (.slice Am rsm.length cm)).setCell ⟨Gm, 4, none⟩ (.slice Bm wsm.length dm)).setCell ⟨Gm, 5, none⟩ (.int .u64 (um : Int))).setCell ⟨Gm, 6, none⟩ (.slice Vm vsm.length xm)).setCell ⟨Gm, 7, none⟩ (.slice Km ksm.length ym)).setCell ⟨Gm, 8, none⟩ (.string gm)) om fm pm Am rsm.length cm Bm wsm.length dm um Vm vsm.length xm Km ksm.length ym gm := mx_set9 HXm.out
            have hII : IsM AnyB (((((((((w11.setCell ⟨Gm, 0, none⟩ (.string om)).setCell ⟨Gm, 1, none⟩ (.string fm)).setCell ⟨Gm, 2, none⟩ (.int .i64 pm)).setCell ⟨Gm, 3, none⟩ (.slice Am rsm.length cm)).setCell ⟨Gm, 4, none⟩ (.slice Bm wsm.length dm)).setCell ⟨Gm, 5, none⟩ (.int .u64 (um : Int))).setCell ⟨Gm, 6, none⟩ (.slice Vm vsm.length xm)).setCell ⟨Gm, 7, none⟩ (.slice Km ksm.length ym)).setCell ⟨Gm, 8, none⟩ (.string gm)) (.agg #[.string om, .string fm, .int .i64 pm, .slice Am rsm.length cm, .slice Bm wsm.length dm, .int .u64 (um : Int), .slice Vm vsm.length xm, .slice Km ksm.length ym, .string gm]) (mOf r (Rig.pk root 5) ver) := (isM_set9 (List.mem_cons_self ..) HIm.out).any
            have hSP : SepM (((((((((w11.setCell ⟨Gm, 0, none⟩ (.string om)).setCell ⟨Gm, 1, none⟩ (.string fm)).setCell ⟨Gm, 2, none⟩ (.int .i64 pm)).setCell ⟨Gm, 3, none⟩ (.slice Am rsm.length cm)).setCell ⟨Gm, 4, none⟩ (.slice Bm wsm.length dm)).setCell ⟨Gm, 5, none⟩ (.int .u64 (um : Int))).setCell ⟨Gm, 6, none⟩ (.slice Vm vsm.length xm)).setCell ⟨Gm, 7, none⟩ (.slice Km ksm.length ym)).setCell ⟨Gm, 8, none⟩ (.string gm)) (.agg #[.string om, .string fm, .int .i64 pm, .slice Am rsm.length cm, .slice Bm wsm.length dm, .int .u64 (um : Int), .slice Vm vsm.length xm, .slice Km ksm.length ym, .string gm]) := sepM_set9 HPm.out
            have hBB : Below w6.heap.size w6 (((((((((w11.setCell ⟨Gm, 0, none⟩ (.string om)).setCell ⟨Gm, 1, none⟩ (.string fm)).setCell ⟨Gm, 2, none⟩ (.int .i64 pm)).setCell ⟨Gm, 3, none⟩ (.slice Am rsm.length cm)).setCell ⟨Gm, 4, none⟩ (.slice Bm wsm.length dm)).setCell ⟨Gm, 5, none⟩ (.int .u64 (um : Int))).setCell ⟨Gm, 6, none⟩ (.slice Vm vsm.length xm)).setCell ⟨Gm, 7, none⟩ (.slice Km ksm.length ym)).setCell ⟨Gm, 8, none⟩ (.string gm)) := set9 HA.out HGm.out
            have hKr : Bx Gr (((((((((w11.setCell ⟨Gm, 0, none⟩ (.string om)).setCell ⟨Gm, 1, none⟩ (.string fm)).setCell ⟨Gm, 2, none⟩ (.int .i64 pm)).setCell ⟨Gm, 3, none⟩ (.slice Am rsm.length cm)).setCell ⟨Gm, 4, none⟩ (.slice Bm wsm.length dm)).setCell ⟨Gm, 5, none⟩ (.int .u64 (um : Int))).setCell ⟨Gm, 6, none⟩ (.slice Vm vsm.length xm)).setCell ⟨Gm, 7, none⟩ (.slice Km ksm.length ym)).setCell ⟨Gm, 8, none⟩ (.string gm)) or fr pr Ar nr cr Br mr dr := bx_other9 HXr.out (fun e => by have h1 := ZHXr.out.2.2.2.2.2; have h2 := HGm.out; omega)
            clear r_0 r_1 r_2 r_3 r_4 m_0 m_1 m_2 m_3 m_4 m_5 m_6 m_7 m_8
            generalize (((((((((w11.setCell ⟨Gm, 0, none⟩ (.string om)).setCell ⟨Gm, 1, none⟩ (.string fm)).setCell ⟨Gm, 2, none⟩ (.int .i64 pm)).setCell ⟨Gm, 3, none⟩ (.slice Am rsm.length cm)).setCell ⟨Gm, 4, none⟩ (.slice Bm wsm.length dm)).setCell ⟨Gm, 5, none⟩ (.int .u64 (um : Int))).setCell ⟨Gm, 6, none⟩ (.slice Vm vsm.length xm)).setCell ⟨Gm, 7, none⟩ (.slice Km ksm.length ym)).setCell ⟨Gm, 8, none⟩ (.string gm)) = v12 at hXX hII hSP hBB hKr ⊢
            have HSX := zh hXX
            have HSI := zh hII
            have HSS := zh hSP
            have HSB := zh hBB
            clear hXX hII hSP hBB z0 z1 z2 z3 z4 z5 z6 z7 z8
            refine hK.out _ _ (hKr) (fun hHeld => ?_)
            clear hHeld
            try simp only [Act.put, zq1, zq2, zq3]
            have hHeld : (Bx Gr v12 or fr pr Ar nr cr Br mr dr) := hKr
            refine zqU 13 ?_ ?_ ?_
            rotate_left
            · intro w' hSw; obtain ⟨r_0, r_1, r_2, r_3, r_4, _⟩ := hSw; go_simp; try with_reducible rfl
            try simp only [Act.put, zq1, zq2, zq3]
            clear hHeld
            refine wpAnyH_done (by kernel_rfl) ?_ _
            exact ⟨rfl, Gm, _, _, _, _, _, _, _, _, _, _, _, om, fm, gm, pm, Am, cm, rsm, Bm, dm, wsm, um, Vm, xm, vsm, Km, ym, ksm, rfl, HSX.out, HSI.out, HSS.out, HSB.out⟩
          refine zqC (fun K hK => ?_) AllReadyH.nil
          go_simp
          clear r_0 r_1 r_2 r_3 r_4
          have hal := al w8 (.cells #[.string ⟨#[]⟩, .string ⟨#[]⟩, .int .i64 0, .slice none 0 0, .slice none 0 0, .int .u64 0, .slice none 0 0, .slice none 0 0, .string ⟨#[]⟩] 39)
          have hXX : Mx w8.heap.size (w8.alloc (.cells #[.string ⟨#[]⟩, .string ⟨#[]⟩, .int .i64 0, .slice none 0 0, .slice none 0 0, .int .u64 0, .slice none 0 0, .slice none 0 0, .string ⟨#[]⟩] 39)) ⟨#[]⟩ ⟨#[]⟩ 0 none 0 0 none 0 0 0 none 0 0 none 0 0 ⟨#[]⟩ := mx_alloc w8 ⟨#[]⟩ ⟨#[]⟩ 0 none 0 0 none 0 0 0 none 0 0 none 0 0 ⟨#[]⟩ 39
          have hFF := sf9_alloc w8 #[.string ⟨#[]⟩, .string ⟨#[]⟩, .int .i64 0, .slice none 0 0, .slice none 0 0, .int .u64 0, .slice none 0 0, .slice none 0 0, .string ⟨#[]⟩] 39
          have hGE : w6.heap.size ≤ w8.heap.size := HA.out.size
          have hGL : w8.heap.size ≤ w8.heap.size := Nat.le_refl _
          obtain ⟨Gm, hG⟩ : ∃ g, w8.heap.size = g := ⟨_, rfl⟩
          generalize w8.alloc (.cells #[.string ⟨#[]⟩, .string ⟨#[]⟩, .int .i64 0, .slice none 0 0, .slice none 0 0, .int .u64 0, .slice none 0 0, .slice none 0 0, .string ⟨#[]⟩] 39) = v9 at hal hXX hFF ⊢
          rw [hG] at hXX hFF hGE ⊢
          replace HIr := zh (offX_new HIr.out (Nat.le_of_eq hG))
          replace HB := zh (Bel.call HB.out hal)
          replace HIr := zh (HIr.out.below hal zl)
          replace HXr := zh (HXr.out.below hal HXr.out.2.2.2.2.2)
          replace HSl := zh (HSl.out.below hal zl)
          replace HSk := zh (HSk.out.below hal zl)
          replace HSs := zh (HSs.out.below hal zl)
          replace HA := zh (Bel.call HA.out hal)
          have HXm := zh hXX
          have HFm := zh hFF
          have HGm := zh hGE
          clear hal hXX hFF hGE hGL hG
          obtain ⟨r_0, r_1, r_2, r_3, r_4, _⟩ := HXr.out
          obtain ⟨⟨m_0, m_1, m_2, m_3, m_4, m_5, m_6, m_7, m_8⟩, _⟩ := HXm.out
          refine hK.out _ _ (HXr.out) (fun hHeld => ?_)
          clear hHeld
          try simp only [Act.put, zq1, zq2, zq3]
          refine zqR [4] ?_
          refine zqC (fun K hK => ?_) AllReadyH.nil
          go_simp
          with_reducible refine (HRO.out _).mono ?_
          rintro e10 w10 ⟨⟨R, hTR, rfl⟩, hb10⟩
          clear r_0 r_1 r_2 r_3 r_4 m_0 m_1 m_2 m_3 m_4 m_5 m_6 m_7 m_8
          replace HB := zh (Bel.call HB.out hb10)
          replace HIr := zh (HIr.out.below hb10 zl)
          replace HXr := zh (HXr.out.below hb10 HXr.out.2.2.2.2.2)
          replace HSl := zh (HSl.out.below hb10 zl)
          replace HSk := zh (HSk.out.below hb10 zl)
          replace HSs := zh (HSs.out.below hb10 zl)
          replace HA := zh (Bel.call HA.out hb10)
          replace HFm := zh (HFm.out.below hb10 HXm.out.2)
          replace HXm := zh (HXm.out.call hb10)
          clear hb10
          try dsimp only at hTR
          have HTR := zh hTR
          clear hTR
          obtain ⟨r_0, r_1, r_2, r_3, r_4, _⟩ := HXr.out
          obtain ⟨⟨m_0, m_1, m_2, m_3, m_4, m_5, m_6, m_7, m_8⟩, _⟩ := HXm.out
          dsimp only
          refine hK.out _ _ (HXr.out) (fun hHeld => ?_)
          clear hHeld
          try simp only [Act.put, zq1, zq2, zq3]
          refine zqR [7] ?_
          refine zqC (fun K hK => ?_) AllReadyH.nil
          go_simp
          with_reducible refine (build_to MB HAN.out (n := Rig.pk root 5) (ver := ver) hnr hv HTS.out HTR.out HLs.out (by rw [HLl.out]; exact knows_oth knows_all HAN.out) (by rw [HLl.out]; exact fit_known) (K := Al) (ck := cl) (ks := ll) [Gm] _ _ (gs_cons (Mx.lt HXm.out) gs_nil) HIr.out HSs.out HCs.out HSl.out HCl.out (vz := (ver : Int)) rfl (ns := ls.length) rfl (nk := 8) (hll.symm)).mono ?_
          rintro e11 w11 ⟨⟨v11, hm11, hs11, rfl⟩, hb11⟩
          clear r_0 r_1 r_2 r_3 r_4 m_0 m_1 m_2 m_3 m_4 m_5 m_6 m_7 m_8
          replace HB := zh (Bel.call HB.out hb11)
          replace HIr := zh (HIr.out.below hb11 zl)
          replace HXr := zh (HXr.out.below hb11 HXr.out.2.2.2.2.2)
          replace HSl := zh (HSl.out.below hb11 zl)
          replace HSk := zh (HSk.out.below hb11 zl)
          replace HSs := zh (HSs.out.below hb11 zl)
          replace HA := zh (Bel.call HA.out hb11)
          replace HFm := zh (HFm.out.below hb11 HXm.out.2)
          replace HXm := zh (HXm.out.call hb11)
          clear hb11
          obtain ⟨om, fm, gm, pm, Am, cm, rsm, Bm, dm, wsm, um, Vm, xm, vsm, Km, ym, ksm, rfl, him, _, _, _, _, _⟩ := isM_lit hm11
          have HEm := zh him
          have HIm := zh hm11
          clear hm11 him
          have HPm := zh hs11
          clear hs11
          obtain ⟨r_0, r_1, r_2, r_3, r_4, _⟩ := HXr.out
          obtain ⟨⟨m_0, m_1, m_2, m_3, m_4, m_5, m_6, m_7, m_8⟩, _⟩ := HXm.out
          dsimp only
          refine hK.out _ _ (HXr.out) (fun hHeld => ?_)
          clear hHeld
          try simp only [Act.put, zq1, zq2, zq3]
          have hHeld : (Bx Gr w11 or fr pr Ar nr cr Br mr dr) := HXr.out
          refine zqU 8 ?_ ?_ ?_
          rotate_left
          · intro w' hSw; obtain ⟨r_0, r_1, r_2, r_3, r_4, _⟩ := hSw; go_simp; try with_reducible rfl
          try simp only [Act.put, zq1, zq2, zq3]
          clear hHeld
          have hHeld : (Bx Gr w11 or fr pr Ar nr cr Br mr dr) := HXr.out
          refine zqU 9 ?_ ?_ ?_
          rotate_left
          · intro w' hSw; obtain ⟨r_0, r_1, r_2, r_3, r_4, _⟩ := hSw; go_simp; try with_reducible rfl
          try simp only [Act.put, zq1, zq2, zq3]
          clear hHeld
          have hHeld : (Bx Gr w11 or fr pr Ar nr cr Br mr dr) := HXr.out
          refine zqU 10 ?_ ?_ ?_
          rotate_left
          · intro w' hSw; obtain ⟨r_0, r_1, r_2, r_3, r_4, _⟩ := hSw; go_simp; try with_reducible rfl
          try simp only [Act.put, zq1, zq2, zq3]
          clear hHeld
          refine zqR [12] ?_
          refine zqC (fun K hK => ?_) AllReadyH.nil
          obtain ⟨z0, z1, z2, z3, z4, z5, z6, z7, z8⟩ := HFm.out
          go_simp
          have hXX : Mx Gm (((((((((w11.setCell ⟨Gm, 0, none⟩ (.string om)).setCell ⟨Gm, 1, none⟩ (.string fm)).setCell ⟨Gm, 2, none⟩ (.int .i64 pm)).setCell ⟨Gm, 3, none⟩ (.slice Am rsm.length cm)).setCell ⟨Gm, 4, none⟩ (.slice Bm wsm.length dm)).setCell ⟨Gm, 5, none⟩ (.int .u64 (um : Int))).setCell ⟨Gm, 6, none⟩ (.slice Vm vsm.length xm)).setCell ⟨Gm, 7, none⟩ (.slice Km ksm.length ym)).setCell ⟨Gm, 8, none⟩ (.string gm)) om fm pm Am rsm.length cm Bm wsm.length dm um Vm vsm.length xm Km ksm.length ym gm := mx_set9 HXm.out
          have hII : IsM AnyB (((((((((w11.setCell ⟨Gm, 0, none⟩ (.string om)).setCell ⟨Gm, 1, none⟩ (.string fm)).setCell ⟨Gm, 2, none⟩ (.int .i64 pm)).setCell ⟨Gm, 3, none⟩ (.slice Am rsm.length cm)).setCell ⟨Gm, 4, none⟩ (.slice Bm wsm.length dm)).setCell ⟨Gm, 5, none⟩ (.int .u64 (um : Int))).setCell ⟨Gm, 6, none⟩ (.slice Vm vsm.length xm)).setCell ⟨Gm, 7, none⟩ (.slice Km ksm.length ym)).setCell ⟨Gm, 8, none⟩ (.string gm)) (.agg #[.string om, .string fm, .int .i64 pm, .slice Am rsm.length cm, .slice Bm wsm.length dm, .int .u64 (um : Int), .slice Vm vsm.length xm, .slice Km ksm.length ym, .string gm]) (mOf r (Rig.pk root 5) ver) := (isM_set9 (List.mem_cons_self ..) HIm.out).any
          have hSP : SepM (((((((((w11.setCell ⟨Gm, 0, none⟩ (.string om)).setCell ⟨Gm, 1, none⟩ (.string fm)).setCell ⟨Gm, 2, none⟩ (.int .i64 pm)).setCell ⟨Gm, 3, none⟩ (.slice Am rsm.length cm)).setCell ⟨Gm, 4, none⟩ (.slice Bm wsm.length dm)).setCell ⟨Gm, 5, none⟩ (.int .u64 (um : Int))).setCell ⟨Gm, 6, none⟩ (.slice Vm vsm.length xm)).setCell ⟨Gm, 7, none⟩ (.slice Km ksm.length ym)).setCell ⟨Gm, 8, none⟩ (.string gm)) (.agg #[.string om, .string fm, .int .i64 pm, .slice Am rsm.length cm, .slice Bm wsm.length dm, .int .u64 (um : Int), .slice Vm vsm.length xm, .slice Km ksm.length ym, .string gm]) := sepM_set9 HPm.out
          have hBB : Below w6.heap.size w6 (((((((((w11.setCell ⟨Gm, 0, none⟩ (.string om)).setCell ⟨Gm, 1, none⟩ (.string fm)).setCell ⟨Gm, 2, none⟩ (.int .i64 pm)).setCell ⟨Gm, 3, none⟩ (.slice Am rsm.length cm)).setCell ⟨Gm, 4, none⟩ (.slice Bm wsm.length dm)).setCell ⟨Gm, 5, none⟩ (.int .u64 (um : Int))).setCell ⟨Gm, 6, none⟩ (.slice Vm vsm.length xm)).setCell ⟨Gm, 7, none⟩ (.slice Km ksm.length ym)).setCell ⟨Gm, 8, none⟩ (.string gm)) := set9 HA.out HGm.out
          have hKr : Bx Gr (((((((((w11.setCell ⟨Gm, 0, none⟩ (.string om)).setCell ⟨Gm, 1, none⟩ (.string fm)).setCell ⟨Gm, 2, none⟩ (.int .i64 pm)).setCell ⟨Gm, 3, none⟩ (.slice Am rsm.length cm)).setCell ⟨Gm, 4, none⟩ (.slice Bm wsm.length dm)).setCell ⟨Gm, 5, none⟩ (.int .u64 (um : Int))).setCell ⟨Gm, 6, none⟩ (.slice Vm vsm.length xm)).setCell ⟨Gm, 7, none⟩ (.slice Km ksm.length ym)).setCell ⟨Gm, 8, none⟩ (.string gm)) or fr pr Ar nr cr Br mr dr := bx_other9 HXr.out (fun e => by have h1 := ZHXr.out.2.2.2.2.2; have h2 := HGm.out; omega)
          clear r_0 r_1 r_2 r_3 r_4 m_0 m_1 m_2 m_3 m_4 m_5 m_6 m_7 m_8
          generalize (((((((((w11.setCell ⟨Gm, 0, none⟩ (.string om)).setCell ⟨Gm, 1, none⟩ (.string fm)).setCell ⟨Gm, 2, none⟩ (.int .i64 pm)).setCell ⟨Gm, 3, none⟩ (.slice Am rsm.length cm)).setCell ⟨Gm, 4, none⟩ (.slice Bm wsm.length dm)).setCell ⟨Gm, 5, none⟩ (.int .u64 (um : Int))).setCell ⟨Gm, 6, none⟩ (.slice Vm vsm.length xm)).setCell ⟨Gm, 7, none⟩ (.slice Km ksm.length ym)).setCell ⟨Gm, 8, none⟩ (.string gm)) = v12 at hXX hII hSP hBB hKr ⊢
          have HSX := zh hXX
          have HSI := zh hII
          have HSS := zh hSP
          have HSB := zh hBB
          clear hXX hII hSP hBB z0 z1 z2 z3 z4 z5 z6 z7 z8
          refine hK.out _ _ (hKr) (fun hHeld => ?_)
          clear hHeld
          try simp only [Act.put, zq1, zq2, zq3]
          have hHeld : (Bx Gr v12 or fr pr Ar nr cr Br mr dr) := hKr
          refine zqU 13 ?_ ?_ ?_
          rotate_left
          · intro w' hSw; obtain ⟨r_0, r_1, r_2, r_3, r_4, _⟩ := hSw; go_simp; try with_reducible rfl
          try simp only [Act.put, zq1, zq2, zq3]
          clear hHeld
          refine wpAnyH_done (by kernel_rfl) ?_ _
          exact ⟨rfl, Gm, _, _, _, _, _, _, _, _, _, _, _, om, fm, gm, pm, Am, cm, rsm, Bm, dm, wsm, um, Vm, xm, vsm, Km, ym, ksm, rfl, HSX.out, HSI.out, HSS.out, HSB.out⟩
        refine zqC (fun K hK => ?_) AllReadyH.nil
        go_simp
        clear r_0 r_1 r_2 r_3 r_4
        have hal := al d7 (.cells #[.string ⟨#[]⟩, .string ⟨#[]⟩, .int .i64 0, .slice none 0 0, .slice none 0 0, .int .u64 0, .slice none 0 0, .slice none 0 0, .string ⟨#[]⟩] 39)
        have hXX : Mx d7.heap.size (d7.alloc (.cells #[.string ⟨#[]⟩, .string ⟨#[]⟩, .int .i64 0, .slice none 0 0, .slice none 0 0, .int .u64 0, .slice none 0 0, .slice none 0 0, .string ⟨#[]⟩] 39)) ⟨#[]⟩ ⟨#[]⟩ 0 none 0 0 none 0 0 0 none 0 0 none 0 0 ⟨#[]⟩ := mx_alloc d7 ⟨#[]⟩ ⟨#[]⟩ 0 none 0 0 none 0 0 0 none 0 0 none 0 0 ⟨#[]⟩ 39
        have hFF := sf9_alloc d7 #[.string ⟨#[]⟩, .string ⟨#[]⟩, .int .i64 0, .slice none 0 0, .slice none 0 0, .int .u64 0, .slice none 0 0, .slice none 0 0, .string ⟨#[]⟩] 39
        have hGE : w6.heap.size ≤ d7.heap.size := HA.out.size
        have hGL : d7.heap.size ≤ d7.heap.size := Nat.le_refl _
        obtain ⟨Gm, hG⟩ : ∃ g, d7.heap.size = g := ⟨_, rfl⟩
        generalize d7.alloc (.cells #[.string ⟨#[]⟩, .string ⟨#[]⟩, .int .i64 0, .slice none 0 0, .slice none 0 0, .int .u64 0, .slice none 0 0, .slice none 0 0, .string ⟨#[]⟩] 39) = v8 at hal hXX hFF ⊢
        rw [hG] at hXX hFF hGE ⊢
        replace HIr := zh (offX_new HIr.out (Nat.le_of_eq hG))
        replace HB := zh (Bel.call HB.out hal)
        replace HIr := zh (HIr.out.below hal zl)
        replace HXr := zh (HXr.out.below hal HXr.out.2.2.2.2.2)
        replace HSl := zh (HSl.out.below hal zl)
        replace HSk := zh (HSk.out.below hal zl)
        replace HSs := zh (HSs.out.below hal zl)
        replace HA := zh (Bel.call HA.out hal)
        have HXm := zh hXX
        have HFm := zh hFF
        have HGm := zh hGE
        clear hal hXX hFF hGE hGL hG
        obtain ⟨r_0, r_1, r_2, r_3, r_4, _⟩ := HXr.out
        obtain ⟨⟨m_0, m_1, m_2, m_3, m_4, m_5, m_6, m_7, m_8⟩, _⟩ := HXm.out
        refine hK.out _ _ (HXr.out) (fun hHeld => ?_)
        clear hHeld
        try simp only [Act.put, zq1, zq2, zq3]
        refine zqR [0] ?_
        refine zqC (fun K hK => ?_) AllReadyH.nil
        go_simp
        with_reducible refine (HSE.out _).mono ?_
        rintro e9 w9 ⟨⟨S, hTS, rfl⟩, hb9⟩
        clear r_0 r_1 r_2 r_3 r_4 m_0 m_1 m_2 m_3 m_4 m_5 m_6 m_7 m_8
        replace HB := zh (Bel.call HB.out hb9)
        replace HIr := zh (HIr.out.below hb9 zl)
        replace HXr := zh (HXr.out.below hb9 HXr.out.2.2.2.2.2)
        replace HSl := zh (HSl.out.below hb9 zl)
        replace HSk := zh (HSk.out.below hb9 zl)
        replace HSs := zh (HSs.out.below hb9 zl)
        replace HA := zh (Bel.call HA.out hb9)
        replace HFm := zh (HFm.out.below hb9 HXm.out.2)
        replace HXm := zh (HXm.out.call hb9)
        clear hb9
        try dsimp only at hTS
        have HTS := zh hTS
        clear hTS
        obtain ⟨r_0, r_1, r_2, r_3, r_4, _⟩ := HXr.out
        obtain ⟨⟨m_0, m_1, m_2, m_3, m_4, m_5, m_6, m_7, m_8⟩, _⟩ := HXm.out
        dsimp only
        refine hK.out _ _ (HXr.out) (fun hHeld => ?_)
        clear hHeld
        try simp only [Act.put, zq1, zq2, zq3]
        refine zqR [4] ?_
        refine zqC (fun K hK => ?_) AllReadyH.nil
        go_simp
        with_reducible refine (HRO.out _).mono ?_
        rintro e10 w10 ⟨⟨R, hTR, rfl⟩, hb10⟩
        clear r_0 r_1 r_2 r_3 r_4 m_0 m_1 m_2 m_3 m_4 m_5 m_6 m_7 m_8
        replace HB := zh (Bel.call HB.out hb10)
        replace HIr := zh (HIr.out.below hb10 zl)
        replace HXr := zh (HXr.out.below hb10 HXr.out.2.2.2.2.2)
        replace HSl := zh (HSl.out.below hb10 zl)
        replace HSk := zh (HSk.out.below hb10 zl)
        replace HSs := zh (HSs.out.below hb10 zl)
        replace HA := zh (Bel.call HA.out hb10)
        replace HFm := zh (HFm.out.below hb10 HXm.out.2)
        replace HXm := zh (HXm.out.call hb10)
        clear hb10
        try dsimp only at hTR
        have HTR := zh hTR
        clear hTR
        obtain ⟨r_0, r_1, r_2, r_3, r_4, _⟩ := HXr.out
        obtain ⟨⟨m_0, m_1, m_2, m_3, m_4, m_5, m_6, m_7, m_8⟩, _⟩ := HXm.out
        dsimp only
        refine hK.out _ _ (HXr.out) (fun hHeld => ?_)
        clear hHeld
        try simp only [Act.put, zq1, zq2, zq3]
        refine zqR [7] ?_
        refine zqC (fun K hK => ?_) AllReadyH.nil
        go_simp
        with_reducible refine (build_to MB HAN.out (n := Rig.pk root 5) (ver := ver) hnr hv HTS.out HTR.out HLs.out (by rw [HLl.out]; exact knows_oth knows_all HAN.out) (by rw [HLl.out]; exact fit_known) (K := Al) (ck := cl) (ks := ll) [Gm] _ _ (gs_cons (Mx.lt HXm.out) gs_nil) HIr.out HSs.out HCs.out HSl.out HCl.out (vz := (ver : Int)) rfl (ns := ls.length) rfl (nk := 8) (hll.symm)).mono ?_
        rintro e11 w11 ⟨⟨v11, hm11, hs11, rfl⟩, hb11⟩
        clear r_0 r_1 r_2 r_3 r_4 m_0 m_1 m_2 m_3 m_4 m_5 m_6 m_7 m_8
        replace HB := zh (Bel.call HB.out hb11)
        replace HIr := zh (HIr.out.below hb11 zl)
        replace HXr := zh (HXr.out.below hb11 HXr.out.2.2.2.2.2)
        replace HSl := zh (HSl.out.below hb11 zl)
        replace HSk := zh (HSk.out.below hb11 zl)
        replace HSs := zh (HSs.out.below hb11 zl)
        replace HA := zh (Bel.call HA.out hb11)
        replace HFm := zh (HFm.out.below hb11 HXm.out.2)
        replace HXm := zh (HXm.out.call hb11)
        clear hb11
        obtain ⟨om, fm, gm, pm, Am, cm, rsm, Bm, dm, wsm, um, Vm, xm, vsm, Km, ym, ksm, rfl, him, _, _, _, _, _⟩ := isM_lit hm11
        have HEm := zh him
        have HIm := zh hm11
        clear hm11 him
        have HPm := zh hs11
        clear hs11
        obtain ⟨r_0, r_1, r_2, r_3, r_4, _⟩ := HXr.out
        obtain ⟨⟨m_0, m_1, m_2, m_3, m_4, m_5, m_6, m_7, m_8⟩, _⟩ := HXm.out
        dsimp only
        refine hK.out _ _ (HXr.out) (fun hHeld => ?_)
        clear hHeld
        try simp only [Act.put, zq1, zq2, zq3]
        have hHeld : (Bx Gr w11 or fr pr Ar nr cr Br mr dr) := HXr.out
        refine zqU 8 ?_ ?_ ?_
        rotate_left
        · intro w' hSw; obtain ⟨r_0, r_1, r_2, r_3, r_4, _⟩ := hSw; go_simp; try with_reducible rfl
        try simp only [Act.put, zq1, zq2, zq3]
        clear hHeld
        have hHeld : (Bx Gr w11 or fr pr Ar nr cr Br mr dr) := HXr.out
        refine zqU 9 ?_ ?_ ?_
        rotate_left
        · intro w' hSw; obtain ⟨r_0, r_1, r_2, r_3, r_4, _⟩ := hSw; go_simp; try with_reducible rfl
        try simp only [Act.put, zq1, zq2, zq3]
        clear hHeld
        have hHeld : (Bx Gr w11 or fr pr Ar nr cr Br mr dr) := HXr.out
        refine zqU 10 ?_ ?_ ?_
        rotate_left
        · intro w' hSw; obtain ⟨r_0, r_1, r_2, r_3, r_4, _⟩ := hSw; go_simp; try with_reducible rfl
        try simp only [Act.put, zq1, zq2, zq3]
        clear hHeld
        refine zqR [12] ?_
        refine zqC (fun K hK => ?_) AllReadyH.nil
        obtain ⟨z0, z1, z2, z3, z4, z5, z6, z7, z8⟩ := HFm.out
        go_simp
        have hXX : Mx Gm (((((((((w11.setCell ⟨Gm, 0, none⟩ (.string om)).setCell ⟨Gm, 1, none⟩ (.string fm)).setCell ⟨Gm, 2, none⟩ (.int .i64 pm)).setCell ⟨Gm, 3, none⟩ (.slice Am rsm.length cm)).setCell ⟨Gm, 4, none⟩ (.slice Bm wsm.length dm)).setCell ⟨Gm, 5, none⟩ (.int .u64 (um : Int))).setCell ⟨Gm, 6, none⟩ (.slice Vm vsm.length xm)).setCell ⟨Gm, 7, none⟩ (.slice Km ksm.length ym)).setCell ⟨Gm, 8, none⟩ (.string gm)) om fm pm Am rsm.length cm Bm wsm.length dm um Vm vsm.length xm Km ksm.length ym gm := mx_set9 HXm.out
        have hII : IsM AnyB (((((((((w11.setCell ⟨Gm, 0, none⟩ (.string om)).setCell ⟨Gm, 1, none⟩ (.string fm)).setCell ⟨Gm, 2, none⟩ (.int .i64 pm)).setCell ⟨Gm, 3, none⟩ (.slice Am rsm.length cm)).setCell ⟨Gm, 4, none⟩ (.slice Bm wsm.length dm)).setCell ⟨Gm, 5, none⟩ (.int .u64 (um : Int))).setCell ⟨Gm, 6, none⟩ (.slice Vm vsm.length xm)).setCell ⟨Gm, 7, none⟩ (.slice Km ksm.length ym)).setCell ⟨Gm, 8, none⟩ (.string gm)) (.agg #[.string om, .string fm, .int .i64 pm, .slice Am rsm.length cm, .slice Bm wsm.length dm, .int .u64 (um : Int), .slice Vm vsm.length xm, .slice Km ksm.length ym, .string gm]) (mOf r (Rig.pk root 5) ver) := (isM_set9 (List.mem_cons_self ..) HIm.out).any
        have hSP : SepM (((((((((w11.setCell ⟨Gm, 0, none⟩ (.string om)).setCell ⟨Gm, 1, none⟩ (.string fm)).setCell ⟨Gm, 2, none⟩ (.int .i64 pm)).setCell ⟨Gm, 3, none⟩ (.slice Am rsm.length cm)).setCell ⟨Gm, 4, none⟩ (.slice Bm wsm.length dm)).setCell ⟨Gm, 5, none⟩ (.int .u64 (um : Int))).setCell ⟨Gm, 6, none⟩ (.slice Vm vsm.length xm)).setCell ⟨Gm, 7, none⟩ (.slice Km ksm.length ym)).setCell ⟨Gm, 8, none⟩ (.string gm)) (.agg #[.string om, .string fm, .int .i64 pm, .slice Am rsm.length cm, .slice Bm wsm.length dm, .int .u64 (um : Int), .slice Vm vsm.length xm, .slice Km ksm.length ym, .string gm]) := sepM_set9 HPm.out
        have hBB : Below w6.heap.size w6 (((((((((w11.setCell ⟨Gm, 0, none⟩ (.string om)).setCell ⟨Gm, 1, none⟩ (.string fm)).setCell ⟨Gm, 2, none⟩ (.int .i64 pm)).setCell ⟨Gm, 3, none⟩ (.slice Am rsm.length cm)).setCell ⟨Gm, 4, none⟩ (.slice Bm wsm.length dm)).setCell ⟨Gm, 5, none⟩ (.int .u64 (um : Int))).setCell ⟨Gm, 6, none⟩ (.slice Vm vsm.length xm)).setCell ⟨Gm, 7, none⟩ (.slice Km ksm.length ym)).setCell ⟨Gm, 8, none⟩ (.string gm)) := set9 HA.out HGm.out
        have hKr : Bx Gr (((((((((w11.setCell ⟨Gm, 0, none⟩ (.string om)).setCell ⟨Gm, 1, none⟩ (.string fm)).setCell ⟨Gm, 2, none⟩ (.int .i64 pm)).setCell ⟨Gm, 3, none⟩ (.slice Am rsm.length cm)).setCell ⟨Gm, 4, none⟩ (.slice Bm wsm.length dm)).setCell ⟨Gm, 5, none⟩ (.int .u64 (um : Int))).setCell ⟨Gm, 6, none⟩ (.slice Vm vsm.length xm)).setCell ⟨Gm, 7, none⟩ (.slice Km ksm.length ym)).setCell ⟨Gm, 8, none⟩ (.string gm)) or fr pr Ar nr cr Br mr dr := bx_other9 HXr.out (fun e => by have h1 := ZHXr.out.2.2.2.2.2; have h2 := HGm.out; omega)
        clear r_0 r_1 r_2 r_3 r_4 m_0 m_1 m_2 m_3 m_4 m_5 m_6 m_7 m_8
        generalize (((((((((w11.setCell ⟨Gm, 0, none⟩ (.string om)).setCell ⟨Gm, 1, none⟩ (.string fm)).setCell ⟨Gm, 2, none⟩ (.int .i64 pm)).setCell ⟨Gm, 3, none⟩ (.slice Am rsm.length cm)).setCell ⟨Gm, 4, none⟩ (.slice Bm wsm.length dm)).setCell ⟨Gm, 5, none⟩ (.int .u64 (um : Int))).setCell ⟨Gm, 6, none⟩ (.slice Vm vsm.length xm)).setCell ⟨Gm, 7, none⟩ (.slice Km ksm.length ym)).setCell ⟨Gm, 8, none⟩ (.string gm)) = v12 at hXX hII hSP hBB hKr ⊢
        have HSX := zh hXX
        have HSI := zh hII
        have HSS := zh hSP
        have HSB := zh hBB
        clear hXX hII hSP hBB z0 z1 z2 z3 z4 z5 z6 z7 z8
        refine hK.out _ _ (hKr) (fun hHeld => ?_)
        clear hHeld
        try simp only [Act.put, zq1, zq2, zq3]
        have hHeld : (Bx Gr v12 or fr pr Ar nr cr Br mr dr) := hKr
        refine zqU 13 ?_ ?_ ?_
        rotate_left
        · intro w' hSw; obtain ⟨r_0, r_1, r_2, r_3, r_4, _⟩ := hSw; go_simp; try with_reducible rfl
        try simp only [Act.put, zq1, zq2, zq3]
        clear hHeld
        refine wpAnyH_done (by kernel_rfl) ?_ _
        exact ⟨rfl, Gm, _, _, _, _, _, _, _, _, _, _, _, om, fm, gm, pm, Am, cm, rsm, Bm, dm, wsm, um, Vm, xm, vsm, Km, ym, ksm, rfl, HSX.out, HSI.out, HSS.out, HSB.out⟩
      rintro _ _ wJm ⟨rfl, Gm, t59, t60, t61, t62, t63, t64, t65, t66, t58, t67, t68, om, fm, gm, pm, Am, cm, rsm, Bm, dm, wsm, um, Vm, xm, vsm, Km, ym, ksm, rfl, hXX, hII, hSP, hbJ⟩
      clear r_0 r_1 r_2 r_3 r_4
      replace HB := zh (Bel.call HB.out hbJ)
      replace HIr := zh (HIr.out.below hbJ zl)
      replace HXr := zh (HXr.out.below hbJ HXr.out.2.2.2.2.2)
      replace HSl := zh (HSl.out.below hbJ zl)
      replace HSk := zh (HSk.out.below hbJ zl)
      replace HSs := zh (HSs.out.below hbJ zl)
      clear hbJ
      have HXm := zh hXX
      have HIm := zh hII
      have HPm := zh hSP
      clear hXX hII hSP
      obtain ⟨r_0, r_1, r_2, r_3, r_4, _⟩ := HXr.out
      obtain ⟨⟨m_0, m_1, m_2, m_3, m_4, m_5, m_6, m_7, m_8⟩, _⟩ := HXm.out
      simp only [Act.put, List.setIfInBounds_toArray, List.set_cons_zero, List.set_cons_succ]
      go_wp2_with fail
      refine region_join (R := fun a ex a' w' => ex = .normal ∧ ∃ (G : Nat) (t70 t71 t72 t73 t74 t75 t76 t77 t69 t78 t79 : Value) (oz fz gz : ByteArray) (pz : Int) (Az : Option Addr) (cz : Nat) (rsz : List ByteArray) (Bz : Option Addr) (dz : Nat) (wsz : List ByteArray) (uz : Nat) (Vz : Option Addr) (xz : Nat) (vsz : List ByteArray) (Kz : Option Addr) (yz : Nat) (ksz : List (ByteArray × ByteArray)), a' = (((((((((((((a.put (some 70) t70).put (some 71) t71).put (some 72) t72).put (some 73) t73).put (some 74) t74).put (some 75) t75).put (some 76) t76).put (some 77) t77).put (some 69) t69).put (some 78) t78).put (some 79) t79).put (some 17) (.pointer (some ⟨G, 0, none⟩))).put (some 18) (.int .i64 0)) ∧ Mx G w' oz fz pz Az rsz.length cz Bz wsz.length dz uz Vz vsz.length xz Kz ksz.length yz gz ∧ IsM AnyB w' (.agg #[.string oz, .string fz, .int .i64 pz, .slice Az rsz.length cz, .slice Bz wsz.length dz, .int .u64 (uz : Int), .slice Vz vsz.length xz, .slice Kz ksz.length yz, .string gz]) (mOf r (Rig.pk root 5) ver) ∧ SepM w' (.agg #[.string oz, .string fz, .int .i64 pz, .slice Az rsz.length cz, .slice Bz wsz.length dz, .int .u64 (uz : Int), .slice Vz vsz.length xz, .slice Kz ksz.length yz, .string gz]) ∧ Below wJm.heap.size wJm w') ?_ ?_
      · have ZHB := HB
        have ZHIr := HIr
        have ZHXr := HXr
        have ZHSl := HSl
        have ZHSk := HSk
        have ZHSs := HSs
        have ZHXm := HXm
        have ZHIm := HIm
        have ZHPm := HPm
        refine wp_region_held_drew (S := fun w' => (Bx Gr w' or fr pr Ar nr cr Br mr dr)) (by kernel_rfl) (HXr.out.below (Below.drewN' (Below.refl wJm.heap.size wJm) 1) HXr.out.2.2.2.2.2) (fun hHeld => ?_)
        clear r_0 r_1 r_2 r_3 r_4 m_0 m_1 m_2 m_3 m_4 m_5 m_6 m_7 m_8
        have hdr : Below wJm.heap.size wJm wJm.drew := Below.drewN' (Below.refl _ _) 1
        obtain ⟨d7, hwd⟩ : ∃ z, wJm.drew = z := ⟨_, rfl⟩
        rw [hwd] at hdr hHeld ⊢
        replace HB := zh (Bel.call HB.out hdr)
        replace HIr := zh (HIr.out.below hdr zl)
        replace HXr := zh (HXr.out.below hdr HXr.out.2.2.2.2.2)
        replace HSl := zh (HSl.out.below hdr zl)
        replace HSk := zh (HSk.out.below hdr zl)
        replace HSs := zh (HSs.out.below hdr zl)
        replace HXm := zh (HXm.out.call hdr)
        replace HIm := zh (HIm.out.below hdr zl)
        replace HPm := zh (HPm.out.below hdr)
        have HA := zh hdr
        clear hwd hdr hHeld
        obtain ⟨r_0, r_1, r_2, r_3, r_4, _⟩ := HXr.out
        obtain ⟨⟨m_0, m_1, m_2, m_3, m_4, m_5, m_6, m_7, m_8⟩, _⟩ := HXm.out
        have hHeld : (Bx Gr d7 or fr pr Ar nr cr Br mr dr) := HXr.out
        refine zqU 1 ?_ ?_ ?_
        rotate_left
        · intro w' hSw; obtain ⟨r_0, r_1, r_2, r_3, r_4, _⟩ := hSw; go_simp; try with_reducible rfl
        try simp only [Act.put, zq1, zq2, zq3]
        clear hHeld
        have hHeld : (Bx Gr d7 or fr pr Ar nr cr Br mr dr) := HXr.out
        refine zqU 2 ?_ ?_ ?_
        rotate_left
        · intro w' hSw; obtain ⟨r_0, r_1, r_2, r_3, r_4, _⟩ := hSw; go_simp; try with_reducible rfl
        try simp only [Act.put, zq1, zq2, zq3]
        clear hHeld
        have hHeld : (Bx Gr d7 or fr pr Ar nr cr Br mr dr) := HXr.out
        refine zqU 3 ?_ ?_ ?_
        rotate_left
        · intro w' hSw; obtain ⟨r_0, r_1, r_2, r_3, r_4, _⟩ := hSw; go_simp; try with_reducible rfl
        try simp only [Act.put, zq1, zq2, zq3]
        clear hHeld
        have hHeld : (Bx Gr d7 or fr pr Ar nr cr Br mr dr) := HXr.out
        refine zqU 5 ?_ ?_ ?_
        rotate_left
        · intro w' hSw; obtain ⟨r_0, r_1, r_2, r_3, r_4, _⟩ := hSw; go_simp; try with_reducible rfl
        try simp only [Act.put, zq1, zq2, zq3]
        clear hHeld
        have hHeld : (Bx Gr d7 or fr pr Ar nr cr Br mr dr) := HXr.out
        refine zqU 6 ?_ ?_ ?_
        rotate_left
        · intro w' hSw; obtain ⟨r_0, r_1, r_2, r_3, r_4, _⟩ := hSw; go_simp; try with_reducible rfl
        try simp only [Act.put, zq1, zq2, zq3]
        clear hHeld
        refine zqR [0, 11] ?_
        refine zqC (fun K hK => ?_) ?_
        · go_simp
          with_reducible refine (HSE.out _).mono ?_
          rintro e8 w8 ⟨⟨S, hTS, rfl⟩, hb8⟩
          clear r_0 r_1 r_2 r_3 r_4 m_0 m_1 m_2 m_3 m_4 m_5 m_6 m_7 m_8
          replace HB := zh (Bel.call HB.out hb8)
          replace HIr := zh (HIr.out.below hb8 zl)
          replace HXr := zh (HXr.out.below hb8 HXr.out.2.2.2.2.2)
          replace HSl := zh (HSl.out.below hb8 zl)
          replace HSk := zh (HSk.out.below hb8 zl)
          replace HSs := zh (HSs.out.below hb8 zl)
          replace HXm := zh (HXm.out.call hb8)
          replace HIm := zh (HIm.out.below hb8 zl)
          replace HPm := zh (HPm.out.below hb8)
          replace HA := zh (Bel.call HA.out hb8)
          clear hb8
          try dsimp only at hTS
          have HTS := zh hTS
          clear hTS
          obtain ⟨r_0, r_1, r_2, r_3, r_4, _⟩ := HXr.out
          obtain ⟨⟨m_0, m_1, m_2, m_3, m_4, m_5, m_6, m_7, m_8⟩, _⟩ := HXm.out
          dsimp only
          refine hK.out _ _ (HXr.out) (fun hHeld => ?_)
          clear hHeld
          try simp only [Act.put, zq1, zq2, zq3]
          refine zqR [4, 11] ?_
          refine zqC (fun K hK => ?_) ?_
          · go_simp
            with_reducible refine (HRO.out _).mono ?_
            rintro e9 w9 ⟨⟨R, hTR, rfl⟩, hb9⟩
            clear r_0 r_1 r_2 r_3 r_4 m_0 m_1 m_2 m_3 m_4 m_5 m_6 m_7 m_8
            replace HB := zh (Bel.call HB.out hb9)
            replace HIr := zh (HIr.out.below hb9 zl)
            replace HXr := zh (HXr.out.below hb9 HXr.out.2.2.2.2.2)
            replace HSl := zh (HSl.out.below hb9 zl)
            replace HSk := zh (HSk.out.below hb9 zl)
            replace HSs := zh (HSs.out.below hb9 zl)
            replace HXm := zh (HXm.out.call hb9)
            replace HIm := zh (HIm.out.below hb9 zl)
            replace HPm := zh (HPm.out.below hb9)
            replace HA := zh (Bel.call HA.out hb9)
            clear hb9
            try dsimp only at hTR
            have HTR := zh hTR
            clear hTR
            obtain ⟨r_0, r_1, r_2, r_3, r_4, _⟩ := HXr.out
            obtain ⟨⟨m_0, m_1, m_2, m_3, m_4, m_5, m_6, m_7, m_8⟩, _⟩ := HXm.out
            dsimp only
            refine hK.out _ _ (HXr.out) (fun hHeld => ?_)
            clear hHeld
            try simp only [Act.put, zq1, zq2, zq3]
            refine zqR [7, 11] ?_
            refine zqC (fun K hK => ?_) ?_
            · go_simp
              with_reducible refine (build_to MB HAN.out (n := Rig.pk root 5) (ver := ver) hnr hv HTS.out HTR.out HLs.out (knows_oth HKk.out HAN.out) (HFk.out) (K := Ak) (ck := ck) (ks := ks) [] _ _ gs_nil HIr.out HSs.out HCs.out HSk.out HCk.out (vz := (ver : Int)) rfl (ns := ls.length) rfl (nk := 11) (HNk.out)).mono ?_
              rintro e10 w10 ⟨⟨v10, hm10, hs10, rfl⟩, hb10⟩
              clear r_0 r_1 r_2 r_3 r_4 m_0 m_1 m_2 m_3 m_4 m_5 m_6 m_7 m_8
              replace HB := zh (Bel.call HB.out hb10)
              replace HIr := zh (HIr.out.below hb10 zl)
              replace HXr := zh (HXr.out.below hb10 HXr.out.2.2.2.2.2)
              replace HSl := zh (HSl.out.below hb10 zl)
              replace HSk := zh (HSk.out.below hb10 zl)
              replace HSs := zh (HSs.out.below hb10 zl)
              replace HXm := zh (HXm.out.call hb10)
              replace HIm := zh (HIm.out.below hb10 zl)
              replace HPm := zh (HPm.out.below hb10)
              replace HA := zh (Bel.call HA.out hb10)
              clear hb10
              obtain ⟨oz, fz, gz, pz, Az, cz, rsz, Bz, dz, wsz, uz, Vz, xz, vsz, Kz, yz, ksz, rfl, hiz, _, _, _, _, _⟩ := isM_lit hm10
              have HEz := zh hiz
              have HIz := zh hm10
              clear hm10 hiz
              have HPz := zh hs10
              clear hs10
              obtain ⟨r_0, r_1, r_2, r_3, r_4, _⟩ := HXr.out
              obtain ⟨⟨m_0, m_1, m_2, m_3, m_4, m_5, m_6, m_7, m_8⟩, _⟩ := HXm.out
              dsimp only
              refine hK.out _ _ (HXr.out) (fun hHeld => ?_)
              clear hHeld
              try simp only [Act.put, zq1, zq2, zq3]
              have hHeld : (Bx Gr w10 or fr pr Ar nr cr Br mr dr) := HXr.out
              refine zqU 8 ?_ ?_ ?_
              rotate_left
              · intro w' hSw; obtain ⟨r_0, r_1, r_2, r_3, r_4, _⟩ := hSw; go_simp; try with_reducible rfl
              try simp only [Act.put, zq1, zq2, zq3]
              clear hHeld
              have hHeld : (Bx Gr w10 or fr pr Ar nr cr Br mr dr) := HXr.out
              refine zqU 9 ?_ ?_ ?_
              rotate_left
              · intro w' hSw; obtain ⟨r_0, r_1, r_2, r_3, r_4, _⟩ := hSw; go_simp; try with_reducible rfl
              try simp only [Act.put, zq1, zq2, zq3]
              clear hHeld
              have hHeld : (Bx Gr w10 or fr pr Ar nr cr Br mr dr) := HXr.out
              refine zqU 10 ?_ ?_ ?_
              rotate_left
              · intro w' hSw; obtain ⟨r_0, r_1, r_2, r_3, r_4, _⟩ := hSw; go_simp; try with_reducible rfl
              try simp only [Act.put, zq1, zq2, zq3]
              clear hHeld
              refine zqR [11] ?_
              refine zqC (fun K hK => ?_) AllReadyH.nil
              go_simp
              clear r_0 r_1 r_2 r_3 r_4 m_0 m_1 m_2 m_3 m_4 m_5 m_6 m_7 m_8
              have hal := al w10 (.cells #[.string ⟨#[]⟩, .string ⟨#[]⟩, .int .i64 0, .slice none 0 0, .slice none 0 0, .int .u64 0, .slice none 0 0, .slice none 0 0, .string ⟨#[]⟩] 39)
              have hXX : Mx w10.heap.size (w10.alloc (.cells #[.string ⟨#[]⟩, .string ⟨#[]⟩, .int .i64 0, .slice none 0 0, .slice none 0 0, .int .u64 0, .slice none 0 0, .slice none 0 0, .string ⟨#[]⟩] 39)) ⟨#[]⟩ ⟨#[]⟩ 0 none 0 0 none 0 0 0 none 0 0 none 0 0 ⟨#[]⟩ := mx_alloc w10 ⟨#[]⟩ ⟨#[]⟩ 0 none 0 0 none 0 0 0 none 0 0 none 0 0 ⟨#[]⟩ 39
              have hFF := sf9_alloc w10 #[.string ⟨#[]⟩, .string ⟨#[]⟩, .int .i64 0, .slice none 0 0, .slice none 0 0, .int .u64 0, .slice none 0 0, .slice none 0 0, .string ⟨#[]⟩] 39
              have hGE : wJm.heap.size ≤ w10.heap.size := HA.out.size
              have hGL : w10.heap.size ≤ w10.heap.size := Nat.le_refl _
              obtain ⟨Gz, hG⟩ : ∃ g, w10.heap.size = g := ⟨_, rfl⟩
              generalize w10.alloc (.cells #[.string ⟨#[]⟩, .string ⟨#[]⟩, .int .i64 0, .slice none 0 0, .slice none 0 0, .int .u64 0, .slice none 0 0, .slice none 0 0, .string ⟨#[]⟩] 39) = v11 at hal hXX hFF ⊢
              rw [hG] at hXX hFF hGE ⊢
              replace HIr := zh (offX_new HIr.out (Nat.le_of_eq hG))
              replace HIz := zh (off_new HIz.out (Nat.le_of_eq hG))
              replace HB := zh (Bel.call HB.out hal)
              replace HIr := zh (HIr.out.below hal zl)
              replace HXr := zh (HXr.out.below hal HXr.out.2.2.2.2.2)
              replace HSl := zh (HSl.out.below hal zl)
              replace HSk := zh (HSk.out.below hal zl)
              replace HSs := zh (HSs.out.below hal zl)
              replace HXm := zh (HXm.out.call hal)
              replace HIm := zh (HIm.out.below hal zl)
              replace HPm := zh (HPm.out.below hal)
              replace HA := zh (Bel.call HA.out hal)
              replace HIz := zh (HIz.out.below hal zl)
              replace HPz := zh (HPz.out.below hal)
              have HXz := zh hXX
              have HFz := zh hFF
              have HGz := zh hGE
              clear hal hXX hFF hGE hGL hG
              obtain ⟨r_0, r_1, r_2, r_3, r_4, _⟩ := HXr.out
              obtain ⟨⟨m_0, m_1, m_2, m_3, m_4, m_5, m_6, m_7, m_8⟩, _⟩ := HXm.out
              obtain ⟨⟨z_0, z_1, z_2, z_3, z_4, z_5, z_6, z_7, z_8⟩, _⟩ := HXz.out
              refine hK.out _ _ (HXr.out) (fun hHeld => ?_)
              clear hHeld
              try simp only [Act.put, zq1, zq2, zq3]
              refine zqR [12] ?_
              refine zqC (fun K hK => ?_) AllReadyH.nil
              obtain ⟨z0, z1, z2, z3, z4, z5, z6, z7, z8⟩ := HFz.out
              go_simp
              have hXX : Mx Gz (((((((((v11.setCell ⟨Gz, 0, none⟩ (.string oz)).setCell ⟨Gz, 1, none⟩ (.string fz)).setCell ⟨Gz, 2, none⟩ (.int .i64 pz)).setCell ⟨Gz, 3, none⟩ (.slice Az rsz.length cz)).setCell ⟨Gz, 4, none⟩ (.slice Bz wsz.length dz)).setCell ⟨Gz, 5, none⟩ (.int .u64 (uz : Int))).setCell ⟨Gz, 6, none⟩ (.slice Vz vsz.length xz)).setCell ⟨Gz, 7, none⟩ (.slice Kz ksz.length yz)).setCell ⟨Gz, 8, none⟩ (.string gz)) oz fz pz Az rsz.length cz Bz wsz.length dz uz Vz vsz.length xz Kz ksz.length yz gz := mx_set9 HXz.out
              have hII : IsM AnyB (((((((((v11.setCell ⟨Gz, 0, none⟩ (.string oz)).setCell ⟨Gz, 1, none⟩ (.string fz)).setCell ⟨Gz, 2, none⟩ (.int .i64 pz)).setCell ⟨Gz, 3, none⟩ (.slice Az rsz.length cz)).setCell ⟨Gz, 4, none⟩ (.slice Bz wsz.length dz)).setCell ⟨Gz, 5, none⟩ (.int .u64 (uz : Int))).setCell ⟨Gz, 6, none⟩ (.slice Vz vsz.length xz)).setCell ⟨Gz, 7, none⟩ (.slice Kz ksz.length yz)).setCell ⟨Gz, 8, none⟩ (.string gz)) (.agg #[.string oz, .string fz, .int .i64 pz, .slice Az rsz.length cz, .slice Bz wsz.length dz, .int .u64 (uz : Int), .slice Vz vsz.length xz, .slice Kz ksz.length yz, .string gz]) (mOf r (Rig.pk root 5) ver) := (isM_set9 (List.mem_cons_self ..) HIz.out).any
              have hSP : SepM (((((((((v11.setCell ⟨Gz, 0, none⟩ (.string oz)).setCell ⟨Gz, 1, none⟩ (.string fz)).setCell ⟨Gz, 2, none⟩ (.int .i64 pz)).setCell ⟨Gz, 3, none⟩ (.slice Az rsz.length cz)).setCell ⟨Gz, 4, none⟩ (.slice Bz wsz.length dz)).setCell ⟨Gz, 5, none⟩ (.int .u64 (uz : Int))).setCell ⟨Gz, 6, none⟩ (.slice Vz vsz.length xz)).setCell ⟨Gz, 7, none⟩ (.slice Kz ksz.length yz)).setCell ⟨Gz, 8, none⟩ (.string gz)) (.agg #[.string oz, .string fz, .int .i64 pz, .slice Az rsz.length cz, .slice Bz wsz.length dz, .int .u64 (uz : Int), .slice Vz vsz.length xz, .slice Kz ksz.length yz, .string gz]) := sepM_set9 HPz.out
              have hBB : Below wJm.heap.size wJm (((((((((v11.setCell ⟨Gz, 0, none⟩ (.string oz)).setCell ⟨Gz, 1, none⟩ (.string fz)).setCell ⟨Gz, 2, none⟩ (.int .i64 pz)).setCell ⟨Gz, 3, none⟩ (.slice Az rsz.length cz)).setCell ⟨Gz, 4, none⟩ (.slice Bz wsz.length dz)).setCell ⟨Gz, 5, none⟩ (.int .u64 (uz : Int))).setCell ⟨Gz, 6, none⟩ (.slice Vz vsz.length xz)).setCell ⟨Gz, 7, none⟩ (.slice Kz ksz.length yz)).setCell ⟨Gz, 8, none⟩ (.string gz)) := set9 HA.out HGz.out
              have hKr : Bx Gr (((((((((v11.setCell ⟨Gz, 0, none⟩ (.string oz)).setCell ⟨Gz, 1, none⟩ (.string fz)).setCell ⟨Gz, 2, none⟩ (.int .i64 pz)).setCell ⟨Gz, 3, none⟩ (.slice Az rsz.length cz)).setCell ⟨Gz, 4, none⟩ (.slice Bz wsz.length dz)).setCell ⟨Gz, 5, none⟩ (.int .u64 (uz : Int))).setCell ⟨Gz, 6, none⟩ (.slice Vz vsz.length xz)).setCell ⟨Gz, 7, none⟩ (.slice Kz ksz.length yz)).setCell ⟨Gz, 8, none⟩ (.string gz)) or fr pr Ar nr cr Br mr dr := bx_other9 HXr.out (fun e => by have h1 := ZHXr.out.2.2.2.2.2; have h2 := HGz.out; omega)
              clear r_0 r_1 r_2 r_3 r_4 m_0 m_1 m_2 m_3 m_4 m_5 m_6 m_7 m_8 z_0 z_1 z_2 z_3 z_4 z_5 z_6 z_7 z_8
              generalize (((((((((v11.setCell ⟨Gz, 0, none⟩ (.string oz)).setCell ⟨Gz, 1, none⟩ (.string fz)).setCell ⟨Gz, 2, none⟩ (.int .i64 pz)).setCell ⟨Gz, 3, none⟩ (.slice Az rsz.length cz)).setCell ⟨Gz, 4, none⟩ (.slice Bz wsz.length dz)).setCell ⟨Gz, 5, none⟩ (.int .u64 (uz : Int))).setCell ⟨Gz, 6, none⟩ (.slice Vz vsz.length xz)).setCell ⟨Gz, 7, none⟩ (.slice Kz ksz.length yz)).setCell ⟨Gz, 8, none⟩ (.string gz)) = v12 at hXX hII hSP hBB hKr ⊢
              have HSX := zh hXX
              have HSI := zh hII
              have HSS := zh hSP
              have HSB := zh hBB
              clear hXX hII hSP hBB z0 z1 z2 z3 z4 z5 z6 z7 z8
              refine hK.out _ _ (hKr) (fun hHeld => ?_)
              clear hHeld
              try simp only [Act.put, zq1, zq2, zq3]
              have hHeld : (Bx Gr v12 or fr pr Ar nr cr Br mr dr) := hKr
              refine zqU 13 ?_ ?_ ?_
              rotate_left
              · intro w' hSw; obtain ⟨r_0, r_1, r_2, r_3, r_4, _⟩ := hSw; go_simp; try with_reducible rfl
              try simp only [Act.put, zq1, zq2, zq3]
              clear hHeld
              refine wpAnyH_done (by kernel_rfl) ?_ _
              exact ⟨rfl, Gz, _, _, _, _, _, _, _, _, _, _, _, oz, fz, gz, pz, Az, cz, rsz, Bz, dz, wsz, uz, Vz, xz, vsz, Kz, yz, ksz, rfl, HSX.out, HSI.out, HSS.out, HSB.out⟩
            refine zqC (fun K hK => ?_) AllReadyH.nil
            go_simp
            clear r_0 r_1 r_2 r_3 r_4 m_0 m_1 m_2 m_3 m_4 m_5 m_6 m_7 m_8
            have hal := al w9 (.cells #[.string ⟨#[]⟩, .string ⟨#[]⟩, .int .i64 0, .slice none 0 0, .slice none 0 0, .int .u64 0, .slice none 0 0, .slice none 0 0, .string ⟨#[]⟩] 39)
            have hXX : Mx w9.heap.size (w9.alloc (.cells #[.string ⟨#[]⟩, .string ⟨#[]⟩, .int .i64 0, .slice none 0 0, .slice none 0 0, .int .u64 0, .slice none 0 0, .slice none 0 0, .string ⟨#[]⟩] 39)) ⟨#[]⟩ ⟨#[]⟩ 0 none 0 0 none 0 0 0 none 0 0 none 0 0 ⟨#[]⟩ := mx_alloc w9 ⟨#[]⟩ ⟨#[]⟩ 0 none 0 0 none 0 0 0 none 0 0 none 0 0 ⟨#[]⟩ 39
            have hFF := sf9_alloc w9 #[.string ⟨#[]⟩, .string ⟨#[]⟩, .int .i64 0, .slice none 0 0, .slice none 0 0, .int .u64 0, .slice none 0 0, .slice none 0 0, .string ⟨#[]⟩] 39
            have hGE : wJm.heap.size ≤ w9.heap.size := HA.out.size
            have hGL : w9.heap.size ≤ w9.heap.size := Nat.le_refl _
            obtain ⟨Gz, hG⟩ : ∃ g, w9.heap.size = g := ⟨_, rfl⟩
            generalize w9.alloc (.cells #[.string ⟨#[]⟩, .string ⟨#[]⟩, .int .i64 0, .slice none 0 0, .slice none 0 0, .int .u64 0, .slice none 0 0, .slice none 0 0, .string ⟨#[]⟩] 39) = v10 at hal hXX hFF ⊢
            rw [hG] at hXX hFF hGE ⊢
            replace HIr := zh (offX_new HIr.out (Nat.le_of_eq hG))
            replace HB := zh (Bel.call HB.out hal)
            replace HIr := zh (HIr.out.below hal zl)
            replace HXr := zh (HXr.out.below hal HXr.out.2.2.2.2.2)
            replace HSl := zh (HSl.out.below hal zl)
            replace HSk := zh (HSk.out.below hal zl)
            replace HSs := zh (HSs.out.below hal zl)
            replace HXm := zh (HXm.out.call hal)
            replace HIm := zh (HIm.out.below hal zl)
            replace HPm := zh (HPm.out.below hal)
            replace HA := zh (Bel.call HA.out hal)
            have HXz := zh hXX
            have HFz := zh hFF
            have HGz := zh hGE
            clear hal hXX hFF hGE hGL hG
            obtain ⟨r_0, r_1, r_2, r_3, r_4, _⟩ := HXr.out
            obtain ⟨⟨m_0, m_1, m_2, m_3, m_4, m_5, m_6, m_7, m_8⟩, _⟩ := HXm.out
            obtain ⟨⟨z_0, z_1, z_2, z_3, z_4, z_5, z_6, z_7, z_8⟩, _⟩ := HXz.out
            refine hK.out _ _ (HXr.out) (fun hHeld => ?_)
            clear hHeld
            try simp only [Act.put, zq1, zq2, zq3]
            refine zqR [7] ?_
            refine zqC (fun K hK => ?_) AllReadyH.nil
            go_simp
            with_reducible refine (build_to MB HAN.out (n := Rig.pk root 5) (ver := ver) hnr hv HTS.out HTR.out HLs.out (knows_oth HKk.out HAN.out) (HFk.out) (K := Ak) (ck := ck) (ks := ks) [Gz] _ _ (gs_cons (Mx.lt HXz.out) gs_nil) HIr.out HSs.out HCs.out HSk.out HCk.out (vz := (ver : Int)) rfl (ns := ls.length) rfl (nk := 11) (HNk.out)).mono ?_
            rintro e11 w11 ⟨⟨v11, hm11, hs11, rfl⟩, hb11⟩
            clear r_0 r_1 r_2 r_3 r_4 m_0 m_1 m_2 m_3 m_4 m_5 m_6 m_7 m_8 z_0 z_1 z_2 z_3 z_4 z_5 z_6 z_7 z_8
            replace HB := zh (Bel.call HB.out hb11)
            replace HIr := zh (HIr.out.below hb11 zl)
            replace HXr := zh (HXr.out.below hb11 HXr.out.2.2.2.2.2)
            replace HSl := zh (HSl.out.below hb11 zl)
            replace HSk := zh (HSk.out.below hb11 zl)
            replace HSs := zh (HSs.out.below hb11 zl)
            replace HXm := zh (HXm.out.call hb11)
            replace HIm := zh (HIm.out.below hb11 zl)
            replace HPm := zh (HPm.out.below hb11)
            replace HA := zh (Bel.call HA.out hb11)
            replace HFz := zh (HFz.out.below hb11 HXz.out.2)
            replace HXz := zh (HXz.out.call hb11)
            clear hb11
            obtain ⟨oz, fz, gz, pz, Az, cz, rsz, Bz, dz, wsz, uz, Vz, xz, vsz, Kz, yz, ksz, rfl, hiz, _, _, _, _, _⟩ := isM_lit hm11
            have HEz := zh hiz
            have HIz := zh hm11
            clear hm11 hiz
            have HPz := zh hs11
            clear hs11
            obtain ⟨r_0, r_1, r_2, r_3, r_4, _⟩ := HXr.out
            obtain ⟨⟨m_0, m_1, m_2, m_3, m_4, m_5, m_6, m_7, m_8⟩, _⟩ := HXm.out
            obtain ⟨⟨z_0, z_1, z_2, z_3, z_4, z_5, z_6, z_7, z_8⟩, _⟩ := HXz.out
            dsimp only
            refine hK.out _ _ (HXr.out) (fun hHeld => ?_)
            clear hHeld
            try simp only [Act.put, zq1, zq2, zq3]
            have hHeld : (Bx Gr w11 or fr pr Ar nr cr Br mr dr) := HXr.out
            refine zqU 8 ?_ ?_ ?_
            rotate_left
            · intro w' hSw; obtain ⟨r_0, r_1, r_2, r_3, r_4, _⟩ := hSw; go_simp; try with_reducible rfl
            try simp only [Act.put, zq1, zq2, zq3]
            clear hHeld
            have hHeld : (Bx Gr w11 or fr pr Ar nr cr Br mr dr) := HXr.out
            refine zqU 9 ?_ ?_ ?_
            rotate_left
            · intro w' hSw; obtain ⟨r_0, r_1, r_2, r_3, r_4, _⟩ := hSw; go_simp; try with_reducible rfl
            try simp only [Act.put, zq1, zq2, zq3]
            clear hHeld
            have hHeld : (Bx Gr w11 or fr pr Ar nr cr Br mr dr) := HXr.out
            refine zqU 10 ?_ ?_ ?_
            rotate_left
            · intro w' hSw; obtain ⟨r_0, r_1, r_2, r_3, r_4, _⟩ := hSw; go_simp; try with_reducible rfl
            try simp only [Act.put, zq1, zq2, zq3]
            clear hHeld
            refine zqR [12] ?_
            refine zqC (fun K hK => ?_) AllReadyH.nil
            obtain ⟨z0, z1, z2, z3, z4, z5, z6, z7, z8⟩ := HFz.out
            go_simp
            have hXX : Mx Gz (((((((((w11.setCell ⟨Gz, 0, none⟩ (.string oz)).setCell ⟨Gz, 1, none⟩ (.string fz)).setCell ⟨Gz, 2, none⟩ (.int .i64 pz)).setCell ⟨Gz, 3, none⟩ (.slice Az rsz.length cz)).setCell ⟨Gz, 4, none⟩ (.slice Bz wsz.length dz)).setCell ⟨Gz, 5, none⟩ (.int .u64 (uz : Int))).setCell ⟨Gz, 6, none⟩ (.slice Vz vsz.length xz)).setCell ⟨Gz, 7, none⟩ (.slice Kz ksz.length yz)).setCell ⟨Gz, 8, none⟩ (.string gz)) oz fz pz Az rsz.length cz Bz wsz.length dz uz Vz vsz.length xz Kz ksz.length yz gz := mx_set9 HXz.out
            have hII : IsM AnyB (((((((((w11.setCell ⟨Gz, 0, none⟩ (.string oz)).setCell ⟨Gz, 1, none⟩ (.string fz)).setCell ⟨Gz, 2, none⟩ (.int .i64 pz)).setCell ⟨Gz, 3, none⟩ (.slice Az rsz.length cz)).setCell ⟨Gz, 4, none⟩ (.slice Bz wsz.length dz)).setCell ⟨Gz, 5, none⟩ (.int .u64 (uz : Int))).setCell ⟨Gz, 6, none⟩ (.slice Vz vsz.length xz)).setCell ⟨Gz, 7, none⟩ (.slice Kz ksz.length yz)).setCell ⟨Gz, 8, none⟩ (.string gz)) (.agg #[.string oz, .string fz, .int .i64 pz, .slice Az rsz.length cz, .slice Bz wsz.length dz, .int .u64 (uz : Int), .slice Vz vsz.length xz, .slice Kz ksz.length yz, .string gz]) (mOf r (Rig.pk root 5) ver) := (isM_set9 (List.mem_cons_self ..) HIz.out).any
            have hSP : SepM (((((((((w11.setCell ⟨Gz, 0, none⟩ (.string oz)).setCell ⟨Gz, 1, none⟩ (.string fz)).setCell ⟨Gz, 2, none⟩ (.int .i64 pz)).setCell ⟨Gz, 3, none⟩ (.slice Az rsz.length cz)).setCell ⟨Gz, 4, none⟩ (.slice Bz wsz.length dz)).setCell ⟨Gz, 5, none⟩ (.int .u64 (uz : Int))).setCell ⟨Gz, 6, none⟩ (.slice Vz vsz.length xz)).setCell ⟨Gz, 7, none⟩ (.slice Kz ksz.length yz)).setCell ⟨Gz, 8, none⟩ (.string gz)) (.agg #[.string oz, .string fz, .int .i64 pz, .slice Az rsz.length cz, .slice Bz wsz.length dz, .int .u64 (uz : Int), .slice Vz vsz.length xz, .slice Kz ksz.length yz, .string gz]) := sepM_set9 HPz.out
            have hBB : Below wJm.heap.size wJm (((((((((w11.setCell ⟨Gz, 0, none⟩ (.string oz)).setCell ⟨Gz, 1, none⟩ (.string fz)).setCell ⟨Gz, 2, none⟩ (.int .i64 pz)).setCell ⟨Gz, 3, none⟩ (.slice Az rsz.length cz)).setCell ⟨Gz, 4, none⟩ (.slice Bz wsz.length dz)).setCell ⟨Gz, 5, none⟩ (.int .u64 (uz : Int))).setCell ⟨Gz, 6, none⟩ (.slice Vz vsz.length xz)).setCell ⟨Gz, 7, none⟩ (.slice Kz ksz.length yz)).setCell ⟨Gz, 8, none⟩ (.string gz)) := set9 HA.out HGz.out
            have hKr : Bx Gr (((((((((w11.setCell ⟨Gz, 0, none⟩ (.string oz)).setCell ⟨Gz, 1, none⟩ (.string fz)).setCell ⟨Gz, 2, none⟩ (.int .i64 pz)).setCell ⟨Gz, 3, none⟩ (.slice Az rsz.length cz)).setCell ⟨Gz, 4, none⟩ (.slice Bz wsz.length dz)).setCell ⟨Gz, 5, none⟩ (.int .u64 (uz : Int))).setCell ⟨Gz, 6, none⟩ (.slice Vz vsz.length xz)).setCell ⟨Gz, 7, none⟩ (.slice Kz ksz.length yz)).setCell ⟨Gz, 8, none⟩ (.string gz)) or fr pr Ar nr cr Br mr dr := bx_other9 HXr.out (fun e => by have h1 := ZHXr.out.2.2.2.2.2; have h2 := HGz.out; omega)
            clear r_0 r_1 r_2 r_3 r_4 m_0 m_1 m_2 m_3 m_4 m_5 m_6 m_7 m_8 z_0 z_1 z_2 z_3 z_4 z_5 z_6 z_7 z_8
            generalize (((((((((w11.setCell ⟨Gz, 0, none⟩ (.string oz)).setCell ⟨Gz, 1, none⟩ (.string fz)).setCell ⟨Gz, 2, none⟩ (.int .i64 pz)).setCell ⟨Gz, 3, none⟩ (.slice Az rsz.length cz)).setCell ⟨Gz, 4, none⟩ (.slice Bz wsz.length dz)).setCell ⟨Gz, 5, none⟩ (.int .u64 (uz : Int))).setCell ⟨Gz, 6, none⟩ (.slice Vz vsz.length xz)).setCell ⟨Gz, 7, none⟩ (.slice Kz ksz.length yz)).setCell ⟨Gz, 8, none⟩ (.string gz)) = v12 at hXX hII hSP hBB hKr ⊢
            have HSX := zh hXX
            have HSI := zh hII
            have HSS := zh hSP
            have HSB := zh hBB
            clear hXX hII hSP hBB z0 z1 z2 z3 z4 z5 z6 z7 z8
            refine hK.out _ _ (hKr) (fun hHeld => ?_)
            clear hHeld
            try simp only [Act.put, zq1, zq2, zq3]
            have hHeld : (Bx Gr v12 or fr pr Ar nr cr Br mr dr) := hKr
            refine zqU 13 ?_ ?_ ?_
            rotate_left
            · intro w' hSw; obtain ⟨r_0, r_1, r_2, r_3, r_4, _⟩ := hSw; go_simp; try with_reducible rfl
            try simp only [Act.put, zq1, zq2, zq3]
            clear hHeld
            refine wpAnyH_done (by kernel_rfl) ?_ _
            exact ⟨rfl, Gz, _, _, _, _, _, _, _, _, _, _, _, oz, fz, gz, pz, Az, cz, rsz, Bz, dz, wsz, uz, Vz, xz, vsz, Kz, yz, ksz, rfl, HSX.out, HSI.out, HSS.out, HSB.out⟩
          refine zqC (fun K hK => ?_) AllReadyH.nil
          go_simp
          clear r_0 r_1 r_2 r_3 r_4 m_0 m_1 m_2 m_3 m_4 m_5 m_6 m_7 m_8
          have hal := al w8 (.cells #[.string ⟨#[]⟩, .string ⟨#[]⟩, .int .i64 0, .slice none 0 0, .slice none 0 0, .int .u64 0, .slice none 0 0, .slice none 0 0, .string ⟨#[]⟩] 39)
          have hXX : Mx w8.heap.size (w8.alloc (.cells #[.string ⟨#[]⟩, .string ⟨#[]⟩, .int .i64 0, .slice none 0 0, .slice none 0 0, .int .u64 0, .slice none 0 0, .slice none 0 0, .string ⟨#[]⟩] 39)) ⟨#[]⟩ ⟨#[]⟩ 0 none 0 0 none 0 0 0 none 0 0 none 0 0 ⟨#[]⟩ := mx_alloc w8 ⟨#[]⟩ ⟨#[]⟩ 0 none 0 0 none 0 0 0 none 0 0 none 0 0 ⟨#[]⟩ 39
          have hFF := sf9_alloc w8 #[.string ⟨#[]⟩, .string ⟨#[]⟩, .int .i64 0, .slice none 0 0, .slice none 0 0, .int .u64 0, .slice none 0 0, .slice none 0 0, .string ⟨#[]⟩] 39
          have hGE : wJm.heap.size ≤ w8.heap.size := HA.out.size
          have hGL : w8.heap.size ≤ w8.heap.size := Nat.le_refl _
          obtain ⟨Gz, hG⟩ : ∃ g, w8.heap.size = g := ⟨_, rfl⟩
          generalize w8.alloc (.cells #[.string ⟨#[]⟩, .string ⟨#[]⟩, .int .i64 0, .slice none 0 0, .slice none 0 0, .int .u64 0, .slice none 0 0, .slice none 0 0, .string ⟨#[]⟩] 39) = v9 at hal hXX hFF ⊢
          rw [hG] at hXX hFF hGE ⊢
          replace HIr := zh (offX_new HIr.out (Nat.le_of_eq hG))
          replace HB := zh (Bel.call HB.out hal)
          replace HIr := zh (HIr.out.below hal zl)
          replace HXr := zh (HXr.out.below hal HXr.out.2.2.2.2.2)
          replace HSl := zh (HSl.out.below hal zl)
          replace HSk := zh (HSk.out.below hal zl)
          replace HSs := zh (HSs.out.below hal zl)
          replace HXm := zh (HXm.out.call hal)
          replace HIm := zh (HIm.out.below hal zl)
          replace HPm := zh (HPm.out.below hal)
          replace HA := zh (Bel.call HA.out hal)
          have HXz := zh hXX
          have HFz := zh hFF
          have HGz := zh hGE
          clear hal hXX hFF hGE hGL hG
          obtain ⟨r_0, r_1, r_2, r_3, r_4, _⟩ := HXr.out
          obtain ⟨⟨m_0, m_1, m_2, m_3, m_4, m_5, m_6, m_7, m_8⟩, _⟩ := HXm.out
          obtain ⟨⟨z_0, z_1, z_2, z_3, z_4, z_5, z_6, z_7, z_8⟩, _⟩ := HXz.out
          refine hK.out _ _ (HXr.out) (fun hHeld => ?_)
          clear hHeld
          try simp only [Act.put, zq1, zq2, zq3]
          refine zqR [4] ?_
          refine zqC (fun K hK => ?_) AllReadyH.nil
          go_simp
          with_reducible refine (HRO.out _).mono ?_
          rintro e10 w10 ⟨⟨R, hTR, rfl⟩, hb10⟩
          clear r_0 r_1 r_2 r_3 r_4 m_0 m_1 m_2 m_3 m_4 m_5 m_6 m_7 m_8 z_0 z_1 z_2 z_3 z_4 z_5 z_6 z_7 z_8
          replace HB := zh (Bel.call HB.out hb10)
          replace HIr := zh (HIr.out.below hb10 zl)
          replace HXr := zh (HXr.out.below hb10 HXr.out.2.2.2.2.2)
          replace HSl := zh (HSl.out.below hb10 zl)
          replace HSk := zh (HSk.out.below hb10 zl)
          replace HSs := zh (HSs.out.below hb10 zl)
          replace HXm := zh (HXm.out.call hb10)
          replace HIm := zh (HIm.out.below hb10 zl)
          replace HPm := zh (HPm.out.below hb10)
          replace HA := zh (Bel.call HA.out hb10)
          replace HFz := zh (HFz.out.below hb10 HXz.out.2)
          replace HXz := zh (HXz.out.call hb10)
          clear hb10
          try dsimp only at hTR
          have HTR := zh hTR
          clear hTR
          obtain ⟨r_0, r_1, r_2, r_3, r_4, _⟩ := HXr.out
          obtain ⟨⟨m_0, m_1, m_2, m_3, m_4, m_5, m_6, m_7, m_8⟩, _⟩ := HXm.out
          obtain ⟨⟨z_0, z_1, z_2, z_3, z_4, z_5, z_6, z_7, z_8⟩, _⟩ := HXz.out
          dsimp only
          refine hK.out _ _ (HXr.out) (fun hHeld => ?_)
          clear hHeld
          try simp only [Act.put, zq1, zq2, zq3]
          refine zqR [7] ?_
          refine zqC (fun K hK => ?_) AllReadyH.nil
          go_simp
          with_reducible refine (build_to MB HAN.out (n := Rig.pk root 5) (ver := ver) hnr hv HTS.out HTR.out HLs.out (knows_oth HKk.out HAN.out) (HFk.out) (K := Ak) (ck := ck) (ks := ks) [Gz] _ _ (gs_cons (Mx.lt HXz.out) gs_nil) HIr.out HSs.out HCs.out HSk.out HCk.out (vz := (ver : Int)) rfl (ns := ls.length) rfl (nk := 11) (HNk.out)).mono ?_
          rintro e11 w11 ⟨⟨v11, hm11, hs11, rfl⟩, hb11⟩
          clear r_0 r_1 r_2 r_3 r_4 m_0 m_1 m_2 m_3 m_4 m_5 m_6 m_7 m_8 z_0 z_1 z_2 z_3 z_4 z_5 z_6 z_7 z_8
          replace HB := zh (Bel.call HB.out hb11)
          replace HIr := zh (HIr.out.below hb11 zl)
          replace HXr := zh (HXr.out.below hb11 HXr.out.2.2.2.2.2)
          replace HSl := zh (HSl.out.below hb11 zl)
          replace HSk := zh (HSk.out.below hb11 zl)
          replace HSs := zh (HSs.out.below hb11 zl)
          replace HXm := zh (HXm.out.call hb11)
          replace HIm := zh (HIm.out.below hb11 zl)
          replace HPm := zh (HPm.out.below hb11)
          replace HA := zh (Bel.call HA.out hb11)
          replace HFz := zh (HFz.out.below hb11 HXz.out.2)
          replace HXz := zh (HXz.out.call hb11)
          clear hb11
          obtain ⟨oz, fz, gz, pz, Az, cz, rsz, Bz, dz, wsz, uz, Vz, xz, vsz, Kz, yz, ksz, rfl, hiz, _, _, _, _, _⟩ := isM_lit hm11
          have HEz := zh hiz
          have HIz := zh hm11
          clear hm11 hiz
          have HPz := zh hs11
          clear hs11
          obtain ⟨r_0, r_1, r_2, r_3, r_4, _⟩ := HXr.out
          obtain ⟨⟨m_0, m_1, m_2, m_3, m_4, m_5, m_6, m_7, m_8⟩, _⟩ := HXm.out
          obtain ⟨⟨z_0, z_1, z_2, z_3, z_4, z_5, z_6, z_7, z_8⟩, _⟩ := HXz.out
          dsimp only
          refine hK.out _ _ (HXr.out) (fun hHeld => ?_)
          clear hHeld
          try simp only [Act.put, zq1, zq2, zq3]
          have hHeld : (Bx Gr w11 or fr pr Ar nr cr Br mr dr) := HXr.out
          refine zqU 8 ?_ ?_ ?_
          rotate_left
          · intro w' hSw; obtain ⟨r_0, r_1, r_2, r_3, r_4, _⟩ := hSw; go_simp; try with_reducible rfl
          try simp only [Act.put, zq1, zq2, zq3]
          clear hHeld
          have hHeld : (Bx Gr w11 or fr pr Ar nr cr Br mr dr) := HXr.out
          refine zqU 9 ?_ ?_ ?_
          rotate_left
          · intro w' hSw; obtain ⟨r_0, r_1, r_2, r_3, r_4, _⟩ := hSw; go_simp; try with_reducible rfl
          try simp only [Act.put, zq1, zq2, zq3]
          clear hHeld
          have hHeld : (Bx Gr w11 or fr pr Ar nr cr Br mr dr) := HXr.out
          refine zqU 10 ?_ ?_ ?_
          rotate_left
          · intro w' hSw; obtain ⟨r_0, r_1, r_2, r_3, r_4, _⟩ := hSw; go_simp; try with_reducible rfl
          try simp only [Act.put, zq1, zq2, zq3]
          clear hHeld
          refine zqR [12] ?_
          refine zqC (fun K hK => ?_) AllReadyH.nil
          obtain ⟨z0, z1, z2, z3, z4, z5, z6, z7, z8⟩ := HFz.out
          go_simp
          have hXX : Mx Gz (((((((((w11.setCell ⟨Gz, 0, none⟩ (.string oz)).setCell ⟨Gz, 1, none⟩ (.string fz)).setCell ⟨Gz, 2, none⟩ (.int .i64 pz)).setCell ⟨Gz, 3, none⟩ (.slice Az rsz.length cz)).setCell ⟨Gz, 4, none⟩ (.slice Bz wsz.length dz)).setCell ⟨Gz, 5, none⟩ (.int .u64 (uz : Int))).setCell ⟨Gz, 6, none⟩ (.slice Vz vsz.length xz)).setCell ⟨Gz, 7, none⟩ (.slice Kz ksz.length yz)).setCell ⟨Gz, 8, none⟩ (.string gz)) oz fz pz Az rsz.length cz Bz wsz.length dz uz Vz vsz.length xz Kz ksz.length yz gz := mx_set9 HXz.out
          have hII : IsM AnyB (((((((((w11.setCell ⟨Gz, 0, none⟩ (.string oz)).setCell ⟨Gz, 1, none⟩ (.string fz)).setCell ⟨Gz, 2, none⟩ (.int .i64 pz)).setCell ⟨Gz, 3, none⟩ (.slice Az rsz.length cz)).setCell ⟨Gz, 4, none⟩ (.slice Bz wsz.length dz)).setCell ⟨Gz, 5, none⟩ (.int .u64 (uz : Int))).setCell ⟨Gz, 6, none⟩ (.slice Vz vsz.length xz)).setCell ⟨Gz, 7, none⟩ (.slice Kz ksz.length yz)).setCell ⟨Gz, 8, none⟩ (.string gz)) (.agg #[.string oz, .string fz, .int .i64 pz, .slice Az rsz.length cz, .slice Bz wsz.length dz, .int .u64 (uz : Int), .slice Vz vsz.length xz, .slice Kz ksz.length yz, .string gz]) (mOf r (Rig.pk root 5) ver) := (isM_set9 (List.mem_cons_self ..) HIz.out).any
          have hSP : SepM (((((((((w11.setCell ⟨Gz, 0, none⟩ (.string oz)).setCell ⟨Gz, 1, none⟩ (.string fz)).setCell ⟨Gz, 2, none⟩ (.int .i64 pz)).setCell ⟨Gz, 3, none⟩ (.slice Az rsz.length cz)).setCell ⟨Gz, 4, none⟩ (.slice Bz wsz.length dz)).setCell ⟨Gz, 5, none⟩ (.int .u64 (uz : Int))).setCell ⟨Gz, 6, none⟩ (.slice Vz vsz.length xz)).setCell ⟨Gz, 7, none⟩ (.slice Kz ksz.length yz)).setCell ⟨Gz, 8, none⟩ (.string gz)) (.agg #[.string oz, .string fz, .int .i64 pz, .slice Az rsz.length cz, .slice Bz wsz.length dz, .int .u64 (uz : Int), .slice Vz vsz.length xz, .slice Kz ksz.length yz, .string gz]) := sepM_set9 HPz.out
          have hBB : Below wJm.heap.size wJm (((((((((w11.setCell ⟨Gz, 0, none⟩ (.string oz)).setCell ⟨Gz, 1, none⟩ (.string fz)).setCell ⟨Gz, 2, none⟩ (.int .i64 pz)).setCell ⟨Gz, 3, none⟩ (.slice Az rsz.length cz)).setCell ⟨Gz, 4, none⟩ (.slice Bz wsz.length dz)).setCell ⟨Gz, 5, none⟩ (.int .u64 (uz : Int))).setCell ⟨Gz, 6, none⟩ (.slice Vz vsz.length xz)).setCell ⟨Gz, 7, none⟩ (.slice Kz ksz.length yz)).setCell ⟨Gz, 8, none⟩ (.string gz)) := set9 HA.out HGz.out
          have hKr : Bx Gr (((((((((w11.setCell ⟨Gz, 0, none⟩ (.string oz)).setCell ⟨Gz, 1, none⟩ (.string fz)).setCell ⟨Gz, 2, none⟩ (.int .i64 pz)).setCell ⟨Gz, 3, none⟩ (.slice Az rsz.length cz)).setCell ⟨Gz, 4, none⟩ (.slice Bz wsz.length dz)).setCell ⟨Gz, 5, none⟩ (.int .u64 (uz : Int))).setCell ⟨Gz, 6, none⟩ (.slice Vz vsz.length xz)).setCell ⟨Gz, 7, none⟩ (.slice Kz ksz.length yz)).setCell ⟨Gz, 8, none⟩ (.string gz)) or fr pr Ar nr cr Br mr dr := bx_other9 HXr.out (fun e => by have h1 := ZHXr.out.2.2.2.2.2; have h2 := HGz.out; omega)
          clear r_0 r_1 r_2 r_3 r_4 m_0 m_1 m_2 m_3 m_4 m_5 m_6 m_7 m_8 z_0 z_1 z_2 z_3 z_4 z_5 z_6 z_7 z_8
          generalize (((((((((w11.setCell ⟨Gz, 0, none⟩ (.string oz)).setCell ⟨Gz, 1, none⟩ (.string fz)).setCell ⟨Gz, 2, none⟩ (.int .i64 pz)).setCell ⟨Gz, 3, none⟩ (.slice Az rsz.length cz)).setCell ⟨Gz, 4, none⟩ (.slice Bz wsz.length dz)).setCell ⟨Gz, 5, none⟩ (.int .u64 (uz : Int))).setCell ⟨Gz, 6, none⟩ (.slice Vz vsz.length xz)).setCell ⟨Gz, 7, none⟩ (.slice Kz ksz.length yz)).setCell ⟨Gz, 8, none⟩ (.string gz)) = v12 at hXX hII hSP hBB hKr ⊢
          have HSX := zh hXX
          have HSI := zh hII
          have HSS := zh hSP
          have HSB := zh hBB
          clear hXX hII hSP hBB z0 z1 z2 z3 z4 z5 z6 z7 z8
          refine hK.out _ _ (hKr) (fun hHeld => ?_)
          clear hHeld
          try simp only [Act.put, zq1, zq2, zq3]
          have hHeld : (Bx Gr v12 or fr pr Ar nr cr Br mr dr) := hKr
          refine zqU 13 ?_ ?_ ?_
          rotate_left
          · intro w' hSw; obtain ⟨r_0, r_1, r_2, r_3, r_4, _⟩ := hSw; go_simp; try with_reducible rfl
          try simp only [Act.put, zq1, zq2, zq3]
          clear hHeld
          refine wpAnyH_done (by kernel_rfl) ?_ _
          exact ⟨rfl, Gz, _, _, _, _, _, _, _, _, _, _, _, oz, fz, gz, pz, Az, cz, rsz, Bz, dz, wsz, uz, Vz, xz, vsz, Kz, yz, ksz, rfl, HSX.out, HSI.out, HSS.out, HSB.out⟩
        refine zqC (fun K hK => ?_) AllReadyH.nil
        go_simp
        clear r_0 r_1 r_2 r_3 r_4 m_0 m_1 m_2 m_3 m_4 m_5 m_6 m_7 m_8
        have hal := al d7 (.cells #[.string ⟨#[]⟩, .string ⟨#[]⟩, .int .i64 0, .slice none 0 0, .slice none 0 0, .int .u64 0, .slice none 0 0, .slice none 0 0, .string ⟨#[]⟩] 39)
        have hXX : Mx d7.heap.size (d7.alloc (.cells #[.string ⟨#[]⟩, .string ⟨#[]⟩, .int .i64 0, .slice none 0 0, .slice none 0 0, .int .u64 0, .slice none 0 0, .slice none 0 0, .string ⟨#[]⟩] 39)) ⟨#[]⟩ ⟨#[]⟩ 0 none 0 0 none 0 0 0 none 0 0 none 0 0 ⟨#[]⟩ := mx_alloc d7 ⟨#[]⟩ ⟨#[]⟩ 0 none 0 0 none 0 0 0 none 0 0 none 0 0 ⟨#[]⟩ 39
        have hFF := sf9_alloc d7 #[.string ⟨#[]⟩, .string ⟨#[]⟩, .int .i64 0, .slice none 0 0, .slice none 0 0, .int .u64 0, .slice none 0 0, .slice none 0 0, .string ⟨#[]⟩] 39
        have hGE : wJm.heap.size ≤ d7.heap.size := HA.out.size
        have hGL : d7.heap.size ≤ d7.heap.size := Nat.le_refl _
        obtain ⟨Gz, hG⟩ : ∃ g, d7.heap.size = g := ⟨_, rfl⟩
        generalize d7.alloc (.cells #[.string ⟨#[]⟩, .string ⟨#[]⟩, .int .i64 0, .slice none 0 0, .slice none 0 0, .int .u64 0, .slice none 0 0, .slice none 0 0, .string ⟨#[]⟩] 39) = v8 at hal hXX hFF ⊢
        rw [hG] at hXX hFF hGE ⊢
        replace HIr := zh (offX_new HIr.out (Nat.le_of_eq hG))
        replace HB := zh (Bel.call HB.out hal)
        replace HIr := zh (HIr.out.below hal zl)
        replace HXr := zh (HXr.out.below hal HXr.out.2.2.2.2.2)
        replace HSl := zh (HSl.out.below hal zl)
        replace HSk := zh (HSk.out.below hal zl)
        replace HSs := zh (HSs.out.below hal zl)
        replace HXm := zh (HXm.out.call hal)
        replace HIm := zh (HIm.out.below hal zl)
        replace HPm := zh (HPm.out.below hal)
        replace HA := zh (Bel.call HA.out hal)
        have HXz := zh hXX
        have HFz := zh hFF
        have HGz := zh hGE
        clear hal hXX hFF hGE hGL hG
        obtain ⟨r_0, r_1, r_2, r_3, r_4, _⟩ := HXr.out
        obtain ⟨⟨m_0, m_1, m_2, m_3, m_4, m_5, m_6, m_7, m_8⟩, _⟩ := HXm.out
        obtain ⟨⟨z_0, z_1, z_2, z_3, z_4, z_5, z_6, z_7, z_8⟩, _⟩ := HXz.out
        refine hK.out _ _ (HXr.out) (fun hHeld => ?_)
        clear hHeld
        try simp only [Act.put, zq1, zq2, zq3]
        refine zqR [0] ?_
        refine zqC (fun K hK => ?_) AllReadyH.nil
        go_simp
        with_reducible refine (HSE.out _).mono ?_
        rintro e9 w9 ⟨⟨S, hTS, rfl⟩, hb9⟩
        clear r_0 r_1 r_2 r_3 r_4 m_0 m_1 m_2 m_3 m_4 m_5 m_6 m_7 m_8 z_0 z_1 z_2 z_3 z_4 z_5 z_6 z_7 z_8
        replace HB := zh (Bel.call HB.out hb9)
        replace HIr := zh (HIr.out.below hb9 zl)
        replace HXr := zh (HXr.out.below hb9 HXr.out.2.2.2.2.2)
        replace HSl := zh (HSl.out.below hb9 zl)
        replace HSk := zh (HSk.out.below hb9 zl)
        replace HSs := zh (HSs.out.below hb9 zl)
        replace HXm := zh (HXm.out.call hb9)
        replace HIm := zh (HIm.out.below hb9 zl)
        replace HPm := zh (HPm.out.below hb9)
        replace HA := zh (Bel.call HA.out hb9)
        replace HFz := zh (HFz.out.below hb9 HXz.out.2)
        replace HXz := zh (HXz.out.call hb9)
        clear hb9
        try dsimp only at hTS
        have HTS := zh hTS
        clear hTS
        obtain ⟨r_0, r_1, r_2, r_3, r_4, _⟩ := HXr.out
        obtain ⟨⟨m_0, m_1, m_2, m_3, m_4, m_5, m_6, m_7, m_8⟩, _⟩ := HXm.out
        obtain ⟨⟨z_0, z_1, z_2, z_3, z_4, z_5, z_6, z_7, z_8⟩, _⟩ := HXz.out
        dsimp only
        refine hK.out _ _ (HXr.out) (fun hHeld => ?_)
        clear hHeld
        try simp only [Act.put, zq1, zq2, zq3]
        refine zqR [4] ?_
        refine zqC (fun K hK => ?_) AllReadyH.nil
        go_simp
        with_reducible refine (HRO.out _).mono ?_
        rintro e10 w10 ⟨⟨R, hTR, rfl⟩, hb10⟩
        clear r_0 r_1 r_2 r_3 r_4 m_0 m_1 m_2 m_3 m_4 m_5 m_6 m_7 m_8 z_0 z_1 z_2 z_3 z_4 z_5 z_6 z_7 z_8
        replace HB := zh (Bel.call HB.out hb10)
        replace HIr := zh (HIr.out.below hb10 zl)
        replace HXr := zh (HXr.out.below hb10 HXr.out.2.2.2.2.2)
        replace HSl := zh (HSl.out.below hb10 zl)
        replace HSk := zh (HSk.out.below hb10 zl)
        replace HSs := zh (HSs.out.below hb10 zl)
        replace HXm := zh (HXm.out.call hb10)
        replace HIm := zh (HIm.out.below hb10 zl)
        replace HPm := zh (HPm.out.below hb10)
        replace HA := zh (Bel.call HA.out hb10)
        replace HFz := zh (HFz.out.below hb10 HXz.out.2)
        replace HXz := zh (HXz.out.call hb10)
        clear hb10
        try dsimp only at hTR
        have HTR := zh hTR
        clear hTR
        obtain ⟨r_0, r_1, r_2, r_3, r_4, _⟩ := HXr.out
        obtain ⟨⟨m_0, m_1, m_2, m_3, m_4, m_5, m_6, m_7, m_8⟩, _⟩ := HXm.out
        obtain ⟨⟨z_0, z_1, z_2, z_3, z_4, z_5, z_6, z_7, z_8⟩, _⟩ := HXz.out
        dsimp only
        refine hK.out _ _ (HXr.out) (fun hHeld => ?_)
        clear hHeld
        try simp only [Act.put, zq1, zq2, zq3]
        refine zqR [7] ?_
        refine zqC (fun K hK => ?_) AllReadyH.nil
        go_simp
        with_reducible refine (build_to MB HAN.out (n := Rig.pk root 5) (ver := ver) hnr hv HTS.out HTR.out HLs.out (knows_oth HKk.out HAN.out) (HFk.out) (K := Ak) (ck := ck) (ks := ks) [Gz] _ _ (gs_cons (Mx.lt HXz.out) gs_nil) HIr.out HSs.out HCs.out HSk.out HCk.out (vz := (ver : Int)) rfl (ns := ls.length) rfl (nk := 11) (HNk.out)).mono ?_
        rintro e11 w11 ⟨⟨v11, hm11, hs11, rfl⟩, hb11⟩
        clear r_0 r_1 r_2 r_3 r_4 m_0 m_1 m_2 m_3 m_4 m_5 m_6 m_7 m_8 z_0 z_1 z_2 z_3 z_4 z_5 z_6 z_7 z_8
        replace HB := zh (Bel.call HB.out hb11)
        replace HIr := zh (HIr.out.below hb11 zl)
        replace HXr := zh (HXr.out.below hb11 HXr.out.2.2.2.2.2)
        replace HSl := zh (HSl.out.below hb11 zl)
        replace HSk := zh (HSk.out.below hb11 zl)
        replace HSs := zh (HSs.out.below hb11 zl)
        replace HXm := zh (HXm.out.call hb11)
        replace HIm := zh (HIm.out.below hb11 zl)
        replace HPm := zh (HPm.out.below hb11)
        replace HA := zh (Bel.call HA.out hb11)
        replace HFz := zh (HFz.out.below hb11 HXz.out.2)
        replace HXz := zh (HXz.out.call hb11)
        clear hb11
        obtain ⟨oz, fz, gz, pz, Az, cz, rsz, Bz, dz, wsz, uz, Vz, xz, vsz, Kz, yz, ksz, rfl, hiz, _, _, _, _, _⟩ := isM_lit hm11
        have HEz := zh hiz
        have HIz := zh hm11
        clear hm11 hiz
        have HPz := zh hs11
        clear hs11
        obtain ⟨r_0, r_1, r_2, r_3, r_4, _⟩ := HXr.out
        obtain ⟨⟨m_0, m_1, m_2, m_3, m_4, m_5, m_6, m_7, m_8⟩, _⟩ := HXm.out
        obtain ⟨⟨z_0, z_1, z_2, z_3, z_4, z_5, z_6, z_7, z_8⟩, _⟩ := HXz.out
        dsimp only
        refine hK.out _ _ (HXr.out) (fun hHeld => ?_)
        clear hHeld
        try simp only [Act.put, zq1, zq2, zq3]
        have hHeld : (Bx Gr w11 or fr pr Ar nr cr Br mr dr) := HXr.out
        refine zqU 8 ?_ ?_ ?_
        rotate_left
        · intro w' hSw; obtain ⟨r_0, r_1, r_2, r_3, r_4, _⟩ := hSw; go_simp; try with_reducible rfl
        try simp only [Act.put, zq1, zq2, zq3]
        clear hHeld
        have hHeld : (Bx Gr w11 or fr pr Ar nr cr Br mr dr) := HXr.out
        refine zqU 9 ?_ ?_ ?_
        rotate_left
        · intro w' hSw; obtain ⟨r_0, r_1, r_2, r_3, r_4, _⟩ := hSw; go_simp; try with_reducible rfl
        try simp only [Act.put, zq1, zq2, zq3]
        clear hHeld
        have hHeld : (Bx Gr w11 or fr pr Ar nr cr Br mr dr) := HXr.out
        refine zqU 10 ?_ ?_ ?_
        rotate_left
        · intro w' hSw; obtain ⟨r_0, r_1, r_2, r_3, r_4, _⟩ := hSw; go_simp; try with_reducible rfl
        try simp only [Act.put, zq1, zq2, zq3]
        clear hHeld
        refine zqR [12] ?_
        refine zqC (fun K hK => ?_) AllReadyH.nil
        obtain ⟨z0, z1, z2, z3, z4, z5, z6, z7, z8⟩ := HFz.out
        go_simp
        have hXX : Mx Gz (((((((((w11.setCell ⟨Gz, 0, none⟩ (.string oz)).setCell ⟨Gz, 1, none⟩ (.string fz)).setCell ⟨Gz, 2, none⟩ (.int .i64 pz)).setCell ⟨Gz, 3, none⟩ (.slice Az rsz.length cz)).setCell ⟨Gz, 4, none⟩ (.slice Bz wsz.length dz)).setCell ⟨Gz, 5, none⟩ (.int .u64 (uz : Int))).setCell ⟨Gz, 6, none⟩ (.slice Vz vsz.length xz)).setCell ⟨Gz, 7, none⟩ (.slice Kz ksz.length yz)).setCell ⟨Gz, 8, none⟩ (.string gz)) oz fz pz Az rsz.length cz Bz wsz.length dz uz Vz vsz.length xz Kz ksz.length yz gz := mx_set9 HXz.out
        have hII : IsM AnyB (((((((((w11.setCell ⟨Gz, 0, none⟩ (.string oz)).setCell ⟨Gz, 1, none⟩ (.string fz)).setCell ⟨Gz, 2, none⟩ (.int .i64 pz)).setCell ⟨Gz, 3, none⟩ (.slice Az rsz.length cz)).setCell ⟨Gz, 4, none⟩ (.slice Bz wsz.length dz)).setCell ⟨Gz, 5, none⟩ (.int .u64 (uz : Int))).setCell ⟨Gz, 6, none⟩ (.slice Vz vsz.length xz)).setCell ⟨Gz, 7, none⟩ (.slice Kz ksz.length yz)).setCell ⟨Gz, 8, none⟩ (.string gz)) (.agg #[.string oz, .string fz, .int .i64 pz, .slice Az rsz.length cz, .slice Bz wsz.length dz, .int .u64 (uz : Int), .slice Vz vsz.length xz, .slice Kz ksz.length yz, .string gz]) (mOf r (Rig.pk root 5) ver) := (isM_set9 (List.mem_cons_self ..) HIz.out).any
        have hSP : SepM (((((((((w11.setCell ⟨Gz, 0, none⟩ (.string oz)).setCell ⟨Gz, 1, none⟩ (.string fz)).setCell ⟨Gz, 2, none⟩ (.int .i64 pz)).setCell ⟨Gz, 3, none⟩ (.slice Az rsz.length cz)).setCell ⟨Gz, 4, none⟩ (.slice Bz wsz.length dz)).setCell ⟨Gz, 5, none⟩ (.int .u64 (uz : Int))).setCell ⟨Gz, 6, none⟩ (.slice Vz vsz.length xz)).setCell ⟨Gz, 7, none⟩ (.slice Kz ksz.length yz)).setCell ⟨Gz, 8, none⟩ (.string gz)) (.agg #[.string oz, .string fz, .int .i64 pz, .slice Az rsz.length cz, .slice Bz wsz.length dz, .int .u64 (uz : Int), .slice Vz vsz.length xz, .slice Kz ksz.length yz, .string gz]) := sepM_set9 HPz.out
        have hBB : Below wJm.heap.size wJm (((((((((w11.setCell ⟨Gz, 0, none⟩ (.string oz)).setCell ⟨Gz, 1, none⟩ (.string fz)).setCell ⟨Gz, 2, none⟩ (.int .i64 pz)).setCell ⟨Gz, 3, none⟩ (.slice Az rsz.length cz)).setCell ⟨Gz, 4, none⟩ (.slice Bz wsz.length dz)).setCell ⟨Gz, 5, none⟩ (.int .u64 (uz : Int))).setCell ⟨Gz, 6, none⟩ (.slice Vz vsz.length xz)).setCell ⟨Gz, 7, none⟩ (.slice Kz ksz.length yz)).setCell ⟨Gz, 8, none⟩ (.string gz)) := set9 HA.out HGz.out
        have hKr : Bx Gr (((((((((w11.setCell ⟨Gz, 0, none⟩ (.string oz)).setCell ⟨Gz, 1, none⟩ (.string fz)).setCell ⟨Gz, 2, none⟩ (.int .i64 pz)).setCell ⟨Gz, 3, none⟩ (.slice Az rsz.length cz)).setCell ⟨Gz, 4, none⟩ (.slice Bz wsz.length dz)).setCell ⟨Gz, 5, none⟩ (.int .u64 (uz : Int))).setCell ⟨Gz, 6, none⟩ (.slice Vz vsz.length xz)).setCell ⟨Gz, 7, none⟩ (.slice Kz ksz.length yz)).setCell ⟨Gz, 8, none⟩ (.string gz)) or fr pr Ar nr cr Br mr dr := bx_other9 HXr.out (fun e => by have h1 := ZHXr.out.2.2.2.2.2; have h2 := HGz.out; omega)
        clear r_0 r_1 r_2 r_3 r_4 m_0 m_1 m_2 m_3 m_4 m_5 m_6 m_7 m_8 z_0 z_1 z_2 z_3 z_4 z_5 z_6 z_7 z_8
        generalize (((((((((w11.setCell ⟨Gz, 0, none⟩ (.string oz)).setCell ⟨Gz, 1, none⟩ (.string fz)).setCell ⟨Gz, 2, none⟩ (.int .i64 pz)).setCell ⟨Gz, 3, none⟩ (.slice Az rsz.length cz)).setCell ⟨Gz, 4, none⟩ (.slice Bz wsz.length dz)).setCell ⟨Gz, 5, none⟩ (.int .u64 (uz : Int))).setCell ⟨Gz, 6, none⟩ (.slice Vz vsz.length xz)).setCell ⟨Gz, 7, none⟩ (.slice Kz ksz.length yz)).setCell ⟨Gz, 8, none⟩ (.string gz)) = v12 at hXX hII hSP hBB hKr ⊢
        have HSX := zh hXX
        have HSI := zh hII
        have HSS := zh hSP
        have HSB := zh hBB
        clear hXX hII hSP hBB z0 z1 z2 z3 z4 z5 z6 z7 z8
        refine hK.out _ _ (hKr) (fun hHeld => ?_)
        clear hHeld
        try simp only [Act.put, zq1, zq2, zq3]
        have hHeld : (Bx Gr v12 or fr pr Ar nr cr Br mr dr) := hKr
        refine zqU 13 ?_ ?_ ?_
        rotate_left
        · intro w' hSw; obtain ⟨r_0, r_1, r_2, r_3, r_4, _⟩ := hSw; go_simp; try with_reducible rfl
        try simp only [Act.put, zq1, zq2, zq3]
        clear hHeld
        refine wpAnyH_done (by kernel_rfl) ?_ _
        exact ⟨rfl, Gz, _, _, _, _, _, _, _, _, _, _, _, oz, fz, gz, pz, Az, cz, rsz, Bz, dz, wsz, uz, Vz, xz, vsz, Kz, yz, ksz, rfl, HSX.out, HSI.out, HSS.out, HSB.out⟩
      rintro _ _ wJz ⟨rfl, Gz, t70, t71, t72, t73, t74, t75, t76, t77, t69, t78, t79, oz, fz, gz, pz, Az, cz, rsz, Bz, dz, wsz, uz, Vz, xz, vsz, Kz, yz, ksz, rfl, hXX, hII, hSP, hbJ⟩
      clear r_0 r_1 r_2 r_3 r_4 m_0 m_1 m_2 m_3 m_4 m_5 m_6 m_7 m_8
      replace HB := zh (Bel.call HB.out hbJ)
      replace HIr := zh (HIr.out.below hbJ zl)
      replace HXr := zh (HXr.out.below hbJ HXr.out.2.2.2.2.2)
      replace HSl := zh (HSl.out.below hbJ zl)
      replace HSk := zh (HSk.out.below hbJ zl)
      replace HSs := zh (HSs.out.below hbJ zl)
      replace HXm := zh (HXm.out.call hbJ)
      replace HIm := zh (HIm.out.below hbJ zl)
      replace HPm := zh (HPm.out.below hbJ)
      clear hbJ
      have HXz := zh hXX
      have HIz := zh hII
      have HPz := zh hSP
      clear hXX hII hSP
      obtain ⟨r_0, r_1, r_2, r_3, r_4, _⟩ := HXr.out
      obtain ⟨⟨m_0, m_1, m_2, m_3, m_4, m_5, m_6, m_7, m_8⟩, _⟩ := HXm.out
      obtain ⟨⟨z_0, z_1, z_2, z_3, z_4, z_5, z_6, z_7, z_8⟩, _⟩ := HXz.out
      simp only [Act.put, List.setIfInBounds_toArray, List.set_cons_zero, List.set_cons_succ]
      obtain ⟨X, hX⟩ : ∃ X : ByteArray, X = ⟨⟨both (bodyB (mOf r (Rig.pk root 5) ver))⟩⟩ := ⟨_, rfl⟩
      have HPT : Hid (∀ v w, IsM AnyB w v (mOf r (Rig.pk root 5) ver) → Calls Tryz.prog 24 #[v] w fun e w' => e = .returned (.tuple #[.string X, .int .i64 0]) ∧ Below w.heap.size w w') := fun v w hm => by
        rw [hX]; exact put_to MP HAN.out hnr hv v w hm
      clear hX
      go_wp2_with fail
      with_reducible refine (HPT.out _ _ HIm.out).mono ?_
      rintro e7 w7 ⟨rfl, hb7⟩
      clear r_0 r_1 r_2 r_3 r_4 m_0 m_1 m_2 m_3 m_4 m_5 m_6 m_7 m_8 z_0 z_1 z_2 z_3 z_4 z_5 z_6 z_7 z_8
      replace HB := zh (Bel.call HB.out hb7)
      replace HIr := zh (HIr.out.below hb7 zl)
      replace HXr := zh (HXr.out.below hb7 HXr.out.2.2.2.2.2)
      replace HSl := zh (HSl.out.below hb7 zl)
      replace HSk := zh (HSk.out.below hb7 zl)
      replace HSs := zh (HSs.out.below hb7 zl)
      replace HXm := zh (HXm.out.call hb7)
      replace HIm := zh (HIm.out.below hb7 zl)
      replace HPm := zh (HPm.out.below hb7)
      replace HXz := zh (HXz.out.call hb7)
      replace HIz := zh (HIz.out.below hb7 zl)
      replace HPz := zh (HPz.out.below hb7)
      clear hb7
      obtain ⟨r_0, r_1, r_2, r_3, r_4, _⟩ := HXr.out
      obtain ⟨⟨m_0, m_1, m_2, m_3, m_4, m_5, m_6, m_7, m_8⟩, _⟩ := HXm.out
      obtain ⟨⟨z_0, z_1, z_2, z_3, z_4, z_5, z_6, z_7, z_8⟩, _⟩ := HXz.out
      dsimp only
      go_wp2_with fail
      with_reducible refine (HPT.out _ _ HIz.out).mono ?_
      rintro e8 w8 ⟨rfl, hb8⟩
      clear r_0 r_1 r_2 r_3 r_4 m_0 m_1 m_2 m_3 m_4 m_5 m_6 m_7 m_8 z_0 z_1 z_2 z_3 z_4 z_5 z_6 z_7 z_8
      replace HB := zh (Bel.call HB.out hb8)
      replace HIr := zh (HIr.out.below hb8 zl)
      replace HXr := zh (HXr.out.below hb8 HXr.out.2.2.2.2.2)
      replace HSl := zh (HSl.out.below hb8 zl)
      replace HSk := zh (HSk.out.below hb8 zl)
      replace HSs := zh (HSs.out.below hb8 zl)
      replace HXm := zh (HXm.out.call hb8)
      replace HIm := zh (HIm.out.below hb8 zl)
      replace HPm := zh (HPm.out.below hb8)
      replace HXz := zh (HXz.out.call hb8)
      replace HIz := zh (HIz.out.below hb8 zl)
      replace HPz := zh (HPz.out.below hb8)
      clear hb8
      obtain ⟨r_0, r_1, r_2, r_3, r_4, _⟩ := HXr.out
      obtain ⟨⟨m_0, m_1, m_2, m_3, m_4, m_5, m_6, m_7, m_8⟩, _⟩ := HXm.out
      obtain ⟨⟨z_0, z_1, z_2, z_3, z_4, z_5, z_6, z_7, z_8⟩, _⟩ := HXz.out
      dsimp only
      have hum : um = ver := isM_ver HIm.out
      subst hum
      go_wp2
      go_ret
      exact ⟨rfl, HB.out⟩
end Go.Proofs.YtlkgjceddbclpaaGreat.Mta

