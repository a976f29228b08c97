/-
  MLBack. By an AI agent.
-/
import Derived.Test.YtlkgjceddbclpaaGreatBZ
import Derived.Test.YtlkgjceddbclpaaGreatBLate
import Derived.Test.YtlkgjceddbclpaaGreatBMBytes
import Derived.Test.YtlkgjceddbclpaaGreatBMSame
import Derived.Test.YtlkgjceddbclpaaGreatBMAs
namespace Go.Proofs.YtlkgjceddbclpaaGreat.Mta
open Go.RowKit Wire Term Rig Draw

set_option linter.unusedSimpArgs false
set_option linter.unusedVariables false
theorem bl_inj' : ∀ {xs ys : List ByteArray}, bl xs = bl ys → xs = ys
  | [], [], _ => rfl
  | [], _ :: _, h => by simp [bl] at h
  | _ :: _, [], h => by simp [bl] at h
  | x :: xs, y :: ys, h => by
    simp only [bl, List.map_cons, List.cons.injEq] at h
    rw [str_eq h.1, bl_inj' (xs := xs) (ys := ys) h.2]
theorem pl_inj' : ∀ {xs ys : List (ByteArray × ByteArray)}, pl xs = pl ys → xs = ys
  | [], [], _ => rfl
  | [], _ :: _, h => by simp [pl] at h
  | _ :: _, [], h => by simp [pl] at h
  | x :: xs, y :: ys, h => by
    simp only [pl, List.map_cons, List.cons.injEq, Prod.mk.injEq] at h
    obtain ⟨⟨h1, h2⟩, h3⟩ := h
    rw [pl_inj' (xs := xs) (ys := ys) h3, Prod.ext (str_eq h1) (str_eq h2)]
theorem mt_eq {M : Mt} {o f g o' f' g' : ByteArray} {p p' : Int} {rs ws vs rs' ws' vs' : List ByteArray} {ks ks' : List (ByteArray × ByteArray)} {u u' : Nat} (h : M = ⟨⟨o.data.toList, f.data.toList, p, bl rs, bl ws⟩, u, bl vs, pl ks, g.data.toList⟩) (h' : M = ⟨⟨o'.data.toList, f'.data.toList, p', bl rs', bl ws'⟩, u', bl vs', pl ks', g'.data.toList⟩) :
    o' = o ∧ f' = f ∧ g' = g ∧ p' = p ∧ rs' = rs ∧ ws' = ws ∧ u' = u ∧ vs' = vs ∧ ks' = ks := by
  rw [h] at h'
  simp only [Mt.mk.injEq, Rt.mk.injEq] at h'
  obtain ⟨⟨h1, h2, h3, h4, h5⟩, h6, h7, h8, h9⟩ := h'
  exact ⟨(str_eq h1).symm, (str_eq h2).symm, (str_eq h9).symm, h3.symm, (bl_inj' h4).symm, (bl_inj' h5).symm, h6.symm, (bl_inj' h7).symm, (pl_inj' h8).symm⟩
theorem isM_reads {ok : Nat → Prop} {w : World} {M : Mt} {o f g : ByteArray} {p : Int} {A B V K : Option Addr} {rs ws vs : List ByteArray} {ks : List (ByteArray × ByteArray)} {c d x y u : Nat} (h : IsM ok w (.agg #[.string o, .string f, .int .i64 p, .slice A rs.length c, .slice B ws.length d, .int .u64 (u : Int), .slice V vs.length x, .slice K ks.length y, .string g]) M) (hm : M = ⟨⟨o.data.toList, f.data.toList, p, bl rs, bl ws⟩, u, bl vs, pl ks, g.data.toList⟩) :
    SReads w A rs ∧ SReads w B ws ∧ SReads w V vs ∧ PReads w K ks := by
  obtain ⟨o', f', g', p', A', c', rs', B', d', ws', u', V', x', vs', K', y', ks', he, hm', hA, hB, hV, hK, _⟩ := isM_lit h
  obtain ⟨_, _, _, _, rfl, rfl, _, rfl, rfl⟩ := mt_eq hm hm'
  simp only [Value.agg.injEq, Array.mk.injEq, List.cons.injEq, Value.slice.injEq, and_true] at he
  obtain ⟨_, _, _, ⟨rfl, _, _⟩, ⟨rfl, _, _⟩, _, ⟨rfl, _, _⟩, ⟨rfl, _, _⟩, _⟩ := he
  exact ⟨hA, hB, hV, hK⟩
theorem mOf_many {r : Rt} (h : Ann r) {n ver : Nat} (hn : n < 18446744073709551616) (hv : ver < 18446744073709551616) {o f g : ByteArray} {p : Int} {rs ws vs : List ByteArray} {ks : List (ByteArray × ByteArray)} {u : Nat} (hm : mOf r n ver = ⟨⟨o.data.toList, f.data.toList, p, bl rs, bl ws⟩, u, bl vs, pl ks, g.data.toList⟩) :
    rs.length ≤ 1000 ∧ ws.length ≤ 1000 ∧ vs.length ≤ 1000 ∧ ks.length ≤ 1000 := by
  have hf := few_mOf h hn hv
  rw [hm] at hf
  obtain ⟨⟨_, _, h1, h2, _⟩, h3, h4, _⟩ := hf
  simp only [bl, pl, List.length_map] at h1 h2 h3 h4
  exact ⟨by omega, by omega, by omega, by omega⟩
theorem both_sizes {r : Rt} (h : Ann r) {n ver : Nat} (hn : n < 18446744073709551616) (hv : ver < 18446744073709551616) : 0 < (both (bodyB (mOf r n ver))).length ∧ (both (bodyB (mOf r n ver))).length ≤ 10000 := by
  rw [both_eq, body_mOf]
  have h1 := body_ann h hn hv
  have h2 := (secU_sz anna_len).2
  generalize bodyB (preM r n ver) = B at h1 ⊢
  have p1 := put_le (n := 2) (by decide)
  have p2 := put_le (n := B.length) (by omega)
  have hl : (103 :: (secU annaT ++ 116 :: putText B)).length ≤ 5000 := by
    unfold putText
    simp only [List.length_append, List.length_cons]
    omega
  have p3 := put_le (n := (103 :: (secU annaT ++ 116 :: putText B)).length) (by omega)
  simp only [List.length_append, List.length_cons] at p3 ⊢
  omega
set_option maxHeartbeats 8000000 in
set_option maxRecDepth 1000000 in
theorem back_walk (MT : MTakeOK) (MB : MBuildOK) (MC : MCheckOK) (MP : MPutOK) (MR : MRightOK) (a : Option Addr) (n c : Nat) (Z : Nat → Nat → Int) (ver : Nat) (root at0 : Int) (w : World) (ha : Acts.AReads 2 w a n Z) (hv : ver < 18446744073709551616)
    (hr0 : -9223372036854775808 ≤ root ∧ root ≤ 9223372036854775807) (ht0 : -9223372036854775808 ≤ at0 ∧ at0 ≤ 9223372036854775807) :
    Calls Tryz.prog 5 #[.slice a n c, .int .u64 (ver : Int), .int .i64 root, .int .i64 at0] w fun e w' => e = .returned (.bool true) ∧ Below w.heap.size w w' := by
  have HSH := zh fun w => shown8_any MT MB MC w
  have HD := zh fun w' (hb : Below w.heap.size w w') => turned_any a n c Z (List.range w.heap.size) w' (ha.below hb zl) fun g hg => Nat.lt_of_lt_of_le (List.mem_range.1 hg) hb.size
  have HKN := zh fun w => known_any w
  have HSE : Hid (∀ w, Calls Tryz.prog 14 #[.string ⟨#[97, 110, 110, 97]⟩] w fun e w' => St (secU annaT) e ∧ Below w.heap.size w w') := fun w => secretOf_any annaB w (by decide)
  have HRO := zh fun w => rootOf_any root w hr0
  have HPK : Hid (∀ (n : Nat) (w : World), 0 < n → n ≤ 10000 → Calls Tryz.prog 12 #[.int .i64 at0, .int .i64 (n : Int)] w fun e w' => e = .returned (.int .i64 (Rig.pk at0 n : Int)) ∧ w' = w) := fun n w h1 h2 => pick7_any at0 n w ht0 h1 (by omega)
  have hnr : Rig.pk root 5 < 18446744073709551616 := by have := Rig.pk_lt root (n := 5) (by decide); omega
  clear ha hr0 ht0
  go_enter Tryz.func5, Tryz.ntmps5
  have HB := zh (Below.refl w.heap.size w)
  go_wp2_with fail
  with_reducible refine (HSH.out _).mono ?_
  rintro e1 w1 ⟨rfl, hb1⟩
  replace HB := zh (Bel.call HB.out hb1)
  clear hb1
  dsimp only
  go_wp2_with fail
  with_reducible refine (HD.out _ HB.out).mono ?_
  rintro e2 w2 ⟨⟨v2, r, han, hx2, rfl⟩, hb2⟩
  replace HB := zh (Bel.call HB.out hb2)
  clear hb2
  obtain ⟨or, fr, pr, Ar, nr, cr, Br, mr, dr, rfl, hq1, hq2, hq3, hq4, hq5, hx2⟩ := isX_lit hx2
  have HEr := zh hq1
  have HNr := zh hq2
  have HMr := zh hq3
  clear hq1 hq2 hq3 hq4 hq5
  have HIr := zh hx2
  have HAN := zh han
  clear hx2 han
  dsimp only
  have hep := (ann_ep HAN.out).1
  have hep2 := (ann_ep HAN.out).2
  have hpr0 : 0 ≤ pr := by rw [HEr.out]; omega
  have hpr7 : pr ≤ 7 := by rw [HEr.out]; omega
  have HSG : Hid (∀ w, Calls Tryz.prog 13 #[.int .i64 (IntKind.i64.wrap (pr + 1))] w fun e w' => Lst w.heap.size (sgs (r.ep.toNat + 1)) e w' ∧ Below w.heap.size w w') := fun w => by
    have h := signersOf_any (r.ep.toNat + 1) w (by omega)
    rw [show (((r.ep.toNat + 1 : Nat)) : Int) = pr + 1 from by rw [HEr.out]; omega] at h
    rw [show IntKind.i64.wrap (pr + 1) = pr + 1 from by rw [IntKind.wrap_i64]; omega]
    exact h
  clear hep hep2
  go_wp2_with fail
  have hal := al w2 (.cells #[.string or, .string fr, .int .i64 pr, .slice Ar nr cr, .slice Br mr dr] 27)
  have hXX := bx_alloc w2 or fr pr Ar nr cr Br mr dr 27
  obtain ⟨Gr, hG⟩ : ∃ g, w2.heap.size = g := ⟨_, rfl⟩
  generalize w2.alloc (.cells #[.string or, .string fr, .int .i64 pr, .slice Ar nr cr, .slice Br mr dr] 27) = v3 at hal hXX ⊢
  replace HB := zh (Bel.call HB.out hal)
  replace HIr := zh (HIr.out.below hal zl)
  rw [hG] at hXX ⊢
  have HXr := zh hXX
  clear hal hXX hG
  obtain ⟨r_0, r_1, r_2, r_3, r_4, _⟩ := HXr.out
  replace HIr := zh (isX_in HIr.out)
  go_wp2_with fail
  clear r_0 r_1 r_2 r_3 r_4
  have ZHB := HB
  have ZHIr := HIr
  have ZHXr := HXr
  have hdr : Below v3.heap.size v3 v3.drew := Below.drewN' (Below.refl _ _) 1
  refine Late.region (S := fun W => Below v3.heap.size v3 W) 14 _ (.cells #[.string ⟨#[]⟩, .string ⟨#[]⟩, .int .i64 0, .slice none 0 0, .slice none 0 0, .int .u64 0, .slice none 0 0, .slice none 0 0, .string ⟨#[]⟩] 39) (by kernel_rfl) (by rw [List.getElem?_toArray]; rfl) (by rfl) (by intro a w; rfl) (by kernel_rfl) (by kernel_rfl) (by intro _ _ d _ _; cases d <;> exact ⟨fun h => h, fun h => h⟩) (fun W W' h1 h2 => Bel.call h1 h2) hdr (fun _ => ?_)
  obtain ⟨d4, hwd⟩ : ∃ z, v3.drew = z := ⟨_, rfl⟩
  rw [hwd] at hdr ⊢
  replace HB := zh (Bel.call HB.out hdr)
  replace HIr := zh (HIr.out.below hdr zl)
  replace HXr := zh (HXr.out.below hdr HXr.out.2.2.2.2.2)
  have HA := zh hdr
  clear hwd hdr
  refine Late.take (i := 1) (v := ?_) (by rw [List.getElem?_toArray]; rfl) (by rfl) (by kernel_rfl) (by kernel_rfl) (by kernel_rfl) (Or.inl ⟨by rfl, ?_⟩) ?_
  rotate_left
  · intro w' hSw; obtain ⟨qr0, qr1, qr2, qr3, qr4, _⟩ := ZHXr.out.below hSw ZHXr.out.2.2.2.2.2; go_simp; try with_reducible rfl
  try simp only [Act.put, zq1, zq2, zq3]
  refine Late.take (i := 2) (v := ?_) (by rw [List.getElem?_toArray]; rfl) (by rfl) (by kernel_rfl) (by kernel_rfl) (by kernel_rfl) (Or.inl ⟨by rfl, ?_⟩) ?_
  rotate_left
  · intro w' hSw; go_simp; try with_reducible rfl
  try simp only [Act.put, zq1, zq2, zq3]
  refine Late.take (i := 3) (v := ?_) (by rw [List.getElem?_toArray]; rfl) (by rfl) (by kernel_rfl) (by kernel_rfl) (by kernel_rfl) (Or.inl ⟨by rfl, ?_⟩) ?_
  rotate_left
  · intro w' hSw; go_simp; try with_reducible rfl
  try simp only [Act.put, zq1, zq2, zq3]
  refine Late.take (i := 5) (v := ?_) (by rw [List.getElem?_toArray]; rfl) (by rfl) (by kernel_rfl) (by kernel_rfl) (by kernel_rfl) (Or.inl ⟨by rfl, ?_⟩) ?_
  rotate_left
  · intro w' hSw; go_simp; try with_reducible rfl
  try simp only [Act.put, zq1, zq2, zq3]
  refine Late.take (i := 6) (v := ?_) (by rw [List.getElem?_toArray]; rfl) (by rfl) (by kernel_rfl) (by kernel_rfl) (by kernel_rfl) (Or.inl ⟨by rfl, ?_⟩) ?_
  rotate_left
  · intro w' hSw; obtain ⟨qr0, qr1, qr2, qr3, qr4, _⟩ := ZHXr.out.below hSw ZHXr.out.2.2.2.2.2; go_simp; try with_reducible rfl
  try simp only [Act.put, zq1, zq2, zq3]
  refine Late.take (i := 7) (v := ?_) (by rw [List.getElem?_toArray]; rfl) (by rfl) (by kernel_rfl) (by kernel_rfl) (by kernel_rfl) (Or.inl ⟨by rfl, ?_⟩) ?_
  rotate_left
  · intro w' hSw; go_simp; try with_reducible rfl
  try simp only [Act.put, zq1, zq2, zq3]
  refine Late.call (i := 0) (by rw [List.getElem?_toArray]; rfl) (by rfl) (by kernel_rfl) (by kernel_rfl) (by kernel_rfl) (fun d5 _ hLn Kn hK => ?_)
  replace HB := zh (Bel.call HB.out hLn)
  replace HIr := zh (HIr.out.below hLn zl)
  replace HXr := zh (HXr.out.below hLn HXr.out.2.2.2.2.2)
  replace HA := zh (Bel.call HA.out hLn)
  clear hLn
  have HLN := zh (Below.refl d5.heap.size d5)
  go_simp
  with_reducible refine (HSE.out _).mono ?_
  rintro e6 w6 ⟨⟨S, hTS, rfl⟩, hb6⟩
  replace HB := zh (Bel.call HB.out hb6)
  replace HIr := zh (HIr.out.below hb6 zl)
  replace HXr := zh (HXr.out.below hb6 HXr.out.2.2.2.2.2)
  replace HA := zh (Bel.call HA.out hb6)
  replace HLN := zh (Bel.call HLN.out hb6)
  clear hb6
  try dsimp only at hTS
  have HTS := zh hTS
  clear hTS
  dsimp only
  refine hK.out _ _ HLN.out ?_
  try simp only [Act.put, zq1, zq2, zq3]
  clear HLN hK Kn
  refine Late.call (i := 4) (by rw [List.getElem?_toArray]; rfl) (by rfl) (by kernel_rfl) (by kernel_rfl) (by kernel_rfl) (fun d7 _ hLn Kn hK => ?_)
  replace HB := zh (Bel.call HB.out hLn)
  replace HIr := zh (HIr.out.below hLn zl)
  replace HXr := zh (HXr.out.below hLn HXr.out.2.2.2.2.2)
  replace HA := zh (Bel.call HA.out hLn)
  clear hLn
  have HLN := zh (Below.refl d7.heap.size d7)
  go_simp
  with_reducible refine (HRO.out _).mono ?_
  rintro e8 w8 ⟨⟨R, hTR, rfl⟩, hb8⟩
  replace HB := zh (Bel.call HB.out hb8)
  replace HIr := zh (HIr.out.below hb8 zl)
  replace HXr := zh (HXr.out.below hb8 HXr.out.2.2.2.2.2)
  replace HA := zh (Bel.call HA.out hb8)
  replace HLN := zh (Bel.call HLN.out hb8)
  clear hb8
  try dsimp only at hTR
  have HTR := zh hTR
  clear hTR
  dsimp only
  refine hK.out _ _ HLN.out ?_
  try simp only [Act.put, zq1, zq2, zq3]
  clear HLN hK Kn
  refine Late.call (i := 8) (by rw [List.getElem?_toArray]; rfl) (by rfl) (by kernel_rfl) (by kernel_rfl) (by kernel_rfl) (fun d9 _ hLn Kn hK => ?_)
  replace HB := zh (Bel.call HB.out hLn)
  replace HIr := zh (HIr.out.below hLn zl)
  replace HXr := zh (HXr.out.below hLn HXr.out.2.2.2.2.2)
  replace HA := zh (Bel.call HA.out hLn)
  clear hLn
  have HLN := zh (Below.refl d9.heap.size d9)
  go_simp
  with_reducible refine (HSG.out _).mono ?_
  rintro e10 w10 ⟨⟨As, cs, ls, hls, hcs, hrs, _, rfl⟩, hb10⟩
  replace HB := zh (Bel.call HB.out hb10)
  replace HIr := zh (HIr.out.below hb10 zl)
  replace HXr := zh (HXr.out.below hb10 HXr.out.2.2.2.2.2)
  replace HA := zh (Bel.call HA.out hb10)
  replace HLN := zh (Bel.call HLN.out hb10)
  clear hb10
  have HLs := zh hls
  have HCs := zh hcs
  have HSs := zh hrs
  clear hls hcs hrs
  dsimp only
  refine hK.out _ _ HLN.out ?_
  try simp only [Act.put, zq1, zq2, zq3]
  clear HLN hK Kn
  refine Late.call (i := 9) (by rw [List.getElem?_toArray]; rfl) (by rfl) (by kernel_rfl) (by kernel_rfl) (by kernel_rfl) (fun d11 _ hLn Kn hK => ?_)
  replace HB := zh (Bel.call HB.out hLn)
  replace HIr := zh (HIr.out.below hLn zl)
  replace HXr := zh (HXr.out.below hLn HXr.out.2.2.2.2.2)
  replace HA := zh (Bel.call HA.out hLn)
  replace HSs := zh (HSs.out.below hLn zl)
  clear hLn
  have HLN := zh (Below.refl d11.heap.size d11)
  go_simp
  with_reducible refine (HKN.out _).mono ?_
  rintro e12 w12 ⟨⟨Al, cl, ll, hll, hcl, hrl, _, rfl⟩, hb12⟩
  replace HB := zh (Bel.call HB.out hb12)
  replace HIr := zh (HIr.out.below hb12 zl)
  replace HXr := zh (HXr.out.below hb12 HXr.out.2.2.2.2.2)
  replace HA := zh (Bel.call HA.out hb12)
  replace HSs := zh (HSs.out.below hb12 zl)
  replace HLN := zh (Bel.call HLN.out hb12)
  clear hb12
  have HLl := zh hll
  have HCl := zh hcl
  have HSl := zh hrl
  clear hll hcl hrl
  dsimp only
  refine hK.out _ _ HLN.out ?_
  try simp only [Act.put, zq1, zq2, zq3]
  clear HLN hK Kn
  refine Late.call (i := 10) (by rw [List.getElem?_toArray]; rfl) (by rfl) (by kernel_rfl) (by kernel_rfl) (by kernel_rfl) (fun d13 _ hLn Kn hK => ?_)
  replace HB := zh (Bel.call HB.out hLn)
  replace HIr := zh (HIr.out.below hLn zl)
  replace HXr := zh (HXr.out.below hLn HXr.out.2.2.2.2.2)
  replace HA := zh (Bel.call HA.out hLn)
  replace HSs := zh (HSs.out.below hLn zl)
  replace HSl := zh (HSl.out.below hLn zl)
  clear hLn
  have HLN := zh (Below.refl d13.heap.size d13)
  go_simp
  with_reducible refine (build_to MB HAN.out (n := Rig.pk root 5) (ver := ver) hnr hv HTS.out HTR.out HLs.out (by rw [HLl.out]; exact knows_oth knows_all HAN.out) (by rw [HLl.out]; exact fit_known) (K := Al) (ck := cl) (ks := ll) (Gs w.heap.size v3.heap.size d13.heap.size) _ _ (gs_lt HB.out.size) (isX_gs HIr.out) HSs.out HCs.out HSl.out HCl.out (vz := (ver : Int)) rfl (ns := ls.length) rfl (nk := ll.length) rfl).mono ?_
  rintro e14 w14 ⟨⟨v14, hm14, hs14, rfl⟩, hb14⟩
  replace HB := zh (Bel.call HB.out hb14)
  replace HIr := zh (HIr.out.below hb14 zl)
  replace HXr := zh (HXr.out.below hb14 HXr.out.2.2.2.2.2)
  replace HA := zh (Bel.call HA.out hb14)
  replace HSs := zh (HSs.out.below hb14 zl)
  replace HSl := zh (HSl.out.below hb14 zl)
  replace HLN := zh (Bel.call HLN.out hb14)
  clear hb14
  obtain ⟨om, fm, gm, pm, Am, cm, rsm, Bm, dm, wsm, um, Vm, xm, vsm, Km, ym, ksm, rfl, him, _, _, _, _, _⟩ := isM_lit hm14
  have HEm := zh him
  have HIm := zh hm14
  clear hm14 him
  have HPm := zh hs14
  clear hs14
  dsimp only
  replace HIm := zh (isM_near HIm.out)
  refine hK.out _ _ HLN.out ?_
  try simp only [Act.put, zq1, zq2, zq3]
  clear HLN hK Kn
  refine Late.take (i := 11) (v := ?_) (by rw [List.getElem?_toArray]; rfl) (by rfl) (by kernel_rfl) (by kernel_rfl) (by kernel_rfl) (Or.inl ⟨by rfl, ?_⟩) ?_
  rotate_left
  · intro w' hSw; go_simp; try with_reducible rfl
  try simp only [Act.put, zq1, zq2, zq3]
  refine Late.take (i := 12) (v := ?_) (by rw [List.getElem?_toArray]; rfl) (by rfl) (by kernel_rfl) (by kernel_rfl) (by kernel_rfl) (Or.inl ⟨by rfl, ?_⟩) ?_
  rotate_left
  · intro w' hSw; go_simp; try with_reducible rfl
  try simp only [Act.put, zq1, zq2, zq3]
  refine Late.take (i := 13) (v := ?_) (by rw [List.getElem?_toArray]; rfl) (by rfl) (by kernel_rfl) (by kernel_rfl) (by kernel_rfl) (Or.inl ⟨by rfl, ?_⟩) ?_
  rotate_left
  · intro w' hSw; go_simp; try with_reducible rfl
  try simp only [Act.put, zq1, zq2, zq3]
  refine Late.last (by kernel_rfl) (fun d15 Gm _ hLg hZg hgg hav => ?_)
  replace HB := zh (Bel.call HB.out hLg)
  replace HIr := zh (HIr.out.below hLg zl)
  replace HXr := zh (HXr.out.below hLg HXr.out.2.2.2.2.2)
  replace HA := zh (Bel.call HA.out hLg)
  replace HSs := zh (HSs.out.below hLg zl)
  replace HSl := zh (HSl.out.below hLg zl)
  replace HIm := zh (HIm.out.below hLg zl)
  replace HPm := zh (HPm.out.below hLg)
  obtain ⟨hXX, hFF⟩ := mx_at (o := ⟨#[]⟩) (f := ⟨#[]⟩) (ep := 0) (A := none) (n := 0) (c := 0) (B := none) (m := 0) (d := 0) (ver := 0) (V := none) (nv := 0) (cv := 0) (K := none) (nk := 0) (ck := 0) (sig := ⟨#[]⟩) hZg
  have HGm : Hid (v3.heap.size ≤ Gm) := hgg
  replace HIm := zh (isM_late HIm.out hgg (hav _ (List.mem_cons_self ..)))
  obtain ⟨z0, z1, z2, z3, z4, z5, z6, z7, z8⟩ := hFF
  obtain ⟨⟨y0, y1, y2, y3, y4, y5, y6, y7, y8⟩, _⟩ := hXX
  try simp only [Act.put, zq1, zq2, zq3]
  refine zqR [15] ?_
  refine zqC (fun Kn hK => ?_) AllReadyH.nil
  go_simp
  have hXX : Mx Gm (((((((((d15.setCell ⟨Gm, 0, none⟩ (.string om)).setCell ⟨Gm, 1, none⟩ (.string fm)).setCell ⟨Gm, 2, none⟩ (.int .i64 pm)).setCell ⟨Gm, 3, none⟩ (.slice Am rsm.length cm)).setCell ⟨Gm, 4, none⟩ (.slice Bm wsm.length dm)).setCell ⟨Gm, 5, none⟩ (.int .u64 (um : Int))).setCell ⟨Gm, 6, none⟩ (.slice Vm vsm.length xm)).setCell ⟨Gm, 7, none⟩ (.slice Km ksm.length ym)).setCell ⟨Gm, 8, none⟩ (.string gm)) om fm pm Am rsm.length cm Bm wsm.length dm um Vm vsm.length xm Km ksm.length ym gm := mx_set9 (o' := ⟨#[]⟩) (f' := ⟨#[]⟩) (ep' := 0) (A' := none) (n' := 0) (c' := 0) (B' := none) (m' := 0) (d' := 0) (ver' := 0) (V' := none) (nv' := 0) (cv' := 0) (K' := none) (nk' := 0) (ck' := 0) (sig' := ⟨#[]⟩) ⟨⟨y0, y1, y2, y3, y4, y5, y6, y7, y8⟩, (Array.getElem?_eq_some_iff.1 hZg).1⟩
  have hII : IsM (Off (Gm :: List.range w.heap.size)) (((((((((d15.setCell ⟨Gm, 0, none⟩ (.string om)).setCell ⟨Gm, 1, none⟩ (.string fm)).setCell ⟨Gm, 2, none⟩ (.int .i64 pm)).setCell ⟨Gm, 3, none⟩ (.slice Am rsm.length cm)).setCell ⟨Gm, 4, none⟩ (.slice Bm wsm.length dm)).setCell ⟨Gm, 5, none⟩ (.int .u64 (um : Int))).setCell ⟨Gm, 6, none⟩ (.slice Vm vsm.length xm)).setCell ⟨Gm, 7, none⟩ (.slice Km ksm.length ym)).setCell ⟨Gm, 8, none⟩ (.string gm)) (.agg #[.string om, .string fm, .int .i64 pm, .slice Am rsm.length cm, .slice Bm wsm.length dm, .int .u64 (um : Int), .slice Vm vsm.length xm, .slice Km ksm.length ym, .string gm]) (mOf r (Rig.pk root 5) ver) := isM_set9 (List.mem_cons_self ..) HIm.out
  have hSP : SepM (((((((((d15.setCell ⟨Gm, 0, none⟩ (.string om)).setCell ⟨Gm, 1, none⟩ (.string fm)).setCell ⟨Gm, 2, none⟩ (.int .i64 pm)).setCell ⟨Gm, 3, none⟩ (.slice Am rsm.length cm)).setCell ⟨Gm, 4, none⟩ (.slice Bm wsm.length dm)).setCell ⟨Gm, 5, none⟩ (.int .u64 (um : Int))).setCell ⟨Gm, 6, none⟩ (.slice Vm vsm.length xm)).setCell ⟨Gm, 7, none⟩ (.slice Km ksm.length ym)).setCell ⟨Gm, 8, none⟩ (.string gm)) (.agg #[.string om, .string fm, .int .i64 pm, .slice Am rsm.length cm, .slice Bm wsm.length dm, .int .u64 (um : Int), .slice Vm vsm.length xm, .slice Km ksm.length ym, .string gm]) := sepM_set9 HPm.out
  have hBB : Below v3.heap.size v3 (((((((((d15.setCell ⟨Gm, 0, none⟩ (.string om)).setCell ⟨Gm, 1, none⟩ (.string fm)).setCell ⟨Gm, 2, none⟩ (.int .i64 pm)).setCell ⟨Gm, 3, none⟩ (.slice Am rsm.length cm)).setCell ⟨Gm, 4, none⟩ (.slice Bm wsm.length dm)).setCell ⟨Gm, 5, none⟩ (.int .u64 (um : Int))).setCell ⟨Gm, 6, none⟩ (.slice Vm vsm.length xm)).setCell ⟨Gm, 7, none⟩ (.slice Km ksm.length ym)).setCell ⟨Gm, 8, none⟩ (.string gm)) := set9 HA.out HGm.out
  have hZB := zh hBB
  generalize (((((((((d15.setCell ⟨Gm, 0, none⟩ (.string om)).setCell ⟨Gm, 1, none⟩ (.string fm)).setCell ⟨Gm, 2, none⟩ (.int .i64 pm)).setCell ⟨Gm, 3, none⟩ (.slice Am rsm.length cm)).setCell ⟨Gm, 4, none⟩ (.slice Bm wsm.length dm)).setCell ⟨Gm, 5, none⟩ (.int .u64 (um : Int))).setCell ⟨Gm, 6, none⟩ (.slice Vm vsm.length xm)).setCell ⟨Gm, 7, none⟩ (.slice Km ksm.length ym)).setCell ⟨Gm, 8, none⟩ (.string gm)) = v16 at hXX hII hSP hBB hZB ⊢
  refine hK.out _ _ hBB (fun _ => ?_)
  try simp only [Act.put, zq1, zq2, zq3]
  clear hK Kn y0 y1 y2 y3 y4 y5 y6 y7 y8 z0 z1 z2 z3 z4 z5 z6 z7 z8 hZg hgg hav hLg
  refine zqT 16 ?_ ?_ ?_
  rotate_left
  · intro w' hSw; go_simp; try with_reducible rfl
  try simp only [Act.put, zq1, zq2, zq3]
  refine wpAnyH_done (by kernel_rfl) ?_ _
  replace HB := ZHB
  replace HIr := ZHIr
  replace HXr := ZHXr
  replace HB := zh (Bel.call HB.out hZB.out)
  replace HIr := zh (HIr.out.below hZB.out zl)
  replace HXr := zh (HXr.out.below hZB.out HXr.out.2.2.2.2.2)
  clear hZB ZHB ZHIr ZHXr
  have HXm := zh hXX
  have HIm := zh hII
  have HPm := zh hSP
  clear hXX hII hSP hBB
  obtain ⟨r_0, r_1, r_2, r_3, r_4, _⟩ := HXr.out
  obtain ⟨⟨m_0, m_1, m_2, m_3, m_4, m_5, m_6, m_7, m_8⟩, _⟩ := HXm.out
  obtain ⟨X, hX⟩ : ∃ X : ByteArray, X = ⟨⟨both (bodyB (mOf r (Rig.pk root 5) ver))⟩⟩ := ⟨_, rfl⟩
  have HPT : Hid (∀ v w, IsM AnyB w v (mOf r (Rig.pk root 5) ver) → Calls Tryz.prog 24 #[v] w fun e w' => e = .returned (.tuple #[.string X, .int .i64 0]) ∧ Below w.heap.size w w') := fun v w hm => by
    rw [hX]; exact put_to MP HAN.out hnr hv v w hm
  have hXd : X.data.toList = both (bodyB (mOf r (Rig.pk root 5) ver)) := by rw [hX]
  have HXD := zh hXd
  have hXs : 0 < X.size ∧ X.size ≤ 10000 := by
    rw [Lib.size_eq, hXd]; exact both_sizes HAN.out hnr hv
  have HTK : Hid (∀ w, Calls Tryz.prog 28 #[.string X] w fun e w' => Me (Off []) ((mOf r (Rig.pk root 5) ver), 0) e w' ∧ Below w.heap.size w w') := fun w => by
    have h := MT [] X w gs_nil hXs.2
    rw [hXd, take_mOf HAN.out hnr hv] at h
    exact h
  clear hX hXd
  go_wp2_with fail
  with_reducible refine (HPT.out _ _ HIm.out.any).mono ?_
  rintro e17 w17 ⟨rfl, hb17⟩
  clear r_0 r_1 r_2 r_3 r_4 m_0 m_1 m_2 m_3 m_4 m_5 m_6 m_7 m_8
  replace HB := zh (Bel.call HB.out hb17)
  replace HIr := zh (HIr.out.below hb17 zl)
  replace HXr := zh (HXr.out.below hb17 HXr.out.2.2.2.2.2)
  replace HXm := zh (HXm.out.call hb17)
  replace HIm := zh (HIm.out.below hb17 zl)
  replace HPm := zh (HPm.out.below hb17)
  clear hb17
  obtain ⟨r_0, r_1, r_2, r_3, r_4, _⟩ := HXr.out
  obtain ⟨⟨m_0, m_1, m_2, m_3, m_4, m_5, m_6, m_7, m_8⟩, _⟩ := HXm.out
  dsimp only
  go_wp2_with fail
  with_reducible refine (HTK.out _).mono ?_
  rintro e18 w18 ⟨⟨v18, hm18, rfl⟩, hb18⟩
  clear r_0 r_1 r_2 r_3 r_4 m_0 m_1 m_2 m_3 m_4 m_5 m_6 m_7 m_8
  replace HB := zh (Bel.call HB.out hb18)
  replace HIr := zh (HIr.out.below hb18 zl)
  replace HXr := zh (HXr.out.below hb18 HXr.out.2.2.2.2.2)
  replace HXm := zh (HXm.out.call hb18)
  replace HIm := zh (HIm.out.below hb18 zl)
  replace HPm := zh (HPm.out.below hb18)
  clear hb18
  obtain ⟨ox, fx, gx, px, Ax, cx, rsx, Bx, dx, wsx, ux, Vx, xx, vsx, Kx, yx, ksx, rfl, hix, _, _, _, _, _⟩ := isM_lit hm18
  have HEx := zh hix
  have HIx := zh hm18
  clear hm18 hix
  obtain ⟨r_0, r_1, r_2, r_3, r_4, _⟩ := HXr.out
  obtain ⟨⟨m_0, m_1, m_2, m_3, m_4, m_5, m_6, m_7, m_8⟩, _⟩ := HXm.out
  dsimp only
  go_wp2_with fail
  clear r_0 r_1 r_2 r_3 r_4 m_0 m_1 m_2 m_3 m_4 m_5 m_6 m_7 m_8
  have hal := al w18 (.cells #[.string ox, .string fx, .int .i64 px, .slice Ax rsx.length cx, .slice Bx wsx.length dx, .int .u64 (ux : Int), .slice Vx vsx.length xx, .slice Kx ksx.length yx, .string gx] 39)
  have hXX := mx_alloc w18 ox fx px Ax rsx.length cx Bx wsx.length dx ux Vx vsx.length xx Kx ksx.length yx gx 39
  obtain ⟨Gx, hG⟩ : ∃ g, w18.heap.size = g := ⟨_, rfl⟩
  generalize w18.alloc (.cells #[.string ox, .string fx, .int .i64 px, .slice Ax rsx.length cx, .slice Bx wsx.length dx, .int .u64 (ux : Int), .slice Vx vsx.length xx, .slice Kx ksx.length yx, .string gx] 39) = v19 at hal hXX ⊢
  replace HB := zh (Bel.call HB.out hal)
  replace HIr := zh (HIr.out.below hal zl)
  replace HXr := zh (HXr.out.below hal HXr.out.2.2.2.2.2)
  replace HXm := zh (HXm.out.call hal)
  replace HIm := zh (HIm.out.below hal zl)
  replace HPm := zh (HPm.out.below hal)
  replace HIx := zh (HIx.out.below hal zl)
  rw [hG] at hXX ⊢
  have HXx := zh hXX
  clear hal hXX hG
  obtain ⟨r_0, r_1, r_2, r_3, r_4, _⟩ := HXr.out
  obtain ⟨⟨m_0, m_1, m_2, m_3, m_4, m_5, m_6, m_7, m_8⟩, _⟩ := HXm.out
  obtain ⟨⟨x_0, x_1, x_2, x_3, x_4, x_5, x_6, x_7, x_8⟩, _⟩ := HXx.out
  obtain ⟨rfl, rfl, rfl, rfl, rfl, rfl, rfl, rfl, rfl⟩ := mt_eq HEx.out HEm.out
  obtain rfl : ver = um := (isM_ver HIm.out).symm
  obtain ⟨hn1, hn2, hn3, hn4⟩ := mOf_many HAN.out hnr hv HEm.out
  have HN := zh (And.intro hn1 (And.intro hn2 (And.intro hn3 hn4)))
  clear hn1 hn2 hn3 hn4
  have HFW : Hid (FewM (mOf r (Rig.pk root 5) ver)) := few_mOf HAN.out hnr hv
  have HRG : Hid (∀ v W, IsM AnyB W v (mOf r (Rig.pk root 5) ver) → Calls Tryz.prog 32 #[v] W fun e w' => e = .returned (.bool true) ∧ Below W.heap.size W w') := zh fun v W h => by
    have h2 := MR _ _ W h HFW.out
    rw [decide_eq_true (mOf_right HAN.out hnr hv)] at h2
    exact h2
  go_wp2_with fail
  clear r_0 r_1 r_2 r_3 r_4 m_0 m_1 m_2 m_3 m_4 m_5 m_6 m_7 m_8 x_0 x_1 x_2 x_3 x_4 x_5 x_6 x_7 x_8
  have ZHXm := HXm
  have ZHXx := HXx
  have hdr : Below v19.heap.size v19 v19.drew := Below.drewN' (Below.refl _ _) 1
  refine wp_region_held_drew (S := fun W => Below v19.heap.size v19 W) (by kernel_rfl) hdr (fun hHeld => ?_)
  obtain ⟨d20, hwd⟩ : ∃ z, v19.drew = z := ⟨_, rfl⟩
  rw [hwd] at hdr hHeld ⊢
  replace HB := zh (Bel.call HB.out hdr)
  replace HIr := zh (HIr.out.below hdr zl)
  replace HXr := zh (HXr.out.below hdr HXr.out.2.2.2.2.2)
  replace HXm := zh (HXm.out.call hdr)
  replace HIm := zh (HIm.out.below hdr zl)
  replace HPm := zh (HPm.out.below hdr)
  replace HIx := zh (HIx.out.below hdr zl)
  replace HXx := zh (HXx.out.call hdr)
  have HA := zh hdr
  clear hwd hdr
  refine zqT 0 ?_ ?_ ?_
  rotate_left
  · intro w' hSw; go_simp; try with_reducible rfl
  try simp only [Act.put, zq1, zq2, zq3]
  refine zqT 1 ?_ ?_ ?_
  rotate_left
  · intro w' hSw; go_simp; try with_reducible rfl
  try simp only [Act.put, zq1, zq2, zq3]
  refine zqT 2 ?_ ?_ ?_
  rotate_left
  · intro w' hSw; go_simp; try with_reducible rfl
  try simp only [Act.put, zq1, zq2, zq3]
  refine zqT 3 ?_ ?_ ?_
  rotate_left
  · intro w' hSw; go_simp; try with_reducible rfl
  try simp only [Act.put, zq1, zq2, zq3]
  refine zqT 4 ?_ ?_ ?_
  rotate_left
  · intro w' hSw; go_simp; try with_reducible rfl
  try simp only [Act.put, zq1, zq2, zq3]
  refine zqT 5 ?_ ?_ ?_
  rotate_left
  · intro w' hSw; go_simp; try with_reducible rfl
  try simp only [Act.put, zq1, zq2, zq3]
  refine zqT 6 ?_ ?_ ?_
  rotate_left
  · intro w' hSw; go_simp; try with_reducible rfl
  try simp only [Act.put, zq1, zq2, zq3]
  refine zqT 7 ?_ ?_ ?_
  rotate_left
  · intro w' hSw; go_simp; try with_reducible rfl
  try simp only [Act.put, zq1, zq2, zq3]
  refine zqT 8 ?_ ?_ ?_
  rotate_left
  · intro w' hSw; go_simp; try with_reducible rfl
  try simp only [Act.put, zq1, zq2, zq3]
  refine zqT 9 ?_ ?_ ?_
  rotate_left
  · intro w' hSw; go_simp; try with_reducible rfl
  try simp only [Act.put, zq1, zq2, zq3]
  refine zqT 10 ?_ ?_ ?_
  rotate_left
  · intro w' hSw; go_simp; try with_reducible rfl
  try simp only [Act.put, zq1, zq2, zq3]
  refine zqT 11 ?_ ?_ ?_
  rotate_left
  · intro w' hSw; obtain ⟨⟨qm0, qm1, qm2, qm3, qm4, qm5, qm6, qm7, qm8⟩, _⟩ := ZHXm.out.call hSw; obtain ⟨⟨qx0, qx1, qx2, qx3, qx4, qx5, qx6, qx7, qx8⟩, _⟩ := ZHXx.out.call hSw; go_simp; try with_reducible rfl
  try simp only [Act.put, zq1, zq2, zq3]
  clear hHeld
  refine zqR [12] ?_
  refine zqC (fun Kn hK => ?_) AllReadyH.nil
  go_simp
  with_reducible refine (HRG.out _ _ HIm.out.any).mono ?_
  rintro e21 w21 ⟨rfl, hb21⟩
  replace HB := zh (Bel.call HB.out hb21)
  replace HIr := zh (HIr.out.below hb21 zl)
  replace HXr := zh (HXr.out.below hb21 HXr.out.2.2.2.2.2)
  replace HXm := zh (HXm.out.call hb21)
  replace HIm := zh (HIm.out.below hb21 zl)
  replace HPm := zh (HPm.out.below hb21)
  replace HIx := zh (HIx.out.below hb21 zl)
  replace HXx := zh (HXx.out.call hb21)
  replace HA := zh (Bel.call HA.out hb21)
  clear hb21
  dsimp only
  refine hK.out _ _ HA.out (fun hHeld => ?_)
  try simp only [Act.put, zq1, zq2, zq3]
  clear hK Kn
  refine zqT 13 ?_ ?_ ?_
  rotate_left
  · intro w' hSw; go_simp; try with_reducible rfl
  try simp only [Act.put, zq1, zq2, zq3]
  refine zqT 14 ?_ ?_ ?_
  rotate_left
  · intro w' hSw; go_simp; try with_reducible rfl
  try simp only [Act.put, zq1, zq2, zq3]
  refine zqT 15 ?_ ?_ ?_
  rotate_left
  · intro w' hSw; go_simp; try with_reducible rfl
  try simp only [Act.put, zq1, zq2, zq3]
  refine zqT 16 ?_ ?_ ?_
  rotate_left
  · intro w' hSw; obtain ⟨⟨qm0, qm1, qm2, qm3, qm4, qm5, qm6, qm7, qm8⟩, _⟩ := ZHXm.out.call hSw; obtain ⟨⟨qx0, qx1, qx2, qx3, qx4, qx5, qx6, qx7, qx8⟩, _⟩ := ZHXx.out.call hSw; go_simp; try with_reducible rfl
  try simp only [Act.put, zq1, zq2, zq3]
  refine zqT 18 ?_ ?_ ?_
  rotate_left
  · intro w' hSw; obtain ⟨⟨qm0, qm1, qm2, qm3, qm4, qm5, qm6, qm7, qm8⟩, _⟩ := ZHXm.out.call hSw; obtain ⟨⟨qx0, qx1, qx2, qx3, qx4, qx5, qx6, qx7, qx8⟩, _⟩ := ZHXx.out.call hSw; go_simp; try with_reducible rfl
  try simp only [Act.put, zq1, zq2, zq3]
  clear hHeld
  refine zqR [17] ?_
  refine zqC (fun Kn hK => ?_) AllReadyH.nil
  go_simp
  with_reducible refine (as_any om fm gm pm Ax cx rsm Bx dx wsm ver Vx xx vsm Kx yx ksm _ (isM_reads HIx.out HEm.out).2.2.2 HN.out.2.2.2).mono ?_
  rintro e22 w22 ⟨⟨KX, yX, hpX, rfl⟩, hb22⟩
  replace HB := zh (Bel.call HB.out hb22)
  replace HIr := zh (HIr.out.below hb22 zl)
  replace HXr := zh (HXr.out.below hb22 HXr.out.2.2.2.2.2)
  replace HXm := zh (HXm.out.call hb22)
  replace HIm := zh (HIm.out.below hb22 zl)
  replace HPm := zh (HPm.out.below hb22)
  replace HIx := zh (HIx.out.below hb22 zl)
  replace HXx := zh (HXx.out.call hb22)
  replace HA := zh (Bel.call HA.out hb22)
  clear hb22
  have HPX := zh hpX
  clear hpX
  dsimp only
  refine hK.out _ _ HA.out (fun hHeld => ?_)
  try simp only [Act.put, zq1, zq2, zq3]
  clear hK Kn
  clear hHeld
  refine zqR [19] ?_
  refine zqC (fun Kn hK => ?_) AllReadyH.nil
  go_simp
  with_reducible refine (as_any om fm gm pm Am cm rsm Bm dm wsm ver Vm xm vsm Km ym ksm _ (isM_reads HIm.out HEm.out).2.2.2 HN.out.2.2.2).mono ?_
  rintro e23 w23 ⟨⟨KM, yM, hpM, rfl⟩, hb23⟩
  replace HB := zh (Bel.call HB.out hb23)
  replace HIr := zh (HIr.out.below hb23 zl)
  replace HXr := zh (HXr.out.below hb23 HXr.out.2.2.2.2.2)
  replace HXm := zh (HXm.out.call hb23)
  replace HIm := zh (HIm.out.below hb23 zl)
  replace HPm := zh (HPm.out.below hb23)
  replace HIx := zh (HIx.out.below hb23 zl)
  replace HXx := zh (HXx.out.call hb23)
  replace HA := zh (Bel.call HA.out hb23)
  replace HPX := zh (HPX.out.below hb23 zl)
  clear hb23
  have HPM := zh hpM
  clear hpM
  dsimp only
  refine hK.out _ _ HA.out (fun hHeld => ?_)
  try simp only [Act.put, zq1, zq2, zq3]
  clear hK Kn
  clear hHeld
  refine zqR [20] ?_
  refine zqC (fun Kn hK => ?_) AllReadyH.nil
  go_simp
  with_reducible refine (msame_any om fm gm pm rsm wsm ver vsm ksm Ax cx Bx dx Vx xx KX yX Am cm Bm dm Vm xm KM yM _ (isM_reads HIx.out HEm.out).1 (isM_reads HIx.out HEm.out).2.1 (isM_reads HIx.out HEm.out).2.2.1 HPX.out (isM_reads HIm.out HEm.out).1 (isM_reads HIm.out HEm.out).2.1 (isM_reads HIm.out HEm.out).2.2.1 HPM.out (Nat.le_trans HN.out.1 (by decide)) (Nat.le_trans HN.out.2.1 (by decide)) (Nat.le_trans HN.out.2.2.1 (by decide)) (Nat.le_trans HN.out.2.2.2 (by decide))).mono ?_
  rintro e24 w24 ⟨rfl, hb24⟩
  replace HB := zh (Bel.call HB.out hb24)
  replace HIr := zh (HIr.out.below hb24 zl)
  replace HXr := zh (HXr.out.below hb24 HXr.out.2.2.2.2.2)
  replace HXm := zh (HXm.out.call hb24)
  replace HIm := zh (HIm.out.below hb24 zl)
  replace HPm := zh (HPm.out.below hb24)
  replace HIx := zh (HIx.out.below hb24 zl)
  replace HXx := zh (HXx.out.call hb24)
  replace HA := zh (Bel.call HA.out hb24)
  replace HPX := zh (HPX.out.below hb24 zl)
  replace HPM := zh (HPM.out.below hb24 zl)
  clear hb24
  dsimp only
  refine hK.out _ _ HA.out (fun hHeld => ?_)
  try simp only [Act.put, zq1, zq2, zq3]
  clear hK Kn
  refine zqT 21 ?_ ?_ ?_
  rotate_left
  · intro w' hSw; go_simp; try with_reducible rfl
  try simp only [Act.put, zq1, zq2, zq3]
  refine zqT 22 ?_ ?_ ?_
  rotate_left
  · intro w' hSw; go_simp; try with_reducible rfl
  try simp only [Act.put, zq1, zq2, zq3]
  refine zqT 23 ?_ ?_ ?_
  rotate_left
  · intro w' hSw; go_simp; try with_reducible rfl
  try simp only [Act.put, zq1, zq2, zq3]
  refine zqT 24 ?_ ?_ ?_
  rotate_left
  · intro w' hSw; go_simp; try with_reducible rfl
  try simp only [Act.put, zq1, zq2, zq3]
  refine zqT 25 ?_ ?_ ?_
  rotate_left
  · intro w' hSw; obtain ⟨⟨qm0, qm1, qm2, qm3, qm4, qm5, qm6, qm7, qm8⟩, _⟩ := ZHXm.out.call hSw; obtain ⟨⟨qx0, qx1, qx2, qx3, qx4, qx5, qx6, qx7, qx8⟩, _⟩ := ZHXx.out.call hSw; go_simp; try with_reducible rfl
  try simp only [Act.put, zq1, zq2, zq3]
  refine zqT 26 ?_ ?_ ?_
  rotate_left
  · intro w' hSw; go_simp; try with_reducible rfl
  try simp only [Act.put, zq1, zq2, zq3]
  refine zqT 27 ?_ ?_ ?_
  rotate_left
  · intro w' hSw; go_simp; try with_reducible rfl
  try simp only [Act.put, zq1, zq2, zq3]
  refine zqT 28 ?_ ?_ ?_
  rotate_left
  · intro w' hSw; go_simp; try with_reducible rfl
  try simp only [Act.put, zq1, zq2, zq3]
  refine wpAnyH_done (by kernel_rfl) ?_ _
  clear hHeld HA ZHXm ZHXx
  obtain ⟨r_0, r_1, r_2, r_3, r_4, _⟩ := HXr.out
  obtain ⟨⟨m_0, m_1, m_2, m_3, m_4, m_5, m_6, m_7, m_8⟩, _⟩ := HXm.out
  obtain ⟨⟨x_0, x_1, x_2, x_3, x_4, x_5, x_6, x_7, x_8⟩, _⟩ := HXx.out
  obtain ⟨PA, hPA⟩ : ∃ p : ByteArray, p = ⟨⟨pubU annaT⟩⟩ := ⟨_, rfl⟩
  obtain ⟨PB, hPB⟩ : ∃ p : ByteArray, p = ⟨⟨pubU benT⟩⟩ := ⟨_, rfl⟩
  have HPA : Hid (∀ W, Calls Tryz.prog 36 #[.string ⟨#[97, 110, 110, 97]⟩] W fun e w' => e = .returned (.string PA) ∧ Below W.heap.size W w') := zh fun W => (publicOf_any annaB W (by decide)).mono fun e w' h => by
    obtain ⟨⟨T, hl, he⟩, hb⟩ := h
    exact ⟨by rw [he, hPA]; congr 2; exact str_eq hl, hb⟩
  have HPN : Hid (∀ W, Calls Tryz.prog 36 #[.string ⟨#[98, 101, 110]⟩] W fun e w' => e = .returned (.string PB) ∧ Below W.heap.size W w') := zh fun W => (publicOf_any benB W (by decide)).mono fun e w' h => by
    obtain ⟨⟨T, hl, he⟩, hb⟩ := h
    exact ⟨by rw [he, hPB]; congr 2; exact str_eq hl, hb⟩
  have hpa : PA.size ≤ 10000 := by rw [hPA]; decide +kernel
  have hpb : PB.size ≤ 10000 := by rw [hPB]; decide +kernel
  have hpl : PA.data.toList = pubU annaT := by rw [hPA]
  have HCK : Hid (∀ v W, IsM AnyB W v (mOf r (Rig.pk root 5) ver) →
    (Calls Tryz.prog 34 #[v, .string PA, .string ⟨#[97, 110, 110, 97]⟩, .string ⟨#[110, 111, 116, 101, 115]⟩] W fun e w' => e = .returned (.int .i64 0) ∧ Below W.heap.size W w') ∧
    (Calls Tryz.prog 34 #[v, .string PB, .string ⟨#[97, 110, 110, 97]⟩, .string ⟨#[110, 111, 116, 101, 115]⟩] W fun e w' => e = .returned (.int .i64 7) ∧ Below W.heap.size W w') ∧
    (Calls Tryz.prog 34 #[v, .string PA, .string ⟨#[98, 101, 110]⟩, .string ⟨#[110, 111, 116, 101, 115]⟩] W fun e w' => e = .returned (.int .i64 3) ∧ Below W.heap.size W w') ∧
    (Calls Tryz.prog 34 #[v, .string PA, .string ⟨#[97, 110, 110, 97]⟩, .string ⟨#[110, 111, 116, 101]⟩] W fun e w' => e = .returned (.int .i64 3) ∧ Below W.heap.size W w') ∧
    ∀ S2 : ByteArray, S2.data.toList = secU annaT → Calls Tryz.prog 34 #[v, .string S2, .string ⟨#[97, 110, 110, 97]⟩, .string ⟨#[110, 111, 116, 101, 115]⟩] W fun e w' => e = .returned (.int .i64 1) ∧ Below W.heap.size W w') := zh fun v W h => by
    refine ⟨check_to MC ?_ HFW.out hpa (by decide) (by decide) W h, check_to MC ?_ HFW.out hpb (by decide) (by decide) W h, check_to MC ?_ HFW.out hpa (by decide) (by decide) W h, check_to MC ?_ HFW.out hpa (by decide) (by decide) W h, fun S2 h2 => check_to MC ?_ HFW.out (sec_size anna_len h2) (by decide) (by decide) W h⟩
    · rw [hPA, check_mOf HAN.out hnr hv anna_len]; decide +kernel
    · rw [hPB, check_mOf HAN.out hnr hv (u := benT) (by decide)]; decide +kernel
    · rw [hPA, check_mOf HAN.out hnr hv anna_len]; decide +kernel
    · rw [hPA, check_mOf HAN.out hnr hv anna_len]; decide +kernel
    · rw [h2]; exact check_secret r _ ver _ _
  have HPL := zh hpl
  have HPZ := zh hpa
  clear hPA hPB hpa hpb hpl HRG
  go_wp2_with fail
  clear r_0 r_1 r_2 r_3 r_4 m_0 m_1 m_2 m_3 m_4 m_5 m_6 m_7 m_8 x_0 x_1 x_2 x_3 x_4 x_5 x_6 x_7 x_8
  have ZHXx := HXx
  have hdr : Below w24.heap.size w24 w24.drew := Below.drewN' (Below.refl _ _) 1
  refine wp_region_held_drew (S := fun W => Below w24.heap.size w24 W) (by kernel_rfl) hdr (fun hHeld => ?_)
  obtain ⟨d25, hwd⟩ : ∃ z, w24.drew = z := ⟨_, rfl⟩
  rw [hwd] at hdr hHeld ⊢
  replace HB := zh (Bel.call HB.out hdr)
  replace HIr := zh (HIr.out.below hdr zl)
  replace HXr := zh (HXr.out.below hdr HXr.out.2.2.2.2.2)
  replace HXm := zh (HXm.out.call hdr)
  replace HIm := zh (HIm.out.below hdr zl)
  replace HPm := zh (HPm.out.below hdr)
  replace HIx := zh (HIx.out.below hdr zl)
  replace HXx := zh (HXx.out.call hdr)
  replace HPX := zh (HPX.out.below hdr zl)
  replace HPM := zh (HPM.out.below hdr zl)
  have HA := zh hdr
  clear hwd hdr
  refine zqT 0 ?_ ?_ ?_
  rotate_left
  · intro w' hSw; obtain ⟨⟨qx0, qx1, qx2, qx3, qx4, qx5, qx6, qx7, qx8⟩, _⟩ := ZHXx.out.call hSw; go_simp; try with_reducible rfl
  try simp only [Act.put, zq1, zq2, zq3]
  clear hHeld
  refine zqR [1] ?_
  refine zqC (fun Kn hK => ?_) AllReadyH.nil
  go_simp
  with_reducible refine (HPA.out _).mono ?_
  rintro e26 w26 ⟨rfl, hb26⟩
  replace HB := zh (Bel.call HB.out hb26)
  replace HIr := zh (HIr.out.below hb26 zl)
  replace HXr := zh (HXr.out.below hb26 HXr.out.2.2.2.2.2)
  replace HXm := zh (HXm.out.call hb26)
  replace HIm := zh (HIm.out.below hb26 zl)
  replace HPm := zh (HPm.out.below hb26)
  replace HIx := zh (HIx.out.below hb26 zl)
  replace HXx := zh (HXx.out.call hb26)
  replace HPX := zh (HPX.out.below hb26 zl)
  replace HPM := zh (HPM.out.below hb26 zl)
  replace HA := zh (Bel.call HA.out hb26)
  clear hb26
  dsimp only
  refine hK.out _ _ HA.out (fun hHeld => ?_)
  try simp only [Act.put, zq1, zq2, zq3]
  clear hK Kn
  clear hHeld
  refine zqR [2] ?_
  refine zqC (fun Kn hK => ?_) AllReadyH.nil
  go_simp
  with_reducible refine ((HCK.out _ _ HIx.out.any).1).mono ?_
  rintro e27 w27 ⟨rfl, hb27⟩
  replace HB := zh (Bel.call HB.out hb27)
  replace HIr := zh (HIr.out.below hb27 zl)
  replace HXr := zh (HXr.out.below hb27 HXr.out.2.2.2.2.2)
  replace HXm := zh (HXm.out.call hb27)
  replace HIm := zh (HIm.out.below hb27 zl)
  replace HPm := zh (HPm.out.below hb27)
  replace HIx := zh (HIx.out.below hb27 zl)
  replace HXx := zh (HXx.out.call hb27)
  replace HPX := zh (HPX.out.below hb27 zl)
  replace HPM := zh (HPM.out.below hb27 zl)
  replace HA := zh (Bel.call HA.out hb27)
  clear hb27
  dsimp only
  refine hK.out _ _ HA.out (fun hHeld => ?_)
  try simp only [Act.put, zq1, zq2, zq3]
  clear hK Kn
  refine zqT 3 ?_ ?_ ?_
  rotate_left
  · intro w' hSw; go_simp; try with_reducible rfl
  try simp only [Act.put, zq1, zq2, zq3]
  refine zqT 4 ?_ ?_ ?_
  rotate_left
  · intro w' hSw; go_simp; try with_reducible rfl
  try simp only [Act.put, zq1, zq2, zq3]
  refine zqT 5 ?_ ?_ ?_
  rotate_left
  · intro w' hSw; obtain ⟨⟨qx0, qx1, qx2, qx3, qx4, qx5, qx6, qx7, qx8⟩, _⟩ := ZHXx.out.call hSw; go_simp; try with_reducible rfl
  try simp only [Act.put, zq1, zq2, zq3]
  clear hHeld
  refine zqR [6] ?_
  refine zqC (fun Kn hK => ?_) AllReadyH.nil
  go_simp
  with_reducible refine (HPN.out _).mono ?_
  rintro e28 w28 ⟨rfl, hb28⟩
  replace HB := zh (Bel.call HB.out hb28)
  replace HIr := zh (HIr.out.below hb28 zl)
  replace HXr := zh (HXr.out.below hb28 HXr.out.2.2.2.2.2)
  replace HXm := zh (HXm.out.call hb28)
  replace HIm := zh (HIm.out.below hb28 zl)
  replace HPm := zh (HPm.out.below hb28)
  replace HIx := zh (HIx.out.below hb28 zl)
  replace HXx := zh (HXx.out.call hb28)
  replace HPX := zh (HPX.out.below hb28 zl)
  replace HPM := zh (HPM.out.below hb28 zl)
  replace HA := zh (Bel.call HA.out hb28)
  clear hb28
  dsimp only
  refine hK.out _ _ HA.out (fun hHeld => ?_)
  try simp only [Act.put, zq1, zq2, zq3]
  clear hK Kn
  clear hHeld
  refine zqR [7] ?_
  refine zqC (fun Kn hK => ?_) AllReadyH.nil
  go_simp
  with_reducible refine ((HCK.out _ _ HIx.out.any).2.1).mono ?_
  rintro e29 w29 ⟨rfl, hb29⟩
  replace HB := zh (Bel.call HB.out hb29)
  replace HIr := zh (HIr.out.below hb29 zl)
  replace HXr := zh (HXr.out.below hb29 HXr.out.2.2.2.2.2)
  replace HXm := zh (HXm.out.call hb29)
  replace HIm := zh (HIm.out.below hb29 zl)
  replace HPm := zh (HPm.out.below hb29)
  replace HIx := zh (HIx.out.below hb29 zl)
  replace HXx := zh (HXx.out.call hb29)
  replace HPX := zh (HPX.out.below hb29 zl)
  replace HPM := zh (HPM.out.below hb29 zl)
  replace HA := zh (Bel.call HA.out hb29)
  clear hb29
  dsimp only
  refine hK.out _ _ HA.out (fun hHeld => ?_)
  try simp only [Act.put, zq1, zq2, zq3]
  clear hK Kn
  refine zqT 8 ?_ ?_ ?_
  rotate_left
  · intro w' hSw; go_simp; try with_reducible rfl
  try simp only [Act.put, zq1, zq2, zq3]
  refine zqT 9 ?_ ?_ ?_
  rotate_left
  · intro w' hSw; go_simp; try with_reducible rfl
  try simp only [Act.put, zq1, zq2, zq3]
  refine zqT 10 ?_ ?_ ?_
  rotate_left
  · intro w' hSw; go_simp; try with_reducible rfl
  try simp only [Act.put, zq1, zq2, zq3]
  refine zqT 11 ?_ ?_ ?_
  rotate_left
  · intro w' hSw; obtain ⟨⟨qx0, qx1, qx2, qx3, qx4, qx5, qx6, qx7, qx8⟩, _⟩ := ZHXx.out.call hSw; go_simp; try with_reducible rfl
  try simp only [Act.put, zq1, zq2, zq3]
  clear hHeld
  refine zqR [12] ?_
  refine zqC (fun Kn hK => ?_) AllReadyH.nil
  go_simp
  with_reducible refine (HPA.out _).mono ?_
  rintro e30 w30 ⟨rfl, hb30⟩
  replace HB := zh (Bel.call HB.out hb30)
  replace HIr := zh (HIr.out.below hb30 zl)
  replace HXr := zh (HXr.out.below hb30 HXr.out.2.2.2.2.2)
  replace HXm := zh (HXm.out.call hb30)
  replace HIm := zh (HIm.out.below hb30 zl)
  replace HPm := zh (HPm.out.below hb30)
  replace HIx := zh (HIx.out.below hb30 zl)
  replace HXx := zh (HXx.out.call hb30)
  replace HPX := zh (HPX.out.below hb30 zl)
  replace HPM := zh (HPM.out.below hb30 zl)
  replace HA := zh (Bel.call HA.out hb30)
  clear hb30
  dsimp only
  refine hK.out _ _ HA.out (fun hHeld => ?_)
  try simp only [Act.put, zq1, zq2, zq3]
  clear hK Kn
  clear hHeld
  refine zqR [13] ?_
  refine zqC (fun Kn hK => ?_) AllReadyH.nil
  go_simp
  with_reducible refine ((HCK.out _ _ HIx.out.any).2.2.1).mono ?_
  rintro e31 w31 ⟨rfl, hb31⟩
  replace HB := zh (Bel.call HB.out hb31)
  replace HIr := zh (HIr.out.below hb31 zl)
  replace HXr := zh (HXr.out.below hb31 HXr.out.2.2.2.2.2)
  replace HXm := zh (HXm.out.call hb31)
  replace HIm := zh (HIm.out.below hb31 zl)
  replace HPm := zh (HPm.out.below hb31)
  replace HIx := zh (HIx.out.below hb31 zl)
  replace HXx := zh (HXx.out.call hb31)
  replace HPX := zh (HPX.out.below hb31 zl)
  replace HPM := zh (HPM.out.below hb31 zl)
  replace HA := zh (Bel.call HA.out hb31)
  clear hb31
  dsimp only
  refine hK.out _ _ HA.out (fun hHeld => ?_)
  try simp only [Act.put, zq1, zq2, zq3]
  clear hK Kn
  refine zqT 14 ?_ ?_ ?_
  rotate_left
  · intro w' hSw; go_simp; try with_reducible rfl
  try simp only [Act.put, zq1, zq2, zq3]
  refine zqT 15 ?_ ?_ ?_
  rotate_left
  · intro w' hSw; go_simp; try with_reducible rfl
  try simp only [Act.put, zq1, zq2, zq3]
  refine zqT 16 ?_ ?_ ?_
  rotate_left
  · intro w' hSw; go_simp; try with_reducible rfl
  try simp only [Act.put, zq1, zq2, zq3]
  refine zqT 17 ?_ ?_ ?_
  rotate_left
  · intro w' hSw; obtain ⟨⟨qx0, qx1, qx2, qx3, qx4, qx5, qx6, qx7, qx8⟩, _⟩ := ZHXx.out.call hSw; go_simp; try with_reducible rfl
  try simp only [Act.put, zq1, zq2, zq3]
  clear hHeld
  refine zqR [18] ?_
  refine zqC (fun Kn hK => ?_) AllReadyH.nil
  go_simp
  with_reducible refine (HPA.out _).mono ?_
  rintro e32 w32 ⟨rfl, hb32⟩
  replace HB := zh (Bel.call HB.out hb32)
  replace HIr := zh (HIr.out.below hb32 zl)
  replace HXr := zh (HXr.out.below hb32 HXr.out.2.2.2.2.2)
  replace HXm := zh (HXm.out.call hb32)
  replace HIm := zh (HIm.out.below hb32 zl)
  replace HPm := zh (HPm.out.below hb32)
  replace HIx := zh (HIx.out.below hb32 zl)
  replace HXx := zh (HXx.out.call hb32)
  replace HPX := zh (HPX.out.below hb32 zl)
  replace HPM := zh (HPM.out.below hb32 zl)
  replace HA := zh (Bel.call HA.out hb32)
  clear hb32
  dsimp only
  refine hK.out _ _ HA.out (fun hHeld => ?_)
  try simp only [Act.put, zq1, zq2, zq3]
  clear hK Kn
  clear hHeld
  refine zqR [19] ?_
  refine zqC (fun Kn hK => ?_) AllReadyH.nil
  go_simp
  with_reducible refine ((HCK.out _ _ HIx.out.any).2.2.2.1).mono ?_
  rintro e33 w33 ⟨rfl, hb33⟩
  replace HB := zh (Bel.call HB.out hb33)
  replace HIr := zh (HIr.out.below hb33 zl)
  replace HXr := zh (HXr.out.below hb33 HXr.out.2.2.2.2.2)
  replace HXm := zh (HXm.out.call hb33)
  replace HIm := zh (HIm.out.below hb33 zl)
  replace HPm := zh (HPm.out.below hb33)
  replace HIx := zh (HIx.out.below hb33 zl)
  replace HXx := zh (HXx.out.call hb33)
  replace HPX := zh (HPX.out.below hb33 zl)
  replace HPM := zh (HPM.out.below hb33 zl)
  replace HA := zh (Bel.call HA.out hb33)
  clear hb33
  dsimp only
  refine hK.out _ _ HA.out (fun hHeld => ?_)
  try simp only [Act.put, zq1, zq2, zq3]
  clear hK Kn
  refine zqT 20 ?_ ?_ ?_
  rotate_left
  · intro w' hSw; go_simp; try with_reducible rfl
  try simp only [Act.put, zq1, zq2, zq3]
  refine zqT 21 ?_ ?_ ?_
  rotate_left
  · intro w' hSw; go_simp; try with_reducible rfl
  try simp only [Act.put, zq1, zq2, zq3]
  refine zqT 22 ?_ ?_ ?_
  rotate_left
  · intro w' hSw; go_simp; try with_reducible rfl
  try simp only [Act.put, zq1, zq2, zq3]
  refine zqT 23 ?_ ?_ ?_
  rotate_left
  · intro w' hSw; obtain ⟨⟨qx0, qx1, qx2, qx3, qx4, qx5, qx6, qx7, qx8⟩, _⟩ := ZHXx.out.call hSw; go_simp; try with_reducible rfl
  try simp only [Act.put, zq1, zq2, zq3]
  clear hHeld
  refine zqR [24] ?_
  refine zqC (fun Kn hK => ?_) AllReadyH.nil
  go_simp
  with_reducible refine (HSE.out _).mono ?_
  rintro e34 w34 ⟨⟨T, hTT, rfl⟩, hb34⟩
  replace HB := zh (Bel.call HB.out hb34)
  replace HIr := zh (HIr.out.below hb34 zl)
  replace HXr := zh (HXr.out.below hb34 HXr.out.2.2.2.2.2)
  replace HXm := zh (HXm.out.call hb34)
  replace HIm := zh (HIm.out.below hb34 zl)
  replace HPm := zh (HPm.out.below hb34)
  replace HIx := zh (HIx.out.below hb34 zl)
  replace HXx := zh (HXx.out.call hb34)
  replace HPX := zh (HPX.out.below hb34 zl)
  replace HPM := zh (HPM.out.below hb34 zl)
  replace HA := zh (Bel.call HA.out hb34)
  clear hb34
  try dsimp only at hTT
  have HTT := zh hTT
  clear hTT
  dsimp only
  refine hK.out _ _ HA.out (fun hHeld => ?_)
  try simp only [Act.put, zq1, zq2, zq3]
  clear hK Kn
  clear hHeld
  refine zqR [25] ?_
  refine zqC (fun Kn hK => ?_) AllReadyH.nil
  go_simp
  with_reducible refine ((HCK.out _ _ HIx.out.any).2.2.2.2 _ HTT.out).mono ?_
  rintro e35 w35 ⟨rfl, hb35⟩
  replace HB := zh (Bel.call HB.out hb35)
  replace HIr := zh (HIr.out.below hb35 zl)
  replace HXr := zh (HXr.out.below hb35 HXr.out.2.2.2.2.2)
  replace HXm := zh (HXm.out.call hb35)
  replace HIm := zh (HIm.out.below hb35 zl)
  replace HPm := zh (HPm.out.below hb35)
  replace HIx := zh (HIx.out.below hb35 zl)
  replace HXx := zh (HXx.out.call hb35)
  replace HPX := zh (HPX.out.below hb35 zl)
  replace HPM := zh (HPM.out.below hb35 zl)
  replace HA := zh (Bel.call HA.out hb35)
  clear hb35
  dsimp only
  refine hK.out _ _ HA.out (fun hHeld => ?_)
  try simp only [Act.put, zq1, zq2, zq3]
  clear hK Kn
  refine zqT 26 ?_ ?_ ?_
  rotate_left
  · intro w' hSw; go_simp; try with_reducible rfl
  try simp only [Act.put, zq1, zq2, zq3]
  refine zqT 27 ?_ ?_ ?_
  rotate_left
  · intro w' hSw; go_simp; try with_reducible rfl
  try simp only [Act.put, zq1, zq2, zq3]
  refine wpAnyH_done (by kernel_rfl) ?_ _
  clear hHeld HA ZHXx
  obtain ⟨r_0, r_1, r_2, r_3, r_4, _⟩ := HXr.out
  obtain ⟨⟨m_0, m_1, m_2, m_3, m_4, m_5, m_6, m_7, m_8⟩, _⟩ := HXm.out
  obtain ⟨⟨x_0, x_1, x_2, x_3, x_4, x_5, x_6, x_7, x_8⟩, _⟩ := HXx.out
  have hX0 := hXs.1
  have hX1 := hXs.2
  have hXc : X.data.toList.length = X.size := (Lib.size_eq X).symm
  have hXe : X.toList.isEmpty = false := by
    rw [Lib.toList_data]
    cases hrr : X.data.toList with
    | nil => rw [hrr] at hXc; simp at hXc; omega
    | cons x y => rfl
  have hXz : ((X.size : Int) == 0) = false := by rw [beq_eq_false_iff_ne]; omega
  have HXC := zh hXc
  clear hXc hXs
  have HPQ := zh fun w => HPK.out X.size w hX0 hX1
  have hKK := Rig.pk_lt at0 (n := X.size) hX0
  generalize Rig.pk at0 X.size = KK at HPQ hKK
  have hkk1 : (KK : Int) < (X.size : Int) := by omega
  go_wp2_with fail
  with_reducible refine (HPQ.out _).mono ?_
  rintro e36 y36 ⟨rfl, hv36⟩
  obtain rfl : w35 = y36 := hv36.symm
  dsimp only
  clear r_0 r_1 r_2 r_3 r_4 m_0 m_1 m_2 m_3 m_4 m_5 m_6 m_7 m_8 x_0 x_1 x_2 x_3 x_4 x_5 x_6 x_7 x_8
  have hbS := bel_bytes w35 5 X
  have hxS := bq_new w35 5 X
  have hkl : KK < X.data.toList.length := by rw [HXC.out]; exact hKK
  obtain ⟨b0, hb0⟩ : ∃ b, X.data.toList.getD KK 0 = b := ⟨_, rfl⟩
  obtain ⟨vv, hvv⟩ : ∃ v : UInt8, b0 ^^^ 1 = v := ⟨_, rfl⟩
  have hxor := xor_one b0
  rw [hvv] at hxor
  obtain ⟨TB, hTB⟩ : ∃ l, X.data.toList.set KK vv = l := ⟨_, rfl⟩
  obtain ⟨TT, hTT⟩ : ∃ T : ByteArray, (⟨TB.toArray⟩ : ByteArray) = T := ⟨_, rfl⟩
  have hTd : TT.data.toList = TB := by rw [← hTT]
  have hTl : TB.length = X.size := by rw [← hTB, List.length_set, HXC.out]
  have hTs : TT.size ≤ 10000 := by rw [Lib.size_eq, hTd]; omega
  have HSP : Hid (∀ o f, (takeM TB).2 ≠ 0 ∨ checkM (takeM TB).1 (pubU annaT) o f ≠ 0) := zh fun o f => spoilt r (Rig.pk root 5) ver (k := KK) (s := TB) (by rw [← HXD.out]; exact hkl) (by
    rw [← hTB, ← hvv, ← hb0]
    simp only [← HXD.out]
    rw [List.getD, List.getElem?_eq_getElem hkl]; rfl) o f
  obtain ⟨ck, fk⟩ := hxS.2 KK hkl
  rw [hb0] at ck
  have kc2 := bq_text (show Bq w35.heap.size ((Lib.bytesWorld w35 5 X).setCell ⟨w35.heap.size, KK, none⟩ (.int .u8 (vv.toNat : Int))) TB by rw [← hTB]; exact bq_set hxS) (grownCap w35 X.size 0 5) Tryz.prog 66 9 5 Tryz.underlying66 Tryz.underlying5 Tryz.underlying9
  rw [hTl, hTT] at kc2
  have HBQ := zh hxS
  have HBS := zh hbS
  have HTBE := zh hTB
  have HTLE := zh hTl
  have HTTE := zh hTT
  have HTDE := zh hTd
  have HVV := zh hvv
  have HB0 := zh hb0
  clear hxS hbS hTB hTl hTT hTd hvv hb0
  have kc := fun w => Lib.run_convert_string_bytes (P := Tryz.prog) w 9 66 5 X Tryz.underlying9 Tryz.underlying66 Tryz.underlying5
  go_wp2_with fail
  clear ck fk kc kc2
  replace HB := zh ((Bel.call HB.out HBS.out).setCell (p := ⟨w35.heap.size, KK, none⟩) HB.out.size (.int .u8 (vv.toNat : Int)))
  generalize (Lib.bytesWorld w35 5 X).setCell ⟨w35.heap.size, KK, none⟩ (.int .u8 (vv.toNat : Int)) = wT at HB ⊢
  have hTd := HTDE.out
  clear HBQ HBS
  rcases takeM_cases TB with htk | ⟨Y, htk, hy, hyv, _⟩
  · have HTA : Hid (∀ w, Calls Tryz.prog 28 #[.string TT] w fun e w' => Me (Off []) (mzero, 2) e w' ∧ Below w.heap.size w w') := fun w => by
      have h := MT [] TT w gs_nil hTs
      rw [hTd, htk] at h
      exact h
    clear htk
    clear HSP
    with_reducible refine (HTA.out _).mono ?_
    rintro e37 w37 ⟨⟨v37, hm37, rfl⟩, hb37⟩
    replace HB := zh (Bel.call HB.out hb37)
    clear hb37
    obtain ⟨oy, fy, gy, py, Ay, cy, rsy, By, dy, wsy, uy, Vy, xy, vsy, Ky, yy, ksy, rfl, hiy, _, _, _, _, _⟩ := isM_lit hm37
    have HEy := zh hiy
    have HIy := zh hm37
    clear hm37 hiy
    dsimp only
    go_wp2_with fail
    have hal := al w37 (.cells #[.string oy, .string fy, .int .i64 py, .slice Ay rsy.length cy, .slice By wsy.length dy, .int .u64 (uy : Int), .slice Vy vsy.length xy, .slice Ky ksy.length yy, .string gy] 39)
    have hXX := mx_alloc w37 oy fy py Ay rsy.length cy By wsy.length dy uy Vy vsy.length xy Ky ksy.length yy gy 39
    obtain ⟨Gy, hG⟩ : ∃ g, w37.heap.size = g := ⟨_, rfl⟩
    generalize w37.alloc (.cells #[.string oy, .string fy, .int .i64 py, .slice Ay rsy.length cy, .slice By wsy.length dy, .int .u64 (uy : Int), .slice Vy vsy.length xy, .slice Ky ksy.length yy, .string gy] 39) = v38 at hal hXX ⊢
    replace HB := zh (Bel.call HB.out hal)
    replace HIy := zh (HIy.out.below hal zl)
    rw [hG] at hXX ⊢
    have HXy := zh hXX
    clear hal hXX hG
    obtain ⟨⟨y_0, y_1, y_2, y_3, y_4, y_5, y_6, y_7, y_8⟩, _⟩ := HXy.out
    clear y_0 y_1 y_2 y_3 y_4 y_5 y_6 y_7 y_8
    have ZHXy := HXy
    have hdr : Below v38.heap.size v38 v38.drew := Below.drewN' (Below.refl _ _) 1
    refine wp_region_held_drew (S := fun W => Below v38.heap.size v38 W) (by kernel_rfl) hdr (fun hHeld => ?_)
    obtain ⟨d39, hwd⟩ : ∃ z, v38.drew = z := ⟨_, rfl⟩
    rw [hwd] at hdr hHeld ⊢
    replace HB := zh (Bel.call HB.out hdr)
    replace HIy := zh (HIy.out.below hdr zl)
    replace HXy := zh (HXy.out.call hdr)
    have HA := zh hdr
    clear hwd hdr
    refine zqT 0 ?_ ?_ ?_
    rotate_left
    · intro w' hSw; go_simp; try with_reducible rfl
    try simp only [Act.put, zq1, zq2, zq3]
    refine zqT 1 ?_ ?_ ?_
    rotate_left
    · intro w' hSw; go_simp; try with_reducible rfl
    try simp only [Act.put, zq1, zq2, zq3]
    refine zqT 2 ?_ ?_ ?_
    rotate_left
    · intro w' hSw; go_simp; try with_reducible rfl
    try simp only [Act.put, zq1, zq2, zq3]
    refine wpAnyH_take (i := 3) (v := undef) (by rw [List.getElem?_toArray]; rfl) (by kernel_rfl) (by kernel_rfl) (by kernel_rfl) (by exact fun _ _ _ h => h) (Or.inr ⟨by rfl, rfl⟩) (by assumption) ?_
    try simp only [Act.put, zq1, zq2, zq3]
    refine wpAnyH_take (i := 4) (v := undef) (by rw [List.getElem?_toArray]; rfl) (by kernel_rfl) (by kernel_rfl) (by kernel_rfl) (by exact fun _ _ _ h => h) (Or.inr ⟨by rfl, rfl⟩) (by assumption) ?_
    try simp only [Act.put, zq1, zq2, zq3]
    refine wpAnyH_take (i := 5) (v := undef) (by rw [List.getElem?_toArray]; rfl) (by kernel_rfl) (by kernel_rfl) (by kernel_rfl) (by exact fun _ _ _ h => h) (Or.inr ⟨by rfl, rfl⟩) (by assumption) ?_
    try simp only [Act.put, zq1, zq2, zq3]
    refine wpAnyH_take (i := 6) (v := undef) (by rw [List.getElem?_toArray]; rfl) (by kernel_rfl) (by kernel_rfl) (by kernel_rfl) (by exact fun _ _ _ h => h) (Or.inr ⟨by rfl, rfl⟩) (by assumption) ?_
    try simp only [Act.put, zq1, zq2, zq3]
    refine zqT 7 ?_ ?_ ?_
    rotate_left
    · intro w' hSw; go_simp; try with_reducible rfl
    try simp only [Act.put, zq1, zq2, zq3]
    refine zqT 8 ?_ ?_ ?_
    rotate_left
    · intro w' hSw; go_simp; try with_reducible rfl
    try simp only [Act.put, zq1, zq2, zq3]
    refine wpAnyH_done (by kernel_rfl) ?_ _
    clear hHeld HA ZHXy
    obtain ⟨⟨y_0, y_1, y_2, y_3, y_4, y_5, y_6, y_7, y_8⟩, _⟩ := HXy.out
    go_wp2
    go_ret
    exact ⟨rfl, HB.out⟩
  · have HTA : Hid (∀ w, Calls Tryz.prog 28 #[.string TT] w fun e w' => Me (Off []) (Y, 0) e w' ∧ Below w.heap.size w w') := fun w => by
      have h := MT [] TT w gs_nil hTs
      rw [hTd, htk] at h
      exact h
    have hcs := fun o f => HSP.out o f
    rw [htk] at hcs
    obtain ⟨cv, hcv⟩ : ∃ c, checkM Y (pubU annaT) [97, 110, 110, 97] [110, 111, 116, 101, 115] = c := ⟨_, rfl⟩
    have hcn : cv ≠ 0 := by
      have h := hcs [97, 110, 110, 97] [110, 111, 116, 101, 115]
      simp only [ne_eq, not_true_eq_false, false_or] at h
      rw [hcv] at h; exact h
    have hcb : (cv == 0) = false := by simpa using hcn
    have hcb2 : (cv != 0) = true := by simpa using hcn
    have HCY : Hid (∀ v W, IsM AnyB W v Y → Calls Tryz.prog 34 #[v, .string PA, .string ⟨#[97, 110, 110, 97]⟩, .string ⟨#[110, 111, 116, 101, 115]⟩] W fun e w' => e = .returned (.int .i64 cv) ∧ Below W.heap.size W w') := zh fun v W h => check_to MC (by rw [HPL.out]; exact hcv) (few_MR hy hyv) HPZ.out (by decide) (by decide) W h
    clear hcs hcv hcn htk hy hyv
    clear HSP
    with_reducible refine (HTA.out _).mono ?_
    rintro e37 w37 ⟨⟨v37, hm37, rfl⟩, hb37⟩
    replace HB := zh (Bel.call HB.out hb37)
    clear hb37
    obtain ⟨oy, fy, gy, py, Ay, cy, rsy, By, dy, wsy, uy, Vy, xy, vsy, Ky, yy, ksy, rfl, hiy, _, _, _, _, _⟩ := isM_lit hm37
    have HEy := zh hiy
    have HIy := zh hm37
    clear hm37 hiy
    dsimp only
    go_wp2_with fail
    have hal := al w37 (.cells #[.string oy, .string fy, .int .i64 py, .slice Ay rsy.length cy, .slice By wsy.length dy, .int .u64 (uy : Int), .slice Vy vsy.length xy, .slice Ky ksy.length yy, .string gy] 39)
    have hXX := mx_alloc w37 oy fy py Ay rsy.length cy By wsy.length dy uy Vy vsy.length xy Ky ksy.length yy gy 39
    obtain ⟨Gy, hG⟩ : ∃ g, w37.heap.size = g := ⟨_, rfl⟩
    generalize w37.alloc (.cells #[.string oy, .string fy, .int .i64 py, .slice Ay rsy.length cy, .slice By wsy.length dy, .int .u64 (uy : Int), .slice Vy vsy.length xy, .slice Ky ksy.length yy, .string gy] 39) = v38 at hal hXX ⊢
    replace HB := zh (Bel.call HB.out hal)
    replace HIy := zh (HIy.out.below hal zl)
    rw [hG] at hXX ⊢
    have HXy := zh hXX
    clear hal hXX hG
    obtain ⟨⟨y_0, y_1, y_2, y_3, y_4, y_5, y_6, y_7, y_8⟩, _⟩ := HXy.out
    clear y_0 y_1 y_2 y_3 y_4 y_5 y_6 y_7 y_8
    have ZHXy := HXy
    have hdr : Below v38.heap.size v38 v38.drew := Below.drewN' (Below.refl _ _) 1
    refine wp_region_held_drew (S := fun W => Below v38.heap.size v38 W) (by kernel_rfl) hdr (fun hHeld => ?_)
    obtain ⟨d39, hwd⟩ : ∃ z, v38.drew = z := ⟨_, rfl⟩
    rw [hwd] at hdr hHeld ⊢
    replace HB := zh (Bel.call HB.out hdr)
    replace HIy := zh (HIy.out.below hdr zl)
    replace HXy := zh (HXy.out.call hdr)
    have HA := zh hdr
    clear hwd hdr
    refine zqT 0 ?_ ?_ ?_
    rotate_left
    · intro w' hSw; go_simp; try with_reducible rfl
    try simp only [Act.put, zq1, zq2, zq3]
    refine zqT 1 ?_ ?_ ?_
    rotate_left
    · intro w' hSw; go_simp; try with_reducible rfl
    try simp only [Act.put, zq1, zq2, zq3]
    refine zqT 2 ?_ ?_ ?_
    rotate_left
    · intro w' hSw; go_simp; try with_reducible rfl
    try simp only [Act.put, zq1, zq2, zq3]
    refine zqT 3 ?_ ?_ ?_
    rotate_left
    · intro w' hSw; obtain ⟨⟨qy0, qy1, qy2, qy3, qy4, qy5, qy6, qy7, qy8⟩, _⟩ := ZHXy.out.call hSw; go_simp; try with_reducible rfl
    try simp only [Act.put, zq1, zq2, zq3]
    clear hHeld
    refine zqR [4] ?_
    refine zqC (fun Kn hK => ?_) AllReadyH.nil
    go_simp
    with_reducible refine (HPA.out _).mono ?_
    rintro e40 w40 ⟨rfl, hb40⟩
    replace HB := zh (Bel.call HB.out hb40)
    replace HIy := zh (HIy.out.below hb40 zl)
    replace HXy := zh (HXy.out.call hb40)
    replace HA := zh (Bel.call HA.out hb40)
    clear hb40
    dsimp only
    refine hK.out _ _ HA.out (fun hHeld => ?_)
    try simp only [Act.put, zq1, zq2, zq3]
    clear hK Kn
    clear hHeld
    refine zqR [5] ?_
    refine zqC (fun Kn hK => ?_) AllReadyH.nil
    go_simp
    with_reducible refine (HCY.out _ _ HIy.out.any).mono ?_
    rintro e41 w41 ⟨rfl, hb41⟩
    replace HB := zh (Bel.call HB.out hb41)
    replace HIy := zh (HIy.out.below hb41 zl)
    replace HXy := zh (HXy.out.call hb41)
    replace HA := zh (Bel.call HA.out hb41)
    clear hb41
    dsimp only
    refine hK.out _ _ HA.out (fun hHeld => ?_)
    try simp only [Act.put, zq1, zq2, zq3]
    clear hK Kn
    refine zqT 6 ?_ ?_ ?_
    rotate_left
    · intro w' hSw; go_simp; try with_reducible rfl
    try simp only [Act.put, zq1, zq2, zq3]
    refine zqT 7 ?_ ?_ ?_
    rotate_left
    · intro w' hSw; go_simp; try with_reducible rfl
    try simp only [Act.put, zq1, zq2, zq3]
    refine zqT 8 ?_ ?_ ?_
    rotate_left
    · intro w' hSw; go_simp; try with_reducible rfl
    try simp only [Act.put, zq1, zq2, zq3]
    refine wpAnyH_done (by kernel_rfl) ?_ _
    clear hHeld HA ZHXy
    obtain ⟨⟨y_0, y_1, y_2, y_3, y_4, y_5, y_6, y_7, y_8⟩, _⟩ := HXy.out
    go_wp2
    go_ret
    exact ⟨rfl, HB.out⟩
end Go.Proofs.YtlkgjceddbclpaaGreat.Mta

