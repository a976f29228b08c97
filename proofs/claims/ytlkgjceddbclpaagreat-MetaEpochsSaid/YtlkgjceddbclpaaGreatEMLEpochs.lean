/-
  MLEpochs. By an AI agent.
-/
import Derived.Test.YtlkgjceddbclpaaGreatEZ
import Derived.Test.YtlkgjceddbclpaaGreatEMLBackP
import Derived.Test.YtlkgjceddbclpaaGreatEMActs
import Derived.Test.YtlkgjceddbclpaaGreatEMShown
namespace Go.Proofs.YtlkgjceddbclpaaGreat.Mta
open Go.RowKit Wire Term Rig Draw

set_option linter.unusedSimpArgs false
set_option linter.unusedVariables false
theorem turn_info : (Tryz.prog.info? 82).map (fun i => (i.zero, i.size, i.bytes)) = some (some (.agg #[.int .i64 0, .int .i64 0]), 2, 16) := by kernel_rfl
theorem vf_at {r : Rt} {vs : List ByteArray} {k : Nat} (h : bl vs = vfOf r) (hk : k < vs.length) : (vs.getD k ByteArray.empty).data.toList = sgp k := by
 have hl : vs.length = r.ep.toNat + 1 := by
  have := congrArg List.length h
  simpa [bl, vfOf] using this
 have h1 : (bl vs)[k]? = some (vs.getD k ByteArray.empty).data.toList := by simp [bl, List.getD, hk]
 rw [h] at h1
 unfold vfOf at h1
 rw [List.getElem?_map, List.getElem?_range (by omega)] at h1
 exact (Option.some.inj h1).symm
set_option maxHeartbeats 8000000 in
set_option maxRecDepth 1000000 in
theorem epochs_walk (MT : MTakeOK) (MB : MBuildOK) (MC : MCheckOK) (a : Option Addr) (n c : Nat) (Z : Nat → Nat → Int) (a2 : Option Addr) (n2 c2 : Nat) (Z2 : Nat → Nat → Int) (va vb : Nat) (w : World) (ha : Acts.AReads 2 w a n Z) (ha2 : Acts.AReads 2 w a2 n2 Z2) (hva : va < 18446744073709551616) (hvb : vb < 18446744073709551616)
    (hna : a = none → c = 0) (hnb : a2 = none → c2 = 0) :
    Calls Tryz.prog 9 #[.slice a n c, .slice a2 n2 c2, .int .u64 (va : Int), .int .u64 (vb : Int)] w fun e w' => e = .returned (.bool true) ∧ Below w.heap.size w w' := by
  have HSH := zh fun w => shown8_any MT MB MC w
  have HD := zh fun w' (hb : Below w.heap.size w w') => turned_any a n c Z (List.range w.heap.size) w' (ha.below hb zl) fun g hg => Nat.lt_of_lt_of_le (List.mem_range.1 hg) hb.size
  have HD2 := zh fun (A' : Option Addr) (n' c' : Nat) (Z' : Nat → Nat → Int) w' (hb : Below w.heap.size w w') (hz : Acts.AReads 2 w' A' n' Z') => turned_any A' n' c' Z' (List.range w.heap.size) w' hz fun g hg => Nat.lt_of_lt_of_le (List.mem_range.1 hg) hb.size
  have HAP := zh (Acts.ap_of ha); have HAQ := zh (Acts.ap_of ha2); have HFP := zh (Acts.fit_of ha); have HFQ := zh (Acts.fit_of ha2); have HNA := zh hna; have HNB := zh hnb
  have HKN := zh fun w => known_any w
  have HSE : Hid (∀ w, Calls Tryz.prog 14 #[.string ⟨#[97, 110, 110, 97]⟩] w fun e w' => St (secU annaT) e ∧ Below w.heap.size w w') := fun w => secretOf_any annaB w (by decide)
  have HRO : Hid (∀ w, Calls Tryz.prog 15 #[.int .i64 2] w fun e w' => St (Reg.rootS 2) e ∧ Below w.heap.size w w') := fun w => rootOf_any 2 w (by decide)
  obtain ⟨i0, hi0, hz0, hz1, hz2⟩ := info_parts turn_info; clear ha ha2 hna hnb
  go_enter Tryz.func9, Tryz.ntmps9
  have HB := zh (Below.refl w.heap.size w)
  go_wp2_with fail
  (with_reducible refine (HSH.out _).mono ?_); rintro e1 w1 ⟨rfl, hb1⟩; replace HB := zh (Bel.call HB.out hb1); clear hb1; dsimp only
  by_cases hn1 : (20 : Int) < (n : Int)
  · go_wp2_with fail
    go_ret
    exact ⟨rfl, HB.out⟩
  by_cases hn2 : (20 : Int) < (n2 : Int)
  · go_wp2_with fail
    go_ret
    exact ⟨rfl, HB.out⟩
  go_wp2_with fail
  (with_reducible refine (HD.out _ HB.out).mono ?_); rintro e2 w2 ⟨⟨v2, Rr, han, hx2, rfl⟩, hb2⟩; replace HB := zh (Bel.call HB.out hb2); clear hb2; obtain ⟨or, fr, pr, Ar, nr, cr, Br, mr, dr, rfl, hq1, hq2, hq3, hq4, hq5, hx2⟩ := isX_lit hx2; have HEr := zh hq1; clear hq1 hq2 hq3 hq4 hq5; have HIr := zh hx2; have HANr := zh han; clear hx2 han; dsimp only
  have hepr := (ann_ep HANr.out).1
  have heppr := (ann_ep HANr.out).2
  have hpr0r : 0 ≤ pr := by rw [HEr.out]; omega
  have hpr7r : pr ≤ 7 := by rw [HEr.out]; omega
  have HSGr : Hid (∀ w, Calls Tryz.prog 13 #[.int .i64 (IntKind.i64.wrap (pr + 1))] w fun e w' => Lst w.heap.size (sgs (Rr.ep.toNat + 1)) e w' ∧ Below w.heap.size w w') := fun w => by
    have h := signersOf_any (Rr.ep.toNat + 1) w (by omega)
    rw [show (((Rr.ep.toNat + 1 : Nat)) : Int) = pr + 1 from by rw [HEr.out]; omega] at h; rw [show IntKind.i64.wrap (pr + 1) = pr + 1 from by rw [IntKind.wrap_i64]; omega]
    exact h
  have HEPSr := zh (And.intro hepr heppr); clear hepr heppr
  have tok1 : True := trivial
  have tok2 : True := trivial
  have hn1' : n ≤ 20 := by omega
  have hn2' : n2 ≤ 20 := by omega
  have hsz : (w2.alloc (.cells #[.string or, .string fr, .int .i64 pr, .slice Ar nr cr, .slice Br mr dr] 27)).heap.size = w2.heap.size + 1 := by simp
  have hb6 : Below w2.heap.size w2 ((w2.alloc (.cells #[.string or, .string fr, .int .i64 pr, .slice Ar nr cr, .slice Br mr dr] 27)).alloc (.cells #[] 82)) := Bel.call (al _ _) (al _ _)
  have hb6' : Below (w2.heap.size + 1) (w2.alloc (.cells #[.string or, .string fr, .int .i64 pr, .slice Ar nr cr, .slice Br mr dr] 27)) ((w2.alloc (.cells #[.string or, .string fr, .int .i64 pr, .slice Ar nr cr, .slice Br mr dr] 27)).alloc (.cells #[] 82)) := by rw [← hsz]; exact al _ _
  have hown0 : ((w2.alloc (.cells #[.string or, .string fr, .int .i64 pr, .slice Ar nr cr, .slice Br mr dr] 27)).alloc (.cells #[] 82)).ownsRow (w2.heap.size + 1) 82 2 (.slice (some ⟨w2.heap.size + 1, 0, none⟩) 0 0) 0 (Acts.acs []) := by
    have := World.ownsRow_made (base := w2.heap.size + 1) (e := 82) (size := 2) (w2.alloc (.cells #[.string or, .string fr, .int .i64 pr, .slice Ar nr cr, .slice Br mr dr] 27)) #[] 0 (by rw [hsz]; exact Nat.le_refl _) (Nat.zero_le _) rfl
    rw [hsz] at this; exact this
  have hap : Acts.AP ((w2.alloc (.cells #[.string or, .string fr, .int .i64 pr, .slice Ar nr cr, .slice Br mr dr] 27)).alloc (.cells #[] 82)) a (Acts.prs n Z) := HAP.out.below (Bel.call HB.out hb6) zl
  have hbx := bx_alloc w2 or fr pr Ar nr cr Br mr dr 27
  have HBX := zh hbx; have HB6 := zh hb6
  have HB6' := zh hb6'
  have HOW0 := zh hown0; have HAP0 := zh hap
  have hs6 : w2.heap.size + 1 ≤ ((w2.alloc (.cells #[.string or, .string fr, .int .i64 pr, .slice Ar nr cr, .slice Br mr dr] 27)).alloc (.cells #[] 82)).heap.size := by simp
  have HS6 := zh hs6; clear hbx hb6 hb6' hown0 hap hs6 hsz
  go_wp2_with (first
    | (at_builtin
       have _t := tok1
       refine Acts.append_acts rfl _ _ 22 82 i0 Tryz.underlying22 hi0 hz0 hz1 hz2 rfl (w2.heap.size + 1) _ 0 [] (Acts.prs n Z) rfl HOW0.out a n c rfl (Acts.prs_len n Z).symm HNA.out HAP0.out (by rw [Acts.prs_len]; omega) HS6.out ?_
       intro v7 w7 hown7 hb7
       have HOW7 := zh hown7; have HB7 := zh hb7
       have HAQ7 : Hid (Acts.AP w7 a2 (Acts.prs n2 Z2)) := HAQ.out.below ((HB.out.trans (HB6.out.mono HB.out.size)).trans (HB7.out.mono (Nat.le_trans HB.out.size (Nat.le_succ _)))) zl
       clear hown7 hb7 tok1)
    | (at_builtin
       have _t := tok2
       refine Acts.append_acts rfl _ _ 22 82 i0 Tryz.underlying22 hi0 hz0 hz1 hz2 rfl (w2.heap.size + 1) _ (0 + n) ([] ++ Acts.prs n Z) (Acts.prs n2 Z2) rfl HOW7.out a2 n2 c2 rfl (Acts.prs_len n2 Z2).symm HNB.out HAQ7.out (by rw [Acts.prs_len]; omega) (Nat.le_trans HS6.out HB7.out.size) ?_
       intro v8 w8 hown8 hb8
       obtain ⟨A8, c8, rfl⟩ := own_value hown8; have HOW8 := zh hown8; have HB8 := zh hb8
       clear hown8 hb8 tok2))
  have hb78 : Below (w2.heap.size + 1) (w2.alloc (.cells #[.string or, .string fr, .int .i64 pr, .slice Ar nr cr, .slice Br mr dr] 27)) w8 := HB6'.out.trans (HB7.out.trans HB8.out)
  have hb28 : Below w2.heap.size w2 w8 := (al w2 (.cells #[.string or, .string fr, .int .i64 pr, .slice Ar nr cr, .slice Br mr dr] 27)).trans (hb78.mono (Nat.le_succ _))
  have HXr := zh (HBX.out.below hb78 (Nat.lt_succ_self _))
  have HA8 : Hid (Acts.AReads 2 w8 A8 (n + n2) (Acts.zOf ([] ++ Acts.prs n Z ++ Acts.prs n2 Z2))) := by
    have h := Acts.ireads_own HOW8.out
    have h2 := Acts.areads_of h.1 (fun k hk => by
      rcases List.mem_append.1 hk with hk | hk
      · rcases List.mem_append.1 hk with hk | hk
        · cases hk
        · exact HFP.out k hk
      · exact HFQ.out k hk)
    rw [← h.2.1, Nat.zero_add] at h2; exact h2
  obtain ⟨Gr, hGr⟩ : ∃ g, w2.heap.size = g := ⟨_, rfl⟩; replace HB := zh (Bel.call HB.out hb28); replace HIr := zh (HIr.out.below hb28 zl); rw [hGr] at HXr ⊢; clear hb78 hb28 hGr HBX HB6 HB6' HOW0 HAP0 HS6 HOW7 HB7 HAQ7 HOW8 HB8; obtain ⟨r_0, r_1, r_2, r_3, r_4, _⟩ := HXr.out; (with_reducible refine (HD2.out A8 _ c8 _ _ HB.out HA8.out).mono ?_); rintro e3 w3 ⟨⟨v3, Rh, han, hx3, rfl⟩, hb3⟩; clear r_0 r_1 r_2 r_3 r_4; replace HB := zh (Bel.call HB.out hb3); replace HIr := zh (HIr.out.below hb3 zl); replace HXr := zh (HXr.out.below hb3 HXr.out.2.2.2.2.2); clear hb3; obtain ⟨oh, fh, ph, Ah, nh, ch, Bh, mh, dh, rfl, hq1, hq2, hq3, hq4, hq5, hx3⟩ := isX_lit hx3; have HEh := zh hq1; clear hq1 hq2 hq3 hq4 hq5; have HIh := zh hx3; have HANh := zh han; clear hx3 han; obtain ⟨r_0, r_1, r_2, r_3, r_4, _⟩ := HXr.out; dsimp only
  have heph := (ann_ep HANh.out).1
  have hepph := (ann_ep HANh.out).2
  have hpr0h : 0 ≤ ph := by rw [HEh.out]; omega
  have hpr7h : ph ≤ 7 := by rw [HEh.out]; omega
  have HSGh : Hid (∀ w, Calls Tryz.prog 13 #[.int .i64 (IntKind.i64.wrap (ph + 1))] w fun e w' => Lst w.heap.size (sgs (Rh.ep.toNat + 1)) e w' ∧ Below w.heap.size w w') := fun w => by
    have h := signersOf_any (Rh.ep.toNat + 1) w (by omega)
    rw [show (((Rh.ep.toNat + 1 : Nat)) : Int) = ph + 1 from by rw [HEh.out]; omega] at h; rw [show IntKind.i64.wrap (ph + 1) = ph + 1 from by rw [IntKind.wrap_i64]; omega]
    exact h
  have HEPSh := zh (And.intro heph hepph); clear heph hepph
  go_wp2_with fail
  clear r_0 r_1 r_2 r_3 r_4
  have hal := al w3 (.cells #[.string oh, .string fh, .int .i64 ph, .slice Ah nh ch, .slice Bh mh dh] 27)
  have hXX := bx_alloc w3 oh fh ph Ah nh ch Bh mh dh 27
  obtain ⟨Gh, hG⟩ : ∃ g, w3.heap.size = g := ⟨_, rfl⟩
  generalize w3.alloc (.cells #[.string oh, .string fh, .int .i64 ph, .slice Ah nh ch, .slice Bh mh dh] 27) = v4 at hal hXX ⊢
  replace HB := zh (Bel.call HB.out hal); replace HIr := zh (HIr.out.below hal zl); replace HXr := zh (HXr.out.below hal HXr.out.2.2.2.2.2); replace HIh := zh (HIh.out.below hal zl); rw [hG] at hXX ⊢; have HXh := zh hXX; clear hal hXX hG; obtain ⟨r_0, r_1, r_2, r_3, r_4, _⟩ := HXr.out; obtain ⟨h_0, h_1, h_2, h_3, h_4, _⟩ := HXh.out; have HJ := zh (isX_in HIr.out)
  go_wp2_with fail
  clear r_0 r_1 r_2 r_3 r_4 h_0 h_1 h_2 h_3 h_4
  have ZHB := HB
  have ZHIr := HIr
  have ZHXr := HXr
  have ZHIh := HIh
  have ZHXh := HXh
  have ZHJ := HJ
  have hdr : Below v4.heap.size v4 v4.drew := Below.drewN' (Below.refl _ _) 1
  refine Late.region (S := fun W => Below v4.heap.size v4 W) 13 _ (.cells #[.string ⟨#[]⟩, .string ⟨#[]⟩, .int .i64 0, .slice none 0 0, .slice none 0 0, .int .u64 0, .slice none 0 0, .slice none 0 0, .string ⟨#[]⟩] 39) (by kernel_rfl) (by rw [List.getElem?_toArray]; rfl) (by rfl) (by intro a w; rfl) (by kernel_rfl) (by kernel_rfl) (by intro _ _ d _ _; cases d <;> exact ⟨fun h => h, fun h => h⟩) (fun W W' h1 h2 => Bel.call h1 h2) hdr (fun _ => ?_)
  obtain ⟨d5, hwd⟩ : ∃ z, v4.drew = z := ⟨_, rfl⟩; rw [hwd] at hdr ⊢; replace HB := zh (Bel.call HB.out hdr); replace HIr := zh (HIr.out.below hdr zl); replace HXr := zh (HXr.out.below hdr HXr.out.2.2.2.2.2); replace HIh := zh (HIh.out.below hdr zl); replace HXh := zh (HXh.out.below hdr HXh.out.2.2.2.2.2); replace HJ := zh (HJ.out.below hdr zl); have HA := zh hdr; clear hwd hdr
  refine Late.take (i := 1) (v := ?_) (by rw [List.getElem?_toArray]; rfl) (by rfl) (by kernel_rfl) (by kernel_rfl) (by kernel_rfl) (Or.inl ⟨by rfl, ?_⟩) ?_
  rotate_left
  · intro w' hSw; obtain ⟨qr0, qr1, qr2, qr3, qr4, _⟩ := ZHXr.out.below hSw ZHXr.out.2.2.2.2.2; go_simp; try with_reducible rfl
  try simp only [Act.put, zq1, zq2, zq3]
  refine Late.take (i := 2) (v := ?_) (by rw [List.getElem?_toArray]; rfl) (by rfl) (by kernel_rfl) (by kernel_rfl) (by kernel_rfl) (Or.inl ⟨by rfl, ?_⟩) ?_
  rotate_left
  · intro w' hSw; go_simp; try with_reducible rfl
  try simp only [Act.put, zq1, zq2, zq3]
  refine Late.take (i := 4) (v := ?_) (by rw [List.getElem?_toArray]; rfl) (by rfl) (by kernel_rfl) (by kernel_rfl) (by kernel_rfl) (Or.inl ⟨by rfl, ?_⟩) ?_
  rotate_left
  · intro w' hSw; go_simp; try with_reducible rfl
  try simp only [Act.put, zq1, zq2, zq3]
  refine Late.take (i := 5) (v := ?_) (by rw [List.getElem?_toArray]; rfl) (by rfl) (by kernel_rfl) (by kernel_rfl) (by kernel_rfl) (Or.inl ⟨by rfl, ?_⟩) ?_
  rotate_left
  · intro w' hSw; obtain ⟨qr0, qr1, qr2, qr3, qr4, _⟩ := ZHXr.out.below hSw ZHXr.out.2.2.2.2.2; go_simp; try with_reducible rfl
  try simp only [Act.put, zq1, zq2, zq3]
  refine Late.take (i := 6) (v := ?_) (by rw [List.getElem?_toArray]; rfl) (by rfl) (by kernel_rfl) (by kernel_rfl) (by kernel_rfl) (Or.inl ⟨by rfl, ?_⟩) ?_
  rotate_left
  · intro w' hSw; go_simp; try with_reducible rfl
  try simp only [Act.put, zq1, zq2, zq3]
  refine Late.call (i := 0) (by rw [List.getElem?_toArray]; rfl) (by rfl) (by kernel_rfl) (by kernel_rfl) (by kernel_rfl) (fun d6 _ hLn Kn hK => ?_)
  replace HB := zh (Bel.call HB.out hLn); replace HIr := zh (HIr.out.below hLn zl); replace HXr := zh (HXr.out.below hLn HXr.out.2.2.2.2.2); replace HIh := zh (HIh.out.below hLn zl); replace HXh := zh (HXh.out.below hLn HXh.out.2.2.2.2.2); replace HJ := zh (HJ.out.below hLn zl); replace HA := zh (Bel.call HA.out hLn); clear hLn; have HLN := zh (Below.refl d6.heap.size d6); go_simp; (with_reducible refine (HSE.out _).mono ?_); rintro e7 w7 ⟨⟨S, hTS, rfl⟩, hb7⟩; replace HB := zh (Bel.call HB.out hb7); replace HIr := zh (HIr.out.below hb7 zl); replace HXr := zh (HXr.out.below hb7 HXr.out.2.2.2.2.2); replace HIh := zh (HIh.out.below hb7 zl); replace HXh := zh (HXh.out.below hb7 HXh.out.2.2.2.2.2); replace HJ := zh (HJ.out.below hb7 zl); replace HA := zh (Bel.call HA.out hb7); replace HLN := zh (Bel.call HLN.out hb7); clear hb7
  try dsimp only at hTS
  have HTS := zh hTS; clear hTS; dsimp only; refine hK.out _ _ HLN.out ?_; (try simp only [Act.put, zq1, zq2, zq3]); clear HLN hK Kn
  refine Late.call (i := 3) (by rw [List.getElem?_toArray]; rfl) (by rfl) (by kernel_rfl) (by kernel_rfl) (by kernel_rfl) (fun d8 _ hLn Kn hK => ?_)
  replace HB := zh (Bel.call HB.out hLn); replace HIr := zh (HIr.out.below hLn zl); replace HXr := zh (HXr.out.below hLn HXr.out.2.2.2.2.2); replace HIh := zh (HIh.out.below hLn zl); replace HXh := zh (HXh.out.below hLn HXh.out.2.2.2.2.2); replace HJ := zh (HJ.out.below hLn zl); replace HA := zh (Bel.call HA.out hLn); clear hLn; have HLN := zh (Below.refl d8.heap.size d8); go_simp; (with_reducible refine (HRO.out _).mono ?_); rintro e9 w9 ⟨⟨R, hTR, rfl⟩, hb9⟩; replace HB := zh (Bel.call HB.out hb9); replace HIr := zh (HIr.out.below hb9 zl); replace HXr := zh (HXr.out.below hb9 HXr.out.2.2.2.2.2); replace HIh := zh (HIh.out.below hb9 zl); replace HXh := zh (HXh.out.below hb9 HXh.out.2.2.2.2.2); replace HJ := zh (HJ.out.below hb9 zl); replace HA := zh (Bel.call HA.out hb9); replace HLN := zh (Bel.call HLN.out hb9); clear hb9
  try dsimp only at hTR
  have HTR := zh hTR; clear hTR; dsimp only; refine hK.out _ _ HLN.out ?_; (try simp only [Act.put, zq1, zq2, zq3]); clear HLN hK Kn
  refine Late.call (i := 7) (by rw [List.getElem?_toArray]; rfl) (by rfl) (by kernel_rfl) (by kernel_rfl) (by kernel_rfl) (fun d10 _ hLn Kn hK => ?_)
  replace HB := zh (Bel.call HB.out hLn); replace HIr := zh (HIr.out.below hLn zl); replace HXr := zh (HXr.out.below hLn HXr.out.2.2.2.2.2); replace HIh := zh (HIh.out.below hLn zl); replace HXh := zh (HXh.out.below hLn HXh.out.2.2.2.2.2); replace HJ := zh (HJ.out.below hLn zl); replace HA := zh (Bel.call HA.out hLn); clear hLn; have HLN := zh (Below.refl d10.heap.size d10); go_simp; (with_reducible refine (HSGr.out _).mono ?_); rintro e11 w11 ⟨⟨As, cs, ls, hls, hcs, hrs, _, rfl⟩, hb11⟩; replace HB := zh (Bel.call HB.out hb11); replace HIr := zh (HIr.out.below hb11 zl); replace HXr := zh (HXr.out.below hb11 HXr.out.2.2.2.2.2); replace HIh := zh (HIh.out.below hb11 zl); replace HXh := zh (HXh.out.below hb11 HXh.out.2.2.2.2.2); replace HJ := zh (HJ.out.below hb11 zl); replace HA := zh (Bel.call HA.out hb11); replace HLN := zh (Bel.call HLN.out hb11); clear hb11; have HLs := zh hls; have HCs := zh hcs; have HSs := zh hrs; clear hls hcs hrs; dsimp only; refine hK.out _ _ HLN.out ?_; (try simp only [Act.put, zq1, zq2, zq3]); clear HLN hK Kn
  refine Late.call (i := 8) (by rw [List.getElem?_toArray]; rfl) (by rfl) (by kernel_rfl) (by kernel_rfl) (by kernel_rfl) (fun d12 _ hLn Kn hK => ?_)
  replace HB := zh (Bel.call HB.out hLn); replace HIr := zh (HIr.out.below hLn zl); replace HXr := zh (HXr.out.below hLn HXr.out.2.2.2.2.2); replace HIh := zh (HIh.out.below hLn zl); replace HXh := zh (HXh.out.below hLn HXh.out.2.2.2.2.2); replace HJ := zh (HJ.out.below hLn zl); replace HA := zh (Bel.call HA.out hLn); replace HSs := zh (HSs.out.below hLn zl); clear hLn; have HLN := zh (Below.refl d12.heap.size d12); go_simp; (with_reducible refine (HKN.out _).mono ?_); rintro e13 w13 ⟨⟨Al, cl, ll, hll, hcl, hrl, _, rfl⟩, hb13⟩; replace HB := zh (Bel.call HB.out hb13); replace HIr := zh (HIr.out.below hb13 zl); replace HXr := zh (HXr.out.below hb13 HXr.out.2.2.2.2.2); replace HIh := zh (HIh.out.below hb13 zl); replace HXh := zh (HXh.out.below hb13 HXh.out.2.2.2.2.2); replace HJ := zh (HJ.out.below hb13 zl); replace HA := zh (Bel.call HA.out hb13); replace HSs := zh (HSs.out.below hb13 zl); replace HLN := zh (Bel.call HLN.out hb13); clear hb13; have HLl := zh hll; have HCl := zh hcl; have HSl := zh hrl; clear hll hcl hrl; dsimp only; refine hK.out _ _ HLN.out ?_; (try simp only [Act.put, zq1, zq2, zq3]); clear HLN hK Kn
  refine Late.call (i := 9) (by rw [List.getElem?_toArray]; rfl) (by rfl) (by kernel_rfl) (by kernel_rfl) (by kernel_rfl) (fun d14 _ hLn Kn hK => ?_)
  replace HB := zh (Bel.call HB.out hLn); replace HIr := zh (HIr.out.below hLn zl); replace HXr := zh (HXr.out.below hLn HXr.out.2.2.2.2.2); replace HIh := zh (HIh.out.below hLn zl); replace HXh := zh (HXh.out.below hLn HXh.out.2.2.2.2.2); replace HJ := zh (HJ.out.below hLn zl); replace HA := zh (Bel.call HA.out hLn); replace HSs := zh (HSs.out.below hLn zl); replace HSl := zh (HSl.out.below hLn zl); clear hLn; have HLN := zh (Below.refl d14.heap.size d14); go_simp; (with_reducible refine (build_to MB HANr.out (n := 2) (ver := va) (by decide) hva HTS.out HTR.out HLs.out (by rw [HLl.out]; exact knows_oth knows_all HANr.out) (by rw [HLl.out]; exact fit_known) (K := Al) (ck := cl) (ks := ll) (Gs w.heap.size v4.heap.size d14.heap.size) _ _ (gs_lt HB.out.size) (isX_gs HJ.out) HSs.out HCs.out HSl.out HCl.out (vz := (va : Int)) rfl (ns := ls.length) rfl (nk := ll.length) rfl).mono ?_); rintro e15 w15 ⟨⟨v15, hm15, hs15, rfl⟩, hb15⟩; replace HB := zh (Bel.call HB.out hb15); replace HIr := zh (HIr.out.below hb15 zl); replace HXr := zh (HXr.out.below hb15 HXr.out.2.2.2.2.2); replace HIh := zh (HIh.out.below hb15 zl); replace HXh := zh (HXh.out.below hb15 HXh.out.2.2.2.2.2); replace HJ := zh (HJ.out.below hb15 zl); replace HA := zh (Bel.call HA.out hb15); replace HSs := zh (HSs.out.below hb15 zl); replace HSl := zh (HSl.out.below hb15 zl); replace HLN := zh (Bel.call HLN.out hb15); clear hb15; obtain ⟨om, fm, gm, pm, Am, cm, rsm, Bm, dm, wsm, um, Vm, xm, vsm, Km, ym, ksm, rfl, him, _, _, _, _, _⟩ := isM_lit hm15; have HEm := zh him; have HIm := zh hm15; clear hm15 him; have HPm := zh hs15; clear hs15; dsimp only; replace HIm := zh (isM_near HIm.out); refine hK.out _ _ HLN.out ?_; (try simp only [Act.put, zq1, zq2, zq3]); clear HLN hK Kn
  refine Late.take (i := 10) (v := ?_) (by rw [List.getElem?_toArray]; rfl) (by rfl) (by kernel_rfl) (by kernel_rfl) (by kernel_rfl) (Or.inl ⟨by rfl, ?_⟩) ?_
  rotate_left
  · intro w' hSw; go_simp; try with_reducible rfl
  try simp only [Act.put, zq1, zq2, zq3]
  refine Late.take (i := 11) (v := ?_) (by rw [List.getElem?_toArray]; rfl) (by rfl) (by kernel_rfl) (by kernel_rfl) (by kernel_rfl) (Or.inl ⟨by rfl, ?_⟩) ?_
  rotate_left
  · intro w' hSw; go_simp; try with_reducible rfl
  try simp only [Act.put, zq1, zq2, zq3]
  refine Late.take (i := 12) (v := ?_) (by rw [List.getElem?_toArray]; rfl) (by rfl) (by kernel_rfl) (by kernel_rfl) (by kernel_rfl) (Or.inl ⟨by rfl, ?_⟩) ?_
  rotate_left
  · intro w' hSw; go_simp; try with_reducible rfl
  try simp only [Act.put, zq1, zq2, zq3]
  refine Late.last (by kernel_rfl) (fun d16 Gm _ hLg hZg hgg hav => ?_)
  replace HB := zh (Bel.call HB.out hLg); replace HIr := zh (HIr.out.below hLg zl); replace HXr := zh (HXr.out.below hLg HXr.out.2.2.2.2.2); replace HIh := zh (HIh.out.below hLg zl); replace HXh := zh (HXh.out.below hLg HXh.out.2.2.2.2.2); replace HJ := zh (HJ.out.below hLg zl); replace HA := zh (Bel.call HA.out hLg); replace HSs := zh (HSs.out.below hLg zl); replace HSl := zh (HSl.out.below hLg zl); replace HIm := zh (HIm.out.below hLg zl); replace HPm := zh (HPm.out.below hLg); obtain ⟨hXX, hFF⟩ := mx_at (o := ⟨#[]⟩) (f := ⟨#[]⟩) (ep := 0) (A := none) (n := 0) (c := 0) (B := none) (m := 0) (d := 0) (ver := 0) (V := none) (nv := 0) (cv := 0) (K := none) (nk := 0) (ck := 0) (sig := ⟨#[]⟩) hZg
  have HGm : Hid (v4.heap.size ≤ Gm) := hgg
  replace HIm := zh (isM_late HIm.out hgg (hav _ (List.mem_cons_self ..))); obtain ⟨z0, z1, z2, z3, z4, z5, z6, z7, z8⟩ := hFF; obtain ⟨⟨y0, y1, y2, y3, y4, y5, y6, y7, y8⟩, _⟩ := hXX; (try simp only [Act.put, zq1, zq2, zq3]); refine zqR [14] ?_; refine zqC (fun Kn hK => ?_) AllReadyH.nil; go_simp
  have hXX : Mx Gm (((((((((d16.setCell ⟨Gm, 0, none⟩ (.string om)).setCell ⟨Gm, 1, none⟩ (.string fm)).setCell ⟨Gm, 2, none⟩ (.int .i64 pm)).setCell ⟨Gm, 3, none⟩ (.slice Am rsm.length cm)).setCell ⟨Gm, 4, none⟩ (.slice Bm wsm.length dm)).setCell ⟨Gm, 5, none⟩ (.int .u64 (um : Int))).setCell ⟨Gm, 6, none⟩ (.slice Vm vsm.length xm)).setCell ⟨Gm, 7, none⟩ (.slice Km ksm.length ym)).setCell ⟨Gm, 8, none⟩ (.string gm)) om fm pm Am rsm.length cm Bm wsm.length dm um Vm vsm.length xm Km ksm.length ym gm := mx_set9 (o' := ⟨#[]⟩) (f' := ⟨#[]⟩) (ep' := 0) (A' := none) (n' := 0) (c' := 0) (B' := none) (m' := 0) (d' := 0) (ver' := 0) (V' := none) (nv' := 0) (cv' := 0) (K' := none) (nk' := 0) (ck' := 0) (sig' := ⟨#[]⟩) ⟨⟨y0, y1, y2, y3, y4, y5, y6, y7, y8⟩, (Array.getElem?_eq_some_iff.1 hZg).1⟩
  have hII : IsM (Off (Gm :: List.range w.heap.size)) (((((((((d16.setCell ⟨Gm, 0, none⟩ (.string om)).setCell ⟨Gm, 1, none⟩ (.string fm)).setCell ⟨Gm, 2, none⟩ (.int .i64 pm)).setCell ⟨Gm, 3, none⟩ (.slice Am rsm.length cm)).setCell ⟨Gm, 4, none⟩ (.slice Bm wsm.length dm)).setCell ⟨Gm, 5, none⟩ (.int .u64 (um : Int))).setCell ⟨Gm, 6, none⟩ (.slice Vm vsm.length xm)).setCell ⟨Gm, 7, none⟩ (.slice Km ksm.length ym)).setCell ⟨Gm, 8, none⟩ (.string gm)) (.agg #[.string om, .string fm, .int .i64 pm, .slice Am rsm.length cm, .slice Bm wsm.length dm, .int .u64 (um : Int), .slice Vm vsm.length xm, .slice Km ksm.length ym, .string gm]) (mOf Rr 2 va) := isM_set9 (List.mem_cons_self ..) HIm.out
  have hSP : SepM (((((((((d16.setCell ⟨Gm, 0, none⟩ (.string om)).setCell ⟨Gm, 1, none⟩ (.string fm)).setCell ⟨Gm, 2, none⟩ (.int .i64 pm)).setCell ⟨Gm, 3, none⟩ (.slice Am rsm.length cm)).setCell ⟨Gm, 4, none⟩ (.slice Bm wsm.length dm)).setCell ⟨Gm, 5, none⟩ (.int .u64 (um : Int))).setCell ⟨Gm, 6, none⟩ (.slice Vm vsm.length xm)).setCell ⟨Gm, 7, none⟩ (.slice Km ksm.length ym)).setCell ⟨Gm, 8, none⟩ (.string gm)) (.agg #[.string om, .string fm, .int .i64 pm, .slice Am rsm.length cm, .slice Bm wsm.length dm, .int .u64 (um : Int), .slice Vm vsm.length xm, .slice Km ksm.length ym, .string gm]) := sepM_set9 HPm.out
  have hBB : Below v4.heap.size v4 (((((((((d16.setCell ⟨Gm, 0, none⟩ (.string om)).setCell ⟨Gm, 1, none⟩ (.string fm)).setCell ⟨Gm, 2, none⟩ (.int .i64 pm)).setCell ⟨Gm, 3, none⟩ (.slice Am rsm.length cm)).setCell ⟨Gm, 4, none⟩ (.slice Bm wsm.length dm)).setCell ⟨Gm, 5, none⟩ (.int .u64 (um : Int))).setCell ⟨Gm, 6, none⟩ (.slice Vm vsm.length xm)).setCell ⟨Gm, 7, none⟩ (.slice Km ksm.length ym)).setCell ⟨Gm, 8, none⟩ (.string gm)) := set9 HA.out HGm.out
  have hZB := zh hBB
  generalize (((((((((d16.setCell ⟨Gm, 0, none⟩ (.string om)).setCell ⟨Gm, 1, none⟩ (.string fm)).setCell ⟨Gm, 2, none⟩ (.int .i64 pm)).setCell ⟨Gm, 3, none⟩ (.slice Am rsm.length cm)).setCell ⟨Gm, 4, none⟩ (.slice Bm wsm.length dm)).setCell ⟨Gm, 5, none⟩ (.int .u64 (um : Int))).setCell ⟨Gm, 6, none⟩ (.slice Vm vsm.length xm)).setCell ⟨Gm, 7, none⟩ (.slice Km ksm.length ym)).setCell ⟨Gm, 8, none⟩ (.string gm)) = v17 at hXX hII hSP hBB hZB ⊢
  refine hK.out _ _ hBB (fun _ => ?_); (try simp only [Act.put, zq1, zq2, zq3]); clear hK Kn y0 y1 y2 y3 y4 y5 y6 y7 y8 z0 z1 z2 z3 z4 z5 z6 z7 z8 hZg hgg hav hLg; refine zqT 15 ?_ ?_ ?_; rotate_left
  · intro w' hSw; go_simp; try with_reducible rfl
  try simp only [Act.put, zq1, zq2, zq3]
  refine wpAnyH_done (by kernel_rfl) ?_ _
  replace HB := ZHB
  replace HIr := ZHIr
  replace HXr := ZHXr
  replace HIh := ZHIh
  replace HXh := ZHXh
  replace HJ := ZHJ
  replace HB := zh (Bel.call HB.out hZB.out); replace HIr := zh (HIr.out.below hZB.out zl); replace HXr := zh (HXr.out.below hZB.out HXr.out.2.2.2.2.2); replace HIh := zh (HIh.out.below hZB.out zl); replace HXh := zh (HXh.out.below hZB.out HXh.out.2.2.2.2.2); replace HJ := zh (HJ.out.below hZB.out zl); clear hZB ZHB ZHIr ZHXr ZHIh ZHXh ZHJ; have HXm := zh hXX; have HIm := zh hII; have HPm := zh hSP; clear hXX hII hSP hBB; obtain ⟨r_0, r_1, r_2, r_3, r_4, _⟩ := HXr.out; obtain ⟨h_0, h_1, h_2, h_3, h_4, _⟩ := HXh.out; obtain ⟨⟨m_0, m_1, m_2, m_3, m_4, m_5, m_6, m_7, m_8⟩, _⟩ := HXm.out; clear HJ HTS HTR HLs HLl HSs HSl HCs HCl
  go_wp2_with fail
  have HJ := zh (isX_in HIh.out)
  go_wp2_with fail
  clear r_0 r_1 r_2 r_3 r_4 h_0 h_1 h_2 h_3 h_4 m_0 m_1 m_2 m_3 m_4 m_5 m_6 m_7 m_8
  have ZHB := HB
  have ZHIr := HIr
  have ZHXr := HXr
  have ZHIh := HIh
  have ZHXh := HXh
  have ZHXm := HXm
  have ZHIm := HIm
  have ZHPm := HPm
  have ZHJ := HJ
  have hdr : Below v17.heap.size v17 v17.drew := Below.drewN' (Below.refl _ _) 1
  refine Late.region (S := fun W => Below v17.heap.size v17 W) 13 _ (.cells #[.string ⟨#[]⟩, .string ⟨#[]⟩, .int .i64 0, .slice none 0 0, .slice none 0 0, .int .u64 0, .slice none 0 0, .slice none 0 0, .string ⟨#[]⟩] 39) (by kernel_rfl) (by rw [List.getElem?_toArray]; rfl) (by rfl) (by intro a w; rfl) (by kernel_rfl) (by kernel_rfl) (by intro _ _ d _ _; cases d <;> exact ⟨fun h => h, fun h => h⟩) (fun W W' h1 h2 => Bel.call h1 h2) hdr (fun _ => ?_)
  obtain ⟨d18, hwd⟩ : ∃ z, v17.drew = z := ⟨_, rfl⟩; rw [hwd] at hdr ⊢; replace HB := zh (Bel.call HB.out hdr); replace HIr := zh (HIr.out.below hdr zl); replace HXr := zh (HXr.out.below hdr HXr.out.2.2.2.2.2); replace HIh := zh (HIh.out.below hdr zl); replace HXh := zh (HXh.out.below hdr HXh.out.2.2.2.2.2); replace HXm := zh (HXm.out.call hdr); replace HIm := zh (HIm.out.below hdr zl); replace HPm := zh (HPm.out.below hdr); replace HJ := zh (HJ.out.below hdr zl); have HA := zh hdr; clear hwd hdr
  refine Late.take (i := 1) (v := ?_) (by rw [List.getElem?_toArray]; rfl) (by rfl) (by kernel_rfl) (by kernel_rfl) (by kernel_rfl) (Or.inl ⟨by rfl, ?_⟩) ?_
  rotate_left
  · intro w' hSw; obtain ⟨qh0, qh1, qh2, qh3, qh4, _⟩ := ZHXh.out.below hSw ZHXh.out.2.2.2.2.2; go_simp; try with_reducible rfl
  try simp only [Act.put, zq1, zq2, zq3]
  refine Late.take (i := 2) (v := ?_) (by rw [List.getElem?_toArray]; rfl) (by rfl) (by kernel_rfl) (by kernel_rfl) (by kernel_rfl) (Or.inl ⟨by rfl, ?_⟩) ?_
  rotate_left
  · intro w' hSw; go_simp; try with_reducible rfl
  try simp only [Act.put, zq1, zq2, zq3]
  refine Late.take (i := 4) (v := ?_) (by rw [List.getElem?_toArray]; rfl) (by rfl) (by kernel_rfl) (by kernel_rfl) (by kernel_rfl) (Or.inl ⟨by rfl, ?_⟩) ?_
  rotate_left
  · intro w' hSw; go_simp; try with_reducible rfl
  try simp only [Act.put, zq1, zq2, zq3]
  refine Late.take (i := 5) (v := ?_) (by rw [List.getElem?_toArray]; rfl) (by rfl) (by kernel_rfl) (by kernel_rfl) (by kernel_rfl) (Or.inl ⟨by rfl, ?_⟩) ?_
  rotate_left
  · intro w' hSw; obtain ⟨qh0, qh1, qh2, qh3, qh4, _⟩ := ZHXh.out.below hSw ZHXh.out.2.2.2.2.2; go_simp; try with_reducible rfl
  try simp only [Act.put, zq1, zq2, zq3]
  refine Late.take (i := 6) (v := ?_) (by rw [List.getElem?_toArray]; rfl) (by rfl) (by kernel_rfl) (by kernel_rfl) (by kernel_rfl) (Or.inl ⟨by rfl, ?_⟩) ?_
  rotate_left
  · intro w' hSw; go_simp; try with_reducible rfl
  try simp only [Act.put, zq1, zq2, zq3]
  refine Late.call (i := 0) (by rw [List.getElem?_toArray]; rfl) (by rfl) (by kernel_rfl) (by kernel_rfl) (by kernel_rfl) (fun d19 _ hLn Kn hK => ?_)
  replace HB := zh (Bel.call HB.out hLn); replace HIr := zh (HIr.out.below hLn zl); replace HXr := zh (HXr.out.below hLn HXr.out.2.2.2.2.2); replace HIh := zh (HIh.out.below hLn zl); replace HXh := zh (HXh.out.below hLn HXh.out.2.2.2.2.2); replace HXm := zh (HXm.out.call hLn); replace HIm := zh (HIm.out.below hLn zl); replace HPm := zh (HPm.out.below hLn); replace HJ := zh (HJ.out.below hLn zl); replace HA := zh (Bel.call HA.out hLn); clear hLn; have HLN := zh (Below.refl d19.heap.size d19); go_simp; (with_reducible refine (HSE.out _).mono ?_); rintro e20 w20 ⟨⟨S, hTS, rfl⟩, hb20⟩; replace HB := zh (Bel.call HB.out hb20); replace HIr := zh (HIr.out.below hb20 zl); replace HXr := zh (HXr.out.below hb20 HXr.out.2.2.2.2.2); replace HIh := zh (HIh.out.below hb20 zl); replace HXh := zh (HXh.out.below hb20 HXh.out.2.2.2.2.2); replace HXm := zh (HXm.out.call hb20); replace HIm := zh (HIm.out.below hb20 zl); replace HPm := zh (HPm.out.below hb20); replace HJ := zh (HJ.out.below hb20 zl); replace HA := zh (Bel.call HA.out hb20); replace HLN := zh (Bel.call HLN.out hb20); clear hb20
  try dsimp only at hTS
  have HTS := zh hTS; clear hTS; dsimp only; refine hK.out _ _ HLN.out ?_; (try simp only [Act.put, zq1, zq2, zq3]); clear HLN hK Kn
  refine Late.call (i := 3) (by rw [List.getElem?_toArray]; rfl) (by rfl) (by kernel_rfl) (by kernel_rfl) (by kernel_rfl) (fun d21 _ hLn Kn hK => ?_)
  replace HB := zh (Bel.call HB.out hLn); replace HIr := zh (HIr.out.below hLn zl); replace HXr := zh (HXr.out.below hLn HXr.out.2.2.2.2.2); replace HIh := zh (HIh.out.below hLn zl); replace HXh := zh (HXh.out.below hLn HXh.out.2.2.2.2.2); replace HXm := zh (HXm.out.call hLn); replace HIm := zh (HIm.out.below hLn zl); replace HPm := zh (HPm.out.below hLn); replace HJ := zh (HJ.out.below hLn zl); replace HA := zh (Bel.call HA.out hLn); clear hLn; have HLN := zh (Below.refl d21.heap.size d21); go_simp; (with_reducible refine (HRO.out _).mono ?_); rintro e22 w22 ⟨⟨R, hTR, rfl⟩, hb22⟩; replace HB := zh (Bel.call HB.out hb22); replace HIr := zh (HIr.out.below hb22 zl); replace HXr := zh (HXr.out.below hb22 HXr.out.2.2.2.2.2); replace HIh := zh (HIh.out.below hb22 zl); replace HXh := zh (HXh.out.below hb22 HXh.out.2.2.2.2.2); replace HXm := zh (HXm.out.call hb22); replace HIm := zh (HIm.out.below hb22 zl); replace HPm := zh (HPm.out.below hb22); replace HJ := zh (HJ.out.below hb22 zl); replace HA := zh (Bel.call HA.out hb22); replace HLN := zh (Bel.call HLN.out hb22); clear hb22
  try dsimp only at hTR
  have HTR := zh hTR; clear hTR; dsimp only; refine hK.out _ _ HLN.out ?_; (try simp only [Act.put, zq1, zq2, zq3]); clear HLN hK Kn
  refine Late.call (i := 7) (by rw [List.getElem?_toArray]; rfl) (by rfl) (by kernel_rfl) (by kernel_rfl) (by kernel_rfl) (fun d23 _ hLn Kn hK => ?_)
  replace HB := zh (Bel.call HB.out hLn); replace HIr := zh (HIr.out.below hLn zl); replace HXr := zh (HXr.out.below hLn HXr.out.2.2.2.2.2); replace HIh := zh (HIh.out.below hLn zl); replace HXh := zh (HXh.out.below hLn HXh.out.2.2.2.2.2); replace HXm := zh (HXm.out.call hLn); replace HIm := zh (HIm.out.below hLn zl); replace HPm := zh (HPm.out.below hLn); replace HJ := zh (HJ.out.below hLn zl); replace HA := zh (Bel.call HA.out hLn); clear hLn; have HLN := zh (Below.refl d23.heap.size d23); go_simp; (with_reducible refine (HSGh.out _).mono ?_); rintro e24 w24 ⟨⟨As, cs, ls, hls, hcs, hrs, _, rfl⟩, hb24⟩; replace HB := zh (Bel.call HB.out hb24); replace HIr := zh (HIr.out.below hb24 zl); replace HXr := zh (HXr.out.below hb24 HXr.out.2.2.2.2.2); replace HIh := zh (HIh.out.below hb24 zl); replace HXh := zh (HXh.out.below hb24 HXh.out.2.2.2.2.2); replace HXm := zh (HXm.out.call hb24); replace HIm := zh (HIm.out.below hb24 zl); replace HPm := zh (HPm.out.below hb24); replace HJ := zh (HJ.out.below hb24 zl); replace HA := zh (Bel.call HA.out hb24); replace HLN := zh (Bel.call HLN.out hb24); clear hb24; have HLs := zh hls; have HCs := zh hcs; have HSs := zh hrs; clear hls hcs hrs; dsimp only; refine hK.out _ _ HLN.out ?_; (try simp only [Act.put, zq1, zq2, zq3]); clear HLN hK Kn
  refine Late.call (i := 8) (by rw [List.getElem?_toArray]; rfl) (by rfl) (by kernel_rfl) (by kernel_rfl) (by kernel_rfl) (fun d25 _ hLn Kn hK => ?_)
  replace HB := zh (Bel.call HB.out hLn); replace HIr := zh (HIr.out.below hLn zl); replace HXr := zh (HXr.out.below hLn HXr.out.2.2.2.2.2); replace HIh := zh (HIh.out.below hLn zl); replace HXh := zh (HXh.out.below hLn HXh.out.2.2.2.2.2); replace HXm := zh (HXm.out.call hLn); replace HIm := zh (HIm.out.below hLn zl); replace HPm := zh (HPm.out.below hLn); replace HJ := zh (HJ.out.below hLn zl); replace HA := zh (Bel.call HA.out hLn); replace HSs := zh (HSs.out.below hLn zl); clear hLn; have HLN := zh (Below.refl d25.heap.size d25); go_simp; (with_reducible refine (HKN.out _).mono ?_); rintro e26 w26 ⟨⟨Al, cl, ll, hll, hcl, hrl, _, rfl⟩, hb26⟩; replace HB := zh (Bel.call HB.out hb26); replace HIr := zh (HIr.out.below hb26 zl); replace HXr := zh (HXr.out.below hb26 HXr.out.2.2.2.2.2); replace HIh := zh (HIh.out.below hb26 zl); replace HXh := zh (HXh.out.below hb26 HXh.out.2.2.2.2.2); replace HXm := zh (HXm.out.call hb26); replace HIm := zh (HIm.out.below hb26 zl); replace HPm := zh (HPm.out.below hb26); replace HJ := zh (HJ.out.below hb26 zl); replace HA := zh (Bel.call HA.out hb26); replace HSs := zh (HSs.out.below hb26 zl); replace HLN := zh (Bel.call HLN.out hb26); clear hb26; have HLl := zh hll; have HCl := zh hcl; have HSl := zh hrl; clear hll hcl hrl; dsimp only; refine hK.out _ _ HLN.out ?_; (try simp only [Act.put, zq1, zq2, zq3]); clear HLN hK Kn
  refine Late.call (i := 9) (by rw [List.getElem?_toArray]; rfl) (by rfl) (by kernel_rfl) (by kernel_rfl) (by kernel_rfl) (fun d27 _ hLn Kn hK => ?_)
  replace HB := zh (Bel.call HB.out hLn); replace HIr := zh (HIr.out.below hLn zl); replace HXr := zh (HXr.out.below hLn HXr.out.2.2.2.2.2); replace HIh := zh (HIh.out.below hLn zl); replace HXh := zh (HXh.out.below hLn HXh.out.2.2.2.2.2); replace HXm := zh (HXm.out.call hLn); replace HIm := zh (HIm.out.below hLn zl); replace HPm := zh (HPm.out.below hLn); replace HJ := zh (HJ.out.below hLn zl); replace HA := zh (Bel.call HA.out hLn); replace HSs := zh (HSs.out.below hLn zl); replace HSl := zh (HSl.out.below hLn zl); clear hLn; have HLN := zh (Below.refl d27.heap.size d27); go_simp; (with_reducible refine (build_to MB HANh.out (n := 2) (ver := vb) (by decide) hvb HTS.out HTR.out HLs.out (by rw [HLl.out]; exact knows_oth knows_all HANh.out) (by rw [HLl.out]; exact fit_known) (K := Al) (ck := cl) (ks := ll) (Gs w.heap.size v17.heap.size d27.heap.size) _ _ (gs_lt HB.out.size) (isX_gs HJ.out) HSs.out HCs.out HSl.out HCl.out (vz := (vb : Int)) rfl (ns := ls.length) rfl (nk := ll.length) rfl).mono ?_); rintro e28 w28 ⟨⟨v28, hm28, hs28, rfl⟩, hb28⟩; replace HB := zh (Bel.call HB.out hb28); replace HIr := zh (HIr.out.below hb28 zl); replace HXr := zh (HXr.out.below hb28 HXr.out.2.2.2.2.2); replace HIh := zh (HIh.out.below hb28 zl); replace HXh := zh (HXh.out.below hb28 HXh.out.2.2.2.2.2); replace HXm := zh (HXm.out.call hb28); replace HIm := zh (HIm.out.below hb28 zl); replace HPm := zh (HPm.out.below hb28); replace HJ := zh (HJ.out.below hb28 zl); replace HA := zh (Bel.call HA.out hb28); replace HSs := zh (HSs.out.below hb28 zl); replace HSl := zh (HSl.out.below hb28 zl); replace HLN := zh (Bel.call HLN.out hb28); clear hb28; obtain ⟨oj, fj, gj, pj, Aj, cj, rsj, Bj, dj, wsj, uj, Vj, xj, vsj, Kj, yj, ksj, rfl, hij, _, _, _, _, _⟩ := isM_lit hm28; have HEj := zh hij; have HIj := zh hm28; clear hm28 hij; have HPj := zh hs28; clear hs28; dsimp only; replace HIj := zh (isM_near HIj.out); refine hK.out _ _ HLN.out ?_; (try simp only [Act.put, zq1, zq2, zq3]); clear HLN hK Kn
  refine Late.take (i := 10) (v := ?_) (by rw [List.getElem?_toArray]; rfl) (by rfl) (by kernel_rfl) (by kernel_rfl) (by kernel_rfl) (Or.inl ⟨by rfl, ?_⟩) ?_
  rotate_left
  · intro w' hSw; go_simp; try with_reducible rfl
  try simp only [Act.put, zq1, zq2, zq3]
  refine Late.take (i := 11) (v := ?_) (by rw [List.getElem?_toArray]; rfl) (by rfl) (by kernel_rfl) (by kernel_rfl) (by kernel_rfl) (Or.inl ⟨by rfl, ?_⟩) ?_
  rotate_left
  · intro w' hSw; go_simp; try with_reducible rfl
  try simp only [Act.put, zq1, zq2, zq3]
  refine Late.take (i := 12) (v := ?_) (by rw [List.getElem?_toArray]; rfl) (by rfl) (by kernel_rfl) (by kernel_rfl) (by kernel_rfl) (Or.inl ⟨by rfl, ?_⟩) ?_
  rotate_left
  · intro w' hSw; go_simp; try with_reducible rfl
  try simp only [Act.put, zq1, zq2, zq3]
  refine Late.last (by kernel_rfl) (fun d29 Gj _ hLg hZg hgg hav => ?_)
  replace HB := zh (Bel.call HB.out hLg); replace HIr := zh (HIr.out.below hLg zl); replace HXr := zh (HXr.out.below hLg HXr.out.2.2.2.2.2); replace HIh := zh (HIh.out.below hLg zl); replace HXh := zh (HXh.out.below hLg HXh.out.2.2.2.2.2); replace HXm := zh (HXm.out.call hLg); replace HIm := zh (HIm.out.below hLg zl); replace HPm := zh (HPm.out.below hLg); replace HJ := zh (HJ.out.below hLg zl); replace HA := zh (Bel.call HA.out hLg); replace HSs := zh (HSs.out.below hLg zl); replace HSl := zh (HSl.out.below hLg zl); replace HIj := zh (HIj.out.below hLg zl); replace HPj := zh (HPj.out.below hLg); obtain ⟨hXX, hFF⟩ := mx_at (o := ⟨#[]⟩) (f := ⟨#[]⟩) (ep := 0) (A := none) (n := 0) (c := 0) (B := none) (m := 0) (d := 0) (ver := 0) (V := none) (nv := 0) (cv := 0) (K := none) (nk := 0) (ck := 0) (sig := ⟨#[]⟩) hZg
  have HGj : Hid (v17.heap.size ≤ Gj) := hgg
  replace HIj := zh (isM_late HIj.out hgg (hav _ (List.mem_cons_self ..))); obtain ⟨z0, z1, z2, z3, z4, z5, z6, z7, z8⟩ := hFF; obtain ⟨⟨y0, y1, y2, y3, y4, y5, y6, y7, y8⟩, _⟩ := hXX; (try simp only [Act.put, zq1, zq2, zq3]); refine zqR [14] ?_; refine zqC (fun Kn hK => ?_) AllReadyH.nil; go_simp
  have hXX : Mx Gj (((((((((d29.setCell ⟨Gj, 0, none⟩ (.string oj)).setCell ⟨Gj, 1, none⟩ (.string fj)).setCell ⟨Gj, 2, none⟩ (.int .i64 pj)).setCell ⟨Gj, 3, none⟩ (.slice Aj rsj.length cj)).setCell ⟨Gj, 4, none⟩ (.slice Bj wsj.length dj)).setCell ⟨Gj, 5, none⟩ (.int .u64 (uj : Int))).setCell ⟨Gj, 6, none⟩ (.slice Vj vsj.length xj)).setCell ⟨Gj, 7, none⟩ (.slice Kj ksj.length yj)).setCell ⟨Gj, 8, none⟩ (.string gj)) oj fj pj Aj rsj.length cj Bj wsj.length dj uj Vj vsj.length xj Kj ksj.length yj gj := mx_set9 (o' := ⟨#[]⟩) (f' := ⟨#[]⟩) (ep' := 0) (A' := none) (n' := 0) (c' := 0) (B' := none) (m' := 0) (d' := 0) (ver' := 0) (V' := none) (nv' := 0) (cv' := 0) (K' := none) (nk' := 0) (ck' := 0) (sig' := ⟨#[]⟩) ⟨⟨y0, y1, y2, y3, y4, y5, y6, y7, y8⟩, (Array.getElem?_eq_some_iff.1 hZg).1⟩
  have hII : IsM (Off (Gj :: List.range w.heap.size)) (((((((((d29.setCell ⟨Gj, 0, none⟩ (.string oj)).setCell ⟨Gj, 1, none⟩ (.string fj)).setCell ⟨Gj, 2, none⟩ (.int .i64 pj)).setCell ⟨Gj, 3, none⟩ (.slice Aj rsj.length cj)).setCell ⟨Gj, 4, none⟩ (.slice Bj wsj.length dj)).setCell ⟨Gj, 5, none⟩ (.int .u64 (uj : Int))).setCell ⟨Gj, 6, none⟩ (.slice Vj vsj.length xj)).setCell ⟨Gj, 7, none⟩ (.slice Kj ksj.length yj)).setCell ⟨Gj, 8, none⟩ (.string gj)) (.agg #[.string oj, .string fj, .int .i64 pj, .slice Aj rsj.length cj, .slice Bj wsj.length dj, .int .u64 (uj : Int), .slice Vj vsj.length xj, .slice Kj ksj.length yj, .string gj]) (mOf Rh 2 vb) := isM_set9 (List.mem_cons_self ..) HIj.out
  have hSP : SepM (((((((((d29.setCell ⟨Gj, 0, none⟩ (.string oj)).setCell ⟨Gj, 1, none⟩ (.string fj)).setCell ⟨Gj, 2, none⟩ (.int .i64 pj)).setCell ⟨Gj, 3, none⟩ (.slice Aj rsj.length cj)).setCell ⟨Gj, 4, none⟩ (.slice Bj wsj.length dj)).setCell ⟨Gj, 5, none⟩ (.int .u64 (uj : Int))).setCell ⟨Gj, 6, none⟩ (.slice Vj vsj.length xj)).setCell ⟨Gj, 7, none⟩ (.slice Kj ksj.length yj)).setCell ⟨Gj, 8, none⟩ (.string gj)) (.agg #[.string oj, .string fj, .int .i64 pj, .slice Aj rsj.length cj, .slice Bj wsj.length dj, .int .u64 (uj : Int), .slice Vj vsj.length xj, .slice Kj ksj.length yj, .string gj]) := sepM_set9 HPj.out
  have hBB : Below v17.heap.size v17 (((((((((d29.setCell ⟨Gj, 0, none⟩ (.string oj)).setCell ⟨Gj, 1, none⟩ (.string fj)).setCell ⟨Gj, 2, none⟩ (.int .i64 pj)).setCell ⟨Gj, 3, none⟩ (.slice Aj rsj.length cj)).setCell ⟨Gj, 4, none⟩ (.slice Bj wsj.length dj)).setCell ⟨Gj, 5, none⟩ (.int .u64 (uj : Int))).setCell ⟨Gj, 6, none⟩ (.slice Vj vsj.length xj)).setCell ⟨Gj, 7, none⟩ (.slice Kj ksj.length yj)).setCell ⟨Gj, 8, none⟩ (.string gj)) := set9 HA.out HGj.out
  have hZB := zh hBB
  generalize (((((((((d29.setCell ⟨Gj, 0, none⟩ (.string oj)).setCell ⟨Gj, 1, none⟩ (.string fj)).setCell ⟨Gj, 2, none⟩ (.int .i64 pj)).setCell ⟨Gj, 3, none⟩ (.slice Aj rsj.length cj)).setCell ⟨Gj, 4, none⟩ (.slice Bj wsj.length dj)).setCell ⟨Gj, 5, none⟩ (.int .u64 (uj : Int))).setCell ⟨Gj, 6, none⟩ (.slice Vj vsj.length xj)).setCell ⟨Gj, 7, none⟩ (.slice Kj ksj.length yj)).setCell ⟨Gj, 8, none⟩ (.string gj)) = v30 at hXX hII hSP hBB hZB ⊢
  refine hK.out _ _ hBB (fun _ => ?_); (try simp only [Act.put, zq1, zq2, zq3]); clear hK Kn y0 y1 y2 y3 y4 y5 y6 y7 y8 z0 z1 z2 z3 z4 z5 z6 z7 z8 hZg hgg hav hLg; refine zqT 15 ?_ ?_ ?_; rotate_left
  · intro w' hSw; go_simp; try with_reducible rfl
  try simp only [Act.put, zq1, zq2, zq3]
  refine wpAnyH_done (by kernel_rfl) ?_ _
  replace HB := ZHB
  replace HIr := ZHIr
  replace HXr := ZHXr
  replace HIh := ZHIh
  replace HXh := ZHXh
  replace HXm := ZHXm
  replace HIm := ZHIm
  replace HPm := ZHPm
  replace HJ := ZHJ
  replace HB := zh (Bel.call HB.out hZB.out); replace HIr := zh (HIr.out.below hZB.out zl); replace HXr := zh (HXr.out.below hZB.out HXr.out.2.2.2.2.2); replace HIh := zh (HIh.out.below hZB.out zl); replace HXh := zh (HXh.out.below hZB.out HXh.out.2.2.2.2.2); replace HXm := zh (HXm.out.call hZB.out); replace HIm := zh (HIm.out.below hZB.out zl); replace HPm := zh (HPm.out.below hZB.out); replace HJ := zh (HJ.out.below hZB.out zl); clear hZB ZHB ZHIr ZHXr ZHIh ZHXh ZHXm ZHIm ZHPm ZHJ; have HXj := zh hXX; have HIj := zh hII; have HPj := zh hSP; clear hXX hII hSP hBB; obtain ⟨r_0, r_1, r_2, r_3, r_4, _⟩ := HXr.out; obtain ⟨h_0, h_1, h_2, h_3, h_4, _⟩ := HXh.out; obtain ⟨⟨m_0, m_1, m_2, m_3, m_4, m_5, m_6, m_7, m_8⟩, _⟩ := HXm.out; obtain ⟨⟨j_0, j_1, j_2, j_3, j_4, j_5, j_6, j_7, j_8⟩, _⟩ := HXj.out; clear HJ HTS HTR HLs HLl HSs HSl HCs HCl
  go_wp2_with fail
  have HJ := zh (isX_in HIr.out)
  go_wp2_with fail
  clear r_0 r_1 r_2 r_3 r_4 h_0 h_1 h_2 h_3 h_4 m_0 m_1 m_2 m_3 m_4 m_5 m_6 m_7 m_8 j_0 j_1 j_2 j_3 j_4 j_5 j_6 j_7 j_8
  have ZHB := HB
  have ZHIr := HIr
  have ZHXr := HXr
  have ZHIh := HIh
  have ZHXh := HXh
  have ZHXm := HXm
  have ZHIm := HIm
  have ZHPm := HPm
  have ZHXj := HXj
  have ZHIj := HIj
  have ZHPj := HPj
  have ZHJ := HJ
  have hdr : Below v30.heap.size v30 v30.drew := Below.drewN' (Below.refl _ _) 1
  refine Late.region (S := fun W => Below v30.heap.size v30 W) 13 _ (.cells #[.string ⟨#[]⟩, .string ⟨#[]⟩, .int .i64 0, .slice none 0 0, .slice none 0 0, .int .u64 0, .slice none 0 0, .slice none 0 0, .string ⟨#[]⟩] 39) (by kernel_rfl) (by rw [List.getElem?_toArray]; rfl) (by rfl) (by intro a w; rfl) (by kernel_rfl) (by kernel_rfl) (by intro _ _ d _ _; cases d <;> exact ⟨fun h => h, fun h => h⟩) (fun W W' h1 h2 => Bel.call h1 h2) hdr (fun _ => ?_)
  obtain ⟨d31, hwd⟩ : ∃ z, v30.drew = z := ⟨_, rfl⟩; rw [hwd] at hdr ⊢; replace HB := zh (Bel.call HB.out hdr); replace HIr := zh (HIr.out.below hdr zl); replace HXr := zh (HXr.out.below hdr HXr.out.2.2.2.2.2); replace HIh := zh (HIh.out.below hdr zl); replace HXh := zh (HXh.out.below hdr HXh.out.2.2.2.2.2); replace HXm := zh (HXm.out.call hdr); replace HIm := zh (HIm.out.below hdr zl); replace HPm := zh (HPm.out.below hdr); replace HXj := zh (HXj.out.call hdr); replace HIj := zh (HIj.out.below hdr zl); replace HPj := zh (HPj.out.below hdr); replace HJ := zh (HJ.out.below hdr zl); have HA := zh hdr; clear hwd hdr
  refine Late.take (i := 1) (v := ?_) (by rw [List.getElem?_toArray]; rfl) (by rfl) (by kernel_rfl) (by kernel_rfl) (by kernel_rfl) (Or.inl ⟨by rfl, ?_⟩) ?_
  rotate_left
  · intro w' hSw; obtain ⟨qr0, qr1, qr2, qr3, qr4, _⟩ := ZHXr.out.below hSw ZHXr.out.2.2.2.2.2; go_simp; try with_reducible rfl
  try simp only [Act.put, zq1, zq2, zq3]
  refine Late.take (i := 2) (v := ?_) (by rw [List.getElem?_toArray]; rfl) (by rfl) (by kernel_rfl) (by kernel_rfl) (by kernel_rfl) (Or.inl ⟨by rfl, ?_⟩) ?_
  rotate_left
  · intro w' hSw; go_simp; try with_reducible rfl
  try simp only [Act.put, zq1, zq2, zq3]
  refine Late.take (i := 4) (v := ?_) (by rw [List.getElem?_toArray]; rfl) (by rfl) (by kernel_rfl) (by kernel_rfl) (by kernel_rfl) (Or.inl ⟨by rfl, ?_⟩) ?_
  rotate_left
  · intro w' hSw; go_simp; try with_reducible rfl
  try simp only [Act.put, zq1, zq2, zq3]
  refine Late.take (i := 5) (v := ?_) (by rw [List.getElem?_toArray]; rfl) (by rfl) (by kernel_rfl) (by kernel_rfl) (by kernel_rfl) (Or.inl ⟨by rfl, ?_⟩) ?_
  rotate_left
  · intro w' hSw; obtain ⟨qr0, qr1, qr2, qr3, qr4, _⟩ := ZHXr.out.below hSw ZHXr.out.2.2.2.2.2; go_simp; try with_reducible rfl
  try simp only [Act.put, zq1, zq2, zq3]
  refine Late.take (i := 6) (v := ?_) (by rw [List.getElem?_toArray]; rfl) (by rfl) (by kernel_rfl) (by kernel_rfl) (by kernel_rfl) (Or.inl ⟨by rfl, ?_⟩) ?_
  rotate_left
  · intro w' hSw; go_simp; try with_reducible rfl
  try simp only [Act.put, zq1, zq2, zq3]
  refine Late.call (i := 0) (by rw [List.getElem?_toArray]; rfl) (by rfl) (by kernel_rfl) (by kernel_rfl) (by kernel_rfl) (fun d32 _ hLn Kn hK => ?_)
  replace HB := zh (Bel.call HB.out hLn); replace HIr := zh (HIr.out.below hLn zl); replace HXr := zh (HXr.out.below hLn HXr.out.2.2.2.2.2); replace HIh := zh (HIh.out.below hLn zl); replace HXh := zh (HXh.out.below hLn HXh.out.2.2.2.2.2); replace HXm := zh (HXm.out.call hLn); replace HIm := zh (HIm.out.below hLn zl); replace HPm := zh (HPm.out.below hLn); replace HXj := zh (HXj.out.call hLn); replace HIj := zh (HIj.out.below hLn zl); replace HPj := zh (HPj.out.below hLn); replace HJ := zh (HJ.out.below hLn zl); replace HA := zh (Bel.call HA.out hLn); clear hLn; have HLN := zh (Below.refl d32.heap.size d32); go_simp; (with_reducible refine (HSE.out _).mono ?_); rintro e33 w33 ⟨⟨S, hTS, rfl⟩, hb33⟩; replace HB := zh (Bel.call HB.out hb33); replace HIr := zh (HIr.out.below hb33 zl); replace HXr := zh (HXr.out.below hb33 HXr.out.2.2.2.2.2); replace HIh := zh (HIh.out.below hb33 zl); replace HXh := zh (HXh.out.below hb33 HXh.out.2.2.2.2.2); replace HXm := zh (HXm.out.call hb33); replace HIm := zh (HIm.out.below hb33 zl); replace HPm := zh (HPm.out.below hb33); replace HXj := zh (HXj.out.call hb33); replace HIj := zh (HIj.out.below hb33 zl); replace HPj := zh (HPj.out.below hb33); replace HJ := zh (HJ.out.below hb33 zl); replace HA := zh (Bel.call HA.out hb33); replace HLN := zh (Bel.call HLN.out hb33); clear hb33
  try dsimp only at hTS
  have HTS := zh hTS; clear hTS; dsimp only; refine hK.out _ _ HLN.out ?_; (try simp only [Act.put, zq1, zq2, zq3]); clear HLN hK Kn
  refine Late.call (i := 3) (by rw [List.getElem?_toArray]; rfl) (by rfl) (by kernel_rfl) (by kernel_rfl) (by kernel_rfl) (fun d34 _ hLn Kn hK => ?_)
  replace HB := zh (Bel.call HB.out hLn); replace HIr := zh (HIr.out.below hLn zl); replace HXr := zh (HXr.out.below hLn HXr.out.2.2.2.2.2); replace HIh := zh (HIh.out.below hLn zl); replace HXh := zh (HXh.out.below hLn HXh.out.2.2.2.2.2); replace HXm := zh (HXm.out.call hLn); replace HIm := zh (HIm.out.below hLn zl); replace HPm := zh (HPm.out.below hLn); replace HXj := zh (HXj.out.call hLn); replace HIj := zh (HIj.out.below hLn zl); replace HPj := zh (HPj.out.below hLn); replace HJ := zh (HJ.out.below hLn zl); replace HA := zh (Bel.call HA.out hLn); clear hLn; have HLN := zh (Below.refl d34.heap.size d34); go_simp; (with_reducible refine (HRO.out _).mono ?_); rintro e35 w35 ⟨⟨R, hTR, rfl⟩, hb35⟩; replace HB := zh (Bel.call HB.out hb35); replace HIr := zh (HIr.out.below hb35 zl); replace HXr := zh (HXr.out.below hb35 HXr.out.2.2.2.2.2); replace HIh := zh (HIh.out.below hb35 zl); replace HXh := zh (HXh.out.below hb35 HXh.out.2.2.2.2.2); replace HXm := zh (HXm.out.call hb35); replace HIm := zh (HIm.out.below hb35 zl); replace HPm := zh (HPm.out.below hb35); replace HXj := zh (HXj.out.call hb35); replace HIj := zh (HIj.out.below hb35 zl); replace HPj := zh (HPj.out.below hb35); replace HJ := zh (HJ.out.below hb35 zl); replace HA := zh (Bel.call HA.out hb35); replace HLN := zh (Bel.call HLN.out hb35); clear hb35
  try dsimp only at hTR
  have HTR := zh hTR; clear hTR; dsimp only; refine hK.out _ _ HLN.out ?_; (try simp only [Act.put, zq1, zq2, zq3]); clear HLN hK Kn
  refine Late.call (i := 7) (by rw [List.getElem?_toArray]; rfl) (by rfl) (by kernel_rfl) (by kernel_rfl) (by kernel_rfl) (fun d36 _ hLn Kn hK => ?_)
  replace HB := zh (Bel.call HB.out hLn); replace HIr := zh (HIr.out.below hLn zl); replace HXr := zh (HXr.out.below hLn HXr.out.2.2.2.2.2); replace HIh := zh (HIh.out.below hLn zl); replace HXh := zh (HXh.out.below hLn HXh.out.2.2.2.2.2); replace HXm := zh (HXm.out.call hLn); replace HIm := zh (HIm.out.below hLn zl); replace HPm := zh (HPm.out.below hLn); replace HXj := zh (HXj.out.call hLn); replace HIj := zh (HIj.out.below hLn zl); replace HPj := zh (HPj.out.below hLn); replace HJ := zh (HJ.out.below hLn zl); replace HA := zh (Bel.call HA.out hLn); clear hLn; have HLN := zh (Below.refl d36.heap.size d36); go_simp; (with_reducible refine (HSGr.out _).mono ?_); rintro e37 w37 ⟨⟨As, cs, ls, hls, hcs, hrs, _, rfl⟩, hb37⟩; replace HB := zh (Bel.call HB.out hb37); replace HIr := zh (HIr.out.below hb37 zl); replace HXr := zh (HXr.out.below hb37 HXr.out.2.2.2.2.2); replace HIh := zh (HIh.out.below hb37 zl); replace HXh := zh (HXh.out.below hb37 HXh.out.2.2.2.2.2); replace HXm := zh (HXm.out.call hb37); replace HIm := zh (HIm.out.below hb37 zl); replace HPm := zh (HPm.out.below hb37); replace HXj := zh (HXj.out.call hb37); replace HIj := zh (HIj.out.below hb37 zl); replace HPj := zh (HPj.out.below hb37); replace HJ := zh (HJ.out.below hb37 zl); replace HA := zh (Bel.call HA.out hb37); replace HLN := zh (Bel.call HLN.out hb37); clear hb37; have HLs := zh hls; have HCs := zh hcs; have HSs := zh hrs; clear hls hcs hrs; dsimp only; refine hK.out _ _ HLN.out ?_; (try simp only [Act.put, zq1, zq2, zq3]); clear HLN hK Kn
  refine Late.call (i := 8) (by rw [List.getElem?_toArray]; rfl) (by rfl) (by kernel_rfl) (by kernel_rfl) (by kernel_rfl) (fun d38 _ hLn Kn hK => ?_)
  replace HB := zh (Bel.call HB.out hLn); replace HIr := zh (HIr.out.below hLn zl); replace HXr := zh (HXr.out.below hLn HXr.out.2.2.2.2.2); replace HIh := zh (HIh.out.below hLn zl); replace HXh := zh (HXh.out.below hLn HXh.out.2.2.2.2.2); replace HXm := zh (HXm.out.call hLn); replace HIm := zh (HIm.out.below hLn zl); replace HPm := zh (HPm.out.below hLn); replace HXj := zh (HXj.out.call hLn); replace HIj := zh (HIj.out.below hLn zl); replace HPj := zh (HPj.out.below hLn); replace HJ := zh (HJ.out.below hLn zl); replace HA := zh (Bel.call HA.out hLn); replace HSs := zh (HSs.out.below hLn zl); clear hLn; have HLN := zh (Below.refl d38.heap.size d38); go_simp; (with_reducible refine (HKN.out _).mono ?_); rintro e39 w39 ⟨⟨Al, cl, ll, hll, hcl, hrl, _, rfl⟩, hb39⟩; replace HB := zh (Bel.call HB.out hb39); replace HIr := zh (HIr.out.below hb39 zl); replace HXr := zh (HXr.out.below hb39 HXr.out.2.2.2.2.2); replace HIh := zh (HIh.out.below hb39 zl); replace HXh := zh (HXh.out.below hb39 HXh.out.2.2.2.2.2); replace HXm := zh (HXm.out.call hb39); replace HIm := zh (HIm.out.below hb39 zl); replace HPm := zh (HPm.out.below hb39); replace HXj := zh (HXj.out.call hb39); replace HIj := zh (HIj.out.below hb39 zl); replace HPj := zh (HPj.out.below hb39); replace HJ := zh (HJ.out.below hb39 zl); replace HA := zh (Bel.call HA.out hb39); replace HSs := zh (HSs.out.below hb39 zl); replace HLN := zh (Bel.call HLN.out hb39); clear hb39; have HLl := zh hll; have HCl := zh hcl; have HSl := zh hrl; clear hll hcl hrl; dsimp only; refine hK.out _ _ HLN.out ?_; (try simp only [Act.put, zq1, zq2, zq3]); clear HLN hK Kn
  refine Late.call (i := 9) (by rw [List.getElem?_toArray]; rfl) (by rfl) (by kernel_rfl) (by kernel_rfl) (by kernel_rfl) (fun d40 _ hLn Kn hK => ?_)
  replace HB := zh (Bel.call HB.out hLn); replace HIr := zh (HIr.out.below hLn zl); replace HXr := zh (HXr.out.below hLn HXr.out.2.2.2.2.2); replace HIh := zh (HIh.out.below hLn zl); replace HXh := zh (HXh.out.below hLn HXh.out.2.2.2.2.2); replace HXm := zh (HXm.out.call hLn); replace HIm := zh (HIm.out.below hLn zl); replace HPm := zh (HPm.out.below hLn); replace HXj := zh (HXj.out.call hLn); replace HIj := zh (HIj.out.below hLn zl); replace HPj := zh (HPj.out.below hLn); replace HJ := zh (HJ.out.below hLn zl); replace HA := zh (Bel.call HA.out hLn); replace HSs := zh (HSs.out.below hLn zl); replace HSl := zh (HSl.out.below hLn zl); clear hLn; have HLN := zh (Below.refl d40.heap.size d40); go_simp; (with_reducible refine (build_to MB HANr.out (n := 2) (ver := vb) (by decide) hvb HTS.out HTR.out HLs.out (by rw [HLl.out]; exact knows_oth knows_all HANr.out) (by rw [HLl.out]; exact fit_known) (K := Al) (ck := cl) (ks := ll) (Gs w.heap.size v30.heap.size d40.heap.size) _ _ (gs_lt HB.out.size) (isX_gs HJ.out) HSs.out HCs.out HSl.out HCl.out (vz := (vb : Int)) rfl (ns := ls.length) rfl (nk := ll.length) rfl).mono ?_); rintro e41 w41 ⟨⟨v41, hm41, hs41, rfl⟩, hb41⟩; replace HB := zh (Bel.call HB.out hb41); replace HIr := zh (HIr.out.below hb41 zl); replace HXr := zh (HXr.out.below hb41 HXr.out.2.2.2.2.2); replace HIh := zh (HIh.out.below hb41 zl); replace HXh := zh (HXh.out.below hb41 HXh.out.2.2.2.2.2); replace HXm := zh (HXm.out.call hb41); replace HIm := zh (HIm.out.below hb41 zl); replace HPm := zh (HPm.out.below hb41); replace HXj := zh (HXj.out.call hb41); replace HIj := zh (HIj.out.below hb41 zl); replace HPj := zh (HPj.out.below hb41); replace HJ := zh (HJ.out.below hb41 zl); replace HA := zh (Bel.call HA.out hb41); replace HSs := zh (HSs.out.below hb41 zl); replace HSl := zh (HSl.out.below hb41 zl); replace HLN := zh (Bel.call HLN.out hb41); clear hb41; obtain ⟨oq, fq, gq, pq, Aq, cq, rsq, Bq, dq, wsq, uq, Vq, xq, vsq, Kq, yq, ksq, rfl, hiq, _, _, _, _, _⟩ := isM_lit hm41; have HEq := zh hiq; have HIq := zh hm41; clear hm41 hiq; have HPq := zh hs41; clear hs41; dsimp only; replace HIq := zh (isM_near HIq.out); refine hK.out _ _ HLN.out ?_; (try simp only [Act.put, zq1, zq2, zq3]); clear HLN hK Kn
  refine Late.take (i := 10) (v := ?_) (by rw [List.getElem?_toArray]; rfl) (by rfl) (by kernel_rfl) (by kernel_rfl) (by kernel_rfl) (Or.inl ⟨by rfl, ?_⟩) ?_
  rotate_left
  · intro w' hSw; go_simp; try with_reducible rfl
  try simp only [Act.put, zq1, zq2, zq3]
  refine Late.take (i := 11) (v := ?_) (by rw [List.getElem?_toArray]; rfl) (by rfl) (by kernel_rfl) (by kernel_rfl) (by kernel_rfl) (Or.inl ⟨by rfl, ?_⟩) ?_
  rotate_left
  · intro w' hSw; go_simp; try with_reducible rfl
  try simp only [Act.put, zq1, zq2, zq3]
  refine Late.take (i := 12) (v := ?_) (by rw [List.getElem?_toArray]; rfl) (by rfl) (by kernel_rfl) (by kernel_rfl) (by kernel_rfl) (Or.inl ⟨by rfl, ?_⟩) ?_
  rotate_left
  · intro w' hSw; go_simp; try with_reducible rfl
  try simp only [Act.put, zq1, zq2, zq3]
  refine Late.last (by kernel_rfl) (fun d42 Gq _ hLg hZg hgg hav => ?_)
  replace HB := zh (Bel.call HB.out hLg); replace HIr := zh (HIr.out.below hLg zl); replace HXr := zh (HXr.out.below hLg HXr.out.2.2.2.2.2); replace HIh := zh (HIh.out.below hLg zl); replace HXh := zh (HXh.out.below hLg HXh.out.2.2.2.2.2); replace HXm := zh (HXm.out.call hLg); replace HIm := zh (HIm.out.below hLg zl); replace HPm := zh (HPm.out.below hLg); replace HXj := zh (HXj.out.call hLg); replace HIj := zh (HIj.out.below hLg zl); replace HPj := zh (HPj.out.below hLg); replace HJ := zh (HJ.out.below hLg zl); replace HA := zh (Bel.call HA.out hLg); replace HSs := zh (HSs.out.below hLg zl); replace HSl := zh (HSl.out.below hLg zl); replace HIq := zh (HIq.out.below hLg zl); replace HPq := zh (HPq.out.below hLg); obtain ⟨hXX, hFF⟩ := mx_at (o := ⟨#[]⟩) (f := ⟨#[]⟩) (ep := 0) (A := none) (n := 0) (c := 0) (B := none) (m := 0) (d := 0) (ver := 0) (V := none) (nv := 0) (cv := 0) (K := none) (nk := 0) (ck := 0) (sig := ⟨#[]⟩) hZg
  have HGq : Hid (v30.heap.size ≤ Gq) := hgg
  replace HIq := zh (isM_late HIq.out hgg (hav _ (List.mem_cons_self ..))); obtain ⟨z0, z1, z2, z3, z4, z5, z6, z7, z8⟩ := hFF; obtain ⟨⟨y0, y1, y2, y3, y4, y5, y6, y7, y8⟩, _⟩ := hXX; (try simp only [Act.put, zq1, zq2, zq3]); refine zqR [14] ?_; refine zqC (fun Kn hK => ?_) AllReadyH.nil; go_simp
  have hXX : Mx Gq (((((((((d42.setCell ⟨Gq, 0, none⟩ (.string oq)).setCell ⟨Gq, 1, none⟩ (.string fq)).setCell ⟨Gq, 2, none⟩ (.int .i64 pq)).setCell ⟨Gq, 3, none⟩ (.slice Aq rsq.length cq)).setCell ⟨Gq, 4, none⟩ (.slice Bq wsq.length dq)).setCell ⟨Gq, 5, none⟩ (.int .u64 (uq : Int))).setCell ⟨Gq, 6, none⟩ (.slice Vq vsq.length xq)).setCell ⟨Gq, 7, none⟩ (.slice Kq ksq.length yq)).setCell ⟨Gq, 8, none⟩ (.string gq)) oq fq pq Aq rsq.length cq Bq wsq.length dq uq Vq vsq.length xq Kq ksq.length yq gq := mx_set9 (o' := ⟨#[]⟩) (f' := ⟨#[]⟩) (ep' := 0) (A' := none) (n' := 0) (c' := 0) (B' := none) (m' := 0) (d' := 0) (ver' := 0) (V' := none) (nv' := 0) (cv' := 0) (K' := none) (nk' := 0) (ck' := 0) (sig' := ⟨#[]⟩) ⟨⟨y0, y1, y2, y3, y4, y5, y6, y7, y8⟩, (Array.getElem?_eq_some_iff.1 hZg).1⟩
  have hII : IsM (Off (Gq :: List.range w.heap.size)) (((((((((d42.setCell ⟨Gq, 0, none⟩ (.string oq)).setCell ⟨Gq, 1, none⟩ (.string fq)).setCell ⟨Gq, 2, none⟩ (.int .i64 pq)).setCell ⟨Gq, 3, none⟩ (.slice Aq rsq.length cq)).setCell ⟨Gq, 4, none⟩ (.slice Bq wsq.length dq)).setCell ⟨Gq, 5, none⟩ (.int .u64 (uq : Int))).setCell ⟨Gq, 6, none⟩ (.slice Vq vsq.length xq)).setCell ⟨Gq, 7, none⟩ (.slice Kq ksq.length yq)).setCell ⟨Gq, 8, none⟩ (.string gq)) (.agg #[.string oq, .string fq, .int .i64 pq, .slice Aq rsq.length cq, .slice Bq wsq.length dq, .int .u64 (uq : Int), .slice Vq vsq.length xq, .slice Kq ksq.length yq, .string gq]) (mOf Rr 2 vb) := isM_set9 (List.mem_cons_self ..) HIq.out
  have hSP : SepM (((((((((d42.setCell ⟨Gq, 0, none⟩ (.string oq)).setCell ⟨Gq, 1, none⟩ (.string fq)).setCell ⟨Gq, 2, none⟩ (.int .i64 pq)).setCell ⟨Gq, 3, none⟩ (.slice Aq rsq.length cq)).setCell ⟨Gq, 4, none⟩ (.slice Bq wsq.length dq)).setCell ⟨Gq, 5, none⟩ (.int .u64 (uq : Int))).setCell ⟨Gq, 6, none⟩ (.slice Vq vsq.length xq)).setCell ⟨Gq, 7, none⟩ (.slice Kq ksq.length yq)).setCell ⟨Gq, 8, none⟩ (.string gq)) (.agg #[.string oq, .string fq, .int .i64 pq, .slice Aq rsq.length cq, .slice Bq wsq.length dq, .int .u64 (uq : Int), .slice Vq vsq.length xq, .slice Kq ksq.length yq, .string gq]) := sepM_set9 HPq.out
  have hBB : Below v30.heap.size v30 (((((((((d42.setCell ⟨Gq, 0, none⟩ (.string oq)).setCell ⟨Gq, 1, none⟩ (.string fq)).setCell ⟨Gq, 2, none⟩ (.int .i64 pq)).setCell ⟨Gq, 3, none⟩ (.slice Aq rsq.length cq)).setCell ⟨Gq, 4, none⟩ (.slice Bq wsq.length dq)).setCell ⟨Gq, 5, none⟩ (.int .u64 (uq : Int))).setCell ⟨Gq, 6, none⟩ (.slice Vq vsq.length xq)).setCell ⟨Gq, 7, none⟩ (.slice Kq ksq.length yq)).setCell ⟨Gq, 8, none⟩ (.string gq)) := set9 HA.out HGq.out
  have hZB := zh hBB
  generalize (((((((((d42.setCell ⟨Gq, 0, none⟩ (.string oq)).setCell ⟨Gq, 1, none⟩ (.string fq)).setCell ⟨Gq, 2, none⟩ (.int .i64 pq)).setCell ⟨Gq, 3, none⟩ (.slice Aq rsq.length cq)).setCell ⟨Gq, 4, none⟩ (.slice Bq wsq.length dq)).setCell ⟨Gq, 5, none⟩ (.int .u64 (uq : Int))).setCell ⟨Gq, 6, none⟩ (.slice Vq vsq.length xq)).setCell ⟨Gq, 7, none⟩ (.slice Kq ksq.length yq)).setCell ⟨Gq, 8, none⟩ (.string gq)) = v43 at hXX hII hSP hBB hZB ⊢
  refine hK.out _ _ hBB (fun _ => ?_); (try simp only [Act.put, zq1, zq2, zq3]); clear hK Kn y0 y1 y2 y3 y4 y5 y6 y7 y8 z0 z1 z2 z3 z4 z5 z6 z7 z8 hZg hgg hav hLg; refine zqT 15 ?_ ?_ ?_; rotate_left
  · intro w' hSw; go_simp; try with_reducible rfl
  try simp only [Act.put, zq1, zq2, zq3]
  refine wpAnyH_done (by kernel_rfl) ?_ _
  replace HB := ZHB
  replace HIr := ZHIr
  replace HXr := ZHXr
  replace HIh := ZHIh
  replace HXh := ZHXh
  replace HXm := ZHXm
  replace HIm := ZHIm
  replace HPm := ZHPm
  replace HXj := ZHXj
  replace HIj := ZHIj
  replace HPj := ZHPj
  replace HJ := ZHJ
  replace HB := zh (Bel.call HB.out hZB.out); replace HIr := zh (HIr.out.below hZB.out zl); replace HXr := zh (HXr.out.below hZB.out HXr.out.2.2.2.2.2); replace HIh := zh (HIh.out.below hZB.out zl); replace HXh := zh (HXh.out.below hZB.out HXh.out.2.2.2.2.2); replace HXm := zh (HXm.out.call hZB.out); replace HIm := zh (HIm.out.below hZB.out zl); replace HPm := zh (HPm.out.below hZB.out); replace HXj := zh (HXj.out.call hZB.out); replace HIj := zh (HIj.out.below hZB.out zl); replace HPj := zh (HPj.out.below hZB.out); replace HJ := zh (HJ.out.below hZB.out zl); clear hZB ZHB ZHIr ZHXr ZHIh ZHXh ZHXm ZHIm ZHPm ZHXj ZHIj ZHPj ZHJ; have HXq := zh hXX; have HIq := zh hII; have HPq := zh hSP; clear hXX hII hSP hBB; obtain ⟨r_0, r_1, r_2, r_3, r_4, _⟩ := HXr.out; obtain ⟨h_0, h_1, h_2, h_3, h_4, _⟩ := HXh.out; obtain ⟨⟨m_0, m_1, m_2, m_3, m_4, m_5, m_6, m_7, m_8⟩, _⟩ := HXm.out; obtain ⟨⟨j_0, j_1, j_2, j_3, j_4, j_5, j_6, j_7, j_8⟩, _⟩ := HXj.out; obtain ⟨⟨q_0, q_1, q_2, q_3, q_4, q_5, q_6, q_7, q_8⟩, _⟩ := HXq.out; clear HJ HTS HTR HLs HLl HSs HSl HCs HCl
  obtain rfl : ksm = ksq := by
    have h1 := congrArg Mt.bs HEm.out
    have h2 := congrArg Mt.bs HEq.out
    exact pl_inj' (h1.symm.trans h2)
  have hvm : vsm.length = Rr.ep.toNat + 1 := by
    have := congrArg (fun x => x.vf.length) HEm.out
    simpa [mOf, vfOf, bl] using this.symm
  have hvj : vsj.length = Rh.ep.toNat + 1 := by
    have := congrArg (fun x => x.vf.length) HEj.out
    simpa [mOf, vfOf, bl] using this.symm
  have her := HEr.out
  have heh := HEh.out
  have hb1 : ((vsm.length : Int) != pr + 1) = false := by
    have e := HEPSr.out.1
    simp only [bne_eq_false_iff_eq]; omega
  have hb2 : ((vsj.length : Int) != ph + 1) = false := by
    have e := HEPSh.out.1
    simp only [bne_eq_false_iff_eq]; omega
  have HVM := zh hvm; have HVJ := zh hvj; clear hvm hvj her heh
  have HKS : Hid (ksm.length ≤ 1000) := by
    have := (mOf_many HANr.out (by decide : 2 < 18446744073709551616) hva HEm.out).2.2.2
    exact this
  have HSG2 : Hid (gm = gq ↔ va = vb) := by
    have h1 : gm.data.toList = (mOf Rr 2 va).sig := (congrArg Mt.sig HEm.out).symm
    have h2 : gq.data.toList = (mOf Rr 2 vb).sig := (congrArg Mt.sig HEq.out).symm
    rw [← sig_same HANr.out (n := 2) (by decide) hva hvb, ← h1, ← h2]
    exact ⟨fun h => by rw [h], str_eq⟩
  have HVV : Hid (∀ k, k < vsm.length → k < vsj.length → vsj.getD k ByteArray.empty = vsm.getD k ByteArray.empty) := zh fun k h1 h2 => str_eq ((vf_at (congrArg Mt.vf HEj.out).symm h2).trans (vf_at (congrArg Mt.vf HEm.out).symm h1).symm)
  go_wp2_with fail
  clear hb1 hb2; clear r_0 r_1 r_2 r_3 r_4 h_0 h_1 h_2 h_3 h_4 m_0 m_1 m_2 m_3 m_4 m_5 m_6 m_7 m_8 j_0 j_1 j_2 j_3 j_4 j_5 j_6 j_7 j_8 q_0 q_1 q_2 q_3 q_4 q_5 q_6 q_7 q_8
  go_loopw [18] (fun i wr => ∃ k : Nat, k ≤ vsm.length ∧ k ≤ vsj.length ∧ i = .int .i64 (k : Int) ∧ Hid (Below v43.heap.size v43 wr)) (fun i _ => vsm.length - (intOf i).toNat)
  case atStart => exact ⟨0, Nat.zero_le _, Nat.zero_le _, rfl, zh (Below.refl _ _)⟩
  case round =>
    obtain ⟨k, hk1, hk2, rfl, HL⟩ := hrel; obtain ⟨⟨m_0, m_1, m_2, m_3, m_4, m_5, m_6, m_7, m_8⟩, _⟩ := HXm.out.call HL.out; obtain ⟨⟨j_0, j_1, j_2, j_3, j_4, j_5, j_6, j_7, j_8⟩, _⟩ := HXj.out.call HL.out
    by_cases hlt1 : (k : Int) < (vsm.length : Int)
    · by_cases hlt2 : (k : Int) < (vsj.length : Int)
      · have hPM := (isM_reads (HIm.out.below HL.out zl) HEm.out).2.2.1
        have hPJ := (isM_reads (HIj.out.below HL.out zl) HEj.out).2.2.1
        obtain ⟨b, off, rfl, hbl, hcl⟩ := hPM k (by omega); obtain ⟨b', off', rfl, hbl', hcl'⟩ := hPJ k (by omega); rw [HVV.out k (by omega) (by omega)] at hcl'; obtain ⟨y, hy⟩ : ∃ y, vsm.getD k ByteArray.empty = y := ⟨_, rfl⟩; rw [hy] at hcl hcl'
        have hk0 : (0 : Int) ≤ (k : Int) := by omega
        have hvm8 : vsm.length ≤ 8 := by
          have h1 := HVM.out
          have h2 := HEPSr.out
          omega
        clear hy hbl hbl' hPM hPJ
        go_wp2
        go_quiet (fail)
        go_wp2
        go_roundw
        case rel => exact ⟨k + 1, by omega, by omega, by go_num, zh (Below.drewN' HL.out _)⟩
        case measure => simp [intOf]; omega
      · go_wp2_with fail
        clear m_0 m_1 m_2 m_3 m_4 m_5 m_6 m_7 m_8 j_0 j_1 j_2 j_3 j_4 j_5 j_6 j_7 j_8
        have HLR := HL
        go_loopw [19] (fun i wr2 => ∃ j : Nat, j ≤ ksm.length ∧ i = .int .i64 (j : Int) ∧ Hid (Below wr.heap.size wr wr2)) (fun i _ => ksm.length - (intOf i).toNat)
        case atStart => exact ⟨0, Nat.zero_le _, rfl, zh (Below.refl _ _)⟩
        case round =>
          obtain ⟨j, hj, rfl, HW2⟩ := hrel; have HLL := zh (Bel.call HL.out HW2.out); obtain ⟨⟨m_0, m_1, m_2, m_3, m_4, m_5, m_6, m_7, m_8⟩, _⟩ := HXm.out.call HLL.out; obtain ⟨⟨q_0, q_1, q_2, q_3, q_4, q_5, q_6, q_7, q_8⟩, _⟩ := HXq.out.call HLL.out
          by_cases hlt3 : (j : Int) < (ksm.length : Int)
          · have hPM := (isM_reads (HIm.out.below HLL.out zl) HEm.out).2.2.2
            have hPQ := (isM_reads (HIq.out.below HLL.out zl) HEq.out).2.2.2
            obtain ⟨b, off, rfl, hbl, hcl, hcl2⟩ := hPM j (by omega); obtain ⟨b', off', rfl, hbl', hcl', hcl2'⟩ := hPQ j (by omega); obtain ⟨y, z, hy⟩ : ∃ y z, ksm.getD j default = (y, z) := ⟨_, _, rfl⟩; rw [hy] at hcl hcl' hcl2 hcl2'
            simp only at hcl hcl' hcl2 hcl2'
            have hj0 : (0 : Int) ≤ (j : Int) := by omega
            have hks8 : ksm.length ≤ 1000 := HKS.out
            clear hy hbl hbl' hPM hPQ
            go_wp2
            go_quiet (fail)
            go_wp2
            go_roundw
            case rel => exact ⟨j + 1, by omega, by go_num, zh (Below.drewN' HW2.out _)⟩
            case measure => simp [intOf]; omega
          · have HBF := zh (Bel.call HB.out HLL.out)
            by_cases hab : va = vb
            · subst hab
              have hg : gm = gq := HSG2.out.2 rfl
              subst hg
              go_wp2
              go_ret
              exact ⟨rfl, HBF.out⟩
            · have hg : (gm.toList == gq.toList) = false := by
                rw [Lib.toList_data, Lib.toList_data]
                have : gm.data.toList ≠ gq.data.toList := fun h => hab (HSG2.out.1 (str_eq h))
                simpa using this
              have hv : ((va : Int) == (vb : Int)) = false := by
                simp only [beq_eq_false_iff_ne, ne_eq]; omega
              go_wp2
              go_ret
              exact ⟨rfl, HBF.out⟩
    · go_wp2_with fail
      clear m_0 m_1 m_2 m_3 m_4 m_5 m_6 m_7 m_8 j_0 j_1 j_2 j_3 j_4 j_5 j_6 j_7 j_8
      have HLR := HL
      go_loopw [19] (fun i wr2 => ∃ j : Nat, j ≤ ksm.length ∧ i = .int .i64 (j : Int) ∧ Hid (Below wr.heap.size wr wr2)) (fun i _ => ksm.length - (intOf i).toNat)
      case atStart => exact ⟨0, Nat.zero_le _, rfl, zh (Below.refl _ _)⟩
      case round =>
        obtain ⟨j, hj, rfl, HW2⟩ := hrel; have HLL := zh (Bel.call HL.out HW2.out); obtain ⟨⟨m_0, m_1, m_2, m_3, m_4, m_5, m_6, m_7, m_8⟩, _⟩ := HXm.out.call HLL.out; obtain ⟨⟨q_0, q_1, q_2, q_3, q_4, q_5, q_6, q_7, q_8⟩, _⟩ := HXq.out.call HLL.out
        by_cases hlt3 : (j : Int) < (ksm.length : Int)
        · have hPM := (isM_reads (HIm.out.below HLL.out zl) HEm.out).2.2.2
          have hPQ := (isM_reads (HIq.out.below HLL.out zl) HEq.out).2.2.2
          obtain ⟨b, off, rfl, hbl, hcl, hcl2⟩ := hPM j (by omega); obtain ⟨b', off', rfl, hbl', hcl', hcl2'⟩ := hPQ j (by omega); obtain ⟨y, z, hy⟩ : ∃ y z, ksm.getD j default = (y, z) := ⟨_, _, rfl⟩; rw [hy] at hcl hcl' hcl2 hcl2'
          simp only at hcl hcl' hcl2 hcl2'
          have hj0 : (0 : Int) ≤ (j : Int) := by omega
          have hks8 : ksm.length ≤ 1000 := HKS.out
          clear hy hbl hbl' hPM hPQ
          go_wp2
          go_quiet (fail)
          go_wp2
          go_roundw
          case rel => exact ⟨j + 1, by omega, by go_num, zh (Below.drewN' HW2.out _)⟩
          case measure => simp [intOf]; omega
        · have HBF := zh (Bel.call HB.out HLL.out)
          by_cases hab : va = vb
          · subst hab
            have hg : gm = gq := HSG2.out.2 rfl
            subst hg
            go_wp2
            go_ret
            exact ⟨rfl, HBF.out⟩
          · have hg : (gm.toList == gq.toList) = false := by
              rw [Lib.toList_data, Lib.toList_data]
              have : gm.data.toList ≠ gq.data.toList := fun h => hab (HSG2.out.1 (str_eq h))
              simpa using this
            have hv : ((va : Int) == (vb : Int)) = false := by
              simp only [beq_eq_false_iff_ne, ne_eq]; omega
            go_wp2
            go_ret
            exact ⟨rfl, HBF.out⟩
end Go.Proofs.YtlkgjceddbclpaaGreat.Mta

