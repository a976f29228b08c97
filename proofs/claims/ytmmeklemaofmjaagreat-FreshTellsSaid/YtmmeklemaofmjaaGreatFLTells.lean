/-
  THE LAW FreshTells, walked. By an AI agent; no person has read it.
-/
import Derived.Test.YtmmeklemaofmjaaGreatFShown
import Derived.Test.YtmmeklemaofmjaaGreatFRTake
import Derived.Test.YtmmeklemaofmjaaGreatFRBuild
import Derived.Test.YtmmeklemaofmjaaGreatFRCheck
namespace Go.Proofs.YtmmeklemaofmjaaGreat.Frs
open Go Go.RowKit Wire Term Draw Reg Clo

set_option linter.unusedSimpArgs false
set_option linter.unusedVariables false
set_option maxHeartbeats 8000000 in
set_option maxRecDepth 1000000 in
set_option maxHeartbeats 2000000 in
set_option maxRecDepth 1000000 in
theorem as_any (O : ByteArray) (t : Nat) (m : Int) (R G : ByteArray) (w : World) : Calls Tryz.prog 6 #[.agg #[.string O, .int .u64 (t : Int), .int .i64 m, .string R, .string G]] w fun e w' => e = .returned (.agg #[.string O, .int .u64 (t : Int), .int .i64 m, .string R, .string G]) ∧ Below w.heap.size w w' := by
  go_enter Tryz.func6, Tryz.ntmps6
  go_wp2
  refine bodyPost_ret (v := .agg #[.string O, .int .u64 (t : Int), .int .i64 m, .string R, .string G]) (by simp [results, Tryz.results6, go_sem]) rfl ?_
  exact ⟨rfl, ((Below.refl _ _).alloc (Nat.le_refl _) _).alloc (by simp) _⟩
theorem wrap_small {z : Int} (h0 : 0 ≤ z) (h : z ≤ 9223372036854775807) : IntKind.i64.wrap z = z := by rw [IntKind.wrap_i64]; omega
set_option maxHeartbeats 8000000 in
set_option maxRecDepth 1000000 in
theorem tells_walk (O : ByteArray) (t : Nat) (m : Int) (R G B K Q : ByteArray) (A : Option Addr) (c : Nat) (ys : List ByteArray) (now bound : Nat) (at_ : Int) (A2 : Option Addr) (c2 : Nat) (ps : List ByteArray) (w : World) (ht : t < 18446744073709551616) (hnow : now < 18446744073709551616) (hbd : bound < 18446744073709551616)
    (z1 : O.size ≤ 140737488351232) (z2 : R.size ≤ 140737488351232) (z3 : G.size ≤ 140737488351232) (z4 : B.size ≤ 140737488351232) (z5 : K.size ≤ 140737488351232) (z6 : Q.size ≤ 140737488351232) (hr : SReads w A ys) (hc : ys.length ≤ c ∧ c ≤ 9223372036854775807) (hl : ys.length ≤ 140737488351232) (hz : ∀ y ∈ ys, y.size ≤ 140737488351232) (hr2 : SReads w A2 ps) (hc2 : ps.length ≤ c2 ∧ c2 ≤ 9223372036854775807) (hl2 : ps.length ≤ 140737488351232) (hz2 : ∀ y ∈ ps, y.size ≤ 140737488351232) :
    Calls Tryz.prog 3 #[.agg #[.string O, .int .u64 (t : Int), .int .i64 m, .string R, .string G], .string B, .string K, .string Q, .slice A ys.length c, .int .u64 (now : Int), .int .u64 (bound : Int), .int .i64 at_, .slice A2 ps.length c2] w fun e w' => e = .returned (.bool true) ∧ Below w.heap.size w w' := by
  have HSH := Lib.hid fun w => shown_any w
  have HL1 := Lib.hid fun w h => Tre.light_any A c ys w h (by omega) (fun y hy => by have := hz y hy; omega)
  have HL2 := Lib.hid fun w h => Tre.light_any A2 c2 ps w h (by omega) (fun y hy => by have := hz2 y hy; omega)
  have HR := Lib.hid hr
  have HR2 := Lib.hid hr2
  have hw1 := wrap_small (z := (R.size : Int) + (G.size : Int)) (by omega) (by omega)
  have hw2 := wrap_small (z := (R.size : Int) + (G.size : Int) + (O.size : Int)) (by omega) (by omega)
  have hw3 := wrap_small (z := (R.size : Int) + (G.size : Int) + (O.size : Int) + (B.size : Int)) (by omega) (by omega)
  have hw4 := wrap_small (z := (K.size : Int) + (Q.size : Int)) (by omega) (by omega)
  clear hr hr2
  by_cases t1 : 9000 < (R.size : Int) + (G.size : Int) + (O.size : Int) + (B.size : Int)
  · go_enter Tryz.func3, Tryz.ntmps3
    go_wp2_with fail
    have hbS : Below w.heap.size w (w.alloc (.cells #[.string O, .int .u64 (t : Int), .int .i64 m, .string R, .string G] 24)) := (Below.refl w.heap.size w).alloc (Nat.le_refl _) _
    have hxS := c5_new w (.string O) (.int .u64 (t : Int)) (.int .i64 m) (.string R) (.string G) 24
    generalize w.alloc (.cells #[.string O, .int .u64 (t : Int), .int .i64 m, .string R, .string G] 24) = wSS at hbS hxS ⊢
    have HB1 := Lib.hid hbS
    replace HR := Lib.hid (HR.out.below hbS (Nat.le_refl _))
    replace HR2 := Lib.hid (HR2.out.below hbS (Nat.le_refl _))
    have HXS := Lib.hid hxS
    clear hbS hxS
    with_reducible refine (HSH.out _).mono ?_
    rintro e w2 ⟨rfl, hb2⟩
    have HB2 := Lib.hid (Bel.call HB1.out hb2)
    replace HR := Lib.hid (HR.out.below hb2 (Nat.le_refl _))
    replace HR2 := Lib.hid (HR2.out.below hb2 (Nat.le_refl _))
    replace HXS := Lib.hid (HXS.out.below hb2)
    clear hb2
    try dsimp only
    go_wp2_with fail
    with_reducible refine (HL1.out _ HR.out).mono ?_
    rintro e v1 ⟨⟨b1, hb1, rfl⟩, hv⟩
    obtain rfl : w2 = v1 := hv
    dsimp only
    go_wp2_with fail
    with_reducible refine (HL2.out _ HR2.out).mono ?_
    rintro e v2 ⟨⟨b2, hb2, rfl⟩, hv⟩
    obtain rfl : w2 = v2 := hv
    dsimp only
    obtain ⟨⟨nS, dS0, dS1, dS2, dS3, dS4⟩, kS0, kS1, kS2, kS3, kS4⟩ := HXS.out
    clear hb1 hb2
    cases b1 <;> cases b2 <;> (go_wp2; go_ret; exact ⟨rfl, HB2.out⟩)
  have t1' : (R.size : Int) + (G.size : Int) + (O.size : Int) + (B.size : Int) ≤ 9000 := by omega
  clear t1
  by_cases t2 : 9000 < (K.size : Int) + (Q.size : Int)
  · go_enter Tryz.func3, Tryz.ntmps3
    go_wp2_with fail
    have hbS : Below w.heap.size w (w.alloc (.cells #[.string O, .int .u64 (t : Int), .int .i64 m, .string R, .string G] 24)) := (Below.refl w.heap.size w).alloc (Nat.le_refl _) _
    have hxS := c5_new w (.string O) (.int .u64 (t : Int)) (.int .i64 m) (.string R) (.string G) 24
    generalize w.alloc (.cells #[.string O, .int .u64 (t : Int), .int .i64 m, .string R, .string G] 24) = wSS at hbS hxS ⊢
    have HB1 := Lib.hid hbS
    replace HR := Lib.hid (HR.out.below hbS (Nat.le_refl _))
    replace HR2 := Lib.hid (HR2.out.below hbS (Nat.le_refl _))
    have HXS := Lib.hid hxS
    clear hbS hxS
    with_reducible refine (HSH.out _).mono ?_
    rintro e w2 ⟨rfl, hb2⟩
    have HB2 := Lib.hid (Bel.call HB1.out hb2)
    replace HR := Lib.hid (HR.out.below hb2 (Nat.le_refl _))
    replace HR2 := Lib.hid (HR2.out.below hb2 (Nat.le_refl _))
    replace HXS := Lib.hid (HXS.out.below hb2)
    clear hb2
    try dsimp only
    go_wp2_with fail
    with_reducible refine (HL1.out _ HR.out).mono ?_
    rintro e v1 ⟨⟨b1, hb1, rfl⟩, hv⟩
    obtain rfl : w2 = v1 := hv
    dsimp only
    go_wp2_with fail
    with_reducible refine (HL2.out _ HR2.out).mono ?_
    rintro e v2 ⟨⟨b2, hb2, rfl⟩, hv⟩
    obtain rfl : w2 = v2 := hv
    dsimp only
    obtain ⟨⟨nS, dS0, dS1, dS2, dS3, dS4⟩, kS0, kS1, kS2, kS3, kS4⟩ := HXS.out
    clear hb1 hb2
    cases b1 <;> cases b2 <;> (go_wp2; go_ret; exact ⟨rfl, HB2.out⟩)
  have t2' : (K.size : Int) + (Q.size : Int) ≤ 9000 := by omega
  clear t2
  have HAS := Lib.hid fun O t m R G w => as_any O t m R G w
  have HPC := Lib.hid fun w => fput_any O t m R G w (by omega) (by omega) (by omega) ht
  have HPR := Lib.hid fun w => rfput_any O t m R G w (by omega) (by omega) (by omega) ht
  obtain ⟨pl, pf, hput⟩ : ∃ pl pf, putS ⟨O.data.toList, t, m, R.data.toList, G.data.toList⟩ = (pl, pf) := ⟨_, _, rfl⟩
  rw [hput] at HPC HPR
  have HTC := Lib.hid fun w => ftake_any B w (by omega)
  have HTR := Lib.hid fun w => rftake_any B w (by omega)
  obtain ⟨⟨to, tt, tm, tr, tg⟩, tf, htk⟩ : ∃ s f, takeS B.data.toList = (s, f) := ⟨_, _, rfl⟩
  rw [htk] at HTC HTR
  have HBC : Hid ((∀ y ∈ ys, y.size ≤ 6000) → ∀ w, SReads w A ys → Calls Tryz.prog 7 #[.string K, .string Q, .int .u64 (now : Int), .slice A ys.length c] w fun e w' => Ss (buildS K.data.toList Q.data.toList now (bl ys)) e ∧ Below w.heap.size w w') := Lib.hid fun hz w h => cbuild_any K Q now A c ys w (by omega) (by omega) hnow h hc.1 hc.2 (fun y hy => by have := hz y hy; omega)
  have HBR : Hid ((∀ y ∈ ys, y.size ≤ 6000) → ∀ w, SReads w A ys → Calls Tryz.prog 8 #[.string K, .string Q, .int .u64 (now : Int), .slice A ys.length c] w fun e w' => Ss (buildS K.data.toList Q.data.toList now (bl ys)) e ∧ Below w.heap.size w w') := Lib.hid fun hz w h => rfbuild_any K Q now A c ys w (by omega) (by omega) hnow h hc.1 hc.2 (fun y hy => by have := hz y hy; omega)
  obtain ⟨⟨bo, bt, bm, br, bg⟩, bf, hbl⟩ : ∃ s f, buildS K.data.toList Q.data.toList now (bl ys) = (s, f) := ⟨_, _, rfl⟩
  rw [hbl] at HBC HBR
  have HRC := Lib.hid fun w => fright_any O t m R G w (by omega) (by omega) (by omega)
  have HRR := Lib.hid fun w => rfright_any O t m R G w (by omega) (by omega) (by omega)
  obtain ⟨rb, hrb⟩ : ∃ rb, decide (SR ⟨O.data.toList, t, m, R.data.toList, G.data.toList⟩) = rb := ⟨_, rfl⟩
  rw [hrb] at HRC HRR
  have HCC := Lib.hid fun w => fcheck_any O t m R G K Q now bound w (by omega) (by omega) (by omega) (by omega) ht hnow hbd
  have HCR := Lib.hid fun w => rfcheck_any O t m R G K Q now bound w (by omega) (by omega) (by omega) (by omega) ht hnow hbd
  obtain ⟨cv, hcv⟩ : ∃ cv, checkS ⟨O.data.toList, t, m, R.data.toList, G.data.toList⟩ K.data.toList Q.data.toList now bound = cv := ⟨_, rfl⟩
  rw [hcv] at HCC HCR
  have HVC : Hid (∀ (L : ByteArray), L.size ≤ 100000 → (∀ y ∈ ps, y.size ≤ 6000) → ∀ w, SReads w A2 ps → Calls Tryz.prog 17 #[.agg #[.string O, .int .u64 (t : Int), .int .i64 m, .string R, .string G], .int .i64 at_, .string L, .slice A2 ps.length c2] w fun e w' => e = .returned (.bool (coversS ⟨O.data.toList, t, m, R.data.toList, G.data.toList⟩ at_ L.data.toList (bl ps))) ∧ Below w.heap.size w w') := Lib.hid fun L hL hz w h => fcovers_any O t m R G at_ L A2 c2 ps w h (by omega) (by omega) (by omega) (by omega) hc2.1 hc2.2 (fun y hy => by have := hz y hy; omega)
  have HVR : Hid (∀ (L : ByteArray), L.size ≤ 100000 → (∀ y ∈ ps, y.size ≤ 6000) → ∀ w, SReads w A2 ps → Calls Tryz.prog 18 #[.agg #[.string O, .int .u64 (t : Int), .int .i64 m, .string R, .string G], .int .i64 at_, .string L, .slice A2 ps.length c2] w fun e w' => e = .returned (.bool (coversS ⟨O.data.toList, t, m, R.data.toList, G.data.toList⟩ at_ L.data.toList (bl ps))) ∧ Below w.heap.size w w') := Lib.hid fun L hL hz w h => rfcovers_any O t m R G at_ L A2 c2 ps w h (by omega) (by omega) (by omega) (by omega) hc2.1 hc2.2 (fun y hy => by have := hz y hy; omega)
  have HKZ : Hid (K.size ≤ 100000) := Lib.hid (by omega)
  clear hput htk hbl hrb hcv ht hnow hbd z1 z2 z3 z4 z5 z6 hc hl hz hc2 hl2 hz2
  go_enter Tryz.func3, Tryz.ntmps3
  go_wp2_with fail
  have hbS : Below w.heap.size w (w.alloc (.cells #[.string O, .int .u64 (t : Int), .int .i64 m, .string R, .string G] 24)) := (Below.refl w.heap.size w).alloc (Nat.le_refl _) _
  have hxS := c5_new w (.string O) (.int .u64 (t : Int)) (.int .i64 m) (.string R) (.string G) 24
  generalize w.alloc (.cells #[.string O, .int .u64 (t : Int), .int .i64 m, .string R, .string G] 24) = wSS at hbS hxS ⊢
  have HB1 := Lib.hid hbS
  replace HR := Lib.hid (HR.out.below hbS (Nat.le_refl _))
  replace HR2 := Lib.hid (HR2.out.below hbS (Nat.le_refl _))
  have HXS := Lib.hid hxS
  clear hbS hxS
  with_reducible refine (HSH.out _).mono ?_
  rintro e w2 ⟨rfl, hb2⟩
  have HB2 := Lib.hid (Bel.call HB1.out hb2)
  replace HR := Lib.hid (HR.out.below hb2 (Nat.le_refl _))
  replace HR2 := Lib.hid (HR2.out.below hb2 (Nat.le_refl _))
  replace HXS := Lib.hid (HXS.out.below hb2)
  clear hb2
  try dsimp only
  go_wp2_with fail
  with_reducible refine (HL1.out _ HR.out).mono ?_
  rintro e v1 ⟨⟨b1, hb1, rfl⟩, hv⟩
  obtain rfl : w2 = v1 := hv
  dsimp only
  go_wp2_with fail
  with_reducible refine (HL2.out _ HR2.out).mono ?_
  rintro e v2 ⟨⟨b2, hb2, rfl⟩, hv⟩
  obtain rfl : w2 = v2 := hv
  dsimp only
  cases b1
  · clear hb1 hb2
    obtain ⟨⟨nS, dS0, dS1, dS2, dS3, dS4⟩, _⟩ := HXS.out
    cases b2 <;> (go_wp2; go_ret; exact ⟨rfl, HB2.out⟩)
  cases b2
  · clear hb1 hb2
    obtain ⟨⟨nS, dS0, dS1, dS2, dS3, dS4⟩, _⟩ := HXS.out
    go_wp2
    go_ret
    exact ⟨rfl, HB2.out⟩
  obtain ⟨_, hy6⟩ := hb1 rfl
  obtain ⟨_, hp6⟩ := hb2 rfl
  have HY6 := Lib.hid hy6
  have HP6 := Lib.hid hp6
  clear hb1 hb2 hy6 hp6
  obtain ⟨⟨nS, dS0, dS1, dS2, dS3, dS4⟩, kS0, kS1, kS2, kS3, kS4⟩ := HXS.out
  go_wp2_with fail
  with_reducible refine (HAS.out O t m R G _).mono ?_
  rintro e w3 ⟨rfl, hb3⟩
  clear nS dS0 dS1 dS2 dS3 dS4 kS0 kS1 kS2 kS3 kS4
  have HB3 := Lib.hid (Bel.call HB2.out hb3)
  replace HR := Lib.hid (HR.out.below hb3 (Nat.le_refl _))
  replace HR2 := Lib.hid (HR2.out.below hb3 (Nat.le_refl _))
  replace HXS := Lib.hid (HXS.out.below hb3)
  clear hb3
  try dsimp only
  go_wp2_with fail
  have hbS : Below w3.heap.size w3 (w3.alloc (.cells #[.string O, .int .u64 (t : Int), .int .i64 m, .string R, .string G] 28)) := (Below.refl w3.heap.size w3).alloc (Nat.le_refl _) _
  have hxS := c5_new w3 (.string O) (.int .u64 (t : Int)) (.int .i64 m) (.string R) (.string G) 28
  generalize w3.alloc (.cells #[.string O, .int .u64 (t : Int), .int .i64 m, .string R, .string G] 28) = wSX at hbS hxS ⊢
  have HB4 := Lib.hid (Bel.call HB3.out hbS)
  replace HR := Lib.hid (HR.out.below hbS (Nat.le_refl _))
  replace HR2 := Lib.hid (HR2.out.below hbS (Nat.le_refl _))
  replace HXS := Lib.hid (HXS.out.below hbS)
  have HXX := Lib.hid hxS
  clear hbS hxS
  with_reducible refine (HBC.out HY6.out _ HR.out).mono ?_
  rintro e w5 ⟨hx, hb5⟩
  have HB5 := Lib.hid (Bel.call HB4.out hb5)
  replace HR := Lib.hid (HR.out.below hb5 (Nat.le_refl _))
  replace HR2 := Lib.hid (HR2.out.below hb5 (Nat.le_refl _))
  replace HXS := Lib.hid (HXS.out.below hb5)
  replace HXX := Lib.hid (HXX.out.below hb5)
  clear hb5
  obtain ⟨eO, eR, eG, h1, h2, h3, rfl⟩ := ss_open hx
  have HeO := Lib.hid h1
  have HeR := Lib.hid h2
  have HeG := Lib.hid h3
  clear hx h1 h2 h3
  dsimp only
  try dsimp only
  go_wp2_with fail
  have hbS : Below w5.heap.size w5 (w5.alloc (.cells #[.string eO, .int .u64 (bt : Int), .int .i64 bm, .string eR, .string eG] 24)) := (Below.refl w5.heap.size w5).alloc (Nat.le_refl _) _
  have hxS := c5_new w5 (.string eO) (.int .u64 (bt : Int)) (.int .i64 bm) (.string eR) (.string eG) 24
  generalize w5.alloc (.cells #[.string eO, .int .u64 (bt : Int), .int .i64 bm, .string eR, .string eG] 24) = wSA at hbS hxS ⊢
  have HB6 := Lib.hid (Bel.call HB5.out hbS)
  replace HR := Lib.hid (HR.out.below hbS (Nat.le_refl _))
  replace HR2 := Lib.hid (HR2.out.below hbS (Nat.le_refl _))
  replace HXS := Lib.hid (HXS.out.below hbS)
  replace HXX := Lib.hid (HXX.out.below hbS)
  have HXA := Lib.hid hxS
  clear hbS hxS
  with_reducible refine (HBR.out HY6.out _ HR.out).mono ?_
  rintro e w7 ⟨hx, hb7⟩
  have HB7 := Lib.hid (Bel.call HB6.out hb7)
  replace HR := Lib.hid (HR.out.below hb7 (Nat.le_refl _))
  replace HR2 := Lib.hid (HR2.out.below hb7 (Nat.le_refl _))
  replace HXS := Lib.hid (HXS.out.below hb7)
  replace HXX := Lib.hid (HXX.out.below hb7)
  replace HXA := Lib.hid (HXA.out.below hb7)
  clear hb7
  obtain ⟨Y1, Y2, Y3, h1, h2, h3, rfl⟩ := ss_open hx
  obtain rfl : eO = Y1 := str_eq (HeO.out.trans h1.symm)
  obtain rfl : eR = Y2 := str_eq (HeR.out.trans h2.symm)
  obtain rfl : eG = Y3 := str_eq (HeG.out.trans h3.symm)
  clear hx h1 h2 h3
  dsimp only
  try dsimp only
  have NEC : w.heap.size ≠ w7.heap.size := Nat.ne_of_lt HXS.out.1.1
  obtain ⟨⟨nS, dS0, dS1, dS2, dS3, dS4⟩, kS0, kS1, kS2, kS3, kS4⟩ := HXS.out
  go_wp2_with fail
  have hbS : Below w7.heap.size w7 (w7.alloc (.cells #[.string eO, .int .u64 (bt : Int), .int .i64 bm, .string eR, .string eG] 28)) := (Below.refl w7.heap.size w7).alloc (Nat.le_refl _) _
  have hxS := c5_new w7 (.string eO) (.int .u64 (bt : Int)) (.int .i64 bm) (.string eR) (.string eG) 28
  generalize w7.alloc (.cells #[.string eO, .int .u64 (bt : Int), .int .i64 bm, .string eR, .string eG] 28) = wSC at hbS hxS ⊢
  have HB8 := Lib.hid (Bel.call HB7.out hbS)
  replace HR := Lib.hid (HR.out.below hbS (Nat.le_refl _))
  replace HR2 := Lib.hid (HR2.out.below hbS (Nat.le_refl _))
  replace HXS := Lib.hid (HXS.out.below hbS)
  replace HXX := Lib.hid (HXX.out.below hbS)
  replace HXA := Lib.hid (HXA.out.below hbS)
  have HXC := Lib.hid hxS
  clear hbS hxS
  clear nS dS0 dS1 dS2 dS3 dS4 kS0 kS1 kS2 kS3 kS4
  clear NEC
  with_reducible refine (HPC.out _).mono ?_
  rintro e w9 ⟨⟨P, hP, rfl⟩, hb9⟩
  have HB9 := Lib.hid (Bel.call HB8.out hb9)
  replace HR := Lib.hid (HR.out.below hb9 (Nat.le_refl _))
  replace HR2 := Lib.hid (HR2.out.below hb9 (Nat.le_refl _))
  replace HXS := Lib.hid (HXS.out.below hb9)
  replace HXX := Lib.hid (HXX.out.below hb9)
  replace HXA := Lib.hid (HXA.out.below hb9)
  replace HXC := Lib.hid (HXC.out.below hb9)
  clear hb9
  try dsimp only at hP
  have HP := Lib.hid hP
  clear hP
  try dsimp only
  obtain ⟨⟨nX, dX0, dX1, dX2, dX3, dX4⟩, kX0, kX1, kX2, kX3, kX4⟩ := HXX.out
  go_wp2_with fail
  with_reducible refine (HPR.out _).mono ?_
  rintro e w10 ⟨⟨P2, hP2, rfl⟩, hb10⟩
  clear nX dX0 dX1 dX2 dX3 dX4 kX0 kX1 kX2 kX3 kX4
  have HB10 := Lib.hid (Bel.call HB9.out hb10)
  replace HR := Lib.hid (HR.out.below hb10 (Nat.le_refl _))
  replace HR2 := Lib.hid (HR2.out.below hb10 (Nat.le_refl _))
  replace HXS := Lib.hid (HXS.out.below hb10)
  replace HXX := Lib.hid (HXX.out.below hb10)
  replace HXA := Lib.hid (HXA.out.below hb10)
  replace HXC := Lib.hid (HXC.out.below hb10)
  clear hb10
  obtain rfl : P = P2 := str_eq (HP.out.trans hP2.symm)
  clear hP2
  try dsimp only
  go_wp2_with fail
  with_reducible refine (HTC.out _).mono ?_
  rintro e w11 ⟨hx, hb11⟩
  have HB11 := Lib.hid (Bel.call HB10.out hb11)
  replace HR := Lib.hid (HR.out.below hb11 (Nat.le_refl _))
  replace HR2 := Lib.hid (HR2.out.below hb11 (Nat.le_refl _))
  replace HXS := Lib.hid (HXS.out.below hb11)
  replace HXX := Lib.hid (HXX.out.below hb11)
  replace HXA := Lib.hid (HXA.out.below hb11)
  replace HXC := Lib.hid (HXC.out.below hb11)
  clear hb11
  obtain ⟨dO, dR, dG, h1, h2, h3, rfl⟩ := ss_open hx
  have HdO := Lib.hid h1
  have HdR := Lib.hid h2
  have HdG := Lib.hid h3
  clear hx h1 h2 h3
  dsimp only
  try dsimp only
  go_wp2_with fail
  have hbS : Below w11.heap.size w11 (w11.alloc (.cells #[.string dO, .int .u64 (tt : Int), .int .i64 tm, .string dR, .string dG] 24)) := (Below.refl w11.heap.size w11).alloc (Nat.le_refl _) _
  have hxS := c5_new w11 (.string dO) (.int .u64 (tt : Int)) (.int .i64 tm) (.string dR) (.string dG) 24
  generalize w11.alloc (.cells #[.string dO, .int .u64 (tt : Int), .int .i64 tm, .string dR, .string dG] 24) = wSU at hbS hxS ⊢
  have HB12 := Lib.hid (Bel.call HB11.out hbS)
  replace HR := Lib.hid (HR.out.below hbS (Nat.le_refl _))
  replace HR2 := Lib.hid (HR2.out.below hbS (Nat.le_refl _))
  replace HXS := Lib.hid (HXS.out.below hbS)
  replace HXX := Lib.hid (HXX.out.below hbS)
  replace HXA := Lib.hid (HXA.out.below hbS)
  replace HXC := Lib.hid (HXC.out.below hbS)
  have HXU := Lib.hid hxS
  clear hbS hxS
  with_reducible refine (HTR.out _).mono ?_
  rintro e w13 ⟨hx, hb13⟩
  have HB13 := Lib.hid (Bel.call HB12.out hb13)
  replace HR := Lib.hid (HR.out.below hb13 (Nat.le_refl _))
  replace HR2 := Lib.hid (HR2.out.below hb13 (Nat.le_refl _))
  replace HXS := Lib.hid (HXS.out.below hb13)
  replace HXX := Lib.hid (HXX.out.below hb13)
  replace HXA := Lib.hid (HXA.out.below hb13)
  replace HXC := Lib.hid (HXC.out.below hb13)
  replace HXU := Lib.hid (HXU.out.below hb13)
  clear hb13
  obtain ⟨Y1, Y2, Y3, h1, h2, h3, rfl⟩ := ss_open hx
  obtain rfl : dO = Y1 := str_eq (HdO.out.trans h1.symm)
  obtain rfl : dR = Y2 := str_eq (HdR.out.trans h2.symm)
  obtain rfl : dG = Y3 := str_eq (HdG.out.trans h3.symm)
  clear hx h1 h2 h3
  dsimp only
  try dsimp only
  have HLF : Hid (∃ L : ByteArray, L.size ≤ 100000 ∧ ((ys = [] ∧ L = K) ∨ (ys ≠ [] ∧ L = ys.getD 0 ByteArray.empty))) := Lib.hid (by
    by_cases h0 : ys = []
    · exact ⟨K, HKZ.out, .inl ⟨h0, rfl⟩⟩
    · refine ⟨_, ?_, .inr ⟨h0, rfl⟩⟩
      cases ys with
      | nil => exact absurd rfl h0
      | cons a l => have := HY6.out a (by simp); show a.size ≤ _; omega)
  obtain ⟨L, hLZ, hL⟩ := HLF.out
  have HLZ := Lib.hid hLZ
  clear hLZ HLF
  rcases hL with ⟨h0, hLK⟩ | ⟨h0, hLK⟩
  · have hl0 : ¬ (0 : Int) < (ys.length : Int) := by rw [h0]; decide
    subst hLK
    clear h0
    go_wp2_with fail
    have hbS : Below w13.heap.size w13 (w13.alloc (.cells #[.string dO, .int .u64 (tt : Int), .int .i64 tm, .string dR, .string dG] 28)) := (Below.refl w13.heap.size w13).alloc (Nat.le_refl _) _
    have hxS := c5_new w13 (.string dO) (.int .u64 (tt : Int)) (.int .i64 tm) (.string dR) (.string dG) 28
    generalize w13.alloc (.cells #[.string dO, .int .u64 (tt : Int), .int .i64 tm, .string dR, .string dG] 28) = wSV at hbS hxS ⊢
    have HB14 := Lib.hid (Bel.call HB13.out hbS)
    replace HR := Lib.hid (HR.out.below hbS (Nat.le_refl _))
    replace HR2 := Lib.hid (HR2.out.below hbS (Nat.le_refl _))
    replace HXS := Lib.hid (HXS.out.below hbS)
    replace HXX := Lib.hid (HXX.out.below hbS)
    replace HXA := Lib.hid (HXA.out.below hbS)
    replace HXC := Lib.hid (HXC.out.below hbS)
    replace HXU := Lib.hid (HXU.out.below hbS)
    have HXV := Lib.hid hxS
    clear hbS hxS
    have HVC' := Lib.hid (HVC.out L HLZ.out HP6.out)
    have HVR' := Lib.hid (HVR.out L HLZ.out HP6.out)
    generalize coversS ⟨O.data.toList, t, m, R.data.toList, G.data.toList⟩ at_ L.data.toList (bl ps) = vb at HVC' HVR'
    have hdr : SReads wSV.drew A ys ∧ SReads wSV.drew A2 ps ∧ C5 w.heap.size wSV.drew (.string O) (.int .u64 (t : Int)) (.int .i64 m) (.string R) (.string G) ∧ C5 w3.heap.size wSV.drew (.string O) (.int .u64 (t : Int)) (.int .i64 m) (.string R) (.string G) ∧ C5 w5.heap.size wSV.drew (.string eO) (.int .u64 (bt : Int)) (.int .i64 bm) (.string eR) (.string eG) ∧ C5 w7.heap.size wSV.drew (.string eO) (.int .u64 (bt : Int)) (.int .i64 bm) (.string eR) (.string eG) ∧ C5 w11.heap.size wSV.drew (.string dO) (.int .u64 (tt : Int)) (.int .i64 tm) (.string dR) (.string dG) ∧ C5 w13.heap.size wSV.drew (.string dO) (.int .u64 (tt : Int)) (.int .i64 tm) (.string dR) (.string dG) ∧ Below wSV.heap.size wSV wSV.drew := ⟨HR.out.below (Below.drewN' (Below.refl wSV.heap.size wSV) 1) (Nat.le_refl _), HR2.out.below (Below.drewN' (Below.refl wSV.heap.size wSV) 1) (Nat.le_refl _), HXS.out.below (Below.drewN' (Below.refl wSV.heap.size wSV) 1), HXX.out.below (Below.drewN' (Below.refl wSV.heap.size wSV) 1), HXA.out.below (Below.drewN' (Below.refl wSV.heap.size wSV) 1), HXC.out.below (Below.drewN' (Below.refl wSV.heap.size wSV) 1), HXU.out.below (Below.drewN' (Below.refl wSV.heap.size wSV) 1), HXV.out.below (Below.drewN' (Below.refl wSV.heap.size wSV) 1), (Below.drewN' (Below.refl wSV.heap.size wSV) 1)⟩
    refine Ord.region_lit (S := fun w' => SReads w' A ys ∧ SReads w' A2 ps ∧ C5 w.heap.size w' (.string O) (.int .u64 (t : Int)) (.int .i64 m) (.string R) (.string G) ∧ C5 w3.heap.size w' (.string O) (.int .u64 (t : Int)) (.int .i64 m) (.string R) (.string G) ∧ C5 w5.heap.size w' (.string eO) (.int .u64 (bt : Int)) (.int .i64 bm) (.string eR) (.string eG) ∧ C5 w7.heap.size w' (.string eO) (.int .u64 (bt : Int)) (.int .i64 bm) (.string eR) (.string eG) ∧ C5 w11.heap.size w' (.string dO) (.int .u64 (tt : Int)) (.int .i64 tm) (.string dR) (.string dG) ∧ C5 w13.heap.size w' (.string dO) (.int .u64 (tt : Int)) (.int .i64 tm) (.string dR) (.string dG) ∧ Below wSV.heap.size wSV w') (by kernel_rfl) (by kernel_rfl) hdr ?_
    clear hdr
    refine Ord.stepR (v := ?_) (by rfl) ?_ ?_
    rotate_left
    · intro w' hSw
      obtain ⟨⟨_, q20, q21, q22, q23, q24⟩, _⟩ := hSw.2.2.1
      obtain ⟨⟨_, q30, q31, q32, q33, q34⟩, _⟩ := hSw.2.2.2.1
      obtain ⟨⟨_, q40, q41, q42, q43, q44⟩, _⟩ := hSw.2.2.2.2.1
      obtain ⟨⟨_, q50, q51, q52, q53, q54⟩, _⟩ := hSw.2.2.2.2.2.1
      obtain ⟨⟨_, q60, q61, q62, q63, q64⟩, _⟩ := hSw.2.2.2.2.2.2.1
      obtain ⟨⟨_, q70, q71, q72, q73, q74⟩, _⟩ := hSw.2.2.2.2.2.2.2.1
      go_simp
      try with_reducible rfl
    try simp only [Act.put, List.setIfInBounds_toArray, List.set_cons_zero, List.set_cons_succ]
    refine Ord.stepC (v := .bool rb) (by rfl) ?_ (fun w1 hS => (HRC.out w1).mono fun e w2 h => ⟨h.1, ⟨hS.1.below (h.2) (Nat.le_refl _), hS.2.1.below (h.2) (Nat.le_refl _), hS.2.2.1.below (h.2), hS.2.2.2.1.below (h.2), hS.2.2.2.2.1.below (h.2), hS.2.2.2.2.2.1.below (h.2), hS.2.2.2.2.2.2.1.below (h.2), hS.2.2.2.2.2.2.2.1.below (h.2), hS.2.2.2.2.2.2.2.2.trans ((h.2).mono hS.2.2.2.2.2.2.2.2.size)⟩⟩) ?_
    · intro w' hSw
      go_simp
      try with_reducible rfl
    try simp only [Act.put, List.setIfInBounds_toArray, List.set_cons_zero, List.set_cons_succ]
    refine Ord.stepR (v := ?_) (by rfl) ?_ ?_
    rotate_left
    · intro w' hSw
      obtain ⟨⟨_, q20, q21, q22, q23, q24⟩, _⟩ := hSw.2.2.1
      obtain ⟨⟨_, q30, q31, q32, q33, q34⟩, _⟩ := hSw.2.2.2.1
      obtain ⟨⟨_, q40, q41, q42, q43, q44⟩, _⟩ := hSw.2.2.2.2.1
      obtain ⟨⟨_, q50, q51, q52, q53, q54⟩, _⟩ := hSw.2.2.2.2.2.1
      obtain ⟨⟨_, q60, q61, q62, q63, q64⟩, _⟩ := hSw.2.2.2.2.2.2.1
      obtain ⟨⟨_, q70, q71, q72, q73, q74⟩, _⟩ := hSw.2.2.2.2.2.2.2.1
      go_simp
      try with_reducible rfl
    try simp only [Act.put, List.setIfInBounds_toArray, List.set_cons_zero, List.set_cons_succ]
    refine Ord.stepC (v := .bool rb) (by rfl) ?_ (fun w1 hS => (HRR.out w1).mono fun e w2 h => ⟨h.1, ⟨hS.1.below (h.2) (Nat.le_refl _), hS.2.1.below (h.2) (Nat.le_refl _), hS.2.2.1.below (h.2), hS.2.2.2.1.below (h.2), hS.2.2.2.2.1.below (h.2), hS.2.2.2.2.2.1.below (h.2), hS.2.2.2.2.2.2.1.below (h.2), hS.2.2.2.2.2.2.2.1.below (h.2), hS.2.2.2.2.2.2.2.2.trans ((h.2).mono hS.2.2.2.2.2.2.2.2.size)⟩⟩) ?_
    · intro w' hSw
      go_simp
      try with_reducible rfl
    try simp only [Act.put, List.setIfInBounds_toArray, List.set_cons_zero, List.set_cons_succ]
    refine Ord.stepR (v := ?_) (by rfl) ?_ ?_
    rotate_left
    · intro w' hSw
      go_simp
      try with_reducible rfl
    try simp only [Act.put, List.setIfInBounds_toArray, List.set_cons_zero, List.set_cons_succ]
    refine Ord.stepR (v := ?_) (by rfl) ?_ ?_
    rotate_left
    · intro w' hSw
      go_simp
      try with_reducible rfl
    try simp only [Act.put, List.setIfInBounds_toArray, List.set_cons_zero, List.set_cons_succ]
    refine Ord.stepR (v := ?_) (by rfl) ?_ ?_
    rotate_left
    · intro w' hSw
      obtain ⟨⟨_, q20, q21, q22, q23, q24⟩, _⟩ := hSw.2.2.1
      obtain ⟨⟨_, q30, q31, q32, q33, q34⟩, _⟩ := hSw.2.2.2.1
      obtain ⟨⟨_, q40, q41, q42, q43, q44⟩, _⟩ := hSw.2.2.2.2.1
      obtain ⟨⟨_, q50, q51, q52, q53, q54⟩, _⟩ := hSw.2.2.2.2.2.1
      obtain ⟨⟨_, q60, q61, q62, q63, q64⟩, _⟩ := hSw.2.2.2.2.2.2.1
      obtain ⟨⟨_, q70, q71, q72, q73, q74⟩, _⟩ := hSw.2.2.2.2.2.2.2.1
      go_simp
      try with_reducible rfl
    try simp only [Act.put, List.setIfInBounds_toArray, List.set_cons_zero, List.set_cons_succ]
    refine Ord.stepR (v := ?_) (by rfl) ?_ ?_
    rotate_left
    · intro w' hSw
      go_simp
      try with_reducible rfl
    try simp only [Act.put, List.setIfInBounds_toArray, List.set_cons_zero, List.set_cons_succ]
    refine Ord.stepR (v := ?_) (by rfl) ?_ ?_
    rotate_left
    · intro w' hSw
      go_simp
      try with_reducible rfl
    try simp only [Act.put, List.setIfInBounds_toArray, List.set_cons_zero, List.set_cons_succ]
    refine Ord.stepR (v := ?_) (by rfl) ?_ ?_
    rotate_left
    · intro w' hSw
      go_simp
      try with_reducible rfl
    try simp only [Act.put, List.setIfInBounds_toArray, List.set_cons_zero, List.set_cons_succ]
    refine Ord.stepR (v := ?_) (by rfl) ?_ ?_
    rotate_left
    · intro w' hSw
      go_simp
      try with_reducible rfl
    try simp only [Act.put, List.setIfInBounds_toArray, List.set_cons_zero, List.set_cons_succ]
    refine Ord.stepC (v := .int .i64 cv) (by rfl) ?_ (fun w1 hS => (HCC.out w1).mono fun e w2 h => ⟨h.1, ⟨hS.1.below (h.2) (Nat.le_refl _), hS.2.1.below (h.2) (Nat.le_refl _), hS.2.2.1.below (h.2), hS.2.2.2.1.below (h.2), hS.2.2.2.2.1.below (h.2), hS.2.2.2.2.2.1.below (h.2), hS.2.2.2.2.2.2.1.below (h.2), hS.2.2.2.2.2.2.2.1.below (h.2), hS.2.2.2.2.2.2.2.2.trans ((h.2).mono hS.2.2.2.2.2.2.2.2.size)⟩⟩) ?_
    · intro w' hSw
      go_simp
      try with_reducible rfl
    try simp only [Act.put, List.setIfInBounds_toArray, List.set_cons_zero, List.set_cons_succ]
    refine Ord.stepR (v := ?_) (by rfl) ?_ ?_
    rotate_left
    · intro w' hSw
      obtain ⟨⟨_, q20, q21, q22, q23, q24⟩, _⟩ := hSw.2.2.1
      obtain ⟨⟨_, q30, q31, q32, q33, q34⟩, _⟩ := hSw.2.2.2.1
      obtain ⟨⟨_, q40, q41, q42, q43, q44⟩, _⟩ := hSw.2.2.2.2.1
      obtain ⟨⟨_, q50, q51, q52, q53, q54⟩, _⟩ := hSw.2.2.2.2.2.1
      obtain ⟨⟨_, q60, q61, q62, q63, q64⟩, _⟩ := hSw.2.2.2.2.2.2.1
      obtain ⟨⟨_, q70, q71, q72, q73, q74⟩, _⟩ := hSw.2.2.2.2.2.2.2.1
      go_simp
      try with_reducible rfl
    try simp only [Act.put, List.setIfInBounds_toArray, List.set_cons_zero, List.set_cons_succ]
    refine Ord.stepR (v := ?_) (by rfl) ?_ ?_
    rotate_left
    · intro w' hSw
      go_simp
      try with_reducible rfl
    try simp only [Act.put, List.setIfInBounds_toArray, List.set_cons_zero, List.set_cons_succ]
    refine Ord.stepR (v := ?_) (by rfl) ?_ ?_
    rotate_left
    · intro w' hSw
      go_simp
      try with_reducible rfl
    try simp only [Act.put, List.setIfInBounds_toArray, List.set_cons_zero, List.set_cons_succ]
    refine Ord.stepR (v := ?_) (by rfl) ?_ ?_
    rotate_left
    · intro w' hSw
      go_simp
      try with_reducible rfl
    try simp only [Act.put, List.setIfInBounds_toArray, List.set_cons_zero, List.set_cons_succ]
    refine Ord.stepR (v := ?_) (by rfl) ?_ ?_
    rotate_left
    · intro w' hSw
      go_simp
      try with_reducible rfl
    try simp only [Act.put, List.setIfInBounds_toArray, List.set_cons_zero, List.set_cons_succ]
    refine Ord.stepC (v := .int .i64 cv) (by rfl) ?_ (fun w1 hS => (HCR.out w1).mono fun e w2 h => ⟨h.1, ⟨hS.1.below (h.2) (Nat.le_refl _), hS.2.1.below (h.2) (Nat.le_refl _), hS.2.2.1.below (h.2), hS.2.2.2.1.below (h.2), hS.2.2.2.2.1.below (h.2), hS.2.2.2.2.2.1.below (h.2), hS.2.2.2.2.2.2.1.below (h.2), hS.2.2.2.2.2.2.2.1.below (h.2), hS.2.2.2.2.2.2.2.2.trans ((h.2).mono hS.2.2.2.2.2.2.2.2.size)⟩⟩) ?_
    · intro w' hSw
      go_simp
      try with_reducible rfl
    try simp only [Act.put, List.setIfInBounds_toArray, List.set_cons_zero, List.set_cons_succ]
    refine Ord.stepR (v := ?_) (by rfl) ?_ ?_
    rotate_left
    · intro w' hSw
      go_simp
      try with_reducible rfl
    try simp only [Act.put, List.setIfInBounds_toArray, List.set_cons_zero, List.set_cons_succ]
    refine Ord.stepR (v := ?_) (by rfl) ?_ ?_
    rotate_left
    · intro w' hSw
      go_simp
      try with_reducible rfl
    try simp only [Act.put, List.setIfInBounds_toArray, List.set_cons_zero, List.set_cons_succ]
    refine Ord.stepR (v := ?_) (by rfl) ?_ ?_
    rotate_left
    · intro w' hSw
      go_simp
      try with_reducible rfl
    try simp only [Act.put, List.setIfInBounds_toArray, List.set_cons_zero, List.set_cons_succ]
    refine Ord.stepR (v := ?_) (by rfl) ?_ ?_
    rotate_left
    · intro w' hSw
      obtain ⟨⟨_, q20, q21, q22, q23, q24⟩, _⟩ := hSw.2.2.1
      obtain ⟨⟨_, q30, q31, q32, q33, q34⟩, _⟩ := hSw.2.2.2.1
      obtain ⟨⟨_, q40, q41, q42, q43, q44⟩, _⟩ := hSw.2.2.2.2.1
      obtain ⟨⟨_, q50, q51, q52, q53, q54⟩, _⟩ := hSw.2.2.2.2.2.1
      obtain ⟨⟨_, q60, q61, q62, q63, q64⟩, _⟩ := hSw.2.2.2.2.2.2.1
      obtain ⟨⟨_, q70, q71, q72, q73, q74⟩, _⟩ := hSw.2.2.2.2.2.2.2.1
      go_simp
      try with_reducible rfl
    try simp only [Act.put, List.setIfInBounds_toArray, List.set_cons_zero, List.set_cons_succ]
    refine Ord.stepR (v := ?_) (by rfl) ?_ ?_
    rotate_left
    · intro w' hSw
      go_simp
      try with_reducible rfl
    try simp only [Act.put, List.setIfInBounds_toArray, List.set_cons_zero, List.set_cons_succ]
    refine Ord.stepR (v := ?_) (by rfl) ?_ ?_
    rotate_left
    · intro w' hSw
      go_simp
      try with_reducible rfl
    try simp only [Act.put, List.setIfInBounds_toArray, List.set_cons_zero, List.set_cons_succ]
    refine Ord.stepR (v := ?_) (by rfl) ?_ ?_
    rotate_left
    · intro w' hSw
      go_simp
      try with_reducible rfl
    try simp only [Act.put, List.setIfInBounds_toArray, List.set_cons_zero, List.set_cons_succ]
    refine Ord.stepC (v := .bool vb) (by rfl) ?_ (fun w1 hS => (HVC'.out w1 hS.2.1).mono fun e w2 h => ⟨h.1, ⟨hS.1.below (h.2) (Nat.le_refl _), hS.2.1.below (h.2) (Nat.le_refl _), hS.2.2.1.below (h.2), hS.2.2.2.1.below (h.2), hS.2.2.2.2.1.below (h.2), hS.2.2.2.2.2.1.below (h.2), hS.2.2.2.2.2.2.1.below (h.2), hS.2.2.2.2.2.2.2.1.below (h.2), hS.2.2.2.2.2.2.2.2.trans ((h.2).mono hS.2.2.2.2.2.2.2.2.size)⟩⟩) ?_
    · intro w' hSw
      go_simp
      try with_reducible rfl
    try simp only [Act.put, List.setIfInBounds_toArray, List.set_cons_zero, List.set_cons_succ]
    refine Ord.stepR (v := ?_) (by rfl) ?_ ?_
    rotate_left
    · intro w' hSw
      obtain ⟨⟨_, q20, q21, q22, q23, q24⟩, _⟩ := hSw.2.2.1
      obtain ⟨⟨_, q30, q31, q32, q33, q34⟩, _⟩ := hSw.2.2.2.1
      obtain ⟨⟨_, q40, q41, q42, q43, q44⟩, _⟩ := hSw.2.2.2.2.1
      obtain ⟨⟨_, q50, q51, q52, q53, q54⟩, _⟩ := hSw.2.2.2.2.2.1
      obtain ⟨⟨_, q60, q61, q62, q63, q64⟩, _⟩ := hSw.2.2.2.2.2.2.1
      obtain ⟨⟨_, q70, q71, q72, q73, q74⟩, _⟩ := hSw.2.2.2.2.2.2.2.1
      go_simp
      try with_reducible rfl
    try simp only [Act.put, List.setIfInBounds_toArray, List.set_cons_zero, List.set_cons_succ]
    refine Ord.stepR (v := ?_) (by rfl) ?_ ?_
    rotate_left
    · intro w' hSw
      go_simp
      try with_reducible rfl
    try simp only [Act.put, List.setIfInBounds_toArray, List.set_cons_zero, List.set_cons_succ]
    refine Ord.stepR (v := ?_) (by rfl) ?_ ?_
    rotate_left
    · intro w' hSw
      go_simp
      try with_reducible rfl
    try simp only [Act.put, List.setIfInBounds_toArray, List.set_cons_zero, List.set_cons_succ]
    refine Ord.stepR (v := ?_) (by rfl) ?_ ?_
    rotate_left
    · intro w' hSw
      go_simp
      try with_reducible rfl
    try simp only [Act.put, List.setIfInBounds_toArray, List.set_cons_zero, List.set_cons_succ]
    refine Ord.stepC (v := .bool vb) (by rfl) ?_ (fun w1 hS => (HVR'.out w1 hS.2.1).mono fun e w2 h => ⟨h.1, ⟨hS.1.below (h.2) (Nat.le_refl _), hS.2.1.below (h.2) (Nat.le_refl _), hS.2.2.1.below (h.2), hS.2.2.2.1.below (h.2), hS.2.2.2.2.1.below (h.2), hS.2.2.2.2.2.1.below (h.2), hS.2.2.2.2.2.2.1.below (h.2), hS.2.2.2.2.2.2.2.1.below (h.2), hS.2.2.2.2.2.2.2.2.trans ((h.2).mono hS.2.2.2.2.2.2.2.2.size)⟩⟩) ?_
    · intro w' hSw
      go_simp
      try with_reducible rfl
    try simp only [Act.put, List.setIfInBounds_toArray, List.set_cons_zero, List.set_cons_succ]
    refine Ord.stepR (v := ?_) (by rfl) ?_ ?_
    rotate_left
    · intro w' hSw
      go_simp
      try with_reducible rfl
    try simp only [Act.put, List.setIfInBounds_toArray, List.set_cons_zero, List.set_cons_succ]
    refine Ord.stepR (v := ?_) (by rfl) ?_ ?_
    rotate_left
    · intro w' hSw
      go_simp
      try with_reducible rfl
    try simp only [Act.put, List.setIfInBounds_toArray, List.set_cons_zero, List.set_cons_succ]
    refine Ord.stepR (v := ?_) (by rfl) ?_ ?_
    rotate_left
    · intro w' hSw
      go_simp
      try with_reducible rfl
    try simp only [Act.put, List.setIfInBounds_toArray, List.set_cons_zero, List.set_cons_succ]
    refine Ord.stepD fun Z1 hZ => ?_
    replace HR := Lib.hid hZ.1
    replace HR2 := Lib.hid hZ.2.1
    replace HXS := Lib.hid hZ.2.2.1
    replace HXX := Lib.hid hZ.2.2.2.1
    replace HXA := Lib.hid hZ.2.2.2.2.1
    replace HXC := Lib.hid hZ.2.2.2.2.2.1
    replace HXU := Lib.hid hZ.2.2.2.2.2.2.1
    replace HXV := Lib.hid hZ.2.2.2.2.2.2.2.1
    have HB15 := Lib.hid (Bel.call HB14.out hZ.2.2.2.2.2.2.2.2)
    clear hZ
    go_wp2_with fail
    have hdr : SReads Z1.drew A ys ∧ SReads Z1.drew A2 ps ∧ C5 w.heap.size Z1.drew (.string O) (.int .u64 (t : Int)) (.int .i64 m) (.string R) (.string G) ∧ C5 w3.heap.size Z1.drew (.string O) (.int .u64 (t : Int)) (.int .i64 m) (.string R) (.string G) ∧ C5 w5.heap.size Z1.drew (.string eO) (.int .u64 (bt : Int)) (.int .i64 bm) (.string eR) (.string eG) ∧ C5 w7.heap.size Z1.drew (.string eO) (.int .u64 (bt : Int)) (.int .i64 bm) (.string eR) (.string eG) ∧ C5 w11.heap.size Z1.drew (.string dO) (.int .u64 (tt : Int)) (.int .i64 tm) (.string dR) (.string dG) ∧ C5 w13.heap.size Z1.drew (.string dO) (.int .u64 (tt : Int)) (.int .i64 tm) (.string dR) (.string dG) ∧ Below Z1.heap.size Z1 Z1.drew := ⟨HR.out.below (Below.drewN' (Below.refl Z1.heap.size Z1) 1) (Nat.le_refl _), HR2.out.below (Below.drewN' (Below.refl Z1.heap.size Z1) 1) (Nat.le_refl _), HXS.out.below (Below.drewN' (Below.refl Z1.heap.size Z1) 1), HXX.out.below (Below.drewN' (Below.refl Z1.heap.size Z1) 1), HXA.out.below (Below.drewN' (Below.refl Z1.heap.size Z1) 1), HXC.out.below (Below.drewN' (Below.refl Z1.heap.size Z1) 1), HXU.out.below (Below.drewN' (Below.refl Z1.heap.size Z1) 1), HXV.out.below (Below.drewN' (Below.refl Z1.heap.size Z1) 1), (Below.drewN' (Below.refl Z1.heap.size Z1) 1)⟩
    refine Ord.region_lit (S := fun w' => SReads w' A ys ∧ SReads w' A2 ps ∧ C5 w.heap.size w' (.string O) (.int .u64 (t : Int)) (.int .i64 m) (.string R) (.string G) ∧ C5 w3.heap.size w' (.string O) (.int .u64 (t : Int)) (.int .i64 m) (.string R) (.string G) ∧ C5 w5.heap.size w' (.string eO) (.int .u64 (bt : Int)) (.int .i64 bm) (.string eR) (.string eG) ∧ C5 w7.heap.size w' (.string eO) (.int .u64 (bt : Int)) (.int .i64 bm) (.string eR) (.string eG) ∧ C5 w11.heap.size w' (.string dO) (.int .u64 (tt : Int)) (.int .i64 tm) (.string dR) (.string dG) ∧ C5 w13.heap.size w' (.string dO) (.int .u64 (tt : Int)) (.int .i64 tm) (.string dR) (.string dG) ∧ Below Z1.heap.size Z1 w') (by kernel_rfl) (by kernel_rfl) hdr ?_
    clear hdr
    refine Ord.stepR (v := ?_) (by rfl) ?_ ?_
    rotate_left
    · intro w' hSw
      go_simp
      try with_reducible rfl
    try simp only [Act.put, List.setIfInBounds_toArray, List.set_cons_zero, List.set_cons_succ]
    refine Ord.stepR (v := ?_) (by rfl) ?_ ?_
    rotate_left
    · intro w' hSw
      go_simp
      try with_reducible rfl
    try simp only [Act.put, List.setIfInBounds_toArray, List.set_cons_zero, List.set_cons_succ]
    refine Ord.stepR (v := ?_) (by rfl) ?_ ?_
    rotate_left
    · intro w' hSw
      obtain ⟨⟨_, q20, q21, q22, q23, q24⟩, _⟩ := hSw.2.2.1
      obtain ⟨⟨_, q30, q31, q32, q33, q34⟩, _⟩ := hSw.2.2.2.1
      obtain ⟨⟨_, q40, q41, q42, q43, q44⟩, _⟩ := hSw.2.2.2.2.1
      obtain ⟨⟨_, q50, q51, q52, q53, q54⟩, _⟩ := hSw.2.2.2.2.2.1
      obtain ⟨⟨_, q60, q61, q62, q63, q64⟩, _⟩ := hSw.2.2.2.2.2.2.1
      obtain ⟨⟨_, q70, q71, q72, q73, q74⟩, _⟩ := hSw.2.2.2.2.2.2.2.1
      go_simp
      try with_reducible rfl
    try simp only [Act.put, List.setIfInBounds_toArray, List.set_cons_zero, List.set_cons_succ]
    refine Ord.stepC (v := .agg #[.string eO, .int .u64 (bt : Int), .int .i64 bm, .string eR, .string eG]) (by rfl) ?_ (fun w1 hS => (HAS.out eO bt bm eR eG w1).mono fun e w2 h => ⟨h.1, ⟨hS.1.below (h.2) (Nat.le_refl _), hS.2.1.below (h.2) (Nat.le_refl _), hS.2.2.1.below (h.2), hS.2.2.2.1.below (h.2), hS.2.2.2.2.1.below (h.2), hS.2.2.2.2.2.1.below (h.2), hS.2.2.2.2.2.2.1.below (h.2), hS.2.2.2.2.2.2.2.1.below (h.2), hS.2.2.2.2.2.2.2.2.trans ((h.2).mono hS.2.2.2.2.2.2.2.2.size)⟩⟩) ?_
    · intro w' hSw
      go_simp
      try with_reducible rfl
    try simp only [Act.put, List.setIfInBounds_toArray, List.set_cons_zero, List.set_cons_succ]
    refine Ord.stepR (v := ?_) (by rfl) ?_ ?_
    rotate_left
    · intro w' hSw
      obtain ⟨⟨_, q20, q21, q22, q23, q24⟩, _⟩ := hSw.2.2.1
      obtain ⟨⟨_, q30, q31, q32, q33, q34⟩, _⟩ := hSw.2.2.2.1
      obtain ⟨⟨_, q40, q41, q42, q43, q44⟩, _⟩ := hSw.2.2.2.2.1
      obtain ⟨⟨_, q50, q51, q52, q53, q54⟩, _⟩ := hSw.2.2.2.2.2.1
      obtain ⟨⟨_, q60, q61, q62, q63, q64⟩, _⟩ := hSw.2.2.2.2.2.2.1
      obtain ⟨⟨_, q70, q71, q72, q73, q74⟩, _⟩ := hSw.2.2.2.2.2.2.2.1
      go_simp
      try with_reducible rfl
    try simp only [Act.put, List.setIfInBounds_toArray, List.set_cons_zero, List.set_cons_succ]
    refine Ord.stepR (v := ?_) (by rfl) ?_ ?_
    rotate_left
    · intro w' hSw
      go_simp
      try with_reducible rfl
    try simp only [Act.put, List.setIfInBounds_toArray, List.set_cons_zero, List.set_cons_succ]
    refine Ord.stepR (v := ?_) (by rfl) ?_ ?_
    rotate_left
    · intro w' hSw
      go_simp
      try with_reducible rfl
    try simp only [Act.put, List.setIfInBounds_toArray, List.set_cons_zero, List.set_cons_succ]
    refine Ord.stepR (v := ?_) (by rfl) ?_ ?_
    rotate_left
    · intro w' hSw
      go_simp
      try with_reducible rfl
    try simp only [Act.put, List.setIfInBounds_toArray, List.set_cons_zero, List.set_cons_succ]
    refine Ord.stepR (v := ?_) (by rfl) ?_ ?_
    rotate_left
    · intro w' hSw
      go_simp
      try with_reducible rfl
    try simp only [Act.put, List.setIfInBounds_toArray, List.set_cons_zero, List.set_cons_succ]
    refine Ord.stepR (v := ?_) (by rfl) ?_ ?_
    rotate_left
    · intro w' hSw
      go_simp
      try with_reducible rfl
    try simp only [Act.put, List.setIfInBounds_toArray, List.set_cons_zero, List.set_cons_succ]
    refine Ord.stepR (v := ?_) (by rfl) ?_ ?_
    rotate_left
    · intro w' hSw
      go_simp
      try with_reducible rfl
    try simp only [Act.put, List.setIfInBounds_toArray, List.set_cons_zero, List.set_cons_succ]
    refine Ord.stepR (v := ?_) (by rfl) ?_ ?_
    rotate_left
    · intro w' hSw
      go_simp
      try with_reducible rfl
    try simp only [Act.put, List.setIfInBounds_toArray, List.set_cons_zero, List.set_cons_succ]
    refine Ord.stepR (v := ?_) (by rfl) ?_ ?_
    rotate_left
    · intro w' hSw
      go_simp
      try with_reducible rfl
    try simp only [Act.put, List.setIfInBounds_toArray, List.set_cons_zero, List.set_cons_succ]
    refine Ord.stepR (v := ?_) (by rfl) ?_ ?_
    rotate_left
    · intro w' hSw
      go_simp
      try with_reducible rfl
    try simp only [Act.put, List.setIfInBounds_toArray, List.set_cons_zero, List.set_cons_succ]
    refine Ord.stepR (v := ?_) (by rfl) ?_ ?_
    rotate_left
    · intro w' hSw
      go_simp
      try with_reducible rfl
    try simp only [Act.put, List.setIfInBounds_toArray, List.set_cons_zero, List.set_cons_succ]
    refine Ord.stepR (v := ?_) (by rfl) ?_ ?_
    rotate_left
    · intro w' hSw
      go_simp
      try with_reducible rfl
    try simp only [Act.put, List.setIfInBounds_toArray, List.set_cons_zero, List.set_cons_succ]
    refine Ord.stepR (v := ?_) (by rfl) ?_ ?_
    rotate_left
    · intro w' hSw
      go_simp
      try with_reducible rfl
    try simp only [Act.put, List.setIfInBounds_toArray, List.set_cons_zero, List.set_cons_succ]
    refine Ord.stepR (v := ?_) (by rfl) ?_ ?_
    rotate_left
    · intro w' hSw
      go_simp
      try with_reducible rfl
    try simp only [Act.put, List.setIfInBounds_toArray, List.set_cons_zero, List.set_cons_succ]
    refine Ord.stepR (v := ?_) (by rfl) ?_ ?_
    rotate_left
    · intro w' hSw
      go_simp
      try with_reducible rfl
    try simp only [Act.put, List.setIfInBounds_toArray, List.set_cons_zero, List.set_cons_succ]
    refine Ord.stepR (v := ?_) (by rfl) ?_ ?_
    rotate_left
    · intro w' hSw
      go_simp
      try with_reducible rfl
    try simp only [Act.put, List.setIfInBounds_toArray, List.set_cons_zero, List.set_cons_succ]
    refine Ord.stepR (v := ?_) (by rfl) ?_ ?_
    rotate_left
    · intro w' hSw
      go_simp
      try with_reducible rfl
    try simp only [Act.put, List.setIfInBounds_toArray, List.set_cons_zero, List.set_cons_succ]
    refine Ord.stepR (v := ?_) (by rfl) ?_ ?_
    rotate_left
    · intro w' hSw
      go_simp
      try with_reducible rfl
    try simp only [Act.put, List.setIfInBounds_toArray, List.set_cons_zero, List.set_cons_succ]
    refine Ord.stepR (v := ?_) (by rfl) ?_ ?_
    rotate_left
    · intro w' hSw
      go_simp
      try with_reducible rfl
    try simp only [Act.put, List.setIfInBounds_toArray, List.set_cons_zero, List.set_cons_succ]
    refine Ord.stepR (v := ?_) (by rfl) ?_ ?_
    rotate_left
    · intro w' hSw
      obtain ⟨⟨_, q20, q21, q22, q23, q24⟩, _⟩ := hSw.2.2.1
      obtain ⟨⟨_, q30, q31, q32, q33, q34⟩, _⟩ := hSw.2.2.2.1
      obtain ⟨⟨_, q40, q41, q42, q43, q44⟩, _⟩ := hSw.2.2.2.2.1
      obtain ⟨⟨_, q50, q51, q52, q53, q54⟩, _⟩ := hSw.2.2.2.2.2.1
      obtain ⟨⟨_, q60, q61, q62, q63, q64⟩, _⟩ := hSw.2.2.2.2.2.2.1
      obtain ⟨⟨_, q70, q71, q72, q73, q74⟩, _⟩ := hSw.2.2.2.2.2.2.2.1
      go_simp
      try with_reducible rfl
    try simp only [Act.put, List.setIfInBounds_toArray, List.set_cons_zero, List.set_cons_succ]
    refine Ord.stepC (v := .agg #[.string dO, .int .u64 (tt : Int), .int .i64 tm, .string dR, .string dG]) (by rfl) ?_ (fun w1 hS => (HAS.out dO tt tm dR dG w1).mono fun e w2 h => ⟨h.1, ⟨hS.1.below (h.2) (Nat.le_refl _), hS.2.1.below (h.2) (Nat.le_refl _), hS.2.2.1.below (h.2), hS.2.2.2.1.below (h.2), hS.2.2.2.2.1.below (h.2), hS.2.2.2.2.2.1.below (h.2), hS.2.2.2.2.2.2.1.below (h.2), hS.2.2.2.2.2.2.2.1.below (h.2), hS.2.2.2.2.2.2.2.2.trans ((h.2).mono hS.2.2.2.2.2.2.2.2.size)⟩⟩) ?_
    · intro w' hSw
      go_simp
      try with_reducible rfl
    try simp only [Act.put, List.setIfInBounds_toArray, List.set_cons_zero, List.set_cons_succ]
    refine Ord.stepR (v := ?_) (by rfl) ?_ ?_
    rotate_left
    · intro w' hSw
      obtain ⟨⟨_, q20, q21, q22, q23, q24⟩, _⟩ := hSw.2.2.1
      obtain ⟨⟨_, q30, q31, q32, q33, q34⟩, _⟩ := hSw.2.2.2.1
      obtain ⟨⟨_, q40, q41, q42, q43, q44⟩, _⟩ := hSw.2.2.2.2.1
      obtain ⟨⟨_, q50, q51, q52, q53, q54⟩, _⟩ := hSw.2.2.2.2.2.1
      obtain ⟨⟨_, q60, q61, q62, q63, q64⟩, _⟩ := hSw.2.2.2.2.2.2.1
      obtain ⟨⟨_, q70, q71, q72, q73, q74⟩, _⟩ := hSw.2.2.2.2.2.2.2.1
      go_simp
      try with_reducible rfl
    try simp only [Act.put, List.setIfInBounds_toArray, List.set_cons_zero, List.set_cons_succ]
    refine Ord.stepR (v := ?_) (by rfl) ?_ ?_
    rotate_left
    · intro w' hSw
      go_simp
      try with_reducible rfl
    try simp only [Act.put, List.setIfInBounds_toArray, List.set_cons_zero, List.set_cons_succ]
    refine Ord.stepR (v := ?_) (by rfl) ?_ ?_
    rotate_left
    · intro w' hSw
      go_simp
      try with_reducible rfl
    try simp only [Act.put, List.setIfInBounds_toArray, List.set_cons_zero, List.set_cons_succ]
    refine Ord.stepR (v := ?_) (by rfl) ?_ ?_
    rotate_left
    · intro w' hSw
      go_simp
      try with_reducible rfl
    try simp only [Act.put, List.setIfInBounds_toArray, List.set_cons_zero, List.set_cons_succ]
    refine Ord.stepR (v := ?_) (by rfl) ?_ ?_
    rotate_left
    · intro w' hSw
      go_simp
      try with_reducible rfl
    try simp only [Act.put, List.setIfInBounds_toArray, List.set_cons_zero, List.set_cons_succ]
    refine Ord.stepR (v := ?_) (by rfl) ?_ ?_
    rotate_left
    · intro w' hSw
      go_simp
      try with_reducible rfl
    try simp only [Act.put, List.setIfInBounds_toArray, List.set_cons_zero, List.set_cons_succ]
    refine Ord.stepR (v := ?_) (by rfl) ?_ ?_
    rotate_left
    · intro w' hSw
      go_simp
      try with_reducible rfl
    try simp only [Act.put, List.setIfInBounds_toArray, List.set_cons_zero, List.set_cons_succ]
    refine Ord.stepR (v := ?_) (by rfl) ?_ ?_
    rotate_left
    · intro w' hSw
      go_simp
      try with_reducible rfl
    try simp only [Act.put, List.setIfInBounds_toArray, List.set_cons_zero, List.set_cons_succ]
    refine Ord.stepR (v := ?_) (by rfl) ?_ ?_
    rotate_left
    · intro w' hSw
      go_simp
      try with_reducible rfl
    try simp only [Act.put, List.setIfInBounds_toArray, List.set_cons_zero, List.set_cons_succ]
    refine Ord.stepD fun Z2 hZ => ?_
    replace HR := Lib.hid hZ.1
    replace HR2 := Lib.hid hZ.2.1
    replace HXS := Lib.hid hZ.2.2.1
    replace HXX := Lib.hid hZ.2.2.2.1
    replace HXA := Lib.hid hZ.2.2.2.2.1
    replace HXC := Lib.hid hZ.2.2.2.2.2.1
    replace HXU := Lib.hid hZ.2.2.2.2.2.2.1
    replace HXV := Lib.hid hZ.2.2.2.2.2.2.2.1
    have HB16 := Lib.hid (Bel.call HB15.out hZ.2.2.2.2.2.2.2.2)
    clear hZ
    go_wp2
    go_ret
    exact ⟨rfl, HB16.out⟩
  · have hl0 : (0 : Int) < (ys.length : Int) := by
      cases ys with
      | nil => exact absurd rfl h0
      | cons a t => rw [List.length_cons]; omega
    obtain ⟨gg, oo, rfl, hgg, hcc⟩ := HR.out 0 (by omega)
    have hc0 : w13.cell? ⟨gg, oo, none⟩ = some (.string L) := by rw [hLK]; exact hcc
    have hngv : gg ≠ w13.heap.size := Nat.ne_of_lt hgg
    clear hcc hLK h0
    go_wp2_with fail
    have hbS : Below w13.heap.size w13 (w13.alloc (.cells #[.string dO, .int .u64 (tt : Int), .int .i64 tm, .string dR, .string dG] 28)) := (Below.refl w13.heap.size w13).alloc (Nat.le_refl _) _
    have hxS := c5_new w13 (.string dO) (.int .u64 (tt : Int)) (.int .i64 tm) (.string dR) (.string dG) 28
    generalize w13.alloc (.cells #[.string dO, .int .u64 (tt : Int), .int .i64 tm, .string dR, .string dG] 28) = wSV at hbS hxS ⊢
    have HB14 := Lib.hid (Bel.call HB13.out hbS)
    replace HR := Lib.hid (HR.out.below hbS (Nat.le_refl _))
    replace HR2 := Lib.hid (HR2.out.below hbS (Nat.le_refl _))
    replace HXS := Lib.hid (HXS.out.below hbS)
    replace HXX := Lib.hid (HXX.out.below hbS)
    replace HXA := Lib.hid (HXA.out.below hbS)
    replace HXC := Lib.hid (HXC.out.below hbS)
    replace HXU := Lib.hid (HXU.out.below hbS)
    have HXV := Lib.hid hxS
    clear hbS hxS
    have HVC' := Lib.hid (HVC.out L HLZ.out HP6.out)
    have HVR' := Lib.hid (HVR.out L HLZ.out HP6.out)
    generalize coversS ⟨O.data.toList, t, m, R.data.toList, G.data.toList⟩ at_ L.data.toList (bl ps) = vb at HVC' HVR'
    have hdr : SReads wSV.drew (some ⟨gg, oo, none⟩) ys ∧ SReads wSV.drew A2 ps ∧ C5 w.heap.size wSV.drew (.string O) (.int .u64 (t : Int)) (.int .i64 m) (.string R) (.string G) ∧ C5 w3.heap.size wSV.drew (.string O) (.int .u64 (t : Int)) (.int .i64 m) (.string R) (.string G) ∧ C5 w5.heap.size wSV.drew (.string eO) (.int .u64 (bt : Int)) (.int .i64 bm) (.string eR) (.string eG) ∧ C5 w7.heap.size wSV.drew (.string eO) (.int .u64 (bt : Int)) (.int .i64 bm) (.string eR) (.string eG) ∧ C5 w11.heap.size wSV.drew (.string dO) (.int .u64 (tt : Int)) (.int .i64 tm) (.string dR) (.string dG) ∧ C5 w13.heap.size wSV.drew (.string dO) (.int .u64 (tt : Int)) (.int .i64 tm) (.string dR) (.string dG) ∧ Below wSV.heap.size wSV wSV.drew := ⟨HR.out.below (Below.drewN' (Below.refl wSV.heap.size wSV) 1) (Nat.le_refl _), HR2.out.below (Below.drewN' (Below.refl wSV.heap.size wSV) 1) (Nat.le_refl _), HXS.out.below (Below.drewN' (Below.refl wSV.heap.size wSV) 1), HXX.out.below (Below.drewN' (Below.refl wSV.heap.size wSV) 1), HXA.out.below (Below.drewN' (Below.refl wSV.heap.size wSV) 1), HXC.out.below (Below.drewN' (Below.refl wSV.heap.size wSV) 1), HXU.out.below (Below.drewN' (Below.refl wSV.heap.size wSV) 1), HXV.out.below (Below.drewN' (Below.refl wSV.heap.size wSV) 1), (Below.drewN' (Below.refl wSV.heap.size wSV) 1)⟩
    refine Ord.region_lit (S := fun w' => SReads w' (some ⟨gg, oo, none⟩) ys ∧ SReads w' A2 ps ∧ C5 w.heap.size w' (.string O) (.int .u64 (t : Int)) (.int .i64 m) (.string R) (.string G) ∧ C5 w3.heap.size w' (.string O) (.int .u64 (t : Int)) (.int .i64 m) (.string R) (.string G) ∧ C5 w5.heap.size w' (.string eO) (.int .u64 (bt : Int)) (.int .i64 bm) (.string eR) (.string eG) ∧ C5 w7.heap.size w' (.string eO) (.int .u64 (bt : Int)) (.int .i64 bm) (.string eR) (.string eG) ∧ C5 w11.heap.size w' (.string dO) (.int .u64 (tt : Int)) (.int .i64 tm) (.string dR) (.string dG) ∧ C5 w13.heap.size w' (.string dO) (.int .u64 (tt : Int)) (.int .i64 tm) (.string dR) (.string dG) ∧ Below wSV.heap.size wSV w') (by kernel_rfl) (by kernel_rfl) hdr ?_
    clear hdr
    refine Ord.stepR (v := ?_) (by rfl) ?_ ?_
    rotate_left
    · intro w' hSw
      obtain ⟨⟨_, q20, q21, q22, q23, q24⟩, _⟩ := hSw.2.2.1
      obtain ⟨⟨_, q30, q31, q32, q33, q34⟩, _⟩ := hSw.2.2.2.1
      obtain ⟨⟨_, q40, q41, q42, q43, q44⟩, _⟩ := hSw.2.2.2.2.1
      obtain ⟨⟨_, q50, q51, q52, q53, q54⟩, _⟩ := hSw.2.2.2.2.2.1
      obtain ⟨⟨_, q60, q61, q62, q63, q64⟩, _⟩ := hSw.2.2.2.2.2.2.1
      obtain ⟨⟨_, q70, q71, q72, q73, q74⟩, _⟩ := hSw.2.2.2.2.2.2.2.1
      go_simp
      try with_reducible rfl
    try simp only [Act.put, List.setIfInBounds_toArray, List.set_cons_zero, List.set_cons_succ]
    refine Ord.stepC (v := .bool rb) (by rfl) ?_ (fun w1 hS => (HRC.out w1).mono fun e w2 h => ⟨h.1, ⟨hS.1.below (h.2) (Nat.le_refl _), hS.2.1.below (h.2) (Nat.le_refl _), hS.2.2.1.below (h.2), hS.2.2.2.1.below (h.2), hS.2.2.2.2.1.below (h.2), hS.2.2.2.2.2.1.below (h.2), hS.2.2.2.2.2.2.1.below (h.2), hS.2.2.2.2.2.2.2.1.below (h.2), hS.2.2.2.2.2.2.2.2.trans ((h.2).mono hS.2.2.2.2.2.2.2.2.size)⟩⟩) ?_
    · intro w' hSw
      go_simp
      try with_reducible rfl
    try simp only [Act.put, List.setIfInBounds_toArray, List.set_cons_zero, List.set_cons_succ]
    refine Ord.stepR (v := ?_) (by rfl) ?_ ?_
    rotate_left
    · intro w' hSw
      obtain ⟨⟨_, q20, q21, q22, q23, q24⟩, _⟩ := hSw.2.2.1
      obtain ⟨⟨_, q30, q31, q32, q33, q34⟩, _⟩ := hSw.2.2.2.1
      obtain ⟨⟨_, q40, q41, q42, q43, q44⟩, _⟩ := hSw.2.2.2.2.1
      obtain ⟨⟨_, q50, q51, q52, q53, q54⟩, _⟩ := hSw.2.2.2.2.2.1
      obtain ⟨⟨_, q60, q61, q62, q63, q64⟩, _⟩ := hSw.2.2.2.2.2.2.1
      obtain ⟨⟨_, q70, q71, q72, q73, q74⟩, _⟩ := hSw.2.2.2.2.2.2.2.1
      go_simp
      try with_reducible rfl
    try simp only [Act.put, List.setIfInBounds_toArray, List.set_cons_zero, List.set_cons_succ]
    refine Ord.stepC (v := .bool rb) (by rfl) ?_ (fun w1 hS => (HRR.out w1).mono fun e w2 h => ⟨h.1, ⟨hS.1.below (h.2) (Nat.le_refl _), hS.2.1.below (h.2) (Nat.le_refl _), hS.2.2.1.below (h.2), hS.2.2.2.1.below (h.2), hS.2.2.2.2.1.below (h.2), hS.2.2.2.2.2.1.below (h.2), hS.2.2.2.2.2.2.1.below (h.2), hS.2.2.2.2.2.2.2.1.below (h.2), hS.2.2.2.2.2.2.2.2.trans ((h.2).mono hS.2.2.2.2.2.2.2.2.size)⟩⟩) ?_
    · intro w' hSw
      go_simp
      try with_reducible rfl
    try simp only [Act.put, List.setIfInBounds_toArray, List.set_cons_zero, List.set_cons_succ]
    refine Ord.stepR (v := ?_) (by rfl) ?_ ?_
    rotate_left
    · intro w' hSw
      go_simp
      try with_reducible rfl
    try simp only [Act.put, List.setIfInBounds_toArray, List.set_cons_zero, List.set_cons_succ]
    refine Ord.stepR (v := ?_) (by rfl) ?_ ?_
    rotate_left
    · intro w' hSw
      go_simp
      try with_reducible rfl
    try simp only [Act.put, List.setIfInBounds_toArray, List.set_cons_zero, List.set_cons_succ]
    refine Ord.stepR (v := ?_) (by rfl) ?_ ?_
    rotate_left
    · intro w' hSw
      obtain ⟨⟨_, q20, q21, q22, q23, q24⟩, _⟩ := hSw.2.2.1
      obtain ⟨⟨_, q30, q31, q32, q33, q34⟩, _⟩ := hSw.2.2.2.1
      obtain ⟨⟨_, q40, q41, q42, q43, q44⟩, _⟩ := hSw.2.2.2.2.1
      obtain ⟨⟨_, q50, q51, q52, q53, q54⟩, _⟩ := hSw.2.2.2.2.2.1
      obtain ⟨⟨_, q60, q61, q62, q63, q64⟩, _⟩ := hSw.2.2.2.2.2.2.1
      obtain ⟨⟨_, q70, q71, q72, q73, q74⟩, _⟩ := hSw.2.2.2.2.2.2.2.1
      go_simp
      try with_reducible rfl
    try simp only [Act.put, List.setIfInBounds_toArray, List.set_cons_zero, List.set_cons_succ]
    refine Ord.stepR (v := ?_) (by rfl) ?_ ?_
    rotate_left
    · intro w' hSw
      go_simp
      try with_reducible rfl
    try simp only [Act.put, List.setIfInBounds_toArray, List.set_cons_zero, List.set_cons_succ]
    refine Ord.stepR (v := ?_) (by rfl) ?_ ?_
    rotate_left
    · intro w' hSw
      go_simp
      try with_reducible rfl
    try simp only [Act.put, List.setIfInBounds_toArray, List.set_cons_zero, List.set_cons_succ]
    refine Ord.stepR (v := ?_) (by rfl) ?_ ?_
    rotate_left
    · intro w' hSw
      go_simp
      try with_reducible rfl
    try simp only [Act.put, List.setIfInBounds_toArray, List.set_cons_zero, List.set_cons_succ]
    refine Ord.stepR (v := ?_) (by rfl) ?_ ?_
    rotate_left
    · intro w' hSw
      go_simp
      try with_reducible rfl
    try simp only [Act.put, List.setIfInBounds_toArray, List.set_cons_zero, List.set_cons_succ]
    refine Ord.stepC (v := .int .i64 cv) (by rfl) ?_ (fun w1 hS => (HCC.out w1).mono fun e w2 h => ⟨h.1, ⟨hS.1.below (h.2) (Nat.le_refl _), hS.2.1.below (h.2) (Nat.le_refl _), hS.2.2.1.below (h.2), hS.2.2.2.1.below (h.2), hS.2.2.2.2.1.below (h.2), hS.2.2.2.2.2.1.below (h.2), hS.2.2.2.2.2.2.1.below (h.2), hS.2.2.2.2.2.2.2.1.below (h.2), hS.2.2.2.2.2.2.2.2.trans ((h.2).mono hS.2.2.2.2.2.2.2.2.size)⟩⟩) ?_
    · intro w' hSw
      go_simp
      try with_reducible rfl
    try simp only [Act.put, List.setIfInBounds_toArray, List.set_cons_zero, List.set_cons_succ]
    refine Ord.stepR (v := ?_) (by rfl) ?_ ?_
    rotate_left
    · intro w' hSw
      obtain ⟨⟨_, q20, q21, q22, q23, q24⟩, _⟩ := hSw.2.2.1
      obtain ⟨⟨_, q30, q31, q32, q33, q34⟩, _⟩ := hSw.2.2.2.1
      obtain ⟨⟨_, q40, q41, q42, q43, q44⟩, _⟩ := hSw.2.2.2.2.1
      obtain ⟨⟨_, q50, q51, q52, q53, q54⟩, _⟩ := hSw.2.2.2.2.2.1
      obtain ⟨⟨_, q60, q61, q62, q63, q64⟩, _⟩ := hSw.2.2.2.2.2.2.1
      obtain ⟨⟨_, q70, q71, q72, q73, q74⟩, _⟩ := hSw.2.2.2.2.2.2.2.1
      go_simp
      try with_reducible rfl
    try simp only [Act.put, List.setIfInBounds_toArray, List.set_cons_zero, List.set_cons_succ]
    refine Ord.stepR (v := ?_) (by rfl) ?_ ?_
    rotate_left
    · intro w' hSw
      go_simp
      try with_reducible rfl
    try simp only [Act.put, List.setIfInBounds_toArray, List.set_cons_zero, List.set_cons_succ]
    refine Ord.stepR (v := ?_) (by rfl) ?_ ?_
    rotate_left
    · intro w' hSw
      go_simp
      try with_reducible rfl
    try simp only [Act.put, List.setIfInBounds_toArray, List.set_cons_zero, List.set_cons_succ]
    refine Ord.stepR (v := ?_) (by rfl) ?_ ?_
    rotate_left
    · intro w' hSw
      go_simp
      try with_reducible rfl
    try simp only [Act.put, List.setIfInBounds_toArray, List.set_cons_zero, List.set_cons_succ]
    refine Ord.stepR (v := ?_) (by rfl) ?_ ?_
    rotate_left
    · intro w' hSw
      go_simp
      try with_reducible rfl
    try simp only [Act.put, List.setIfInBounds_toArray, List.set_cons_zero, List.set_cons_succ]
    refine Ord.stepC (v := .int .i64 cv) (by rfl) ?_ (fun w1 hS => (HCR.out w1).mono fun e w2 h => ⟨h.1, ⟨hS.1.below (h.2) (Nat.le_refl _), hS.2.1.below (h.2) (Nat.le_refl _), hS.2.2.1.below (h.2), hS.2.2.2.1.below (h.2), hS.2.2.2.2.1.below (h.2), hS.2.2.2.2.2.1.below (h.2), hS.2.2.2.2.2.2.1.below (h.2), hS.2.2.2.2.2.2.2.1.below (h.2), hS.2.2.2.2.2.2.2.2.trans ((h.2).mono hS.2.2.2.2.2.2.2.2.size)⟩⟩) ?_
    · intro w' hSw
      go_simp
      try with_reducible rfl
    try simp only [Act.put, List.setIfInBounds_toArray, List.set_cons_zero, List.set_cons_succ]
    refine Ord.stepR (v := ?_) (by rfl) ?_ ?_
    rotate_left
    · intro w' hSw
      go_simp
      try with_reducible rfl
    try simp only [Act.put, List.setIfInBounds_toArray, List.set_cons_zero, List.set_cons_succ]
    refine Ord.stepR (v := ?_) (by rfl) ?_ ?_
    rotate_left
    · intro w' hSw
      go_simp
      try with_reducible rfl
    try simp only [Act.put, List.setIfInBounds_toArray, List.set_cons_zero, List.set_cons_succ]
    refine Ord.stepR (v := ?_) (by rfl) ?_ ?_
    rotate_left
    · intro w' hSw
      go_simp
      try with_reducible rfl
    try simp only [Act.put, List.setIfInBounds_toArray, List.set_cons_zero, List.set_cons_succ]
    refine Ord.stepR (v := ?_) (by rfl) ?_ ?_
    rotate_left
    · intro w' hSw
      obtain ⟨⟨_, q20, q21, q22, q23, q24⟩, _⟩ := hSw.2.2.1
      obtain ⟨⟨_, q30, q31, q32, q33, q34⟩, _⟩ := hSw.2.2.2.1
      obtain ⟨⟨_, q40, q41, q42, q43, q44⟩, _⟩ := hSw.2.2.2.2.1
      obtain ⟨⟨_, q50, q51, q52, q53, q54⟩, _⟩ := hSw.2.2.2.2.2.1
      obtain ⟨⟨_, q60, q61, q62, q63, q64⟩, _⟩ := hSw.2.2.2.2.2.2.1
      obtain ⟨⟨_, q70, q71, q72, q73, q74⟩, _⟩ := hSw.2.2.2.2.2.2.2.1
      go_simp
      try with_reducible rfl
    try simp only [Act.put, List.setIfInBounds_toArray, List.set_cons_zero, List.set_cons_succ]
    refine Ord.stepR (v := ?_) (by rfl) ?_ ?_
    rotate_left
    · intro w' hSw
      go_simp
      try with_reducible rfl
    try simp only [Act.put, List.setIfInBounds_toArray, List.set_cons_zero, List.set_cons_succ]
    refine Ord.stepR (v := ?_) (by rfl) ?_ ?_
    rotate_left
    · intro w' hSw
      go_simp
      try with_reducible rfl
    try simp only [Act.put, List.setIfInBounds_toArray, List.set_cons_zero, List.set_cons_succ]
    refine Ord.stepR (v := ?_) (by rfl) ?_ ?_
    rotate_left
    · intro w' hSw
      go_simp
      try with_reducible rfl
    try simp only [Act.put, List.setIfInBounds_toArray, List.set_cons_zero, List.set_cons_succ]
    refine Ord.stepC (v := .bool vb) (by rfl) ?_ (fun w1 hS => (HVC'.out w1 hS.2.1).mono fun e w2 h => ⟨h.1, ⟨hS.1.below (h.2) (Nat.le_refl _), hS.2.1.below (h.2) (Nat.le_refl _), hS.2.2.1.below (h.2), hS.2.2.2.1.below (h.2), hS.2.2.2.2.1.below (h.2), hS.2.2.2.2.2.1.below (h.2), hS.2.2.2.2.2.2.1.below (h.2), hS.2.2.2.2.2.2.2.1.below (h.2), hS.2.2.2.2.2.2.2.2.trans ((h.2).mono hS.2.2.2.2.2.2.2.2.size)⟩⟩) ?_
    · intro w' hSw
      go_simp
      try with_reducible rfl
    try simp only [Act.put, List.setIfInBounds_toArray, List.set_cons_zero, List.set_cons_succ]
    refine Ord.stepR (v := ?_) (by rfl) ?_ ?_
    rotate_left
    · intro w' hSw
      obtain ⟨⟨_, q20, q21, q22, q23, q24⟩, _⟩ := hSw.2.2.1
      obtain ⟨⟨_, q30, q31, q32, q33, q34⟩, _⟩ := hSw.2.2.2.1
      obtain ⟨⟨_, q40, q41, q42, q43, q44⟩, _⟩ := hSw.2.2.2.2.1
      obtain ⟨⟨_, q50, q51, q52, q53, q54⟩, _⟩ := hSw.2.2.2.2.2.1
      obtain ⟨⟨_, q60, q61, q62, q63, q64⟩, _⟩ := hSw.2.2.2.2.2.2.1
      obtain ⟨⟨_, q70, q71, q72, q73, q74⟩, _⟩ := hSw.2.2.2.2.2.2.2.1
      go_simp
      try with_reducible rfl
    try simp only [Act.put, List.setIfInBounds_toArray, List.set_cons_zero, List.set_cons_succ]
    refine Ord.stepR (v := ?_) (by rfl) ?_ ?_
    rotate_left
    · intro w' hSw
      go_simp
      try with_reducible rfl
    try simp only [Act.put, List.setIfInBounds_toArray, List.set_cons_zero, List.set_cons_succ]
    refine Ord.stepR (v := ?_) (by rfl) ?_ ?_
    rotate_left
    · intro w' hSw
      go_simp
      try with_reducible rfl
    try simp only [Act.put, List.setIfInBounds_toArray, List.set_cons_zero, List.set_cons_succ]
    refine Ord.stepR (v := ?_) (by rfl) ?_ ?_
    rotate_left
    · intro w' hSw
      go_simp
      try with_reducible rfl
    try simp only [Act.put, List.setIfInBounds_toArray, List.set_cons_zero, List.set_cons_succ]
    refine Ord.stepC (v := .bool vb) (by rfl) ?_ (fun w1 hS => (HVR'.out w1 hS.2.1).mono fun e w2 h => ⟨h.1, ⟨hS.1.below (h.2) (Nat.le_refl _), hS.2.1.below (h.2) (Nat.le_refl _), hS.2.2.1.below (h.2), hS.2.2.2.1.below (h.2), hS.2.2.2.2.1.below (h.2), hS.2.2.2.2.2.1.below (h.2), hS.2.2.2.2.2.2.1.below (h.2), hS.2.2.2.2.2.2.2.1.below (h.2), hS.2.2.2.2.2.2.2.2.trans ((h.2).mono hS.2.2.2.2.2.2.2.2.size)⟩⟩) ?_
    · intro w' hSw
      go_simp
      try with_reducible rfl
    try simp only [Act.put, List.setIfInBounds_toArray, List.set_cons_zero, List.set_cons_succ]
    refine Ord.stepR (v := ?_) (by rfl) ?_ ?_
    rotate_left
    · intro w' hSw
      go_simp
      try with_reducible rfl
    try simp only [Act.put, List.setIfInBounds_toArray, List.set_cons_zero, List.set_cons_succ]
    refine Ord.stepR (v := ?_) (by rfl) ?_ ?_
    rotate_left
    · intro w' hSw
      go_simp
      try with_reducible rfl
    try simp only [Act.put, List.setIfInBounds_toArray, List.set_cons_zero, List.set_cons_succ]
    refine Ord.stepR (v := ?_) (by rfl) ?_ ?_
    rotate_left
    · intro w' hSw
      go_simp
      try with_reducible rfl
    try simp only [Act.put, List.setIfInBounds_toArray, List.set_cons_zero, List.set_cons_succ]
    refine Ord.stepD fun Z1 hZ => ?_
    replace HR := Lib.hid hZ.1
    replace HR2 := Lib.hid hZ.2.1
    replace HXS := Lib.hid hZ.2.2.1
    replace HXX := Lib.hid hZ.2.2.2.1
    replace HXA := Lib.hid hZ.2.2.2.2.1
    replace HXC := Lib.hid hZ.2.2.2.2.2.1
    replace HXU := Lib.hid hZ.2.2.2.2.2.2.1
    replace HXV := Lib.hid hZ.2.2.2.2.2.2.2.1
    have HB15 := Lib.hid (Bel.call HB14.out hZ.2.2.2.2.2.2.2.2)
    clear hZ
    go_wp2_with fail
    have hdr : SReads Z1.drew (some ⟨gg, oo, none⟩) ys ∧ SReads Z1.drew A2 ps ∧ C5 w.heap.size Z1.drew (.string O) (.int .u64 (t : Int)) (.int .i64 m) (.string R) (.string G) ∧ C5 w3.heap.size Z1.drew (.string O) (.int .u64 (t : Int)) (.int .i64 m) (.string R) (.string G) ∧ C5 w5.heap.size Z1.drew (.string eO) (.int .u64 (bt : Int)) (.int .i64 bm) (.string eR) (.string eG) ∧ C5 w7.heap.size Z1.drew (.string eO) (.int .u64 (bt : Int)) (.int .i64 bm) (.string eR) (.string eG) ∧ C5 w11.heap.size Z1.drew (.string dO) (.int .u64 (tt : Int)) (.int .i64 tm) (.string dR) (.string dG) ∧ C5 w13.heap.size Z1.drew (.string dO) (.int .u64 (tt : Int)) (.int .i64 tm) (.string dR) (.string dG) ∧ Below Z1.heap.size Z1 Z1.drew := ⟨HR.out.below (Below.drewN' (Below.refl Z1.heap.size Z1) 1) (Nat.le_refl _), HR2.out.below (Below.drewN' (Below.refl Z1.heap.size Z1) 1) (Nat.le_refl _), HXS.out.below (Below.drewN' (Below.refl Z1.heap.size Z1) 1), HXX.out.below (Below.drewN' (Below.refl Z1.heap.size Z1) 1), HXA.out.below (Below.drewN' (Below.refl Z1.heap.size Z1) 1), HXC.out.below (Below.drewN' (Below.refl Z1.heap.size Z1) 1), HXU.out.below (Below.drewN' (Below.refl Z1.heap.size Z1) 1), HXV.out.below (Below.drewN' (Below.refl Z1.heap.size Z1) 1), (Below.drewN' (Below.refl Z1.heap.size Z1) 1)⟩
    refine Ord.region_lit (S := fun w' => SReads w' (some ⟨gg, oo, none⟩) ys ∧ SReads w' A2 ps ∧ C5 w.heap.size w' (.string O) (.int .u64 (t : Int)) (.int .i64 m) (.string R) (.string G) ∧ C5 w3.heap.size w' (.string O) (.int .u64 (t : Int)) (.int .i64 m) (.string R) (.string G) ∧ C5 w5.heap.size w' (.string eO) (.int .u64 (bt : Int)) (.int .i64 bm) (.string eR) (.string eG) ∧ C5 w7.heap.size w' (.string eO) (.int .u64 (bt : Int)) (.int .i64 bm) (.string eR) (.string eG) ∧ C5 w11.heap.size w' (.string dO) (.int .u64 (tt : Int)) (.int .i64 tm) (.string dR) (.string dG) ∧ C5 w13.heap.size w' (.string dO) (.int .u64 (tt : Int)) (.int .i64 tm) (.string dR) (.string dG) ∧ Below Z1.heap.size Z1 w') (by kernel_rfl) (by kernel_rfl) hdr ?_
    clear hdr
    refine Ord.stepR (v := ?_) (by rfl) ?_ ?_
    rotate_left
    · intro w' hSw
      go_simp
      try with_reducible rfl
    try simp only [Act.put, List.setIfInBounds_toArray, List.set_cons_zero, List.set_cons_succ]
    refine Ord.stepR (v := ?_) (by rfl) ?_ ?_
    rotate_left
    · intro w' hSw
      go_simp
      try with_reducible rfl
    try simp only [Act.put, List.setIfInBounds_toArray, List.set_cons_zero, List.set_cons_succ]
    refine Ord.stepR (v := ?_) (by rfl) ?_ ?_
    rotate_left
    · intro w' hSw
      obtain ⟨⟨_, q20, q21, q22, q23, q24⟩, _⟩ := hSw.2.2.1
      obtain ⟨⟨_, q30, q31, q32, q33, q34⟩, _⟩ := hSw.2.2.2.1
      obtain ⟨⟨_, q40, q41, q42, q43, q44⟩, _⟩ := hSw.2.2.2.2.1
      obtain ⟨⟨_, q50, q51, q52, q53, q54⟩, _⟩ := hSw.2.2.2.2.2.1
      obtain ⟨⟨_, q60, q61, q62, q63, q64⟩, _⟩ := hSw.2.2.2.2.2.2.1
      obtain ⟨⟨_, q70, q71, q72, q73, q74⟩, _⟩ := hSw.2.2.2.2.2.2.2.1
      go_simp
      try with_reducible rfl
    try simp only [Act.put, List.setIfInBounds_toArray, List.set_cons_zero, List.set_cons_succ]
    refine Ord.stepC (v := .agg #[.string eO, .int .u64 (bt : Int), .int .i64 bm, .string eR, .string eG]) (by rfl) ?_ (fun w1 hS => (HAS.out eO bt bm eR eG w1).mono fun e w2 h => ⟨h.1, ⟨hS.1.below (h.2) (Nat.le_refl _), hS.2.1.below (h.2) (Nat.le_refl _), hS.2.2.1.below (h.2), hS.2.2.2.1.below (h.2), hS.2.2.2.2.1.below (h.2), hS.2.2.2.2.2.1.below (h.2), hS.2.2.2.2.2.2.1.below (h.2), hS.2.2.2.2.2.2.2.1.below (h.2), hS.2.2.2.2.2.2.2.2.trans ((h.2).mono hS.2.2.2.2.2.2.2.2.size)⟩⟩) ?_
    · intro w' hSw
      go_simp
      try with_reducible rfl
    try simp only [Act.put, List.setIfInBounds_toArray, List.set_cons_zero, List.set_cons_succ]
    refine Ord.stepR (v := ?_) (by rfl) ?_ ?_
    rotate_left
    · intro w' hSw
      obtain ⟨⟨_, q20, q21, q22, q23, q24⟩, _⟩ := hSw.2.2.1
      obtain ⟨⟨_, q30, q31, q32, q33, q34⟩, _⟩ := hSw.2.2.2.1
      obtain ⟨⟨_, q40, q41, q42, q43, q44⟩, _⟩ := hSw.2.2.2.2.1
      obtain ⟨⟨_, q50, q51, q52, q53, q54⟩, _⟩ := hSw.2.2.2.2.2.1
      obtain ⟨⟨_, q60, q61, q62, q63, q64⟩, _⟩ := hSw.2.2.2.2.2.2.1
      obtain ⟨⟨_, q70, q71, q72, q73, q74⟩, _⟩ := hSw.2.2.2.2.2.2.2.1
      go_simp
      try with_reducible rfl
    try simp only [Act.put, List.setIfInBounds_toArray, List.set_cons_zero, List.set_cons_succ]
    refine Ord.stepR (v := ?_) (by rfl) ?_ ?_
    rotate_left
    · intro w' hSw
      go_simp
      try with_reducible rfl
    try simp only [Act.put, List.setIfInBounds_toArray, List.set_cons_zero, List.set_cons_succ]
    refine Ord.stepR (v := ?_) (by rfl) ?_ ?_
    rotate_left
    · intro w' hSw
      go_simp
      try with_reducible rfl
    try simp only [Act.put, List.setIfInBounds_toArray, List.set_cons_zero, List.set_cons_succ]
    refine Ord.stepR (v := ?_) (by rfl) ?_ ?_
    rotate_left
    · intro w' hSw
      go_simp
      try with_reducible rfl
    try simp only [Act.put, List.setIfInBounds_toArray, List.set_cons_zero, List.set_cons_succ]
    refine Ord.stepR (v := ?_) (by rfl) ?_ ?_
    rotate_left
    · intro w' hSw
      go_simp
      try with_reducible rfl
    try simp only [Act.put, List.setIfInBounds_toArray, List.set_cons_zero, List.set_cons_succ]
    refine Ord.stepR (v := ?_) (by rfl) ?_ ?_
    rotate_left
    · intro w' hSw
      go_simp
      try with_reducible rfl
    try simp only [Act.put, List.setIfInBounds_toArray, List.set_cons_zero, List.set_cons_succ]
    refine Ord.stepR (v := ?_) (by rfl) ?_ ?_
    rotate_left
    · intro w' hSw
      go_simp
      try with_reducible rfl
    try simp only [Act.put, List.setIfInBounds_toArray, List.set_cons_zero, List.set_cons_succ]
    refine Ord.stepR (v := ?_) (by rfl) ?_ ?_
    rotate_left
    · intro w' hSw
      go_simp
      try with_reducible rfl
    try simp only [Act.put, List.setIfInBounds_toArray, List.set_cons_zero, List.set_cons_succ]
    refine Ord.stepR (v := ?_) (by rfl) ?_ ?_
    rotate_left
    · intro w' hSw
      go_simp
      try with_reducible rfl
    try simp only [Act.put, List.setIfInBounds_toArray, List.set_cons_zero, List.set_cons_succ]
    refine Ord.stepR (v := ?_) (by rfl) ?_ ?_
    rotate_left
    · intro w' hSw
      go_simp
      try with_reducible rfl
    try simp only [Act.put, List.setIfInBounds_toArray, List.set_cons_zero, List.set_cons_succ]
    refine Ord.stepR (v := ?_) (by rfl) ?_ ?_
    rotate_left
    · intro w' hSw
      go_simp
      try with_reducible rfl
    try simp only [Act.put, List.setIfInBounds_toArray, List.set_cons_zero, List.set_cons_succ]
    refine Ord.stepR (v := ?_) (by rfl) ?_ ?_
    rotate_left
    · intro w' hSw
      go_simp
      try with_reducible rfl
    try simp only [Act.put, List.setIfInBounds_toArray, List.set_cons_zero, List.set_cons_succ]
    refine Ord.stepR (v := ?_) (by rfl) ?_ ?_
    rotate_left
    · intro w' hSw
      go_simp
      try with_reducible rfl
    try simp only [Act.put, List.setIfInBounds_toArray, List.set_cons_zero, List.set_cons_succ]
    refine Ord.stepR (v := ?_) (by rfl) ?_ ?_
    rotate_left
    · intro w' hSw
      go_simp
      try with_reducible rfl
    try simp only [Act.put, List.setIfInBounds_toArray, List.set_cons_zero, List.set_cons_succ]
    refine Ord.stepR (v := ?_) (by rfl) ?_ ?_
    rotate_left
    · intro w' hSw
      go_simp
      try with_reducible rfl
    try simp only [Act.put, List.setIfInBounds_toArray, List.set_cons_zero, List.set_cons_succ]
    refine Ord.stepR (v := ?_) (by rfl) ?_ ?_
    rotate_left
    · intro w' hSw
      go_simp
      try with_reducible rfl
    try simp only [Act.put, List.setIfInBounds_toArray, List.set_cons_zero, List.set_cons_succ]
    refine Ord.stepR (v := ?_) (by rfl) ?_ ?_
    rotate_left
    · intro w' hSw
      go_simp
      try with_reducible rfl
    try simp only [Act.put, List.setIfInBounds_toArray, List.set_cons_zero, List.set_cons_succ]
    refine Ord.stepR (v := ?_) (by rfl) ?_ ?_
    rotate_left
    · intro w' hSw
      go_simp
      try with_reducible rfl
    try simp only [Act.put, List.setIfInBounds_toArray, List.set_cons_zero, List.set_cons_succ]
    refine Ord.stepR (v := ?_) (by rfl) ?_ ?_
    rotate_left
    · intro w' hSw
      go_simp
      try with_reducible rfl
    try simp only [Act.put, List.setIfInBounds_toArray, List.set_cons_zero, List.set_cons_succ]
    refine Ord.stepR (v := ?_) (by rfl) ?_ ?_
    rotate_left
    · intro w' hSw
      obtain ⟨⟨_, q20, q21, q22, q23, q24⟩, _⟩ := hSw.2.2.1
      obtain ⟨⟨_, q30, q31, q32, q33, q34⟩, _⟩ := hSw.2.2.2.1
      obtain ⟨⟨_, q40, q41, q42, q43, q44⟩, _⟩ := hSw.2.2.2.2.1
      obtain ⟨⟨_, q50, q51, q52, q53, q54⟩, _⟩ := hSw.2.2.2.2.2.1
      obtain ⟨⟨_, q60, q61, q62, q63, q64⟩, _⟩ := hSw.2.2.2.2.2.2.1
      obtain ⟨⟨_, q70, q71, q72, q73, q74⟩, _⟩ := hSw.2.2.2.2.2.2.2.1
      go_simp
      try with_reducible rfl
    try simp only [Act.put, List.setIfInBounds_toArray, List.set_cons_zero, List.set_cons_succ]
    refine Ord.stepC (v := .agg #[.string dO, .int .u64 (tt : Int), .int .i64 tm, .string dR, .string dG]) (by rfl) ?_ (fun w1 hS => (HAS.out dO tt tm dR dG w1).mono fun e w2 h => ⟨h.1, ⟨hS.1.below (h.2) (Nat.le_refl _), hS.2.1.below (h.2) (Nat.le_refl _), hS.2.2.1.below (h.2), hS.2.2.2.1.below (h.2), hS.2.2.2.2.1.below (h.2), hS.2.2.2.2.2.1.below (h.2), hS.2.2.2.2.2.2.1.below (h.2), hS.2.2.2.2.2.2.2.1.below (h.2), hS.2.2.2.2.2.2.2.2.trans ((h.2).mono hS.2.2.2.2.2.2.2.2.size)⟩⟩) ?_
    · intro w' hSw
      go_simp
      try with_reducible rfl
    try simp only [Act.put, List.setIfInBounds_toArray, List.set_cons_zero, List.set_cons_succ]
    refine Ord.stepR (v := ?_) (by rfl) ?_ ?_
    rotate_left
    · intro w' hSw
      obtain ⟨⟨_, q20, q21, q22, q23, q24⟩, _⟩ := hSw.2.2.1
      obtain ⟨⟨_, q30, q31, q32, q33, q34⟩, _⟩ := hSw.2.2.2.1
      obtain ⟨⟨_, q40, q41, q42, q43, q44⟩, _⟩ := hSw.2.2.2.2.1
      obtain ⟨⟨_, q50, q51, q52, q53, q54⟩, _⟩ := hSw.2.2.2.2.2.1
      obtain ⟨⟨_, q60, q61, q62, q63, q64⟩, _⟩ := hSw.2.2.2.2.2.2.1
      obtain ⟨⟨_, q70, q71, q72, q73, q74⟩, _⟩ := hSw.2.2.2.2.2.2.2.1
      go_simp
      try with_reducible rfl
    try simp only [Act.put, List.setIfInBounds_toArray, List.set_cons_zero, List.set_cons_succ]
    refine Ord.stepR (v := ?_) (by rfl) ?_ ?_
    rotate_left
    · intro w' hSw
      go_simp
      try with_reducible rfl
    try simp only [Act.put, List.setIfInBounds_toArray, List.set_cons_zero, List.set_cons_succ]
    refine Ord.stepR (v := ?_) (by rfl) ?_ ?_
    rotate_left
    · intro w' hSw
      go_simp
      try with_reducible rfl
    try simp only [Act.put, List.setIfInBounds_toArray, List.set_cons_zero, List.set_cons_succ]
    refine Ord.stepR (v := ?_) (by rfl) ?_ ?_
    rotate_left
    · intro w' hSw
      go_simp
      try with_reducible rfl
    try simp only [Act.put, List.setIfInBounds_toArray, List.set_cons_zero, List.set_cons_succ]
    refine Ord.stepR (v := ?_) (by rfl) ?_ ?_
    rotate_left
    · intro w' hSw
      go_simp
      try with_reducible rfl
    try simp only [Act.put, List.setIfInBounds_toArray, List.set_cons_zero, List.set_cons_succ]
    refine Ord.stepR (v := ?_) (by rfl) ?_ ?_
    rotate_left
    · intro w' hSw
      go_simp
      try with_reducible rfl
    try simp only [Act.put, List.setIfInBounds_toArray, List.set_cons_zero, List.set_cons_succ]
    refine Ord.stepR (v := ?_) (by rfl) ?_ ?_
    rotate_left
    · intro w' hSw
      go_simp
      try with_reducible rfl
    try simp only [Act.put, List.setIfInBounds_toArray, List.set_cons_zero, List.set_cons_succ]
    refine Ord.stepR (v := ?_) (by rfl) ?_ ?_
    rotate_left
    · intro w' hSw
      go_simp
      try with_reducible rfl
    try simp only [Act.put, List.setIfInBounds_toArray, List.set_cons_zero, List.set_cons_succ]
    refine Ord.stepR (v := ?_) (by rfl) ?_ ?_
    rotate_left
    · intro w' hSw
      go_simp
      try with_reducible rfl
    try simp only [Act.put, List.setIfInBounds_toArray, List.set_cons_zero, List.set_cons_succ]
    refine Ord.stepD fun Z2 hZ => ?_
    replace HR := Lib.hid hZ.1
    replace HR2 := Lib.hid hZ.2.1
    replace HXS := Lib.hid hZ.2.2.1
    replace HXX := Lib.hid hZ.2.2.2.1
    replace HXA := Lib.hid hZ.2.2.2.2.1
    replace HXC := Lib.hid hZ.2.2.2.2.2.1
    replace HXU := Lib.hid hZ.2.2.2.2.2.2.1
    replace HXV := Lib.hid hZ.2.2.2.2.2.2.2.1
    have HB16 := Lib.hid (Bel.call HB15.out hZ.2.2.2.2.2.2.2.2)
    clear hZ
    go_wp2
    go_ret
    exact ⟨rfl, HB16.out⟩
end Go.Proofs.YtmmeklemaofmjaaGreat.Frs
