/-
  THE LAW DataTells, walked over the landed code. By an AI agent; no person has read it.
-/
import Derived.Test.YtjdignbmlfbdnaaGreatQShown
import Derived.Test.YtjdignbmlfbdnaaGreatQDOpen
namespace Go.Proofs.YtjdignbmlfbdnaaGreat.Dta
open Go.RowKit Wire Term Draw Reg Clo

set_option linter.unusedSimpArgs false
set_option linter.unusedVariables false
set_option maxHeartbeats 2000000 in
set_option maxRecDepth 1000000 in
theorem as_any (ep : Int) (S G : ByteArray) (w : World) : Calls Tryz.prog 6 #[.agg #[.int .i64 ep, .string S, .string G]] w fun e w' => e = .returned (.agg #[.int .i64 ep, .string S, .string G]) ∧ Below w.heap.size w w' := by
  go_enter Tryz.func6, Tryz.ntmps6
  go_wp2
  refine bodyPost_ret (v := .agg #[.int .i64 ep, .string S, .string G]) (by simp [results, Tryz.results6, go_sem]) rfl ?_
  exact ⟨rfl, ((Below.refl _ _).alloc (Nat.le_refl _) _).alloc (by simp) _⟩
/-- The law's six blobs. -/
def Six (w0 w : World) (gb gx gd gu gp gq : Nat) (ep : Int) (S G : ByteArray) (te : Int) (TS TG : ByteArray) (be : Int) (BS BG : ByteArray) : Prop := B3 gb w ep S G ∧ B3 gx w ep S G ∧ B3 gd w te TS TG ∧ B3 gu w te TS TG ∧ B3 gp w be BS BG ∧ B3 gq w be BS BG ∧ Below w0.heap.size w0 w
theorem Six.below {w0 w w1 : World} {gb gx gd gu gp gq : Nat} {ep : Int} {S G : ByteArray} {te : Int} {TS TG : ByteArray} {be : Int} {BS BG : ByteArray} (h : Six w0 w gb gx gd gu gp gq ep S G te TS TG be BS BG) (hb : Below w.heap.size w w1) : Six w0 w1 gb gx gd gu gp gq ep S G te TS TG be BS BG := ⟨h.1.below hb, h.2.1.below hb, h.2.2.1.below hb, h.2.2.2.1.below hb, h.2.2.2.2.1.below hb, h.2.2.2.2.2.1.below hb, Bel.call h.2.2.2.2.2.2 hb⟩
theorem wrap_small {z : Int} (h0 : 0 ≤ z) (h : z ≤ 9223372036854775807) : IntKind.i64.wrap z = z := by rw [IntKind.wrap_i64]; omega
set_option maxHeartbeats 8000000 in
set_option maxRecDepth 1000000 in
theorem tells_walk (ep0 : Int) (S G s st : ByteArray) (ep : Int) (sn p : ByteArray) (A : Option Addr) (cc : Nat) (vs : List ByteArray) (w : World) (he0 : -9223372036854775808 ≤ ep0 ∧ ep0 ≤ 9223372036854775807) (hep : -9223372036854775808 ≤ ep ∧ ep ≤ 9223372036854775807)
    (z1 : S.size ≤ 140737488351232) (z2 : G.size ≤ 140737488351232) (z3 : s.size ≤ 140737488351232) (z4 : st.size ≤ 140737488351232) (z5 : sn.size ≤ 140737488351232) (z6 : p.size ≤ 140737488351232) (z7 : vs.length ≤ 140737488351232) (hr : SReads w A vs) :
    Calls Tryz.prog 3 #[.agg #[.int .i64 ep0, .string S, .string G], .string s, .string st, .int .i64 ep, .string sn, .string p, .slice A vs.length cc] w fun e w' => e = .returned (.bool true) ∧ Below w.heap.size w w' := by
  have HSH := Lib.hid fun w => shown9_any w
  have hw1 := wrap_small (z := (S.size : Int) + (G.size : Int)) (by omega) (by omega)
  have hw2 := wrap_small (z := (S.size : Int) + (G.size : Int) + (s.size : Int)) (by omega) (by omega)
  have hw3 := wrap_small (z := (st.size : Int) + (sn.size : Int)) (by omega) (by omega)
  have hw4 := wrap_small (z := (st.size : Int) + (sn.size : Int) + (p.size : Int)) (by omega) (by omega)
  by_cases t1 : 9000 < (S.size : Int) + (G.size : Int) + (s.size : Int)
  · go_enter Tryz.func3, Tryz.ntmps3
    go_wp2_with fail
    have HD0 := Lib.hid (dd_new w ep0 S G A vs hr 23)
    generalize w.alloc (.cells #[.int .i64 ep0, .string S, .string G] 23) = w0 at HD0 ⊢
    with_reducible refine (HSH.out _).mono ?_
    rintro e w1 ⟨rfl, hb1⟩
    have HD1 := Lib.hid (HD0.out.below hb1)
    clear hb1 HD0
    obtain ⟨⟨_, c0, c1, c2⟩, _⟩ := HD1.out
    dsimp only
    go_wp2
    go_ret
    exact ⟨rfl, HD1.out.2.2⟩
  have t1' : (S.size : Int) + (G.size : Int) + (s.size : Int) ≤ 9000 := by omega
  by_cases t2 : 9000 < (st.size : Int) + (sn.size : Int) + (p.size : Int)
  · go_enter Tryz.func3, Tryz.ntmps3
    go_wp2_with fail
    have HD0 := Lib.hid (dd_new w ep0 S G A vs hr 23)
    generalize w.alloc (.cells #[.int .i64 ep0, .string S, .string G] 23) = w0 at HD0 ⊢
    with_reducible refine (HSH.out _).mono ?_
    rintro e w1 ⟨rfl, hb1⟩
    have HD1 := Lib.hid (HD0.out.below hb1)
    clear hb1 HD0
    obtain ⟨⟨_, c0, c1, c2⟩, _⟩ := HD1.out
    dsimp only
    go_wp2
    go_ret
    exact ⟨rfl, HD1.out.2.2⟩
  have t2' : (st.size : Int) + (sn.size : Int) + (p.size : Int) ≤ 9000 := by omega
  by_cases t3 : 20 < (vs.length : Int)
  · go_enter Tryz.func3, Tryz.ntmps3
    go_wp2_with fail
    have HD0 := Lib.hid (dd_new w ep0 S G A vs hr 23)
    generalize w.alloc (.cells #[.int .i64 ep0, .string S, .string G] 23) = w0 at HD0 ⊢
    with_reducible refine (HSH.out _).mono ?_
    rintro e w1 ⟨rfl, hb1⟩
    have HD1 := Lib.hid (HD0.out.below hb1)
    clear hb1 HD0
    obtain ⟨⟨_, c0, c1, c2⟩, _⟩ := HD1.out
    dsimp only
    go_wp2
    go_ret
    exact ⟨rfl, HD1.out.2.2⟩
  have t3' : (vs.length : Int) ≤ 20 := by omega
  have HAS := Lib.hid fun w => as_any ep0 S G w
  have HPC := Lib.hid fun w => cput_any ep0 S G w (by omega) (by omega)
  have HPR := Lib.hid fun w => rput_any ep0 S G w (by omega) (by omega)
  obtain ⟨pl, pf, hput⟩ : ∃ pl pf, putB ⟨ep0, S.data.toList, G.data.toList⟩ = (pl, pf) := ⟨_, _, rfl⟩
  rw [hput] at HPC HPR
  have HTC : Hid (∀ w, Calls Tryz.prog 9 #[.string s] w fun e w' => Bs (takeB s.data.toList) e ∧ Below w.heap.size w w') := Lib.hid fun w => ctake_any s w (by omega)
  have HTR : Hid (∀ w, Calls Tryz.prog 10 #[.string s] w fun e w' => Bs (takeB s.data.toList) e ∧ Below w.heap.size w w') := Lib.hid fun w => rtake_any s w (by omega)
  obtain ⟨te, tl, tg, tf, htk⟩ : ∃ te tl tg tf, takeB s.data.toList = (⟨te, tl, tg⟩, tf) := ⟨_, _, _, _, rfl⟩
  rw [htk] at HTC HTR
  have HBC := Lib.hid fun w => cbuild_any st ep sn p s w (by omega) (by omega) (by omega) (by omega)
  have HBR := Lib.hid fun w => rbuild_any st ep sn p s w (by omega) (by omega) (by omega) (by omega)
  obtain ⟨be, bl', bg, bf, hbd⟩ : ∃ be bl' bg bf, build st.data.toList ep sn.data.toList p.data.toList s.data.toList = (⟨be, bl', bg⟩, bf) := ⟨_, _, _, _, rfl⟩
  rw [hbd] at HBC HBR
  have HAT := Lib.hid fun T1 T2 w => as_any te T1 T2 w
  have HAB := Lib.hid fun T1 T2 w => as_any be T1 T2 w
  obtain ⟨ol, of, hop⟩ : ∃ ol of, openB ⟨ep0, S.data.toList, G.data.toList⟩ (bl vs) st.data.toList ep p.data.toList = (ol, of) := ⟨_, _, rfl⟩
  have HOC : Hid ((∀ v ∈ vs, v.size ≤ 100000) → ∀ w, SReads w A vs → Calls Tryz.prog 13 #[.agg #[.int .i64 ep0, .string S, .string G], .slice A vs.length cc, .string st, .int .i64 ep, .string p] w fun e w' => Sr (ol, of) e ∧ Below w.heap.size w w') := Lib.hid fun hv w hr => by
    have := copen_any ep0 S G A cc vs st ep p w (by omega) (by omega) (by omega) (by omega) (by omega) hv hep hr
    rw [hop] at this
    exact this
  have HOR : Hid ((∀ v ∈ vs, v.size ≤ 100000) → ∀ w, SReads w A vs → Calls Tryz.prog 14 #[.agg #[.int .i64 ep0, .string S, .string G], .slice A vs.length cc, .string st, .int .i64 ep, .string p] w fun e w' => Sr (ol, of) e ∧ Below w.heap.size w w') := Lib.hid fun hv w hr => by
    have := ropen_any ep0 S G A cc vs st ep p w (by omega) (by omega) (by omega) (by omega) (by omega) hv hep hr
    rw [hop] at this
    exact this
  have HRC := Lib.hid fun w => cright_any ep0 S G w (by omega) (by omega)
  have HRR := Lib.hid fun w => rright_any ep0 S G w (by omega) (by omega)
  obtain ⟨rb, hrb⟩ : ∃ rb, decide (BR ⟨ep0, S.data.toList, G.data.toList⟩) = rb := ⟨_, rfl⟩
  rw [hrb] at HRC HRR
  clear hput htk hbd hop hrb he0 hep
  go_enter Tryz.func3, Tryz.ntmps3
  go_wp2_with fail
  have HD0 := Lib.hid (dd_new w ep0 S G A vs hr 23)
  generalize w.alloc (.cells #[.int .i64 ep0, .string S, .string G] 23) = w0 at HD0 ⊢
  with_reducible refine (HSH.out _).mono ?_
  rintro e w1 ⟨rfl, hb1⟩
  have HD1 := Lib.hid (HD0.out.below hb1)
  clear hb1 HD0
  obtain ⟨⟨_, c0, c1, c2⟩, _⟩ := HD1.out
  dsimp only
  go_wp2_with fail
  clear c0 c1 c2
  go_loopw [16] (fun i wr => ∃ k : Nat, k ≤ vs.length ∧ i = .int .i64 k ∧ Hid (DD w wr ep0 S G A vs) ∧ Hid (∀ j, j < k → (vs.getD j ByteArray.empty).size ≤ 2000)) (fun i _ => vs.length - (intOf i).toNat)
  case atStart => exact ⟨0, Nat.zero_le _, rfl, HD1, Lib.hid fun j hj => absurd hj (Nat.not_lt_zero _)⟩
  case round =>
    obtain ⟨k, hk, rfl, HD, HJ⟩ := hrel
    clear HD1
    by_cases hlt : k < vs.length
    · obtain ⟨gg, off, hA, hblt, hcell⟩ := HD.out.2.1 k hlt
      subst hA
      obtain ⟨z, hzz⟩ : ∃ z, vs.getD k ByteArray.empty = z := ⟨_, rfl⟩
      rw [hzz] at hcell
      have hki : (k : Int) < (vs.length : Int) := by omega
      by_cases hbig : 2000 < (z.size : Int)
      · go_wp2
        go_ret
        exact ⟨rfl, HD.out.2.2⟩
      · have hz2 : (z.size : Int) ≤ 2000 := by omega
        go_wp2
        go_roundw
        case rel => exact ⟨k + 1, by omega, by go_num, HD, Lib.hid fun j hj => by
          rcases Nat.lt_or_ge j k with h | h
          · exact HJ.out j h
          · rw [show j = k by omega, hzz]; omega⟩
        case measure => simp [intOf]; omega
    · have hall : ∀ v ∈ vs, v.size ≤ 100000 := fun v hv => by
        obtain ⟨j, hj, rfl⟩ := List.mem_iff_getElem.1 hv
        have := HJ.out j (by omega)
        rw [List.getD, List.getElem?_eq_getElem hj] at this
        exact Nat.le_trans this (by decide)
      obtain rfl : k = vs.length := by omega
      clear HJ hk hlt
      have HB1 := Lib.hid HD.out.2.2
      have HXB := Lib.hid HD.out.1
      have HRV := Lib.hid HD.out.2.1
      have HVZ := Lib.hid hall
      clear HD hall
      obtain ⟨_, c0, c1, c2⟩ := HXB.out
      go_wp2_with fail
      with_reducible refine (HAS.out _).mono ?_
      rintro e w2 ⟨rfl, hb2⟩
      have HB2 := Lib.hid (Bel.call HB1.out hb2)
      replace HXB := Lib.hid (HXB.out.below hb2)
      replace HRV := Lib.hid (HRV.out.below hb2 (Nat.le_refl _))
      clear hb2
      dsimp only
      clear c0 c1 c2
      obtain ⟨_, c0, c1, c2⟩ := HXB.out
      have hbl := HXB.out.1
      have hbn := Nat.ne_of_lt hbl
      go_wp2_with fail
      have hbS : Below w2.heap.size w2 (w2.alloc (.cells #[.int .i64 ep0, .string S, .string G] 26)) := (Below.refl w2.heap.size w2).alloc (Nat.le_refl _) _
      have hxS := (r3_new w2 (ep0) S G 26).1
      generalize w2.alloc (.cells #[.int .i64 ep0, .string S, .string G] 26) = wSX at hbS hxS ⊢
      have HB3 := Lib.hid (Bel.call HB2.out hbS)
      replace HXB := Lib.hid (HXB.out.below hbS)
      replace HRV := Lib.hid (HRV.out.below hbS (Nat.le_refl _))
      have HXX := Lib.hid hxS
      clear hbS hxS
      clear c0 c1 c2
      with_reducible refine (HPC.out _).mono ?_
      rintro e w4 ⟨⟨P1, hP1, rfl⟩, hb4⟩
      have HB4 := Lib.hid (Bel.call HB3.out hb4)
      replace HXB := Lib.hid (HXB.out.below hb4)
      replace HRV := Lib.hid (HRV.out.below hb4 (Nat.le_refl _))
      replace HXX := Lib.hid (HXX.out.below hb4)
      clear hb4
      have HP1 := Lib.hid hP1
      clear hP1
      dsimp only
      obtain ⟨_, c0, c1, c2⟩ := HXX.out
      go_wp2_with fail
      with_reducible refine (HPR.out _).mono ?_
      rintro e w5 ⟨⟨P2, hP2, rfl⟩, hb5⟩
      have HB5 := Lib.hid (Bel.call HB4.out hb5)
      replace HXB := Lib.hid (HXB.out.below hb5)
      replace HRV := Lib.hid (HRV.out.below hb5 (Nat.le_refl _))
      replace HXX := Lib.hid (HXX.out.below hb5)
      clear hb5
      obtain rfl : P2 = P1 := str_eq (hP2.trans HP1.out.symm)
      clear hP2
      dsimp only
      clear c0 c1 c2
      go_wp2_with fail
      with_reducible refine (HTC.out _).mono ?_
      rintro e w6 ⟨hx, hb6⟩
      have HB6 := Lib.hid (Bel.call HB5.out hb6)
      replace HXB := Lib.hid (HXB.out.below hb6)
      replace HRV := Lib.hid (HRV.out.below hb6 (Nat.le_refl _))
      replace HXX := Lib.hid (HXX.out.below hb6)
      clear hb6
      obtain ⟨SD, GD, hSD, hGD, rfl⟩ := bs_open hx
      have HSD := Lib.hid hSD
      have HGD := Lib.hid hGD
      clear hx hSD hGD
      dsimp only
      go_wp2_with fail
      have hbS : Below w6.heap.size w6 (w6.alloc (.cells #[.int .i64 te, .string SD, .string GD] 23)) := (Below.refl w6.heap.size w6).alloc (Nat.le_refl _) _
      have hxS := (r3_new w6 (te) SD GD 23).1
      generalize w6.alloc (.cells #[.int .i64 te, .string SD, .string GD] 23) = wSD at hbS hxS ⊢
      have HB7 := Lib.hid (Bel.call HB6.out hbS)
      replace HXB := Lib.hid (HXB.out.below hbS)
      replace HRV := Lib.hid (HRV.out.below hbS (Nat.le_refl _))
      replace HXX := Lib.hid (HXX.out.below hbS)
      have HXD := Lib.hid hxS
      clear hbS hxS
      with_reducible refine (HTR.out _).mono ?_
      rintro e w8 ⟨hx, hb8⟩
      have HB8 := Lib.hid (Bel.call HB7.out hb8)
      replace HXB := Lib.hid (HXB.out.below hb8)
      replace HRV := Lib.hid (HRV.out.below hb8 (Nat.le_refl _))
      replace HXX := Lib.hid (HXX.out.below hb8)
      replace HXD := Lib.hid (HXD.out.below hb8)
      clear hb8
      obtain ⟨SU, GU, hSU, hGU, rfl⟩ := bs_open hx
      have HSU := Lib.hid hSU
      have HGU := Lib.hid hGU
      clear hx hSU hGU
      dsimp only
      obtain rfl : SD = SU := str_eq (HSD.out.trans HSU.out.symm)
      obtain rfl : GD = GU := str_eq (HGD.out.trans HGU.out.symm)
      go_wp2_with fail
      have hbS : Below w8.heap.size w8 (w8.alloc (.cells #[.int .i64 te, .string SD, .string GD] 26)) := (Below.refl w8.heap.size w8).alloc (Nat.le_refl _) _
      have hxS := (r3_new w8 (te) SD GD 26).1
      generalize w8.alloc (.cells #[.int .i64 te, .string SD, .string GD] 26) = wSU at hbS hxS ⊢
      have HB9 := Lib.hid (Bel.call HB8.out hbS)
      replace HXB := Lib.hid (HXB.out.below hbS)
      replace HRV := Lib.hid (HRV.out.below hbS (Nat.le_refl _))
      replace HXX := Lib.hid (HXX.out.below hbS)
      replace HXD := Lib.hid (HXD.out.below hbS)
      have HXU := Lib.hid hxS
      clear hbS hxS
      with_reducible refine (HBC.out _).mono ?_
      rintro e w10 ⟨hx, hb10⟩
      have HB10 := Lib.hid (Bel.call HB9.out hb10)
      replace HXB := Lib.hid (HXB.out.below hb10)
      replace HRV := Lib.hid (HRV.out.below hb10 (Nat.le_refl _))
      replace HXX := Lib.hid (HXX.out.below hb10)
      replace HXD := Lib.hid (HXD.out.below hb10)
      replace HXU := Lib.hid (HXU.out.below hb10)
      clear hb10
      obtain ⟨SP, GP, hSP, hGP, rfl⟩ := bs_open hx
      have HSP := Lib.hid hSP
      have HGP := Lib.hid hGP
      clear hx hSP hGP
      dsimp only
      go_wp2_with fail
      have hbS : Below w10.heap.size w10 (w10.alloc (.cells #[.int .i64 be, .string SP, .string GP] 23)) := (Below.refl w10.heap.size w10).alloc (Nat.le_refl _) _
      have hxS := (r3_new w10 (be) SP GP 23).1
      generalize w10.alloc (.cells #[.int .i64 be, .string SP, .string GP] 23) = wSP at hbS hxS ⊢
      have HB11 := Lib.hid (Bel.call HB10.out hbS)
      replace HXB := Lib.hid (HXB.out.below hbS)
      replace HRV := Lib.hid (HRV.out.below hbS (Nat.le_refl _))
      replace HXX := Lib.hid (HXX.out.below hbS)
      replace HXD := Lib.hid (HXD.out.below hbS)
      replace HXU := Lib.hid (HXU.out.below hbS)
      have HXP := Lib.hid hxS
      clear hbS hxS
      with_reducible refine (HBR.out _).mono ?_
      rintro e w12 ⟨hx, hb12⟩
      have HB12 := Lib.hid (Bel.call HB11.out hb12)
      replace HXB := Lib.hid (HXB.out.below hb12)
      replace HRV := Lib.hid (HRV.out.below hb12 (Nat.le_refl _))
      replace HXX := Lib.hid (HXX.out.below hb12)
      replace HXD := Lib.hid (HXD.out.below hb12)
      replace HXU := Lib.hid (HXU.out.below hb12)
      replace HXP := Lib.hid (HXP.out.below hb12)
      clear hb12
      obtain ⟨SQ, GQ, hSQ, hGQ, rfl⟩ := bs_open hx
      have HSQ := Lib.hid hSQ
      have HGQ := Lib.hid hGQ
      clear hx hSQ hGQ
      dsimp only
      obtain rfl : SP = SQ := str_eq (HSP.out.trans HSQ.out.symm)
      obtain rfl : GP = GQ := str_eq (HGP.out.trans HGQ.out.symm)
      obtain ⟨_, c0, c1, c2⟩ := HXB.out
      go_wp2_with fail
      have hbS : Below w12.heap.size w12 (w12.alloc (.cells #[.int .i64 be, .string SP, .string GP] 26)) := (Below.refl w12.heap.size w12).alloc (Nat.le_refl _) _
      have hxS := (r3_new w12 (be) SP GP 26).1
      generalize w12.alloc (.cells #[.int .i64 be, .string SP, .string GP] 26) = wSQ at hbS hxS ⊢
      have HB13 := Lib.hid (Bel.call HB12.out hbS)
      replace HXB := Lib.hid (HXB.out.below hbS)
      replace HRV := Lib.hid (HRV.out.below hbS (Nat.le_refl _))
      replace HXX := Lib.hid (HXX.out.below hbS)
      replace HXD := Lib.hid (HXD.out.below hbS)
      replace HXU := Lib.hid (HXU.out.below hbS)
      replace HXP := Lib.hid (HXP.out.below hbS)
      have HXQ := Lib.hid hxS
      clear hbS hxS
      clear c0 c1 c2
      with_reducible refine (HOC.out HVZ.out _ HRV.out).mono ?_
      rintro e w14 ⟨⟨Y1, hY1, rfl⟩, hb14⟩
      have HB14 := Lib.hid (Bel.call HB13.out hb14)
      replace HXB := Lib.hid (HXB.out.below hb14)
      replace HRV := Lib.hid (HRV.out.below hb14 (Nat.le_refl _))
      replace HXX := Lib.hid (HXX.out.below hb14)
      replace HXD := Lib.hid (HXD.out.below hb14)
      replace HXU := Lib.hid (HXU.out.below hb14)
      replace HXP := Lib.hid (HXP.out.below hb14)
      replace HXQ := Lib.hid (HXQ.out.below hb14)
      clear hb14
      have HY1 := Lib.hid hY1
      clear hY1
      dsimp only
      obtain ⟨_, c0, c1, c2⟩ := HXX.out
      go_wp2_with fail
      with_reducible refine (HOR.out HVZ.out _ HRV.out).mono ?_
      rintro e w15 ⟨⟨Y2, hY2, rfl⟩, hb15⟩
      have HB15 := Lib.hid (Bel.call HB14.out hb15)
      replace HXB := Lib.hid (HXB.out.below hb15)
      replace HRV := Lib.hid (HRV.out.below hb15 (Nat.le_refl _))
      replace HXX := Lib.hid (HXX.out.below hb15)
      replace HXD := Lib.hid (HXD.out.below hb15)
      replace HXU := Lib.hid (HXU.out.below hb15)
      replace HXP := Lib.hid (HXP.out.below hb15)
      replace HXQ := Lib.hid (HXQ.out.below hb15)
      clear hb15
      obtain rfl : Y2 = Y1 := str_eq (hY2.trans HY1.out.symm)
      clear hY2
      dsimp only
      clear c0 c1 c2
      go_wp2_with fail
      have hsx : Six w w15 w.heap.size w2.heap.size w6.heap.size w8.heap.size w10.heap.size w12.heap.size ep0 S G te SD GD be SP GP := ⟨HXB.out, HXX.out, HXD.out, HXU.out, HXP.out, HXQ.out, HB15.out⟩
      have hdr := hsx.below (Below.drewN' (Below.refl w15.heap.size w15) 1)
      refine Ord.region_lit (S := fun w' => Six w w' w.heap.size w2.heap.size w6.heap.size w8.heap.size w10.heap.size w12.heap.size ep0 S G te SD GD be SP GP) (by kernel_rfl) (by kernel_rfl) hdr ?_
      clear hdr hsx
      refine Ord.stepR (v := ?_) (by rfl) ?_ ?_
      rotate_left
      · intro w' hSw
        obtain ⟨⟨_, b0, b1, b2⟩, ⟨_, x0, x1, x2⟩, ⟨_, d0, d1, d2⟩, ⟨_, u0, u1, u2⟩, ⟨_, p0, p1, p2⟩, ⟨_, q0, q1, q2⟩, _⟩ := hSw
        go_simp
        try with_reducible rfl
      try simp only [Act.put, List.setIfInBounds_toArray, List.set_cons_zero, List.set_cons_succ]
      refine Ord.stepC (v := .bool rb) (by rfl) ?_ (fun w1 hS => (HRC.out w1).mono fun e w2 h => ⟨h.1, hS.below h.2⟩) ?_
      · intro w' hSw
        obtain ⟨⟨_, b0, b1, b2⟩, ⟨_, x0, x1, x2⟩, ⟨_, d0, d1, d2⟩, ⟨_, u0, u1, u2⟩, ⟨_, p0, p1, p2⟩, ⟨_, q0, q1, q2⟩, _⟩ := hSw
        go_simp
        try with_reducible rfl
      try simp only [Act.put, List.setIfInBounds_toArray, List.set_cons_zero, List.set_cons_succ]
      refine Ord.stepR (v := ?_) (by rfl) ?_ ?_
      rotate_left
      · intro w' hSw
        obtain ⟨⟨_, b0, b1, b2⟩, ⟨_, x0, x1, x2⟩, ⟨_, d0, d1, d2⟩, ⟨_, u0, u1, u2⟩, ⟨_, p0, p1, p2⟩, ⟨_, q0, q1, q2⟩, _⟩ := hSw
        go_simp
        try with_reducible rfl
      try simp only [Act.put, List.setIfInBounds_toArray, List.set_cons_zero, List.set_cons_succ]
      refine Ord.stepC (v := .bool rb) (by rfl) ?_ (fun w1 hS => (HRR.out w1).mono fun e w2 h => ⟨h.1, hS.below h.2⟩) ?_
      · intro w' hSw
        obtain ⟨⟨_, b0, b1, b2⟩, ⟨_, x0, x1, x2⟩, ⟨_, d0, d1, d2⟩, ⟨_, u0, u1, u2⟩, ⟨_, p0, p1, p2⟩, ⟨_, q0, q1, q2⟩, _⟩ := hSw
        go_simp
        try with_reducible rfl
      try simp only [Act.put, List.setIfInBounds_toArray, List.set_cons_zero, List.set_cons_succ]
      refine Ord.stepR (v := ?_) (by rfl) ?_ ?_
      rotate_left
      · intro w' hSw
        obtain ⟨⟨_, b0, b1, b2⟩, ⟨_, x0, x1, x2⟩, ⟨_, d0, d1, d2⟩, ⟨_, u0, u1, u2⟩, ⟨_, p0, p1, p2⟩, ⟨_, q0, q1, q2⟩, _⟩ := hSw
        go_simp
        try with_reducible rfl
      try simp only [Act.put, List.setIfInBounds_toArray, List.set_cons_zero, List.set_cons_succ]
      refine Ord.stepR (v := ?_) (by rfl) ?_ ?_
      rotate_left
      · intro w' hSw
        obtain ⟨⟨_, b0, b1, b2⟩, ⟨_, x0, x1, x2⟩, ⟨_, d0, d1, d2⟩, ⟨_, u0, u1, u2⟩, ⟨_, p0, p1, p2⟩, ⟨_, q0, q1, q2⟩, _⟩ := hSw
        go_simp
        try with_reducible rfl
      try simp only [Act.put, List.setIfInBounds_toArray, List.set_cons_zero, List.set_cons_succ]
      refine Ord.stepR (v := ?_) (by rfl) ?_ ?_
      rotate_left
      · intro w' hSw
        obtain ⟨⟨_, b0, b1, b2⟩, ⟨_, x0, x1, x2⟩, ⟨_, d0, d1, d2⟩, ⟨_, u0, u1, u2⟩, ⟨_, p0, p1, p2⟩, ⟨_, q0, q1, q2⟩, _⟩ := hSw
        go_simp
        try with_reducible rfl
      try simp only [Act.put, List.setIfInBounds_toArray, List.set_cons_zero, List.set_cons_succ]
      refine Ord.stepR (v := ?_) (by rfl) ?_ ?_
      rotate_left
      · intro w' hSw
        obtain ⟨⟨_, b0, b1, b2⟩, ⟨_, x0, x1, x2⟩, ⟨_, d0, d1, d2⟩, ⟨_, u0, u1, u2⟩, ⟨_, p0, p1, p2⟩, ⟨_, q0, q1, q2⟩, _⟩ := hSw
        go_simp
        try with_reducible rfl
      try simp only [Act.put, List.setIfInBounds_toArray, List.set_cons_zero, List.set_cons_succ]
      refine Ord.stepR (v := ?_) (by rfl) ?_ ?_
      rotate_left
      · intro w' hSw
        obtain ⟨⟨_, b0, b1, b2⟩, ⟨_, x0, x1, x2⟩, ⟨_, d0, d1, d2⟩, ⟨_, u0, u1, u2⟩, ⟨_, p0, p1, p2⟩, ⟨_, q0, q1, q2⟩, _⟩ := hSw
        go_simp
        try with_reducible rfl
      try simp only [Act.put, List.setIfInBounds_toArray, List.set_cons_zero, List.set_cons_succ]
      refine Ord.stepR (v := ?_) (by rfl) ?_ ?_
      rotate_left
      · intro w' hSw
        obtain ⟨⟨_, b0, b1, b2⟩, ⟨_, x0, x1, x2⟩, ⟨_, d0, d1, d2⟩, ⟨_, u0, u1, u2⟩, ⟨_, p0, p1, p2⟩, ⟨_, q0, q1, q2⟩, _⟩ := hSw
        go_simp
        try with_reducible rfl
      try simp only [Act.put, List.setIfInBounds_toArray, List.set_cons_zero, List.set_cons_succ]
      refine Ord.stepR (v := ?_) (by rfl) ?_ ?_
      rotate_left
      · intro w' hSw
        obtain ⟨⟨_, b0, b1, b2⟩, ⟨_, x0, x1, x2⟩, ⟨_, d0, d1, d2⟩, ⟨_, u0, u1, u2⟩, ⟨_, p0, p1, p2⟩, ⟨_, q0, q1, q2⟩, _⟩ := hSw
        go_simp
        try with_reducible rfl
      try simp only [Act.put, List.setIfInBounds_toArray, List.set_cons_zero, List.set_cons_succ]
      refine Ord.stepR (v := ?_) (by rfl) ?_ ?_
      rotate_left
      · intro w' hSw
        obtain ⟨⟨_, b0, b1, b2⟩, ⟨_, x0, x1, x2⟩, ⟨_, d0, d1, d2⟩, ⟨_, u0, u1, u2⟩, ⟨_, p0, p1, p2⟩, ⟨_, q0, q1, q2⟩, _⟩ := hSw
        go_simp
        try with_reducible rfl
      try simp only [Act.put, List.setIfInBounds_toArray, List.set_cons_zero, List.set_cons_succ]
      refine Ord.stepR (v := ?_) (by rfl) ?_ ?_
      rotate_left
      · intro w' hSw
        obtain ⟨⟨_, b0, b1, b2⟩, ⟨_, x0, x1, x2⟩, ⟨_, d0, d1, d2⟩, ⟨_, u0, u1, u2⟩, ⟨_, p0, p1, p2⟩, ⟨_, q0, q1, q2⟩, _⟩ := hSw
        go_simp
        try with_reducible rfl
      try simp only [Act.put, List.setIfInBounds_toArray, List.set_cons_zero, List.set_cons_succ]
      refine Ord.stepR (v := ?_) (by rfl) ?_ ?_
      rotate_left
      · intro w' hSw
        obtain ⟨⟨_, b0, b1, b2⟩, ⟨_, x0, x1, x2⟩, ⟨_, d0, d1, d2⟩, ⟨_, u0, u1, u2⟩, ⟨_, p0, p1, p2⟩, ⟨_, q0, q1, q2⟩, _⟩ := hSw
        go_simp
        try with_reducible rfl
      try simp only [Act.put, List.setIfInBounds_toArray, List.set_cons_zero, List.set_cons_succ]
      refine Ord.stepR (v := ?_) (by rfl) ?_ ?_
      rotate_left
      · intro w' hSw
        obtain ⟨⟨_, b0, b1, b2⟩, ⟨_, x0, x1, x2⟩, ⟨_, d0, d1, d2⟩, ⟨_, u0, u1, u2⟩, ⟨_, p0, p1, p2⟩, ⟨_, q0, q1, q2⟩, _⟩ := hSw
        go_simp
        try with_reducible rfl
      try simp only [Act.put, List.setIfInBounds_toArray, List.set_cons_zero, List.set_cons_succ]
      refine Ord.stepR (v := ?_) (by rfl) ?_ ?_
      rotate_left
      · intro w' hSw
        obtain ⟨⟨_, b0, b1, b2⟩, ⟨_, x0, x1, x2⟩, ⟨_, d0, d1, d2⟩, ⟨_, u0, u1, u2⟩, ⟨_, p0, p1, p2⟩, ⟨_, q0, q1, q2⟩, _⟩ := hSw
        go_simp
        try with_reducible rfl
      try simp only [Act.put, List.setIfInBounds_toArray, List.set_cons_zero, List.set_cons_succ]
      refine Ord.stepR (v := ?_) (by rfl) ?_ ?_
      rotate_left
      · intro w' hSw
        obtain ⟨⟨_, b0, b1, b2⟩, ⟨_, x0, x1, x2⟩, ⟨_, d0, d1, d2⟩, ⟨_, u0, u1, u2⟩, ⟨_, p0, p1, p2⟩, ⟨_, q0, q1, q2⟩, _⟩ := hSw
        go_simp
        try with_reducible rfl
      try simp only [Act.put, List.setIfInBounds_toArray, List.set_cons_zero, List.set_cons_succ]
      refine Ord.stepC (v := .agg #[.int .i64 te, .string SD, .string GD]) (by rfl) ?_ (fun w1 hS => (HAT.out SD GD w1).mono fun e w2 h => ⟨h.1, hS.below h.2⟩) ?_
      · intro w' hSw
        obtain ⟨⟨_, b0, b1, b2⟩, ⟨_, x0, x1, x2⟩, ⟨_, d0, d1, d2⟩, ⟨_, u0, u1, u2⟩, ⟨_, p0, p1, p2⟩, ⟨_, q0, q1, q2⟩, _⟩ := hSw
        go_simp
        try with_reducible rfl
      try simp only [Act.put, List.setIfInBounds_toArray, List.set_cons_zero, List.set_cons_succ]
      refine Ord.stepR (v := ?_) (by rfl) ?_ ?_
      rotate_left
      · intro w' hSw
        obtain ⟨⟨_, b0, b1, b2⟩, ⟨_, x0, x1, x2⟩, ⟨_, d0, d1, d2⟩, ⟨_, u0, u1, u2⟩, ⟨_, p0, p1, p2⟩, ⟨_, q0, q1, q2⟩, _⟩ := hSw
        go_simp
        try with_reducible rfl
      try simp only [Act.put, List.setIfInBounds_toArray, List.set_cons_zero, List.set_cons_succ]
      refine Ord.stepR (v := ?_) (by rfl) ?_ ?_
      rotate_left
      · intro w' hSw
        obtain ⟨⟨_, b0, b1, b2⟩, ⟨_, x0, x1, x2⟩, ⟨_, d0, d1, d2⟩, ⟨_, u0, u1, u2⟩, ⟨_, p0, p1, p2⟩, ⟨_, q0, q1, q2⟩, _⟩ := hSw
        go_simp
        try with_reducible rfl
      try simp only [Act.put, List.setIfInBounds_toArray, List.set_cons_zero, List.set_cons_succ]
      refine Ord.stepR (v := ?_) (by rfl) ?_ ?_
      rotate_left
      · intro w' hSw
        obtain ⟨⟨_, b0, b1, b2⟩, ⟨_, x0, x1, x2⟩, ⟨_, d0, d1, d2⟩, ⟨_, u0, u1, u2⟩, ⟨_, p0, p1, p2⟩, ⟨_, q0, q1, q2⟩, _⟩ := hSw
        go_simp
        try with_reducible rfl
      try simp only [Act.put, List.setIfInBounds_toArray, List.set_cons_zero, List.set_cons_succ]
      refine Ord.stepR (v := ?_) (by rfl) ?_ ?_
      rotate_left
      · intro w' hSw
        obtain ⟨⟨_, b0, b1, b2⟩, ⟨_, x0, x1, x2⟩, ⟨_, d0, d1, d2⟩, ⟨_, u0, u1, u2⟩, ⟨_, p0, p1, p2⟩, ⟨_, q0, q1, q2⟩, _⟩ := hSw
        go_simp
        try with_reducible rfl
      try simp only [Act.put, List.setIfInBounds_toArray, List.set_cons_zero, List.set_cons_succ]
      refine Ord.stepR (v := ?_) (by rfl) ?_ ?_
      rotate_left
      · intro w' hSw
        obtain ⟨⟨_, b0, b1, b2⟩, ⟨_, x0, x1, x2⟩, ⟨_, d0, d1, d2⟩, ⟨_, u0, u1, u2⟩, ⟨_, p0, p1, p2⟩, ⟨_, q0, q1, q2⟩, _⟩ := hSw
        go_simp
        try with_reducible rfl
      try simp only [Act.put, List.setIfInBounds_toArray, List.set_cons_zero, List.set_cons_succ]
      refine Ord.stepR (v := ?_) (by rfl) ?_ ?_
      rotate_left
      · intro w' hSw
        obtain ⟨⟨_, b0, b1, b2⟩, ⟨_, x0, x1, x2⟩, ⟨_, d0, d1, d2⟩, ⟨_, u0, u1, u2⟩, ⟨_, p0, p1, p2⟩, ⟨_, q0, q1, q2⟩, _⟩ := hSw
        go_simp
        try with_reducible rfl
      try simp only [Act.put, List.setIfInBounds_toArray, List.set_cons_zero, List.set_cons_succ]
      refine Ord.stepR (v := ?_) (by rfl) ?_ ?_
      rotate_left
      · intro w' hSw
        obtain ⟨⟨_, b0, b1, b2⟩, ⟨_, x0, x1, x2⟩, ⟨_, d0, d1, d2⟩, ⟨_, u0, u1, u2⟩, ⟨_, p0, p1, p2⟩, ⟨_, q0, q1, q2⟩, _⟩ := hSw
        go_simp
        try with_reducible rfl
      try simp only [Act.put, List.setIfInBounds_toArray, List.set_cons_zero, List.set_cons_succ]
      refine Ord.stepR (v := ?_) (by rfl) ?_ ?_
      rotate_left
      · intro w' hSw
        obtain ⟨⟨_, b0, b1, b2⟩, ⟨_, x0, x1, x2⟩, ⟨_, d0, d1, d2⟩, ⟨_, u0, u1, u2⟩, ⟨_, p0, p1, p2⟩, ⟨_, q0, q1, q2⟩, _⟩ := hSw
        go_simp
        try with_reducible rfl
      try simp only [Act.put, List.setIfInBounds_toArray, List.set_cons_zero, List.set_cons_succ]
      refine Ord.stepR (v := ?_) (by rfl) ?_ ?_
      rotate_left
      · intro w' hSw
        obtain ⟨⟨_, b0, b1, b2⟩, ⟨_, x0, x1, x2⟩, ⟨_, d0, d1, d2⟩, ⟨_, u0, u1, u2⟩, ⟨_, p0, p1, p2⟩, ⟨_, q0, q1, q2⟩, _⟩ := hSw
        go_simp
        try with_reducible rfl
      try simp only [Act.put, List.setIfInBounds_toArray, List.set_cons_zero, List.set_cons_succ]
      refine Ord.stepR (v := ?_) (by rfl) ?_ ?_
      rotate_left
      · intro w' hSw
        obtain ⟨⟨_, b0, b1, b2⟩, ⟨_, x0, x1, x2⟩, ⟨_, d0, d1, d2⟩, ⟨_, u0, u1, u2⟩, ⟨_, p0, p1, p2⟩, ⟨_, q0, q1, q2⟩, _⟩ := hSw
        go_simp
        try with_reducible rfl
      try simp only [Act.put, List.setIfInBounds_toArray, List.set_cons_zero, List.set_cons_succ]
      refine Ord.stepC (v := .agg #[.int .i64 be, .string SP, .string GP]) (by rfl) ?_ (fun w1 hS => (HAB.out SP GP w1).mono fun e w2 h => ⟨h.1, hS.below h.2⟩) ?_
      · intro w' hSw
        obtain ⟨⟨_, b0, b1, b2⟩, ⟨_, x0, x1, x2⟩, ⟨_, d0, d1, d2⟩, ⟨_, u0, u1, u2⟩, ⟨_, p0, p1, p2⟩, ⟨_, q0, q1, q2⟩, _⟩ := hSw
        go_simp
        try with_reducible rfl
      try simp only [Act.put, List.setIfInBounds_toArray, List.set_cons_zero, List.set_cons_succ]
      refine Ord.stepR (v := ?_) (by rfl) ?_ ?_
      rotate_left
      · intro w' hSw
        obtain ⟨⟨_, b0, b1, b2⟩, ⟨_, x0, x1, x2⟩, ⟨_, d0, d1, d2⟩, ⟨_, u0, u1, u2⟩, ⟨_, p0, p1, p2⟩, ⟨_, q0, q1, q2⟩, _⟩ := hSw
        go_simp
        try with_reducible rfl
      try simp only [Act.put, List.setIfInBounds_toArray, List.set_cons_zero, List.set_cons_succ]
      refine Ord.stepR (v := ?_) (by rfl) ?_ ?_
      rotate_left
      · intro w' hSw
        obtain ⟨⟨_, b0, b1, b2⟩, ⟨_, x0, x1, x2⟩, ⟨_, d0, d1, d2⟩, ⟨_, u0, u1, u2⟩, ⟨_, p0, p1, p2⟩, ⟨_, q0, q1, q2⟩, _⟩ := hSw
        go_simp
        try with_reducible rfl
      try simp only [Act.put, List.setIfInBounds_toArray, List.set_cons_zero, List.set_cons_succ]
      refine Ord.stepR (v := ?_) (by rfl) ?_ ?_
      rotate_left
      · intro w' hSw
        obtain ⟨⟨_, b0, b1, b2⟩, ⟨_, x0, x1, x2⟩, ⟨_, d0, d1, d2⟩, ⟨_, u0, u1, u2⟩, ⟨_, p0, p1, p2⟩, ⟨_, q0, q1, q2⟩, _⟩ := hSw
        go_simp
        try with_reducible rfl
      try simp only [Act.put, List.setIfInBounds_toArray, List.set_cons_zero, List.set_cons_succ]
      refine Ord.stepR (v := ?_) (by rfl) ?_ ?_
      rotate_left
      · intro w' hSw
        obtain ⟨⟨_, b0, b1, b2⟩, ⟨_, x0, x1, x2⟩, ⟨_, d0, d1, d2⟩, ⟨_, u0, u1, u2⟩, ⟨_, p0, p1, p2⟩, ⟨_, q0, q1, q2⟩, _⟩ := hSw
        go_simp
        try with_reducible rfl
      try simp only [Act.put, List.setIfInBounds_toArray, List.set_cons_zero, List.set_cons_succ]
      refine Ord.stepR (v := ?_) (by rfl) ?_ ?_
      rotate_left
      · intro w' hSw
        obtain ⟨⟨_, b0, b1, b2⟩, ⟨_, x0, x1, x2⟩, ⟨_, d0, d1, d2⟩, ⟨_, u0, u1, u2⟩, ⟨_, p0, p1, p2⟩, ⟨_, q0, q1, q2⟩, _⟩ := hSw
        go_simp
        try with_reducible rfl
      try simp only [Act.put, List.setIfInBounds_toArray, List.set_cons_zero, List.set_cons_succ]
      refine Ord.stepR (v := ?_) (by rfl) ?_ ?_
      rotate_left
      · intro w' hSw
        obtain ⟨⟨_, b0, b1, b2⟩, ⟨_, x0, x1, x2⟩, ⟨_, d0, d1, d2⟩, ⟨_, u0, u1, u2⟩, ⟨_, p0, p1, p2⟩, ⟨_, q0, q1, q2⟩, _⟩ := hSw
        go_simp
        try with_reducible rfl
      try simp only [Act.put, List.setIfInBounds_toArray, List.set_cons_zero, List.set_cons_succ]
      refine Ord.stepR (v := ?_) (by rfl) ?_ ?_
      rotate_left
      · intro w' hSw
        obtain ⟨⟨_, b0, b1, b2⟩, ⟨_, x0, x1, x2⟩, ⟨_, d0, d1, d2⟩, ⟨_, u0, u1, u2⟩, ⟨_, p0, p1, p2⟩, ⟨_, q0, q1, q2⟩, _⟩ := hSw
        go_simp
        try with_reducible rfl
      try simp only [Act.put, List.setIfInBounds_toArray, List.set_cons_zero, List.set_cons_succ]
      refine Ord.stepR (v := ?_) (by rfl) ?_ ?_
      rotate_left
      · intro w' hSw
        obtain ⟨⟨_, b0, b1, b2⟩, ⟨_, x0, x1, x2⟩, ⟨_, d0, d1, d2⟩, ⟨_, u0, u1, u2⟩, ⟨_, p0, p1, p2⟩, ⟨_, q0, q1, q2⟩, _⟩ := hSw
        go_simp
        try with_reducible rfl
      try simp only [Act.put, List.setIfInBounds_toArray, List.set_cons_zero, List.set_cons_succ]
      refine Ord.stepR (v := ?_) (by rfl) ?_ ?_
      rotate_left
      · intro w' hSw
        obtain ⟨⟨_, b0, b1, b2⟩, ⟨_, x0, x1, x2⟩, ⟨_, d0, d1, d2⟩, ⟨_, u0, u1, u2⟩, ⟨_, p0, p1, p2⟩, ⟨_, q0, q1, q2⟩, _⟩ := hSw
        go_simp
        try with_reducible rfl
      try simp only [Act.put, List.setIfInBounds_toArray, List.set_cons_zero, List.set_cons_succ]
      refine Ord.stepR (v := ?_) (by rfl) ?_ ?_
      rotate_left
      · intro w' hSw
        obtain ⟨⟨_, b0, b1, b2⟩, ⟨_, x0, x1, x2⟩, ⟨_, d0, d1, d2⟩, ⟨_, u0, u1, u2⟩, ⟨_, p0, p1, p2⟩, ⟨_, q0, q1, q2⟩, _⟩ := hSw
        go_simp
        try with_reducible rfl
      try simp only [Act.put, List.setIfInBounds_toArray, List.set_cons_zero, List.set_cons_succ]
      refine Ord.stepR (v := ?_) (by rfl) ?_ ?_
      rotate_left
      · intro w' hSw
        obtain ⟨⟨_, b0, b1, b2⟩, ⟨_, x0, x1, x2⟩, ⟨_, d0, d1, d2⟩, ⟨_, u0, u1, u2⟩, ⟨_, p0, p1, p2⟩, ⟨_, q0, q1, q2⟩, _⟩ := hSw
        go_simp
        try with_reducible rfl
      try simp only [Act.put, List.setIfInBounds_toArray, List.set_cons_zero, List.set_cons_succ]
      refine Ord.stepR (v := ?_) (by rfl) ?_ ?_
      rotate_left
      · intro w' hSw
        obtain ⟨⟨_, b0, b1, b2⟩, ⟨_, x0, x1, x2⟩, ⟨_, d0, d1, d2⟩, ⟨_, u0, u1, u2⟩, ⟨_, p0, p1, p2⟩, ⟨_, q0, q1, q2⟩, _⟩ := hSw
        go_simp
        try with_reducible rfl
      try simp only [Act.put, List.setIfInBounds_toArray, List.set_cons_zero, List.set_cons_succ]
      refine Ord.stepR (v := ?_) (by rfl) ?_ ?_
      rotate_left
      · intro w' hSw
        obtain ⟨⟨_, b0, b1, b2⟩, ⟨_, x0, x1, x2⟩, ⟨_, d0, d1, d2⟩, ⟨_, u0, u1, u2⟩, ⟨_, p0, p1, p2⟩, ⟨_, q0, q1, q2⟩, _⟩ := hSw
        go_simp
        try with_reducible rfl
      try simp only [Act.put, List.setIfInBounds_toArray, List.set_cons_zero, List.set_cons_succ]
      refine Ord.stepR (v := ?_) (by rfl) ?_ ?_
      rotate_left
      · intro w' hSw
        obtain ⟨⟨_, b0, b1, b2⟩, ⟨_, x0, x1, x2⟩, ⟨_, d0, d1, d2⟩, ⟨_, u0, u1, u2⟩, ⟨_, p0, p1, p2⟩, ⟨_, q0, q1, q2⟩, _⟩ := hSw
        go_simp
        try with_reducible rfl
      try simp only [Act.put, List.setIfInBounds_toArray, List.set_cons_zero, List.set_cons_succ]
      refine Ord.stepR (v := ?_) (by rfl) ?_ ?_
      rotate_left
      · intro w' hSw
        obtain ⟨⟨_, b0, b1, b2⟩, ⟨_, x0, x1, x2⟩, ⟨_, d0, d1, d2⟩, ⟨_, u0, u1, u2⟩, ⟨_, p0, p1, p2⟩, ⟨_, q0, q1, q2⟩, _⟩ := hSw
        go_simp
        try with_reducible rfl
      try simp only [Act.put, List.setIfInBounds_toArray, List.set_cons_zero, List.set_cons_succ]
      refine Ord.stepR (v := ?_) (by rfl) ?_ ?_
      rotate_left
      · intro w' hSw
        obtain ⟨⟨_, b0, b1, b2⟩, ⟨_, x0, x1, x2⟩, ⟨_, d0, d1, d2⟩, ⟨_, u0, u1, u2⟩, ⟨_, p0, p1, p2⟩, ⟨_, q0, q1, q2⟩, _⟩ := hSw
        go_simp
        try with_reducible rfl
      try simp only [Act.put, List.setIfInBounds_toArray, List.set_cons_zero, List.set_cons_succ]
      refine Ord.stepR (v := ?_) (by rfl) ?_ ?_
      rotate_left
      · intro w' hSw
        obtain ⟨⟨_, b0, b1, b2⟩, ⟨_, x0, x1, x2⟩, ⟨_, d0, d1, d2⟩, ⟨_, u0, u1, u2⟩, ⟨_, p0, p1, p2⟩, ⟨_, q0, q1, q2⟩, _⟩ := hSw
        go_simp
        try with_reducible rfl
      try simp only [Act.put, List.setIfInBounds_toArray, List.set_cons_zero, List.set_cons_succ]
      refine Ord.stepR (v := ?_) (by rfl) ?_ ?_
      rotate_left
      · intro w' hSw
        obtain ⟨⟨_, b0, b1, b2⟩, ⟨_, x0, x1, x2⟩, ⟨_, d0, d1, d2⟩, ⟨_, u0, u1, u2⟩, ⟨_, p0, p1, p2⟩, ⟨_, q0, q1, q2⟩, _⟩ := hSw
        go_simp
        try with_reducible rfl
      try simp only [Act.put, List.setIfInBounds_toArray, List.set_cons_zero, List.set_cons_succ]
      refine Ord.stepR (v := ?_) (by rfl) ?_ ?_
      rotate_left
      · intro w' hSw
        obtain ⟨⟨_, b0, b1, b2⟩, ⟨_, x0, x1, x2⟩, ⟨_, d0, d1, d2⟩, ⟨_, u0, u1, u2⟩, ⟨_, p0, p1, p2⟩, ⟨_, q0, q1, q2⟩, _⟩ := hSw
        go_simp
        try with_reducible rfl
      try simp only [Act.put, List.setIfInBounds_toArray, List.set_cons_zero, List.set_cons_succ]
      refine Ord.stepD ?_
      rintro w90 hS9
      have HEND := Lib.hid hS9.2.2.2.2.2.2
      clear hS9
      go_wp2
      go_ret
      exact ⟨rfl, HEND.out⟩
end Go.Proofs.YtjdignbmlfbdnaaGreat.Dta
