/-
  THE LAW TreeTells, walked. By an AI agent; no person has read it.
-/
import Derived.Test.YtblgcpopcgnncaaELaw
namespace Go.Proofs.Ytblgcpopcgnncaa.Tre
open Go Go.RowKit Wire Term Draw Reg Clo

set_option linter.unusedSimpArgs false
set_option linter.unusedVariables false
set_option maxHeartbeats 8000000 in
set_option maxRecDepth 1000000 in
theorem tells_walk (file : ByteArray) (ver : Nat) (lv : List ByteArray) (Al : Option Addr) (cl : Nat) (at0 : Int) (rt : ByteArray) (many : Int) (t : ByteArray) (pf : List ByteArray) (Ap : Option Addr) (cp : Nat) (w : World)
    (hv : ver < 18446744073709551616) (hl : SReads w Al lv) (hp : SReads w Ap pf) (hcl : lv.length ≤ cl ∧ cl ≤ 9223372036854775807) (hcp : pf.length ≤ cp ∧ cp ≤ 9223372036854775807) (nl : lv.length ≤ 140737488351232) (np : pf.length ≤ 140737488351232)
    (zl : ∀ y ∈ lv, y.size ≤ 140737488355328) (zp : ∀ y ∈ pf, y.size ≤ 140737488355328) (fz : file.size ≤ 140737488351232) (rz : rt.size ≤ 140737488351232) (tz : t.size ≤ 140737488351232) :
    Calls Try.prog 3 #[.string file, .int .u64 (ver : Int), .slice Al lv.length cl, .int .i64 at0, .string rt, .int .i64 many, .string t, .slice Ap pf.length cp] w fun e w' => e = .returned (.bool true) ∧ Below w.heap.size w w' := by
  have HSH := Lib.hid fun w => shown_any w
  have HLI : Hid (∀ (ys : List ByteArray) (c : Nat) {A : Option Addr} (w : World), SReads w A ys → ys.length ≤ 140737488355328 → (∀ y ∈ ys, y.size ≤ 140737488355328) → Calls Try.prog 10 #[.slice A ys.length c] w fun e w' => LightE ys e ∧ w = w') := Lib.hid fun ys c {A} w h1 h2 h3 => light_any A c ys w h1 h2 h3
  have HZL := Lib.hid zl
  have HZP := Lib.hid zp
  have HRL := Lib.hid hl
  have HRP := Lib.hid hp
  have HA := Lib.hid fun w => cleafT_any file ver w (by omega) hv
  have HB := Lib.hid fun w => rleafT_any file ver w (by omega) hv
  have HC := Lib.hid fun w h => croot_any Al cl lv w h hcl.1 hcl.2 zl
  have HD := Lib.hid fun w h => rroot_any Al cl lv w h hcl.1 hcl.2 zl
  have HPC := Lib.hid fun w h => cproof_any at0 Al cl lv w h hcl.1 hcl.2 zl
  have HPD := Lib.hid fun w h => rproof_any at0 Al cl lv w h hcl.1 hcl.2 zl
  have HVC := Lib.hid fun w h => cverify_any rt many at0 t Ap cp pf w h hcp.1 hcp.2 zp (by omega) (by omega)
  have HVD := Lib.hid fun w h => rverify_any rt many at0 t Ap cp pf w h hcp.1 hcp.2 zp (by omega) (by omega)
  obtain ⟨la, fa, hla⟩ : ∃ x f, leafT file.data.toList ver = (x, f) := ⟨_, _, rfl⟩
  obtain ⟨ra, rf, hra⟩ : ∃ x f, root (bl lv) = (x, f) := ⟨_, _, rfl⟩
  obtain ⟨pa, pfl, hpa⟩ : ∃ x f, proofT (bl lv) at0 = (x, f) := ⟨_, _, rfl⟩
  obtain ⟨vv, hvv⟩ : ∃ x, verifyT rt.data.toList many at0 t.data.toList (bl pf) = x := ⟨_, rfl⟩
  rw [hla] at HA HB
  rw [hra] at HC HD
  rw [hpa] at HPC HPD
  rw [hvv] at HVC HVD
  have HPF : Hid (pa.length ≤ 4) := Lib.hid (by
    have e : pa = (proofT (bl lv) at0).1 := by rw [hpa]
    rw [e]
    unfold proofT
    split
    · simp
    · split
      · simp
      · exact beside_few 4 _ _)
  clear hla hra hpa hvv hl hp zl zp
  go_enter Try.func3, Try.ntmps3
  go_wp2_with fail
  with_reducible refine (HSH.out _).mono ?_
  rintro e w1 ⟨rfl, hb1⟩
  have HB1 := Lib.hid hb1
  replace HRL := Lib.hid (HRL.out.below hb1 (Nat.le_refl _))
  replace HRP := Lib.hid (HRP.out.below hb1 (Nat.le_refl _))
  clear hb1
  dsimp only
  go_wp2_with fail
  with_reducible refine (HLI.out lv cl _ HRL.out (by omega) HZL.out).mono ?_
  rintro e v1 ⟨⟨b1, hb1, rfl⟩, hv1⟩
  obtain rfl : w1 = v1 := hv1
  have HL1 := Lib.hid hb1
  clear hb1
  dsimp only
  go_wp2_with fail
  with_reducible refine (HLI.out pf cp _ HRP.out (by omega) HZP.out).mono ?_
  rintro e v2 ⟨⟨b2, hb2, rfl⟩, hv2⟩
  obtain rfl : w1 = v2 := hv2
  have HL2 := Lib.hid hb2
  clear hb2
  dsimp only
  cases b1 with
  | false =>
    go_wp2
    go_ret
    exact ⟨rfl, HB1.out⟩
  | true =>
    cases b2 with
    | false =>
      go_wp2
      go_ret
      exact ⟨rfl, HB1.out⟩
    | true =>
      obtain ⟨l1, l2⟩ := HL1.out rfl
      obtain ⟨l3, l4⟩ := HL2.out rfl
      have HL5 := Lib.hid l2
      have HL6 := Lib.hid l4
      clear l2 l4
      have hw1 : IntKind.i64.wrap ((file.size : Int) + (rt.size : Int)) = (file.size : Int) + (rt.size : Int) := by rw [IntKind.wrap_i64]; omega
      have hw2 : IntKind.i64.wrap ((file.size : Int) + (rt.size : Int) + (t.size : Int)) = (file.size : Int) + (rt.size : Int) + (t.size : Int) := by rw [IntKind.wrap_i64]; omega
      by_cases hsum : (9000 : Int) < (file.size : Int) + (rt.size : Int) + (t.size : Int)
      · go_wp2
        go_ret
        exact ⟨rfl, HB1.out⟩
      · go_wp2_with fail
        go_wp2_with fail
        with_reducible refine (HA.out _).mono ?_
        rintro e w2 ⟨⟨TA, hTA, rfl⟩, hb2⟩
        have HB2 := Lib.hid (Bel.call HB1.out hb2)
        replace HRL := Lib.hid (HRL.out.below hb2 (Nat.le_refl _))
        replace HRP := Lib.hid (HRP.out.below hb2 (Nat.le_refl _))
        clear hb2
        try dsimp only at hTA
        have HTA := Lib.hid hTA
        clear hTA
        dsimp only
        go_wp2_with fail
        with_reducible refine (HB.out _).mono ?_
        rintro e w3 ⟨⟨TB, hTB, rfl⟩, hb3⟩
        have HB3 := Lib.hid (Bel.call HB2.out hb3)
        replace HRL := Lib.hid (HRL.out.below hb3 (Nat.le_refl _))
        replace HRP := Lib.hid (HRP.out.below hb3 (Nat.le_refl _))
        clear hb3
        try dsimp only at hTB
        have HTB := Lib.hid hTB
        clear hTB
        dsimp only
        go_wp2_with fail
        with_reducible refine (HC.out _ HRL.out).mono ?_
        rintro e w4 ⟨⟨TC, hTC, rfl⟩, hb4⟩
        have HB4 := Lib.hid (Bel.call HB3.out hb4)
        replace HRL := Lib.hid (HRL.out.below hb4 (Nat.le_refl _))
        replace HRP := Lib.hid (HRP.out.below hb4 (Nat.le_refl _))
        clear hb4
        try dsimp only at hTC
        have HTC := Lib.hid hTC
        clear hTC
        dsimp only
        go_wp2_with fail
        with_reducible refine (HD.out _ HRL.out).mono ?_
        rintro e w5 ⟨⟨TD, hTD, rfl⟩, hb5⟩
        have HB5 := Lib.hid (Bel.call HB4.out hb5)
        replace HRL := Lib.hid (HRL.out.below hb5 (Nat.le_refl _))
        replace HRP := Lib.hid (HRP.out.below hb5 (Nat.le_refl _))
        clear hb5
        try dsimp only at hTD
        have HTD := Lib.hid hTD
        clear hTD
        dsimp only
        go_wp2_with fail
        with_reducible refine (HPC.out _ HRL.out).mono ?_
        rintro e w6 ⟨hx, hb6⟩
        have HB6 := Lib.hid (Bel.call HB5.out hb6)
        replace HRL := Lib.hid (HRL.out.below hb6 (Nat.le_refl _))
        replace HRP := Lib.hid (HRP.out.below hb6 (Nat.le_refl _))
        clear hb6
        obtain ⟨AX, cX, YX, hq, hc, hr, hb, rfl⟩ := pb_row hx
        have HQX := Lib.hid hq
        have HCX := Lib.hid hc
        have HRX := Lib.hid hr
        clear hx hq hc hr hb
        dsimp only
        go_wp2_with fail
        with_reducible refine (HPD.out _ HRL.out).mono ?_
        rintro e w7 ⟨hx, hb7⟩
        have HB7 := Lib.hid (Bel.call HB6.out hb7)
        replace HRL := Lib.hid (HRL.out.below hb7 (Nat.le_refl _))
        replace HRP := Lib.hid (HRP.out.below hb7 (Nat.le_refl _))
        replace HRX := Lib.hid (HRX.out.below hb7 (Nat.le_refl _))
        clear hb7
        obtain ⟨AY, cY, YY, hq, hc, hr, hb, rfl⟩ := pb_row hx
        have HQY := Lib.hid hq
        have HCY := Lib.hid hc
        have HRY := Lib.hid hr
        clear hx hq hc hr hb
        dsimp only
        obtain rfl : TA = TB := str_eq (by rw [HTA.out, HTB.out])
        obtain rfl : TC = TD := str_eq (by rw [HTC.out, HTD.out])
        have HSM : Hid (∀ w', SReads w' AX YX → SReads w' AY YY → Calls Try.prog 17 #[.slice AX YX.length cX, .slice AY YY.length cY] w' fun e w'' => e = .returned (.bool true) ∧ Below w'.heap.size w' w'') := Lib.hid fun w' h1 h2 => by
          have := same_any AX AY cX cY YX YY w' h1 h2 (by have h3 := HCX.out.1; have h4 := HPF.out; have h5 := bl_length HQX.out; omega)
          rw [decide_eq_true (show bl YX = bl YY by rw [HQX.out, HQY.out])] at this
          exact this
        go_wp2_with fail
        with_reducible refine (HSM.out _ HRX.out HRY.out).mono ?_
        rintro e w8 ⟨rfl, hb8⟩
        have HB8 := Lib.hid (Bel.call HB7.out hb8)
        replace HRL := Lib.hid (HRL.out.below hb8 (Nat.le_refl _))
        replace HRP := Lib.hid (HRP.out.below hb8 (Nat.le_refl _))
        replace HRX := Lib.hid (HRX.out.below hb8 (Nat.le_refl _))
        replace HRY := Lib.hid (HRY.out.below hb8 (Nat.le_refl _))
        clear hb8
        dsimp only
        go_wp2_with fail
        with_reducible refine (HVC.out _ HRP.out).mono ?_
        rintro e w9 ⟨rfl, hb9⟩
        have HB9 := Lib.hid (Bel.call HB8.out hb9)
        replace HRL := Lib.hid (HRL.out.below hb9 (Nat.le_refl _))
        replace HRP := Lib.hid (HRP.out.below hb9 (Nat.le_refl _))
        replace HRX := Lib.hid (HRX.out.below hb9 (Nat.le_refl _))
        replace HRY := Lib.hid (HRY.out.below hb9 (Nat.le_refl _))
        clear hb9
        dsimp only
        go_wp2_with fail
        with_reducible refine (HVD.out _ HRP.out).mono ?_
        rintro e w10 ⟨rfl, hb10⟩
        have HB10 := Lib.hid (Bel.call HB9.out hb10)
        replace HRL := Lib.hid (HRL.out.below hb10 (Nat.le_refl _))
        replace HRP := Lib.hid (HRP.out.below hb10 (Nat.le_refl _))
        replace HRX := Lib.hid (HRX.out.below hb10 (Nat.le_refl _))
        replace HRY := Lib.hid (HRY.out.below hb10 (Nat.le_refl _))
        clear hb10
        dsimp only
        cases vv <;> (go_wp2; go_ret; exact ⟨rfl, HB10.out⟩)
end Go.Proofs.Ytblgcpopcgnncaa.Tre
