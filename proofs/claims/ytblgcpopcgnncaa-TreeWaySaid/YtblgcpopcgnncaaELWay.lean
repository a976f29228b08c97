/-
  THE LAW TreeWay, walked. By an AI agent; no person has read it.
-/
import Derived.Test.YtblgcpopcgnncaaELWayP
import Derived.Test.YtblgcpopcgnncaaE3
namespace Go.Proofs.Ytblgcpopcgnncaa.Tre
open Go Go.RowKit Wire Term Draw Reg Clo

set_option linter.unusedSimpArgs false
set_option linter.unusedVariables false
set_option maxHeartbeats 8000000 in
set_option maxRecDepth 1000000 in
theorem way_walk (A1 : Option Addr) (c1 : Nat) (z1 : List Int) (at0 : Int) (w : World) (hi1 : IReads w A1 z1) (hn1 : z1.length ≤ 9223372036854775807) (ht : -9223372036854775808 ≤ at0 ∧ at0 ≤ 9223372036854775807) :
    Calls Try.prog 7 #[.slice A1 z1.length c1, .int .i64 at0] w fun e w' => e = .returned (.bool true) ∧ Below w.heap.size w w' := by
  have HI1 := Lib.hid hi1
  have HSH := Lib.hid fun w => shown_any w
  have HRO1 : Hid (∀ w', IReads w' A1 z1 → Calls Try.prog 20 #[.slice A1 z1.length c1] w' fun e w'' => Ob w' w'' (rowL z1) e ∧ Below w'.heap.size w' w'') := Lib.hid fun w' h => row_any A1 c1 z1 w' h hn1
  have hs1 := rowL_small (zs := z1)
  have hl1 : (rowL z1).length ≤ 8 := by rw [rowL_len]; omega
  generalize rowL z1 = la at HRO1 hs1 hl1
  clear hi1 hn1
  go_enter Try.func7, Try.ntmps7
  go_wp2_with fail
  with_reducible refine (HSH.out _).mono ?_
  rintro e w1 ⟨rfl, hb1⟩
  have HB1 := Lib.hid hb1
  replace HI1 := Lib.hid (HI1.out.below hb1 (Nat.le_refl _))
  clear hb1
  dsimp only
  go_wp2_with fail
  with_reducible refine (HRO1.out _ HI1.out).mono ?_
  rintro e w2 ⟨hx, hb2⟩
  have HB2 := Lib.hid (Bel.call HB1.out hb2)
  replace HI1 := Lib.hid (HI1.out.below hb2 (Nat.le_refl _))
  clear hb2
  obtain ⟨AX, cX, YX, hq, hc, hr, hb, rfl⟩ := ob_row hx
  have HQX := Lib.hid hq
  have HCX := Lib.hid hc
  have HRX := Lib.hid hr
  clear hx hq hc hr hb
  dsimp only
  by_cases h1 : YX.length = 0
  · rw [h1]
    go_wp2
    go_ret
    exact ⟨rfl, HB2.out⟩
  · have q1 : ((YX.length : Int) == 0) = false := by rw [beq_eq_false_iff_ne]; omega
    obtain ⟨gX, oX, rfl, _, _⟩ := HRX.out 0 (by omega)
    have hx := bl_length HQX.out
    have zx := bl_sizes HQX.out hs1
    obtain ⟨xa, ra, _, _, _, _⟩ := small_root (l := la) (by omega) (by omega) hs1
    have hpi := pk_lt at0 (n := YX.length) (by omega)
    have HPI : Hid (∀ w', Calls Try.prog 21 #[.int .i64 at0, .int .i64 (YX.length : Int)] w' fun e w'' => e = .returned (.int .i64 (pk at0 YX.length : Int)) ∧ w'' = w') := Lib.hid fun w' => pick_any at0 YX.length w' ht (by omega) (by omega)
    generalize hij : pk at0 YX.length = ij at hpi HPI
    clear hij
    obtain ⟨P, p1, _, _, _, _, p6, _, p8, _, _⟩ := row_proves (l := la) (x := xa) (k := ij) (by omega) (by omega) hs1 ra (by omega)
    have HST : Hid (Steps la P ij (ij + 1) 0 YX.length) := Lib.hid (by
      have e1 := good_proof (i := (ij : Int)) ra (by omega)
      rw [p1, show ((ij : Int)).toNat = ij by omega] at e1
      have e2 : P = besideD 4 la ij := (Prod.mk.inj e1).1
      have e3 : sl la 0 la.length = la := by simp [sl]
      obtain ⟨_, _, hf, htr⟩ := root_ok ra
      have := steps_way (d := 3) (l := la) (s := 0) (n := la.length) (i := ij) (by omega) hf (by omega) (by omega) (by omega) (by omega) (by rw [e3, htr])
      rw [e3, Nat.zero_add, Nat.zero_add, ← e2, ← hx] at this
      exact this)
    have HPF : Hid (∀ w', SReads w' (some ⟨gX, oX, none⟩) YX → Calls Try.prog 15 #[.slice (some ⟨gX, oX, none⟩) YX.length cX, .int .i64 (ij : Int)] w' fun e w'' => Pb w' w'' (P, 0) e ∧ Below w'.heap.size w' w'') := Lib.hid fun w' h => proof_any_to p1 HQX.out HCX.out (fun y h => by have := zx y h; omega) w' h
    have HS1 : Hid (∀ w', SReads w' (some ⟨gX, oX, none⟩) YX → Calls Try.prog 25 #[.slice (some ⟨gX, oX, none⟩) YX.length cX] w' fun e w'' => (e = .returned (.bool true) ∨ (e = .returned (.bool false) ∧ Unlike la)) ∧ Below w'.heap.size w' w'') := Lib.hid fun w' h => by
      have := same1_any (some ⟨gX, oX, none⟩) cX YX w' h (by omega)
      rw [HQX.out] at this
      exact this
    have HSL : Hid (∀ a k : Nat, 1 ≤ k → a + k ≤ YX.length → ∃ x, root (sl la a k) = (x, 0) ∧ ∀ w', SReads w' (some ⟨gX, oX, none⟩) YX → Calls Try.prog 13 #[.slice (some ⟨gX, oX + a, none⟩) k (cX - a)] w' fun e w'' => Sr (x, 0) e ∧ Below w'.heap.size w' w'') := Lib.hid fun a k hk hak => by
      obtain ⟨x, hxr⟩ := sl_root (l := la) (by omega) hs1 (a := a) (k := k) hk (by omega)
      refine ⟨x, hxr, fun w' h => ?_⟩
      have hc := HCX.out
      have hlen : ((YX.drop a).take k).length = k := by rw [List.length_take, List.length_drop]; omega
      have := root_any_to hxr (A := some ⟨gX, oX + a, none⟩) (c := cX - a) (ys := (YX.drop a).take k) (by rw [← bl_take', ← bl_drop', HQX.out]; rfl) ⟨by omega, by omega⟩ (fun y hy => by have := zx y (List.mem_of_mem_drop (List.mem_of_mem_take hy)); omega) w' (sreads_take (sreads_drop h a) k)
      rw [hlen] at this
      exact this
    have HL8 : Hid (la.length = YX.length ∧ 1 ≤ YX.length ∧ YX.length ≤ 8 ∧ YX.length ≤ cX) := Lib.hid ⟨by omega, by omega, by omega, HCX.out.1⟩
    have hi0 : (0 : Int) ≤ (ij : Int) := Int.natCast_nonneg ij
    have HIJ : Hid (ij < YX.length) := Lib.hid hpi
    have hw1 : IntKind.i64.wrap ((ij : Int) + 1) = (ij : Int) + 1 := by rw [IntKind.wrap_i64]; omega
    have HP3 := Lib.hid p6
    clear p1 p6 p8 hs1 hx zx ra hl1 hpi
    clear HI1
    go_wp2_with fail
    with_reducible refine (HPI.out _).mono ?_
    rintro e v1 ⟨rfl, hv1⟩
    obtain rfl : w2 = v1 := hv1.symm
    dsimp only
    go_wp2_with fail
    with_reducible refine (HPF.out _ HRX.out).mono ?_
    rintro e w3 ⟨hx, hb3⟩
    have HB3 := Lib.hid (Bel.call HB2.out hb3)
    replace HRX := Lib.hid (HRX.out.below hb3 (Nat.le_refl _))
    clear hb3
    obtain ⟨AP, cP, YP, hq, hc, hr, hb, rfl⟩ := pb_row hx
    have HQP := Lib.hid hq
    have HCP := Lib.hid hc
    have HRP := Lib.hid hr
    have HPL := Lib.hid (bl_length hq)
    clear hx hq hc hr hb
    dsimp only
    have HP3' := HP3
    replace HP3 : Hid (YP.length ≤ 3) := Lib.hid (by have := HP3'.out; have := HPL.out; omega)
    clear HP3'
    have hp3 : ¬ (3 : Int) < (YP.length : Int) := by have := HP3.out; omega
    go_wp2_with fail
    with_reducible refine (HS1.out _ HRX.out).mono ?_
    rintro e w4 ⟨hx, hb4⟩
    have HB4 := Lib.hid (Bel.call HB3.out hb4)
    replace HRX := Lib.hid (HRX.out.below hb4 (Nat.le_refl _))
    replace HRP := Lib.hid (HRP.out.below hb4 (Nat.le_refl _))
    clear hb4
    rcases hx with rfl | ⟨rfl, hu⟩
    · dsimp only
      go_wp2
      go_ret
      exact ⟨rfl, HB4.out⟩
    · dsimp only
      have HU := Lib.hid hu
      clear hu
      go_wp2_with fail
      go_loopw [10, 11, 12] (fun lo hi i wr => ∃ a b q : Nat, lo = .int .i64 a ∧ hi = .int .i64 b ∧ i = .int .i64 q ∧ q ≤ YP.length ∧ Hid (Steps la (P.drop q) a b 0 YX.length ∧ a < b ∧ b ≤ YX.length) ∧ Hid (Below w.heap.size w wr ∧ SReads wr (some ⟨gX, oX, none⟩) YX ∧ SReads wr AP YP)) (fun _ _ i _ => YP.length - (intOf i).toNat)
      case atStart => exact ⟨ij, ij + 1, 0, rfl, by go_num, rfl, Nat.zero_le _, Lib.hid ⟨HST.out, by omega, HIJ.out⟩, Lib.hid ⟨HB4.out, HRX.out, HRP.out⟩⟩
      case round =>
        obtain ⟨a, b, q, rfl, rfl, rfl, hq, HSS, HWW⟩ := hrel
        clear HRX HRP HB1 HB2 HB3 HB4 HST
        by_cases hlt : q < YP.length
        · have hq1 : (q : Int) < (YP.length : Int) := by omega
          have hq0 : (0 : Int) ≤ (q : Int) := Int.natCast_nonneg q
          obtain ⟨gP, oP, rfl, _, _⟩ := HWW.out.2.2 q hlt
          obtain ⟨TQ, hTQ⟩ : ∃ T, YP.getD q ByteArray.empty = T := ⟨_, rfl⟩
          obtain ⟨p, hp⟩ : ∃ p, P.getD q [] = p := ⟨_, rfl⟩
          obtain ⟨ps, hps⟩ : ∃ ps, P.drop (q + 1) = ps := ⟨_, rfl⟩
          have HTQ := Lib.hid hTQ
          have HPQ : Hid (TQ.data.toList = p) := Lib.hid (by rw [← hTQ, getD_bl, HQP.out, hp])
          have hd : P.drop q = p :: ps := by
            rw [← hp, ← hps, List.getD, List.getElem?_eq_getElem (show q < P.length by rw [← HPL.out]; exact hlt)]
            exact List.drop_eq_getElem_cons _
          have HPS : Hid (ps = P.drop (q + 1)) := Lib.hid hps.symm
          have HQL := Lib.hid hlt
          rw [hd] at HSS
          clear hTQ hp hps hd
          go_wp2
          go_loopw [10, 11, 13, 14] (fun lo hi fd kk wr => ∃ (a' b' : Nat) (f : Bool) (k : Nat), lo = .int .i64 a' ∧ hi = .int .i64 b' ∧ fd = .bool f ∧ kk = .int .i64 k ∧ 1 ≤ k ∧ k ≤ YX.length + 1 ∧ Hid ((f = false ∧ a' = a ∧ b' = b ∧ ∀ j, 1 ≤ j → j < k → ¬ Hit la p a b j) ∨ (f = true ∧ Steps la ps a' b' 0 YX.length ∧ a' < b' ∧ b' ≤ YX.length)) ∧ Hid (Below w.heap.size w wr ∧ SReads wr (some ⟨gX, oX, none⟩) YX ∧ SReads wr (some ⟨gP, oP, none⟩) YP)) (fun _ _ _ kk _ => YX.length + 1 - (intOf kk).toNat)
          case atStart => exact ⟨a, b, false, 1, rfl, rfl, rfl, rfl, Nat.le_refl _, by omega, Lib.hid (.inl ⟨rfl, rfl, rfl, fun j h1 h2 => absurd h2 (by omega)⟩), HWW⟩
          case round =>
            obtain ⟨a', b', f, k, rfl, rfl, rfl, rfl, hk1, hk2, HF, HWW⟩ := hrel
            have hk0 : (0 : Int) ≤ (k : Int) := Int.natCast_nonneg k
            rcases HF.out with ⟨rfl, ea, eb, hnh⟩ | ⟨rfl, hn1, hn2, hn3⟩
            · obtain rfl : a = a' := ea.symm
              obtain rfl : b = b' := eb.symm
              have HNH := Lib.hid hnh
              clear hnh HF
              by_cases hk : k ≤ YX.length
              · have hk3 : (k : Int) ≤ (YX.length : Int) := by omega
                have hk8 : k ≤ 8 := by have := HL8.out; omega
                by_cases c1 : b + k ≤ YX.length
                · obtain ⟨x1, r1, hr1⟩ := HSL.out b k (by omega) c1
                  have HC1 := Lib.hid hr1
                  have HR1 := Lib.hid r1
                  clear hr1 r1
                  have ht1 : IntKind.i64.wrap ((b : Int) + (k : Int)) = ((b + k : Nat) : Int) := by rw [IntKind.wrap_i64]; have := HL8.out; omega
                  have ht2 : ((b + k : Nat) : Int) ≤ (YX.length : Int) := by omega
                  have ht3 : (b : Int) ≤ ((b + k : Nat) : Int) := by omega
                  have ht4 : ((b + k : Nat) : Int) ≤ (cX : Int) := by have := HL8.out; omega
                  have ht5 : (0 : Int) ≤ (b : Int) := Int.natCast_nonneg _
                  have ht6 : b + k - b = k := by omega
                  have ht7 : ¬ cX = b := by have := HL8.out; omega
                  go_wp2_with fail
                  with_reducible refine (HC1.out _ HWW.out.2.1).mono ?_
                  rintro e w1 ⟨⟨T1, hT1, rfl⟩, hb1⟩
                  have HWW := Lib.hid (⟨Bel.call HWW.out.1 hb1, HWW.out.2.1.below hb1 (Nat.le_refl _), HWW.out.2.2.below hb1 (Nat.le_refl _)⟩ : Below w.heap.size w w1 ∧ SReads w1 (some ⟨gX, oX, none⟩) YX ∧ SReads w1 (some ⟨gP, oP, none⟩) YP)
                  clear hb1
                  try dsimp only at hT1
                  have HT1 := Lib.hid hT1
                  clear hT1
                  dsimp only
                  have hc1 := cell_at HWW.out.2.2 HQL.out
                  rw [HTQ.out] at hc1
                  by_cases m1 : x1 = p
                  · have qm1 : (T1.toList == TQ.toList) = true := eq_bool (by rw [HT1.out, HPQ.out]; exact m1)
                    have hn : Steps la ps a (b + k) 0 YX.length := way_right HU.out HSS.out.1 HSS.out.2.1 (by have := HSS.out.2; have := HL8.out; omega) (by omega) (by have := HL8.out; omega) (by rw [HR1.out, m1])
                    have HN := Lib.hid hn
                    clear hn m1
                    go_wp2
                    go_roundw
                    case rel => exact ⟨a, b + k, true, k + 1, by first | rfl | go_num, by first | rfl | go_num, rfl, by go_num, by omega, by omega, Lib.hid (.inr ⟨rfl, HN.out, by have := HSS.out.2; omega, by omega⟩), HWW⟩
                    case measure => simp [intOf]; omega
                  · have qm1 : (T1.toList == TQ.toList) = false := ne_bool (by rw [HT1.out, HPQ.out]; exact m1)
                    have HM1 := Lib.hid m1
                    clear m1
                    by_cases c2 : k ≤ a
                    · obtain ⟨x2, r2, hr2⟩ := HSL.out (a - k) k (by omega) (by have := HSS.out.2; omega)
                      have HC2 := Lib.hid hr2
                      have HR2 := Lib.hid r2
                      clear hr2 r2
                      have hs1 : wrap64 ((a : Int) - (k : Int)) = ((a - k : Nat) : Int) := by rw [wrap64_i64, IntKind.wrap_i64]; have := HSS.out.2; have := HL8.out; omega
                      have hs2 : (k : Int) ≤ (a : Int) := by omega
                      have hs3 : ((a - k : Nat) : Int) ≤ (a : Int) := by omega
                      have hs4 : (a : Int) ≤ (cX : Int) := by have := HSS.out.2; have := HL8.out; omega
                      have hs5 : (0 : Int) ≤ ((a - k : Nat) : Int) := Int.natCast_nonneg _
                      have hs6 : a - (a - k) = k := by omega
                      have hs7 : ¬ cX = a - k := by have := HSS.out.2; have := HL8.out; omega
                      go_wp2_with fail
                      with_reducible refine (HC2.out _ HWW.out.2.1).mono ?_
                      rintro e w2 ⟨⟨T2, hT2, rfl⟩, hb2⟩
                      have HWW := Lib.hid (⟨Bel.call HWW.out.1 hb2, HWW.out.2.1.below hb2 (Nat.le_refl _), HWW.out.2.2.below hb2 (Nat.le_refl _)⟩ : Below w.heap.size w w2 ∧ SReads w2 (some ⟨gX, oX, none⟩) YX ∧ SReads w2 (some ⟨gP, oP, none⟩) YP)
                      clear hb2
                      try dsimp only at hT2
                      have HT2 := Lib.hid hT2
                      clear hT2
                      dsimp only
                      have hc2 := cell_at HWW.out.2.2 HQL.out
                      rw [HTQ.out] at hc2
                      by_cases m2 : x2 = p
                      · have qm2 : (T2.toList == TQ.toList) = true := eq_bool (by rw [HT2.out, HPQ.out]; exact m2)
                        have hn : Steps la ps (a - k) b 0 YX.length := way_left HU.out HSS.out.1 HSS.out.2.1 (by have := HSS.out.2; have := HL8.out; omega) (by omega) c2 (by rw [HR2.out, m2])
                        have HN := Lib.hid hn
                        clear hn m2
                        go_wp2
                        go_roundw
                        case rel => exact ⟨a - k, b, true, k + 1, by first | rfl | go_num, by first | rfl | go_num, rfl, by go_num, by omega, by omega, Lib.hid (.inr ⟨rfl, HN.out, by have := HSS.out.2; omega, HSS.out.2.2⟩), HWW⟩
                        case measure => simp [intOf]; omega
                      · have qm2 : (T2.toList == TQ.toList) = false := ne_bool (by rw [HT2.out, HPQ.out]; exact m2)
                        have HM2 := Lib.hid m2
                        clear m2
                        go_wp2
                        go_roundw
                        case rel => exact ⟨a, b, false, k + 1, by first | rfl | go_num, by first | rfl | go_num, rfl, by go_num, by omega, by omega, Lib.hid (.inl ⟨rfl, rfl, rfl, fun j h1 h2 => by
                              rcases Nat.lt_or_ge j k with h | h
                              · exact HNH.out j h1 h
                              · obtain rfl : j = k := by omega
                                intro hh
                                rcases hh with ⟨hh1, hh2⟩ | ⟨hh1, hh2⟩
                                · rw [HR1.out] at hh2; exact HM1.out (Prod.mk.inj hh2).1
                                · rw [HR2.out] at hh2; exact HM2.out (Prod.mk.inj hh2).1⟩), HWW⟩
                        case measure => simp [intOf]; omega
                    · have hs2 : ¬ (k : Int) ≤ (a : Int) := by omega
                      go_wp2
                      go_roundw
                      case rel => exact ⟨a, b, false, k + 1, by first | rfl | go_num, by first | rfl | go_num, rfl, by go_num, by omega, by omega, Lib.hid (.inl ⟨rfl, rfl, rfl, fun j h1 h2 => by
                            rcases Nat.lt_or_ge j k with h | h
                            · exact HNH.out j h1 h
                            · obtain rfl : j = k := by omega
                              intro hh
                              rcases hh with ⟨hh1, hh2⟩ | ⟨hh1, hh2⟩
                              · rw [HR1.out] at hh2; exact HM1.out (Prod.mk.inj hh2).1
                              · exact absurd hh1 (by omega)⟩), HWW⟩
                      case measure => simp [intOf]; omega
                · have ht1 : IntKind.i64.wrap ((b : Int) + (k : Int)) = ((b + k : Nat) : Int) := by rw [IntKind.wrap_i64]; have := HSS.out.2; have := HL8.out; omega
                  have ht2 : ¬ ((b + k : Nat) : Int) ≤ (YX.length : Int) := by omega
                  by_cases c2 : k ≤ a
                  · obtain ⟨x2, r2, hr2⟩ := HSL.out (a - k) k (by omega) (by have := HSS.out.2; omega)
                    have HC2 := Lib.hid hr2
                    have HR2 := Lib.hid r2
                    clear hr2 r2
                    have hs1 : wrap64 ((a : Int) - (k : Int)) = ((a - k : Nat) : Int) := by rw [wrap64_i64, IntKind.wrap_i64]; have := HSS.out.2; have := HL8.out; omega
                    have hs2 : (k : Int) ≤ (a : Int) := by omega
                    have hs3 : ((a - k : Nat) : Int) ≤ (a : Int) := by omega
                    have hs4 : (a : Int) ≤ (cX : Int) := by have := HSS.out.2; have := HL8.out; omega
                    have hs5 : (0 : Int) ≤ ((a - k : Nat) : Int) := Int.natCast_nonneg _
                    have hs6 : a - (a - k) = k := by omega
                    have hs7 : ¬ cX = a - k := by have := HSS.out.2; have := HL8.out; omega
                    go_wp2_with fail
                    with_reducible refine (HC2.out _ HWW.out.2.1).mono ?_
                    rintro e w2 ⟨⟨T2, hT2, rfl⟩, hb2⟩
                    have HWW := Lib.hid (⟨Bel.call HWW.out.1 hb2, HWW.out.2.1.below hb2 (Nat.le_refl _), HWW.out.2.2.below hb2 (Nat.le_refl _)⟩ : Below w.heap.size w w2 ∧ SReads w2 (some ⟨gX, oX, none⟩) YX ∧ SReads w2 (some ⟨gP, oP, none⟩) YP)
                    clear hb2
                    try dsimp only at hT2
                    have HT2 := Lib.hid hT2
                    clear hT2
                    dsimp only
                    have hc2 := cell_at HWW.out.2.2 HQL.out
                    rw [HTQ.out] at hc2
                    by_cases m2 : x2 = p
                    · have qm2 : (T2.toList == TQ.toList) = true := eq_bool (by rw [HT2.out, HPQ.out]; exact m2)
                      have hn : Steps la ps (a - k) b 0 YX.length := way_left HU.out HSS.out.1 HSS.out.2.1 (by have := HSS.out.2; have := HL8.out; omega) (by omega) c2 (by rw [HR2.out, m2])
                      have HN := Lib.hid hn
                      clear hn m2
                      go_wp2
                      go_roundw
                      case rel => exact ⟨a - k, b, true, k + 1, by first | rfl | go_num, by first | rfl | go_num, rfl, by go_num, by omega, by omega, Lib.hid (.inr ⟨rfl, HN.out, by have := HSS.out.2; omega, HSS.out.2.2⟩), HWW⟩
                      case measure => simp [intOf]; omega
                    · have qm2 : (T2.toList == TQ.toList) = false := ne_bool (by rw [HT2.out, HPQ.out]; exact m2)
                      have HM2 := Lib.hid m2
                      clear m2
                      go_wp2
                      go_roundw
                      case rel => exact ⟨a, b, false, k + 1, by first | rfl | go_num, by first | rfl | go_num, rfl, by go_num, by omega, by omega, Lib.hid (.inl ⟨rfl, rfl, rfl, fun j h1 h2 => by
                            rcases Nat.lt_or_ge j k with h | h
                            · exact HNH.out j h1 h
                            · obtain rfl : j = k := by omega
                              intro hh
                              rcases hh with ⟨hh1, hh2⟩ | ⟨hh1, hh2⟩
                              · exact absurd hh1 (by have := HL8.out; omega)
                              · rw [HR2.out] at hh2; exact HM2.out (Prod.mk.inj hh2).1⟩), HWW⟩
                      case measure => simp [intOf]; omega
                  · have hs2 : ¬ (k : Int) ≤ (a : Int) := by omega
                    go_wp2
                    go_roundw
                    case rel => exact ⟨a, b, false, k + 1, by first | rfl | go_num, by first | rfl | go_num, rfl, by go_num, by omega, by omega, Lib.hid (.inl ⟨rfl, rfl, rfl, fun j h1 h2 => by
                          rcases Nat.lt_or_ge j k with h | h
                          · exact HNH.out j h1 h
                          · obtain rfl : j = k := by omega
                            intro hh
                            rcases hh with ⟨hh1, hh2⟩ | ⟨hh1, hh2⟩
                            · exact absurd hh1 (by have := HL8.out; omega)
                            · exact absurd hh1 (by omega)⟩), HWW⟩
                    case measure => simp [intOf]; omega
              · exfalso
                obtain ⟨j, j1, j2, j3⟩ := way_hit HSS.out.1 (by have := HSS.out.2; have := HL8.out; omega) HSS.out.2.1
                exact HNH.out j j1 (by have := HL8.out; omega) j3
            · have HN := Lib.hid (⟨hn1, hn2, hn3⟩ : Steps la ps a' b' 0 YX.length ∧ a' < b' ∧ b' ≤ YX.length)
              clear hn1 hn2 hn3 HF
              have fini : ∀ {x : Prop}, x → x := fun h => h
              by_cases hk : (k : Int) ≤ (YX.length : Int)
              · go_wp2
                go_roundw
                case rel => exact ⟨a', b', q + 1, rfl, rfl, by go_num, by omega, by rw [HPS.out] at HN; exact HN, HWW⟩
                case measure => simp [intOf]; omega
              · go_wp2
                go_roundw
                case rel => exact ⟨a', b', q + 1, rfl, rfl, by go_num, by omega, by rw [HPS.out] at HN; exact HN, HWW⟩
                case measure => simp [intOf]; omega
        · obtain rfl : q = YP.length := by omega
          have hd : P.drop YP.length = [] := by rw [HPL.out]; exact List.drop_length
          rw [hd] at HSS
          obtain ⟨rfl, rfl⟩ := HSS.out.1
          clear hd HSS
          have hlt2 : ¬ (YP.length : Int) < (YP.length : Int) := by omega
          have hw9 : IntKind.i64.wrap ((YX.length : Int) - ((0 : Nat) : Int)) = (YX.length : Int) := by rw [IntKind.wrap_i64]; have := HL8.out; omega
          go_wp2
          go_ret
          exact ⟨by simp; rw [wrap64_i64, IntKind.wrap_i64]; have := HL8.out; omega, HWW.out.1⟩
end Go.Proofs.Ytblgcpopcgnncaa.Tre
