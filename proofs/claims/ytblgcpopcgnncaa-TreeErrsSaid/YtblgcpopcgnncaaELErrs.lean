/-
  THE LAW TreeErrs, walked. By an AI agent; no person has read it.
-/
import Derived.Test.YtblgcpopcgnncaaELErrsP
import Derived.Test.YtblgcpopcgnncaaE3
namespace Go.Proofs.Ytblgcpopcgnncaa.Tre
open Go Go.RowKit Wire Term Draw Reg Clo

set_option linter.unusedSimpArgs false
set_option linter.unusedVariables false
set_option maxHeartbeats 8000000 in
set_option maxRecDepth 1000000 in
theorem errs_walk (A : Option Addr) (c : Nat) (z : List Int) (times : Int) (s : ByteArray) (at0 : Int) (w : World) (hi : IReads w A z) (hn : z.length ≤ 9223372036854775807) (ht : -9223372036854775808 ≤ times ∧ times ≤ 9223372036854775807) (hs : s.size ≤ 140737488351232) :
    Calls Try.prog 8 #[.slice A z.length c, .int .i64 times, .string s, .int .i64 at0] w fun e w' => e = .returned (.bool true) ∧ Below w.heap.size w w' := by
  have HI := Lib.hid hi
  have HI0 := Lib.hid hi
  have hm4 := pk_lt times (n := 4) (by decide)
  have HPK : Hid (∀ w, Calls Try.prog 21 #[.int .i64 times, .int .i64 4] w fun e w' => e = .returned (.int .i64 (pk times 4 : Int)) ∧ w' = w) := Lib.hid fun w => pick_any times 4 w ht (by decide) (by decide)
  generalize pk times 4 = m at hm4 HPK
  have HSH := Lib.hid fun w => shown_any w
  have HRO : Hid (∀ w', IReads w' A z → Calls Try.prog 20 #[.slice A z.length c] w' fun e w'' => Ob w' w'' (rowL z) e ∧ Below w'.heap.size w' w'') := Lib.hid fun w' h => row_any A c z w' h hn
  have hsm := rowL_small (zs := z)
  have hl8 : (rowL z).length ≤ 8 := by rw [rowL_len]; omega
  generalize rowL z = l at HRO hsm hl8
  clear hi hn
  go_enter Try.func8, Try.ntmps8
  go_wp2_with fail
  with_reducible refine (HSH.out _).mono ?_
  rintro e w1 ⟨rfl, hb1⟩
  have HB1 := Lib.hid hb1
  replace HI := Lib.hid (HI.out.below hb1 (Nat.le_refl _))
  clear hb1
  dsimp only
  by_cases hs1 : (1000 : Int) < (s.size : Int)
  · go_wp2
    go_ret
    exact ⟨rfl, HB1.out⟩
  · go_wp2_with fail
    go_loopw [10, 11] (fun v i wr => ∃ (k : Nat) (V : Value), k ≤ m ∧ i = .int .i64 (k : Int) ∧ V = v ∧ Hid (RowO w ((List.replicate k l).flatten) V wr)) (fun _ i _ => m - (intOf i).toNat)
    case atStart => exact ⟨0, _, Nat.zero_le _, rfl, rfl, Lib.hid ⟨[], rfl, World.ownsRow_nil _ _ _ _, HB1.out⟩⟩
    case round =>
      obtain ⟨k, v, hk, rfl, rfl, HO⟩ := hrel
      obtain ⟨qs, hq, hown, hbel⟩ := HO.out
      have HOW := Lib.hid hown
      have HBL := Lib.hid hbel
      have HQ := Lib.hid hq
      have hqm : Hid (qs.length ≤ 24) := Lib.hid (by
        have h1 : k ≤ 3 := by omega
        have h2 : l.length ≤ 8 := hl8
        rw [show qs.length = k * l.length by rw [bl_length hq]; simp]
        exact Nat.mul_le_mul h1 h2)
      clear hown hbel hq
      go_wp2_with fail
      with_reducible refine (HPK.out _).mono ?_
      rintro e w3 ⟨rfl, hw3⟩
      obtain rfl : wr = w3 := hw3.symm
      dsimp only
      by_cases hlt : k < m
      · have hlt2 : (k : Int) < (m : Int) := by omega
        go_wp2_with fail
        with_reducible refine (HRO.out _ (HI0.out.below HBL.out (Nat.le_refl _))).mono ?_
        rintro e w5 ⟨hx, hb5⟩
        obtain ⟨AR, cR, YR, hq, hc, hr, hb, rfl⟩ := ob_row hx
        have HQR := Lib.hid hq
        have HRR := Lib.hid hr
        have HBKR := Lib.hid hb
        have HB2 := Lib.hid hb5
        have hl8' : l.length ≤ 8 := hl8
        have hqm' := hqm.out
        clear hx hq hc hr hb hb5
        dsimp only
        go_wp2_with (first
          | (at_builtin
             refine append_strs rfl _ _ rfl w.heap.size v qs.length qs YR rfl ?c1 (rfl) AR YR.length cR rfl (rfl) ((own_none HBKR.out)) ?c2 ?c3 ?c4 ?_
             case c1 => exact own_below HOW.out HB2.out (Nat.le_refl _)
             case c2 => exact HRR.out
             case c3 => have := bl_length HQR.out; have := hl8'; have := hqm'; omega
             case c4 => exact Nat.le_trans HBL.out.size HB2.out.size
             intro v6 w6 hown hb
             have HO6 := Lib.hid hown
             have HX6 := Lib.hid hb
             clear hown hb))
        go_roundw
        case rel =>
          refine ⟨k + 1, _, by omega, by go_num, rfl, Lib.hid ⟨qs ++ YR, ?_, by rw [List.length_append]; exact HO6.out, ?_⟩⟩
          · have h1 := HQ.out
            have h2 := HQR.out
            have e1 : bl (qs ++ YR) = bl qs ++ bl YR := by simp [bl]
            rw [e1, h1, h2, List.replicate_succ', List.flatten_append]; simp
          · exact (Bel.call HBL.out HB2.out).trans HX6.out
        case measure => simp [intOf]; omega
      · obtain rfl : k = m := by omega
        have hlt2 : ¬ (k : Int) < (k : Int) := by omega
        obtain ⟨AX, cX, rfl, hr, hc, hnil⟩ := own_row HOW.out
        have HCX := Lib.hid hc
        have HNX := Lib.hid hnil
        have HRX := Lib.hid hr
        clear hr hc hnil
        have hXs : ∀ t ∈ (List.replicate k l).flatten, (Sz 2 t ∧ t.length ≤ 121) ∧ isLeaf t = true := fun t h => by
          obtain ⟨y, hy, hty⟩ := List.mem_flatten.1 h
          obtain ⟨_, rfl⟩ := List.mem_replicate.1 hy
          exact hsm t hty
        have hXl := bl_length HQ.out
        have hQx := HQ.out
        have hqz := bl_sizes HQ.out hXs
        generalize (List.replicate k l).flatten = xs at hXs hXl hQx
        have hlx : ∀ t ∈ xs, isLeaf t = true := fun t h => (hXs t h).2
        have HLC := Lib.hid (leaf_cases s (by omega))
        have hqz' : ∀ y ∈ qs, y.size ≤ 140737488355328 := fun y h => by have := hqz y h; omega
        have hqe : xs.length = qs.length := hXl.symm
        by_cases hN : qs.length < 1 ∨ 8 < qs.length
        · obtain ⟨rx, hrx⟩ : ∃ x : Tm, x = [] := ⟨_, rfl⟩
          obtain ⟨px, hpx⟩ : ∃ x : List Tm, x = [] := ⟨_, rfl⟩
          have hroot : root xs = (rx, 1) := by rw [hrx]; exact many_root (by omega)
          have hproof : proofT xs at0 = (px, 1) := by rw [hpx]; rw [hrx] at hroot; exact bad_proof hroot
          rcases Nat.lt_or_ge qs.length 1 with hN0 | hN1
          · have qa : ((qs.length : Int) == 0) = true := by rw [beq_iff_eq]; omega
            have qb : ¬ (8 : Int) < (qs.length : Int) := by omega
            clear hN
            have HRT : Hid (∀ w', SReads w' AX qs → Calls Try.prog 13 #[.slice AX qs.length cX] w' fun e w'' => Sr (rx, 1) e ∧ Below w'.heap.size w' w'') := Lib.hid fun w' h => root_any_to hroot hQx HCX.out hqz' w' h
            have HPC : Hid (∀ w', SReads w' AX qs → Calls Try.prog 15 #[.slice AX qs.length cX, .int .i64 at0] w' fun e w'' => Pb w' w'' (px, 1) e ∧ Below w'.heap.size w' w'') := Lib.hid fun w' h => proof_any_to hproof hQx HCX.out hqz' w' h
            have HQZ := Lib.hid hqz'
            clear hroot hproof hXl hqe hXs hlx hqz hqz' hQx
            have HB50 : Hid (Below w.heap.size w wr) := HBL
            go_wp2_with fail
            with_reducible refine (HRT.out _ HRX.out).mono ?_
            rintro e w51 ⟨⟨R, hR, rfl⟩, hb51⟩
            have HB51 := Lib.hid (Bel.call HB50.out hb51)
            replace HRX := Lib.hid (HRX.out.below hb51 (Nat.le_refl _))
            clear hb51
            try dsimp only at hR
            have HR := Lib.hid hR
            clear hR
            dsimp only
            go_wp2_with fail
            with_reducible refine (HPC.out _ HRX.out).mono ?_
            rintro e w52 ⟨hx, hb52⟩
            have HB52 := Lib.hid (Bel.call HB51.out hb52)
            replace HRX := Lib.hid (HRX.out.below hb52 (Nat.le_refl _))
            clear hb52
            obtain ⟨AP, cP, YP, hq, hc, hr, hb, rfl⟩ := pb_row hx
            have HQP := Lib.hid hq
            have HCP := Lib.hid hc
            have HRP := Lib.hid hr
            clear hx hq hc hr hb
            dsimp only
            rcases HLC.out with ⟨hlf, h1⟩ | ⟨hlf, ⟨P, h1⟩, k2, hk2, h2⟩ | ⟨p, q, ka, kb, hlf, h1, h2, h3, h4⟩
            · have H1 := Lib.hid h1
              have HLF := Lib.hid hlf
              clear h1 hlf
              go_wp2_with fail
              with_reducible refine (H1.out _).mono ?_
              rintro e w53 ⟨⟨AT, cT, YT, hq, hc, hr, rfl⟩, hb53⟩
              have HB53 := Lib.hid (Bel.call HB52.out hb53)
              replace HRX := Lib.hid (HRX.out.below hb53 (Nat.le_refl _))
              replace HRP := Lib.hid (HRP.out.below hb53 (Nat.le_refl _))
              clear hb53
              have HQT := Lib.hid hq
              have HRT := Lib.hid hr
              clear hq hc hr
              dsimp only
              go_wp2_with (first
                | (at_builtin
                   refine append_strs rfl _ _ rfl w53.heap.size (.slice (some ⟨w53.heap.size, 0, none⟩) 0 0) 0 [] qs rfl ?c1 (rfl) AX qs.length cX rfl (rfl) (HNX.out) ?c2 ?c3 ?c4 ?_
                   case c1 => exact own_empty w53
                   case c2 => exact HRX.out.below ((Below.refl _ w53).alloc (Nat.le_refl _) _) (Nat.le_refl _)
                   case c3 => have := hqm.out; omega
                   case c4 => simp
                   intro vA wA hown hb
                   have HOA := Lib.hid hown
                   have HXA := Lib.hid hb
                   clear hown hb)
                | (at_builtin
                   refine append_strs rfl _ _ rfl w53.heap.size vA (0 + qs.length) ([] ++ qs) [s] rfl ?c1 ((by simp)) (some ⟨wA.heap.size, 0, none⟩) 1 1 rfl (rfl) (fun h => by cases h) ?c2 ?c3 ?c4 ?_
                   case c1 => exact own_below HOA.out ((Below.refl _ wA).alloc (Nat.le_refl _) _) (Nat.le_refl _)
                   case c2 => exact one_reads wA s wA.heap.size rfl
                   case c3 => have := hqm.out; simp only [List.length_cons, List.length_nil]; omega
                   case c4 => have := HXA.out.size; simp only [World.size_alloc] at this ⊢; omega
                   intro vB wB hown hb
                   have HOB := Lib.hid hown
                   have HXB := Lib.hid hb
                   clear hown hb))
              have hoB : wB.ownsRow w53.heap.size 9 1 vB (qs ++ [s]).length (sv (qs ++ [s])) := by simpa using HOB.out
              obtain ⟨AB, cB, rfl, hrB, hcB, _⟩ := own_row (w0 := w53) hoB
              have hbB : Below w53.heap.size w53 wB := ((((Below.refl _ w53).alloc (Nat.le_refl _) _).trans HXA.out).alloc (by have := HXA.out.size; simp only [World.size_alloc] at this; omega) _).trans HXB.out
              have HB54 := Lib.hid (Bel.call HB53.out hbB)
              replace HRX := Lib.hid (HRX.out.below hbB (Nat.le_refl _))
              replace HRP := Lib.hid (HRP.out.below hbB (Nat.le_refl _))
              have HRB := Lib.hid hrB
              have HCB := Lib.hid hcB
              have HRT2 : Hid (∀ w', SReads w' AB (qs ++ [s]) → Calls Try.prog 13 #[.slice AB (qs ++ [s]).length cB] w' fun e w'' => Sr ([], 1) e ∧ Below w'.heap.size w' w'') := Lib.hid fun w' h => root_any_to (bad_root (s := s.data.toList) HLF.out (List.mem_map.2 ⟨s, by simp, rfl⟩)) rfl HCB.out (sz_snoc HQZ.out (by omega)) w' h
              clear hrB hcB hoB hbB HOA HOB HXA HXB
              with_reducible refine (HRT2.out _ HRB.out).mono ?_
              rintro e w55 ⟨⟨T2, hT2, rfl⟩, hb55⟩
              have HB55 := Lib.hid (Bel.call HB54.out hb55)
              replace HRX := Lib.hid (HRX.out.below hb55 (Nat.le_refl _))
              replace HRP := Lib.hid (HRP.out.below hb55 (Nat.le_refl _))
              replace HRB := Lib.hid (HRB.out.below hb55 (Nat.le_refl _))
              clear hb55
              obtain rfl : T2 = ⟨#[]⟩ := str_eq hT2
              clear hT2
              dsimp only
              clear HRB HRT2 HCB
              go_wp2_with (first
                | (at_builtin
                   refine append_strs rfl _ _ rfl w55.heap.size (.slice (some ⟨w55.heap.size, 0, none⟩) 1 1) 1 [s] qs rfl ?c1 (rfl) AX qs.length cX rfl (rfl) (HNX.out) ?c2 ?c3 ?c4 ?_
                   case c1 => exact own_lit w55 [s] 1 rfl (by decide)
                   case c2 => exact HRX.out.below ((Below.refl _ w55).alloc (Nat.le_refl _) _) (Nat.le_refl _)
                   case c3 => have := hqm.out; omega
                   case c4 => simp
                   intro vC wC hown hb
                   have HOC := Lib.hid hown
                   have HXC := Lib.hid hb
                   clear hown hb))
              have hoC : wC.ownsRow w55.heap.size 9 1 vC (s :: qs).length (sv (s :: qs)) := by have := HOC.out; rwa [show 1 + qs.length = (s :: qs).length by simp; omega] at this
              obtain ⟨AC, cC, rfl, hrC, hcC, _⟩ := own_row (w0 := w55) hoC
              have hbC : Below w55.heap.size w55 wC := ((Below.refl _ w55).alloc (Nat.le_refl _) _).trans HXC.out
              have HB56 := Lib.hid (Bel.call HB55.out hbC)
              replace HRX := Lib.hid (HRX.out.below hbC (Nat.le_refl _))
              replace HRP := Lib.hid (HRP.out.below hbC (Nat.le_refl _))
              have HRC := Lib.hid hrC
              have HCC := Lib.hid hcC
              have HPC2 : Hid (∀ w', SReads w' AC (s :: qs) → Calls Try.prog 15 #[.slice AC (s :: qs).length cC, .int .i64 0] w' fun e w'' => Pb w' w'' ([], 1) e ∧ Below w'.heap.size w' w'') := Lib.hid fun w' h => proof_any_to (bad_proof (bad_root (s := s.data.toList) HLF.out (List.mem_map.2 ⟨s, by simp, rfl⟩))) rfl HCC.out (sz_cons HQZ.out (by omega)) w' h
              clear hrC hcC hoC hbC HOC HXC
              with_reducible refine (HPC2.out _ HRC.out).mono ?_
              rintro e w57 ⟨hx, hb57⟩
              have HB57 := Lib.hid (Bel.call HB56.out hb57)
              replace HRX := Lib.hid (HRX.out.below hb57 (Nat.le_refl _))
              replace HRP := Lib.hid (HRP.out.below hb57 (Nat.le_refl _))
              replace HRC := Lib.hid (HRC.out.below hb57 (Nat.le_refl _))
              clear hb57
              obtain ⟨AQ, cQ, YQ, hq, _, _, _, rfl⟩ := pb_row hx
              obtain rfl : YQ = [] := List.eq_nil_of_length_eq_zero (bl_length hq)
              clear hx hq
              dsimp only
              clear HRC HPC2 HCC
              go_wp2_with fail
              obtain ⟨K2, hK2⟩ : ∃ K2, (⟨#[104]⟩ : ByteArray) ++ s = K2 := ⟨_, rfl⟩
              have HVE : Hid (∀ w', Calls Try.prog 18 #[.string K2, .int .i64 1, .int .i64 0, .string s, .slice none 0 0] w' fun e w'' => e = .returned (.bool false) ∧ Below w'.heap.size w' w'') := Lib.hid fun w' => by
                have h := cverify_any K2 1 0 s none 0 [] w' (SReads.nil _ _) (Nat.le_refl _) (by omega) (fun y hy => absurd hy (List.not_mem_nil)) (by omega) (by rw [Lib.size_eq, ← hK2, app_data, List.length_append, ← Lib.size_eq, ← Lib.size_eq]; have : (⟨#[104]⟩ : ByteArray).size = 1 := rfl; omega)
                rw [ver_bad HLF.out] at h
                exact h
              rw [hK2]
              clear hK2
              with_reducible refine (HVE.out _).mono ?_
              rintro e w58 ⟨rfl, hb58⟩
              have HB58 := Lib.hid (Bel.call HB57.out hb58)
              replace HRX := Lib.hid (HRX.out.below hb58 (Nat.le_refl _))
              replace HRP := Lib.hid (HRP.out.below hb58 (Nat.le_refl _))
              clear hb58
              dsimp only
              go_wp2
              go_ret
              exact ⟨rfl, HB58.out⟩
            · have H1 := Lib.hid h1
              have H2 := Lib.hid h2
              have HLF := Lib.hid hlf
              have qk : ((k2 : Int) == 112) = false := by rw [beq_eq_false_iff_ne]; omega
              clear h1 h2 hlf hk2
              go_wp2_with fail
              with_reducible refine (H1.out _).mono ?_
              rintro e w53 ⟨⟨AT, cT, YT, hq, hc, hr, rfl⟩, hb53⟩
              have HB53 := Lib.hid (Bel.call HB52.out hb53)
              replace HRX := Lib.hid (HRX.out.below hb53 (Nat.le_refl _))
              replace HRP := Lib.hid (HRP.out.below hb53 (Nat.le_refl _))
              clear hb53
              have HQT := Lib.hid hq
              have HRT := Lib.hid hr
              clear hq hc hr
              dsimp only
              go_wp2_with fail
              with_reducible refine (H2.out _).mono ?_
              rintro e w54 ⟨rfl, hb54⟩
              have HB54 := Lib.hid (Bel.call HB53.out hb54)
              replace HRX := Lib.hid (HRX.out.below hb54 (Nat.le_refl _))
              replace HRP := Lib.hid (HRP.out.below hb54 (Nat.le_refl _))
              clear hb54
              dsimp only
              go_wp2_with (first
                | (at_builtin
                   refine append_strs rfl _ _ rfl w54.heap.size (.slice (some ⟨w54.heap.size, 0, none⟩) 0 0) 0 [] qs rfl ?c1 (rfl) AX qs.length cX rfl (rfl) (HNX.out) ?c2 ?c3 ?c4 ?_
                   case c1 => exact own_empty w54
                   case c2 => exact HRX.out.below ((Below.refl _ w54).alloc (Nat.le_refl _) _) (Nat.le_refl _)
                   case c3 => have := hqm.out; omega
                   case c4 => simp
                   intro vA wA hown hb
                   have HOA := Lib.hid hown
                   have HXA := Lib.hid hb
                   clear hown hb)
                | (at_builtin
                   refine append_strs rfl _ _ rfl w54.heap.size vA (0 + qs.length) ([] ++ qs) [s] rfl ?c1 ((by simp)) (some ⟨wA.heap.size, 0, none⟩) 1 1 rfl (rfl) (fun h => by cases h) ?c2 ?c3 ?c4 ?_
                   case c1 => exact own_below HOA.out ((Below.refl _ wA).alloc (Nat.le_refl _) _) (Nat.le_refl _)
                   case c2 => exact one_reads wA s wA.heap.size rfl
                   case c3 => have := hqm.out; simp only [List.length_cons, List.length_nil]; omega
                   case c4 => have := HXA.out.size; simp only [World.size_alloc] at this ⊢; omega
                   intro vB wB hown hb
                   have HOB := Lib.hid hown
                   have HXB := Lib.hid hb
                   clear hown hb))
              have hoB : wB.ownsRow w54.heap.size 9 1 vB (qs ++ [s]).length (sv (qs ++ [s])) := by simpa using HOB.out
              obtain ⟨AB, cB, rfl, hrB, hcB, _⟩ := own_row (w0 := w54) hoB
              have hbB : Below w54.heap.size w54 wB := ((((Below.refl _ w54).alloc (Nat.le_refl _) _).trans HXA.out).alloc (by have := HXA.out.size; simp only [World.size_alloc] at this; omega) _).trans HXB.out
              have HB55 := Lib.hid (Bel.call HB54.out hbB)
              replace HRX := Lib.hid (HRX.out.below hbB (Nat.le_refl _))
              replace HRP := Lib.hid (HRP.out.below hbB (Nat.le_refl _))
              have HRB := Lib.hid hrB
              have HCB := Lib.hid hcB
              have HRT2 : Hid (∀ w', SReads w' AB (qs ++ [s]) → Calls Try.prog 13 #[.slice AB (qs ++ [s]).length cB] w' fun e w'' => Sr ([], 1) e ∧ Below w'.heap.size w' w'') := Lib.hid fun w' h => root_any_to (bad_root (s := s.data.toList) HLF.out (List.mem_map.2 ⟨s, by simp, rfl⟩)) rfl HCB.out (sz_snoc HQZ.out (by omega)) w' h
              clear hrB hcB hoB hbB HOA HOB HXA HXB
              with_reducible refine (HRT2.out _ HRB.out).mono ?_
              rintro e w56 ⟨⟨T2, hT2, rfl⟩, hb56⟩
              have HB56 := Lib.hid (Bel.call HB55.out hb56)
              replace HRX := Lib.hid (HRX.out.below hb56 (Nat.le_refl _))
              replace HRP := Lib.hid (HRP.out.below hb56 (Nat.le_refl _))
              replace HRB := Lib.hid (HRB.out.below hb56 (Nat.le_refl _))
              clear hb56
              obtain rfl : T2 = ⟨#[]⟩ := str_eq hT2
              clear hT2
              dsimp only
              clear HRB HRT2 HCB
              go_wp2_with (first
                | (at_builtin
                   refine append_strs rfl _ _ rfl w56.heap.size (.slice (some ⟨w56.heap.size, 0, none⟩) 1 1) 1 [s] qs rfl ?c1 (rfl) AX qs.length cX rfl (rfl) (HNX.out) ?c2 ?c3 ?c4 ?_
                   case c1 => exact own_lit w56 [s] 1 rfl (by decide)
                   case c2 => exact HRX.out.below ((Below.refl _ w56).alloc (Nat.le_refl _) _) (Nat.le_refl _)
                   case c3 => have := hqm.out; omega
                   case c4 => simp
                   intro vC wC hown hb
                   have HOC := Lib.hid hown
                   have HXC := Lib.hid hb
                   clear hown hb))
              have hoC : wC.ownsRow w56.heap.size 9 1 vC (s :: qs).length (sv (s :: qs)) := by have := HOC.out; rwa [show 1 + qs.length = (s :: qs).length by simp; omega] at this
              obtain ⟨AC, cC, rfl, hrC, hcC, _⟩ := own_row (w0 := w56) hoC
              have hbC : Below w56.heap.size w56 wC := ((Below.refl _ w56).alloc (Nat.le_refl _) _).trans HXC.out
              have HB57 := Lib.hid (Bel.call HB56.out hbC)
              replace HRX := Lib.hid (HRX.out.below hbC (Nat.le_refl _))
              replace HRP := Lib.hid (HRP.out.below hbC (Nat.le_refl _))
              have HRC := Lib.hid hrC
              have HCC := Lib.hid hcC
              have HPC2 : Hid (∀ w', SReads w' AC (s :: qs) → Calls Try.prog 15 #[.slice AC (s :: qs).length cC, .int .i64 0] w' fun e w'' => Pb w' w'' ([], 1) e ∧ Below w'.heap.size w' w'') := Lib.hid fun w' h => proof_any_to (bad_proof (bad_root (s := s.data.toList) HLF.out (List.mem_map.2 ⟨s, by simp, rfl⟩))) rfl HCC.out (sz_cons HQZ.out (by omega)) w' h
              clear hrC hcC hoC hbC HOC HXC
              with_reducible refine (HPC2.out _ HRC.out).mono ?_
              rintro e w58 ⟨hx, hb58⟩
              have HB58 := Lib.hid (Bel.call HB57.out hb58)
              replace HRX := Lib.hid (HRX.out.below hb58 (Nat.le_refl _))
              replace HRP := Lib.hid (HRP.out.below hb58 (Nat.le_refl _))
              replace HRC := Lib.hid (HRC.out.below hb58 (Nat.le_refl _))
              clear hb58
              obtain ⟨AQ, cQ, YQ, hq, _, _, _, rfl⟩ := pb_row hx
              obtain rfl : YQ = [] := List.eq_nil_of_length_eq_zero (bl_length hq)
              clear hx hq
              dsimp only
              clear HRC HPC2 HCC
              go_wp2_with fail
              obtain ⟨K2, hK2⟩ : ∃ K2, (⟨#[104]⟩ : ByteArray) ++ s = K2 := ⟨_, rfl⟩
              have HVE : Hid (∀ w', Calls Try.prog 18 #[.string K2, .int .i64 1, .int .i64 0, .string s, .slice none 0 0] w' fun e w'' => e = .returned (.bool false) ∧ Below w'.heap.size w' w'') := Lib.hid fun w' => by
                have h := cverify_any K2 1 0 s none 0 [] w' (SReads.nil _ _) (Nat.le_refl _) (by omega) (fun y hy => absurd hy (List.not_mem_nil)) (by omega) (by rw [Lib.size_eq, ← hK2, app_data, List.length_append, ← Lib.size_eq, ← Lib.size_eq]; have : (⟨#[104]⟩ : ByteArray).size = 1 := rfl; omega)
                rw [ver_bad HLF.out] at h
                exact h
              rw [hK2]
              clear hK2
              with_reducible refine (HVE.out _).mono ?_
              rintro e w59 ⟨rfl, hb59⟩
              have HB59 := Lib.hid (Bel.call HB58.out hb59)
              replace HRX := Lib.hid (HRX.out.below hb59 (Nat.le_refl _))
              replace HRP := Lib.hid (HRP.out.below hb59 (Nat.le_refl _))
              clear hb59
              dsimp only
              go_wp2
              go_ret
              exact ⟨rfl, HB59.out⟩
            · have H1 := Lib.hid h1
              have H2 := Lib.hid h2
              have H3 := Lib.hid h3
              have H4 := Lib.hid h4
              clear h1 h2 h3 h4
              go_wp2_with fail
              with_reducible refine (H1.out _).mono ?_
              rintro e w53 ⟨⟨AT, cT, YT, hq, hc, hr, rfl⟩, hb53⟩
              have HB53 := Lib.hid (Bel.call HB52.out hb53)
              replace HRX := Lib.hid (HRX.out.below hb53 (Nat.le_refl _))
              replace HRP := Lib.hid (HRP.out.below hb53 (Nat.le_refl _))
              clear hb53
              obtain ⟨PA, PB, rfl, hPA, hPB⟩ := bl_two hq
              obtain ⟨g2, o2, rfl, hg2, l0, l1⟩ := two_reads hr
              have HRT2 := Lib.hid hr
              have HPA := Lib.hid hPA
              have HPB := Lib.hid hPB
              clear hq hc hr hg2 l0 l1 hPA hPB
              dsimp only
              go_wp2_with fail
              with_reducible refine (H2.out _).mono ?_
              rintro e w54 ⟨rfl, hb54⟩
              have HB54 := Lib.hid (Bel.call HB53.out hb54)
              replace HRX := Lib.hid (HRX.out.below hb54 (Nat.le_refl _))
              replace HRP := Lib.hid (HRP.out.below hb54 (Nat.le_refl _))
              replace HRT2 := Lib.hid (HRT2.out.below hb54 (Nat.le_refl _))
              clear hb54
              dsimp only
              obtain ⟨l0, l1⟩ := two_cells HRT2.out
              go_wp2_with fail
              with_reducible refine (H3.out PA _ HPA.out).mono ?_
              rintro e w55 ⟨rfl, hb55⟩
              have HB55 := Lib.hid (Bel.call HB54.out hb55)
              replace HRX := Lib.hid (HRX.out.below hb55 (Nat.le_refl _))
              replace HRP := Lib.hid (HRP.out.below hb55 (Nat.le_refl _))
              replace HRT2 := Lib.hid (HRT2.out.below hb55 (Nat.le_refl _))
              clear hb55
              dsimp only
              clear l0 l1
              obtain ⟨l0, l1⟩ := two_cells HRT2.out
              by_cases ea : ka = 116
              · have qa2 : ((ka : Int) == 116) = true := by rw [beq_iff_eq]; omega
                go_wp2_with fail
                with_reducible refine (H4.out PB _ HPB.out).mono ?_
                rintro e w56 ⟨rfl, hb56⟩
                have HB56 := Lib.hid (Bel.call HB55.out hb56)
                replace HRX := Lib.hid (HRX.out.below hb56 (Nat.le_refl _))
                replace HRP := Lib.hid (HRP.out.below hb56 (Nat.le_refl _))
                replace HRT2 := Lib.hid (HRT2.out.below hb56 (Nat.le_refl _))
                clear hb56
                dsimp only
                clear l0 l1
                by_cases eb : kb = 97
                · have qb2 : ((kb : Int) == 97) = true := by rw [beq_iff_eq]; omega
                  clear hlf
                  go_wp2
                  go_ret
                  exact ⟨rfl, HB56.out⟩
                · have qb2 : ((kb : Int) == 97) = false := by rw [beq_eq_false_iff_ne]; omega
                  have HLF : Hid (isLeaf s.data.toList = false) := Lib.hid (by rw [hlf, decide_eq_false eb, Bool.and_false])
                  clear hlf eb HRT2
                  go_wp2_with (first
                    | (at_builtin
                       refine append_strs rfl _ _ rfl w56.heap.size (.slice (some ⟨w56.heap.size, 0, none⟩) 0 0) 0 [] qs rfl ?c1 (rfl) AX qs.length cX rfl (rfl) (HNX.out) ?c2 ?c3 ?c4 ?_
                       case c1 => exact own_empty w56
                       case c2 => exact HRX.out.below ((Below.refl _ w56).alloc (Nat.le_refl _) _) (Nat.le_refl _)
                       case c3 => have := hqm.out; omega
                       case c4 => simp
                       intro vA wA hown hb
                       have HOA := Lib.hid hown
                       have HXA := Lib.hid hb
                       clear hown hb)
                    | (at_builtin
                       refine append_strs rfl _ _ rfl w56.heap.size vA (0 + qs.length) ([] ++ qs) [s] rfl ?c1 ((by simp)) (some ⟨wA.heap.size, 0, none⟩) 1 1 rfl (rfl) (fun h => by cases h) ?c2 ?c3 ?c4 ?_
                       case c1 => exact own_below HOA.out ((Below.refl _ wA).alloc (Nat.le_refl _) _) (Nat.le_refl _)
                       case c2 => exact one_reads wA s wA.heap.size rfl
                       case c3 => have := hqm.out; simp only [List.length_cons, List.length_nil]; omega
                       case c4 => have := HXA.out.size; simp only [World.size_alloc] at this ⊢; omega
                       intro vB wB hown hb
                       have HOB := Lib.hid hown
                       have HXB := Lib.hid hb
                       clear hown hb))
                  have hoB : wB.ownsRow w56.heap.size 9 1 vB (qs ++ [s]).length (sv (qs ++ [s])) := by simpa using HOB.out
                  obtain ⟨AB, cB, rfl, hrB, hcB, _⟩ := own_row (w0 := w56) hoB
                  have hbB : Below w56.heap.size w56 wB := ((((Below.refl _ w56).alloc (Nat.le_refl _) _).trans HXA.out).alloc (by have := HXA.out.size; simp only [World.size_alloc] at this; omega) _).trans HXB.out
                  have HB57 := Lib.hid (Bel.call HB56.out hbB)
                  replace HRX := Lib.hid (HRX.out.below hbB (Nat.le_refl _))
                  replace HRP := Lib.hid (HRP.out.below hbB (Nat.le_refl _))
                  have HRB := Lib.hid hrB
                  have HCB := Lib.hid hcB
                  have HRT2 : Hid (∀ w', SReads w' AB (qs ++ [s]) → Calls Try.prog 13 #[.slice AB (qs ++ [s]).length cB] w' fun e w'' => Sr ([], 1) e ∧ Below w'.heap.size w' w'') := Lib.hid fun w' h => root_any_to (bad_root (s := s.data.toList) HLF.out (List.mem_map.2 ⟨s, by simp, rfl⟩)) rfl HCB.out (sz_snoc HQZ.out (by omega)) w' h
                  clear hrB hcB hoB hbB HOA HOB HXA HXB
                  with_reducible refine (HRT2.out _ HRB.out).mono ?_
                  rintro e w58 ⟨⟨T2, hT2, rfl⟩, hb58⟩
                  have HB58 := Lib.hid (Bel.call HB57.out hb58)
                  replace HRX := Lib.hid (HRX.out.below hb58 (Nat.le_refl _))
                  replace HRP := Lib.hid (HRP.out.below hb58 (Nat.le_refl _))
                  replace HRB := Lib.hid (HRB.out.below hb58 (Nat.le_refl _))
                  clear hb58
                  obtain rfl : T2 = ⟨#[]⟩ := str_eq hT2
                  clear hT2
                  dsimp only
                  clear HRB HRT2 HCB
                  go_wp2_with (first
                    | (at_builtin
                       refine append_strs rfl _ _ rfl w58.heap.size (.slice (some ⟨w58.heap.size, 0, none⟩) 1 1) 1 [s] qs rfl ?c1 (rfl) AX qs.length cX rfl (rfl) (HNX.out) ?c2 ?c3 ?c4 ?_
                       case c1 => exact own_lit w58 [s] 1 rfl (by decide)
                       case c2 => exact HRX.out.below ((Below.refl _ w58).alloc (Nat.le_refl _) _) (Nat.le_refl _)
                       case c3 => have := hqm.out; omega
                       case c4 => simp
                       intro vC wC hown hb
                       have HOC := Lib.hid hown
                       have HXC := Lib.hid hb
                       clear hown hb))
                  have hoC : wC.ownsRow w58.heap.size 9 1 vC (s :: qs).length (sv (s :: qs)) := by have := HOC.out; rwa [show 1 + qs.length = (s :: qs).length by simp; omega] at this
                  obtain ⟨AC, cC, rfl, hrC, hcC, _⟩ := own_row (w0 := w58) hoC
                  have hbC : Below w58.heap.size w58 wC := ((Below.refl _ w58).alloc (Nat.le_refl _) _).trans HXC.out
                  have HB59 := Lib.hid (Bel.call HB58.out hbC)
                  replace HRX := Lib.hid (HRX.out.below hbC (Nat.le_refl _))
                  replace HRP := Lib.hid (HRP.out.below hbC (Nat.le_refl _))
                  have HRC := Lib.hid hrC
                  have HCC := Lib.hid hcC
                  have HPC2 : Hid (∀ w', SReads w' AC (s :: qs) → Calls Try.prog 15 #[.slice AC (s :: qs).length cC, .int .i64 0] w' fun e w'' => Pb w' w'' ([], 1) e ∧ Below w'.heap.size w' w'') := Lib.hid fun w' h => proof_any_to (bad_proof (bad_root (s := s.data.toList) HLF.out (List.mem_map.2 ⟨s, by simp, rfl⟩))) rfl HCC.out (sz_cons HQZ.out (by omega)) w' h
                  clear hrC hcC hoC hbC HOC HXC
                  with_reducible refine (HPC2.out _ HRC.out).mono ?_
                  rintro e w60 ⟨hx, hb60⟩
                  have HB60 := Lib.hid (Bel.call HB59.out hb60)
                  replace HRX := Lib.hid (HRX.out.below hb60 (Nat.le_refl _))
                  replace HRP := Lib.hid (HRP.out.below hb60 (Nat.le_refl _))
                  replace HRC := Lib.hid (HRC.out.below hb60 (Nat.le_refl _))
                  clear hb60
                  obtain ⟨AQ, cQ, YQ, hq, _, _, _, rfl⟩ := pb_row hx
                  obtain rfl : YQ = [] := List.eq_nil_of_length_eq_zero (bl_length hq)
                  clear hx hq
                  dsimp only
                  clear HRC HPC2 HCC
                  go_wp2_with fail
                  obtain ⟨K2, hK2⟩ : ∃ K2, (⟨#[104]⟩ : ByteArray) ++ s = K2 := ⟨_, rfl⟩
                  have HVE : Hid (∀ w', Calls Try.prog 18 #[.string K2, .int .i64 1, .int .i64 0, .string s, .slice none 0 0] w' fun e w'' => e = .returned (.bool false) ∧ Below w'.heap.size w' w'') := Lib.hid fun w' => by
                    have h := cverify_any K2 1 0 s none 0 [] w' (SReads.nil _ _) (Nat.le_refl _) (by omega) (fun y hy => absurd hy (List.not_mem_nil)) (by omega) (by rw [Lib.size_eq, ← hK2, app_data, List.length_append, ← Lib.size_eq, ← Lib.size_eq]; have : (⟨#[104]⟩ : ByteArray).size = 1 := rfl; omega)
                    rw [ver_bad HLF.out] at h
                    exact h
                  rw [hK2]
                  clear hK2
                  with_reducible refine (HVE.out _).mono ?_
                  rintro e w61 ⟨rfl, hb61⟩
                  have HB61 := Lib.hid (Bel.call HB60.out hb61)
                  replace HRX := Lib.hid (HRX.out.below hb61 (Nat.le_refl _))
                  replace HRP := Lib.hid (HRP.out.below hb61 (Nat.le_refl _))
                  clear hb61
                  dsimp only
                  go_wp2
                  go_ret
                  exact ⟨rfl, HB61.out⟩
              · clear l0 l1
                have qa2 : ((ka : Int) == 116) = false := by rw [beq_eq_false_iff_ne]; omega
                have HLF : Hid (isLeaf s.data.toList = false) := Lib.hid (by rw [hlf, decide_eq_false ea, Bool.false_and])
                clear hlf ea HRT2
                go_wp2_with (first
                  | (at_builtin
                     refine append_strs rfl _ _ rfl w55.heap.size (.slice (some ⟨w55.heap.size, 0, none⟩) 0 0) 0 [] qs rfl ?c1 (rfl) AX qs.length cX rfl (rfl) (HNX.out) ?c2 ?c3 ?c4 ?_
                     case c1 => exact own_empty w55
                     case c2 => exact HRX.out.below ((Below.refl _ w55).alloc (Nat.le_refl _) _) (Nat.le_refl _)
                     case c3 => have := hqm.out; omega
                     case c4 => simp
                     intro vA wA hown hb
                     have HOA := Lib.hid hown
                     have HXA := Lib.hid hb
                     clear hown hb)
                  | (at_builtin
                     refine append_strs rfl _ _ rfl w55.heap.size vA (0 + qs.length) ([] ++ qs) [s] rfl ?c1 ((by simp)) (some ⟨wA.heap.size, 0, none⟩) 1 1 rfl (rfl) (fun h => by cases h) ?c2 ?c3 ?c4 ?_
                     case c1 => exact own_below HOA.out ((Below.refl _ wA).alloc (Nat.le_refl _) _) (Nat.le_refl _)
                     case c2 => exact one_reads wA s wA.heap.size rfl
                     case c3 => have := hqm.out; simp only [List.length_cons, List.length_nil]; omega
                     case c4 => have := HXA.out.size; simp only [World.size_alloc] at this ⊢; omega
                     intro vB wB hown hb
                     have HOB := Lib.hid hown
                     have HXB := Lib.hid hb
                     clear hown hb))
                have hoB : wB.ownsRow w55.heap.size 9 1 vB (qs ++ [s]).length (sv (qs ++ [s])) := by simpa using HOB.out
                obtain ⟨AB, cB, rfl, hrB, hcB, _⟩ := own_row (w0 := w55) hoB
                have hbB : Below w55.heap.size w55 wB := ((((Below.refl _ w55).alloc (Nat.le_refl _) _).trans HXA.out).alloc (by have := HXA.out.size; simp only [World.size_alloc] at this; omega) _).trans HXB.out
                have HB56 := Lib.hid (Bel.call HB55.out hbB)
                replace HRX := Lib.hid (HRX.out.below hbB (Nat.le_refl _))
                replace HRP := Lib.hid (HRP.out.below hbB (Nat.le_refl _))
                have HRB := Lib.hid hrB
                have HCB := Lib.hid hcB
                have HRT2 : Hid (∀ w', SReads w' AB (qs ++ [s]) → Calls Try.prog 13 #[.slice AB (qs ++ [s]).length cB] w' fun e w'' => Sr ([], 1) e ∧ Below w'.heap.size w' w'') := Lib.hid fun w' h => root_any_to (bad_root (s := s.data.toList) HLF.out (List.mem_map.2 ⟨s, by simp, rfl⟩)) rfl HCB.out (sz_snoc HQZ.out (by omega)) w' h
                clear hrB hcB hoB hbB HOA HOB HXA HXB
                with_reducible refine (HRT2.out _ HRB.out).mono ?_
                rintro e w57 ⟨⟨T2, hT2, rfl⟩, hb57⟩
                have HB57 := Lib.hid (Bel.call HB56.out hb57)
                replace HRX := Lib.hid (HRX.out.below hb57 (Nat.le_refl _))
                replace HRP := Lib.hid (HRP.out.below hb57 (Nat.le_refl _))
                replace HRB := Lib.hid (HRB.out.below hb57 (Nat.le_refl _))
                clear hb57
                obtain rfl : T2 = ⟨#[]⟩ := str_eq hT2
                clear hT2
                dsimp only
                clear HRB HRT2 HCB
                go_wp2_with (first
                  | (at_builtin
                     refine append_strs rfl _ _ rfl w57.heap.size (.slice (some ⟨w57.heap.size, 0, none⟩) 1 1) 1 [s] qs rfl ?c1 (rfl) AX qs.length cX rfl (rfl) (HNX.out) ?c2 ?c3 ?c4 ?_
                     case c1 => exact own_lit w57 [s] 1 rfl (by decide)
                     case c2 => exact HRX.out.below ((Below.refl _ w57).alloc (Nat.le_refl _) _) (Nat.le_refl _)
                     case c3 => have := hqm.out; omega
                     case c4 => simp
                     intro vC wC hown hb
                     have HOC := Lib.hid hown
                     have HXC := Lib.hid hb
                     clear hown hb))
                have hoC : wC.ownsRow w57.heap.size 9 1 vC (s :: qs).length (sv (s :: qs)) := by have := HOC.out; rwa [show 1 + qs.length = (s :: qs).length by simp; omega] at this
                obtain ⟨AC, cC, rfl, hrC, hcC, _⟩ := own_row (w0 := w57) hoC
                have hbC : Below w57.heap.size w57 wC := ((Below.refl _ w57).alloc (Nat.le_refl _) _).trans HXC.out
                have HB58 := Lib.hid (Bel.call HB57.out hbC)
                replace HRX := Lib.hid (HRX.out.below hbC (Nat.le_refl _))
                replace HRP := Lib.hid (HRP.out.below hbC (Nat.le_refl _))
                have HRC := Lib.hid hrC
                have HCC := Lib.hid hcC
                have HPC2 : Hid (∀ w', SReads w' AC (s :: qs) → Calls Try.prog 15 #[.slice AC (s :: qs).length cC, .int .i64 0] w' fun e w'' => Pb w' w'' ([], 1) e ∧ Below w'.heap.size w' w'') := Lib.hid fun w' h => proof_any_to (bad_proof (bad_root (s := s.data.toList) HLF.out (List.mem_map.2 ⟨s, by simp, rfl⟩))) rfl HCC.out (sz_cons HQZ.out (by omega)) w' h
                clear hrC hcC hoC hbC HOC HXC
                with_reducible refine (HPC2.out _ HRC.out).mono ?_
                rintro e w59 ⟨hx, hb59⟩
                have HB59 := Lib.hid (Bel.call HB58.out hb59)
                replace HRX := Lib.hid (HRX.out.below hb59 (Nat.le_refl _))
                replace HRP := Lib.hid (HRP.out.below hb59 (Nat.le_refl _))
                replace HRC := Lib.hid (HRC.out.below hb59 (Nat.le_refl _))
                clear hb59
                obtain ⟨AQ, cQ, YQ, hq, _, _, _, rfl⟩ := pb_row hx
                obtain rfl : YQ = [] := List.eq_nil_of_length_eq_zero (bl_length hq)
                clear hx hq
                dsimp only
                clear HRC HPC2 HCC
                go_wp2_with fail
                obtain ⟨K2, hK2⟩ : ∃ K2, (⟨#[104]⟩ : ByteArray) ++ s = K2 := ⟨_, rfl⟩
                have HVE : Hid (∀ w', Calls Try.prog 18 #[.string K2, .int .i64 1, .int .i64 0, .string s, .slice none 0 0] w' fun e w'' => e = .returned (.bool false) ∧ Below w'.heap.size w' w'') := Lib.hid fun w' => by
                  have h := cverify_any K2 1 0 s none 0 [] w' (SReads.nil _ _) (Nat.le_refl _) (by omega) (fun y hy => absurd hy (List.not_mem_nil)) (by omega) (by rw [Lib.size_eq, ← hK2, app_data, List.length_append, ← Lib.size_eq, ← Lib.size_eq]; have : (⟨#[104]⟩ : ByteArray).size = 1 := rfl; omega)
                  rw [ver_bad HLF.out] at h
                  exact h
                rw [hK2]
                clear hK2
                with_reducible refine (HVE.out _).mono ?_
                rintro e w60 ⟨rfl, hb60⟩
                have HB60 := Lib.hid (Bel.call HB59.out hb60)
                replace HRX := Lib.hid (HRX.out.below hb60 (Nat.le_refl _))
                replace HRP := Lib.hid (HRP.out.below hb60 (Nat.le_refl _))
                clear hb60
                dsimp only
                go_wp2
                go_ret
                exact ⟨rfl, HB60.out⟩
          · have qa : ((qs.length : Int) == 0) = false := by rw [beq_eq_false_iff_ne]; omega
            have qb : (8 : Int) < (qs.length : Int) := by omega
            clear hN
            have HRT : Hid (∀ w', SReads w' AX qs → Calls Try.prog 13 #[.slice AX qs.length cX] w' fun e w'' => Sr (rx, 1) e ∧ Below w'.heap.size w' w'') := Lib.hid fun w' h => root_any_to hroot hQx HCX.out hqz' w' h
            have HPC : Hid (∀ w', SReads w' AX qs → Calls Try.prog 15 #[.slice AX qs.length cX, .int .i64 at0] w' fun e w'' => Pb w' w'' (px, 1) e ∧ Below w'.heap.size w' w'') := Lib.hid fun w' h => proof_any_to hproof hQx HCX.out hqz' w' h
            have HQZ := Lib.hid hqz'
            clear hroot hproof hXl hqe hXs hlx hqz hqz' hQx
            have HB50 : Hid (Below w.heap.size w wr) := HBL
            go_wp2_with fail
            with_reducible refine (HRT.out _ HRX.out).mono ?_
            rintro e w51 ⟨⟨R, hR, rfl⟩, hb51⟩
            have HB51 := Lib.hid (Bel.call HB50.out hb51)
            replace HRX := Lib.hid (HRX.out.below hb51 (Nat.le_refl _))
            clear hb51
            try dsimp only at hR
            have HR := Lib.hid hR
            clear hR
            dsimp only
            go_wp2_with fail
            with_reducible refine (HPC.out _ HRX.out).mono ?_
            rintro e w52 ⟨hx, hb52⟩
            have HB52 := Lib.hid (Bel.call HB51.out hb52)
            replace HRX := Lib.hid (HRX.out.below hb52 (Nat.le_refl _))
            clear hb52
            obtain ⟨AP, cP, YP, hq, hc, hr, hb, rfl⟩ := pb_row hx
            have HQP := Lib.hid hq
            have HCP := Lib.hid hc
            have HRP := Lib.hid hr
            clear hx hq hc hr hb
            dsimp only
            rcases HLC.out with ⟨hlf, h1⟩ | ⟨hlf, ⟨P, h1⟩, k2, hk2, h2⟩ | ⟨p, q, ka, kb, hlf, h1, h2, h3, h4⟩
            · have H1 := Lib.hid h1
              have HLF := Lib.hid hlf
              clear h1 hlf
              go_wp2_with fail
              with_reducible refine (H1.out _).mono ?_
              rintro e w53 ⟨⟨AT, cT, YT, hq, hc, hr, rfl⟩, hb53⟩
              have HB53 := Lib.hid (Bel.call HB52.out hb53)
              replace HRX := Lib.hid (HRX.out.below hb53 (Nat.le_refl _))
              replace HRP := Lib.hid (HRP.out.below hb53 (Nat.le_refl _))
              clear hb53
              have HQT := Lib.hid hq
              have HRT := Lib.hid hr
              clear hq hc hr
              dsimp only
              go_wp2_with (first
                | (at_builtin
                   refine append_strs rfl _ _ rfl w53.heap.size (.slice (some ⟨w53.heap.size, 0, none⟩) 0 0) 0 [] qs rfl ?c1 (rfl) AX qs.length cX rfl (rfl) (HNX.out) ?c2 ?c3 ?c4 ?_
                   case c1 => exact own_empty w53
                   case c2 => exact HRX.out.below ((Below.refl _ w53).alloc (Nat.le_refl _) _) (Nat.le_refl _)
                   case c3 => have := hqm.out; omega
                   case c4 => simp
                   intro vA wA hown hb
                   have HOA := Lib.hid hown
                   have HXA := Lib.hid hb
                   clear hown hb)
                | (at_builtin
                   refine append_strs rfl _ _ rfl w53.heap.size vA (0 + qs.length) ([] ++ qs) [s] rfl ?c1 ((by simp)) (some ⟨wA.heap.size, 0, none⟩) 1 1 rfl (rfl) (fun h => by cases h) ?c2 ?c3 ?c4 ?_
                   case c1 => exact own_below HOA.out ((Below.refl _ wA).alloc (Nat.le_refl _) _) (Nat.le_refl _)
                   case c2 => exact one_reads wA s wA.heap.size rfl
                   case c3 => have := hqm.out; simp only [List.length_cons, List.length_nil]; omega
                   case c4 => have := HXA.out.size; simp only [World.size_alloc] at this ⊢; omega
                   intro vB wB hown hb
                   have HOB := Lib.hid hown
                   have HXB := Lib.hid hb
                   clear hown hb))
              have hoB : wB.ownsRow w53.heap.size 9 1 vB (qs ++ [s]).length (sv (qs ++ [s])) := by simpa using HOB.out
              obtain ⟨AB, cB, rfl, hrB, hcB, _⟩ := own_row (w0 := w53) hoB
              have hbB : Below w53.heap.size w53 wB := ((((Below.refl _ w53).alloc (Nat.le_refl _) _).trans HXA.out).alloc (by have := HXA.out.size; simp only [World.size_alloc] at this; omega) _).trans HXB.out
              have HB54 := Lib.hid (Bel.call HB53.out hbB)
              replace HRX := Lib.hid (HRX.out.below hbB (Nat.le_refl _))
              replace HRP := Lib.hid (HRP.out.below hbB (Nat.le_refl _))
              have HRB := Lib.hid hrB
              have HCB := Lib.hid hcB
              have HRT2 : Hid (∀ w', SReads w' AB (qs ++ [s]) → Calls Try.prog 13 #[.slice AB (qs ++ [s]).length cB] w' fun e w'' => Sr ([], 1) e ∧ Below w'.heap.size w' w'') := Lib.hid fun w' h => root_any_to (bad_root (s := s.data.toList) HLF.out (List.mem_map.2 ⟨s, by simp, rfl⟩)) rfl HCB.out (sz_snoc HQZ.out (by omega)) w' h
              clear hrB hcB hoB hbB HOA HOB HXA HXB
              with_reducible refine (HRT2.out _ HRB.out).mono ?_
              rintro e w55 ⟨⟨T2, hT2, rfl⟩, hb55⟩
              have HB55 := Lib.hid (Bel.call HB54.out hb55)
              replace HRX := Lib.hid (HRX.out.below hb55 (Nat.le_refl _))
              replace HRP := Lib.hid (HRP.out.below hb55 (Nat.le_refl _))
              replace HRB := Lib.hid (HRB.out.below hb55 (Nat.le_refl _))
              clear hb55
              obtain rfl : T2 = ⟨#[]⟩ := str_eq hT2
              clear hT2
              dsimp only
              clear HRB HRT2 HCB
              go_wp2_with (first
                | (at_builtin
                   refine append_strs rfl _ _ rfl w55.heap.size (.slice (some ⟨w55.heap.size, 0, none⟩) 1 1) 1 [s] qs rfl ?c1 (rfl) AX qs.length cX rfl (rfl) (HNX.out) ?c2 ?c3 ?c4 ?_
                   case c1 => exact own_lit w55 [s] 1 rfl (by decide)
                   case c2 => exact HRX.out.below ((Below.refl _ w55).alloc (Nat.le_refl _) _) (Nat.le_refl _)
                   case c3 => have := hqm.out; omega
                   case c4 => simp
                   intro vC wC hown hb
                   have HOC := Lib.hid hown
                   have HXC := Lib.hid hb
                   clear hown hb))
              have hoC : wC.ownsRow w55.heap.size 9 1 vC (s :: qs).length (sv (s :: qs)) := by have := HOC.out; rwa [show 1 + qs.length = (s :: qs).length by simp; omega] at this
              obtain ⟨AC, cC, rfl, hrC, hcC, _⟩ := own_row (w0 := w55) hoC
              have hbC : Below w55.heap.size w55 wC := ((Below.refl _ w55).alloc (Nat.le_refl _) _).trans HXC.out
              have HB56 := Lib.hid (Bel.call HB55.out hbC)
              replace HRX := Lib.hid (HRX.out.below hbC (Nat.le_refl _))
              replace HRP := Lib.hid (HRP.out.below hbC (Nat.le_refl _))
              have HRC := Lib.hid hrC
              have HCC := Lib.hid hcC
              have HPC2 : Hid (∀ w', SReads w' AC (s :: qs) → Calls Try.prog 15 #[.slice AC (s :: qs).length cC, .int .i64 0] w' fun e w'' => Pb w' w'' ([], 1) e ∧ Below w'.heap.size w' w'') := Lib.hid fun w' h => proof_any_to (bad_proof (bad_root (s := s.data.toList) HLF.out (List.mem_map.2 ⟨s, by simp, rfl⟩))) rfl HCC.out (sz_cons HQZ.out (by omega)) w' h
              clear hrC hcC hoC hbC HOC HXC
              with_reducible refine (HPC2.out _ HRC.out).mono ?_
              rintro e w57 ⟨hx, hb57⟩
              have HB57 := Lib.hid (Bel.call HB56.out hb57)
              replace HRX := Lib.hid (HRX.out.below hb57 (Nat.le_refl _))
              replace HRP := Lib.hid (HRP.out.below hb57 (Nat.le_refl _))
              replace HRC := Lib.hid (HRC.out.below hb57 (Nat.le_refl _))
              clear hb57
              obtain ⟨AQ, cQ, YQ, hq, _, _, _, rfl⟩ := pb_row hx
              obtain rfl : YQ = [] := List.eq_nil_of_length_eq_zero (bl_length hq)
              clear hx hq
              dsimp only
              clear HRC HPC2 HCC
              go_wp2_with fail
              obtain ⟨K2, hK2⟩ : ∃ K2, (⟨#[104]⟩ : ByteArray) ++ s = K2 := ⟨_, rfl⟩
              have HVE : Hid (∀ w', Calls Try.prog 18 #[.string K2, .int .i64 1, .int .i64 0, .string s, .slice none 0 0] w' fun e w'' => e = .returned (.bool false) ∧ Below w'.heap.size w' w'') := Lib.hid fun w' => by
                have h := cverify_any K2 1 0 s none 0 [] w' (SReads.nil _ _) (Nat.le_refl _) (by omega) (fun y hy => absurd hy (List.not_mem_nil)) (by omega) (by rw [Lib.size_eq, ← hK2, app_data, List.length_append, ← Lib.size_eq, ← Lib.size_eq]; have : (⟨#[104]⟩ : ByteArray).size = 1 := rfl; omega)
                rw [ver_bad HLF.out] at h
                exact h
              rw [hK2]
              clear hK2
              with_reducible refine (HVE.out _).mono ?_
              rintro e w58 ⟨rfl, hb58⟩
              have HB58 := Lib.hid (Bel.call HB57.out hb58)
              replace HRX := Lib.hid (HRX.out.below hb58 (Nat.le_refl _))
              replace HRP := Lib.hid (HRP.out.below hb58 (Nat.le_refl _))
              clear hb58
              dsimp only
              go_wp2
              go_ret
              exact ⟨rfl, HB58.out⟩
            · have H1 := Lib.hid h1
              have H2 := Lib.hid h2
              have HLF := Lib.hid hlf
              have qk : ((k2 : Int) == 112) = false := by rw [beq_eq_false_iff_ne]; omega
              clear h1 h2 hlf hk2
              go_wp2_with fail
              with_reducible refine (H1.out _).mono ?_
              rintro e w53 ⟨⟨AT, cT, YT, hq, hc, hr, rfl⟩, hb53⟩
              have HB53 := Lib.hid (Bel.call HB52.out hb53)
              replace HRX := Lib.hid (HRX.out.below hb53 (Nat.le_refl _))
              replace HRP := Lib.hid (HRP.out.below hb53 (Nat.le_refl _))
              clear hb53
              have HQT := Lib.hid hq
              have HRT := Lib.hid hr
              clear hq hc hr
              dsimp only
              go_wp2_with fail
              with_reducible refine (H2.out _).mono ?_
              rintro e w54 ⟨rfl, hb54⟩
              have HB54 := Lib.hid (Bel.call HB53.out hb54)
              replace HRX := Lib.hid (HRX.out.below hb54 (Nat.le_refl _))
              replace HRP := Lib.hid (HRP.out.below hb54 (Nat.le_refl _))
              clear hb54
              dsimp only
              go_wp2_with (first
                | (at_builtin
                   refine append_strs rfl _ _ rfl w54.heap.size (.slice (some ⟨w54.heap.size, 0, none⟩) 0 0) 0 [] qs rfl ?c1 (rfl) AX qs.length cX rfl (rfl) (HNX.out) ?c2 ?c3 ?c4 ?_
                   case c1 => exact own_empty w54
                   case c2 => exact HRX.out.below ((Below.refl _ w54).alloc (Nat.le_refl _) _) (Nat.le_refl _)
                   case c3 => have := hqm.out; omega
                   case c4 => simp
                   intro vA wA hown hb
                   have HOA := Lib.hid hown
                   have HXA := Lib.hid hb
                   clear hown hb)
                | (at_builtin
                   refine append_strs rfl _ _ rfl w54.heap.size vA (0 + qs.length) ([] ++ qs) [s] rfl ?c1 ((by simp)) (some ⟨wA.heap.size, 0, none⟩) 1 1 rfl (rfl) (fun h => by cases h) ?c2 ?c3 ?c4 ?_
                   case c1 => exact own_below HOA.out ((Below.refl _ wA).alloc (Nat.le_refl _) _) (Nat.le_refl _)
                   case c2 => exact one_reads wA s wA.heap.size rfl
                   case c3 => have := hqm.out; simp only [List.length_cons, List.length_nil]; omega
                   case c4 => have := HXA.out.size; simp only [World.size_alloc] at this ⊢; omega
                   intro vB wB hown hb
                   have HOB := Lib.hid hown
                   have HXB := Lib.hid hb
                   clear hown hb))
              have hoB : wB.ownsRow w54.heap.size 9 1 vB (qs ++ [s]).length (sv (qs ++ [s])) := by simpa using HOB.out
              obtain ⟨AB, cB, rfl, hrB, hcB, _⟩ := own_row (w0 := w54) hoB
              have hbB : Below w54.heap.size w54 wB := ((((Below.refl _ w54).alloc (Nat.le_refl _) _).trans HXA.out).alloc (by have := HXA.out.size; simp only [World.size_alloc] at this; omega) _).trans HXB.out
              have HB55 := Lib.hid (Bel.call HB54.out hbB)
              replace HRX := Lib.hid (HRX.out.below hbB (Nat.le_refl _))
              replace HRP := Lib.hid (HRP.out.below hbB (Nat.le_refl _))
              have HRB := Lib.hid hrB
              have HCB := Lib.hid hcB
              have HRT2 : Hid (∀ w', SReads w' AB (qs ++ [s]) → Calls Try.prog 13 #[.slice AB (qs ++ [s]).length cB] w' fun e w'' => Sr ([], 1) e ∧ Below w'.heap.size w' w'') := Lib.hid fun w' h => root_any_to (bad_root (s := s.data.toList) HLF.out (List.mem_map.2 ⟨s, by simp, rfl⟩)) rfl HCB.out (sz_snoc HQZ.out (by omega)) w' h
              clear hrB hcB hoB hbB HOA HOB HXA HXB
              with_reducible refine (HRT2.out _ HRB.out).mono ?_
              rintro e w56 ⟨⟨T2, hT2, rfl⟩, hb56⟩
              have HB56 := Lib.hid (Bel.call HB55.out hb56)
              replace HRX := Lib.hid (HRX.out.below hb56 (Nat.le_refl _))
              replace HRP := Lib.hid (HRP.out.below hb56 (Nat.le_refl _))
              replace HRB := Lib.hid (HRB.out.below hb56 (Nat.le_refl _))
              clear hb56
              obtain rfl : T2 = ⟨#[]⟩ := str_eq hT2
              clear hT2
              dsimp only
              clear HRB HRT2 HCB
              go_wp2_with (first
                | (at_builtin
                   refine append_strs rfl _ _ rfl w56.heap.size (.slice (some ⟨w56.heap.size, 0, none⟩) 1 1) 1 [s] qs rfl ?c1 (rfl) AX qs.length cX rfl (rfl) (HNX.out) ?c2 ?c3 ?c4 ?_
                   case c1 => exact own_lit w56 [s] 1 rfl (by decide)
                   case c2 => exact HRX.out.below ((Below.refl _ w56).alloc (Nat.le_refl _) _) (Nat.le_refl _)
                   case c3 => have := hqm.out; omega
                   case c4 => simp
                   intro vC wC hown hb
                   have HOC := Lib.hid hown
                   have HXC := Lib.hid hb
                   clear hown hb))
              have hoC : wC.ownsRow w56.heap.size 9 1 vC (s :: qs).length (sv (s :: qs)) := by have := HOC.out; rwa [show 1 + qs.length = (s :: qs).length by simp; omega] at this
              obtain ⟨AC, cC, rfl, hrC, hcC, _⟩ := own_row (w0 := w56) hoC
              have hbC : Below w56.heap.size w56 wC := ((Below.refl _ w56).alloc (Nat.le_refl _) _).trans HXC.out
              have HB57 := Lib.hid (Bel.call HB56.out hbC)
              replace HRX := Lib.hid (HRX.out.below hbC (Nat.le_refl _))
              replace HRP := Lib.hid (HRP.out.below hbC (Nat.le_refl _))
              have HRC := Lib.hid hrC
              have HCC := Lib.hid hcC
              have HPC2 : Hid (∀ w', SReads w' AC (s :: qs) → Calls Try.prog 15 #[.slice AC (s :: qs).length cC, .int .i64 0] w' fun e w'' => Pb w' w'' ([], 1) e ∧ Below w'.heap.size w' w'') := Lib.hid fun w' h => proof_any_to (bad_proof (bad_root (s := s.data.toList) HLF.out (List.mem_map.2 ⟨s, by simp, rfl⟩))) rfl HCC.out (sz_cons HQZ.out (by omega)) w' h
              clear hrC hcC hoC hbC HOC HXC
              with_reducible refine (HPC2.out _ HRC.out).mono ?_
              rintro e w58 ⟨hx, hb58⟩
              have HB58 := Lib.hid (Bel.call HB57.out hb58)
              replace HRX := Lib.hid (HRX.out.below hb58 (Nat.le_refl _))
              replace HRP := Lib.hid (HRP.out.below hb58 (Nat.le_refl _))
              replace HRC := Lib.hid (HRC.out.below hb58 (Nat.le_refl _))
              clear hb58
              obtain ⟨AQ, cQ, YQ, hq, _, _, _, rfl⟩ := pb_row hx
              obtain rfl : YQ = [] := List.eq_nil_of_length_eq_zero (bl_length hq)
              clear hx hq
              dsimp only
              clear HRC HPC2 HCC
              go_wp2_with fail
              obtain ⟨K2, hK2⟩ : ∃ K2, (⟨#[104]⟩ : ByteArray) ++ s = K2 := ⟨_, rfl⟩
              have HVE : Hid (∀ w', Calls Try.prog 18 #[.string K2, .int .i64 1, .int .i64 0, .string s, .slice none 0 0] w' fun e w'' => e = .returned (.bool false) ∧ Below w'.heap.size w' w'') := Lib.hid fun w' => by
                have h := cverify_any K2 1 0 s none 0 [] w' (SReads.nil _ _) (Nat.le_refl _) (by omega) (fun y hy => absurd hy (List.not_mem_nil)) (by omega) (by rw [Lib.size_eq, ← hK2, app_data, List.length_append, ← Lib.size_eq, ← Lib.size_eq]; have : (⟨#[104]⟩ : ByteArray).size = 1 := rfl; omega)
                rw [ver_bad HLF.out] at h
                exact h
              rw [hK2]
              clear hK2
              with_reducible refine (HVE.out _).mono ?_
              rintro e w59 ⟨rfl, hb59⟩
              have HB59 := Lib.hid (Bel.call HB58.out hb59)
              replace HRX := Lib.hid (HRX.out.below hb59 (Nat.le_refl _))
              replace HRP := Lib.hid (HRP.out.below hb59 (Nat.le_refl _))
              clear hb59
              dsimp only
              go_wp2
              go_ret
              exact ⟨rfl, HB59.out⟩
            · have H1 := Lib.hid h1
              have H2 := Lib.hid h2
              have H3 := Lib.hid h3
              have H4 := Lib.hid h4
              clear h1 h2 h3 h4
              go_wp2_with fail
              with_reducible refine (H1.out _).mono ?_
              rintro e w53 ⟨⟨AT, cT, YT, hq, hc, hr, rfl⟩, hb53⟩
              have HB53 := Lib.hid (Bel.call HB52.out hb53)
              replace HRX := Lib.hid (HRX.out.below hb53 (Nat.le_refl _))
              replace HRP := Lib.hid (HRP.out.below hb53 (Nat.le_refl _))
              clear hb53
              obtain ⟨PA, PB, rfl, hPA, hPB⟩ := bl_two hq
              obtain ⟨g2, o2, rfl, hg2, l0, l1⟩ := two_reads hr
              have HRT2 := Lib.hid hr
              have HPA := Lib.hid hPA
              have HPB := Lib.hid hPB
              clear hq hc hr hg2 l0 l1 hPA hPB
              dsimp only
              go_wp2_with fail
              with_reducible refine (H2.out _).mono ?_
              rintro e w54 ⟨rfl, hb54⟩
              have HB54 := Lib.hid (Bel.call HB53.out hb54)
              replace HRX := Lib.hid (HRX.out.below hb54 (Nat.le_refl _))
              replace HRP := Lib.hid (HRP.out.below hb54 (Nat.le_refl _))
              replace HRT2 := Lib.hid (HRT2.out.below hb54 (Nat.le_refl _))
              clear hb54
              dsimp only
              obtain ⟨l0, l1⟩ := two_cells HRT2.out
              go_wp2_with fail
              with_reducible refine (H3.out PA _ HPA.out).mono ?_
              rintro e w55 ⟨rfl, hb55⟩
              have HB55 := Lib.hid (Bel.call HB54.out hb55)
              replace HRX := Lib.hid (HRX.out.below hb55 (Nat.le_refl _))
              replace HRP := Lib.hid (HRP.out.below hb55 (Nat.le_refl _))
              replace HRT2 := Lib.hid (HRT2.out.below hb55 (Nat.le_refl _))
              clear hb55
              dsimp only
              clear l0 l1
              obtain ⟨l0, l1⟩ := two_cells HRT2.out
              by_cases ea : ka = 116
              · have qa2 : ((ka : Int) == 116) = true := by rw [beq_iff_eq]; omega
                go_wp2_with fail
                with_reducible refine (H4.out PB _ HPB.out).mono ?_
                rintro e w56 ⟨rfl, hb56⟩
                have HB56 := Lib.hid (Bel.call HB55.out hb56)
                replace HRX := Lib.hid (HRX.out.below hb56 (Nat.le_refl _))
                replace HRP := Lib.hid (HRP.out.below hb56 (Nat.le_refl _))
                replace HRT2 := Lib.hid (HRT2.out.below hb56 (Nat.le_refl _))
                clear hb56
                dsimp only
                clear l0 l1
                by_cases eb : kb = 97
                · have qb2 : ((kb : Int) == 97) = true := by rw [beq_iff_eq]; omega
                  clear hlf
                  go_wp2
                  go_ret
                  exact ⟨rfl, HB56.out⟩
                · have qb2 : ((kb : Int) == 97) = false := by rw [beq_eq_false_iff_ne]; omega
                  have HLF : Hid (isLeaf s.data.toList = false) := Lib.hid (by rw [hlf, decide_eq_false eb, Bool.and_false])
                  clear hlf eb HRT2
                  go_wp2_with (first
                    | (at_builtin
                       refine append_strs rfl _ _ rfl w56.heap.size (.slice (some ⟨w56.heap.size, 0, none⟩) 0 0) 0 [] qs rfl ?c1 (rfl) AX qs.length cX rfl (rfl) (HNX.out) ?c2 ?c3 ?c4 ?_
                       case c1 => exact own_empty w56
                       case c2 => exact HRX.out.below ((Below.refl _ w56).alloc (Nat.le_refl _) _) (Nat.le_refl _)
                       case c3 => have := hqm.out; omega
                       case c4 => simp
                       intro vA wA hown hb
                       have HOA := Lib.hid hown
                       have HXA := Lib.hid hb
                       clear hown hb)
                    | (at_builtin
                       refine append_strs rfl _ _ rfl w56.heap.size vA (0 + qs.length) ([] ++ qs) [s] rfl ?c1 ((by simp)) (some ⟨wA.heap.size, 0, none⟩) 1 1 rfl (rfl) (fun h => by cases h) ?c2 ?c3 ?c4 ?_
                       case c1 => exact own_below HOA.out ((Below.refl _ wA).alloc (Nat.le_refl _) _) (Nat.le_refl _)
                       case c2 => exact one_reads wA s wA.heap.size rfl
                       case c3 => have := hqm.out; simp only [List.length_cons, List.length_nil]; omega
                       case c4 => have := HXA.out.size; simp only [World.size_alloc] at this ⊢; omega
                       intro vB wB hown hb
                       have HOB := Lib.hid hown
                       have HXB := Lib.hid hb
                       clear hown hb))
                  have hoB : wB.ownsRow w56.heap.size 9 1 vB (qs ++ [s]).length (sv (qs ++ [s])) := by simpa using HOB.out
                  obtain ⟨AB, cB, rfl, hrB, hcB, _⟩ := own_row (w0 := w56) hoB
                  have hbB : Below w56.heap.size w56 wB := ((((Below.refl _ w56).alloc (Nat.le_refl _) _).trans HXA.out).alloc (by have := HXA.out.size; simp only [World.size_alloc] at this; omega) _).trans HXB.out
                  have HB57 := Lib.hid (Bel.call HB56.out hbB)
                  replace HRX := Lib.hid (HRX.out.below hbB (Nat.le_refl _))
                  replace HRP := Lib.hid (HRP.out.below hbB (Nat.le_refl _))
                  have HRB := Lib.hid hrB
                  have HCB := Lib.hid hcB
                  have HRT2 : Hid (∀ w', SReads w' AB (qs ++ [s]) → Calls Try.prog 13 #[.slice AB (qs ++ [s]).length cB] w' fun e w'' => Sr ([], 1) e ∧ Below w'.heap.size w' w'') := Lib.hid fun w' h => root_any_to (bad_root (s := s.data.toList) HLF.out (List.mem_map.2 ⟨s, by simp, rfl⟩)) rfl HCB.out (sz_snoc HQZ.out (by omega)) w' h
                  clear hrB hcB hoB hbB HOA HOB HXA HXB
                  with_reducible refine (HRT2.out _ HRB.out).mono ?_
                  rintro e w58 ⟨⟨T2, hT2, rfl⟩, hb58⟩
                  have HB58 := Lib.hid (Bel.call HB57.out hb58)
                  replace HRX := Lib.hid (HRX.out.below hb58 (Nat.le_refl _))
                  replace HRP := Lib.hid (HRP.out.below hb58 (Nat.le_refl _))
                  replace HRB := Lib.hid (HRB.out.below hb58 (Nat.le_refl _))
                  clear hb58
                  obtain rfl : T2 = ⟨#[]⟩ := str_eq hT2
                  clear hT2
                  dsimp only
                  clear HRB HRT2 HCB
                  go_wp2_with (first
                    | (at_builtin
                       refine append_strs rfl _ _ rfl w58.heap.size (.slice (some ⟨w58.heap.size, 0, none⟩) 1 1) 1 [s] qs rfl ?c1 (rfl) AX qs.length cX rfl (rfl) (HNX.out) ?c2 ?c3 ?c4 ?_
                       case c1 => exact own_lit w58 [s] 1 rfl (by decide)
                       case c2 => exact HRX.out.below ((Below.refl _ w58).alloc (Nat.le_refl _) _) (Nat.le_refl _)
                       case c3 => have := hqm.out; omega
                       case c4 => simp
                       intro vC wC hown hb
                       have HOC := Lib.hid hown
                       have HXC := Lib.hid hb
                       clear hown hb))
                  have hoC : wC.ownsRow w58.heap.size 9 1 vC (s :: qs).length (sv (s :: qs)) := by have := HOC.out; rwa [show 1 + qs.length = (s :: qs).length by simp; omega] at this
                  obtain ⟨AC, cC, rfl, hrC, hcC, _⟩ := own_row (w0 := w58) hoC
                  have hbC : Below w58.heap.size w58 wC := ((Below.refl _ w58).alloc (Nat.le_refl _) _).trans HXC.out
                  have HB59 := Lib.hid (Bel.call HB58.out hbC)
                  replace HRX := Lib.hid (HRX.out.below hbC (Nat.le_refl _))
                  replace HRP := Lib.hid (HRP.out.below hbC (Nat.le_refl _))
                  have HRC := Lib.hid hrC
                  have HCC := Lib.hid hcC
                  have HPC2 : Hid (∀ w', SReads w' AC (s :: qs) → Calls Try.prog 15 #[.slice AC (s :: qs).length cC, .int .i64 0] w' fun e w'' => Pb w' w'' ([], 1) e ∧ Below w'.heap.size w' w'') := Lib.hid fun w' h => proof_any_to (bad_proof (bad_root (s := s.data.toList) HLF.out (List.mem_map.2 ⟨s, by simp, rfl⟩))) rfl HCC.out (sz_cons HQZ.out (by omega)) w' h
                  clear hrC hcC hoC hbC HOC HXC
                  with_reducible refine (HPC2.out _ HRC.out).mono ?_
                  rintro e w60 ⟨hx, hb60⟩
                  have HB60 := Lib.hid (Bel.call HB59.out hb60)
                  replace HRX := Lib.hid (HRX.out.below hb60 (Nat.le_refl _))
                  replace HRP := Lib.hid (HRP.out.below hb60 (Nat.le_refl _))
                  replace HRC := Lib.hid (HRC.out.below hb60 (Nat.le_refl _))
                  clear hb60
                  obtain ⟨AQ, cQ, YQ, hq, _, _, _, rfl⟩ := pb_row hx
                  obtain rfl : YQ = [] := List.eq_nil_of_length_eq_zero (bl_length hq)
                  clear hx hq
                  dsimp only
                  clear HRC HPC2 HCC
                  go_wp2_with fail
                  obtain ⟨K2, hK2⟩ : ∃ K2, (⟨#[104]⟩ : ByteArray) ++ s = K2 := ⟨_, rfl⟩
                  have HVE : Hid (∀ w', Calls Try.prog 18 #[.string K2, .int .i64 1, .int .i64 0, .string s, .slice none 0 0] w' fun e w'' => e = .returned (.bool false) ∧ Below w'.heap.size w' w'') := Lib.hid fun w' => by
                    have h := cverify_any K2 1 0 s none 0 [] w' (SReads.nil _ _) (Nat.le_refl _) (by omega) (fun y hy => absurd hy (List.not_mem_nil)) (by omega) (by rw [Lib.size_eq, ← hK2, app_data, List.length_append, ← Lib.size_eq, ← Lib.size_eq]; have : (⟨#[104]⟩ : ByteArray).size = 1 := rfl; omega)
                    rw [ver_bad HLF.out] at h
                    exact h
                  rw [hK2]
                  clear hK2
                  with_reducible refine (HVE.out _).mono ?_
                  rintro e w61 ⟨rfl, hb61⟩
                  have HB61 := Lib.hid (Bel.call HB60.out hb61)
                  replace HRX := Lib.hid (HRX.out.below hb61 (Nat.le_refl _))
                  replace HRP := Lib.hid (HRP.out.below hb61 (Nat.le_refl _))
                  clear hb61
                  dsimp only
                  go_wp2
                  go_ret
                  exact ⟨rfl, HB61.out⟩
              · clear l0 l1
                have qa2 : ((ka : Int) == 116) = false := by rw [beq_eq_false_iff_ne]; omega
                have HLF : Hid (isLeaf s.data.toList = false) := Lib.hid (by rw [hlf, decide_eq_false ea, Bool.false_and])
                clear hlf ea HRT2
                go_wp2_with (first
                  | (at_builtin
                     refine append_strs rfl _ _ rfl w55.heap.size (.slice (some ⟨w55.heap.size, 0, none⟩) 0 0) 0 [] qs rfl ?c1 (rfl) AX qs.length cX rfl (rfl) (HNX.out) ?c2 ?c3 ?c4 ?_
                     case c1 => exact own_empty w55
                     case c2 => exact HRX.out.below ((Below.refl _ w55).alloc (Nat.le_refl _) _) (Nat.le_refl _)
                     case c3 => have := hqm.out; omega
                     case c4 => simp
                     intro vA wA hown hb
                     have HOA := Lib.hid hown
                     have HXA := Lib.hid hb
                     clear hown hb)
                  | (at_builtin
                     refine append_strs rfl _ _ rfl w55.heap.size vA (0 + qs.length) ([] ++ qs) [s] rfl ?c1 ((by simp)) (some ⟨wA.heap.size, 0, none⟩) 1 1 rfl (rfl) (fun h => by cases h) ?c2 ?c3 ?c4 ?_
                     case c1 => exact own_below HOA.out ((Below.refl _ wA).alloc (Nat.le_refl _) _) (Nat.le_refl _)
                     case c2 => exact one_reads wA s wA.heap.size rfl
                     case c3 => have := hqm.out; simp only [List.length_cons, List.length_nil]; omega
                     case c4 => have := HXA.out.size; simp only [World.size_alloc] at this ⊢; omega
                     intro vB wB hown hb
                     have HOB := Lib.hid hown
                     have HXB := Lib.hid hb
                     clear hown hb))
                have hoB : wB.ownsRow w55.heap.size 9 1 vB (qs ++ [s]).length (sv (qs ++ [s])) := by simpa using HOB.out
                obtain ⟨AB, cB, rfl, hrB, hcB, _⟩ := own_row (w0 := w55) hoB
                have hbB : Below w55.heap.size w55 wB := ((((Below.refl _ w55).alloc (Nat.le_refl _) _).trans HXA.out).alloc (by have := HXA.out.size; simp only [World.size_alloc] at this; omega) _).trans HXB.out
                have HB56 := Lib.hid (Bel.call HB55.out hbB)
                replace HRX := Lib.hid (HRX.out.below hbB (Nat.le_refl _))
                replace HRP := Lib.hid (HRP.out.below hbB (Nat.le_refl _))
                have HRB := Lib.hid hrB
                have HCB := Lib.hid hcB
                have HRT2 : Hid (∀ w', SReads w' AB (qs ++ [s]) → Calls Try.prog 13 #[.slice AB (qs ++ [s]).length cB] w' fun e w'' => Sr ([], 1) e ∧ Below w'.heap.size w' w'') := Lib.hid fun w' h => root_any_to (bad_root (s := s.data.toList) HLF.out (List.mem_map.2 ⟨s, by simp, rfl⟩)) rfl HCB.out (sz_snoc HQZ.out (by omega)) w' h
                clear hrB hcB hoB hbB HOA HOB HXA HXB
                with_reducible refine (HRT2.out _ HRB.out).mono ?_
                rintro e w57 ⟨⟨T2, hT2, rfl⟩, hb57⟩
                have HB57 := Lib.hid (Bel.call HB56.out hb57)
                replace HRX := Lib.hid (HRX.out.below hb57 (Nat.le_refl _))
                replace HRP := Lib.hid (HRP.out.below hb57 (Nat.le_refl _))
                replace HRB := Lib.hid (HRB.out.below hb57 (Nat.le_refl _))
                clear hb57
                obtain rfl : T2 = ⟨#[]⟩ := str_eq hT2
                clear hT2
                dsimp only
                clear HRB HRT2 HCB
                go_wp2_with (first
                  | (at_builtin
                     refine append_strs rfl _ _ rfl w57.heap.size (.slice (some ⟨w57.heap.size, 0, none⟩) 1 1) 1 [s] qs rfl ?c1 (rfl) AX qs.length cX rfl (rfl) (HNX.out) ?c2 ?c3 ?c4 ?_
                     case c1 => exact own_lit w57 [s] 1 rfl (by decide)
                     case c2 => exact HRX.out.below ((Below.refl _ w57).alloc (Nat.le_refl _) _) (Nat.le_refl _)
                     case c3 => have := hqm.out; omega
                     case c4 => simp
                     intro vC wC hown hb
                     have HOC := Lib.hid hown
                     have HXC := Lib.hid hb
                     clear hown hb))
                have hoC : wC.ownsRow w57.heap.size 9 1 vC (s :: qs).length (sv (s :: qs)) := by have := HOC.out; rwa [show 1 + qs.length = (s :: qs).length by simp; omega] at this
                obtain ⟨AC, cC, rfl, hrC, hcC, _⟩ := own_row (w0 := w57) hoC
                have hbC : Below w57.heap.size w57 wC := ((Below.refl _ w57).alloc (Nat.le_refl _) _).trans HXC.out
                have HB58 := Lib.hid (Bel.call HB57.out hbC)
                replace HRX := Lib.hid (HRX.out.below hbC (Nat.le_refl _))
                replace HRP := Lib.hid (HRP.out.below hbC (Nat.le_refl _))
                have HRC := Lib.hid hrC
                have HCC := Lib.hid hcC
                have HPC2 : Hid (∀ w', SReads w' AC (s :: qs) → Calls Try.prog 15 #[.slice AC (s :: qs).length cC, .int .i64 0] w' fun e w'' => Pb w' w'' ([], 1) e ∧ Below w'.heap.size w' w'') := Lib.hid fun w' h => proof_any_to (bad_proof (bad_root (s := s.data.toList) HLF.out (List.mem_map.2 ⟨s, by simp, rfl⟩))) rfl HCC.out (sz_cons HQZ.out (by omega)) w' h
                clear hrC hcC hoC hbC HOC HXC
                with_reducible refine (HPC2.out _ HRC.out).mono ?_
                rintro e w59 ⟨hx, hb59⟩
                have HB59 := Lib.hid (Bel.call HB58.out hb59)
                replace HRX := Lib.hid (HRX.out.below hb59 (Nat.le_refl _))
                replace HRP := Lib.hid (HRP.out.below hb59 (Nat.le_refl _))
                replace HRC := Lib.hid (HRC.out.below hb59 (Nat.le_refl _))
                clear hb59
                obtain ⟨AQ, cQ, YQ, hq, _, _, _, rfl⟩ := pb_row hx
                obtain rfl : YQ = [] := List.eq_nil_of_length_eq_zero (bl_length hq)
                clear hx hq
                dsimp only
                clear HRC HPC2 HCC
                go_wp2_with fail
                obtain ⟨K2, hK2⟩ : ∃ K2, (⟨#[104]⟩ : ByteArray) ++ s = K2 := ⟨_, rfl⟩
                have HVE : Hid (∀ w', Calls Try.prog 18 #[.string K2, .int .i64 1, .int .i64 0, .string s, .slice none 0 0] w' fun e w'' => e = .returned (.bool false) ∧ Below w'.heap.size w' w'') := Lib.hid fun w' => by
                  have h := cverify_any K2 1 0 s none 0 [] w' (SReads.nil _ _) (Nat.le_refl _) (by omega) (fun y hy => absurd hy (List.not_mem_nil)) (by omega) (by rw [Lib.size_eq, ← hK2, app_data, List.length_append, ← Lib.size_eq, ← Lib.size_eq]; have : (⟨#[104]⟩ : ByteArray).size = 1 := rfl; omega)
                  rw [ver_bad HLF.out] at h
                  exact h
                rw [hK2]
                clear hK2
                with_reducible refine (HVE.out _).mono ?_
                rintro e w60 ⟨rfl, hb60⟩
                have HB60 := Lib.hid (Bel.call HB59.out hb60)
                replace HRX := Lib.hid (HRX.out.below hb60 (Nat.le_refl _))
                replace HRP := Lib.hid (HRP.out.below hb60 (Nat.le_refl _))
                clear hb60
                dsimp only
                go_wp2
                go_ret
                exact ⟨rfl, HB60.out⟩
        · obtain ⟨rx, hroot, _, _, _, _⟩ := small_root (l := xs) (by omega) (by omega) hXs
          have qa : ((qs.length : Int) == 0) = false := by rw [beq_eq_false_iff_ne]; omega
          have qb : ¬ (8 : Int) < (qs.length : Int) := by omega
          by_cases h0 : at0 < 0
          · obtain ⟨px, hpx⟩ : ∃ x : List Tm, x = [] := ⟨_, rfl⟩
            have hproof : proofT xs at0 = (px, 1) := by rw [hpx]; exact place_proof hroot (.inl h0)
            clear hN
            have HRT : Hid (∀ w', SReads w' AX qs → Calls Try.prog 13 #[.slice AX qs.length cX] w' fun e w'' => Sr (rx, 0) e ∧ Below w'.heap.size w' w'') := Lib.hid fun w' h => root_any_to hroot hQx HCX.out hqz' w' h
            have HPC : Hid (∀ w', SReads w' AX qs → Calls Try.prog 15 #[.slice AX qs.length cX, .int .i64 at0] w' fun e w'' => Pb w' w'' (px, 1) e ∧ Below w'.heap.size w' w'') := Lib.hid fun w' h => proof_any_to hproof hQx HCX.out hqz' w' h
            have HQZ := Lib.hid hqz'
            clear hroot hproof hXl hqe hXs hlx hqz hqz' hQx
            have HB50 : Hid (Below w.heap.size w wr) := HBL
            go_wp2_with fail
            with_reducible refine (HRT.out _ HRX.out).mono ?_
            rintro e w51 ⟨⟨R, hR, rfl⟩, hb51⟩
            have HB51 := Lib.hid (Bel.call HB50.out hb51)
            replace HRX := Lib.hid (HRX.out.below hb51 (Nat.le_refl _))
            clear hb51
            try dsimp only at hR
            have HR := Lib.hid hR
            clear hR
            dsimp only
            go_wp2_with fail
            with_reducible refine (HPC.out _ HRX.out).mono ?_
            rintro e w52 ⟨hx, hb52⟩
            have HB52 := Lib.hid (Bel.call HB51.out hb52)
            replace HRX := Lib.hid (HRX.out.below hb52 (Nat.le_refl _))
            clear hb52
            obtain ⟨AP, cP, YP, hq, hc, hr, hb, rfl⟩ := pb_row hx
            have HQP := Lib.hid hq
            have HCP := Lib.hid hc
            have HRP := Lib.hid hr
            clear hx hq hc hr hb
            dsimp only
            rcases HLC.out with ⟨hlf, h1⟩ | ⟨hlf, ⟨P, h1⟩, k2, hk2, h2⟩ | ⟨p, q, ka, kb, hlf, h1, h2, h3, h4⟩
            · have H1 := Lib.hid h1
              have HLF := Lib.hid hlf
              clear h1 hlf
              go_wp2_with fail
              with_reducible refine (H1.out _).mono ?_
              rintro e w53 ⟨⟨AT, cT, YT, hq, hc, hr, rfl⟩, hb53⟩
              have HB53 := Lib.hid (Bel.call HB52.out hb53)
              replace HRX := Lib.hid (HRX.out.below hb53 (Nat.le_refl _))
              replace HRP := Lib.hid (HRP.out.below hb53 (Nat.le_refl _))
              clear hb53
              have HQT := Lib.hid hq
              have HRT := Lib.hid hr
              clear hq hc hr
              dsimp only
              go_wp2_with (first
                | (at_builtin
                   refine append_strs rfl _ _ rfl w53.heap.size (.slice (some ⟨w53.heap.size, 0, none⟩) 0 0) 0 [] qs rfl ?c1 (rfl) AX qs.length cX rfl (rfl) (HNX.out) ?c2 ?c3 ?c4 ?_
                   case c1 => exact own_empty w53
                   case c2 => exact HRX.out.below ((Below.refl _ w53).alloc (Nat.le_refl _) _) (Nat.le_refl _)
                   case c3 => have := hqm.out; omega
                   case c4 => simp
                   intro vA wA hown hb
                   have HOA := Lib.hid hown
                   have HXA := Lib.hid hb
                   clear hown hb)
                | (at_builtin
                   refine append_strs rfl _ _ rfl w53.heap.size vA (0 + qs.length) ([] ++ qs) [s] rfl ?c1 ((by simp)) (some ⟨wA.heap.size, 0, none⟩) 1 1 rfl (rfl) (fun h => by cases h) ?c2 ?c3 ?c4 ?_
                   case c1 => exact own_below HOA.out ((Below.refl _ wA).alloc (Nat.le_refl _) _) (Nat.le_refl _)
                   case c2 => exact one_reads wA s wA.heap.size rfl
                   case c3 => have := hqm.out; simp only [List.length_cons, List.length_nil]; omega
                   case c4 => have := HXA.out.size; simp only [World.size_alloc] at this ⊢; omega
                   intro vB wB hown hb
                   have HOB := Lib.hid hown
                   have HXB := Lib.hid hb
                   clear hown hb))
              have hoB : wB.ownsRow w53.heap.size 9 1 vB (qs ++ [s]).length (sv (qs ++ [s])) := by simpa using HOB.out
              obtain ⟨AB, cB, rfl, hrB, hcB, _⟩ := own_row (w0 := w53) hoB
              have hbB : Below w53.heap.size w53 wB := ((((Below.refl _ w53).alloc (Nat.le_refl _) _).trans HXA.out).alloc (by have := HXA.out.size; simp only [World.size_alloc] at this; omega) _).trans HXB.out
              have HB54 := Lib.hid (Bel.call HB53.out hbB)
              replace HRX := Lib.hid (HRX.out.below hbB (Nat.le_refl _))
              replace HRP := Lib.hid (HRP.out.below hbB (Nat.le_refl _))
              have HRB := Lib.hid hrB
              have HCB := Lib.hid hcB
              have HRT2 : Hid (∀ w', SReads w' AB (qs ++ [s]) → Calls Try.prog 13 #[.slice AB (qs ++ [s]).length cB] w' fun e w'' => Sr ([], 1) e ∧ Below w'.heap.size w' w'') := Lib.hid fun w' h => root_any_to (bad_root (s := s.data.toList) HLF.out (List.mem_map.2 ⟨s, by simp, rfl⟩)) rfl HCB.out (sz_snoc HQZ.out (by omega)) w' h
              clear hrB hcB hoB hbB HOA HOB HXA HXB
              with_reducible refine (HRT2.out _ HRB.out).mono ?_
              rintro e w55 ⟨⟨T2, hT2, rfl⟩, hb55⟩
              have HB55 := Lib.hid (Bel.call HB54.out hb55)
              replace HRX := Lib.hid (HRX.out.below hb55 (Nat.le_refl _))
              replace HRP := Lib.hid (HRP.out.below hb55 (Nat.le_refl _))
              replace HRB := Lib.hid (HRB.out.below hb55 (Nat.le_refl _))
              clear hb55
              obtain rfl : T2 = ⟨#[]⟩ := str_eq hT2
              clear hT2
              dsimp only
              clear HRB HRT2 HCB
              go_wp2_with (first
                | (at_builtin
                   refine append_strs rfl _ _ rfl w55.heap.size (.slice (some ⟨w55.heap.size, 0, none⟩) 1 1) 1 [s] qs rfl ?c1 (rfl) AX qs.length cX rfl (rfl) (HNX.out) ?c2 ?c3 ?c4 ?_
                   case c1 => exact own_lit w55 [s] 1 rfl (by decide)
                   case c2 => exact HRX.out.below ((Below.refl _ w55).alloc (Nat.le_refl _) _) (Nat.le_refl _)
                   case c3 => have := hqm.out; omega
                   case c4 => simp
                   intro vC wC hown hb
                   have HOC := Lib.hid hown
                   have HXC := Lib.hid hb
                   clear hown hb))
              have hoC : wC.ownsRow w55.heap.size 9 1 vC (s :: qs).length (sv (s :: qs)) := by have := HOC.out; rwa [show 1 + qs.length = (s :: qs).length by simp; omega] at this
              obtain ⟨AC, cC, rfl, hrC, hcC, _⟩ := own_row (w0 := w55) hoC
              have hbC : Below w55.heap.size w55 wC := ((Below.refl _ w55).alloc (Nat.le_refl _) _).trans HXC.out
              have HB56 := Lib.hid (Bel.call HB55.out hbC)
              replace HRX := Lib.hid (HRX.out.below hbC (Nat.le_refl _))
              replace HRP := Lib.hid (HRP.out.below hbC (Nat.le_refl _))
              have HRC := Lib.hid hrC
              have HCC := Lib.hid hcC
              have HPC2 : Hid (∀ w', SReads w' AC (s :: qs) → Calls Try.prog 15 #[.slice AC (s :: qs).length cC, .int .i64 0] w' fun e w'' => Pb w' w'' ([], 1) e ∧ Below w'.heap.size w' w'') := Lib.hid fun w' h => proof_any_to (bad_proof (bad_root (s := s.data.toList) HLF.out (List.mem_map.2 ⟨s, by simp, rfl⟩))) rfl HCC.out (sz_cons HQZ.out (by omega)) w' h
              clear hrC hcC hoC hbC HOC HXC
              with_reducible refine (HPC2.out _ HRC.out).mono ?_
              rintro e w57 ⟨hx, hb57⟩
              have HB57 := Lib.hid (Bel.call HB56.out hb57)
              replace HRX := Lib.hid (HRX.out.below hb57 (Nat.le_refl _))
              replace HRP := Lib.hid (HRP.out.below hb57 (Nat.le_refl _))
              replace HRC := Lib.hid (HRC.out.below hb57 (Nat.le_refl _))
              clear hb57
              obtain ⟨AQ, cQ, YQ, hq, _, _, _, rfl⟩ := pb_row hx
              obtain rfl : YQ = [] := List.eq_nil_of_length_eq_zero (bl_length hq)
              clear hx hq
              dsimp only
              clear HRC HPC2 HCC
              go_wp2_with fail
              obtain ⟨K2, hK2⟩ : ∃ K2, (⟨#[104]⟩ : ByteArray) ++ s = K2 := ⟨_, rfl⟩
              have HVE : Hid (∀ w', Calls Try.prog 18 #[.string K2, .int .i64 1, .int .i64 0, .string s, .slice none 0 0] w' fun e w'' => e = .returned (.bool false) ∧ Below w'.heap.size w' w'') := Lib.hid fun w' => by
                have h := cverify_any K2 1 0 s none 0 [] w' (SReads.nil _ _) (Nat.le_refl _) (by omega) (fun y hy => absurd hy (List.not_mem_nil)) (by omega) (by rw [Lib.size_eq, ← hK2, app_data, List.length_append, ← Lib.size_eq, ← Lib.size_eq]; have : (⟨#[104]⟩ : ByteArray).size = 1 := rfl; omega)
                rw [ver_bad HLF.out] at h
                exact h
              rw [hK2]
              clear hK2
              with_reducible refine (HVE.out _).mono ?_
              rintro e w58 ⟨rfl, hb58⟩
              have HB58 := Lib.hid (Bel.call HB57.out hb58)
              replace HRX := Lib.hid (HRX.out.below hb58 (Nat.le_refl _))
              replace HRP := Lib.hid (HRP.out.below hb58 (Nat.le_refl _))
              clear hb58
              dsimp only
              go_wp2
              go_ret
              exact ⟨rfl, HB58.out⟩
            · have H1 := Lib.hid h1
              have H2 := Lib.hid h2
              have HLF := Lib.hid hlf
              have qk : ((k2 : Int) == 112) = false := by rw [beq_eq_false_iff_ne]; omega
              clear h1 h2 hlf hk2
              go_wp2_with fail
              with_reducible refine (H1.out _).mono ?_
              rintro e w53 ⟨⟨AT, cT, YT, hq, hc, hr, rfl⟩, hb53⟩
              have HB53 := Lib.hid (Bel.call HB52.out hb53)
              replace HRX := Lib.hid (HRX.out.below hb53 (Nat.le_refl _))
              replace HRP := Lib.hid (HRP.out.below hb53 (Nat.le_refl _))
              clear hb53
              have HQT := Lib.hid hq
              have HRT := Lib.hid hr
              clear hq hc hr
              dsimp only
              go_wp2_with fail
              with_reducible refine (H2.out _).mono ?_
              rintro e w54 ⟨rfl, hb54⟩
              have HB54 := Lib.hid (Bel.call HB53.out hb54)
              replace HRX := Lib.hid (HRX.out.below hb54 (Nat.le_refl _))
              replace HRP := Lib.hid (HRP.out.below hb54 (Nat.le_refl _))
              clear hb54
              dsimp only
              go_wp2_with (first
                | (at_builtin
                   refine append_strs rfl _ _ rfl w54.heap.size (.slice (some ⟨w54.heap.size, 0, none⟩) 0 0) 0 [] qs rfl ?c1 (rfl) AX qs.length cX rfl (rfl) (HNX.out) ?c2 ?c3 ?c4 ?_
                   case c1 => exact own_empty w54
                   case c2 => exact HRX.out.below ((Below.refl _ w54).alloc (Nat.le_refl _) _) (Nat.le_refl _)
                   case c3 => have := hqm.out; omega
                   case c4 => simp
                   intro vA wA hown hb
                   have HOA := Lib.hid hown
                   have HXA := Lib.hid hb
                   clear hown hb)
                | (at_builtin
                   refine append_strs rfl _ _ rfl w54.heap.size vA (0 + qs.length) ([] ++ qs) [s] rfl ?c1 ((by simp)) (some ⟨wA.heap.size, 0, none⟩) 1 1 rfl (rfl) (fun h => by cases h) ?c2 ?c3 ?c4 ?_
                   case c1 => exact own_below HOA.out ((Below.refl _ wA).alloc (Nat.le_refl _) _) (Nat.le_refl _)
                   case c2 => exact one_reads wA s wA.heap.size rfl
                   case c3 => have := hqm.out; simp only [List.length_cons, List.length_nil]; omega
                   case c4 => have := HXA.out.size; simp only [World.size_alloc] at this ⊢; omega
                   intro vB wB hown hb
                   have HOB := Lib.hid hown
                   have HXB := Lib.hid hb
                   clear hown hb))
              have hoB : wB.ownsRow w54.heap.size 9 1 vB (qs ++ [s]).length (sv (qs ++ [s])) := by simpa using HOB.out
              obtain ⟨AB, cB, rfl, hrB, hcB, _⟩ := own_row (w0 := w54) hoB
              have hbB : Below w54.heap.size w54 wB := ((((Below.refl _ w54).alloc (Nat.le_refl _) _).trans HXA.out).alloc (by have := HXA.out.size; simp only [World.size_alloc] at this; omega) _).trans HXB.out
              have HB55 := Lib.hid (Bel.call HB54.out hbB)
              replace HRX := Lib.hid (HRX.out.below hbB (Nat.le_refl _))
              replace HRP := Lib.hid (HRP.out.below hbB (Nat.le_refl _))
              have HRB := Lib.hid hrB
              have HCB := Lib.hid hcB
              have HRT2 : Hid (∀ w', SReads w' AB (qs ++ [s]) → Calls Try.prog 13 #[.slice AB (qs ++ [s]).length cB] w' fun e w'' => Sr ([], 1) e ∧ Below w'.heap.size w' w'') := Lib.hid fun w' h => root_any_to (bad_root (s := s.data.toList) HLF.out (List.mem_map.2 ⟨s, by simp, rfl⟩)) rfl HCB.out (sz_snoc HQZ.out (by omega)) w' h
              clear hrB hcB hoB hbB HOA HOB HXA HXB
              with_reducible refine (HRT2.out _ HRB.out).mono ?_
              rintro e w56 ⟨⟨T2, hT2, rfl⟩, hb56⟩
              have HB56 := Lib.hid (Bel.call HB55.out hb56)
              replace HRX := Lib.hid (HRX.out.below hb56 (Nat.le_refl _))
              replace HRP := Lib.hid (HRP.out.below hb56 (Nat.le_refl _))
              replace HRB := Lib.hid (HRB.out.below hb56 (Nat.le_refl _))
              clear hb56
              obtain rfl : T2 = ⟨#[]⟩ := str_eq hT2
              clear hT2
              dsimp only
              clear HRB HRT2 HCB
              go_wp2_with (first
                | (at_builtin
                   refine append_strs rfl _ _ rfl w56.heap.size (.slice (some ⟨w56.heap.size, 0, none⟩) 1 1) 1 [s] qs rfl ?c1 (rfl) AX qs.length cX rfl (rfl) (HNX.out) ?c2 ?c3 ?c4 ?_
                   case c1 => exact own_lit w56 [s] 1 rfl (by decide)
                   case c2 => exact HRX.out.below ((Below.refl _ w56).alloc (Nat.le_refl _) _) (Nat.le_refl _)
                   case c3 => have := hqm.out; omega
                   case c4 => simp
                   intro vC wC hown hb
                   have HOC := Lib.hid hown
                   have HXC := Lib.hid hb
                   clear hown hb))
              have hoC : wC.ownsRow w56.heap.size 9 1 vC (s :: qs).length (sv (s :: qs)) := by have := HOC.out; rwa [show 1 + qs.length = (s :: qs).length by simp; omega] at this
              obtain ⟨AC, cC, rfl, hrC, hcC, _⟩ := own_row (w0 := w56) hoC
              have hbC : Below w56.heap.size w56 wC := ((Below.refl _ w56).alloc (Nat.le_refl _) _).trans HXC.out
              have HB57 := Lib.hid (Bel.call HB56.out hbC)
              replace HRX := Lib.hid (HRX.out.below hbC (Nat.le_refl _))
              replace HRP := Lib.hid (HRP.out.below hbC (Nat.le_refl _))
              have HRC := Lib.hid hrC
              have HCC := Lib.hid hcC
              have HPC2 : Hid (∀ w', SReads w' AC (s :: qs) → Calls Try.prog 15 #[.slice AC (s :: qs).length cC, .int .i64 0] w' fun e w'' => Pb w' w'' ([], 1) e ∧ Below w'.heap.size w' w'') := Lib.hid fun w' h => proof_any_to (bad_proof (bad_root (s := s.data.toList) HLF.out (List.mem_map.2 ⟨s, by simp, rfl⟩))) rfl HCC.out (sz_cons HQZ.out (by omega)) w' h
              clear hrC hcC hoC hbC HOC HXC
              with_reducible refine (HPC2.out _ HRC.out).mono ?_
              rintro e w58 ⟨hx, hb58⟩
              have HB58 := Lib.hid (Bel.call HB57.out hb58)
              replace HRX := Lib.hid (HRX.out.below hb58 (Nat.le_refl _))
              replace HRP := Lib.hid (HRP.out.below hb58 (Nat.le_refl _))
              replace HRC := Lib.hid (HRC.out.below hb58 (Nat.le_refl _))
              clear hb58
              obtain ⟨AQ, cQ, YQ, hq, _, _, _, rfl⟩ := pb_row hx
              obtain rfl : YQ = [] := List.eq_nil_of_length_eq_zero (bl_length hq)
              clear hx hq
              dsimp only
              clear HRC HPC2 HCC
              go_wp2_with fail
              obtain ⟨K2, hK2⟩ : ∃ K2, (⟨#[104]⟩ : ByteArray) ++ s = K2 := ⟨_, rfl⟩
              have HVE : Hid (∀ w', Calls Try.prog 18 #[.string K2, .int .i64 1, .int .i64 0, .string s, .slice none 0 0] w' fun e w'' => e = .returned (.bool false) ∧ Below w'.heap.size w' w'') := Lib.hid fun w' => by
                have h := cverify_any K2 1 0 s none 0 [] w' (SReads.nil _ _) (Nat.le_refl _) (by omega) (fun y hy => absurd hy (List.not_mem_nil)) (by omega) (by rw [Lib.size_eq, ← hK2, app_data, List.length_append, ← Lib.size_eq, ← Lib.size_eq]; have : (⟨#[104]⟩ : ByteArray).size = 1 := rfl; omega)
                rw [ver_bad HLF.out] at h
                exact h
              rw [hK2]
              clear hK2
              with_reducible refine (HVE.out _).mono ?_
              rintro e w59 ⟨rfl, hb59⟩
              have HB59 := Lib.hid (Bel.call HB58.out hb59)
              replace HRX := Lib.hid (HRX.out.below hb59 (Nat.le_refl _))
              replace HRP := Lib.hid (HRP.out.below hb59 (Nat.le_refl _))
              clear hb59
              dsimp only
              go_wp2
              go_ret
              exact ⟨rfl, HB59.out⟩
            · have H1 := Lib.hid h1
              have H2 := Lib.hid h2
              have H3 := Lib.hid h3
              have H4 := Lib.hid h4
              clear h1 h2 h3 h4
              go_wp2_with fail
              with_reducible refine (H1.out _).mono ?_
              rintro e w53 ⟨⟨AT, cT, YT, hq, hc, hr, rfl⟩, hb53⟩
              have HB53 := Lib.hid (Bel.call HB52.out hb53)
              replace HRX := Lib.hid (HRX.out.below hb53 (Nat.le_refl _))
              replace HRP := Lib.hid (HRP.out.below hb53 (Nat.le_refl _))
              clear hb53
              obtain ⟨PA, PB, rfl, hPA, hPB⟩ := bl_two hq
              obtain ⟨g2, o2, rfl, hg2, l0, l1⟩ := two_reads hr
              have HRT2 := Lib.hid hr
              have HPA := Lib.hid hPA
              have HPB := Lib.hid hPB
              clear hq hc hr hg2 l0 l1 hPA hPB
              dsimp only
              go_wp2_with fail
              with_reducible refine (H2.out _).mono ?_
              rintro e w54 ⟨rfl, hb54⟩
              have HB54 := Lib.hid (Bel.call HB53.out hb54)
              replace HRX := Lib.hid (HRX.out.below hb54 (Nat.le_refl _))
              replace HRP := Lib.hid (HRP.out.below hb54 (Nat.le_refl _))
              replace HRT2 := Lib.hid (HRT2.out.below hb54 (Nat.le_refl _))
              clear hb54
              dsimp only
              obtain ⟨l0, l1⟩ := two_cells HRT2.out
              go_wp2_with fail
              with_reducible refine (H3.out PA _ HPA.out).mono ?_
              rintro e w55 ⟨rfl, hb55⟩
              have HB55 := Lib.hid (Bel.call HB54.out hb55)
              replace HRX := Lib.hid (HRX.out.below hb55 (Nat.le_refl _))
              replace HRP := Lib.hid (HRP.out.below hb55 (Nat.le_refl _))
              replace HRT2 := Lib.hid (HRT2.out.below hb55 (Nat.le_refl _))
              clear hb55
              dsimp only
              clear l0 l1
              obtain ⟨l0, l1⟩ := two_cells HRT2.out
              by_cases ea : ka = 116
              · have qa2 : ((ka : Int) == 116) = true := by rw [beq_iff_eq]; omega
                go_wp2_with fail
                with_reducible refine (H4.out PB _ HPB.out).mono ?_
                rintro e w56 ⟨rfl, hb56⟩
                have HB56 := Lib.hid (Bel.call HB55.out hb56)
                replace HRX := Lib.hid (HRX.out.below hb56 (Nat.le_refl _))
                replace HRP := Lib.hid (HRP.out.below hb56 (Nat.le_refl _))
                replace HRT2 := Lib.hid (HRT2.out.below hb56 (Nat.le_refl _))
                clear hb56
                dsimp only
                clear l0 l1
                by_cases eb : kb = 97
                · have qb2 : ((kb : Int) == 97) = true := by rw [beq_iff_eq]; omega
                  clear hlf
                  go_wp2
                  go_ret
                  exact ⟨rfl, HB56.out⟩
                · have qb2 : ((kb : Int) == 97) = false := by rw [beq_eq_false_iff_ne]; omega
                  have HLF : Hid (isLeaf s.data.toList = false) := Lib.hid (by rw [hlf, decide_eq_false eb, Bool.and_false])
                  clear hlf eb HRT2
                  go_wp2_with (first
                    | (at_builtin
                       refine append_strs rfl _ _ rfl w56.heap.size (.slice (some ⟨w56.heap.size, 0, none⟩) 0 0) 0 [] qs rfl ?c1 (rfl) AX qs.length cX rfl (rfl) (HNX.out) ?c2 ?c3 ?c4 ?_
                       case c1 => exact own_empty w56
                       case c2 => exact HRX.out.below ((Below.refl _ w56).alloc (Nat.le_refl _) _) (Nat.le_refl _)
                       case c3 => have := hqm.out; omega
                       case c4 => simp
                       intro vA wA hown hb
                       have HOA := Lib.hid hown
                       have HXA := Lib.hid hb
                       clear hown hb)
                    | (at_builtin
                       refine append_strs rfl _ _ rfl w56.heap.size vA (0 + qs.length) ([] ++ qs) [s] rfl ?c1 ((by simp)) (some ⟨wA.heap.size, 0, none⟩) 1 1 rfl (rfl) (fun h => by cases h) ?c2 ?c3 ?c4 ?_
                       case c1 => exact own_below HOA.out ((Below.refl _ wA).alloc (Nat.le_refl _) _) (Nat.le_refl _)
                       case c2 => exact one_reads wA s wA.heap.size rfl
                       case c3 => have := hqm.out; simp only [List.length_cons, List.length_nil]; omega
                       case c4 => have := HXA.out.size; simp only [World.size_alloc] at this ⊢; omega
                       intro vB wB hown hb
                       have HOB := Lib.hid hown
                       have HXB := Lib.hid hb
                       clear hown hb))
                  have hoB : wB.ownsRow w56.heap.size 9 1 vB (qs ++ [s]).length (sv (qs ++ [s])) := by simpa using HOB.out
                  obtain ⟨AB, cB, rfl, hrB, hcB, _⟩ := own_row (w0 := w56) hoB
                  have hbB : Below w56.heap.size w56 wB := ((((Below.refl _ w56).alloc (Nat.le_refl _) _).trans HXA.out).alloc (by have := HXA.out.size; simp only [World.size_alloc] at this; omega) _).trans HXB.out
                  have HB57 := Lib.hid (Bel.call HB56.out hbB)
                  replace HRX := Lib.hid (HRX.out.below hbB (Nat.le_refl _))
                  replace HRP := Lib.hid (HRP.out.below hbB (Nat.le_refl _))
                  have HRB := Lib.hid hrB
                  have HCB := Lib.hid hcB
                  have HRT2 : Hid (∀ w', SReads w' AB (qs ++ [s]) → Calls Try.prog 13 #[.slice AB (qs ++ [s]).length cB] w' fun e w'' => Sr ([], 1) e ∧ Below w'.heap.size w' w'') := Lib.hid fun w' h => root_any_to (bad_root (s := s.data.toList) HLF.out (List.mem_map.2 ⟨s, by simp, rfl⟩)) rfl HCB.out (sz_snoc HQZ.out (by omega)) w' h
                  clear hrB hcB hoB hbB HOA HOB HXA HXB
                  with_reducible refine (HRT2.out _ HRB.out).mono ?_
                  rintro e w58 ⟨⟨T2, hT2, rfl⟩, hb58⟩
                  have HB58 := Lib.hid (Bel.call HB57.out hb58)
                  replace HRX := Lib.hid (HRX.out.below hb58 (Nat.le_refl _))
                  replace HRP := Lib.hid (HRP.out.below hb58 (Nat.le_refl _))
                  replace HRB := Lib.hid (HRB.out.below hb58 (Nat.le_refl _))
                  clear hb58
                  obtain rfl : T2 = ⟨#[]⟩ := str_eq hT2
                  clear hT2
                  dsimp only
                  clear HRB HRT2 HCB
                  go_wp2_with (first
                    | (at_builtin
                       refine append_strs rfl _ _ rfl w58.heap.size (.slice (some ⟨w58.heap.size, 0, none⟩) 1 1) 1 [s] qs rfl ?c1 (rfl) AX qs.length cX rfl (rfl) (HNX.out) ?c2 ?c3 ?c4 ?_
                       case c1 => exact own_lit w58 [s] 1 rfl (by decide)
                       case c2 => exact HRX.out.below ((Below.refl _ w58).alloc (Nat.le_refl _) _) (Nat.le_refl _)
                       case c3 => have := hqm.out; omega
                       case c4 => simp
                       intro vC wC hown hb
                       have HOC := Lib.hid hown
                       have HXC := Lib.hid hb
                       clear hown hb))
                  have hoC : wC.ownsRow w58.heap.size 9 1 vC (s :: qs).length (sv (s :: qs)) := by have := HOC.out; rwa [show 1 + qs.length = (s :: qs).length by simp; omega] at this
                  obtain ⟨AC, cC, rfl, hrC, hcC, _⟩ := own_row (w0 := w58) hoC
                  have hbC : Below w58.heap.size w58 wC := ((Below.refl _ w58).alloc (Nat.le_refl _) _).trans HXC.out
                  have HB59 := Lib.hid (Bel.call HB58.out hbC)
                  replace HRX := Lib.hid (HRX.out.below hbC (Nat.le_refl _))
                  replace HRP := Lib.hid (HRP.out.below hbC (Nat.le_refl _))
                  have HRC := Lib.hid hrC
                  have HCC := Lib.hid hcC
                  have HPC2 : Hid (∀ w', SReads w' AC (s :: qs) → Calls Try.prog 15 #[.slice AC (s :: qs).length cC, .int .i64 0] w' fun e w'' => Pb w' w'' ([], 1) e ∧ Below w'.heap.size w' w'') := Lib.hid fun w' h => proof_any_to (bad_proof (bad_root (s := s.data.toList) HLF.out (List.mem_map.2 ⟨s, by simp, rfl⟩))) rfl HCC.out (sz_cons HQZ.out (by omega)) w' h
                  clear hrC hcC hoC hbC HOC HXC
                  with_reducible refine (HPC2.out _ HRC.out).mono ?_
                  rintro e w60 ⟨hx, hb60⟩
                  have HB60 := Lib.hid (Bel.call HB59.out hb60)
                  replace HRX := Lib.hid (HRX.out.below hb60 (Nat.le_refl _))
                  replace HRP := Lib.hid (HRP.out.below hb60 (Nat.le_refl _))
                  replace HRC := Lib.hid (HRC.out.below hb60 (Nat.le_refl _))
                  clear hb60
                  obtain ⟨AQ, cQ, YQ, hq, _, _, _, rfl⟩ := pb_row hx
                  obtain rfl : YQ = [] := List.eq_nil_of_length_eq_zero (bl_length hq)
                  clear hx hq
                  dsimp only
                  clear HRC HPC2 HCC
                  go_wp2_with fail
                  obtain ⟨K2, hK2⟩ : ∃ K2, (⟨#[104]⟩ : ByteArray) ++ s = K2 := ⟨_, rfl⟩
                  have HVE : Hid (∀ w', Calls Try.prog 18 #[.string K2, .int .i64 1, .int .i64 0, .string s, .slice none 0 0] w' fun e w'' => e = .returned (.bool false) ∧ Below w'.heap.size w' w'') := Lib.hid fun w' => by
                    have h := cverify_any K2 1 0 s none 0 [] w' (SReads.nil _ _) (Nat.le_refl _) (by omega) (fun y hy => absurd hy (List.not_mem_nil)) (by omega) (by rw [Lib.size_eq, ← hK2, app_data, List.length_append, ← Lib.size_eq, ← Lib.size_eq]; have : (⟨#[104]⟩ : ByteArray).size = 1 := rfl; omega)
                    rw [ver_bad HLF.out] at h
                    exact h
                  rw [hK2]
                  clear hK2
                  with_reducible refine (HVE.out _).mono ?_
                  rintro e w61 ⟨rfl, hb61⟩
                  have HB61 := Lib.hid (Bel.call HB60.out hb61)
                  replace HRX := Lib.hid (HRX.out.below hb61 (Nat.le_refl _))
                  replace HRP := Lib.hid (HRP.out.below hb61 (Nat.le_refl _))
                  clear hb61
                  dsimp only
                  go_wp2
                  go_ret
                  exact ⟨rfl, HB61.out⟩
              · clear l0 l1
                have qa2 : ((ka : Int) == 116) = false := by rw [beq_eq_false_iff_ne]; omega
                have HLF : Hid (isLeaf s.data.toList = false) := Lib.hid (by rw [hlf, decide_eq_false ea, Bool.false_and])
                clear hlf ea HRT2
                go_wp2_with (first
                  | (at_builtin
                     refine append_strs rfl _ _ rfl w55.heap.size (.slice (some ⟨w55.heap.size, 0, none⟩) 0 0) 0 [] qs rfl ?c1 (rfl) AX qs.length cX rfl (rfl) (HNX.out) ?c2 ?c3 ?c4 ?_
                     case c1 => exact own_empty w55
                     case c2 => exact HRX.out.below ((Below.refl _ w55).alloc (Nat.le_refl _) _) (Nat.le_refl _)
                     case c3 => have := hqm.out; omega
                     case c4 => simp
                     intro vA wA hown hb
                     have HOA := Lib.hid hown
                     have HXA := Lib.hid hb
                     clear hown hb)
                  | (at_builtin
                     refine append_strs rfl _ _ rfl w55.heap.size vA (0 + qs.length) ([] ++ qs) [s] rfl ?c1 ((by simp)) (some ⟨wA.heap.size, 0, none⟩) 1 1 rfl (rfl) (fun h => by cases h) ?c2 ?c3 ?c4 ?_
                     case c1 => exact own_below HOA.out ((Below.refl _ wA).alloc (Nat.le_refl _) _) (Nat.le_refl _)
                     case c2 => exact one_reads wA s wA.heap.size rfl
                     case c3 => have := hqm.out; simp only [List.length_cons, List.length_nil]; omega
                     case c4 => have := HXA.out.size; simp only [World.size_alloc] at this ⊢; omega
                     intro vB wB hown hb
                     have HOB := Lib.hid hown
                     have HXB := Lib.hid hb
                     clear hown hb))
                have hoB : wB.ownsRow w55.heap.size 9 1 vB (qs ++ [s]).length (sv (qs ++ [s])) := by simpa using HOB.out
                obtain ⟨AB, cB, rfl, hrB, hcB, _⟩ := own_row (w0 := w55) hoB
                have hbB : Below w55.heap.size w55 wB := ((((Below.refl _ w55).alloc (Nat.le_refl _) _).trans HXA.out).alloc (by have := HXA.out.size; simp only [World.size_alloc] at this; omega) _).trans HXB.out
                have HB56 := Lib.hid (Bel.call HB55.out hbB)
                replace HRX := Lib.hid (HRX.out.below hbB (Nat.le_refl _))
                replace HRP := Lib.hid (HRP.out.below hbB (Nat.le_refl _))
                have HRB := Lib.hid hrB
                have HCB := Lib.hid hcB
                have HRT2 : Hid (∀ w', SReads w' AB (qs ++ [s]) → Calls Try.prog 13 #[.slice AB (qs ++ [s]).length cB] w' fun e w'' => Sr ([], 1) e ∧ Below w'.heap.size w' w'') := Lib.hid fun w' h => root_any_to (bad_root (s := s.data.toList) HLF.out (List.mem_map.2 ⟨s, by simp, rfl⟩)) rfl HCB.out (sz_snoc HQZ.out (by omega)) w' h
                clear hrB hcB hoB hbB HOA HOB HXA HXB
                with_reducible refine (HRT2.out _ HRB.out).mono ?_
                rintro e w57 ⟨⟨T2, hT2, rfl⟩, hb57⟩
                have HB57 := Lib.hid (Bel.call HB56.out hb57)
                replace HRX := Lib.hid (HRX.out.below hb57 (Nat.le_refl _))
                replace HRP := Lib.hid (HRP.out.below hb57 (Nat.le_refl _))
                replace HRB := Lib.hid (HRB.out.below hb57 (Nat.le_refl _))
                clear hb57
                obtain rfl : T2 = ⟨#[]⟩ := str_eq hT2
                clear hT2
                dsimp only
                clear HRB HRT2 HCB
                go_wp2_with (first
                  | (at_builtin
                     refine append_strs rfl _ _ rfl w57.heap.size (.slice (some ⟨w57.heap.size, 0, none⟩) 1 1) 1 [s] qs rfl ?c1 (rfl) AX qs.length cX rfl (rfl) (HNX.out) ?c2 ?c3 ?c4 ?_
                     case c1 => exact own_lit w57 [s] 1 rfl (by decide)
                     case c2 => exact HRX.out.below ((Below.refl _ w57).alloc (Nat.le_refl _) _) (Nat.le_refl _)
                     case c3 => have := hqm.out; omega
                     case c4 => simp
                     intro vC wC hown hb
                     have HOC := Lib.hid hown
                     have HXC := Lib.hid hb
                     clear hown hb))
                have hoC : wC.ownsRow w57.heap.size 9 1 vC (s :: qs).length (sv (s :: qs)) := by have := HOC.out; rwa [show 1 + qs.length = (s :: qs).length by simp; omega] at this
                obtain ⟨AC, cC, rfl, hrC, hcC, _⟩ := own_row (w0 := w57) hoC
                have hbC : Below w57.heap.size w57 wC := ((Below.refl _ w57).alloc (Nat.le_refl _) _).trans HXC.out
                have HB58 := Lib.hid (Bel.call HB57.out hbC)
                replace HRX := Lib.hid (HRX.out.below hbC (Nat.le_refl _))
                replace HRP := Lib.hid (HRP.out.below hbC (Nat.le_refl _))
                have HRC := Lib.hid hrC
                have HCC := Lib.hid hcC
                have HPC2 : Hid (∀ w', SReads w' AC (s :: qs) → Calls Try.prog 15 #[.slice AC (s :: qs).length cC, .int .i64 0] w' fun e w'' => Pb w' w'' ([], 1) e ∧ Below w'.heap.size w' w'') := Lib.hid fun w' h => proof_any_to (bad_proof (bad_root (s := s.data.toList) HLF.out (List.mem_map.2 ⟨s, by simp, rfl⟩))) rfl HCC.out (sz_cons HQZ.out (by omega)) w' h
                clear hrC hcC hoC hbC HOC HXC
                with_reducible refine (HPC2.out _ HRC.out).mono ?_
                rintro e w59 ⟨hx, hb59⟩
                have HB59 := Lib.hid (Bel.call HB58.out hb59)
                replace HRX := Lib.hid (HRX.out.below hb59 (Nat.le_refl _))
                replace HRP := Lib.hid (HRP.out.below hb59 (Nat.le_refl _))
                replace HRC := Lib.hid (HRC.out.below hb59 (Nat.le_refl _))
                clear hb59
                obtain ⟨AQ, cQ, YQ, hq, _, _, _, rfl⟩ := pb_row hx
                obtain rfl : YQ = [] := List.eq_nil_of_length_eq_zero (bl_length hq)
                clear hx hq
                dsimp only
                clear HRC HPC2 HCC
                go_wp2_with fail
                obtain ⟨K2, hK2⟩ : ∃ K2, (⟨#[104]⟩ : ByteArray) ++ s = K2 := ⟨_, rfl⟩
                have HVE : Hid (∀ w', Calls Try.prog 18 #[.string K2, .int .i64 1, .int .i64 0, .string s, .slice none 0 0] w' fun e w'' => e = .returned (.bool false) ∧ Below w'.heap.size w' w'') := Lib.hid fun w' => by
                  have h := cverify_any K2 1 0 s none 0 [] w' (SReads.nil _ _) (Nat.le_refl _) (by omega) (fun y hy => absurd hy (List.not_mem_nil)) (by omega) (by rw [Lib.size_eq, ← hK2, app_data, List.length_append, ← Lib.size_eq, ← Lib.size_eq]; have : (⟨#[104]⟩ : ByteArray).size = 1 := rfl; omega)
                  rw [ver_bad HLF.out] at h
                  exact h
                rw [hK2]
                clear hK2
                with_reducible refine (HVE.out _).mono ?_
                rintro e w60 ⟨rfl, hb60⟩
                have HB60 := Lib.hid (Bel.call HB59.out hb60)
                replace HRX := Lib.hid (HRX.out.below hb60 (Nat.le_refl _))
                replace HRP := Lib.hid (HRP.out.below hb60 (Nat.le_refl _))
                clear hb60
                dsimp only
                go_wp2
                go_ret
                exact ⟨rfl, HB60.out⟩
          · by_cases h9 : (qs.length : Int) ≤ at0
            · obtain ⟨px, hpx⟩ : ∃ x : List Tm, x = [] := ⟨_, rfl⟩
              have hproof : proofT xs at0 = (px, 1) := by rw [hpx]; exact place_proof hroot (.inr (by omega))
              clear hN
              have HRT : Hid (∀ w', SReads w' AX qs → Calls Try.prog 13 #[.slice AX qs.length cX] w' fun e w'' => Sr (rx, 0) e ∧ Below w'.heap.size w' w'') := Lib.hid fun w' h => root_any_to hroot hQx HCX.out hqz' w' h
              have HPC : Hid (∀ w', SReads w' AX qs → Calls Try.prog 15 #[.slice AX qs.length cX, .int .i64 at0] w' fun e w'' => Pb w' w'' (px, 1) e ∧ Below w'.heap.size w' w'') := Lib.hid fun w' h => proof_any_to hproof hQx HCX.out hqz' w' h
              have HQZ := Lib.hid hqz'
              clear hroot hproof hXl hqe hXs hlx hqz hqz' hQx
              have HB50 : Hid (Below w.heap.size w wr) := HBL
              go_wp2_with fail
              with_reducible refine (HRT.out _ HRX.out).mono ?_
              rintro e w51 ⟨⟨R, hR, rfl⟩, hb51⟩
              have HB51 := Lib.hid (Bel.call HB50.out hb51)
              replace HRX := Lib.hid (HRX.out.below hb51 (Nat.le_refl _))
              clear hb51
              try dsimp only at hR
              have HR := Lib.hid hR
              clear hR
              dsimp only
              go_wp2_with fail
              with_reducible refine (HPC.out _ HRX.out).mono ?_
              rintro e w52 ⟨hx, hb52⟩
              have HB52 := Lib.hid (Bel.call HB51.out hb52)
              replace HRX := Lib.hid (HRX.out.below hb52 (Nat.le_refl _))
              clear hb52
              obtain ⟨AP, cP, YP, hq, hc, hr, hb, rfl⟩ := pb_row hx
              have HQP := Lib.hid hq
              have HCP := Lib.hid hc
              have HRP := Lib.hid hr
              clear hx hq hc hr hb
              dsimp only
              rcases HLC.out with ⟨hlf, h1⟩ | ⟨hlf, ⟨P, h1⟩, k2, hk2, h2⟩ | ⟨p, q, ka, kb, hlf, h1, h2, h3, h4⟩
              · have H1 := Lib.hid h1
                have HLF := Lib.hid hlf
                clear h1 hlf
                go_wp2_with fail
                with_reducible refine (H1.out _).mono ?_
                rintro e w53 ⟨⟨AT, cT, YT, hq, hc, hr, rfl⟩, hb53⟩
                have HB53 := Lib.hid (Bel.call HB52.out hb53)
                replace HRX := Lib.hid (HRX.out.below hb53 (Nat.le_refl _))
                replace HRP := Lib.hid (HRP.out.below hb53 (Nat.le_refl _))
                clear hb53
                have HQT := Lib.hid hq
                have HRT := Lib.hid hr
                clear hq hc hr
                dsimp only
                go_wp2_with (first
                  | (at_builtin
                     refine append_strs rfl _ _ rfl w53.heap.size (.slice (some ⟨w53.heap.size, 0, none⟩) 0 0) 0 [] qs rfl ?c1 (rfl) AX qs.length cX rfl (rfl) (HNX.out) ?c2 ?c3 ?c4 ?_
                     case c1 => exact own_empty w53
                     case c2 => exact HRX.out.below ((Below.refl _ w53).alloc (Nat.le_refl _) _) (Nat.le_refl _)
                     case c3 => have := hqm.out; omega
                     case c4 => simp
                     intro vA wA hown hb
                     have HOA := Lib.hid hown
                     have HXA := Lib.hid hb
                     clear hown hb)
                  | (at_builtin
                     refine append_strs rfl _ _ rfl w53.heap.size vA (0 + qs.length) ([] ++ qs) [s] rfl ?c1 ((by simp)) (some ⟨wA.heap.size, 0, none⟩) 1 1 rfl (rfl) (fun h => by cases h) ?c2 ?c3 ?c4 ?_
                     case c1 => exact own_below HOA.out ((Below.refl _ wA).alloc (Nat.le_refl _) _) (Nat.le_refl _)
                     case c2 => exact one_reads wA s wA.heap.size rfl
                     case c3 => have := hqm.out; simp only [List.length_cons, List.length_nil]; omega
                     case c4 => have := HXA.out.size; simp only [World.size_alloc] at this ⊢; omega
                     intro vB wB hown hb
                     have HOB := Lib.hid hown
                     have HXB := Lib.hid hb
                     clear hown hb))
                have hoB : wB.ownsRow w53.heap.size 9 1 vB (qs ++ [s]).length (sv (qs ++ [s])) := by simpa using HOB.out
                obtain ⟨AB, cB, rfl, hrB, hcB, _⟩ := own_row (w0 := w53) hoB
                have hbB : Below w53.heap.size w53 wB := ((((Below.refl _ w53).alloc (Nat.le_refl _) _).trans HXA.out).alloc (by have := HXA.out.size; simp only [World.size_alloc] at this; omega) _).trans HXB.out
                have HB54 := Lib.hid (Bel.call HB53.out hbB)
                replace HRX := Lib.hid (HRX.out.below hbB (Nat.le_refl _))
                replace HRP := Lib.hid (HRP.out.below hbB (Nat.le_refl _))
                have HRB := Lib.hid hrB
                have HCB := Lib.hid hcB
                have HRT2 : Hid (∀ w', SReads w' AB (qs ++ [s]) → Calls Try.prog 13 #[.slice AB (qs ++ [s]).length cB] w' fun e w'' => Sr ([], 1) e ∧ Below w'.heap.size w' w'') := Lib.hid fun w' h => root_any_to (bad_root (s := s.data.toList) HLF.out (List.mem_map.2 ⟨s, by simp, rfl⟩)) rfl HCB.out (sz_snoc HQZ.out (by omega)) w' h
                clear hrB hcB hoB hbB HOA HOB HXA HXB
                with_reducible refine (HRT2.out _ HRB.out).mono ?_
                rintro e w55 ⟨⟨T2, hT2, rfl⟩, hb55⟩
                have HB55 := Lib.hid (Bel.call HB54.out hb55)
                replace HRX := Lib.hid (HRX.out.below hb55 (Nat.le_refl _))
                replace HRP := Lib.hid (HRP.out.below hb55 (Nat.le_refl _))
                replace HRB := Lib.hid (HRB.out.below hb55 (Nat.le_refl _))
                clear hb55
                obtain rfl : T2 = ⟨#[]⟩ := str_eq hT2
                clear hT2
                dsimp only
                clear HRB HRT2 HCB
                go_wp2_with (first
                  | (at_builtin
                     refine append_strs rfl _ _ rfl w55.heap.size (.slice (some ⟨w55.heap.size, 0, none⟩) 1 1) 1 [s] qs rfl ?c1 (rfl) AX qs.length cX rfl (rfl) (HNX.out) ?c2 ?c3 ?c4 ?_
                     case c1 => exact own_lit w55 [s] 1 rfl (by decide)
                     case c2 => exact HRX.out.below ((Below.refl _ w55).alloc (Nat.le_refl _) _) (Nat.le_refl _)
                     case c3 => have := hqm.out; omega
                     case c4 => simp
                     intro vC wC hown hb
                     have HOC := Lib.hid hown
                     have HXC := Lib.hid hb
                     clear hown hb))
                have hoC : wC.ownsRow w55.heap.size 9 1 vC (s :: qs).length (sv (s :: qs)) := by have := HOC.out; rwa [show 1 + qs.length = (s :: qs).length by simp; omega] at this
                obtain ⟨AC, cC, rfl, hrC, hcC, _⟩ := own_row (w0 := w55) hoC
                have hbC : Below w55.heap.size w55 wC := ((Below.refl _ w55).alloc (Nat.le_refl _) _).trans HXC.out
                have HB56 := Lib.hid (Bel.call HB55.out hbC)
                replace HRX := Lib.hid (HRX.out.below hbC (Nat.le_refl _))
                replace HRP := Lib.hid (HRP.out.below hbC (Nat.le_refl _))
                have HRC := Lib.hid hrC
                have HCC := Lib.hid hcC
                have HPC2 : Hid (∀ w', SReads w' AC (s :: qs) → Calls Try.prog 15 #[.slice AC (s :: qs).length cC, .int .i64 0] w' fun e w'' => Pb w' w'' ([], 1) e ∧ Below w'.heap.size w' w'') := Lib.hid fun w' h => proof_any_to (bad_proof (bad_root (s := s.data.toList) HLF.out (List.mem_map.2 ⟨s, by simp, rfl⟩))) rfl HCC.out (sz_cons HQZ.out (by omega)) w' h
                clear hrC hcC hoC hbC HOC HXC
                with_reducible refine (HPC2.out _ HRC.out).mono ?_
                rintro e w57 ⟨hx, hb57⟩
                have HB57 := Lib.hid (Bel.call HB56.out hb57)
                replace HRX := Lib.hid (HRX.out.below hb57 (Nat.le_refl _))
                replace HRP := Lib.hid (HRP.out.below hb57 (Nat.le_refl _))
                replace HRC := Lib.hid (HRC.out.below hb57 (Nat.le_refl _))
                clear hb57
                obtain ⟨AQ, cQ, YQ, hq, _, _, _, rfl⟩ := pb_row hx
                obtain rfl : YQ = [] := List.eq_nil_of_length_eq_zero (bl_length hq)
                clear hx hq
                dsimp only
                clear HRC HPC2 HCC
                go_wp2_with fail
                obtain ⟨K2, hK2⟩ : ∃ K2, (⟨#[104]⟩ : ByteArray) ++ s = K2 := ⟨_, rfl⟩
                have HVE : Hid (∀ w', Calls Try.prog 18 #[.string K2, .int .i64 1, .int .i64 0, .string s, .slice none 0 0] w' fun e w'' => e = .returned (.bool false) ∧ Below w'.heap.size w' w'') := Lib.hid fun w' => by
                  have h := cverify_any K2 1 0 s none 0 [] w' (SReads.nil _ _) (Nat.le_refl _) (by omega) (fun y hy => absurd hy (List.not_mem_nil)) (by omega) (by rw [Lib.size_eq, ← hK2, app_data, List.length_append, ← Lib.size_eq, ← Lib.size_eq]; have : (⟨#[104]⟩ : ByteArray).size = 1 := rfl; omega)
                  rw [ver_bad HLF.out] at h
                  exact h
                rw [hK2]
                clear hK2
                with_reducible refine (HVE.out _).mono ?_
                rintro e w58 ⟨rfl, hb58⟩
                have HB58 := Lib.hid (Bel.call HB57.out hb58)
                replace HRX := Lib.hid (HRX.out.below hb58 (Nat.le_refl _))
                replace HRP := Lib.hid (HRP.out.below hb58 (Nat.le_refl _))
                clear hb58
                dsimp only
                go_wp2
                go_ret
                exact ⟨rfl, HB58.out⟩
              · have H1 := Lib.hid h1
                have H2 := Lib.hid h2
                have HLF := Lib.hid hlf
                have qk : ((k2 : Int) == 112) = false := by rw [beq_eq_false_iff_ne]; omega
                clear h1 h2 hlf hk2
                go_wp2_with fail
                with_reducible refine (H1.out _).mono ?_
                rintro e w53 ⟨⟨AT, cT, YT, hq, hc, hr, rfl⟩, hb53⟩
                have HB53 := Lib.hid (Bel.call HB52.out hb53)
                replace HRX := Lib.hid (HRX.out.below hb53 (Nat.le_refl _))
                replace HRP := Lib.hid (HRP.out.below hb53 (Nat.le_refl _))
                clear hb53
                have HQT := Lib.hid hq
                have HRT := Lib.hid hr
                clear hq hc hr
                dsimp only
                go_wp2_with fail
                with_reducible refine (H2.out _).mono ?_
                rintro e w54 ⟨rfl, hb54⟩
                have HB54 := Lib.hid (Bel.call HB53.out hb54)
                replace HRX := Lib.hid (HRX.out.below hb54 (Nat.le_refl _))
                replace HRP := Lib.hid (HRP.out.below hb54 (Nat.le_refl _))
                clear hb54
                dsimp only
                go_wp2_with (first
                  | (at_builtin
                     refine append_strs rfl _ _ rfl w54.heap.size (.slice (some ⟨w54.heap.size, 0, none⟩) 0 0) 0 [] qs rfl ?c1 (rfl) AX qs.length cX rfl (rfl) (HNX.out) ?c2 ?c3 ?c4 ?_
                     case c1 => exact own_empty w54
                     case c2 => exact HRX.out.below ((Below.refl _ w54).alloc (Nat.le_refl _) _) (Nat.le_refl _)
                     case c3 => have := hqm.out; omega
                     case c4 => simp
                     intro vA wA hown hb
                     have HOA := Lib.hid hown
                     have HXA := Lib.hid hb
                     clear hown hb)
                  | (at_builtin
                     refine append_strs rfl _ _ rfl w54.heap.size vA (0 + qs.length) ([] ++ qs) [s] rfl ?c1 ((by simp)) (some ⟨wA.heap.size, 0, none⟩) 1 1 rfl (rfl) (fun h => by cases h) ?c2 ?c3 ?c4 ?_
                     case c1 => exact own_below HOA.out ((Below.refl _ wA).alloc (Nat.le_refl _) _) (Nat.le_refl _)
                     case c2 => exact one_reads wA s wA.heap.size rfl
                     case c3 => have := hqm.out; simp only [List.length_cons, List.length_nil]; omega
                     case c4 => have := HXA.out.size; simp only [World.size_alloc] at this ⊢; omega
                     intro vB wB hown hb
                     have HOB := Lib.hid hown
                     have HXB := Lib.hid hb
                     clear hown hb))
                have hoB : wB.ownsRow w54.heap.size 9 1 vB (qs ++ [s]).length (sv (qs ++ [s])) := by simpa using HOB.out
                obtain ⟨AB, cB, rfl, hrB, hcB, _⟩ := own_row (w0 := w54) hoB
                have hbB : Below w54.heap.size w54 wB := ((((Below.refl _ w54).alloc (Nat.le_refl _) _).trans HXA.out).alloc (by have := HXA.out.size; simp only [World.size_alloc] at this; omega) _).trans HXB.out
                have HB55 := Lib.hid (Bel.call HB54.out hbB)
                replace HRX := Lib.hid (HRX.out.below hbB (Nat.le_refl _))
                replace HRP := Lib.hid (HRP.out.below hbB (Nat.le_refl _))
                have HRB := Lib.hid hrB
                have HCB := Lib.hid hcB
                have HRT2 : Hid (∀ w', SReads w' AB (qs ++ [s]) → Calls Try.prog 13 #[.slice AB (qs ++ [s]).length cB] w' fun e w'' => Sr ([], 1) e ∧ Below w'.heap.size w' w'') := Lib.hid fun w' h => root_any_to (bad_root (s := s.data.toList) HLF.out (List.mem_map.2 ⟨s, by simp, rfl⟩)) rfl HCB.out (sz_snoc HQZ.out (by omega)) w' h
                clear hrB hcB hoB hbB HOA HOB HXA HXB
                with_reducible refine (HRT2.out _ HRB.out).mono ?_
                rintro e w56 ⟨⟨T2, hT2, rfl⟩, hb56⟩
                have HB56 := Lib.hid (Bel.call HB55.out hb56)
                replace HRX := Lib.hid (HRX.out.below hb56 (Nat.le_refl _))
                replace HRP := Lib.hid (HRP.out.below hb56 (Nat.le_refl _))
                replace HRB := Lib.hid (HRB.out.below hb56 (Nat.le_refl _))
                clear hb56
                obtain rfl : T2 = ⟨#[]⟩ := str_eq hT2
                clear hT2
                dsimp only
                clear HRB HRT2 HCB
                go_wp2_with (first
                  | (at_builtin
                     refine append_strs rfl _ _ rfl w56.heap.size (.slice (some ⟨w56.heap.size, 0, none⟩) 1 1) 1 [s] qs rfl ?c1 (rfl) AX qs.length cX rfl (rfl) (HNX.out) ?c2 ?c3 ?c4 ?_
                     case c1 => exact own_lit w56 [s] 1 rfl (by decide)
                     case c2 => exact HRX.out.below ((Below.refl _ w56).alloc (Nat.le_refl _) _) (Nat.le_refl _)
                     case c3 => have := hqm.out; omega
                     case c4 => simp
                     intro vC wC hown hb
                     have HOC := Lib.hid hown
                     have HXC := Lib.hid hb
                     clear hown hb))
                have hoC : wC.ownsRow w56.heap.size 9 1 vC (s :: qs).length (sv (s :: qs)) := by have := HOC.out; rwa [show 1 + qs.length = (s :: qs).length by simp; omega] at this
                obtain ⟨AC, cC, rfl, hrC, hcC, _⟩ := own_row (w0 := w56) hoC
                have hbC : Below w56.heap.size w56 wC := ((Below.refl _ w56).alloc (Nat.le_refl _) _).trans HXC.out
                have HB57 := Lib.hid (Bel.call HB56.out hbC)
                replace HRX := Lib.hid (HRX.out.below hbC (Nat.le_refl _))
                replace HRP := Lib.hid (HRP.out.below hbC (Nat.le_refl _))
                have HRC := Lib.hid hrC
                have HCC := Lib.hid hcC
                have HPC2 : Hid (∀ w', SReads w' AC (s :: qs) → Calls Try.prog 15 #[.slice AC (s :: qs).length cC, .int .i64 0] w' fun e w'' => Pb w' w'' ([], 1) e ∧ Below w'.heap.size w' w'') := Lib.hid fun w' h => proof_any_to (bad_proof (bad_root (s := s.data.toList) HLF.out (List.mem_map.2 ⟨s, by simp, rfl⟩))) rfl HCC.out (sz_cons HQZ.out (by omega)) w' h
                clear hrC hcC hoC hbC HOC HXC
                with_reducible refine (HPC2.out _ HRC.out).mono ?_
                rintro e w58 ⟨hx, hb58⟩
                have HB58 := Lib.hid (Bel.call HB57.out hb58)
                replace HRX := Lib.hid (HRX.out.below hb58 (Nat.le_refl _))
                replace HRP := Lib.hid (HRP.out.below hb58 (Nat.le_refl _))
                replace HRC := Lib.hid (HRC.out.below hb58 (Nat.le_refl _))
                clear hb58
                obtain ⟨AQ, cQ, YQ, hq, _, _, _, rfl⟩ := pb_row hx
                obtain rfl : YQ = [] := List.eq_nil_of_length_eq_zero (bl_length hq)
                clear hx hq
                dsimp only
                clear HRC HPC2 HCC
                go_wp2_with fail
                obtain ⟨K2, hK2⟩ : ∃ K2, (⟨#[104]⟩ : ByteArray) ++ s = K2 := ⟨_, rfl⟩
                have HVE : Hid (∀ w', Calls Try.prog 18 #[.string K2, .int .i64 1, .int .i64 0, .string s, .slice none 0 0] w' fun e w'' => e = .returned (.bool false) ∧ Below w'.heap.size w' w'') := Lib.hid fun w' => by
                  have h := cverify_any K2 1 0 s none 0 [] w' (SReads.nil _ _) (Nat.le_refl _) (by omega) (fun y hy => absurd hy (List.not_mem_nil)) (by omega) (by rw [Lib.size_eq, ← hK2, app_data, List.length_append, ← Lib.size_eq, ← Lib.size_eq]; have : (⟨#[104]⟩ : ByteArray).size = 1 := rfl; omega)
                  rw [ver_bad HLF.out] at h
                  exact h
                rw [hK2]
                clear hK2
                with_reducible refine (HVE.out _).mono ?_
                rintro e w59 ⟨rfl, hb59⟩
                have HB59 := Lib.hid (Bel.call HB58.out hb59)
                replace HRX := Lib.hid (HRX.out.below hb59 (Nat.le_refl _))
                replace HRP := Lib.hid (HRP.out.below hb59 (Nat.le_refl _))
                clear hb59
                dsimp only
                go_wp2
                go_ret
                exact ⟨rfl, HB59.out⟩
              · have H1 := Lib.hid h1
                have H2 := Lib.hid h2
                have H3 := Lib.hid h3
                have H4 := Lib.hid h4
                clear h1 h2 h3 h4
                go_wp2_with fail
                with_reducible refine (H1.out _).mono ?_
                rintro e w53 ⟨⟨AT, cT, YT, hq, hc, hr, rfl⟩, hb53⟩
                have HB53 := Lib.hid (Bel.call HB52.out hb53)
                replace HRX := Lib.hid (HRX.out.below hb53 (Nat.le_refl _))
                replace HRP := Lib.hid (HRP.out.below hb53 (Nat.le_refl _))
                clear hb53
                obtain ⟨PA, PB, rfl, hPA, hPB⟩ := bl_two hq
                obtain ⟨g2, o2, rfl, hg2, l0, l1⟩ := two_reads hr
                have HRT2 := Lib.hid hr
                have HPA := Lib.hid hPA
                have HPB := Lib.hid hPB
                clear hq hc hr hg2 l0 l1 hPA hPB
                dsimp only
                go_wp2_with fail
                with_reducible refine (H2.out _).mono ?_
                rintro e w54 ⟨rfl, hb54⟩
                have HB54 := Lib.hid (Bel.call HB53.out hb54)
                replace HRX := Lib.hid (HRX.out.below hb54 (Nat.le_refl _))
                replace HRP := Lib.hid (HRP.out.below hb54 (Nat.le_refl _))
                replace HRT2 := Lib.hid (HRT2.out.below hb54 (Nat.le_refl _))
                clear hb54
                dsimp only
                obtain ⟨l0, l1⟩ := two_cells HRT2.out
                go_wp2_with fail
                with_reducible refine (H3.out PA _ HPA.out).mono ?_
                rintro e w55 ⟨rfl, hb55⟩
                have HB55 := Lib.hid (Bel.call HB54.out hb55)
                replace HRX := Lib.hid (HRX.out.below hb55 (Nat.le_refl _))
                replace HRP := Lib.hid (HRP.out.below hb55 (Nat.le_refl _))
                replace HRT2 := Lib.hid (HRT2.out.below hb55 (Nat.le_refl _))
                clear hb55
                dsimp only
                clear l0 l1
                obtain ⟨l0, l1⟩ := two_cells HRT2.out
                by_cases ea : ka = 116
                · have qa2 : ((ka : Int) == 116) = true := by rw [beq_iff_eq]; omega
                  go_wp2_with fail
                  with_reducible refine (H4.out PB _ HPB.out).mono ?_
                  rintro e w56 ⟨rfl, hb56⟩
                  have HB56 := Lib.hid (Bel.call HB55.out hb56)
                  replace HRX := Lib.hid (HRX.out.below hb56 (Nat.le_refl _))
                  replace HRP := Lib.hid (HRP.out.below hb56 (Nat.le_refl _))
                  replace HRT2 := Lib.hid (HRT2.out.below hb56 (Nat.le_refl _))
                  clear hb56
                  dsimp only
                  clear l0 l1
                  by_cases eb : kb = 97
                  · have qb2 : ((kb : Int) == 97) = true := by rw [beq_iff_eq]; omega
                    clear hlf
                    go_wp2
                    go_ret
                    exact ⟨rfl, HB56.out⟩
                  · have qb2 : ((kb : Int) == 97) = false := by rw [beq_eq_false_iff_ne]; omega
                    have HLF : Hid (isLeaf s.data.toList = false) := Lib.hid (by rw [hlf, decide_eq_false eb, Bool.and_false])
                    clear hlf eb HRT2
                    go_wp2_with (first
                      | (at_builtin
                         refine append_strs rfl _ _ rfl w56.heap.size (.slice (some ⟨w56.heap.size, 0, none⟩) 0 0) 0 [] qs rfl ?c1 (rfl) AX qs.length cX rfl (rfl) (HNX.out) ?c2 ?c3 ?c4 ?_
                         case c1 => exact own_empty w56
                         case c2 => exact HRX.out.below ((Below.refl _ w56).alloc (Nat.le_refl _) _) (Nat.le_refl _)
                         case c3 => have := hqm.out; omega
                         case c4 => simp
                         intro vA wA hown hb
                         have HOA := Lib.hid hown
                         have HXA := Lib.hid hb
                         clear hown hb)
                      | (at_builtin
                         refine append_strs rfl _ _ rfl w56.heap.size vA (0 + qs.length) ([] ++ qs) [s] rfl ?c1 ((by simp)) (some ⟨wA.heap.size, 0, none⟩) 1 1 rfl (rfl) (fun h => by cases h) ?c2 ?c3 ?c4 ?_
                         case c1 => exact own_below HOA.out ((Below.refl _ wA).alloc (Nat.le_refl _) _) (Nat.le_refl _)
                         case c2 => exact one_reads wA s wA.heap.size rfl
                         case c3 => have := hqm.out; simp only [List.length_cons, List.length_nil]; omega
                         case c4 => have := HXA.out.size; simp only [World.size_alloc] at this ⊢; omega
                         intro vB wB hown hb
                         have HOB := Lib.hid hown
                         have HXB := Lib.hid hb
                         clear hown hb))
                    have hoB : wB.ownsRow w56.heap.size 9 1 vB (qs ++ [s]).length (sv (qs ++ [s])) := by simpa using HOB.out
                    obtain ⟨AB, cB, rfl, hrB, hcB, _⟩ := own_row (w0 := w56) hoB
                    have hbB : Below w56.heap.size w56 wB := ((((Below.refl _ w56).alloc (Nat.le_refl _) _).trans HXA.out).alloc (by have := HXA.out.size; simp only [World.size_alloc] at this; omega) _).trans HXB.out
                    have HB57 := Lib.hid (Bel.call HB56.out hbB)
                    replace HRX := Lib.hid (HRX.out.below hbB (Nat.le_refl _))
                    replace HRP := Lib.hid (HRP.out.below hbB (Nat.le_refl _))
                    have HRB := Lib.hid hrB
                    have HCB := Lib.hid hcB
                    have HRT2 : Hid (∀ w', SReads w' AB (qs ++ [s]) → Calls Try.prog 13 #[.slice AB (qs ++ [s]).length cB] w' fun e w'' => Sr ([], 1) e ∧ Below w'.heap.size w' w'') := Lib.hid fun w' h => root_any_to (bad_root (s := s.data.toList) HLF.out (List.mem_map.2 ⟨s, by simp, rfl⟩)) rfl HCB.out (sz_snoc HQZ.out (by omega)) w' h
                    clear hrB hcB hoB hbB HOA HOB HXA HXB
                    with_reducible refine (HRT2.out _ HRB.out).mono ?_
                    rintro e w58 ⟨⟨T2, hT2, rfl⟩, hb58⟩
                    have HB58 := Lib.hid (Bel.call HB57.out hb58)
                    replace HRX := Lib.hid (HRX.out.below hb58 (Nat.le_refl _))
                    replace HRP := Lib.hid (HRP.out.below hb58 (Nat.le_refl _))
                    replace HRB := Lib.hid (HRB.out.below hb58 (Nat.le_refl _))
                    clear hb58
                    obtain rfl : T2 = ⟨#[]⟩ := str_eq hT2
                    clear hT2
                    dsimp only
                    clear HRB HRT2 HCB
                    go_wp2_with (first
                      | (at_builtin
                         refine append_strs rfl _ _ rfl w58.heap.size (.slice (some ⟨w58.heap.size, 0, none⟩) 1 1) 1 [s] qs rfl ?c1 (rfl) AX qs.length cX rfl (rfl) (HNX.out) ?c2 ?c3 ?c4 ?_
                         case c1 => exact own_lit w58 [s] 1 rfl (by decide)
                         case c2 => exact HRX.out.below ((Below.refl _ w58).alloc (Nat.le_refl _) _) (Nat.le_refl _)
                         case c3 => have := hqm.out; omega
                         case c4 => simp
                         intro vC wC hown hb
                         have HOC := Lib.hid hown
                         have HXC := Lib.hid hb
                         clear hown hb))
                    have hoC : wC.ownsRow w58.heap.size 9 1 vC (s :: qs).length (sv (s :: qs)) := by have := HOC.out; rwa [show 1 + qs.length = (s :: qs).length by simp; omega] at this
                    obtain ⟨AC, cC, rfl, hrC, hcC, _⟩ := own_row (w0 := w58) hoC
                    have hbC : Below w58.heap.size w58 wC := ((Below.refl _ w58).alloc (Nat.le_refl _) _).trans HXC.out
                    have HB59 := Lib.hid (Bel.call HB58.out hbC)
                    replace HRX := Lib.hid (HRX.out.below hbC (Nat.le_refl _))
                    replace HRP := Lib.hid (HRP.out.below hbC (Nat.le_refl _))
                    have HRC := Lib.hid hrC
                    have HCC := Lib.hid hcC
                    have HPC2 : Hid (∀ w', SReads w' AC (s :: qs) → Calls Try.prog 15 #[.slice AC (s :: qs).length cC, .int .i64 0] w' fun e w'' => Pb w' w'' ([], 1) e ∧ Below w'.heap.size w' w'') := Lib.hid fun w' h => proof_any_to (bad_proof (bad_root (s := s.data.toList) HLF.out (List.mem_map.2 ⟨s, by simp, rfl⟩))) rfl HCC.out (sz_cons HQZ.out (by omega)) w' h
                    clear hrC hcC hoC hbC HOC HXC
                    with_reducible refine (HPC2.out _ HRC.out).mono ?_
                    rintro e w60 ⟨hx, hb60⟩
                    have HB60 := Lib.hid (Bel.call HB59.out hb60)
                    replace HRX := Lib.hid (HRX.out.below hb60 (Nat.le_refl _))
                    replace HRP := Lib.hid (HRP.out.below hb60 (Nat.le_refl _))
                    replace HRC := Lib.hid (HRC.out.below hb60 (Nat.le_refl _))
                    clear hb60
                    obtain ⟨AQ, cQ, YQ, hq, _, _, _, rfl⟩ := pb_row hx
                    obtain rfl : YQ = [] := List.eq_nil_of_length_eq_zero (bl_length hq)
                    clear hx hq
                    dsimp only
                    clear HRC HPC2 HCC
                    go_wp2_with fail
                    obtain ⟨K2, hK2⟩ : ∃ K2, (⟨#[104]⟩ : ByteArray) ++ s = K2 := ⟨_, rfl⟩
                    have HVE : Hid (∀ w', Calls Try.prog 18 #[.string K2, .int .i64 1, .int .i64 0, .string s, .slice none 0 0] w' fun e w'' => e = .returned (.bool false) ∧ Below w'.heap.size w' w'') := Lib.hid fun w' => by
                      have h := cverify_any K2 1 0 s none 0 [] w' (SReads.nil _ _) (Nat.le_refl _) (by omega) (fun y hy => absurd hy (List.not_mem_nil)) (by omega) (by rw [Lib.size_eq, ← hK2, app_data, List.length_append, ← Lib.size_eq, ← Lib.size_eq]; have : (⟨#[104]⟩ : ByteArray).size = 1 := rfl; omega)
                      rw [ver_bad HLF.out] at h
                      exact h
                    rw [hK2]
                    clear hK2
                    with_reducible refine (HVE.out _).mono ?_
                    rintro e w61 ⟨rfl, hb61⟩
                    have HB61 := Lib.hid (Bel.call HB60.out hb61)
                    replace HRX := Lib.hid (HRX.out.below hb61 (Nat.le_refl _))
                    replace HRP := Lib.hid (HRP.out.below hb61 (Nat.le_refl _))
                    clear hb61
                    dsimp only
                    go_wp2
                    go_ret
                    exact ⟨rfl, HB61.out⟩
                · clear l0 l1
                  have qa2 : ((ka : Int) == 116) = false := by rw [beq_eq_false_iff_ne]; omega
                  have HLF : Hid (isLeaf s.data.toList = false) := Lib.hid (by rw [hlf, decide_eq_false ea, Bool.false_and])
                  clear hlf ea HRT2
                  go_wp2_with (first
                    | (at_builtin
                       refine append_strs rfl _ _ rfl w55.heap.size (.slice (some ⟨w55.heap.size, 0, none⟩) 0 0) 0 [] qs rfl ?c1 (rfl) AX qs.length cX rfl (rfl) (HNX.out) ?c2 ?c3 ?c4 ?_
                       case c1 => exact own_empty w55
                       case c2 => exact HRX.out.below ((Below.refl _ w55).alloc (Nat.le_refl _) _) (Nat.le_refl _)
                       case c3 => have := hqm.out; omega
                       case c4 => simp
                       intro vA wA hown hb
                       have HOA := Lib.hid hown
                       have HXA := Lib.hid hb
                       clear hown hb)
                    | (at_builtin
                       refine append_strs rfl _ _ rfl w55.heap.size vA (0 + qs.length) ([] ++ qs) [s] rfl ?c1 ((by simp)) (some ⟨wA.heap.size, 0, none⟩) 1 1 rfl (rfl) (fun h => by cases h) ?c2 ?c3 ?c4 ?_
                       case c1 => exact own_below HOA.out ((Below.refl _ wA).alloc (Nat.le_refl _) _) (Nat.le_refl _)
                       case c2 => exact one_reads wA s wA.heap.size rfl
                       case c3 => have := hqm.out; simp only [List.length_cons, List.length_nil]; omega
                       case c4 => have := HXA.out.size; simp only [World.size_alloc] at this ⊢; omega
                       intro vB wB hown hb
                       have HOB := Lib.hid hown
                       have HXB := Lib.hid hb
                       clear hown hb))
                  have hoB : wB.ownsRow w55.heap.size 9 1 vB (qs ++ [s]).length (sv (qs ++ [s])) := by simpa using HOB.out
                  obtain ⟨AB, cB, rfl, hrB, hcB, _⟩ := own_row (w0 := w55) hoB
                  have hbB : Below w55.heap.size w55 wB := ((((Below.refl _ w55).alloc (Nat.le_refl _) _).trans HXA.out).alloc (by have := HXA.out.size; simp only [World.size_alloc] at this; omega) _).trans HXB.out
                  have HB56 := Lib.hid (Bel.call HB55.out hbB)
                  replace HRX := Lib.hid (HRX.out.below hbB (Nat.le_refl _))
                  replace HRP := Lib.hid (HRP.out.below hbB (Nat.le_refl _))
                  have HRB := Lib.hid hrB
                  have HCB := Lib.hid hcB
                  have HRT2 : Hid (∀ w', SReads w' AB (qs ++ [s]) → Calls Try.prog 13 #[.slice AB (qs ++ [s]).length cB] w' fun e w'' => Sr ([], 1) e ∧ Below w'.heap.size w' w'') := Lib.hid fun w' h => root_any_to (bad_root (s := s.data.toList) HLF.out (List.mem_map.2 ⟨s, by simp, rfl⟩)) rfl HCB.out (sz_snoc HQZ.out (by omega)) w' h
                  clear hrB hcB hoB hbB HOA HOB HXA HXB
                  with_reducible refine (HRT2.out _ HRB.out).mono ?_
                  rintro e w57 ⟨⟨T2, hT2, rfl⟩, hb57⟩
                  have HB57 := Lib.hid (Bel.call HB56.out hb57)
                  replace HRX := Lib.hid (HRX.out.below hb57 (Nat.le_refl _))
                  replace HRP := Lib.hid (HRP.out.below hb57 (Nat.le_refl _))
                  replace HRB := Lib.hid (HRB.out.below hb57 (Nat.le_refl _))
                  clear hb57
                  obtain rfl : T2 = ⟨#[]⟩ := str_eq hT2
                  clear hT2
                  dsimp only
                  clear HRB HRT2 HCB
                  go_wp2_with (first
                    | (at_builtin
                       refine append_strs rfl _ _ rfl w57.heap.size (.slice (some ⟨w57.heap.size, 0, none⟩) 1 1) 1 [s] qs rfl ?c1 (rfl) AX qs.length cX rfl (rfl) (HNX.out) ?c2 ?c3 ?c4 ?_
                       case c1 => exact own_lit w57 [s] 1 rfl (by decide)
                       case c2 => exact HRX.out.below ((Below.refl _ w57).alloc (Nat.le_refl _) _) (Nat.le_refl _)
                       case c3 => have := hqm.out; omega
                       case c4 => simp
                       intro vC wC hown hb
                       have HOC := Lib.hid hown
                       have HXC := Lib.hid hb
                       clear hown hb))
                  have hoC : wC.ownsRow w57.heap.size 9 1 vC (s :: qs).length (sv (s :: qs)) := by have := HOC.out; rwa [show 1 + qs.length = (s :: qs).length by simp; omega] at this
                  obtain ⟨AC, cC, rfl, hrC, hcC, _⟩ := own_row (w0 := w57) hoC
                  have hbC : Below w57.heap.size w57 wC := ((Below.refl _ w57).alloc (Nat.le_refl _) _).trans HXC.out
                  have HB58 := Lib.hid (Bel.call HB57.out hbC)
                  replace HRX := Lib.hid (HRX.out.below hbC (Nat.le_refl _))
                  replace HRP := Lib.hid (HRP.out.below hbC (Nat.le_refl _))
                  have HRC := Lib.hid hrC
                  have HCC := Lib.hid hcC
                  have HPC2 : Hid (∀ w', SReads w' AC (s :: qs) → Calls Try.prog 15 #[.slice AC (s :: qs).length cC, .int .i64 0] w' fun e w'' => Pb w' w'' ([], 1) e ∧ Below w'.heap.size w' w'') := Lib.hid fun w' h => proof_any_to (bad_proof (bad_root (s := s.data.toList) HLF.out (List.mem_map.2 ⟨s, by simp, rfl⟩))) rfl HCC.out (sz_cons HQZ.out (by omega)) w' h
                  clear hrC hcC hoC hbC HOC HXC
                  with_reducible refine (HPC2.out _ HRC.out).mono ?_
                  rintro e w59 ⟨hx, hb59⟩
                  have HB59 := Lib.hid (Bel.call HB58.out hb59)
                  replace HRX := Lib.hid (HRX.out.below hb59 (Nat.le_refl _))
                  replace HRP := Lib.hid (HRP.out.below hb59 (Nat.le_refl _))
                  replace HRC := Lib.hid (HRC.out.below hb59 (Nat.le_refl _))
                  clear hb59
                  obtain ⟨AQ, cQ, YQ, hq, _, _, _, rfl⟩ := pb_row hx
                  obtain rfl : YQ = [] := List.eq_nil_of_length_eq_zero (bl_length hq)
                  clear hx hq
                  dsimp only
                  clear HRC HPC2 HCC
                  go_wp2_with fail
                  obtain ⟨K2, hK2⟩ : ∃ K2, (⟨#[104]⟩ : ByteArray) ++ s = K2 := ⟨_, rfl⟩
                  have HVE : Hid (∀ w', Calls Try.prog 18 #[.string K2, .int .i64 1, .int .i64 0, .string s, .slice none 0 0] w' fun e w'' => e = .returned (.bool false) ∧ Below w'.heap.size w' w'') := Lib.hid fun w' => by
                    have h := cverify_any K2 1 0 s none 0 [] w' (SReads.nil _ _) (Nat.le_refl _) (by omega) (fun y hy => absurd hy (List.not_mem_nil)) (by omega) (by rw [Lib.size_eq, ← hK2, app_data, List.length_append, ← Lib.size_eq, ← Lib.size_eq]; have : (⟨#[104]⟩ : ByteArray).size = 1 := rfl; omega)
                    rw [ver_bad HLF.out] at h
                    exact h
                  rw [hK2]
                  clear hK2
                  with_reducible refine (HVE.out _).mono ?_
                  rintro e w60 ⟨rfl, hb60⟩
                  have HB60 := Lib.hid (Bel.call HB59.out hb60)
                  replace HRX := Lib.hid (HRX.out.below hb60 (Nat.le_refl _))
                  replace HRP := Lib.hid (HRP.out.below hb60 (Nat.le_refl _))
                  clear hb60
                  dsimp only
                  go_wp2
                  go_ret
                  exact ⟨rfl, HB60.out⟩
            · obtain ⟨px, hproof⟩ : ∃ px, proofT xs at0 = (px, 0) := ⟨_, good_proof hroot (by omega)⟩
              clear hN
              have HRT : Hid (∀ w', SReads w' AX qs → Calls Try.prog 13 #[.slice AX qs.length cX] w' fun e w'' => Sr (rx, 0) e ∧ Below w'.heap.size w' w'') := Lib.hid fun w' h => root_any_to hroot hQx HCX.out hqz' w' h
              have HPC : Hid (∀ w', SReads w' AX qs → Calls Try.prog 15 #[.slice AX qs.length cX, .int .i64 at0] w' fun e w'' => Pb w' w'' (px, 0) e ∧ Below w'.heap.size w' w'') := Lib.hid fun w' h => proof_any_to hproof hQx HCX.out hqz' w' h
              have HQZ := Lib.hid hqz'
              clear hroot hproof hXl hqe hXs hlx hqz hqz' hQx
              have HB50 : Hid (Below w.heap.size w wr) := HBL
              go_wp2_with fail
              with_reducible refine (HRT.out _ HRX.out).mono ?_
              rintro e w51 ⟨⟨R, hR, rfl⟩, hb51⟩
              have HB51 := Lib.hid (Bel.call HB50.out hb51)
              replace HRX := Lib.hid (HRX.out.below hb51 (Nat.le_refl _))
              clear hb51
              try dsimp only at hR
              have HR := Lib.hid hR
              clear hR
              dsimp only
              go_wp2_with fail
              with_reducible refine (HPC.out _ HRX.out).mono ?_
              rintro e w52 ⟨hx, hb52⟩
              have HB52 := Lib.hid (Bel.call HB51.out hb52)
              replace HRX := Lib.hid (HRX.out.below hb52 (Nat.le_refl _))
              clear hb52
              obtain ⟨AP, cP, YP, hq, hc, hr, hb, rfl⟩ := pb_row hx
              have HQP := Lib.hid hq
              have HCP := Lib.hid hc
              have HRP := Lib.hid hr
              clear hx hq hc hr hb
              dsimp only
              rcases HLC.out with ⟨hlf, h1⟩ | ⟨hlf, ⟨P, h1⟩, k2, hk2, h2⟩ | ⟨p, q, ka, kb, hlf, h1, h2, h3, h4⟩
              · have H1 := Lib.hid h1
                have HLF := Lib.hid hlf
                clear h1 hlf
                go_wp2_with fail
                with_reducible refine (H1.out _).mono ?_
                rintro e w53 ⟨⟨AT, cT, YT, hq, hc, hr, rfl⟩, hb53⟩
                have HB53 := Lib.hid (Bel.call HB52.out hb53)
                replace HRX := Lib.hid (HRX.out.below hb53 (Nat.le_refl _))
                replace HRP := Lib.hid (HRP.out.below hb53 (Nat.le_refl _))
                clear hb53
                have HQT := Lib.hid hq
                have HRT := Lib.hid hr
                clear hq hc hr
                dsimp only
                go_wp2_with (first
                  | (at_builtin
                     refine append_strs rfl _ _ rfl w53.heap.size (.slice (some ⟨w53.heap.size, 0, none⟩) 0 0) 0 [] qs rfl ?c1 (rfl) AX qs.length cX rfl (rfl) (HNX.out) ?c2 ?c3 ?c4 ?_
                     case c1 => exact own_empty w53
                     case c2 => exact HRX.out.below ((Below.refl _ w53).alloc (Nat.le_refl _) _) (Nat.le_refl _)
                     case c3 => have := hqm.out; omega
                     case c4 => simp
                     intro vA wA hown hb
                     have HOA := Lib.hid hown
                     have HXA := Lib.hid hb
                     clear hown hb)
                  | (at_builtin
                     refine append_strs rfl _ _ rfl w53.heap.size vA (0 + qs.length) ([] ++ qs) [s] rfl ?c1 ((by simp)) (some ⟨wA.heap.size, 0, none⟩) 1 1 rfl (rfl) (fun h => by cases h) ?c2 ?c3 ?c4 ?_
                     case c1 => exact own_below HOA.out ((Below.refl _ wA).alloc (Nat.le_refl _) _) (Nat.le_refl _)
                     case c2 => exact one_reads wA s wA.heap.size rfl
                     case c3 => have := hqm.out; simp only [List.length_cons, List.length_nil]; omega
                     case c4 => have := HXA.out.size; simp only [World.size_alloc] at this ⊢; omega
                     intro vB wB hown hb
                     have HOB := Lib.hid hown
                     have HXB := Lib.hid hb
                     clear hown hb))
                have hoB : wB.ownsRow w53.heap.size 9 1 vB (qs ++ [s]).length (sv (qs ++ [s])) := by simpa using HOB.out
                obtain ⟨AB, cB, rfl, hrB, hcB, _⟩ := own_row (w0 := w53) hoB
                have hbB : Below w53.heap.size w53 wB := ((((Below.refl _ w53).alloc (Nat.le_refl _) _).trans HXA.out).alloc (by have := HXA.out.size; simp only [World.size_alloc] at this; omega) _).trans HXB.out
                have HB54 := Lib.hid (Bel.call HB53.out hbB)
                replace HRX := Lib.hid (HRX.out.below hbB (Nat.le_refl _))
                replace HRP := Lib.hid (HRP.out.below hbB (Nat.le_refl _))
                have HRB := Lib.hid hrB
                have HCB := Lib.hid hcB
                have HRT2 : Hid (∀ w', SReads w' AB (qs ++ [s]) → Calls Try.prog 13 #[.slice AB (qs ++ [s]).length cB] w' fun e w'' => Sr ([], 1) e ∧ Below w'.heap.size w' w'') := Lib.hid fun w' h => root_any_to (bad_root (s := s.data.toList) HLF.out (List.mem_map.2 ⟨s, by simp, rfl⟩)) rfl HCB.out (sz_snoc HQZ.out (by omega)) w' h
                clear hrB hcB hoB hbB HOA HOB HXA HXB
                with_reducible refine (HRT2.out _ HRB.out).mono ?_
                rintro e w55 ⟨⟨T2, hT2, rfl⟩, hb55⟩
                have HB55 := Lib.hid (Bel.call HB54.out hb55)
                replace HRX := Lib.hid (HRX.out.below hb55 (Nat.le_refl _))
                replace HRP := Lib.hid (HRP.out.below hb55 (Nat.le_refl _))
                replace HRB := Lib.hid (HRB.out.below hb55 (Nat.le_refl _))
                clear hb55
                obtain rfl : T2 = ⟨#[]⟩ := str_eq hT2
                clear hT2
                dsimp only
                clear HRB HRT2 HCB
                go_wp2_with (first
                  | (at_builtin
                     refine append_strs rfl _ _ rfl w55.heap.size (.slice (some ⟨w55.heap.size, 0, none⟩) 1 1) 1 [s] qs rfl ?c1 (rfl) AX qs.length cX rfl (rfl) (HNX.out) ?c2 ?c3 ?c4 ?_
                     case c1 => exact own_lit w55 [s] 1 rfl (by decide)
                     case c2 => exact HRX.out.below ((Below.refl _ w55).alloc (Nat.le_refl _) _) (Nat.le_refl _)
                     case c3 => have := hqm.out; omega
                     case c4 => simp
                     intro vC wC hown hb
                     have HOC := Lib.hid hown
                     have HXC := Lib.hid hb
                     clear hown hb))
                have hoC : wC.ownsRow w55.heap.size 9 1 vC (s :: qs).length (sv (s :: qs)) := by have := HOC.out; rwa [show 1 + qs.length = (s :: qs).length by simp; omega] at this
                obtain ⟨AC, cC, rfl, hrC, hcC, _⟩ := own_row (w0 := w55) hoC
                have hbC : Below w55.heap.size w55 wC := ((Below.refl _ w55).alloc (Nat.le_refl _) _).trans HXC.out
                have HB56 := Lib.hid (Bel.call HB55.out hbC)
                replace HRX := Lib.hid (HRX.out.below hbC (Nat.le_refl _))
                replace HRP := Lib.hid (HRP.out.below hbC (Nat.le_refl _))
                have HRC := Lib.hid hrC
                have HCC := Lib.hid hcC
                have HPC2 : Hid (∀ w', SReads w' AC (s :: qs) → Calls Try.prog 15 #[.slice AC (s :: qs).length cC, .int .i64 0] w' fun e w'' => Pb w' w'' ([], 1) e ∧ Below w'.heap.size w' w'') := Lib.hid fun w' h => proof_any_to (bad_proof (bad_root (s := s.data.toList) HLF.out (List.mem_map.2 ⟨s, by simp, rfl⟩))) rfl HCC.out (sz_cons HQZ.out (by omega)) w' h
                clear hrC hcC hoC hbC HOC HXC
                with_reducible refine (HPC2.out _ HRC.out).mono ?_
                rintro e w57 ⟨hx, hb57⟩
                have HB57 := Lib.hid (Bel.call HB56.out hb57)
                replace HRX := Lib.hid (HRX.out.below hb57 (Nat.le_refl _))
                replace HRP := Lib.hid (HRP.out.below hb57 (Nat.le_refl _))
                replace HRC := Lib.hid (HRC.out.below hb57 (Nat.le_refl _))
                clear hb57
                obtain ⟨AQ, cQ, YQ, hq, _, _, _, rfl⟩ := pb_row hx
                obtain rfl : YQ = [] := List.eq_nil_of_length_eq_zero (bl_length hq)
                clear hx hq
                dsimp only
                clear HRC HPC2 HCC
                go_wp2_with fail
                obtain ⟨K2, hK2⟩ : ∃ K2, (⟨#[104]⟩ : ByteArray) ++ s = K2 := ⟨_, rfl⟩
                have HVE : Hid (∀ w', Calls Try.prog 18 #[.string K2, .int .i64 1, .int .i64 0, .string s, .slice none 0 0] w' fun e w'' => e = .returned (.bool false) ∧ Below w'.heap.size w' w'') := Lib.hid fun w' => by
                  have h := cverify_any K2 1 0 s none 0 [] w' (SReads.nil _ _) (Nat.le_refl _) (by omega) (fun y hy => absurd hy (List.not_mem_nil)) (by omega) (by rw [Lib.size_eq, ← hK2, app_data, List.length_append, ← Lib.size_eq, ← Lib.size_eq]; have : (⟨#[104]⟩ : ByteArray).size = 1 := rfl; omega)
                  rw [ver_bad HLF.out] at h
                  exact h
                rw [hK2]
                clear hK2
                with_reducible refine (HVE.out _).mono ?_
                rintro e w58 ⟨rfl, hb58⟩
                have HB58 := Lib.hid (Bel.call HB57.out hb58)
                replace HRX := Lib.hid (HRX.out.below hb58 (Nat.le_refl _))
                replace HRP := Lib.hid (HRP.out.below hb58 (Nat.le_refl _))
                clear hb58
                dsimp only
                go_wp2
                go_ret
                exact ⟨rfl, HB58.out⟩
              · have H1 := Lib.hid h1
                have H2 := Lib.hid h2
                have HLF := Lib.hid hlf
                have qk : ((k2 : Int) == 112) = false := by rw [beq_eq_false_iff_ne]; omega
                clear h1 h2 hlf hk2
                go_wp2_with fail
                with_reducible refine (H1.out _).mono ?_
                rintro e w53 ⟨⟨AT, cT, YT, hq, hc, hr, rfl⟩, hb53⟩
                have HB53 := Lib.hid (Bel.call HB52.out hb53)
                replace HRX := Lib.hid (HRX.out.below hb53 (Nat.le_refl _))
                replace HRP := Lib.hid (HRP.out.below hb53 (Nat.le_refl _))
                clear hb53
                have HQT := Lib.hid hq
                have HRT := Lib.hid hr
                clear hq hc hr
                dsimp only
                go_wp2_with fail
                with_reducible refine (H2.out _).mono ?_
                rintro e w54 ⟨rfl, hb54⟩
                have HB54 := Lib.hid (Bel.call HB53.out hb54)
                replace HRX := Lib.hid (HRX.out.below hb54 (Nat.le_refl _))
                replace HRP := Lib.hid (HRP.out.below hb54 (Nat.le_refl _))
                clear hb54
                dsimp only
                go_wp2_with (first
                  | (at_builtin
                     refine append_strs rfl _ _ rfl w54.heap.size (.slice (some ⟨w54.heap.size, 0, none⟩) 0 0) 0 [] qs rfl ?c1 (rfl) AX qs.length cX rfl (rfl) (HNX.out) ?c2 ?c3 ?c4 ?_
                     case c1 => exact own_empty w54
                     case c2 => exact HRX.out.below ((Below.refl _ w54).alloc (Nat.le_refl _) _) (Nat.le_refl _)
                     case c3 => have := hqm.out; omega
                     case c4 => simp
                     intro vA wA hown hb
                     have HOA := Lib.hid hown
                     have HXA := Lib.hid hb
                     clear hown hb)
                  | (at_builtin
                     refine append_strs rfl _ _ rfl w54.heap.size vA (0 + qs.length) ([] ++ qs) [s] rfl ?c1 ((by simp)) (some ⟨wA.heap.size, 0, none⟩) 1 1 rfl (rfl) (fun h => by cases h) ?c2 ?c3 ?c4 ?_
                     case c1 => exact own_below HOA.out ((Below.refl _ wA).alloc (Nat.le_refl _) _) (Nat.le_refl _)
                     case c2 => exact one_reads wA s wA.heap.size rfl
                     case c3 => have := hqm.out; simp only [List.length_cons, List.length_nil]; omega
                     case c4 => have := HXA.out.size; simp only [World.size_alloc] at this ⊢; omega
                     intro vB wB hown hb
                     have HOB := Lib.hid hown
                     have HXB := Lib.hid hb
                     clear hown hb))
                have hoB : wB.ownsRow w54.heap.size 9 1 vB (qs ++ [s]).length (sv (qs ++ [s])) := by simpa using HOB.out
                obtain ⟨AB, cB, rfl, hrB, hcB, _⟩ := own_row (w0 := w54) hoB
                have hbB : Below w54.heap.size w54 wB := ((((Below.refl _ w54).alloc (Nat.le_refl _) _).trans HXA.out).alloc (by have := HXA.out.size; simp only [World.size_alloc] at this; omega) _).trans HXB.out
                have HB55 := Lib.hid (Bel.call HB54.out hbB)
                replace HRX := Lib.hid (HRX.out.below hbB (Nat.le_refl _))
                replace HRP := Lib.hid (HRP.out.below hbB (Nat.le_refl _))
                have HRB := Lib.hid hrB
                have HCB := Lib.hid hcB
                have HRT2 : Hid (∀ w', SReads w' AB (qs ++ [s]) → Calls Try.prog 13 #[.slice AB (qs ++ [s]).length cB] w' fun e w'' => Sr ([], 1) e ∧ Below w'.heap.size w' w'') := Lib.hid fun w' h => root_any_to (bad_root (s := s.data.toList) HLF.out (List.mem_map.2 ⟨s, by simp, rfl⟩)) rfl HCB.out (sz_snoc HQZ.out (by omega)) w' h
                clear hrB hcB hoB hbB HOA HOB HXA HXB
                with_reducible refine (HRT2.out _ HRB.out).mono ?_
                rintro e w56 ⟨⟨T2, hT2, rfl⟩, hb56⟩
                have HB56 := Lib.hid (Bel.call HB55.out hb56)
                replace HRX := Lib.hid (HRX.out.below hb56 (Nat.le_refl _))
                replace HRP := Lib.hid (HRP.out.below hb56 (Nat.le_refl _))
                replace HRB := Lib.hid (HRB.out.below hb56 (Nat.le_refl _))
                clear hb56
                obtain rfl : T2 = ⟨#[]⟩ := str_eq hT2
                clear hT2
                dsimp only
                clear HRB HRT2 HCB
                go_wp2_with (first
                  | (at_builtin
                     refine append_strs rfl _ _ rfl w56.heap.size (.slice (some ⟨w56.heap.size, 0, none⟩) 1 1) 1 [s] qs rfl ?c1 (rfl) AX qs.length cX rfl (rfl) (HNX.out) ?c2 ?c3 ?c4 ?_
                     case c1 => exact own_lit w56 [s] 1 rfl (by decide)
                     case c2 => exact HRX.out.below ((Below.refl _ w56).alloc (Nat.le_refl _) _) (Nat.le_refl _)
                     case c3 => have := hqm.out; omega
                     case c4 => simp
                     intro vC wC hown hb
                     have HOC := Lib.hid hown
                     have HXC := Lib.hid hb
                     clear hown hb))
                have hoC : wC.ownsRow w56.heap.size 9 1 vC (s :: qs).length (sv (s :: qs)) := by have := HOC.out; rwa [show 1 + qs.length = (s :: qs).length by simp; omega] at this
                obtain ⟨AC, cC, rfl, hrC, hcC, _⟩ := own_row (w0 := w56) hoC
                have hbC : Below w56.heap.size w56 wC := ((Below.refl _ w56).alloc (Nat.le_refl _) _).trans HXC.out
                have HB57 := Lib.hid (Bel.call HB56.out hbC)
                replace HRX := Lib.hid (HRX.out.below hbC (Nat.le_refl _))
                replace HRP := Lib.hid (HRP.out.below hbC (Nat.le_refl _))
                have HRC := Lib.hid hrC
                have HCC := Lib.hid hcC
                have HPC2 : Hid (∀ w', SReads w' AC (s :: qs) → Calls Try.prog 15 #[.slice AC (s :: qs).length cC, .int .i64 0] w' fun e w'' => Pb w' w'' ([], 1) e ∧ Below w'.heap.size w' w'') := Lib.hid fun w' h => proof_any_to (bad_proof (bad_root (s := s.data.toList) HLF.out (List.mem_map.2 ⟨s, by simp, rfl⟩))) rfl HCC.out (sz_cons HQZ.out (by omega)) w' h
                clear hrC hcC hoC hbC HOC HXC
                with_reducible refine (HPC2.out _ HRC.out).mono ?_
                rintro e w58 ⟨hx, hb58⟩
                have HB58 := Lib.hid (Bel.call HB57.out hb58)
                replace HRX := Lib.hid (HRX.out.below hb58 (Nat.le_refl _))
                replace HRP := Lib.hid (HRP.out.below hb58 (Nat.le_refl _))
                replace HRC := Lib.hid (HRC.out.below hb58 (Nat.le_refl _))
                clear hb58
                obtain ⟨AQ, cQ, YQ, hq, _, _, _, rfl⟩ := pb_row hx
                obtain rfl : YQ = [] := List.eq_nil_of_length_eq_zero (bl_length hq)
                clear hx hq
                dsimp only
                clear HRC HPC2 HCC
                go_wp2_with fail
                obtain ⟨K2, hK2⟩ : ∃ K2, (⟨#[104]⟩ : ByteArray) ++ s = K2 := ⟨_, rfl⟩
                have HVE : Hid (∀ w', Calls Try.prog 18 #[.string K2, .int .i64 1, .int .i64 0, .string s, .slice none 0 0] w' fun e w'' => e = .returned (.bool false) ∧ Below w'.heap.size w' w'') := Lib.hid fun w' => by
                  have h := cverify_any K2 1 0 s none 0 [] w' (SReads.nil _ _) (Nat.le_refl _) (by omega) (fun y hy => absurd hy (List.not_mem_nil)) (by omega) (by rw [Lib.size_eq, ← hK2, app_data, List.length_append, ← Lib.size_eq, ← Lib.size_eq]; have : (⟨#[104]⟩ : ByteArray).size = 1 := rfl; omega)
                  rw [ver_bad HLF.out] at h
                  exact h
                rw [hK2]
                clear hK2
                with_reducible refine (HVE.out _).mono ?_
                rintro e w59 ⟨rfl, hb59⟩
                have HB59 := Lib.hid (Bel.call HB58.out hb59)
                replace HRX := Lib.hid (HRX.out.below hb59 (Nat.le_refl _))
                replace HRP := Lib.hid (HRP.out.below hb59 (Nat.le_refl _))
                clear hb59
                dsimp only
                go_wp2
                go_ret
                exact ⟨rfl, HB59.out⟩
              · have H1 := Lib.hid h1
                have H2 := Lib.hid h2
                have H3 := Lib.hid h3
                have H4 := Lib.hid h4
                clear h1 h2 h3 h4
                go_wp2_with fail
                with_reducible refine (H1.out _).mono ?_
                rintro e w53 ⟨⟨AT, cT, YT, hq, hc, hr, rfl⟩, hb53⟩
                have HB53 := Lib.hid (Bel.call HB52.out hb53)
                replace HRX := Lib.hid (HRX.out.below hb53 (Nat.le_refl _))
                replace HRP := Lib.hid (HRP.out.below hb53 (Nat.le_refl _))
                clear hb53
                obtain ⟨PA, PB, rfl, hPA, hPB⟩ := bl_two hq
                obtain ⟨g2, o2, rfl, hg2, l0, l1⟩ := two_reads hr
                have HRT2 := Lib.hid hr
                have HPA := Lib.hid hPA
                have HPB := Lib.hid hPB
                clear hq hc hr hg2 l0 l1 hPA hPB
                dsimp only
                go_wp2_with fail
                with_reducible refine (H2.out _).mono ?_
                rintro e w54 ⟨rfl, hb54⟩
                have HB54 := Lib.hid (Bel.call HB53.out hb54)
                replace HRX := Lib.hid (HRX.out.below hb54 (Nat.le_refl _))
                replace HRP := Lib.hid (HRP.out.below hb54 (Nat.le_refl _))
                replace HRT2 := Lib.hid (HRT2.out.below hb54 (Nat.le_refl _))
                clear hb54
                dsimp only
                obtain ⟨l0, l1⟩ := two_cells HRT2.out
                go_wp2_with fail
                with_reducible refine (H3.out PA _ HPA.out).mono ?_
                rintro e w55 ⟨rfl, hb55⟩
                have HB55 := Lib.hid (Bel.call HB54.out hb55)
                replace HRX := Lib.hid (HRX.out.below hb55 (Nat.le_refl _))
                replace HRP := Lib.hid (HRP.out.below hb55 (Nat.le_refl _))
                replace HRT2 := Lib.hid (HRT2.out.below hb55 (Nat.le_refl _))
                clear hb55
                dsimp only
                clear l0 l1
                obtain ⟨l0, l1⟩ := two_cells HRT2.out
                by_cases ea : ka = 116
                · have qa2 : ((ka : Int) == 116) = true := by rw [beq_iff_eq]; omega
                  go_wp2_with fail
                  with_reducible refine (H4.out PB _ HPB.out).mono ?_
                  rintro e w56 ⟨rfl, hb56⟩
                  have HB56 := Lib.hid (Bel.call HB55.out hb56)
                  replace HRX := Lib.hid (HRX.out.below hb56 (Nat.le_refl _))
                  replace HRP := Lib.hid (HRP.out.below hb56 (Nat.le_refl _))
                  replace HRT2 := Lib.hid (HRT2.out.below hb56 (Nat.le_refl _))
                  clear hb56
                  dsimp only
                  clear l0 l1
                  by_cases eb : kb = 97
                  · have qb2 : ((kb : Int) == 97) = true := by rw [beq_iff_eq]; omega
                    clear hlf
                    go_wp2
                    go_ret
                    exact ⟨rfl, HB56.out⟩
                  · have qb2 : ((kb : Int) == 97) = false := by rw [beq_eq_false_iff_ne]; omega
                    have HLF : Hid (isLeaf s.data.toList = false) := Lib.hid (by rw [hlf, decide_eq_false eb, Bool.and_false])
                    clear hlf eb HRT2
                    go_wp2_with (first
                      | (at_builtin
                         refine append_strs rfl _ _ rfl w56.heap.size (.slice (some ⟨w56.heap.size, 0, none⟩) 0 0) 0 [] qs rfl ?c1 (rfl) AX qs.length cX rfl (rfl) (HNX.out) ?c2 ?c3 ?c4 ?_
                         case c1 => exact own_empty w56
                         case c2 => exact HRX.out.below ((Below.refl _ w56).alloc (Nat.le_refl _) _) (Nat.le_refl _)
                         case c3 => have := hqm.out; omega
                         case c4 => simp
                         intro vA wA hown hb
                         have HOA := Lib.hid hown
                         have HXA := Lib.hid hb
                         clear hown hb)
                      | (at_builtin
                         refine append_strs rfl _ _ rfl w56.heap.size vA (0 + qs.length) ([] ++ qs) [s] rfl ?c1 ((by simp)) (some ⟨wA.heap.size, 0, none⟩) 1 1 rfl (rfl) (fun h => by cases h) ?c2 ?c3 ?c4 ?_
                         case c1 => exact own_below HOA.out ((Below.refl _ wA).alloc (Nat.le_refl _) _) (Nat.le_refl _)
                         case c2 => exact one_reads wA s wA.heap.size rfl
                         case c3 => have := hqm.out; simp only [List.length_cons, List.length_nil]; omega
                         case c4 => have := HXA.out.size; simp only [World.size_alloc] at this ⊢; omega
                         intro vB wB hown hb
                         have HOB := Lib.hid hown
                         have HXB := Lib.hid hb
                         clear hown hb))
                    have hoB : wB.ownsRow w56.heap.size 9 1 vB (qs ++ [s]).length (sv (qs ++ [s])) := by simpa using HOB.out
                    obtain ⟨AB, cB, rfl, hrB, hcB, _⟩ := own_row (w0 := w56) hoB
                    have hbB : Below w56.heap.size w56 wB := ((((Below.refl _ w56).alloc (Nat.le_refl _) _).trans HXA.out).alloc (by have := HXA.out.size; simp only [World.size_alloc] at this; omega) _).trans HXB.out
                    have HB57 := Lib.hid (Bel.call HB56.out hbB)
                    replace HRX := Lib.hid (HRX.out.below hbB (Nat.le_refl _))
                    replace HRP := Lib.hid (HRP.out.below hbB (Nat.le_refl _))
                    have HRB := Lib.hid hrB
                    have HCB := Lib.hid hcB
                    have HRT2 : Hid (∀ w', SReads w' AB (qs ++ [s]) → Calls Try.prog 13 #[.slice AB (qs ++ [s]).length cB] w' fun e w'' => Sr ([], 1) e ∧ Below w'.heap.size w' w'') := Lib.hid fun w' h => root_any_to (bad_root (s := s.data.toList) HLF.out (List.mem_map.2 ⟨s, by simp, rfl⟩)) rfl HCB.out (sz_snoc HQZ.out (by omega)) w' h
                    clear hrB hcB hoB hbB HOA HOB HXA HXB
                    with_reducible refine (HRT2.out _ HRB.out).mono ?_
                    rintro e w58 ⟨⟨T2, hT2, rfl⟩, hb58⟩
                    have HB58 := Lib.hid (Bel.call HB57.out hb58)
                    replace HRX := Lib.hid (HRX.out.below hb58 (Nat.le_refl _))
                    replace HRP := Lib.hid (HRP.out.below hb58 (Nat.le_refl _))
                    replace HRB := Lib.hid (HRB.out.below hb58 (Nat.le_refl _))
                    clear hb58
                    obtain rfl : T2 = ⟨#[]⟩ := str_eq hT2
                    clear hT2
                    dsimp only
                    clear HRB HRT2 HCB
                    go_wp2_with (first
                      | (at_builtin
                         refine append_strs rfl _ _ rfl w58.heap.size (.slice (some ⟨w58.heap.size, 0, none⟩) 1 1) 1 [s] qs rfl ?c1 (rfl) AX qs.length cX rfl (rfl) (HNX.out) ?c2 ?c3 ?c4 ?_
                         case c1 => exact own_lit w58 [s] 1 rfl (by decide)
                         case c2 => exact HRX.out.below ((Below.refl _ w58).alloc (Nat.le_refl _) _) (Nat.le_refl _)
                         case c3 => have := hqm.out; omega
                         case c4 => simp
                         intro vC wC hown hb
                         have HOC := Lib.hid hown
                         have HXC := Lib.hid hb
                         clear hown hb))
                    have hoC : wC.ownsRow w58.heap.size 9 1 vC (s :: qs).length (sv (s :: qs)) := by have := HOC.out; rwa [show 1 + qs.length = (s :: qs).length by simp; omega] at this
                    obtain ⟨AC, cC, rfl, hrC, hcC, _⟩ := own_row (w0 := w58) hoC
                    have hbC : Below w58.heap.size w58 wC := ((Below.refl _ w58).alloc (Nat.le_refl _) _).trans HXC.out
                    have HB59 := Lib.hid (Bel.call HB58.out hbC)
                    replace HRX := Lib.hid (HRX.out.below hbC (Nat.le_refl _))
                    replace HRP := Lib.hid (HRP.out.below hbC (Nat.le_refl _))
                    have HRC := Lib.hid hrC
                    have HCC := Lib.hid hcC
                    have HPC2 : Hid (∀ w', SReads w' AC (s :: qs) → Calls Try.prog 15 #[.slice AC (s :: qs).length cC, .int .i64 0] w' fun e w'' => Pb w' w'' ([], 1) e ∧ Below w'.heap.size w' w'') := Lib.hid fun w' h => proof_any_to (bad_proof (bad_root (s := s.data.toList) HLF.out (List.mem_map.2 ⟨s, by simp, rfl⟩))) rfl HCC.out (sz_cons HQZ.out (by omega)) w' h
                    clear hrC hcC hoC hbC HOC HXC
                    with_reducible refine (HPC2.out _ HRC.out).mono ?_
                    rintro e w60 ⟨hx, hb60⟩
                    have HB60 := Lib.hid (Bel.call HB59.out hb60)
                    replace HRX := Lib.hid (HRX.out.below hb60 (Nat.le_refl _))
                    replace HRP := Lib.hid (HRP.out.below hb60 (Nat.le_refl _))
                    replace HRC := Lib.hid (HRC.out.below hb60 (Nat.le_refl _))
                    clear hb60
                    obtain ⟨AQ, cQ, YQ, hq, _, _, _, rfl⟩ := pb_row hx
                    obtain rfl : YQ = [] := List.eq_nil_of_length_eq_zero (bl_length hq)
                    clear hx hq
                    dsimp only
                    clear HRC HPC2 HCC
                    go_wp2_with fail
                    obtain ⟨K2, hK2⟩ : ∃ K2, (⟨#[104]⟩ : ByteArray) ++ s = K2 := ⟨_, rfl⟩
                    have HVE : Hid (∀ w', Calls Try.prog 18 #[.string K2, .int .i64 1, .int .i64 0, .string s, .slice none 0 0] w' fun e w'' => e = .returned (.bool false) ∧ Below w'.heap.size w' w'') := Lib.hid fun w' => by
                      have h := cverify_any K2 1 0 s none 0 [] w' (SReads.nil _ _) (Nat.le_refl _) (by omega) (fun y hy => absurd hy (List.not_mem_nil)) (by omega) (by rw [Lib.size_eq, ← hK2, app_data, List.length_append, ← Lib.size_eq, ← Lib.size_eq]; have : (⟨#[104]⟩ : ByteArray).size = 1 := rfl; omega)
                      rw [ver_bad HLF.out] at h
                      exact h
                    rw [hK2]
                    clear hK2
                    with_reducible refine (HVE.out _).mono ?_
                    rintro e w61 ⟨rfl, hb61⟩
                    have HB61 := Lib.hid (Bel.call HB60.out hb61)
                    replace HRX := Lib.hid (HRX.out.below hb61 (Nat.le_refl _))
                    replace HRP := Lib.hid (HRP.out.below hb61 (Nat.le_refl _))
                    clear hb61
                    dsimp only
                    go_wp2
                    go_ret
                    exact ⟨rfl, HB61.out⟩
                · clear l0 l1
                  have qa2 : ((ka : Int) == 116) = false := by rw [beq_eq_false_iff_ne]; omega
                  have HLF : Hid (isLeaf s.data.toList = false) := Lib.hid (by rw [hlf, decide_eq_false ea, Bool.false_and])
                  clear hlf ea HRT2
                  go_wp2_with (first
                    | (at_builtin
                       refine append_strs rfl _ _ rfl w55.heap.size (.slice (some ⟨w55.heap.size, 0, none⟩) 0 0) 0 [] qs rfl ?c1 (rfl) AX qs.length cX rfl (rfl) (HNX.out) ?c2 ?c3 ?c4 ?_
                       case c1 => exact own_empty w55
                       case c2 => exact HRX.out.below ((Below.refl _ w55).alloc (Nat.le_refl _) _) (Nat.le_refl _)
                       case c3 => have := hqm.out; omega
                       case c4 => simp
                       intro vA wA hown hb
                       have HOA := Lib.hid hown
                       have HXA := Lib.hid hb
                       clear hown hb)
                    | (at_builtin
                       refine append_strs rfl _ _ rfl w55.heap.size vA (0 + qs.length) ([] ++ qs) [s] rfl ?c1 ((by simp)) (some ⟨wA.heap.size, 0, none⟩) 1 1 rfl (rfl) (fun h => by cases h) ?c2 ?c3 ?c4 ?_
                       case c1 => exact own_below HOA.out ((Below.refl _ wA).alloc (Nat.le_refl _) _) (Nat.le_refl _)
                       case c2 => exact one_reads wA s wA.heap.size rfl
                       case c3 => have := hqm.out; simp only [List.length_cons, List.length_nil]; omega
                       case c4 => have := HXA.out.size; simp only [World.size_alloc] at this ⊢; omega
                       intro vB wB hown hb
                       have HOB := Lib.hid hown
                       have HXB := Lib.hid hb
                       clear hown hb))
                  have hoB : wB.ownsRow w55.heap.size 9 1 vB (qs ++ [s]).length (sv (qs ++ [s])) := by simpa using HOB.out
                  obtain ⟨AB, cB, rfl, hrB, hcB, _⟩ := own_row (w0 := w55) hoB
                  have hbB : Below w55.heap.size w55 wB := ((((Below.refl _ w55).alloc (Nat.le_refl _) _).trans HXA.out).alloc (by have := HXA.out.size; simp only [World.size_alloc] at this; omega) _).trans HXB.out
                  have HB56 := Lib.hid (Bel.call HB55.out hbB)
                  replace HRX := Lib.hid (HRX.out.below hbB (Nat.le_refl _))
                  replace HRP := Lib.hid (HRP.out.below hbB (Nat.le_refl _))
                  have HRB := Lib.hid hrB
                  have HCB := Lib.hid hcB
                  have HRT2 : Hid (∀ w', SReads w' AB (qs ++ [s]) → Calls Try.prog 13 #[.slice AB (qs ++ [s]).length cB] w' fun e w'' => Sr ([], 1) e ∧ Below w'.heap.size w' w'') := Lib.hid fun w' h => root_any_to (bad_root (s := s.data.toList) HLF.out (List.mem_map.2 ⟨s, by simp, rfl⟩)) rfl HCB.out (sz_snoc HQZ.out (by omega)) w' h
                  clear hrB hcB hoB hbB HOA HOB HXA HXB
                  with_reducible refine (HRT2.out _ HRB.out).mono ?_
                  rintro e w57 ⟨⟨T2, hT2, rfl⟩, hb57⟩
                  have HB57 := Lib.hid (Bel.call HB56.out hb57)
                  replace HRX := Lib.hid (HRX.out.below hb57 (Nat.le_refl _))
                  replace HRP := Lib.hid (HRP.out.below hb57 (Nat.le_refl _))
                  replace HRB := Lib.hid (HRB.out.below hb57 (Nat.le_refl _))
                  clear hb57
                  obtain rfl : T2 = ⟨#[]⟩ := str_eq hT2
                  clear hT2
                  dsimp only
                  clear HRB HRT2 HCB
                  go_wp2_with (first
                    | (at_builtin
                       refine append_strs rfl _ _ rfl w57.heap.size (.slice (some ⟨w57.heap.size, 0, none⟩) 1 1) 1 [s] qs rfl ?c1 (rfl) AX qs.length cX rfl (rfl) (HNX.out) ?c2 ?c3 ?c4 ?_
                       case c1 => exact own_lit w57 [s] 1 rfl (by decide)
                       case c2 => exact HRX.out.below ((Below.refl _ w57).alloc (Nat.le_refl _) _) (Nat.le_refl _)
                       case c3 => have := hqm.out; omega
                       case c4 => simp
                       intro vC wC hown hb
                       have HOC := Lib.hid hown
                       have HXC := Lib.hid hb
                       clear hown hb))
                  have hoC : wC.ownsRow w57.heap.size 9 1 vC (s :: qs).length (sv (s :: qs)) := by have := HOC.out; rwa [show 1 + qs.length = (s :: qs).length by simp; omega] at this
                  obtain ⟨AC, cC, rfl, hrC, hcC, _⟩ := own_row (w0 := w57) hoC
                  have hbC : Below w57.heap.size w57 wC := ((Below.refl _ w57).alloc (Nat.le_refl _) _).trans HXC.out
                  have HB58 := Lib.hid (Bel.call HB57.out hbC)
                  replace HRX := Lib.hid (HRX.out.below hbC (Nat.le_refl _))
                  replace HRP := Lib.hid (HRP.out.below hbC (Nat.le_refl _))
                  have HRC := Lib.hid hrC
                  have HCC := Lib.hid hcC
                  have HPC2 : Hid (∀ w', SReads w' AC (s :: qs) → Calls Try.prog 15 #[.slice AC (s :: qs).length cC, .int .i64 0] w' fun e w'' => Pb w' w'' ([], 1) e ∧ Below w'.heap.size w' w'') := Lib.hid fun w' h => proof_any_to (bad_proof (bad_root (s := s.data.toList) HLF.out (List.mem_map.2 ⟨s, by simp, rfl⟩))) rfl HCC.out (sz_cons HQZ.out (by omega)) w' h
                  clear hrC hcC hoC hbC HOC HXC
                  with_reducible refine (HPC2.out _ HRC.out).mono ?_
                  rintro e w59 ⟨hx, hb59⟩
                  have HB59 := Lib.hid (Bel.call HB58.out hb59)
                  replace HRX := Lib.hid (HRX.out.below hb59 (Nat.le_refl _))
                  replace HRP := Lib.hid (HRP.out.below hb59 (Nat.le_refl _))
                  replace HRC := Lib.hid (HRC.out.below hb59 (Nat.le_refl _))
                  clear hb59
                  obtain ⟨AQ, cQ, YQ, hq, _, _, _, rfl⟩ := pb_row hx
                  obtain rfl : YQ = [] := List.eq_nil_of_length_eq_zero (bl_length hq)
                  clear hx hq
                  dsimp only
                  clear HRC HPC2 HCC
                  go_wp2_with fail
                  obtain ⟨K2, hK2⟩ : ∃ K2, (⟨#[104]⟩ : ByteArray) ++ s = K2 := ⟨_, rfl⟩
                  have HVE : Hid (∀ w', Calls Try.prog 18 #[.string K2, .int .i64 1, .int .i64 0, .string s, .slice none 0 0] w' fun e w'' => e = .returned (.bool false) ∧ Below w'.heap.size w' w'') := Lib.hid fun w' => by
                    have h := cverify_any K2 1 0 s none 0 [] w' (SReads.nil _ _) (Nat.le_refl _) (by omega) (fun y hy => absurd hy (List.not_mem_nil)) (by omega) (by rw [Lib.size_eq, ← hK2, app_data, List.length_append, ← Lib.size_eq, ← Lib.size_eq]; have : (⟨#[104]⟩ : ByteArray).size = 1 := rfl; omega)
                    rw [ver_bad HLF.out] at h
                    exact h
                  rw [hK2]
                  clear hK2
                  with_reducible refine (HVE.out _).mono ?_
                  rintro e w60 ⟨rfl, hb60⟩
                  have HB60 := Lib.hid (Bel.call HB59.out hb60)
                  replace HRX := Lib.hid (HRX.out.below hb60 (Nat.le_refl _))
                  replace HRP := Lib.hid (HRP.out.below hb60 (Nat.le_refl _))
                  clear hb60
                  dsimp only
                  go_wp2
                  go_ret
                  exact ⟨rfl, HB60.out⟩
end Go.Proofs.Ytblgcpopcgnncaa.Tre
