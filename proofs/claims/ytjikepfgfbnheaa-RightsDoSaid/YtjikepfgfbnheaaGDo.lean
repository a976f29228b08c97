/-
  RightsDo's walk, over what package rights is held to. By an AI agent; no person has read it.
-/
import Derived.Test.YtjikepfgfbnheaaGTo
import Derived.Test.YtjikepfgfbnheaaOrd
namespace Go.Proofs.Ytjikepfgfbnheaa.Rig
open Go.RowKit Wire

set_option linter.unusedSimpArgs false
set_option maxHeartbeats 16000000 in
set_option maxRecDepth 1000000 in
theorem do_walk (RG : RightOK) (CO : CanOK) (NO : NewOK) (GO : GrantOK) (RO : RevokeOK) (a : Option Addr) (n c : Nat) (Z : Nat → Nat → Int) (w : World) (ha : Acts.AReads 2 w a n Z) :
    Calls Try.prog 4 #[.slice a n c] w fun e w' => e = .returned (.bool true) ∧ Below w.heap.size w w' := by
  have HSH := Lib.hid fun w => shown7_any NO GO CO w
  have HN := Lib.hid (new_to NO)
  have HA := Lib.hid ha
  clear ha
  go_enter Try.func4, Try.ntmps4
  go_wp2_with fail
  with_reducible refine (HSH.out _).mono ?_
  rintro e1 w1 ⟨rfl, hb1⟩
  have HB1 := Lib.hid hb1
  clear hb1
  dsimp only
  go_wp2_with fail
  with_reducible refine (HN.out _ _ gs_nil).mono ?_
  rintro e2 w2 ⟨⟨v2, hx2, rfl⟩, hb2⟩
  obtain ⟨o2, f2, p2, A2, n2, c2, B2, m2, d2, rfl, hp2, hn2, hm2, ho2, hf2, hx2⟩ := isX_lit hx2
  have HB2 := Lib.hid (Bel.call HB1.out hb2)
  have HX2 := Lib.hid hx2
  have HO2 := Lib.hid ho2
  have HF2 := Lib.hid hf2
  have HP2 := Lib.hid hp2
  have HN2 := Lib.hid hn2
  have HM2 := Lib.hid hm2
  clear hb2 hx2 ho2 hf2 hp2 hn2 hm2
  dsimp only at HX2 HO2 HF2 HP2 HN2 HM2 ⊢
  by_cases h60 : (60 : Int) < (n : Int)
  · have HBC := Lib.hid (Bel.call HB2.out (al w2 (.cells #[.string o2, .string f2, .int .i64 p2, .slice A2 n2 c2, .slice B2 m2 d2] 24)))
    go_wp2
    go_ret
    exact ⟨rfl, HBC.out⟩
  go_wp2_with fail
  obtain ⟨ga, hga⟩ : ∃ g, w2.heap.size = g := ⟨_, rfl⟩
  have HGA : Hid (w.heap.size ≤ ga) := by rw [← hga]; exact HB2.out.size
  have hh3 := hold_alloc (t := 24) HX2.out
  have hba3 := al w2 (.cells #[.string o2, .string f2, .int .i64 p2, .slice A2 n2 c2, .slice B2 m2 d2] 24)
  generalize w2.alloc (.cells #[.string o2, .string f2, .int .i64 p2, .slice A2 n2 c2, .slice B2 m2 d2] 24) = w3 at hh3 hba3 ⊢
  rw [hga] at hh3 ⊢
  have HHa := Lib.hid hh3
  have HB3 := Lib.hid (Bel.call HB2.out hba3)
  clear hh3 hba3 hga
  go_loopw [6] (fun i wr => ∃ (k : Nat) (r : Rt), k ≤ n ∧ i = .int .i64 (k : Int) ∧ Hid (Ann r ∧ Hold [ga] ga wr r ∧ Below w.heap.size w wr)) (fun i _ => n - (intOf i).toNat)
  case atStart => exact ⟨0, r0, Nat.zero_le _, rfl, Lib.hid ⟨ann0, HHa.out.shut, HB3.out⟩⟩
  case round =>
    clear HHa HB3
    obtain ⟨k, r, hk, rfl, HI⟩ := hrel
    obtain ⟨hann, hh0, hbw⟩ := HI.out
    have HBw := Lib.hid hbw
    have HAN := Lib.hid hann
    clear hann hbw HI
    obtain ⟨oa, fa, pa, Aa, na, ca, Ba, ma, da, hha, hpa, hna, hma, hoa, hfa⟩ := hh0
    have HHa := Lib.hid hha
    have HOa := Lib.hid hoa
    have HFa := Lib.hid hfa
    have HPa := Lib.hid hpa
    have HNa := Lib.hid hna
    have HMa := Lib.hid hma
    clear hha hpa hna hma hoa hfa
    by_cases hlt : (k : Int) < (n : Int)
    · obtain ⟨ba, offa, rfl, hba, hc⟩ := HA.out k (by omega)
      obtain ⟨hc0, hz0⟩ := hc 0 (by decide)
      obtain ⟨hc1, hz1⟩ := hc 1 (by decide)
      clear hc
      rw [Nat.add_zero] at hc0
      obtain ⟨z0, hz⟩ : ∃ z, Z k 0 = z := ⟨_, rfl⟩
      rw [hz] at hc0 hz0
      clear hz
      obtain ⟨z1, hz⟩ : ∃ z, Z k 1 = z := ⟨_, rfl⟩
      rw [hz] at hc1 hz1
      clear hz
      have hm3 := pk_lt z0 (n := 3) (by decide)
      have HPK : Hid (∀ w, Calls Try.prog 28 #[.int .i64 z0, .int .i64 3] w fun e w' => e = .returned (.int .i64 (pk z0 3 : Int)) ∧ w' = w) := fun w => pick7_any z0 3 w hz0 (by decide) (by decide)
      obtain ⟨m, hm⟩ : ∃ m, pk z0 3 = m := ⟨_, rfl⟩
      rw [hm] at HPK hm3
      clear hm
      obtain ⟨U, hU, hun, hus, _⟩ := who_to z1 hz1
      have HU := Lib.hid hU
      have HUN := Lib.hid hun
      have HUS := Lib.hid hus
      clear hU hun hus hz0 hz1
      have HC0 := Lib.hid hc0
      have HC1 := Lib.hid hc1
      clear hc0 hc1
      have hrr := HAN.out.1
      have hro := HAN.out.2.1
      have hlen : (na : Int) + (ma : Int) ≤ 5 := by have := hrr.2.2.2.1; rw [HNa.out, HMa.out]; omega
      have hpa0 : 0 ≤ pa := by rw [HPa.out]; exact hrr.2.2.1.1
      have hpa7 : pa ≤ 7 := by rw [HPa.out]; exact hrr.2.2.1.2
      have HRR := Lib.hid hrr
      have HRO := Lib.hid hro
      clear hrr hro
      have l1 := (HBw.out.cell (p := ⟨ba, offa + k * 2 + 1, none⟩) hba).trans HC1.out
      go_wp2_with fail
      clear l1
      with_reducible refine (HU.out _).mono ?_
      rintro e101 w101 ⟨rfl, hb101⟩
      have HB101 := Lib.hid (Bel.call HBw.out hb101)
      replace HHa := Lib.hid (HHa.out.call hb101)
      clear hb101
      dsimp only
      have l0 := (HB101.out.cell (p := ⟨ba, offa + k * 2, none⟩) hba).trans HC0.out
      go_wp2_with fail
      clear l0
      with_reducible refine (HPK.out _).mono ?_
      rintro e9 v9 ⟨rfl, h9⟩
      obtain rfl : w101 = v9 := h9.symm
      clear h9 HPK HU HC0 HC1
      dsimp only
      obtain hm | hm | hm : m = 0 ∨ m = 1 ∨ m = 2 := by omega
      · subst hm
        obtain ⟨s, e, hse, he⟩ := gr_out r U.data.toList false HRR.out HUN.out
        have HCO := Lib.hid (grant_to GO hse (few_right HRR.out) HUS.out)
        have HSE := Lib.hid hse
        have HE := Lib.hid he
        obtain ⟨bc, hbc⟩ : ∃ b, can r U.data.toList false = b := ⟨_, rfl⟩
        have HCAN := Lib.hid (can_to CO hbc (few_right HRR.out) HUS.out)
        have HBC := Lib.hid hbc
        clear hse he hbc
        have HXa := Lib.hid HHa.out.isX
        have HNaq : Hid (ga ≠ w101.heap.size) := Nat.ne_of_lt HHa.out.lt
        have HGq : Hid (w.heap.size ≤ w101.heap.size) := HB101.out.size
        obtain ⟨⟨ac0, ac1, ac2, ac3, ac4, _⟩, _, _⟩ := HHa.out
        have hna := HHa.out.new (ob := (.cells #[.string oa, .string fa, .int .i64 pa, .slice Aa na ca, .slice Ba ma da] 24))
        obtain ⟨⟨ad0, ad1, ad2, ad3, ad4, _⟩, _⟩ := hna
        go_wp2_with fail
        clear ac0 ac1 ac2 ac3 ac4 ad0 ad1 ad2 ad3 ad4
        obtain ⟨gq, hgq⟩ : ∃ g, w101.heap.size = g := ⟨_, rfl⟩
        rw [hgq] at HNaq HGq
        have hq := hold_alloc (t := 24) HXa.out
        have hbq := al w101 (.cells #[.string oa, .string fa, .int .i64 pa, .slice Aa na ca, .slice Ba ma da] 24)
        have ha := HHa.out.new (ob := (.cells #[.string oa, .string fa, .int .i64 pa, .slice Aa na ca, .slice Ba ma da] 24))
        generalize w101.alloc (.cells #[.string oa, .string fa, .int .i64 pa, .slice Aa na ca, .slice Ba ma da] 24) = w102 at hq hbq ha ⊢
        rw [hgq] at hq ha ⊢
        have HHq := Lib.hid hq
        replace HHa := Lib.hid ha
        have HB102 := Lib.hid (Bel.call HB101.out hbq)
        clear hq hbq ha hgq HXa
        with_reducible refine (HCO.out _ _ _ (gs_cons HHq.out.lt (gs_cons HHa.out.lt gs_nil)) HHa.out.isX).mono ?_
        rintro e103 w103 ⟨⟨v103, hx103, rfl⟩, hb103⟩
        obtain ⟨o103, f103, p103, A103, n103, c103, B103, m103, d103, rfl, hp103, hn103, hm103, ho103, hf103, hx103⟩ := isX_lit hx103
        have HB103 := Lib.hid (Bel.call HB102.out hb103)
        replace HHa := Lib.hid (HHa.out.call hb103)
        replace HHq := Lib.hid (HHq.out.call hb103)
        have HX103 := Lib.hid hx103
        have HO103 := Lib.hid ho103
        have HF103 := Lib.hid hf103
        have HP103 := Lib.hid hp103
        have HN103 := Lib.hid hn103
        have HM103 := Lib.hid hm103
        clear hb103 hx103 ho103 hf103 hp103 hn103 hm103
        dsimp only at HX103 HO103 HF103 HP103 HN103 HM103 ⊢
        have hne := HNaq.out
        have hne' : ¬ gq = ga := fun h => HNaq.out h.symm
        obtain ⟨⟨qc0, qc1, qc2, qc3, qc4, _⟩, ⟨qz0, qz1, qz2, qz3, qz4⟩, _⟩ := HHq.out
        obtain ⟨⟨ac0, ac1, ac2, ac3, ac4, _⟩, _, _⟩ := HHa.out
        go_wp2_with fail
        clear qc0 qc1 qc2 qc3 qc4 qz0 qz1 qz2 qz3 qz4
        clear ac0 ac1 ac2 ac3 ac4
        clear hne hne'
        have hs104 := hold_set5 (List.mem_cons_self ..) HHq.out HX103.out
        have hsa104 := HHa.out.set5 (G := gq) (List.mem_cons_self ..) HNaq.out (v0 := .string o103) (v1 := .string f103) (v2 := .int .i64 p103) (v3 := .slice A103 n103 c103) (v4 := .slice B103 m103 d103)
        have hsb104 : Below w.heap.size w (((((w103.setCell ⟨gq, 0, none⟩ (.string o103)).setCell ⟨gq, 1, none⟩ (.string f103)).setCell ⟨gq, 2, none⟩ (.int .i64 p103)).setCell ⟨gq, 3, none⟩ (.slice A103 n103 c103)).setCell ⟨gq, 4, none⟩ (.slice B103 m103 d103)) := set5 HB103.out HGq.out
        generalize (((((w103.setCell ⟨gq, 0, none⟩ (.string o103)).setCell ⟨gq, 1, none⟩ (.string f103)).setCell ⟨gq, 2, none⟩ (.int .i64 p103)).setCell ⟨gq, 3, none⟩ (.slice A103 n103 c103)).setCell ⟨gq, 4, none⟩ (.slice B103 m103 d103)) = w104 at hs104 hsb104 hsa104 ⊢
        replace HHq := Lib.hid hs104
        replace HHa := Lib.hid hsa104
        have HB104 := Lib.hid hsb104
        clear hs104 hsb104 hsa104
        with_reducible refine (HCAN.out _ _ HHa.out.isR).mono ?_
        rintro e105 w105 ⟨rfl, hb105⟩
        have HB105 := Lib.hid (Bel.call HB104.out hb105)
        replace HHa := Lib.hid (HHa.out.call hb105)
        replace HHq := Lib.hid (HHq.out.call hb105)
        clear hb105
        dsimp only
        clear HCO HCAN
        obtain rfl | rfl | rfl := HE.out
        all_goals clear HE
        · have hS := gr_ok HRR.out HUN.out HSE.out
          have HS := Lib.hid hS
          obtain rfl : bc = false := HBC.out.symm.trans hS.none
          have HRG := Lib.hid (right_to RG (decide_eq_true hS.right) (few_right hS.right))
          have HK1 := Lib.hid (can_to CO hS.reads (few_right hS.right) HUS.out)
          have HK2 := Lib.hid (can_to CO hS.writes (few_right hS.right) HUS.out)
          have HANS : Hid (Ann s) := ⟨hS.right, by rw [hS.owner]; exact HRO.out, by rw [hS.file]; exact HAN.out.2.2⟩
          have hlt5 : (na : Int) + (ma : Int) < 5 := by have := hS.room; rw [HNa.out, HMa.out]; omega
          have HSP : Hid (s.ep = r.ep) := hS.epoch
          have HPS : Hid (p103 = pa) := by show p103 = pa; rw [HP103.out, HSP.out, HPa.out]
          clear hS
          have hps := HPS.out.symm
          subst hps
          obtain ⟨⟨ac0, ac1, ac2, ac3, ac4, _⟩, _, _⟩ := HHa.out
          obtain ⟨⟨qc0, qc1, qc2, qc3, qc4, _⟩, _, _⟩ := HHq.out
          go_wp2_with fail
          clear qc0 qc1 qc2 qc3 qc4
          clear ac0 ac1 ac2 ac3 ac4
          with_reducible refine (HRG.out _ _ HHq.out.isR).mono ?_
          rintro e106 w106 ⟨rfl, hb106⟩
          have HB106 := Lib.hid (Bel.call HB105.out hb106)
          replace HHa := Lib.hid (HHa.out.call hb106)
          replace HHq := Lib.hid (HHq.out.call hb106)
          clear hb106
          dsimp only
          obtain ⟨⟨qc0, qc1, qc2, qc3, qc4, _⟩, _, _⟩ := HHq.out
          go_wp2_with fail
          clear qc0 qc1 qc2 qc3 qc4
          with_reducible refine (HK1.out _ _ HHq.out.isR).mono ?_
          rintro e107 w107 ⟨rfl, hb107⟩
          have HB107 := Lib.hid (Bel.call HB106.out hb107)
          replace HHa := Lib.hid (HHa.out.call hb107)
          replace HHq := Lib.hid (HHq.out.call hb107)
          clear hb107
          dsimp only
          obtain ⟨⟨qc0, qc1, qc2, qc3, qc4, _⟩, _, _⟩ := HHq.out
          go_wp2_with fail
          clear qc0 qc1 qc2 qc3 qc4
          with_reducible refine (HK2.out _ _ HHq.out.isR).mono ?_
          rintro e108 w108 ⟨rfl, hb108⟩
          have HB108 := Lib.hid (Bel.call HB107.out hb108)
          replace HHa := Lib.hid (HHa.out.call hb108)
          replace HHq := Lib.hid (HHq.out.call hb108)
          clear hb108
          dsimp only
          obtain ⟨⟨qc0, qc1, qc2, qc3, qc4, _⟩, _, _⟩ := HHq.out
          obtain ⟨⟨ac0, ac1, ac2, ac3, ac4, _⟩, _, _⟩ := HHa.out
          go_wp2_with fail
          clear qc0 qc1 qc2 qc3 qc4
          clear ac0 ac1 ac2 ac3 ac4
          go_loopw [14] (fun i wr2 => ∃ j : Nat, j ≤ 8 ∧ i = .int .i64 (j : Int) ∧ Hid (Below w108.heap.size w108 wr2)) (fun i _ => 8 - (intOf i).toNat)
          case atStart => exact ⟨0, by omega, rfl, Lib.hid (Below.refl _ _)⟩
          case round =>
            obtain ⟨j, hj, rfl, HI⟩ := hrel
            replace HB108 := Lib.hid (Bel.call HB108.out HI.out)
            replace HHa := Lib.hid (HHa.out.call HI.out)
            replace HHq := Lib.hid (HHq.out.call HI.out)
            by_cases hlt2 : (j : Int) < 8
            · have hj8 : j < 8 := by omega
              have HWH := Lib.hid fun w => who_at hj8 w
              have hws : (whoN j).size ≤ 5000 := by have := who_size j; omega
              have HOT := Lib.hid (fun wr (h : (whoN j).data.toList ≠ U.data.toList) => HS.out.others _ wr h)
              obtain ⟨b1, hb1⟩ : ∃ b, can r (whoN j).data.toList false = b := ⟨_, rfl⟩
              obtain ⟨b2, hb2⟩ : ∃ b, can r (whoN j).data.toList true = b := ⟨_, rfl⟩
              have HA1 := Lib.hid (can_to CO hb1 (few_right HRR.out) hws)
              have HA2 := Lib.hid (can_to CO hb2 (few_right HRR.out) hws)
              have HT1 := Lib.hid (fun h => can_to CO ((HOT.out false h).trans hb1) (few_right HS.out.right) hws)
              have HT2 := Lib.hid (fun h => can_to CO ((HOT.out true h).trans hb2) (few_right HS.out.right) hws)
              clear HOT hws hb1 hb2
              obtain ⟨Wj, hWj⟩ : ∃ W, whoN j = W := ⟨_, rfl⟩
              rw [hWj] at HWH HA1 HA2 HT1 HT2
              clear hWj
              go_wp2_with fail
              have hdr := Below.drewN' (Below.refl wr.heap.size wr) 1
              by_cases hWU : Wj.data.toList = U.data.toList
              · have qw := s_eq hWU
                clear hWU HT1 HT2
                refine Ord.region_lit (S := fun w' => Below w108.heap.size w108 w' ∧ HoldL [gq, ga] ga w' oa fa pa Aa na ca Ba ma da r ∧ HoldL [gq, ga] gq w' o103 f103 (pa) A103 n103 c103 B103 m103 d103 s) (by kernel_rfl) (by kernel_rfl) ⟨Bel.call HI.out hdr, HHa.out.call hdr, HHq.out.call hdr⟩ ?_
                clear hdr
                refine Ord.stepR (v := ?_) (by rfl) ?_ ?_
                rotate_left
                · intro w' hSw
                  obtain ⟨_, ⟨⟨ac0, ac1, ac2, ac3, ac4, _⟩, _⟩, ⟨⟨qc0, qc1, qc2, qc3, qc4, _⟩, _⟩⟩ := hSw
                  go_simp
                  try with_reducible rfl
                try simp only [Act.put, List.setIfInBounds_toArray, List.set_cons_zero, List.set_cons_succ]
                refine Ord.stepC (v := .string Wj) (by rfl) ?_ (fun w1 hS => (HWH.out w1).mono fun e w2 h => ⟨h.1, Bel.call hS.1 h.2, hS.2.1.call h.2, hS.2.2.call h.2⟩) ?_
                · intro w' hSw
                  go_simp
                  try with_reducible rfl
                try simp only [Act.put, List.setIfInBounds_toArray, List.set_cons_zero, List.set_cons_succ]
                refine Ord.stepR (v := ?_) (by rfl) ?_ ?_
                rotate_left
                · intro w' hSw
                  obtain ⟨_, ⟨⟨ac0, ac1, ac2, ac3, ac4, _⟩, _⟩, ⟨⟨qc0, qc1, qc2, qc3, qc4, _⟩, _⟩⟩ := hSw
                  go_simp
                  try with_reducible rfl
                try simp only [Act.put, List.setIfInBounds_toArray, List.set_cons_zero, List.set_cons_succ]
                refine Ord.stepR (v := ?_) (by rfl) ?_ ?_
                rotate_left
                · intro w' hSw
                  obtain ⟨_, ⟨⟨ac0, ac1, ac2, ac3, ac4, _⟩, _⟩, ⟨⟨qc0, qc1, qc2, qc3, qc4, _⟩, _⟩⟩ := hSw
                  go_simp
                  try with_reducible rfl
                try simp only [Act.put, List.setIfInBounds_toArray, List.set_cons_zero, List.set_cons_succ]
                refine Ord.stepR (v := ?_) (by rfl) ?_ ?_
                rotate_left
                · intro w' hSw
                  obtain ⟨_, ⟨⟨ac0, ac1, ac2, ac3, ac4, _⟩, _⟩, ⟨⟨qc0, qc1, qc2, qc3, qc4, _⟩, _⟩⟩ := hSw
                  go_simp
                  try with_reducible rfl
                try simp only [Act.put, List.setIfInBounds_toArray, List.set_cons_zero, List.set_cons_succ]
                refine Ord.stepS (by rfl) ?_
                try simp only [Act.put, List.setIfInBounds_toArray, List.set_cons_zero, List.set_cons_succ]
                refine Ord.stepS (by rfl) ?_
                try simp only [Act.put, List.setIfInBounds_toArray, List.set_cons_zero, List.set_cons_succ]
                refine Ord.stepS (by rfl) ?_
                try simp only [Act.put, List.setIfInBounds_toArray, List.set_cons_zero, List.set_cons_succ]
                refine Ord.stepS (by rfl) ?_
                try simp only [Act.put, List.setIfInBounds_toArray, List.set_cons_zero, List.set_cons_succ]
                refine Ord.stepS (by rfl) ?_
                try simp only [Act.put, List.setIfInBounds_toArray, List.set_cons_zero, List.set_cons_succ]
                refine Ord.stepS (by rfl) ?_
                try simp only [Act.put, List.setIfInBounds_toArray, List.set_cons_zero, List.set_cons_succ]
                refine Ord.stepS (by rfl) ?_
                try simp only [Act.put, List.setIfInBounds_toArray, List.set_cons_zero, List.set_cons_succ]
                refine Ord.stepS (by rfl) ?_
                try simp only [Act.put, List.setIfInBounds_toArray, List.set_cons_zero, List.set_cons_succ]
                refine Ord.stepS (by rfl) ?_
                try simp only [Act.put, List.setIfInBounds_toArray, List.set_cons_zero, List.set_cons_succ]
                refine Ord.stepS (by rfl) ?_
                try simp only [Act.put, List.setIfInBounds_toArray, List.set_cons_zero, List.set_cons_succ]
                refine Ord.stepS (by rfl) ?_
                try simp only [Act.put, List.setIfInBounds_toArray, List.set_cons_zero, List.set_cons_succ]
                refine Ord.stepS (by rfl) ?_
                try simp only [Act.put, List.setIfInBounds_toArray, List.set_cons_zero, List.set_cons_succ]
                refine Ord.stepS (by rfl) ?_
                try simp only [Act.put, List.setIfInBounds_toArray, List.set_cons_zero, List.set_cons_succ]
                refine Ord.stepS (by rfl) ?_
                try simp only [Act.put, List.setIfInBounds_toArray, List.set_cons_zero, List.set_cons_succ]
                refine Ord.stepS (by rfl) ?_
                try simp only [Act.put, List.setIfInBounds_toArray, List.set_cons_zero, List.set_cons_succ]
                refine Ord.stepS (by rfl) ?_
                try simp only [Act.put, List.setIfInBounds_toArray, List.set_cons_zero, List.set_cons_succ]
                refine Ord.stepS (by rfl) ?_
                try simp only [Act.put, List.setIfInBounds_toArray, List.set_cons_zero, List.set_cons_succ]
                refine Ord.stepS (by rfl) ?_
                try simp only [Act.put, List.setIfInBounds_toArray, List.set_cons_zero, List.set_cons_succ]
                refine Ord.stepS (by rfl) ?_
                try simp only [Act.put, List.setIfInBounds_toArray, List.set_cons_zero, List.set_cons_succ]
                refine Ord.stepS (by rfl) ?_
                try simp only [Act.put, List.setIfInBounds_toArray, List.set_cons_zero, List.set_cons_succ]
                refine Ord.stepR (v := ?_) (by rfl) ?_ ?_
                rotate_left
                · intro w' hSw
                  obtain ⟨_, ⟨⟨ac0, ac1, ac2, ac3, ac4, _⟩, _⟩, ⟨⟨qc0, qc1, qc2, qc3, qc4, _⟩, _⟩⟩ := hSw
                  go_simp
                  try with_reducible rfl
                try simp only [Act.put, List.setIfInBounds_toArray, List.set_cons_zero, List.set_cons_succ]
                refine Ord.stepD ?_
                rintro w9 hS9
                have HS9 := Lib.hid hS9
                clear hS9
                go_wp2
                go_roundw
                case rel => exact ⟨j + 1, by omega, by go_num, Lib.hid HS9.out.1⟩
                case measure => simp [intOf]; omega
              have qw := s_ne hWU
              replace HT1 := Lib.hid (HT1.out hWU)
              replace HT2 := Lib.hid (HT2.out hWU)
              clear hWU
              refine Ord.region_lit (S := fun w' => Below w108.heap.size w108 w' ∧ HoldL [gq, ga] ga w' oa fa pa Aa na ca Ba ma da r ∧ HoldL [gq, ga] gq w' o103 f103 (pa) A103 n103 c103 B103 m103 d103 s) (by kernel_rfl) (by kernel_rfl) ⟨Bel.call HI.out hdr, HHa.out.call hdr, HHq.out.call hdr⟩ ?_
              clear hdr
              refine Ord.stepR (v := ?_) (by rfl) ?_ ?_
              rotate_left
              · intro w' hSw
                obtain ⟨_, ⟨⟨ac0, ac1, ac2, ac3, ac4, _⟩, _⟩, ⟨⟨qc0, qc1, qc2, qc3, qc4, _⟩, _⟩⟩ := hSw
                go_simp
                try with_reducible rfl
              try simp only [Act.put, List.setIfInBounds_toArray, List.set_cons_zero, List.set_cons_succ]
              refine Ord.stepC (v := .string Wj) (by rfl) ?_ (fun w1 hS => (HWH.out w1).mono fun e w2 h => ⟨h.1, Bel.call hS.1 h.2, hS.2.1.call h.2, hS.2.2.call h.2⟩) ?_
              · intro w' hSw
                go_simp
                try with_reducible rfl
              try simp only [Act.put, List.setIfInBounds_toArray, List.set_cons_zero, List.set_cons_succ]
              refine Ord.stepR (v := ?_) (by rfl) ?_ ?_
              rotate_left
              · intro w' hSw
                obtain ⟨_, ⟨⟨ac0, ac1, ac2, ac3, ac4, _⟩, _⟩, ⟨⟨qc0, qc1, qc2, qc3, qc4, _⟩, _⟩⟩ := hSw
                go_simp
                try with_reducible rfl
              try simp only [Act.put, List.setIfInBounds_toArray, List.set_cons_zero, List.set_cons_succ]
              refine Ord.stepR (v := ?_) (by rfl) ?_ ?_
              rotate_left
              · intro w' hSw
                obtain ⟨_, ⟨⟨ac0, ac1, ac2, ac3, ac4, _⟩, _⟩, ⟨⟨qc0, qc1, qc2, qc3, qc4, _⟩, _⟩⟩ := hSw
                go_simp
                try with_reducible rfl
              try simp only [Act.put, List.setIfInBounds_toArray, List.set_cons_zero, List.set_cons_succ]
              refine Ord.stepR (v := ?_) (by rfl) ?_ ?_
              rotate_left
              · intro w' hSw
                obtain ⟨_, ⟨⟨ac0, ac1, ac2, ac3, ac4, _⟩, _⟩, ⟨⟨qc0, qc1, qc2, qc3, qc4, _⟩, _⟩⟩ := hSw
                go_simp
                try with_reducible rfl
              try simp only [Act.put, List.setIfInBounds_toArray, List.set_cons_zero, List.set_cons_succ]
              refine Ord.stepR (v := ?_) (by rfl) ?_ ?_
              rotate_left
              · intro w' hSw
                obtain ⟨_, ⟨⟨ac0, ac1, ac2, ac3, ac4, _⟩, _⟩, ⟨⟨qc0, qc1, qc2, qc3, qc4, _⟩, _⟩⟩ := hSw
                go_simp
                try with_reducible rfl
              try simp only [Act.put, List.setIfInBounds_toArray, List.set_cons_zero, List.set_cons_succ]
              refine Ord.stepR (v := ?_) (by rfl) ?_ ?_
              rotate_left
              · intro w' hSw
                obtain ⟨_, ⟨⟨ac0, ac1, ac2, ac3, ac4, _⟩, _⟩, ⟨⟨qc0, qc1, qc2, qc3, qc4, _⟩, _⟩⟩ := hSw
                go_simp
                try with_reducible rfl
              try simp only [Act.put, List.setIfInBounds_toArray, List.set_cons_zero, List.set_cons_succ]
              refine Ord.stepC (v := .string Wj) (by rfl) ?_ (fun w1 hS => (HWH.out w1).mono fun e w2 h => ⟨h.1, Bel.call hS.1 h.2, hS.2.1.call h.2, hS.2.2.call h.2⟩) ?_
              · intro w' hSw
                go_simp
                try with_reducible rfl
              try simp only [Act.put, List.setIfInBounds_toArray, List.set_cons_zero, List.set_cons_succ]
              refine Ord.stepC (v := .bool b1) (by rfl) ?_ (fun w1 hS => (HT1.out _ _ hS.2.2.isR).mono fun e w2 h => ⟨h.1, Bel.call hS.1 h.2, hS.2.1.call h.2, hS.2.2.call h.2⟩) ?_
              · intro w' hSw
                go_simp
                try with_reducible rfl
              try simp only [Act.put, List.setIfInBounds_toArray, List.set_cons_zero, List.set_cons_succ]
              refine Ord.stepR (v := ?_) (by rfl) ?_ ?_
              rotate_left
              · intro w' hSw
                obtain ⟨_, ⟨⟨ac0, ac1, ac2, ac3, ac4, _⟩, _⟩, ⟨⟨qc0, qc1, qc2, qc3, qc4, _⟩, _⟩⟩ := hSw
                go_simp
                try with_reducible rfl
              try simp only [Act.put, List.setIfInBounds_toArray, List.set_cons_zero, List.set_cons_succ]
              refine Ord.stepR (v := ?_) (by rfl) ?_ ?_
              rotate_left
              · intro w' hSw
                obtain ⟨_, ⟨⟨ac0, ac1, ac2, ac3, ac4, _⟩, _⟩, ⟨⟨qc0, qc1, qc2, qc3, qc4, _⟩, _⟩⟩ := hSw
                go_simp
                try with_reducible rfl
              try simp only [Act.put, List.setIfInBounds_toArray, List.set_cons_zero, List.set_cons_succ]
              refine Ord.stepC (v := .string Wj) (by rfl) ?_ (fun w1 hS => (HWH.out w1).mono fun e w2 h => ⟨h.1, Bel.call hS.1 h.2, hS.2.1.call h.2, hS.2.2.call h.2⟩) ?_
              · intro w' hSw
                go_simp
                try with_reducible rfl
              try simp only [Act.put, List.setIfInBounds_toArray, List.set_cons_zero, List.set_cons_succ]
              refine Ord.stepC (v := .bool b1) (by rfl) ?_ (fun w1 hS => (HA1.out _ _ hS.2.1.isR).mono fun e w2 h => ⟨h.1, Bel.call hS.1 h.2, hS.2.1.call h.2, hS.2.2.call h.2⟩) ?_
              · intro w' hSw
                go_simp
                try with_reducible rfl
              try simp only [Act.put, List.setIfInBounds_toArray, List.set_cons_zero, List.set_cons_succ]
              refine Ord.stepR (v := ?_) (by rfl) ?_ ?_
              rotate_left
              · intro w' hSw
                obtain ⟨_, ⟨⟨ac0, ac1, ac2, ac3, ac4, _⟩, _⟩, ⟨⟨qc0, qc1, qc2, qc3, qc4, _⟩, _⟩⟩ := hSw
                go_simp
                try with_reducible rfl
              try simp only [Act.put, List.setIfInBounds_toArray, List.set_cons_zero, List.set_cons_succ]
              refine Ord.stepR (v := ?_) (by rfl) ?_ ?_
              rotate_left
              · intro w' hSw
                obtain ⟨_, ⟨⟨ac0, ac1, ac2, ac3, ac4, _⟩, _⟩, ⟨⟨qc0, qc1, qc2, qc3, qc4, _⟩, _⟩⟩ := hSw
                go_simp
                try with_reducible rfl
              try simp only [Act.put, List.setIfInBounds_toArray, List.set_cons_zero, List.set_cons_succ]
              refine Ord.stepR (v := ?_) (by rfl) ?_ ?_
              rotate_left
              · intro w' hSw
                obtain ⟨_, ⟨⟨ac0, ac1, ac2, ac3, ac4, _⟩, _⟩, ⟨⟨qc0, qc1, qc2, qc3, qc4, _⟩, _⟩⟩ := hSw
                go_simp
                try with_reducible rfl
              try simp only [Act.put, List.setIfInBounds_toArray, List.set_cons_zero, List.set_cons_succ]
              refine Ord.stepR (v := ?_) (by rfl) ?_ ?_
              rotate_left
              · intro w' hSw
                obtain ⟨_, ⟨⟨ac0, ac1, ac2, ac3, ac4, _⟩, _⟩, ⟨⟨qc0, qc1, qc2, qc3, qc4, _⟩, _⟩⟩ := hSw
                go_simp
                try with_reducible rfl
              try simp only [Act.put, List.setIfInBounds_toArray, List.set_cons_zero, List.set_cons_succ]
              refine Ord.stepC (v := .string Wj) (by rfl) ?_ (fun w1 hS => (HWH.out w1).mono fun e w2 h => ⟨h.1, Bel.call hS.1 h.2, hS.2.1.call h.2, hS.2.2.call h.2⟩) ?_
              · intro w' hSw
                go_simp
                try with_reducible rfl
              try simp only [Act.put, List.setIfInBounds_toArray, List.set_cons_zero, List.set_cons_succ]
              refine Ord.stepC (v := .bool b2) (by rfl) ?_ (fun w1 hS => (HT2.out _ _ hS.2.2.isR).mono fun e w2 h => ⟨h.1, Bel.call hS.1 h.2, hS.2.1.call h.2, hS.2.2.call h.2⟩) ?_
              · intro w' hSw
                go_simp
                try with_reducible rfl
              try simp only [Act.put, List.setIfInBounds_toArray, List.set_cons_zero, List.set_cons_succ]
              refine Ord.stepR (v := ?_) (by rfl) ?_ ?_
              rotate_left
              · intro w' hSw
                obtain ⟨_, ⟨⟨ac0, ac1, ac2, ac3, ac4, _⟩, _⟩, ⟨⟨qc0, qc1, qc2, qc3, qc4, _⟩, _⟩⟩ := hSw
                go_simp
                try with_reducible rfl
              try simp only [Act.put, List.setIfInBounds_toArray, List.set_cons_zero, List.set_cons_succ]
              refine Ord.stepR (v := ?_) (by rfl) ?_ ?_
              rotate_left
              · intro w' hSw
                obtain ⟨_, ⟨⟨ac0, ac1, ac2, ac3, ac4, _⟩, _⟩, ⟨⟨qc0, qc1, qc2, qc3, qc4, _⟩, _⟩⟩ := hSw
                go_simp
                try with_reducible rfl
              try simp only [Act.put, List.setIfInBounds_toArray, List.set_cons_zero, List.set_cons_succ]
              refine Ord.stepC (v := .string Wj) (by rfl) ?_ (fun w1 hS => (HWH.out w1).mono fun e w2 h => ⟨h.1, Bel.call hS.1 h.2, hS.2.1.call h.2, hS.2.2.call h.2⟩) ?_
              · intro w' hSw
                go_simp
                try with_reducible rfl
              try simp only [Act.put, List.setIfInBounds_toArray, List.set_cons_zero, List.set_cons_succ]
              refine Ord.stepC (v := .bool b2) (by rfl) ?_ (fun w1 hS => (HA2.out _ _ hS.2.1.isR).mono fun e w2 h => ⟨h.1, Bel.call hS.1 h.2, hS.2.1.call h.2, hS.2.2.call h.2⟩) ?_
              · intro w' hSw
                go_simp
                try with_reducible rfl
              try simp only [Act.put, List.setIfInBounds_toArray, List.set_cons_zero, List.set_cons_succ]
              refine Ord.stepR (v := ?_) (by rfl) ?_ ?_
              rotate_left
              · intro w' hSw
                obtain ⟨_, ⟨⟨ac0, ac1, ac2, ac3, ac4, _⟩, _⟩, ⟨⟨qc0, qc1, qc2, qc3, qc4, _⟩, _⟩⟩ := hSw
                go_simp
                try with_reducible rfl
              try simp only [Act.put, List.setIfInBounds_toArray, List.set_cons_zero, List.set_cons_succ]
              refine Ord.stepR (v := ?_) (by rfl) ?_ ?_
              rotate_left
              · intro w' hSw
                obtain ⟨_, ⟨⟨ac0, ac1, ac2, ac3, ac4, _⟩, _⟩, ⟨⟨qc0, qc1, qc2, qc3, qc4, _⟩, _⟩⟩ := hSw
                go_simp
                try with_reducible rfl
              try simp only [Act.put, List.setIfInBounds_toArray, List.set_cons_zero, List.set_cons_succ]
              refine Ord.stepR (v := ?_) (by rfl) ?_ ?_
              rotate_left
              · intro w' hSw
                obtain ⟨_, ⟨⟨ac0, ac1, ac2, ac3, ac4, _⟩, _⟩, ⟨⟨qc0, qc1, qc2, qc3, qc4, _⟩, _⟩⟩ := hSw
                go_simp
                try with_reducible rfl
              try simp only [Act.put, List.setIfInBounds_toArray, List.set_cons_zero, List.set_cons_succ]
              refine Ord.stepD ?_
              rintro w9 hS9
              have HS9 := Lib.hid hS9
              clear hS9
              go_wp2
              go_roundw
              case rel => exact ⟨j + 1, by omega, by go_num, Lib.hid HS9.out.1⟩
              case measure => simp [intOf]; omega
            · have hne := HNaq.out
              have hne' : ¬ gq = ga := fun h => HNaq.out h.symm
              obtain ⟨⟨qc0, qc1, qc2, qc3, qc4, _⟩, _, _⟩ := HHq.out
              obtain ⟨⟨ac0, ac1, ac2, ac3, ac4, _⟩, ⟨az0, az1, az2, az3, az4⟩, _⟩ := HHa.out
              go_wp2
              go_roundw
              case rel => exact ⟨k + 1, s, by omega, by go_num, Lib.hid ⟨HANS.out, ((hold_set5 (List.mem_cons_of_mem _ (List.mem_cons_self ..)) HHa.out HHq.out.isX).sub (fun b hb => List.mem_cons_of_mem _ hb)).shut, set5 HB108.out HGA.out⟩⟩
              case measure => simp [intOf]; omega
        · have hS := gr_there HRR.out HUN.out HSE.out
          obtain rfl : bc = true := HBC.out.symm.trans hS.2
          clear hS
          obtain ⟨⟨ac0, ac1, ac2, ac3, ac4, _⟩, _, _⟩ := HHa.out
          go_wp2
          go_roundw
          case rel => exact ⟨k + 1, r, by omega, by go_num, Lib.hid ⟨HAN.out, (HHa.out.sub (fun b hb => List.mem_cons_of_mem _ hb)).shut, HB105.out⟩⟩
          case measure => simp [intOf]; omega
        · have hS := gr_full HRR.out HUN.out HSE.out
          obtain rfl : bc = false := HBC.out.symm.trans hS.2.1
          have hlt5 : ¬ (na : Int) + (ma : Int) < 5 := by have := hS.2.2; rw [HNa.out, HMa.out]; omega
          clear hS
          obtain ⟨⟨ac0, ac1, ac2, ac3, ac4, _⟩, _, _⟩ := HHa.out
          go_wp2
          go_roundw
          case rel => exact ⟨k + 1, r, by omega, by go_num, Lib.hid ⟨HAN.out, (HHa.out.sub (fun b hb => List.mem_cons_of_mem _ hb)).shut, HB105.out⟩⟩
          case measure => simp [intOf]; omega
      · subst hm
        obtain ⟨s, e, hse, he⟩ := gr_out r U.data.toList true HRR.out HUN.out
        have HCO := Lib.hid (grant_to GO hse (few_right HRR.out) HUS.out)
        have HSE := Lib.hid hse
        have HE := Lib.hid he
        obtain ⟨bc, hbc⟩ : ∃ b, can r U.data.toList false = b := ⟨_, rfl⟩
        have HCAN := Lib.hid (can_to CO hbc (few_right HRR.out) HUS.out)
        have HBC := Lib.hid hbc
        clear hse he hbc
        have HXa := Lib.hid HHa.out.isX
        have HNaq : Hid (ga ≠ w101.heap.size) := Nat.ne_of_lt HHa.out.lt
        have HGq : Hid (w.heap.size ≤ w101.heap.size) := HB101.out.size
        obtain ⟨⟨ac0, ac1, ac2, ac3, ac4, _⟩, _, _⟩ := HHa.out
        have hna := HHa.out.new (ob := (.cells #[.string oa, .string fa, .int .i64 pa, .slice Aa na ca, .slice Ba ma da] 24))
        obtain ⟨⟨ad0, ad1, ad2, ad3, ad4, _⟩, _⟩ := hna
        go_wp2_with fail
        clear ac0 ac1 ac2 ac3 ac4 ad0 ad1 ad2 ad3 ad4
        obtain ⟨gq, hgq⟩ : ∃ g, w101.heap.size = g := ⟨_, rfl⟩
        rw [hgq] at HNaq HGq
        have hq := hold_alloc (t := 24) HXa.out
        have hbq := al w101 (.cells #[.string oa, .string fa, .int .i64 pa, .slice Aa na ca, .slice Ba ma da] 24)
        have ha := HHa.out.new (ob := (.cells #[.string oa, .string fa, .int .i64 pa, .slice Aa na ca, .slice Ba ma da] 24))
        generalize w101.alloc (.cells #[.string oa, .string fa, .int .i64 pa, .slice Aa na ca, .slice Ba ma da] 24) = w102 at hq hbq ha ⊢
        rw [hgq] at hq ha ⊢
        have HHq := Lib.hid hq
        replace HHa := Lib.hid ha
        have HB102 := Lib.hid (Bel.call HB101.out hbq)
        clear hq hbq ha hgq HXa
        with_reducible refine (HCO.out _ _ _ (gs_cons HHq.out.lt (gs_cons HHa.out.lt gs_nil)) HHa.out.isX).mono ?_
        rintro e103 w103 ⟨⟨v103, hx103, rfl⟩, hb103⟩
        obtain ⟨o103, f103, p103, A103, n103, c103, B103, m103, d103, rfl, hp103, hn103, hm103, ho103, hf103, hx103⟩ := isX_lit hx103
        have HB103 := Lib.hid (Bel.call HB102.out hb103)
        replace HHa := Lib.hid (HHa.out.call hb103)
        replace HHq := Lib.hid (HHq.out.call hb103)
        have HX103 := Lib.hid hx103
        have HO103 := Lib.hid ho103
        have HF103 := Lib.hid hf103
        have HP103 := Lib.hid hp103
        have HN103 := Lib.hid hn103
        have HM103 := Lib.hid hm103
        clear hb103 hx103 ho103 hf103 hp103 hn103 hm103
        dsimp only at HX103 HO103 HF103 HP103 HN103 HM103 ⊢
        have hne := HNaq.out
        have hne' : ¬ gq = ga := fun h => HNaq.out h.symm
        obtain ⟨⟨qc0, qc1, qc2, qc3, qc4, _⟩, ⟨qz0, qz1, qz2, qz3, qz4⟩, _⟩ := HHq.out
        obtain ⟨⟨ac0, ac1, ac2, ac3, ac4, _⟩, _, _⟩ := HHa.out
        go_wp2_with fail
        clear qc0 qc1 qc2 qc3 qc4 qz0 qz1 qz2 qz3 qz4
        clear ac0 ac1 ac2 ac3 ac4
        clear hne hne'
        have hs104 := hold_set5 (List.mem_cons_self ..) HHq.out HX103.out
        have hsa104 := HHa.out.set5 (G := gq) (List.mem_cons_self ..) HNaq.out (v0 := .string o103) (v1 := .string f103) (v2 := .int .i64 p103) (v3 := .slice A103 n103 c103) (v4 := .slice B103 m103 d103)
        have hsb104 : Below w.heap.size w (((((w103.setCell ⟨gq, 0, none⟩ (.string o103)).setCell ⟨gq, 1, none⟩ (.string f103)).setCell ⟨gq, 2, none⟩ (.int .i64 p103)).setCell ⟨gq, 3, none⟩ (.slice A103 n103 c103)).setCell ⟨gq, 4, none⟩ (.slice B103 m103 d103)) := set5 HB103.out HGq.out
        generalize (((((w103.setCell ⟨gq, 0, none⟩ (.string o103)).setCell ⟨gq, 1, none⟩ (.string f103)).setCell ⟨gq, 2, none⟩ (.int .i64 p103)).setCell ⟨gq, 3, none⟩ (.slice A103 n103 c103)).setCell ⟨gq, 4, none⟩ (.slice B103 m103 d103)) = w104 at hs104 hsb104 hsa104 ⊢
        replace HHq := Lib.hid hs104
        replace HHa := Lib.hid hsa104
        have HB104 := Lib.hid hsb104
        clear hs104 hsb104 hsa104
        with_reducible refine (HCAN.out _ _ HHa.out.isR).mono ?_
        rintro e105 w105 ⟨rfl, hb105⟩
        have HB105 := Lib.hid (Bel.call HB104.out hb105)
        replace HHa := Lib.hid (HHa.out.call hb105)
        replace HHq := Lib.hid (HHq.out.call hb105)
        clear hb105
        dsimp only
        clear HCO HCAN
        obtain rfl | rfl | rfl := HE.out
        all_goals clear HE
        · have hS := gr_ok HRR.out HUN.out HSE.out
          have HS := Lib.hid hS
          obtain rfl : bc = false := HBC.out.symm.trans hS.none
          have HRG := Lib.hid (right_to RG (decide_eq_true hS.right) (few_right hS.right))
          have HK1 := Lib.hid (can_to CO hS.reads (few_right hS.right) HUS.out)
          have HK2 := Lib.hid (can_to CO hS.writes (few_right hS.right) HUS.out)
          have HANS : Hid (Ann s) := ⟨hS.right, by rw [hS.owner]; exact HRO.out, by rw [hS.file]; exact HAN.out.2.2⟩
          have hlt5 : (na : Int) + (ma : Int) < 5 := by have := hS.room; rw [HNa.out, HMa.out]; omega
          have HSP : Hid (s.ep = r.ep) := hS.epoch
          have HPS : Hid (p103 = pa) := by show p103 = pa; rw [HP103.out, HSP.out, HPa.out]
          clear hS
          have hps := HPS.out.symm
          subst hps
          obtain ⟨⟨ac0, ac1, ac2, ac3, ac4, _⟩, _, _⟩ := HHa.out
          obtain ⟨⟨qc0, qc1, qc2, qc3, qc4, _⟩, _, _⟩ := HHq.out
          go_wp2_with fail
          clear qc0 qc1 qc2 qc3 qc4
          clear ac0 ac1 ac2 ac3 ac4
          with_reducible refine (HRG.out _ _ HHq.out.isR).mono ?_
          rintro e106 w106 ⟨rfl, hb106⟩
          have HB106 := Lib.hid (Bel.call HB105.out hb106)
          replace HHa := Lib.hid (HHa.out.call hb106)
          replace HHq := Lib.hid (HHq.out.call hb106)
          clear hb106
          dsimp only
          obtain ⟨⟨qc0, qc1, qc2, qc3, qc4, _⟩, _, _⟩ := HHq.out
          go_wp2_with fail
          clear qc0 qc1 qc2 qc3 qc4
          with_reducible refine (HK1.out _ _ HHq.out.isR).mono ?_
          rintro e107 w107 ⟨rfl, hb107⟩
          have HB107 := Lib.hid (Bel.call HB106.out hb107)
          replace HHa := Lib.hid (HHa.out.call hb107)
          replace HHq := Lib.hid (HHq.out.call hb107)
          clear hb107
          dsimp only
          obtain ⟨⟨qc0, qc1, qc2, qc3, qc4, _⟩, _, _⟩ := HHq.out
          go_wp2_with fail
          clear qc0 qc1 qc2 qc3 qc4
          with_reducible refine (HK2.out _ _ HHq.out.isR).mono ?_
          rintro e108 w108 ⟨rfl, hb108⟩
          have HB108 := Lib.hid (Bel.call HB107.out hb108)
          replace HHa := Lib.hid (HHa.out.call hb108)
          replace HHq := Lib.hid (HHq.out.call hb108)
          clear hb108
          dsimp only
          obtain ⟨⟨qc0, qc1, qc2, qc3, qc4, _⟩, _, _⟩ := HHq.out
          obtain ⟨⟨ac0, ac1, ac2, ac3, ac4, _⟩, _, _⟩ := HHa.out
          go_wp2_with fail
          clear qc0 qc1 qc2 qc3 qc4
          clear ac0 ac1 ac2 ac3 ac4
          go_loopw [14] (fun i wr2 => ∃ j : Nat, j ≤ 8 ∧ i = .int .i64 (j : Int) ∧ Hid (Below w108.heap.size w108 wr2)) (fun i _ => 8 - (intOf i).toNat)
          case atStart => exact ⟨0, by omega, rfl, Lib.hid (Below.refl _ _)⟩
          case round =>
            obtain ⟨j, hj, rfl, HI⟩ := hrel
            replace HB108 := Lib.hid (Bel.call HB108.out HI.out)
            replace HHa := Lib.hid (HHa.out.call HI.out)
            replace HHq := Lib.hid (HHq.out.call HI.out)
            by_cases hlt2 : (j : Int) < 8
            · have hj8 : j < 8 := by omega
              have HWH := Lib.hid fun w => who_at hj8 w
              have hws : (whoN j).size ≤ 5000 := by have := who_size j; omega
              have HOT := Lib.hid (fun wr (h : (whoN j).data.toList ≠ U.data.toList) => HS.out.others _ wr h)
              obtain ⟨b1, hb1⟩ : ∃ b, can r (whoN j).data.toList false = b := ⟨_, rfl⟩
              obtain ⟨b2, hb2⟩ : ∃ b, can r (whoN j).data.toList true = b := ⟨_, rfl⟩
              have HA1 := Lib.hid (can_to CO hb1 (few_right HRR.out) hws)
              have HA2 := Lib.hid (can_to CO hb2 (few_right HRR.out) hws)
              have HT1 := Lib.hid (fun h => can_to CO ((HOT.out false h).trans hb1) (few_right HS.out.right) hws)
              have HT2 := Lib.hid (fun h => can_to CO ((HOT.out true h).trans hb2) (few_right HS.out.right) hws)
              clear HOT hws hb1 hb2
              obtain ⟨Wj, hWj⟩ : ∃ W, whoN j = W := ⟨_, rfl⟩
              rw [hWj] at HWH HA1 HA2 HT1 HT2
              clear hWj
              go_wp2_with fail
              have hdr := Below.drewN' (Below.refl wr.heap.size wr) 1
              by_cases hWU : Wj.data.toList = U.data.toList
              · have qw := s_eq hWU
                clear hWU HT1 HT2
                refine Ord.region_lit (S := fun w' => Below w108.heap.size w108 w' ∧ HoldL [gq, ga] ga w' oa fa pa Aa na ca Ba ma da r ∧ HoldL [gq, ga] gq w' o103 f103 (pa) A103 n103 c103 B103 m103 d103 s) (by kernel_rfl) (by kernel_rfl) ⟨Bel.call HI.out hdr, HHa.out.call hdr, HHq.out.call hdr⟩ ?_
                clear hdr
                refine Ord.stepR (v := ?_) (by rfl) ?_ ?_
                rotate_left
                · intro w' hSw
                  obtain ⟨_, ⟨⟨ac0, ac1, ac2, ac3, ac4, _⟩, _⟩, ⟨⟨qc0, qc1, qc2, qc3, qc4, _⟩, _⟩⟩ := hSw
                  go_simp
                  try with_reducible rfl
                try simp only [Act.put, List.setIfInBounds_toArray, List.set_cons_zero, List.set_cons_succ]
                refine Ord.stepC (v := .string Wj) (by rfl) ?_ (fun w1 hS => (HWH.out w1).mono fun e w2 h => ⟨h.1, Bel.call hS.1 h.2, hS.2.1.call h.2, hS.2.2.call h.2⟩) ?_
                · intro w' hSw
                  go_simp
                  try with_reducible rfl
                try simp only [Act.put, List.setIfInBounds_toArray, List.set_cons_zero, List.set_cons_succ]
                refine Ord.stepR (v := ?_) (by rfl) ?_ ?_
                rotate_left
                · intro w' hSw
                  obtain ⟨_, ⟨⟨ac0, ac1, ac2, ac3, ac4, _⟩, _⟩, ⟨⟨qc0, qc1, qc2, qc3, qc4, _⟩, _⟩⟩ := hSw
                  go_simp
                  try with_reducible rfl
                try simp only [Act.put, List.setIfInBounds_toArray, List.set_cons_zero, List.set_cons_succ]
                refine Ord.stepR (v := ?_) (by rfl) ?_ ?_
                rotate_left
                · intro w' hSw
                  obtain ⟨_, ⟨⟨ac0, ac1, ac2, ac3, ac4, _⟩, _⟩, ⟨⟨qc0, qc1, qc2, qc3, qc4, _⟩, _⟩⟩ := hSw
                  go_simp
                  try with_reducible rfl
                try simp only [Act.put, List.setIfInBounds_toArray, List.set_cons_zero, List.set_cons_succ]
                refine Ord.stepR (v := ?_) (by rfl) ?_ ?_
                rotate_left
                · intro w' hSw
                  obtain ⟨_, ⟨⟨ac0, ac1, ac2, ac3, ac4, _⟩, _⟩, ⟨⟨qc0, qc1, qc2, qc3, qc4, _⟩, _⟩⟩ := hSw
                  go_simp
                  try with_reducible rfl
                try simp only [Act.put, List.setIfInBounds_toArray, List.set_cons_zero, List.set_cons_succ]
                refine Ord.stepS (by rfl) ?_
                try simp only [Act.put, List.setIfInBounds_toArray, List.set_cons_zero, List.set_cons_succ]
                refine Ord.stepS (by rfl) ?_
                try simp only [Act.put, List.setIfInBounds_toArray, List.set_cons_zero, List.set_cons_succ]
                refine Ord.stepS (by rfl) ?_
                try simp only [Act.put, List.setIfInBounds_toArray, List.set_cons_zero, List.set_cons_succ]
                refine Ord.stepS (by rfl) ?_
                try simp only [Act.put, List.setIfInBounds_toArray, List.set_cons_zero, List.set_cons_succ]
                refine Ord.stepS (by rfl) ?_
                try simp only [Act.put, List.setIfInBounds_toArray, List.set_cons_zero, List.set_cons_succ]
                refine Ord.stepS (by rfl) ?_
                try simp only [Act.put, List.setIfInBounds_toArray, List.set_cons_zero, List.set_cons_succ]
                refine Ord.stepS (by rfl) ?_
                try simp only [Act.put, List.setIfInBounds_toArray, List.set_cons_zero, List.set_cons_succ]
                refine Ord.stepS (by rfl) ?_
                try simp only [Act.put, List.setIfInBounds_toArray, List.set_cons_zero, List.set_cons_succ]
                refine Ord.stepS (by rfl) ?_
                try simp only [Act.put, List.setIfInBounds_toArray, List.set_cons_zero, List.set_cons_succ]
                refine Ord.stepS (by rfl) ?_
                try simp only [Act.put, List.setIfInBounds_toArray, List.set_cons_zero, List.set_cons_succ]
                refine Ord.stepS (by rfl) ?_
                try simp only [Act.put, List.setIfInBounds_toArray, List.set_cons_zero, List.set_cons_succ]
                refine Ord.stepS (by rfl) ?_
                try simp only [Act.put, List.setIfInBounds_toArray, List.set_cons_zero, List.set_cons_succ]
                refine Ord.stepS (by rfl) ?_
                try simp only [Act.put, List.setIfInBounds_toArray, List.set_cons_zero, List.set_cons_succ]
                refine Ord.stepS (by rfl) ?_
                try simp only [Act.put, List.setIfInBounds_toArray, List.set_cons_zero, List.set_cons_succ]
                refine Ord.stepS (by rfl) ?_
                try simp only [Act.put, List.setIfInBounds_toArray, List.set_cons_zero, List.set_cons_succ]
                refine Ord.stepS (by rfl) ?_
                try simp only [Act.put, List.setIfInBounds_toArray, List.set_cons_zero, List.set_cons_succ]
                refine Ord.stepS (by rfl) ?_
                try simp only [Act.put, List.setIfInBounds_toArray, List.set_cons_zero, List.set_cons_succ]
                refine Ord.stepS (by rfl) ?_
                try simp only [Act.put, List.setIfInBounds_toArray, List.set_cons_zero, List.set_cons_succ]
                refine Ord.stepS (by rfl) ?_
                try simp only [Act.put, List.setIfInBounds_toArray, List.set_cons_zero, List.set_cons_succ]
                refine Ord.stepS (by rfl) ?_
                try simp only [Act.put, List.setIfInBounds_toArray, List.set_cons_zero, List.set_cons_succ]
                refine Ord.stepR (v := ?_) (by rfl) ?_ ?_
                rotate_left
                · intro w' hSw
                  obtain ⟨_, ⟨⟨ac0, ac1, ac2, ac3, ac4, _⟩, _⟩, ⟨⟨qc0, qc1, qc2, qc3, qc4, _⟩, _⟩⟩ := hSw
                  go_simp
                  try with_reducible rfl
                try simp only [Act.put, List.setIfInBounds_toArray, List.set_cons_zero, List.set_cons_succ]
                refine Ord.stepD ?_
                rintro w9 hS9
                have HS9 := Lib.hid hS9
                clear hS9
                go_wp2
                go_roundw
                case rel => exact ⟨j + 1, by omega, by go_num, Lib.hid HS9.out.1⟩
                case measure => simp [intOf]; omega
              have qw := s_ne hWU
              replace HT1 := Lib.hid (HT1.out hWU)
              replace HT2 := Lib.hid (HT2.out hWU)
              clear hWU
              refine Ord.region_lit (S := fun w' => Below w108.heap.size w108 w' ∧ HoldL [gq, ga] ga w' oa fa pa Aa na ca Ba ma da r ∧ HoldL [gq, ga] gq w' o103 f103 (pa) A103 n103 c103 B103 m103 d103 s) (by kernel_rfl) (by kernel_rfl) ⟨Bel.call HI.out hdr, HHa.out.call hdr, HHq.out.call hdr⟩ ?_
              clear hdr
              refine Ord.stepR (v := ?_) (by rfl) ?_ ?_
              rotate_left
              · intro w' hSw
                obtain ⟨_, ⟨⟨ac0, ac1, ac2, ac3, ac4, _⟩, _⟩, ⟨⟨qc0, qc1, qc2, qc3, qc4, _⟩, _⟩⟩ := hSw
                go_simp
                try with_reducible rfl
              try simp only [Act.put, List.setIfInBounds_toArray, List.set_cons_zero, List.set_cons_succ]
              refine Ord.stepC (v := .string Wj) (by rfl) ?_ (fun w1 hS => (HWH.out w1).mono fun e w2 h => ⟨h.1, Bel.call hS.1 h.2, hS.2.1.call h.2, hS.2.2.call h.2⟩) ?_
              · intro w' hSw
                go_simp
                try with_reducible rfl
              try simp only [Act.put, List.setIfInBounds_toArray, List.set_cons_zero, List.set_cons_succ]
              refine Ord.stepR (v := ?_) (by rfl) ?_ ?_
              rotate_left
              · intro w' hSw
                obtain ⟨_, ⟨⟨ac0, ac1, ac2, ac3, ac4, _⟩, _⟩, ⟨⟨qc0, qc1, qc2, qc3, qc4, _⟩, _⟩⟩ := hSw
                go_simp
                try with_reducible rfl
              try simp only [Act.put, List.setIfInBounds_toArray, List.set_cons_zero, List.set_cons_succ]
              refine Ord.stepR (v := ?_) (by rfl) ?_ ?_
              rotate_left
              · intro w' hSw
                obtain ⟨_, ⟨⟨ac0, ac1, ac2, ac3, ac4, _⟩, _⟩, ⟨⟨qc0, qc1, qc2, qc3, qc4, _⟩, _⟩⟩ := hSw
                go_simp
                try with_reducible rfl
              try simp only [Act.put, List.setIfInBounds_toArray, List.set_cons_zero, List.set_cons_succ]
              refine Ord.stepR (v := ?_) (by rfl) ?_ ?_
              rotate_left
              · intro w' hSw
                obtain ⟨_, ⟨⟨ac0, ac1, ac2, ac3, ac4, _⟩, _⟩, ⟨⟨qc0, qc1, qc2, qc3, qc4, _⟩, _⟩⟩ := hSw
                go_simp
                try with_reducible rfl
              try simp only [Act.put, List.setIfInBounds_toArray, List.set_cons_zero, List.set_cons_succ]
              refine Ord.stepR (v := ?_) (by rfl) ?_ ?_
              rotate_left
              · intro w' hSw
                obtain ⟨_, ⟨⟨ac0, ac1, ac2, ac3, ac4, _⟩, _⟩, ⟨⟨qc0, qc1, qc2, qc3, qc4, _⟩, _⟩⟩ := hSw
                go_simp
                try with_reducible rfl
              try simp only [Act.put, List.setIfInBounds_toArray, List.set_cons_zero, List.set_cons_succ]
              refine Ord.stepR (v := ?_) (by rfl) ?_ ?_
              rotate_left
              · intro w' hSw
                obtain ⟨_, ⟨⟨ac0, ac1, ac2, ac3, ac4, _⟩, _⟩, ⟨⟨qc0, qc1, qc2, qc3, qc4, _⟩, _⟩⟩ := hSw
                go_simp
                try with_reducible rfl
              try simp only [Act.put, List.setIfInBounds_toArray, List.set_cons_zero, List.set_cons_succ]
              refine Ord.stepC (v := .string Wj) (by rfl) ?_ (fun w1 hS => (HWH.out w1).mono fun e w2 h => ⟨h.1, Bel.call hS.1 h.2, hS.2.1.call h.2, hS.2.2.call h.2⟩) ?_
              · intro w' hSw
                go_simp
                try with_reducible rfl
              try simp only [Act.put, List.setIfInBounds_toArray, List.set_cons_zero, List.set_cons_succ]
              refine Ord.stepC (v := .bool b1) (by rfl) ?_ (fun w1 hS => (HT1.out _ _ hS.2.2.isR).mono fun e w2 h => ⟨h.1, Bel.call hS.1 h.2, hS.2.1.call h.2, hS.2.2.call h.2⟩) ?_
              · intro w' hSw
                go_simp
                try with_reducible rfl
              try simp only [Act.put, List.setIfInBounds_toArray, List.set_cons_zero, List.set_cons_succ]
              refine Ord.stepR (v := ?_) (by rfl) ?_ ?_
              rotate_left
              · intro w' hSw
                obtain ⟨_, ⟨⟨ac0, ac1, ac2, ac3, ac4, _⟩, _⟩, ⟨⟨qc0, qc1, qc2, qc3, qc4, _⟩, _⟩⟩ := hSw
                go_simp
                try with_reducible rfl
              try simp only [Act.put, List.setIfInBounds_toArray, List.set_cons_zero, List.set_cons_succ]
              refine Ord.stepR (v := ?_) (by rfl) ?_ ?_
              rotate_left
              · intro w' hSw
                obtain ⟨_, ⟨⟨ac0, ac1, ac2, ac3, ac4, _⟩, _⟩, ⟨⟨qc0, qc1, qc2, qc3, qc4, _⟩, _⟩⟩ := hSw
                go_simp
                try with_reducible rfl
              try simp only [Act.put, List.setIfInBounds_toArray, List.set_cons_zero, List.set_cons_succ]
              refine Ord.stepC (v := .string Wj) (by rfl) ?_ (fun w1 hS => (HWH.out w1).mono fun e w2 h => ⟨h.1, Bel.call hS.1 h.2, hS.2.1.call h.2, hS.2.2.call h.2⟩) ?_
              · intro w' hSw
                go_simp
                try with_reducible rfl
              try simp only [Act.put, List.setIfInBounds_toArray, List.set_cons_zero, List.set_cons_succ]
              refine Ord.stepC (v := .bool b1) (by rfl) ?_ (fun w1 hS => (HA1.out _ _ hS.2.1.isR).mono fun e w2 h => ⟨h.1, Bel.call hS.1 h.2, hS.2.1.call h.2, hS.2.2.call h.2⟩) ?_
              · intro w' hSw
                go_simp
                try with_reducible rfl
              try simp only [Act.put, List.setIfInBounds_toArray, List.set_cons_zero, List.set_cons_succ]
              refine Ord.stepR (v := ?_) (by rfl) ?_ ?_
              rotate_left
              · intro w' hSw
                obtain ⟨_, ⟨⟨ac0, ac1, ac2, ac3, ac4, _⟩, _⟩, ⟨⟨qc0, qc1, qc2, qc3, qc4, _⟩, _⟩⟩ := hSw
                go_simp
                try with_reducible rfl
              try simp only [Act.put, List.setIfInBounds_toArray, List.set_cons_zero, List.set_cons_succ]
              refine Ord.stepR (v := ?_) (by rfl) ?_ ?_
              rotate_left
              · intro w' hSw
                obtain ⟨_, ⟨⟨ac0, ac1, ac2, ac3, ac4, _⟩, _⟩, ⟨⟨qc0, qc1, qc2, qc3, qc4, _⟩, _⟩⟩ := hSw
                go_simp
                try with_reducible rfl
              try simp only [Act.put, List.setIfInBounds_toArray, List.set_cons_zero, List.set_cons_succ]
              refine Ord.stepR (v := ?_) (by rfl) ?_ ?_
              rotate_left
              · intro w' hSw
                obtain ⟨_, ⟨⟨ac0, ac1, ac2, ac3, ac4, _⟩, _⟩, ⟨⟨qc0, qc1, qc2, qc3, qc4, _⟩, _⟩⟩ := hSw
                go_simp
                try with_reducible rfl
              try simp only [Act.put, List.setIfInBounds_toArray, List.set_cons_zero, List.set_cons_succ]
              refine Ord.stepR (v := ?_) (by rfl) ?_ ?_
              rotate_left
              · intro w' hSw
                obtain ⟨_, ⟨⟨ac0, ac1, ac2, ac3, ac4, _⟩, _⟩, ⟨⟨qc0, qc1, qc2, qc3, qc4, _⟩, _⟩⟩ := hSw
                go_simp
                try with_reducible rfl
              try simp only [Act.put, List.setIfInBounds_toArray, List.set_cons_zero, List.set_cons_succ]
              refine Ord.stepC (v := .string Wj) (by rfl) ?_ (fun w1 hS => (HWH.out w1).mono fun e w2 h => ⟨h.1, Bel.call hS.1 h.2, hS.2.1.call h.2, hS.2.2.call h.2⟩) ?_
              · intro w' hSw
                go_simp
                try with_reducible rfl
              try simp only [Act.put, List.setIfInBounds_toArray, List.set_cons_zero, List.set_cons_succ]
              refine Ord.stepC (v := .bool b2) (by rfl) ?_ (fun w1 hS => (HT2.out _ _ hS.2.2.isR).mono fun e w2 h => ⟨h.1, Bel.call hS.1 h.2, hS.2.1.call h.2, hS.2.2.call h.2⟩) ?_
              · intro w' hSw
                go_simp
                try with_reducible rfl
              try simp only [Act.put, List.setIfInBounds_toArray, List.set_cons_zero, List.set_cons_succ]
              refine Ord.stepR (v := ?_) (by rfl) ?_ ?_
              rotate_left
              · intro w' hSw
                obtain ⟨_, ⟨⟨ac0, ac1, ac2, ac3, ac4, _⟩, _⟩, ⟨⟨qc0, qc1, qc2, qc3, qc4, _⟩, _⟩⟩ := hSw
                go_simp
                try with_reducible rfl
              try simp only [Act.put, List.setIfInBounds_toArray, List.set_cons_zero, List.set_cons_succ]
              refine Ord.stepR (v := ?_) (by rfl) ?_ ?_
              rotate_left
              · intro w' hSw
                obtain ⟨_, ⟨⟨ac0, ac1, ac2, ac3, ac4, _⟩, _⟩, ⟨⟨qc0, qc1, qc2, qc3, qc4, _⟩, _⟩⟩ := hSw
                go_simp
                try with_reducible rfl
              try simp only [Act.put, List.setIfInBounds_toArray, List.set_cons_zero, List.set_cons_succ]
              refine Ord.stepC (v := .string Wj) (by rfl) ?_ (fun w1 hS => (HWH.out w1).mono fun e w2 h => ⟨h.1, Bel.call hS.1 h.2, hS.2.1.call h.2, hS.2.2.call h.2⟩) ?_
              · intro w' hSw
                go_simp
                try with_reducible rfl
              try simp only [Act.put, List.setIfInBounds_toArray, List.set_cons_zero, List.set_cons_succ]
              refine Ord.stepC (v := .bool b2) (by rfl) ?_ (fun w1 hS => (HA2.out _ _ hS.2.1.isR).mono fun e w2 h => ⟨h.1, Bel.call hS.1 h.2, hS.2.1.call h.2, hS.2.2.call h.2⟩) ?_
              · intro w' hSw
                go_simp
                try with_reducible rfl
              try simp only [Act.put, List.setIfInBounds_toArray, List.set_cons_zero, List.set_cons_succ]
              refine Ord.stepR (v := ?_) (by rfl) ?_ ?_
              rotate_left
              · intro w' hSw
                obtain ⟨_, ⟨⟨ac0, ac1, ac2, ac3, ac4, _⟩, _⟩, ⟨⟨qc0, qc1, qc2, qc3, qc4, _⟩, _⟩⟩ := hSw
                go_simp
                try with_reducible rfl
              try simp only [Act.put, List.setIfInBounds_toArray, List.set_cons_zero, List.set_cons_succ]
              refine Ord.stepR (v := ?_) (by rfl) ?_ ?_
              rotate_left
              · intro w' hSw
                obtain ⟨_, ⟨⟨ac0, ac1, ac2, ac3, ac4, _⟩, _⟩, ⟨⟨qc0, qc1, qc2, qc3, qc4, _⟩, _⟩⟩ := hSw
                go_simp
                try with_reducible rfl
              try simp only [Act.put, List.setIfInBounds_toArray, List.set_cons_zero, List.set_cons_succ]
              refine Ord.stepR (v := ?_) (by rfl) ?_ ?_
              rotate_left
              · intro w' hSw
                obtain ⟨_, ⟨⟨ac0, ac1, ac2, ac3, ac4, _⟩, _⟩, ⟨⟨qc0, qc1, qc2, qc3, qc4, _⟩, _⟩⟩ := hSw
                go_simp
                try with_reducible rfl
              try simp only [Act.put, List.setIfInBounds_toArray, List.set_cons_zero, List.set_cons_succ]
              refine Ord.stepD ?_
              rintro w9 hS9
              have HS9 := Lib.hid hS9
              clear hS9
              go_wp2
              go_roundw
              case rel => exact ⟨j + 1, by omega, by go_num, Lib.hid HS9.out.1⟩
              case measure => simp [intOf]; omega
            · have hne := HNaq.out
              have hne' : ¬ gq = ga := fun h => HNaq.out h.symm
              obtain ⟨⟨qc0, qc1, qc2, qc3, qc4, _⟩, _, _⟩ := HHq.out
              obtain ⟨⟨ac0, ac1, ac2, ac3, ac4, _⟩, ⟨az0, az1, az2, az3, az4⟩, _⟩ := HHa.out
              go_wp2
              go_roundw
              case rel => exact ⟨k + 1, s, by omega, by go_num, Lib.hid ⟨HANS.out, ((hold_set5 (List.mem_cons_of_mem _ (List.mem_cons_self ..)) HHa.out HHq.out.isX).sub (fun b hb => List.mem_cons_of_mem _ hb)).shut, set5 HB108.out HGA.out⟩⟩
              case measure => simp [intOf]; omega
        · have hS := gr_there HRR.out HUN.out HSE.out
          obtain rfl : bc = true := HBC.out.symm.trans hS.2
          clear hS
          obtain ⟨⟨ac0, ac1, ac2, ac3, ac4, _⟩, _, _⟩ := HHa.out
          go_wp2
          go_roundw
          case rel => exact ⟨k + 1, r, by omega, by go_num, Lib.hid ⟨HAN.out, (HHa.out.sub (fun b hb => List.mem_cons_of_mem _ hb)).shut, HB105.out⟩⟩
          case measure => simp [intOf]; omega
        · have hS := gr_full HRR.out HUN.out HSE.out
          obtain rfl : bc = false := HBC.out.symm.trans hS.2.1
          have hlt5 : ¬ (na : Int) + (ma : Int) < 5 := by have := hS.2.2; rw [HNa.out, HMa.out]; omega
          clear hS
          obtain ⟨⟨ac0, ac1, ac2, ac3, ac4, _⟩, _, _⟩ := HHa.out
          go_wp2
          go_roundw
          case rel => exact ⟨k + 1, r, by omega, by go_num, Lib.hid ⟨HAN.out, (HHa.out.sub (fun b hb => List.mem_cons_of_mem _ hb)).shut, HB105.out⟩⟩
          case measure => simp [intOf]; omega
      · subst hm
        obtain ⟨s, e, hse, he⟩ := rv_out r U.data.toList HRR.out HUN.out
        have HCO := Lib.hid (revoke_to RO hse (few_right HRR.out) HUS.out)
        have HSE := Lib.hid hse
        have HE := Lib.hid he
        obtain ⟨bc, hbc⟩ : ∃ b, can r U.data.toList false = b := ⟨_, rfl⟩
        have HCAN := Lib.hid (can_to CO hbc (few_right HRR.out) HUS.out)
        have HBC := Lib.hid hbc
        clear hse he hbc
        have HXa := Lib.hid HHa.out.isX
        have HNaq : Hid (ga ≠ w101.heap.size) := Nat.ne_of_lt HHa.out.lt
        have HGq : Hid (w.heap.size ≤ w101.heap.size) := HB101.out.size
        obtain ⟨⟨ac0, ac1, ac2, ac3, ac4, _⟩, _, _⟩ := HHa.out
        have hna := HHa.out.new (ob := (.cells #[.string oa, .string fa, .int .i64 pa, .slice Aa na ca, .slice Ba ma da] 24))
        obtain ⟨⟨ad0, ad1, ad2, ad3, ad4, _⟩, _⟩ := hna
        go_wp2_with fail
        clear ac0 ac1 ac2 ac3 ac4 ad0 ad1 ad2 ad3 ad4
        obtain ⟨gq, hgq⟩ : ∃ g, w101.heap.size = g := ⟨_, rfl⟩
        rw [hgq] at HNaq HGq
        have hq := hold_alloc (t := 24) HXa.out
        have hbq := al w101 (.cells #[.string oa, .string fa, .int .i64 pa, .slice Aa na ca, .slice Ba ma da] 24)
        have ha := HHa.out.new (ob := (.cells #[.string oa, .string fa, .int .i64 pa, .slice Aa na ca, .slice Ba ma da] 24))
        generalize w101.alloc (.cells #[.string oa, .string fa, .int .i64 pa, .slice Aa na ca, .slice Ba ma da] 24) = w102 at hq hbq ha ⊢
        rw [hgq] at hq ha ⊢
        have HHq := Lib.hid hq
        replace HHa := Lib.hid ha
        have HB102 := Lib.hid (Bel.call HB101.out hbq)
        clear hq hbq ha hgq HXa
        with_reducible refine (HCO.out _ _ _ (gs_cons HHq.out.lt (gs_cons HHa.out.lt gs_nil)) HHa.out.isX).mono ?_
        rintro e103 w103 ⟨⟨v103, hx103, rfl⟩, hb103⟩
        obtain ⟨o103, f103, p103, A103, n103, c103, B103, m103, d103, rfl, hp103, hn103, hm103, ho103, hf103, hx103⟩ := isX_lit hx103
        have HB103 := Lib.hid (Bel.call HB102.out hb103)
        replace HHa := Lib.hid (HHa.out.call hb103)
        replace HHq := Lib.hid (HHq.out.call hb103)
        have HX103 := Lib.hid hx103
        have HO103 := Lib.hid ho103
        have HF103 := Lib.hid hf103
        have HP103 := Lib.hid hp103
        have HN103 := Lib.hid hn103
        have HM103 := Lib.hid hm103
        clear hb103 hx103 ho103 hf103 hp103 hn103 hm103
        dsimp only at HX103 HO103 HF103 HP103 HN103 HM103 ⊢
        have hne := HNaq.out
        have hne' : ¬ gq = ga := fun h => HNaq.out h.symm
        obtain ⟨⟨qc0, qc1, qc2, qc3, qc4, _⟩, ⟨qz0, qz1, qz2, qz3, qz4⟩, _⟩ := HHq.out
        obtain ⟨⟨ac0, ac1, ac2, ac3, ac4, _⟩, _, _⟩ := HHa.out
        go_wp2_with fail
        clear qc0 qc1 qc2 qc3 qc4 qz0 qz1 qz2 qz3 qz4
        clear ac0 ac1 ac2 ac3 ac4
        clear hne hne'
        have hs104 := hold_set5 (List.mem_cons_self ..) HHq.out HX103.out
        have hsa104 := HHa.out.set5 (G := gq) (List.mem_cons_self ..) HNaq.out (v0 := .string o103) (v1 := .string f103) (v2 := .int .i64 p103) (v3 := .slice A103 n103 c103) (v4 := .slice B103 m103 d103)
        have hsb104 : Below w.heap.size w (((((w103.setCell ⟨gq, 0, none⟩ (.string o103)).setCell ⟨gq, 1, none⟩ (.string f103)).setCell ⟨gq, 2, none⟩ (.int .i64 p103)).setCell ⟨gq, 3, none⟩ (.slice A103 n103 c103)).setCell ⟨gq, 4, none⟩ (.slice B103 m103 d103)) := set5 HB103.out HGq.out
        generalize (((((w103.setCell ⟨gq, 0, none⟩ (.string o103)).setCell ⟨gq, 1, none⟩ (.string f103)).setCell ⟨gq, 2, none⟩ (.int .i64 p103)).setCell ⟨gq, 3, none⟩ (.slice A103 n103 c103)).setCell ⟨gq, 4, none⟩ (.slice B103 m103 d103)) = w104 at hs104 hsb104 hsa104 ⊢
        replace HHq := Lib.hid hs104
        replace HHa := Lib.hid hsa104
        have HB104 := Lib.hid hsb104
        clear hs104 hsb104 hsa104
        with_reducible refine (HCAN.out _ _ HHa.out.isR).mono ?_
        rintro e105 w105 ⟨rfl, hb105⟩
        have HB105 := Lib.hid (Bel.call HB104.out hb105)
        replace HHa := Lib.hid (HHa.out.call hb105)
        replace HHq := Lib.hid (HHq.out.call hb105)
        clear hb105
        dsimp only
        clear HCO HCAN
        obtain rfl | rfl | rfl := HE.out
        all_goals clear HE
        · have hS := rv_ok HRR.out HUN.out HSE.out
          have HS := Lib.hid hS
          obtain rfl : bc = true := HBC.out.symm.trans hS.could
          have HRG := Lib.hid (right_to RG (decide_eq_true hS.right) (few_right hS.right))
          have HK1 := Lib.hid (can_to CO (hS.no false) (few_right hS.right) HUS.out)
          have HK2 := Lib.hid (can_to CO (hS.no true) (few_right hS.right) HUS.out)
          have HANS : Hid (Ann s) := ⟨hS.right, by rw [hS.is]; exact HRO.out, by rw [hS.is]; exact HAN.out.2.2⟩
          have qu : (U.toList == [97, 110, 110, 97]) = false := by
            rw [beq_eq_false_iff_ne, Lib.toList_data]
            exact fun h => hS.other (h.trans HRO.out.symm)
          have hp7 : pa < 7 := by rw [HPa.out]; exact hS.epochs
          have HSP : Hid (s.ep = r.ep + 1) := hS.epoch
          have HPS : Hid (p103 = pa + 1) := by show p103 = pa + 1; rw [HP103.out, HSP.out, HPa.out]
          clear hS
          have hps := HPS.out
          subst hps
          obtain ⟨⟨ac0, ac1, ac2, ac3, ac4, _⟩, _, _⟩ := HHa.out
          obtain ⟨⟨qc0, qc1, qc2, qc3, qc4, _⟩, _, _⟩ := HHq.out
          go_wp2_with fail
          clear qc0 qc1 qc2 qc3 qc4
          clear ac0 ac1 ac2 ac3 ac4
          with_reducible refine (HRG.out _ _ HHq.out.isR).mono ?_
          rintro e106 w106 ⟨rfl, hb106⟩
          have HB106 := Lib.hid (Bel.call HB105.out hb106)
          replace HHa := Lib.hid (HHa.out.call hb106)
          replace HHq := Lib.hid (HHq.out.call hb106)
          clear hb106
          dsimp only
          obtain ⟨⟨qc0, qc1, qc2, qc3, qc4, _⟩, _, _⟩ := HHq.out
          go_wp2_with fail
          clear qc0 qc1 qc2 qc3 qc4
          with_reducible refine (HK1.out _ _ HHq.out.isR).mono ?_
          rintro e107 w107 ⟨rfl, hb107⟩
          have HB107 := Lib.hid (Bel.call HB106.out hb107)
          replace HHa := Lib.hid (HHa.out.call hb107)
          replace HHq := Lib.hid (HHq.out.call hb107)
          clear hb107
          dsimp only
          obtain ⟨⟨qc0, qc1, qc2, qc3, qc4, _⟩, _, _⟩ := HHq.out
          go_wp2_with fail
          clear qc0 qc1 qc2 qc3 qc4
          with_reducible refine (HK2.out _ _ HHq.out.isR).mono ?_
          rintro e108 w108 ⟨rfl, hb108⟩
          have HB108 := Lib.hid (Bel.call HB107.out hb108)
          replace HHa := Lib.hid (HHa.out.call hb108)
          replace HHq := Lib.hid (HHq.out.call hb108)
          clear hb108
          dsimp only
          obtain ⟨⟨qc0, qc1, qc2, qc3, qc4, _⟩, _, _⟩ := HHq.out
          obtain ⟨⟨ac0, ac1, ac2, ac3, ac4, _⟩, _, _⟩ := HHa.out
          go_wp2_with fail
          clear qc0 qc1 qc2 qc3 qc4
          clear ac0 ac1 ac2 ac3 ac4
          go_loopw [14] (fun i wr2 => ∃ j : Nat, j ≤ 8 ∧ i = .int .i64 (j : Int) ∧ Hid (Below w108.heap.size w108 wr2)) (fun i _ => 8 - (intOf i).toNat)
          case atStart => exact ⟨0, by omega, rfl, Lib.hid (Below.refl _ _)⟩
          case round =>
            obtain ⟨j, hj, rfl, HI⟩ := hrel
            replace HB108 := Lib.hid (Bel.call HB108.out HI.out)
            replace HHa := Lib.hid (HHa.out.call HI.out)
            replace HHq := Lib.hid (HHq.out.call HI.out)
            by_cases hlt2 : (j : Int) < 8
            · have hj8 : j < 8 := by omega
              have HWH := Lib.hid fun w => who_at hj8 w
              have hws : (whoN j).size ≤ 5000 := by have := who_size j; omega
              have HOT := Lib.hid (fun wr (h : (whoN j).data.toList ≠ U.data.toList) => HS.out.others _ wr h)
              obtain ⟨b1, hb1⟩ : ∃ b, can r (whoN j).data.toList false = b := ⟨_, rfl⟩
              obtain ⟨b2, hb2⟩ : ∃ b, can r (whoN j).data.toList true = b := ⟨_, rfl⟩
              have HA1 := Lib.hid (can_to CO hb1 (few_right HRR.out) hws)
              have HA2 := Lib.hid (can_to CO hb2 (few_right HRR.out) hws)
              have HT1 := Lib.hid (fun h => can_to CO ((HOT.out false h).trans hb1) (few_right HS.out.right) hws)
              have HT2 := Lib.hid (fun h => can_to CO ((HOT.out true h).trans hb2) (few_right HS.out.right) hws)
              clear HOT hws hb1 hb2
              obtain ⟨Wj, hWj⟩ : ∃ W, whoN j = W := ⟨_, rfl⟩
              rw [hWj] at HWH HA1 HA2 HT1 HT2
              clear hWj
              go_wp2_with fail
              have hdr := Below.drewN' (Below.refl wr.heap.size wr) 1
              by_cases hWU : Wj.data.toList = U.data.toList
              · have qw := s_eq hWU
                clear hWU HT1 HT2
                refine Ord.region_lit (S := fun w' => Below w108.heap.size w108 w' ∧ HoldL [gq, ga] ga w' oa fa pa Aa na ca Ba ma da r ∧ HoldL [gq, ga] gq w' o103 f103 (pa + 1) A103 n103 c103 B103 m103 d103 s) (by kernel_rfl) (by kernel_rfl) ⟨Bel.call HI.out hdr, HHa.out.call hdr, HHq.out.call hdr⟩ ?_
                clear hdr
                refine Ord.stepR (v := ?_) (by rfl) ?_ ?_
                rotate_left
                · intro w' hSw
                  obtain ⟨_, ⟨⟨ac0, ac1, ac2, ac3, ac4, _⟩, _⟩, ⟨⟨qc0, qc1, qc2, qc3, qc4, _⟩, _⟩⟩ := hSw
                  go_simp
                  try with_reducible rfl
                try simp only [Act.put, List.setIfInBounds_toArray, List.set_cons_zero, List.set_cons_succ]
                refine Ord.stepC (v := .string Wj) (by rfl) ?_ (fun w1 hS => (HWH.out w1).mono fun e w2 h => ⟨h.1, Bel.call hS.1 h.2, hS.2.1.call h.2, hS.2.2.call h.2⟩) ?_
                · intro w' hSw
                  go_simp
                  try with_reducible rfl
                try simp only [Act.put, List.setIfInBounds_toArray, List.set_cons_zero, List.set_cons_succ]
                refine Ord.stepR (v := ?_) (by rfl) ?_ ?_
                rotate_left
                · intro w' hSw
                  obtain ⟨_, ⟨⟨ac0, ac1, ac2, ac3, ac4, _⟩, _⟩, ⟨⟨qc0, qc1, qc2, qc3, qc4, _⟩, _⟩⟩ := hSw
                  go_simp
                  try with_reducible rfl
                try simp only [Act.put, List.setIfInBounds_toArray, List.set_cons_zero, List.set_cons_succ]
                refine Ord.stepR (v := ?_) (by rfl) ?_ ?_
                rotate_left
                · intro w' hSw
                  obtain ⟨_, ⟨⟨ac0, ac1, ac2, ac3, ac4, _⟩, _⟩, ⟨⟨qc0, qc1, qc2, qc3, qc4, _⟩, _⟩⟩ := hSw
                  go_simp
                  try with_reducible rfl
                try simp only [Act.put, List.setIfInBounds_toArray, List.set_cons_zero, List.set_cons_succ]
                refine Ord.stepR (v := ?_) (by rfl) ?_ ?_
                rotate_left
                · intro w' hSw
                  obtain ⟨_, ⟨⟨ac0, ac1, ac2, ac3, ac4, _⟩, _⟩, ⟨⟨qc0, qc1, qc2, qc3, qc4, _⟩, _⟩⟩ := hSw
                  go_simp
                  try with_reducible rfl
                try simp only [Act.put, List.setIfInBounds_toArray, List.set_cons_zero, List.set_cons_succ]
                refine Ord.stepS (by rfl) ?_
                try simp only [Act.put, List.setIfInBounds_toArray, List.set_cons_zero, List.set_cons_succ]
                refine Ord.stepS (by rfl) ?_
                try simp only [Act.put, List.setIfInBounds_toArray, List.set_cons_zero, List.set_cons_succ]
                refine Ord.stepS (by rfl) ?_
                try simp only [Act.put, List.setIfInBounds_toArray, List.set_cons_zero, List.set_cons_succ]
                refine Ord.stepS (by rfl) ?_
                try simp only [Act.put, List.setIfInBounds_toArray, List.set_cons_zero, List.set_cons_succ]
                refine Ord.stepS (by rfl) ?_
                try simp only [Act.put, List.setIfInBounds_toArray, List.set_cons_zero, List.set_cons_succ]
                refine Ord.stepS (by rfl) ?_
                try simp only [Act.put, List.setIfInBounds_toArray, List.set_cons_zero, List.set_cons_succ]
                refine Ord.stepS (by rfl) ?_
                try simp only [Act.put, List.setIfInBounds_toArray, List.set_cons_zero, List.set_cons_succ]
                refine Ord.stepS (by rfl) ?_
                try simp only [Act.put, List.setIfInBounds_toArray, List.set_cons_zero, List.set_cons_succ]
                refine Ord.stepS (by rfl) ?_
                try simp only [Act.put, List.setIfInBounds_toArray, List.set_cons_zero, List.set_cons_succ]
                refine Ord.stepS (by rfl) ?_
                try simp only [Act.put, List.setIfInBounds_toArray, List.set_cons_zero, List.set_cons_succ]
                refine Ord.stepS (by rfl) ?_
                try simp only [Act.put, List.setIfInBounds_toArray, List.set_cons_zero, List.set_cons_succ]
                refine Ord.stepS (by rfl) ?_
                try simp only [Act.put, List.setIfInBounds_toArray, List.set_cons_zero, List.set_cons_succ]
                refine Ord.stepS (by rfl) ?_
                try simp only [Act.put, List.setIfInBounds_toArray, List.set_cons_zero, List.set_cons_succ]
                refine Ord.stepS (by rfl) ?_
                try simp only [Act.put, List.setIfInBounds_toArray, List.set_cons_zero, List.set_cons_succ]
                refine Ord.stepS (by rfl) ?_
                try simp only [Act.put, List.setIfInBounds_toArray, List.set_cons_zero, List.set_cons_succ]
                refine Ord.stepS (by rfl) ?_
                try simp only [Act.put, List.setIfInBounds_toArray, List.set_cons_zero, List.set_cons_succ]
                refine Ord.stepS (by rfl) ?_
                try simp only [Act.put, List.setIfInBounds_toArray, List.set_cons_zero, List.set_cons_succ]
                refine Ord.stepS (by rfl) ?_
                try simp only [Act.put, List.setIfInBounds_toArray, List.set_cons_zero, List.set_cons_succ]
                refine Ord.stepS (by rfl) ?_
                try simp only [Act.put, List.setIfInBounds_toArray, List.set_cons_zero, List.set_cons_succ]
                refine Ord.stepS (by rfl) ?_
                try simp only [Act.put, List.setIfInBounds_toArray, List.set_cons_zero, List.set_cons_succ]
                refine Ord.stepR (v := ?_) (by rfl) ?_ ?_
                rotate_left
                · intro w' hSw
                  obtain ⟨_, ⟨⟨ac0, ac1, ac2, ac3, ac4, _⟩, _⟩, ⟨⟨qc0, qc1, qc2, qc3, qc4, _⟩, _⟩⟩ := hSw
                  go_simp
                  try with_reducible rfl
                try simp only [Act.put, List.setIfInBounds_toArray, List.set_cons_zero, List.set_cons_succ]
                refine Ord.stepD ?_
                rintro w9 hS9
                have HS9 := Lib.hid hS9
                clear hS9
                go_wp2
                go_roundw
                case rel => exact ⟨j + 1, by omega, by go_num, Lib.hid HS9.out.1⟩
                case measure => simp [intOf]; omega
              have qw := s_ne hWU
              replace HT1 := Lib.hid (HT1.out hWU)
              replace HT2 := Lib.hid (HT2.out hWU)
              clear hWU
              refine Ord.region_lit (S := fun w' => Below w108.heap.size w108 w' ∧ HoldL [gq, ga] ga w' oa fa pa Aa na ca Ba ma da r ∧ HoldL [gq, ga] gq w' o103 f103 (pa + 1) A103 n103 c103 B103 m103 d103 s) (by kernel_rfl) (by kernel_rfl) ⟨Bel.call HI.out hdr, HHa.out.call hdr, HHq.out.call hdr⟩ ?_
              clear hdr
              refine Ord.stepR (v := ?_) (by rfl) ?_ ?_
              rotate_left
              · intro w' hSw
                obtain ⟨_, ⟨⟨ac0, ac1, ac2, ac3, ac4, _⟩, _⟩, ⟨⟨qc0, qc1, qc2, qc3, qc4, _⟩, _⟩⟩ := hSw
                go_simp
                try with_reducible rfl
              try simp only [Act.put, List.setIfInBounds_toArray, List.set_cons_zero, List.set_cons_succ]
              refine Ord.stepC (v := .string Wj) (by rfl) ?_ (fun w1 hS => (HWH.out w1).mono fun e w2 h => ⟨h.1, Bel.call hS.1 h.2, hS.2.1.call h.2, hS.2.2.call h.2⟩) ?_
              · intro w' hSw
                go_simp
                try with_reducible rfl
              try simp only [Act.put, List.setIfInBounds_toArray, List.set_cons_zero, List.set_cons_succ]
              refine Ord.stepR (v := ?_) (by rfl) ?_ ?_
              rotate_left
              · intro w' hSw
                obtain ⟨_, ⟨⟨ac0, ac1, ac2, ac3, ac4, _⟩, _⟩, ⟨⟨qc0, qc1, qc2, qc3, qc4, _⟩, _⟩⟩ := hSw
                go_simp
                try with_reducible rfl
              try simp only [Act.put, List.setIfInBounds_toArray, List.set_cons_zero, List.set_cons_succ]
              refine Ord.stepR (v := ?_) (by rfl) ?_ ?_
              rotate_left
              · intro w' hSw
                obtain ⟨_, ⟨⟨ac0, ac1, ac2, ac3, ac4, _⟩, _⟩, ⟨⟨qc0, qc1, qc2, qc3, qc4, _⟩, _⟩⟩ := hSw
                go_simp
                try with_reducible rfl
              try simp only [Act.put, List.setIfInBounds_toArray, List.set_cons_zero, List.set_cons_succ]
              refine Ord.stepR (v := ?_) (by rfl) ?_ ?_
              rotate_left
              · intro w' hSw
                obtain ⟨_, ⟨⟨ac0, ac1, ac2, ac3, ac4, _⟩, _⟩, ⟨⟨qc0, qc1, qc2, qc3, qc4, _⟩, _⟩⟩ := hSw
                go_simp
                try with_reducible rfl
              try simp only [Act.put, List.setIfInBounds_toArray, List.set_cons_zero, List.set_cons_succ]
              refine Ord.stepR (v := ?_) (by rfl) ?_ ?_
              rotate_left
              · intro w' hSw
                obtain ⟨_, ⟨⟨ac0, ac1, ac2, ac3, ac4, _⟩, _⟩, ⟨⟨qc0, qc1, qc2, qc3, qc4, _⟩, _⟩⟩ := hSw
                go_simp
                try with_reducible rfl
              try simp only [Act.put, List.setIfInBounds_toArray, List.set_cons_zero, List.set_cons_succ]
              refine Ord.stepR (v := ?_) (by rfl) ?_ ?_
              rotate_left
              · intro w' hSw
                obtain ⟨_, ⟨⟨ac0, ac1, ac2, ac3, ac4, _⟩, _⟩, ⟨⟨qc0, qc1, qc2, qc3, qc4, _⟩, _⟩⟩ := hSw
                go_simp
                try with_reducible rfl
              try simp only [Act.put, List.setIfInBounds_toArray, List.set_cons_zero, List.set_cons_succ]
              refine Ord.stepC (v := .string Wj) (by rfl) ?_ (fun w1 hS => (HWH.out w1).mono fun e w2 h => ⟨h.1, Bel.call hS.1 h.2, hS.2.1.call h.2, hS.2.2.call h.2⟩) ?_
              · intro w' hSw
                go_simp
                try with_reducible rfl
              try simp only [Act.put, List.setIfInBounds_toArray, List.set_cons_zero, List.set_cons_succ]
              refine Ord.stepC (v := .bool b1) (by rfl) ?_ (fun w1 hS => (HT1.out _ _ hS.2.2.isR).mono fun e w2 h => ⟨h.1, Bel.call hS.1 h.2, hS.2.1.call h.2, hS.2.2.call h.2⟩) ?_
              · intro w' hSw
                go_simp
                try with_reducible rfl
              try simp only [Act.put, List.setIfInBounds_toArray, List.set_cons_zero, List.set_cons_succ]
              refine Ord.stepR (v := ?_) (by rfl) ?_ ?_
              rotate_left
              · intro w' hSw
                obtain ⟨_, ⟨⟨ac0, ac1, ac2, ac3, ac4, _⟩, _⟩, ⟨⟨qc0, qc1, qc2, qc3, qc4, _⟩, _⟩⟩ := hSw
                go_simp
                try with_reducible rfl
              try simp only [Act.put, List.setIfInBounds_toArray, List.set_cons_zero, List.set_cons_succ]
              refine Ord.stepR (v := ?_) (by rfl) ?_ ?_
              rotate_left
              · intro w' hSw
                obtain ⟨_, ⟨⟨ac0, ac1, ac2, ac3, ac4, _⟩, _⟩, ⟨⟨qc0, qc1, qc2, qc3, qc4, _⟩, _⟩⟩ := hSw
                go_simp
                try with_reducible rfl
              try simp only [Act.put, List.setIfInBounds_toArray, List.set_cons_zero, List.set_cons_succ]
              refine Ord.stepC (v := .string Wj) (by rfl) ?_ (fun w1 hS => (HWH.out w1).mono fun e w2 h => ⟨h.1, Bel.call hS.1 h.2, hS.2.1.call h.2, hS.2.2.call h.2⟩) ?_
              · intro w' hSw
                go_simp
                try with_reducible rfl
              try simp only [Act.put, List.setIfInBounds_toArray, List.set_cons_zero, List.set_cons_succ]
              refine Ord.stepC (v := .bool b1) (by rfl) ?_ (fun w1 hS => (HA1.out _ _ hS.2.1.isR).mono fun e w2 h => ⟨h.1, Bel.call hS.1 h.2, hS.2.1.call h.2, hS.2.2.call h.2⟩) ?_
              · intro w' hSw
                go_simp
                try with_reducible rfl
              try simp only [Act.put, List.setIfInBounds_toArray, List.set_cons_zero, List.set_cons_succ]
              refine Ord.stepR (v := ?_) (by rfl) ?_ ?_
              rotate_left
              · intro w' hSw
                obtain ⟨_, ⟨⟨ac0, ac1, ac2, ac3, ac4, _⟩, _⟩, ⟨⟨qc0, qc1, qc2, qc3, qc4, _⟩, _⟩⟩ := hSw
                go_simp
                try with_reducible rfl
              try simp only [Act.put, List.setIfInBounds_toArray, List.set_cons_zero, List.set_cons_succ]
              refine Ord.stepR (v := ?_) (by rfl) ?_ ?_
              rotate_left
              · intro w' hSw
                obtain ⟨_, ⟨⟨ac0, ac1, ac2, ac3, ac4, _⟩, _⟩, ⟨⟨qc0, qc1, qc2, qc3, qc4, _⟩, _⟩⟩ := hSw
                go_simp
                try with_reducible rfl
              try simp only [Act.put, List.setIfInBounds_toArray, List.set_cons_zero, List.set_cons_succ]
              refine Ord.stepR (v := ?_) (by rfl) ?_ ?_
              rotate_left
              · intro w' hSw
                obtain ⟨_, ⟨⟨ac0, ac1, ac2, ac3, ac4, _⟩, _⟩, ⟨⟨qc0, qc1, qc2, qc3, qc4, _⟩, _⟩⟩ := hSw
                go_simp
                try with_reducible rfl
              try simp only [Act.put, List.setIfInBounds_toArray, List.set_cons_zero, List.set_cons_succ]
              refine Ord.stepR (v := ?_) (by rfl) ?_ ?_
              rotate_left
              · intro w' hSw
                obtain ⟨_, ⟨⟨ac0, ac1, ac2, ac3, ac4, _⟩, _⟩, ⟨⟨qc0, qc1, qc2, qc3, qc4, _⟩, _⟩⟩ := hSw
                go_simp
                try with_reducible rfl
              try simp only [Act.put, List.setIfInBounds_toArray, List.set_cons_zero, List.set_cons_succ]
              refine Ord.stepC (v := .string Wj) (by rfl) ?_ (fun w1 hS => (HWH.out w1).mono fun e w2 h => ⟨h.1, Bel.call hS.1 h.2, hS.2.1.call h.2, hS.2.2.call h.2⟩) ?_
              · intro w' hSw
                go_simp
                try with_reducible rfl
              try simp only [Act.put, List.setIfInBounds_toArray, List.set_cons_zero, List.set_cons_succ]
              refine Ord.stepC (v := .bool b2) (by rfl) ?_ (fun w1 hS => (HT2.out _ _ hS.2.2.isR).mono fun e w2 h => ⟨h.1, Bel.call hS.1 h.2, hS.2.1.call h.2, hS.2.2.call h.2⟩) ?_
              · intro w' hSw
                go_simp
                try with_reducible rfl
              try simp only [Act.put, List.setIfInBounds_toArray, List.set_cons_zero, List.set_cons_succ]
              refine Ord.stepR (v := ?_) (by rfl) ?_ ?_
              rotate_left
              · intro w' hSw
                obtain ⟨_, ⟨⟨ac0, ac1, ac2, ac3, ac4, _⟩, _⟩, ⟨⟨qc0, qc1, qc2, qc3, qc4, _⟩, _⟩⟩ := hSw
                go_simp
                try with_reducible rfl
              try simp only [Act.put, List.setIfInBounds_toArray, List.set_cons_zero, List.set_cons_succ]
              refine Ord.stepR (v := ?_) (by rfl) ?_ ?_
              rotate_left
              · intro w' hSw
                obtain ⟨_, ⟨⟨ac0, ac1, ac2, ac3, ac4, _⟩, _⟩, ⟨⟨qc0, qc1, qc2, qc3, qc4, _⟩, _⟩⟩ := hSw
                go_simp
                try with_reducible rfl
              try simp only [Act.put, List.setIfInBounds_toArray, List.set_cons_zero, List.set_cons_succ]
              refine Ord.stepC (v := .string Wj) (by rfl) ?_ (fun w1 hS => (HWH.out w1).mono fun e w2 h => ⟨h.1, Bel.call hS.1 h.2, hS.2.1.call h.2, hS.2.2.call h.2⟩) ?_
              · intro w' hSw
                go_simp
                try with_reducible rfl
              try simp only [Act.put, List.setIfInBounds_toArray, List.set_cons_zero, List.set_cons_succ]
              refine Ord.stepC (v := .bool b2) (by rfl) ?_ (fun w1 hS => (HA2.out _ _ hS.2.1.isR).mono fun e w2 h => ⟨h.1, Bel.call hS.1 h.2, hS.2.1.call h.2, hS.2.2.call h.2⟩) ?_
              · intro w' hSw
                go_simp
                try with_reducible rfl
              try simp only [Act.put, List.setIfInBounds_toArray, List.set_cons_zero, List.set_cons_succ]
              refine Ord.stepR (v := ?_) (by rfl) ?_ ?_
              rotate_left
              · intro w' hSw
                obtain ⟨_, ⟨⟨ac0, ac1, ac2, ac3, ac4, _⟩, _⟩, ⟨⟨qc0, qc1, qc2, qc3, qc4, _⟩, _⟩⟩ := hSw
                go_simp
                try with_reducible rfl
              try simp only [Act.put, List.setIfInBounds_toArray, List.set_cons_zero, List.set_cons_succ]
              refine Ord.stepR (v := ?_) (by rfl) ?_ ?_
              rotate_left
              · intro w' hSw
                obtain ⟨_, ⟨⟨ac0, ac1, ac2, ac3, ac4, _⟩, _⟩, ⟨⟨qc0, qc1, qc2, qc3, qc4, _⟩, _⟩⟩ := hSw
                go_simp
                try with_reducible rfl
              try simp only [Act.put, List.setIfInBounds_toArray, List.set_cons_zero, List.set_cons_succ]
              refine Ord.stepR (v := ?_) (by rfl) ?_ ?_
              rotate_left
              · intro w' hSw
                obtain ⟨_, ⟨⟨ac0, ac1, ac2, ac3, ac4, _⟩, _⟩, ⟨⟨qc0, qc1, qc2, qc3, qc4, _⟩, _⟩⟩ := hSw
                go_simp
                try with_reducible rfl
              try simp only [Act.put, List.setIfInBounds_toArray, List.set_cons_zero, List.set_cons_succ]
              refine Ord.stepD ?_
              rintro w9 hS9
              have HS9 := Lib.hid hS9
              clear hS9
              go_wp2
              go_roundw
              case rel => exact ⟨j + 1, by omega, by go_num, Lib.hid HS9.out.1⟩
              case measure => simp [intOf]; omega
            · have hne := HNaq.out
              have hne' : ¬ gq = ga := fun h => HNaq.out h.symm
              obtain ⟨⟨qc0, qc1, qc2, qc3, qc4, _⟩, _, _⟩ := HHq.out
              obtain ⟨⟨ac0, ac1, ac2, ac3, ac4, _⟩, ⟨az0, az1, az2, az3, az4⟩, _⟩ := HHa.out
              go_wp2
              go_roundw
              case rel => exact ⟨k + 1, s, by omega, by go_num, Lib.hid ⟨HANS.out, ((hold_set5 (List.mem_cons_of_mem _ (List.mem_cons_self ..)) HHa.out HHq.out.isX).sub (fun b hb => List.mem_cons_of_mem _ hb)).shut, set5 HB108.out HGA.out⟩⟩
              case measure => simp [intOf]; omega
        · have hS := rv_none HRR.out HUN.out HSE.out
          obtain ⟨hu, hcn⟩ | ⟨hu, hcn⟩ := hS.2
          · obtain rfl : bc = true := HBC.out.symm.trans hcn
            have qu : (U.toList == [97, 110, 110, 97]) = true := by
              rw [Lib.toList_data, hu.trans HRO.out]
              rfl
            clear hS hu hcn
            obtain ⟨⟨ac0, ac1, ac2, ac3, ac4, _⟩, _, _⟩ := HHa.out
            go_wp2
            go_roundw
            case rel => exact ⟨k + 1, r, by omega, by go_num, Lib.hid ⟨HAN.out, (HHa.out.sub (fun b hb => List.mem_cons_of_mem _ hb)).shut, HB105.out⟩⟩
            case measure => simp [intOf]; omega
          · obtain rfl : bc = false := HBC.out.symm.trans hcn
            clear hS hu hcn
            obtain ⟨⟨ac0, ac1, ac2, ac3, ac4, _⟩, _, _⟩ := HHa.out
            go_wp2
            go_roundw
            case rel => exact ⟨k + 1, r, by omega, by go_num, Lib.hid ⟨HAN.out, (HHa.out.sub (fun b hb => List.mem_cons_of_mem _ hb)).shut, HB105.out⟩⟩
            case measure => simp [intOf]; omega
        · have hS := rv_end HRR.out HUN.out HSE.out
          obtain rfl : bc = true := HBC.out.symm.trans hS.2.1
          have qu : (U.toList == [97, 110, 110, 97]) = false := by
            rw [beq_eq_false_iff_ne, Lib.toList_data]
            exact fun h => hS.2.2.1 (h.trans HRO.out.symm)
          have hp7 : ¬ pa < 7 := by have := hS.2.2.2; rw [HPa.out]; omega
          clear hS
          obtain ⟨⟨ac0, ac1, ac2, ac3, ac4, _⟩, _, _⟩ := HHa.out
          go_wp2
          go_roundw
          case rel => exact ⟨k + 1, r, by omega, by go_num, Lib.hid ⟨HAN.out, (HHa.out.sub (fun b hb => List.mem_cons_of_mem _ hb)).shut, HB105.out⟩⟩
          case measure => simp [intOf]; omega
    · go_wp2
      go_ret
      exact ⟨rfl, HBw.out⟩
end Go.Proofs.Ytjikepfgfbnheaa.Rig
