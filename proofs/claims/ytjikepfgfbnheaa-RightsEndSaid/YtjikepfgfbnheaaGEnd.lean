/-
  RightsEnd's walk, over what package rights is held to. By an AI agent; no person has read it.
-/
import Derived.Test.YtjikepfgfbnheaaGTo
namespace Go.Proofs.Ytjikepfgfbnheaa.Rig
open Go.RowKit Wire

set_option linter.unusedSimpArgs false
set_option maxHeartbeats 8000000 in
set_option maxRecDepth 1000000 in
theorem end_walk (CO : CanOK) (NO : NewOK) (GO : GrantOK) (RO : RevokeOK) (c : Int) (w : World) (hc : -9223372036854775808 ≤ c ∧ c ≤ 9223372036854775807) :
    Calls Try.prog 9 #[.int .i64 c] w fun e w' => e = .returned (.bool true) ∧ Below w.heap.size w w' := by

  have HSH := Lib.hid fun w => shown7_any NO GO CO w
  have HN := Lib.hid (new_to NO)
  have hk7 := pk_lt c (n := 7) (by decide)
  have HPK : Hid (∀ w, Calls Try.prog 28 #[.int .i64 c, .int .i64 7] w fun e w' => e = .returned (.int .i64 (pk c 7 : Int)) ∧ w' = w) := fun w => pick7_any c 7 w hc (by decide) (by decide)
  obtain ⟨K, hK⟩ : ∃ K, pk c 7 = K := ⟨_, rfl⟩
  rw [hK] at HPK hk7
  clear hK
  have HW : Hid (∀ w, Calls Try.prog 27 #[.int .i64 (1 + (K : Int))] w fun e w' => e = .returned (.string (whoN (1 + K))) ∧ Below w.heap.size w w') := fun w => by
    have h := who_at (m := 1 + K) (by omega) w
    rw [show ((1 + K : Nat) : Int) = 1 + (K : Int) by omega] at h
    exact h
  have hun := who_right (m := 1 + K) (by omega)
  have hno := who_anna (m := 1 + K) (by omega) (by omega)
  have hus : (whoN (1 + K)).size ≤ 5000 := by have := who_size (1 + K); omega
  obtain ⟨U, hU⟩ : ∃ U, whoN (1 + K) = U := ⟨_, rfl⟩
  rw [hU] at HW hun hno hus
  clear hU
  have HUN := Lib.hid hun
  have HNO := Lib.hid hno
  have HUS := Lib.hid hus
  clear hun hno hus
  have hw1 : IntKind.i64.wrap (1 + (K : Int)) = 1 + (K : Int) := by rw [IntKind.wrap_i64]; omega
  go_enter Try.func9, Try.ntmps9
  go_wp2_with fail
  with_reducible refine (HSH.out _).mono ?_
  rintro e1 w1 ⟨rfl, hb1⟩
  have HB1 := Lib.hid hb1
  clear hb1
  dsimp only
  go_wp2_with fail
  with_reducible refine (HN.out _ _ gs_nil).mono ?_
  rintro e2 w2 ⟨⟨v2, hx2, rfl⟩, hb2⟩
  obtain ⟨o2, f2, p2, A2, n2, c2, B2, m2, d2, rfl, hp2, hn2, hm2, ho2, hf2, hx2⟩ := isX_lit hx2
  have HB2 := Lib.hid (Bel.call HB1.out hb2)
  have HX2 := Lib.hid hx2
  have HO2 := Lib.hid ho2
  have HF2 := Lib.hid hf2
  have HP2 := Lib.hid hp2
  have HN2 := Lib.hid hn2
  have HM2 := Lib.hid hm2
  clear hb2 hx2 ho2 hf2 hp2 hn2 hm2
  dsimp only at HX2 HO2 HF2 HP2 HN2 HM2 ⊢
  go_wp2_with fail
  obtain ⟨ga, hga⟩ : ∃ g, w2.heap.size = g := ⟨_, rfl⟩
  have HGA : Hid (w.heap.size ≤ ga) := by rw [← hga]; exact HB2.out.size
  have hh3 := hold_alloc (t := 24) HX2.out
  have hba3 := al w2 (.cells #[.string o2, .string f2, .int .i64 p2, .slice A2 n2 c2, .slice B2 m2 d2] 24)
  generalize w2.alloc (.cells #[.string o2, .string f2, .int .i64 p2, .slice A2 n2 c2, .slice B2 m2 d2] 24) = w3 at hh3 hba3 ⊢
  rw [hga] at hh3 ⊢
  have HHa := Lib.hid hh3
  have HB3 := Lib.hid (Bel.call HB2.out hba3)
  clear hh3 hba3 hga
  with_reducible refine (HPK.out _).mono ?_
  rintro e v ⟨rfl, h⟩
  obtain rfl : w3 = v := h.symm
  dsimp only
  go_wp2_with fail
  with_reducible refine (HW.out _).mono ?_
  rintro e4 w4 ⟨rfl, hb4⟩
  have HB4 := Lib.hid (Bel.call HB3.out hb4)
  replace HHa := Lib.hid (HHa.out.call hb4)
  clear hb4
  dsimp only
  go_wp2_with fail
  clear hw1
  have HS0 : Hid (Hold [ga] ga w4 (rE 0)) := HHa.out.shut
  go_loopw [7] (fun i wr => ∃ k : Nat, k ≤ 7 ∧ i = .int .i64 (k : Int) ∧ Hid (Hold [ga] ga wr (rE k) ∧ Below w.heap.size w wr)) (fun i _ => 7 - (intOf i).toNat)
  case atStart => exact ⟨0, by omega, rfl, Lib.hid ⟨HS0.out, HB4.out⟩⟩
  case round =>
    clear HHa HS0
    obtain ⟨k, hk, rfl, HI⟩ := hrel
    obtain ⟨hh0, hbw⟩ := HI.out
    have HBw := Lib.hid hbw
    clear hbw HI
    obtain ⟨r, hr⟩ : ∃ r, rE k = r := ⟨_, rfl⟩
    have hrr := rrE hk
    rw [hr] at hh0 hrr
    have HR := Lib.hid hr
    have HRR := Lib.hid hrr
    clear hr hrr
    obtain ⟨oa, fa, pa, Aa, na, ca, Ba, ma, da, hha, hpa, hna, hma, hoa, hfa⟩ := hh0
    have HHa := Lib.hid hha
    have HOa := Lib.hid hoa
    have HFa := Lib.hid hfa
    have HPa := Lib.hid hpa
    have HNa := Lib.hid hna
    have HMa := Lib.hid hma
    clear hha hpa hna hma hoa hfa
    by_cases hlt : (k : Int) < 7
    · obtain ⟨hp1, hp2⟩ | ⟨hp1, hp2⟩ := par k
      · obtain ⟨s, hs⟩ : ∃ s, gr r U.data.toList true = (s, 0) := by rw [← HR.out]; exact grE hk HUN.out HNO.out _
        have hG := gr_ok HRR.out HUN.out hs
        have HG := Lib.hid (grant_to GO hs (few_right HRR.out) HUS.out)
        have HSR := Lib.hid hG.right
        have hrv := rv_gr hG HUN.out
        obtain ⟨q, hq⟩ : ∃ q, rE (k + 1) = q := ⟨_, rfl⟩
        have hrq : rv s U.data.toList = (q, 0) := by
          rcases hrv with ⟨h1, _⟩ | ⟨_, h2⟩
          · rw [← HR.out] at h1
            have h1 : (k : Int) = 7 := h1
            omega
          · rw [h2, ← HR.out, ← hq]; rfl
        have HQ := Lib.hid (revoke_to RO hrq (few_right HSR.out) HUS.out)
        have HQE : Hid (q.ep = (k : Int) + 1) := by rw [← hq]; rfl
        have HQK := Lib.hid hq
        clear hs hG hrv hrq hq
        obtain ⟨⟨ac0, ac1, ac2, ac3, ac4, _⟩, _, _⟩ := HHa.out
        go_wp2_with fail
        clear ac0 ac1 ac2 ac3 ac4
        with_reducible refine (HG.out _ _ _ (gs_cons HHa.out.lt gs_nil) HHa.out.isX).mono ?_
        rintro e101 w101 ⟨⟨v101, hx101, rfl⟩, hb101⟩
        obtain ⟨o101, f101, p101, A101, n101, c101, B101, m101, d101, rfl, hp101, hn101, hm101, ho101, hf101, hx101⟩ := isX_lit hx101
        have HB101 := Lib.hid (Bel.call HBw.out hb101)
        replace HHa := Lib.hid (HHa.out.call hb101)
        have HX101 := Lib.hid hx101
        have HO101 := Lib.hid ho101
        have HF101 := Lib.hid hf101
        have HP101 := Lib.hid hp101
        have HN101 := Lib.hid hn101
        have HM101 := Lib.hid hm101
        clear hb101 hx101 ho101 hf101 hp101 hn101 hm101
        dsimp only at HX101 HO101 HF101 HP101 HN101 HM101 ⊢
        go_wp2_with fail
        obtain ⟨gb, hgb⟩ : ∃ g, w101.heap.size = g := ⟨_, rfl⟩
        have hh102 := hold_alloc (t := 24) HX101.out
        have hba102 := al w101 (.cells #[.string o101, .string f101, .int .i64 p101, .slice A101 n101 c101, .slice B101 m101 d101] 24)
        have hna102 := HHa.out.new (ob := (.cells #[.string o101, .string f101, .int .i64 p101, .slice A101 n101 c101, .slice B101 m101 d101] 24))
        generalize w101.alloc (.cells #[.string o101, .string f101, .int .i64 p101, .slice A101 n101 c101, .slice B101 m101 d101] 24) = w102 at hh102 hba102 hna102 ⊢
        rw [hgb] at hh102 hna102 ⊢
        replace HHa := Lib.hid hna102
        have HHb := Lib.hid hh102
        have HB102 := Lib.hid (Bel.call HB101.out hba102)
        clear hh102 hba102 hgb hna102
        with_reducible refine (HQ.out _ _ _ (gs_cons HHb.out.lt (gs_cons HHa.out.lt gs_nil)) HHb.out.isX).mono ?_
        rintro e103 w103 ⟨⟨v103, hx103, rfl⟩, hb103⟩
        obtain ⟨o103, f103, p103, A103, n103, c103, B103, m103, d103, rfl, hp103, hn103, hm103, ho103, hf103, hx103⟩ := isX_lit hx103
        have HB103 := Lib.hid (Bel.call HB102.out hb103)
        replace HHa := Lib.hid (HHa.out.call hb103)
        replace HHb := Lib.hid (HHb.out.call hb103)
        have HX103 := Lib.hid hx103
        have HO103 := Lib.hid ho103
        have HF103 := Lib.hid hf103
        have HP103 := Lib.hid hp103
        have HN103 := Lib.hid hn103
        have HM103 := Lib.hid hm103
        clear hb103 hx103 ho103 hf103 hp103 hn103 hm103
        dsimp only at HX103 HO103 HF103 HP103 HN103 HM103 ⊢
        obtain rfl : p103 = (k : Int) + 1 := HP103.out.trans HQE.out
        obtain ⟨gc, hgc⟩ : ∃ g, w103.heap.size = g := ⟨_, rfl⟩
        have hhc := hold_alloc (t := 24) HX103.out
        have hbc := al w103 (.cells #[.string o103, .string f103, .int .i64 ((k : Int) + 1), .slice A103 n103 c103, .slice B103 m103 d103] 24)
        have hna := HHa.out.new (ob := (.cells #[.string o103, .string f103, .int .i64 ((k : Int) + 1), .slice A103 n103 c103, .slice B103 m103 d103] 24))
        rw [hgc] at hhc hna
        have HNA := Lib.hid hna
        have HNC := Lib.hid hhc
        have HBC := Lib.hid (Bel.call HB103.out hbc)
        obtain ⟨⟨ac0, ac1, ac2, ac3, ac4, _⟩, ⟨az0, az1, az2, az3, az4⟩, _⟩ := hna
        clear hhc hbc
        go_wp2
        go_roundw
        case rel => exact ⟨k + 1, by omega, by go_num, Lib.hid ⟨by rw [HQK.out]; exact ((hold_set5 (List.mem_cons_of_mem _ (List.mem_cons_of_mem _ (List.mem_cons_self ..))) HNA.out HNC.out.isX).sub (fun x hx => List.mem_cons_of_mem _ (List.mem_cons_of_mem _ hx))).shut, set5 HBC.out HGA.out⟩⟩
        case measure => simp [intOf]; omega
      · obtain ⟨s, hs⟩ : ∃ s, gr r U.data.toList false = (s, 0) := by rw [← HR.out]; exact grE hk HUN.out HNO.out _
        have hG := gr_ok HRR.out HUN.out hs
        have HG := Lib.hid (grant_to GO hs (few_right HRR.out) HUS.out)
        have HSR := Lib.hid hG.right
        have hrv := rv_gr hG HUN.out
        obtain ⟨q, hq⟩ : ∃ q, rE (k + 1) = q := ⟨_, rfl⟩
        have hrq : rv s U.data.toList = (q, 0) := by
          rcases hrv with ⟨h1, _⟩ | ⟨_, h2⟩
          · rw [← HR.out] at h1
            have h1 : (k : Int) = 7 := h1
            omega
          · rw [h2, ← HR.out, ← hq]; rfl
        have HQ := Lib.hid (revoke_to RO hrq (few_right HSR.out) HUS.out)
        have HQE : Hid (q.ep = (k : Int) + 1) := by rw [← hq]; rfl
        have HQK := Lib.hid hq
        clear hs hG hrv hrq hq
        obtain ⟨⟨ac0, ac1, ac2, ac3, ac4, _⟩, _, _⟩ := HHa.out
        go_wp2_with fail
        clear ac0 ac1 ac2 ac3 ac4
        with_reducible refine (HG.out _ _ _ (gs_cons HHa.out.lt gs_nil) HHa.out.isX).mono ?_
        rintro e101 w101 ⟨⟨v101, hx101, rfl⟩, hb101⟩
        obtain ⟨o101, f101, p101, A101, n101, c101, B101, m101, d101, rfl, hp101, hn101, hm101, ho101, hf101, hx101⟩ := isX_lit hx101
        have HB101 := Lib.hid (Bel.call HBw.out hb101)
        replace HHa := Lib.hid (HHa.out.call hb101)
        have HX101 := Lib.hid hx101
        have HO101 := Lib.hid ho101
        have HF101 := Lib.hid hf101
        have HP101 := Lib.hid hp101
        have HN101 := Lib.hid hn101
        have HM101 := Lib.hid hm101
        clear hb101 hx101 ho101 hf101 hp101 hn101 hm101
        dsimp only at HX101 HO101 HF101 HP101 HN101 HM101 ⊢
        go_wp2_with fail
        obtain ⟨gb, hgb⟩ : ∃ g, w101.heap.size = g := ⟨_, rfl⟩
        have hh102 := hold_alloc (t := 24) HX101.out
        have hba102 := al w101 (.cells #[.string o101, .string f101, .int .i64 p101, .slice A101 n101 c101, .slice B101 m101 d101] 24)
        have hna102 := HHa.out.new (ob := (.cells #[.string o101, .string f101, .int .i64 p101, .slice A101 n101 c101, .slice B101 m101 d101] 24))
        generalize w101.alloc (.cells #[.string o101, .string f101, .int .i64 p101, .slice A101 n101 c101, .slice B101 m101 d101] 24) = w102 at hh102 hba102 hna102 ⊢
        rw [hgb] at hh102 hna102 ⊢
        replace HHa := Lib.hid hna102
        have HHb := Lib.hid hh102
        have HB102 := Lib.hid (Bel.call HB101.out hba102)
        clear hh102 hba102 hgb hna102
        with_reducible refine (HQ.out _ _ _ (gs_cons HHb.out.lt (gs_cons HHa.out.lt gs_nil)) HHb.out.isX).mono ?_
        rintro e103 w103 ⟨⟨v103, hx103, rfl⟩, hb103⟩
        obtain ⟨o103, f103, p103, A103, n103, c103, B103, m103, d103, rfl, hp103, hn103, hm103, ho103, hf103, hx103⟩ := isX_lit hx103
        have HB103 := Lib.hid (Bel.call HB102.out hb103)
        replace HHa := Lib.hid (HHa.out.call hb103)
        replace HHb := Lib.hid (HHb.out.call hb103)
        have HX103 := Lib.hid hx103
        have HO103 := Lib.hid ho103
        have HF103 := Lib.hid hf103
        have HP103 := Lib.hid hp103
        have HN103 := Lib.hid hn103
        have HM103 := Lib.hid hm103
        clear hb103 hx103 ho103 hf103 hp103 hn103 hm103
        dsimp only at HX103 HO103 HF103 HP103 HN103 HM103 ⊢
        obtain rfl : p103 = (k : Int) + 1 := HP103.out.trans HQE.out
        obtain ⟨gc, hgc⟩ : ∃ g, w103.heap.size = g := ⟨_, rfl⟩
        have hhc := hold_alloc (t := 24) HX103.out
        have hbc := al w103 (.cells #[.string o103, .string f103, .int .i64 ((k : Int) + 1), .slice A103 n103 c103, .slice B103 m103 d103] 24)
        have hna := HHa.out.new (ob := (.cells #[.string o103, .string f103, .int .i64 ((k : Int) + 1), .slice A103 n103 c103, .slice B103 m103 d103] 24))
        rw [hgc] at hhc hna
        have HNA := Lib.hid hna
        have HNC := Lib.hid hhc
        have HBC := Lib.hid (Bel.call HB103.out hbc)
        obtain ⟨⟨ac0, ac1, ac2, ac3, ac4, _⟩, ⟨az0, az1, az2, az3, az4⟩, _⟩ := hna
        clear hhc hbc
        go_wp2
        go_roundw
        case rel => exact ⟨k + 1, by omega, by go_num, Lib.hid ⟨by rw [HQK.out]; exact ((hold_set5 (List.mem_cons_of_mem _ (List.mem_cons_of_mem _ (List.mem_cons_self ..))) HNA.out HNC.out.isX).sub (fun x hx => List.mem_cons_of_mem _ (List.mem_cons_of_mem _ hx))).shut, set5 HBC.out HGA.out⟩⟩
        case measure => simp [intOf]; omega
    · obtain rfl : k = 7 := by omega
      obtain ⟨s, hs⟩ : ∃ s, gr r U.data.toList true = (s, 0) := by rw [← HR.out]; exact grE hk HUN.out HNO.out _
      have hG := gr_ok HRR.out HUN.out hs
      have HG := Lib.hid (grant_to GO hs (few_right HRR.out) HUS.out)
      have HSR := Lib.hid hG.right
      have hrv : rv s U.data.toList = (zero, 9) := by
        rcases rv_gr hG HUN.out with ⟨_, h⟩ | ⟨h, _⟩
        · exact h
        · rw [← HR.out] at h; exact absurd (show (7 : Int) < 7 from h) (by decide)
      have hr4 : rv r U.data.toList = (zero, 4) := by rw [← HR.out]; exact rvE hk HUN.out
      have HQ := Lib.hid (revoke_to RO hrv (few_right HSR.out) HUS.out)
      have HQ4 := Lib.hid (revoke_to RO hr4 (few_right HRR.out) HUS.out)
      have HC := Lib.hid (can_to CO hG.writes (few_right HSR.out) HUS.out)
      have HSE : Hid (s.ep = 7) := by show s.ep = 7; rw [hG.epoch, ← HR.out]; rfl
      clear hs hG hrv hr4
      obtain ⟨⟨ac0, ac1, ac2, ac3, ac4, _⟩, _, _⟩ := HHa.out
      go_wp2_with fail
      clear ac0 ac1 ac2 ac3 ac4
      with_reducible refine (HG.out _ _ _ (gs_cons HHa.out.lt gs_nil) HHa.out.isX).mono ?_
      rintro e101 w101 ⟨⟨v101, hx101, rfl⟩, hb101⟩
      obtain ⟨o101, f101, p101, A101, n101, c101, B101, m101, d101, rfl, hp101, hn101, hm101, ho101, hf101, hx101⟩ := isX_lit hx101
      have HB101 := Lib.hid (Bel.call HBw.out hb101)
      replace HHa := Lib.hid (HHa.out.call hb101)
      have HX101 := Lib.hid hx101
      have HO101 := Lib.hid ho101
      have HF101 := Lib.hid hf101
      have HP101 := Lib.hid hp101
      have HN101 := Lib.hid hn101
      have HM101 := Lib.hid hm101
      clear hb101 hx101 ho101 hf101 hp101 hn101 hm101
      dsimp only at HX101 HO101 HF101 HP101 HN101 HM101 ⊢
      obtain rfl : p101 = 7 := HP101.out.trans HSE.out
      go_wp2_with fail
      obtain ⟨gb, hgb⟩ : ∃ g, w101.heap.size = g := ⟨_, rfl⟩
      have hh102 := hold_alloc (t := 24) HX101.out
      have hba102 := al w101 (.cells #[.string o101, .string f101, .int .i64 7, .slice A101 n101 c101, .slice B101 m101 d101] 24)
      have hna102 := HHa.out.new (ob := (.cells #[.string o101, .string f101, .int .i64 7, .slice A101 n101 c101, .slice B101 m101 d101] 24))
      generalize w101.alloc (.cells #[.string o101, .string f101, .int .i64 7, .slice A101 n101 c101, .slice B101 m101 d101] 24) = w102 at hh102 hba102 hna102 ⊢
      rw [hgb] at hh102 hna102 ⊢
      replace HHa := Lib.hid hna102
      have HHb := Lib.hid hh102
      have HB102 := Lib.hid (Bel.call HB101.out hba102)
      clear hh102 hba102 hgb hna102
      with_reducible refine (HQ.out _ _ _ (gs_cons HHb.out.lt (gs_cons HHa.out.lt gs_nil)) HHb.out.isX).mono ?_
      rintro e103 w103 ⟨⟨v103, hx103, rfl⟩, hb103⟩
      obtain ⟨o103, f103, p103, A103, n103, c103, B103, m103, d103, rfl, hp103, hn103, hm103, ho103, hf103, hx103⟩ := isX_lit hx103
      have HB103 := Lib.hid (Bel.call HB102.out hb103)
      replace HHa := Lib.hid (HHa.out.call hb103)
      replace HHb := Lib.hid (HHb.out.call hb103)
      have HX103 := Lib.hid hx103
      have HO103 := Lib.hid ho103
      have HF103 := Lib.hid hf103
      have HP103 := Lib.hid hp103
      have HN103 := Lib.hid hn103
      have HM103 := Lib.hid hm103
      clear hb103 hx103 ho103 hf103 hp103 hn103 hm103
      dsimp only at HX103 HO103 HF103 HP103 HN103 HM103 ⊢
      obtain ⟨⟨ac0, ac1, ac2, ac3, ac4, _⟩, _, _⟩ := HHa.out
      go_wp2_with fail
      clear ac0 ac1 ac2 ac3 ac4
      obtain ⟨gc, hgc⟩ : ∃ g, w103.heap.size = g := ⟨_, rfl⟩
      have hh104 := hold_alloc (t := 24) HX103.out
      have hba104 := al w103 (.cells #[.string o103, .string f103, .int .i64 p103, .slice A103 n103 c103, .slice B103 m103 d103] 24)
      have hna104 := HHa.out.new (ob := (.cells #[.string o103, .string f103, .int .i64 p103, .slice A103 n103 c103, .slice B103 m103 d103] 24))
      have hnb104 := HHb.out.new (ob := (.cells #[.string o103, .string f103, .int .i64 p103, .slice A103 n103 c103, .slice B103 m103 d103] 24))
      generalize w103.alloc (.cells #[.string o103, .string f103, .int .i64 p103, .slice A103 n103 c103, .slice B103 m103 d103] 24) = w104 at hh104 hba104 hna104 hnb104 ⊢
      rw [hgc] at hh104 hna104 hnb104 ⊢
      replace HHa := Lib.hid hna104
      replace HHb := Lib.hid hnb104
      have HHc := Lib.hid hh104
      have HB104 := Lib.hid (Bel.call HB103.out hba104)
      clear hh104 hba104 hgc hna104 hnb104
      with_reducible refine (HQ4.out _ _ _ (gs_cons HHc.out.lt (gs_cons HHb.out.lt (gs_cons HHa.out.lt gs_nil))) HHa.out.isX).mono ?_
      rintro e105 w105 ⟨⟨v105, hx105, rfl⟩, hb105⟩
      obtain ⟨o105, f105, p105, A105, n105, c105, B105, m105, d105, rfl, hp105, hn105, hm105, ho105, hf105, hx105⟩ := isX_lit hx105
      have HB105 := Lib.hid (Bel.call HB104.out hb105)
      replace HHa := Lib.hid (HHa.out.call hb105)
      replace HHb := Lib.hid (HHb.out.call hb105)
      replace HHc := Lib.hid (HHc.out.call hb105)
      have HX105 := Lib.hid hx105
      have HO105 := Lib.hid ho105
      have HF105 := Lib.hid hf105
      have HP105 := Lib.hid hp105
      have HN105 := Lib.hid hn105
      have HM105 := Lib.hid hm105
      clear hb105 hx105 ho105 hf105 hp105 hn105 hm105
      dsimp only at HX105 HO105 HF105 HP105 HN105 HM105 ⊢
      have hnb := HHb.out.new (ob := (.cells #[.string o105, .string f105, .int .i64 p105, .slice A105 n105 c105, .slice B105 m105 d105] 24))
      have HNB := Lib.hid hnb
      have HBC := Lib.hid (Bel.call HB105.out (al w105 (.cells #[.string o105, .string f105, .int .i64 p105, .slice A105 n105 c105, .slice B105 m105 d105] 24)))
      obtain ⟨⟨bc0, bc1, bc2, bc3, bc4, _⟩, _⟩ := hnb
      go_wp2_with fail
      clear bc0 bc1 bc2 bc3 bc4
      with_reducible refine (HC.out _ _ HNB.out.isR).mono ?_
      rintro e9 w9 ⟨rfl, hb9⟩
      have HB9 := Lib.hid (Bel.call HBC.out hb9)
      clear hb9
      dsimp only
      go_wp2
      go_ret
      exact ⟨rfl, HB9.out⟩
end Go.Proofs.Ytjikepfgfbnheaa.Rig
