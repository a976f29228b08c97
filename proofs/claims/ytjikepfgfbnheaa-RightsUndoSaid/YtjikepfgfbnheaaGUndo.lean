/-
  RightsUndo's walk, over what package rights is held to. By an AI agent; no person has read it.
-/
import Derived.Test.YtjikepfgfbnheaaGTo
import Derived.Test.YtjikepfgfbnheaaOrd
namespace Go.Proofs.Ytjikepfgfbnheaa.Rig
open Go.RowKit Wire

set_option linter.unusedSimpArgs false
set_option maxHeartbeats 16000000 in
set_option maxRecDepth 1000000 in
theorem undo_walk_true (CO : CanOK) (NO : NewOK) (GO : GrantOK) (RO : RevokeOK) (a : Option Addr) (n c : Nat) (Z : Nat → Nat → Int) (c1 : Int) (w : World) (ha : Acts.AReads 2 w a n Z) (h1 : -9223372036854775808 ≤ c1 ∧ c1 ≤ 9223372036854775807) :
    Calls Try.prog 7 #[.slice a n c, .int .i64 c1, .bool true] w fun e w' => e = .returned (.bool true) ∧ Below w.heap.size w w' := by
  have HSH := Lib.hid fun w => shown7_any NO GO CO w
  have HD := Lib.hid fun w' hb gs hg => done_to a n c Z w ha w' hb gs hg
  obtain ⟨U, hU, hun, hus, _⟩ := who_to c1 h1
  have HU := Lib.hid hU
  have HUN := Lib.hid hun
  have HUS := Lib.hid hus
  clear ha h1 hU hun hus
  go_enter Try.func7, Try.ntmps7
  go_wp2_with fail
  with_reducible refine (HSH.out _).mono ?_
  rintro e1 w1 ⟨rfl, hb1⟩
  have HB1 := Lib.hid hb1
  clear hb1
  dsimp only
  go_wp2_with fail
  with_reducible refine (HD.out _ HB1.out _ gs_nil).mono ?_
  rintro e2 w2 ⟨⟨v2, r, han2, hx2, rfl⟩, hb2⟩
  obtain ⟨o2, f2, p2, A2, n2, c2, B2, m2, d2, rfl, hp2, hn2, hm2, ho2, hf2, hx2⟩ := isX_lit hx2
  have HB2 := Lib.hid (Bel.call HB1.out hb2)
  have HAN := Lib.hid han2
  have HX2 := Lib.hid hx2
  have HO2 := Lib.hid ho2
  have HF2 := Lib.hid hf2
  have HP2 := Lib.hid hp2
  have HN2 := Lib.hid hn2
  have HM2 := Lib.hid hm2
  clear hb2 hx2 ho2 hf2 hp2 hn2 hm2 han2
  dsimp only at HX2 HO2 HF2 HP2 HN2 HM2 ⊢
  go_wp2_with fail
  obtain ⟨ga, hga⟩ : ∃ g, w2.heap.size = g := ⟨_, rfl⟩
  have hh3 := hold_alloc (t := 24) HX2.out
  have hba3 := al w2 (.cells #[.string o2, .string f2, .int .i64 p2, .slice A2 n2 c2, .slice B2 m2 d2] 24)
  generalize w2.alloc (.cells #[.string o2, .string f2, .int .i64 p2, .slice A2 n2 c2, .slice B2 m2 d2] 24) = w3 at hh3 hba3 ⊢
  rw [hga] at hh3 ⊢
  have HHa := Lib.hid hh3
  have HB3 := Lib.hid (Bel.call HB2.out hba3)
  clear hh3 hba3 hga
  with_reducible refine (HU.out _).mono ?_
  rintro e4 w4 ⟨rfl, hb4⟩
  have HB4 := Lib.hid (Bel.call HB3.out hb4)
  replace HHa := Lib.hid (HHa.out.call hb4)
  clear hb4
  dsimp only
  obtain ⟨s, e, hs, he⟩ := gr_out r U.data.toList true HAN.out.1 HUN.out
  have HC1 := Lib.hid (grant_to GO hs (few_right HAN.out.1) HUS.out)
  have HS := Lib.hid hs
  have HE := Lib.hid he
  clear hs he
  obtain ⟨⟨ac0, ac1, ac2, ac3, ac4, _⟩, _, _⟩ := HHa.out
  go_wp2_with fail
  clear ac0 ac1 ac2 ac3 ac4
  with_reducible refine (HC1.out _ _ _ (gs_cons HHa.out.lt gs_nil) HHa.out.isX).mono ?_
  rintro e5 w5 ⟨⟨v5, hx5, rfl⟩, hb5⟩
  obtain ⟨o5, f5, p5, A5, n5, c5, B5, m5, d5, rfl, hp5, hn5, hm5, ho5, hf5, hx5⟩ := isX_lit hx5
  have HB5 := Lib.hid (Bel.call HB4.out hb5)
  replace HHa := Lib.hid (HHa.out.call hb5)
  have HX5 := Lib.hid hx5
  have HO5 := Lib.hid ho5
  have HF5 := Lib.hid hf5
  have HP5 := Lib.hid hp5
  have HN5 := Lib.hid hn5
  have HM5 := Lib.hid hm5
  clear hb5 hx5 ho5 hf5 hp5 hn5 hm5
  dsimp only at HX5 HO5 HF5 HP5 HN5 HM5 ⊢
  obtain rfl | rfl | rfl := HE.out
  rotate_left
  · have h := gr_there HAN.out.1 HUN.out HS.out
    have HCN := Lib.hid (can_to CO h.2 (few_right HAN.out.1) HUS.out)
    clear h
    have hna := HHa.out.new (ob := (.cells #[.string o5, .string f5, .int .i64 p5, .slice A5 n5 c5, .slice B5 m5 d5] 24))
    have HNA := Lib.hid hna
    have HBC := Lib.hid (Bel.call HB5.out (al w5 (.cells #[.string o5, .string f5, .int .i64 p5, .slice A5 n5 c5, .slice B5 m5 d5] 24)))
    obtain ⟨⟨ac0, ac1, ac2, ac3, ac4, _⟩, _⟩ := hna
    go_wp2_with fail
    clear ac0 ac1 ac2 ac3 ac4
    with_reducible refine (HCN.out _ _ HNA.out.isR).mono ?_
    rintro e9 w9 ⟨rfl, hb9⟩
    have HB9 := Lib.hid (Bel.call HBC.out hb9)
    clear hb9
    dsimp only
    go_wp2
    go_ret
    exact ⟨rfl, HB9.out⟩
  · have h := gr_full HAN.out.1 HUN.out HS.out
    have HCN := Lib.hid (can_to CO h.2.1 (few_right HAN.out.1) HUS.out)
    have hl := h.2.2
    rw [← HN2.out, ← HM2.out] at hl
    clear h
    have hl5 : ((n2 : Int) + (m2 : Int)) = 5 := by omega
    clear hl
    have hna := HHa.out.new (ob := (.cells #[.string o5, .string f5, .int .i64 p5, .slice A5 n5 c5, .slice B5 m5 d5] 24))
    have HNA := Lib.hid hna
    have HBC := Lib.hid (Bel.call HB5.out (al w5 (.cells #[.string o5, .string f5, .int .i64 p5, .slice A5 n5 c5, .slice B5 m5 d5] 24)))
    obtain ⟨⟨ac0, ac1, ac2, ac3, ac4, _⟩, _⟩ := hna
    go_wp2_with fail
    clear ac0 ac1 ac2 ac3 ac4
    with_reducible refine (HCN.out _ _ HNA.out.isR).mono ?_
    rintro e9 w9 ⟨rfl, hb9⟩
    have HB9 := Lib.hid (Bel.call HBC.out hb9)
    clear hb9
    dsimp only
    go_wp2
    go_ret
    exact ⟨rfl, HB9.out⟩
  go_wp2_with fail
  obtain ⟨gb, hgb⟩ : ∃ g, w5.heap.size = g := ⟨_, rfl⟩
  have hh6 := hold_alloc (t := 24) HX5.out
  have hba6 := al w5 (.cells #[.string o5, .string f5, .int .i64 p5, .slice A5 n5 c5, .slice B5 m5 d5] 24)
  have hna6 := HHa.out.new (ob := (.cells #[.string o5, .string f5, .int .i64 p5, .slice A5 n5 c5, .slice B5 m5 d5] 24))
  generalize w5.alloc (.cells #[.string o5, .string f5, .int .i64 p5, .slice A5 n5 c5, .slice B5 m5 d5] 24) = w6 at hh6 hba6 hna6 ⊢
  rw [hgb] at hh6 hna6 ⊢
  replace HHa := Lib.hid hna6
  have HHb := Lib.hid hh6
  have HB6 := Lib.hid (Bel.call HB5.out hba6)
  clear hh6 hba6 hgb hna6
  have hG := gr_ok HAN.out.1 HUN.out HS.out
  have HG := Lib.hid hG
  have HSR := Lib.hid hG.right
  have hep := HAN.out.1.2.2.1
  rcases rv_gr hG HUN.out with ⟨h7, hrv⟩ | ⟨h7, hrv⟩
  · have HQ := Lib.hid (revoke_to RO hrv (few_right HSR.out) HUS.out)
    obtain rfl : p2 = 7 := HP2.out.trans h7
    clear hG hep h7 hrv
    with_reducible refine (HQ.out _ _ _ (gs_cons HHb.out.lt (gs_cons HHa.out.lt gs_nil)) HHb.out.isX).mono ?_
    rintro e7 w7 ⟨⟨v7, hx7, rfl⟩, hb7⟩
    obtain ⟨o7, f7, p7, A7, n7, c7, B7, m7, d7, rfl, hp7, hn7, hm7, ho7, hf7, hx7⟩ := isX_lit hx7
    have HB7 := Lib.hid (Bel.call HB6.out hb7)
    replace HHa := Lib.hid (HHa.out.call hb7)
    replace HHb := Lib.hid (HHb.out.call hb7)
    have HX7 := Lib.hid hx7
    have HO7 := Lib.hid ho7
    have HF7 := Lib.hid hf7
    have HP7 := Lib.hid hp7
    have HN7 := Lib.hid hn7
    have HM7 := Lib.hid hm7
    clear hb7 hx7 ho7 hf7 hp7 hn7 hm7
    dsimp only at HX7 HO7 HF7 HP7 HN7 HM7 ⊢
    have hna := HHa.out.new (ob := (.cells #[.string o7, .string f7, .int .i64 p7, .slice A7 n7 c7, .slice B7 m7 d7] 24))
    have HBC := Lib.hid (Bel.call HB7.out (al w7 (.cells #[.string o7, .string f7, .int .i64 p7, .slice A7 n7 c7, .slice B7 m7 d7] 24)))
    obtain ⟨⟨ac0, ac1, ac2, ac3, ac4, _⟩, _⟩ := hna
    go_wp2
    go_ret
    exact ⟨rfl, HBC.out⟩
  obtain ⟨t, ht⟩ : ∃ t : Rt, (⟨r.o, r.f, r.ep + 1, r.rs, r.ws⟩ : Rt) = t := ⟨_, rfl⟩
  rw [ht] at hrv
  have htr : RR t := by rw [← ht]; obtain ⟨x1, x2, x3, x4, x5, x6, x7⟩ := HAN.out.1; exact ⟨x1, x2, ⟨by show 0 ≤ r.ep + 1; omega, by show r.ep + 1 ≤ 7; omega⟩, x4, x5, x6, x7⟩
  obtain ⟨v, hv⟩ : ∃ v, gr t U.data.toList false = (v, 0) := by
    rcases gr_cases t U.data.toList false htr HUN.out with ⟨_, h1⟩ | ⟨_, _, h2⟩ | ⟨_, _, e, _⟩
    · rw [← ht] at h1
      exact absurd h1 (by rintro (h | h | h); exact hG.isnt.1 h; exact hG.isnt.2.1 h; exact hG.isnt.2.2 h)
    · rw [← ht] at h2
      have := hG.room
      simp only at h2
      omega
    · rcases e with ⟨_, e⟩ | ⟨_, e⟩ <;> exact ⟨_, e⟩
  have hV := gr_ok htr HUN.out hv
  have HV := Lib.hid hV
  have HVR := Lib.hid hV.right
  have HTR := Lib.hid htr
  have HQ := Lib.hid (revoke_to RO hrv (few_right HSR.out) HUS.out)
  have HQ2 := Lib.hid (grant_to GO hv (few_right HTR.out) HUS.out)
  have HT := Lib.hid ht
  have hp7 : p2 < 7 := by rw [HP2.out]; exact h7
  have hp0 : 0 ≤ p2 := by rw [HP2.out]; exact hep.1
  clear hG hep h7 hrv htr hv hV ht
  with_reducible refine (HQ.out _ _ _ (gs_cons HHb.out.lt (gs_cons HHa.out.lt gs_nil)) HHb.out.isX).mono ?_
  rintro e7 w7 ⟨⟨v7, hx7, rfl⟩, hb7⟩
  obtain ⟨o7, f7, p7, A7, n7, c7, B7, m7, d7, rfl, hp7, hn7, hm7, ho7, hf7, hx7⟩ := isX_lit hx7
  have HB7 := Lib.hid (Bel.call HB6.out hb7)
  replace HHa := Lib.hid (HHa.out.call hb7)
  replace HHb := Lib.hid (HHb.out.call hb7)
  have HX7 := Lib.hid hx7
  have HO7 := Lib.hid ho7
  have HF7 := Lib.hid hf7
  have HP7 := Lib.hid hp7
  have HN7 := Lib.hid hn7
  have HM7 := Lib.hid hm7
  clear hb7 hx7 ho7 hf7 hp7 hn7 hm7
  dsimp only at HX7 HO7 HF7 HP7 HN7 HM7 ⊢
  obtain rfl : p7 = p2 + 1 := by rw [HP7.out, HP2.out, ← HT.out]
  obtain rfl : n7 = n2 := by rw [HN7.out, HN2.out, ← HT.out]
  obtain rfl : m7 = m2 := by rw [HM7.out, HM2.out, ← HT.out]
  obtain ⟨⟨ac0, ac1, ac2, ac3, ac4, _⟩, _, _⟩ := HHa.out
  go_wp2_with fail
  clear ac0 ac1 ac2 ac3 ac4
  obtain ⟨gc, hgc⟩ : ∃ g, w7.heap.size = g := ⟨_, rfl⟩
  have hh8 := hold_alloc (t := 24) HX7.out
  have hba8 := al w7 (.cells #[.string o7, .string f7, .int .i64 (p2 + 1), .slice A7 n7 c7, .slice B7 m7 d7] 24)
  have hna8 := HHa.out.new (ob := (.cells #[.string o7, .string f7, .int .i64 (p2 + 1), .slice A7 n7 c7, .slice B7 m7 d7] 24))
  have hnb8 := HHb.out.new (ob := (.cells #[.string o7, .string f7, .int .i64 (p2 + 1), .slice A7 n7 c7, .slice B7 m7 d7] 24))
  generalize w7.alloc (.cells #[.string o7, .string f7, .int .i64 (p2 + 1), .slice A7 n7 c7, .slice B7 m7 d7] 24) = w8 at hh8 hba8 hna8 hnb8 ⊢
  rw [hgc] at hh8 hna8 hnb8 ⊢
  replace HHa := Lib.hid hna8
  replace HHb := Lib.hid hnb8
  have HHc := Lib.hid hh8
  have HB8 := Lib.hid (Bel.call HB7.out hba8)
  clear hh8 hba8 hgc hna8 hnb8
  with_reducible refine (HQ2.out _ _ _ (gs_cons HHc.out.lt (gs_cons HHb.out.lt (gs_cons HHa.out.lt gs_nil))) HHc.out.isX).mono ?_
  rintro e9 w9 ⟨⟨v9, hx9, rfl⟩, hb9⟩
  obtain ⟨o9, f9, p9, A9, n9, c9, B9, m9, d9, rfl, hp9, hn9, hm9, ho9, hf9, hx9⟩ := isX_lit hx9
  have HB9 := Lib.hid (Bel.call HB8.out hb9)
  replace HHa := Lib.hid (HHa.out.call hb9)
  replace HHb := Lib.hid (HHb.out.call hb9)
  replace HHc := Lib.hid (HHc.out.call hb9)
  have HX9 := Lib.hid hx9
  have HO9 := Lib.hid ho9
  have HF9 := Lib.hid hf9
  have HP9 := Lib.hid hp9
  have HN9 := Lib.hid hn9
  have HM9 := Lib.hid hm9
  clear hb9 hx9 ho9 hf9 hp9 hn9 hm9
  dsimp only at HX9 HO9 HF9 HP9 HN9 HM9 ⊢
  have hpv : p9 = p2 + 1 := by rw [HP9.out, HV.out.epoch, ← HT.out, HP2.out]
  subst hpv
  obtain ⟨gd, hgd⟩ : ∃ g, w9.heap.size = g := ⟨_, rfl⟩
  have hd := hold_alloc (t := 24) HX9.out
  have hbd := al w9 (.cells #[.string o9, .string f9, .int .i64 (p2 + 1), .slice A9 n9 c9, .slice B9 m9 d9] 24)
  have hna := HHa.out.new (ob := (.cells #[.string o9, .string f9, .int .i64 (p2 + 1), .slice A9 n9 c9, .slice B9 m9 d9] 24))
  rw [hgd] at hna
  have hnb := HHb.out.new (ob := (.cells #[.string o9, .string f9, .int .i64 (p2 + 1), .slice A9 n9 c9, .slice B9 m9 d9] 24))
  rw [hgd] at hnb
  have hnc := HHc.out.new (ob := (.cells #[.string o9, .string f9, .int .i64 (p2 + 1), .slice A9 n9 c9, .slice B9 m9 d9] 24))
  rw [hgd] at hnc
  rw [hgd] at hd
  have HHd := Lib.hid hd
  have HBd := Lib.hid (Bel.call HB9.out hbd)
  replace HHa := Lib.hid hna
  replace HHb := Lib.hid hnb
  replace HHc := Lib.hid hnc
  obtain ⟨⟨ac0, ac1, ac2, ac3, ac4, _⟩, _⟩ := hna
  obtain ⟨⟨cc0, cc1, cc2, cc3, cc4, _⟩, _⟩ := hnc
  have hd2 := HHd.out
  obtain ⟨⟨dc0, dc1, dc2, dc3, dc4, _⟩, _⟩ := hd2
  clear hd hbd hnb
  go_wp2_with fail
  clear ac0 ac1 ac2 ac3 ac4 cc0 cc1 cc2 cc3 cc4 dc0 dc1 dc2 dc3 dc4
  obtain ⟨wd, hwd⟩ : ∃ W, w9.alloc (.cells #[.string o9, .string f9, .int .i64 (p2 + 1), .slice A9 n9 c9, .slice B9 m9 d9] 24) = W := ⟨_, rfl⟩
  rw [hwd] at HHa HHb HHc HHd HBd ⊢
  clear hwd hgd
  go_loopw [16] (fun i wr => ∃ j : Nat, j ≤ 8 ∧ i = .int .i64 (j : Int) ∧ Hid (Below wd.heap.size wd wr)) (fun i _ => 8 - (intOf i).toNat)
  case atStart => exact ⟨0, by omega, rfl, Lib.hid (Below.refl _ _)⟩
  case round =>
    obtain ⟨j, hj, rfl, HI⟩ := hrel
    replace HBd := Lib.hid (Bel.call HBd.out HI.out)
    replace HHa := Lib.hid (HHa.out.call HI.out)
    replace HHb := Lib.hid (HHb.out.call HI.out)
    replace HHc := Lib.hid (HHc.out.call HI.out)
    replace HHd := Lib.hid (HHd.out.call HI.out)
    by_cases hlt : (j : Int) < 8
    · have hj8 : j < 8 := by omega
      have HWH := Lib.hid fun w => who_at hj8 w
      have hws : (whoN j).size ≤ 5000 := by have := who_size j; omega
      have hsame : ∀ wr, can t (whoN j).data.toList wr = can r (whoN j).data.toList wr := fun wr => by rw [← HT.out]; exact can_same HAN.out.1 (by rw [HT.out]; exact HTR.out) Iff.rfl
      obtain ⟨b1, hb1⟩ : ∃ b, can r (whoN j).data.toList false = b := ⟨_, rfl⟩
      obtain ⟨b2, hb2⟩ : ∃ b, can r (whoN j).data.toList true = b := ⟨_, rfl⟩
      have HA1 := Lib.hid (can_to CO hb1 (few_right HAN.out.1) hws)
      have HA2 := Lib.hid (can_to CO hb2 (few_right HAN.out.1) hws)
      have HT1 := Lib.hid (can_to CO ((hsame false).trans hb1) (few_right HTR.out) hws)
      have HT2 := Lib.hid (can_to CO ((hsame true).trans hb2) (few_right HTR.out) hws)
      obtain ⟨Wj, hWj⟩ : ∃ W, whoN j = W := ⟨_, rfl⟩
      rw [hWj] at HWH HA1 HA2 HT1 HT2
      clear hws hsame hb1 hb2 hWj
      go_wp2_with fail
      have hdr := Below.drewN' (Below.refl wr.heap.size wr) 1
      refine Ord.region_lit (S := fun w' => Below wd.heap.size wd w' ∧ HoldL [gd, gc, gb, ga] ga w' o2 f2 p2 A2 n7 c2 B2 m7 d2 r ∧ HoldL [gd, gc, gb, ga] gc w' o7 f7 (p2 + 1) A7 n7 c7 B7 m7 d7 t) (by kernel_rfl) (by kernel_rfl) ⟨Bel.call HI.out hdr, HHa.out.call hdr, HHc.out.call hdr⟩ ?_
      clear hdr
      refine Ord.stepR (v := ?_) (by rfl) ?_ ?_
      rotate_left
      · intro w' hSw
        obtain ⟨_, ⟨⟨ac0, ac1, ac2, ac3, ac4, _⟩, _⟩, ⟨⟨cc0, cc1, cc2, cc3, cc4, _⟩, _⟩⟩ := hSw
        go_simp
        try with_reducible rfl
      try simp only [Act.put, List.setIfInBounds_toArray, List.set_cons_zero, List.set_cons_succ]
      refine Ord.stepR (v := ?_) (by rfl) ?_ ?_
      rotate_left
      · intro w' hSw
        obtain ⟨_, ⟨⟨ac0, ac1, ac2, ac3, ac4, _⟩, _⟩, ⟨⟨cc0, cc1, cc2, cc3, cc4, _⟩, _⟩⟩ := hSw
        go_simp
        try with_reducible rfl
      try simp only [Act.put, List.setIfInBounds_toArray, List.set_cons_zero, List.set_cons_succ]
      refine Ord.stepC (v := .string Wj) (by rfl) ?_ (fun w1 hS => (HWH.out w1).mono fun e w2 h => ⟨h.1, Bel.call hS.1 h.2, hS.2.1.call h.2, hS.2.2.call h.2⟩) ?_
      · intro w' hSw
        go_simp
        try with_reducible rfl
      try simp only [Act.put, List.setIfInBounds_toArray, List.set_cons_zero, List.set_cons_succ]
      refine Ord.stepC (v := .bool b1) (by rfl) ?_ (fun w1 hS => (HT1.out _ _ hS.2.2.isR).mono fun e w2 h => ⟨h.1, Bel.call hS.1 h.2, hS.2.1.call h.2, hS.2.2.call h.2⟩) ?_
      · intro w' hSw
        go_simp
        try with_reducible rfl
      try simp only [Act.put, List.setIfInBounds_toArray, List.set_cons_zero, List.set_cons_succ]
      refine Ord.stepR (v := ?_) (by rfl) ?_ ?_
      rotate_left
      · intro w' hSw
        obtain ⟨_, ⟨⟨ac0, ac1, ac2, ac3, ac4, _⟩, _⟩, ⟨⟨cc0, cc1, cc2, cc3, cc4, _⟩, _⟩⟩ := hSw
        go_simp
        try with_reducible rfl
      try simp only [Act.put, List.setIfInBounds_toArray, List.set_cons_zero, List.set_cons_succ]
      refine Ord.stepR (v := ?_) (by rfl) ?_ ?_
      rotate_left
      · intro w' hSw
        obtain ⟨_, ⟨⟨ac0, ac1, ac2, ac3, ac4, _⟩, _⟩, ⟨⟨cc0, cc1, cc2, cc3, cc4, _⟩, _⟩⟩ := hSw
        go_simp
        try with_reducible rfl
      try simp only [Act.put, List.setIfInBounds_toArray, List.set_cons_zero, List.set_cons_succ]
      refine Ord.stepC (v := .string Wj) (by rfl) ?_ (fun w1 hS => (HWH.out w1).mono fun e w2 h => ⟨h.1, Bel.call hS.1 h.2, hS.2.1.call h.2, hS.2.2.call h.2⟩) ?_
      · intro w' hSw
        go_simp
        try with_reducible rfl
      try simp only [Act.put, List.setIfInBounds_toArray, List.set_cons_zero, List.set_cons_succ]
      refine Ord.stepC (v := .bool b1) (by rfl) ?_ (fun w1 hS => (HA1.out _ _ hS.2.1.isR).mono fun e w2 h => ⟨h.1, Bel.call hS.1 h.2, hS.2.1.call h.2, hS.2.2.call h.2⟩) ?_
      · intro w' hSw
        go_simp
        try with_reducible rfl
      try simp only [Act.put, List.setIfInBounds_toArray, List.set_cons_zero, List.set_cons_succ]
      cases b1 <;> cases b2
      · refine Ord.stepR (v := ?_) (by rfl) ?_ ?_
        rotate_left
        · intro w' hSw
          obtain ⟨_, ⟨⟨ac0, ac1, ac2, ac3, ac4, _⟩, _⟩, ⟨⟨cc0, cc1, cc2, cc3, cc4, _⟩, _⟩⟩ := hSw
          go_simp
          try with_reducible rfl
        try simp only [Act.put, List.setIfInBounds_toArray, List.set_cons_zero, List.set_cons_succ]
        refine Ord.stepR (v := ?_) (by rfl) ?_ ?_
        rotate_left
        · intro w' hSw
          obtain ⟨_, ⟨⟨ac0, ac1, ac2, ac3, ac4, _⟩, _⟩, ⟨⟨cc0, cc1, cc2, cc3, cc4, _⟩, _⟩⟩ := hSw
          go_simp
          try with_reducible rfl
        try simp only [Act.put, List.setIfInBounds_toArray, List.set_cons_zero, List.set_cons_succ]
        refine Ord.stepR (v := ?_) (by rfl) ?_ ?_
        rotate_left
        · intro w' hSw
          obtain ⟨_, ⟨⟨ac0, ac1, ac2, ac3, ac4, _⟩, _⟩, ⟨⟨cc0, cc1, cc2, cc3, cc4, _⟩, _⟩⟩ := hSw
          go_simp
          try with_reducible rfl
        try simp only [Act.put, List.setIfInBounds_toArray, List.set_cons_zero, List.set_cons_succ]
        refine Ord.stepR (v := ?_) (by rfl) ?_ ?_
        rotate_left
        · intro w' hSw
          obtain ⟨_, ⟨⟨ac0, ac1, ac2, ac3, ac4, _⟩, _⟩, ⟨⟨cc0, cc1, cc2, cc3, cc4, _⟩, _⟩⟩ := hSw
          go_simp
          try with_reducible rfl
        try simp only [Act.put, List.setIfInBounds_toArray, List.set_cons_zero, List.set_cons_succ]
        refine Ord.stepC (v := .string Wj) (by rfl) ?_ (fun w1 hS => (HWH.out w1).mono fun e w2 h => ⟨h.1, Bel.call hS.1 h.2, hS.2.1.call h.2, hS.2.2.call h.2⟩) ?_
        · intro w' hSw
          go_simp
          try with_reducible rfl
        try simp only [Act.put, List.setIfInBounds_toArray, List.set_cons_zero, List.set_cons_succ]
        refine Ord.stepC (v := .bool false) (by rfl) ?_ (fun w1 hS => (HT2.out _ _ hS.2.2.isR).mono fun e w2 h => ⟨h.1, Bel.call hS.1 h.2, hS.2.1.call h.2, hS.2.2.call h.2⟩) ?_
        · intro w' hSw
          go_simp
          try with_reducible rfl
        try simp only [Act.put, List.setIfInBounds_toArray, List.set_cons_zero, List.set_cons_succ]
        refine Ord.stepR (v := ?_) (by rfl) ?_ ?_
        rotate_left
        · intro w' hSw
          obtain ⟨_, ⟨⟨ac0, ac1, ac2, ac3, ac4, _⟩, _⟩, ⟨⟨cc0, cc1, cc2, cc3, cc4, _⟩, _⟩⟩ := hSw
          go_simp
          try with_reducible rfl
        try simp only [Act.put, List.setIfInBounds_toArray, List.set_cons_zero, List.set_cons_succ]
        refine Ord.stepR (v := ?_) (by rfl) ?_ ?_
        rotate_left
        · intro w' hSw
          obtain ⟨_, ⟨⟨ac0, ac1, ac2, ac3, ac4, _⟩, _⟩, ⟨⟨cc0, cc1, cc2, cc3, cc4, _⟩, _⟩⟩ := hSw
          go_simp
          try with_reducible rfl
        try simp only [Act.put, List.setIfInBounds_toArray, List.set_cons_zero, List.set_cons_succ]
        refine Ord.stepC (v := .string Wj) (by rfl) ?_ (fun w1 hS => (HWH.out w1).mono fun e w2 h => ⟨h.1, Bel.call hS.1 h.2, hS.2.1.call h.2, hS.2.2.call h.2⟩) ?_
        · intro w' hSw
          go_simp
          try with_reducible rfl
        try simp only [Act.put, List.setIfInBounds_toArray, List.set_cons_zero, List.set_cons_succ]
        refine Ord.stepC (v := .bool false) (by rfl) ?_ (fun w1 hS => (HA2.out _ _ hS.2.1.isR).mono fun e w2 h => ⟨h.1, Bel.call hS.1 h.2, hS.2.1.call h.2, hS.2.2.call h.2⟩) ?_
        · intro w' hSw
          go_simp
          try with_reducible rfl
        try simp only [Act.put, List.setIfInBounds_toArray, List.set_cons_zero, List.set_cons_succ]
        refine Ord.stepR (v := ?_) (by rfl) ?_ ?_
        rotate_left
        · intro w' hSw
          obtain ⟨_, ⟨⟨ac0, ac1, ac2, ac3, ac4, _⟩, _⟩, ⟨⟨cc0, cc1, cc2, cc3, cc4, _⟩, _⟩⟩ := hSw
          go_simp
          try with_reducible rfl
        try simp only [Act.put, List.setIfInBounds_toArray, List.set_cons_zero, List.set_cons_succ]
        refine Ord.stepR (v := ?_) (by rfl) ?_ ?_
        rotate_left
        · intro w' hSw
          obtain ⟨_, ⟨⟨ac0, ac1, ac2, ac3, ac4, _⟩, _⟩, ⟨⟨cc0, cc1, cc2, cc3, cc4, _⟩, _⟩⟩ := hSw
          go_simp
          try with_reducible rfl
        try simp only [Act.put, List.setIfInBounds_toArray, List.set_cons_zero, List.set_cons_succ]
        refine Ord.stepD ?_
        rintro w9 hS9
        have HS9 := Lib.hid hS9
        clear hS9
        go_wp2
        go_roundw
        case rel => exact ⟨j + 1, by omega, by go_num, Lib.hid HS9.out.1⟩
        case measure => simp [intOf]; omega
      · refine Ord.stepR (v := ?_) (by rfl) ?_ ?_
        rotate_left
        · intro w' hSw
          obtain ⟨_, ⟨⟨ac0, ac1, ac2, ac3, ac4, _⟩, _⟩, ⟨⟨cc0, cc1, cc2, cc3, cc4, _⟩, _⟩⟩ := hSw
          go_simp
          try with_reducible rfl
        try simp only [Act.put, List.setIfInBounds_toArray, List.set_cons_zero, List.set_cons_succ]
        refine Ord.stepR (v := ?_) (by rfl) ?_ ?_
        rotate_left
        · intro w' hSw
          obtain ⟨_, ⟨⟨ac0, ac1, ac2, ac3, ac4, _⟩, _⟩, ⟨⟨cc0, cc1, cc2, cc3, cc4, _⟩, _⟩⟩ := hSw
          go_simp
          try with_reducible rfl
        try simp only [Act.put, List.setIfInBounds_toArray, List.set_cons_zero, List.set_cons_succ]
        refine Ord.stepR (v := ?_) (by rfl) ?_ ?_
        rotate_left
        · intro w' hSw
          obtain ⟨_, ⟨⟨ac0, ac1, ac2, ac3, ac4, _⟩, _⟩, ⟨⟨cc0, cc1, cc2, cc3, cc4, _⟩, _⟩⟩ := hSw
          go_simp
          try with_reducible rfl
        try simp only [Act.put, List.setIfInBounds_toArray, List.set_cons_zero, List.set_cons_succ]
        refine Ord.stepR (v := ?_) (by rfl) ?_ ?_
        rotate_left
        · intro w' hSw
          obtain ⟨_, ⟨⟨ac0, ac1, ac2, ac3, ac4, _⟩, _⟩, ⟨⟨cc0, cc1, cc2, cc3, cc4, _⟩, _⟩⟩ := hSw
          go_simp
          try with_reducible rfl
        try simp only [Act.put, List.setIfInBounds_toArray, List.set_cons_zero, List.set_cons_succ]
        refine Ord.stepC (v := .string Wj) (by rfl) ?_ (fun w1 hS => (HWH.out w1).mono fun e w2 h => ⟨h.1, Bel.call hS.1 h.2, hS.2.1.call h.2, hS.2.2.call h.2⟩) ?_
        · intro w' hSw
          go_simp
          try with_reducible rfl
        try simp only [Act.put, List.setIfInBounds_toArray, List.set_cons_zero, List.set_cons_succ]
        refine Ord.stepC (v := .bool true) (by rfl) ?_ (fun w1 hS => (HT2.out _ _ hS.2.2.isR).mono fun e w2 h => ⟨h.1, Bel.call hS.1 h.2, hS.2.1.call h.2, hS.2.2.call h.2⟩) ?_
        · intro w' hSw
          go_simp
          try with_reducible rfl
        try simp only [Act.put, List.setIfInBounds_toArray, List.set_cons_zero, List.set_cons_succ]
        refine Ord.stepR (v := ?_) (by rfl) ?_ ?_
        rotate_left
        · intro w' hSw
          obtain ⟨_, ⟨⟨ac0, ac1, ac2, ac3, ac4, _⟩, _⟩, ⟨⟨cc0, cc1, cc2, cc3, cc4, _⟩, _⟩⟩ := hSw
          go_simp
          try with_reducible rfl
        try simp only [Act.put, List.setIfInBounds_toArray, List.set_cons_zero, List.set_cons_succ]
        refine Ord.stepR (v := ?_) (by rfl) ?_ ?_
        rotate_left
        · intro w' hSw
          obtain ⟨_, ⟨⟨ac0, ac1, ac2, ac3, ac4, _⟩, _⟩, ⟨⟨cc0, cc1, cc2, cc3, cc4, _⟩, _⟩⟩ := hSw
          go_simp
          try with_reducible rfl
        try simp only [Act.put, List.setIfInBounds_toArray, List.set_cons_zero, List.set_cons_succ]
        refine Ord.stepC (v := .string Wj) (by rfl) ?_ (fun w1 hS => (HWH.out w1).mono fun e w2 h => ⟨h.1, Bel.call hS.1 h.2, hS.2.1.call h.2, hS.2.2.call h.2⟩) ?_
        · intro w' hSw
          go_simp
          try with_reducible rfl
        try simp only [Act.put, List.setIfInBounds_toArray, List.set_cons_zero, List.set_cons_succ]
        refine Ord.stepC (v := .bool true) (by rfl) ?_ (fun w1 hS => (HA2.out _ _ hS.2.1.isR).mono fun e w2 h => ⟨h.1, Bel.call hS.1 h.2, hS.2.1.call h.2, hS.2.2.call h.2⟩) ?_
        · intro w' hSw
          go_simp
          try with_reducible rfl
        try simp only [Act.put, List.setIfInBounds_toArray, List.set_cons_zero, List.set_cons_succ]
        refine Ord.stepR (v := ?_) (by rfl) ?_ ?_
        rotate_left
        · intro w' hSw
          obtain ⟨_, ⟨⟨ac0, ac1, ac2, ac3, ac4, _⟩, _⟩, ⟨⟨cc0, cc1, cc2, cc3, cc4, _⟩, _⟩⟩ := hSw
          go_simp
          try with_reducible rfl
        try simp only [Act.put, List.setIfInBounds_toArray, List.set_cons_zero, List.set_cons_succ]
        refine Ord.stepR (v := ?_) (by rfl) ?_ ?_
        rotate_left
        · intro w' hSw
          obtain ⟨_, ⟨⟨ac0, ac1, ac2, ac3, ac4, _⟩, _⟩, ⟨⟨cc0, cc1, cc2, cc3, cc4, _⟩, _⟩⟩ := hSw
          go_simp
          try with_reducible rfl
        try simp only [Act.put, List.setIfInBounds_toArray, List.set_cons_zero, List.set_cons_succ]
        refine Ord.stepD ?_
        rintro w9 hS9
        have HS9 := Lib.hid hS9
        clear hS9
        go_wp2
        go_roundw
        case rel => exact ⟨j + 1, by omega, by go_num, Lib.hid HS9.out.1⟩
        case measure => simp [intOf]; omega
      · refine Ord.stepR (v := ?_) (by rfl) ?_ ?_
        rotate_left
        · intro w' hSw
          obtain ⟨_, ⟨⟨ac0, ac1, ac2, ac3, ac4, _⟩, _⟩, ⟨⟨cc0, cc1, cc2, cc3, cc4, _⟩, _⟩⟩ := hSw
          go_simp
          try with_reducible rfl
        try simp only [Act.put, List.setIfInBounds_toArray, List.set_cons_zero, List.set_cons_succ]
        refine Ord.stepR (v := ?_) (by rfl) ?_ ?_
        rotate_left
        · intro w' hSw
          obtain ⟨_, ⟨⟨ac0, ac1, ac2, ac3, ac4, _⟩, _⟩, ⟨⟨cc0, cc1, cc2, cc3, cc4, _⟩, _⟩⟩ := hSw
          go_simp
          try with_reducible rfl
        try simp only [Act.put, List.setIfInBounds_toArray, List.set_cons_zero, List.set_cons_succ]
        refine Ord.stepR (v := ?_) (by rfl) ?_ ?_
        rotate_left
        · intro w' hSw
          obtain ⟨_, ⟨⟨ac0, ac1, ac2, ac3, ac4, _⟩, _⟩, ⟨⟨cc0, cc1, cc2, cc3, cc4, _⟩, _⟩⟩ := hSw
          go_simp
          try with_reducible rfl
        try simp only [Act.put, List.setIfInBounds_toArray, List.set_cons_zero, List.set_cons_succ]
        refine Ord.stepR (v := ?_) (by rfl) ?_ ?_
        rotate_left
        · intro w' hSw
          obtain ⟨_, ⟨⟨ac0, ac1, ac2, ac3, ac4, _⟩, _⟩, ⟨⟨cc0, cc1, cc2, cc3, cc4, _⟩, _⟩⟩ := hSw
          go_simp
          try with_reducible rfl
        try simp only [Act.put, List.setIfInBounds_toArray, List.set_cons_zero, List.set_cons_succ]
        refine Ord.stepC (v := .string Wj) (by rfl) ?_ (fun w1 hS => (HWH.out w1).mono fun e w2 h => ⟨h.1, Bel.call hS.1 h.2, hS.2.1.call h.2, hS.2.2.call h.2⟩) ?_
        · intro w' hSw
          go_simp
          try with_reducible rfl
        try simp only [Act.put, List.setIfInBounds_toArray, List.set_cons_zero, List.set_cons_succ]
        refine Ord.stepC (v := .bool false) (by rfl) ?_ (fun w1 hS => (HT2.out _ _ hS.2.2.isR).mono fun e w2 h => ⟨h.1, Bel.call hS.1 h.2, hS.2.1.call h.2, hS.2.2.call h.2⟩) ?_
        · intro w' hSw
          go_simp
          try with_reducible rfl
        try simp only [Act.put, List.setIfInBounds_toArray, List.set_cons_zero, List.set_cons_succ]
        refine Ord.stepR (v := ?_) (by rfl) ?_ ?_
        rotate_left
        · intro w' hSw
          obtain ⟨_, ⟨⟨ac0, ac1, ac2, ac3, ac4, _⟩, _⟩, ⟨⟨cc0, cc1, cc2, cc3, cc4, _⟩, _⟩⟩ := hSw
          go_simp
          try with_reducible rfl
        try simp only [Act.put, List.setIfInBounds_toArray, List.set_cons_zero, List.set_cons_succ]
        refine Ord.stepR (v := ?_) (by rfl) ?_ ?_
        rotate_left
        · intro w' hSw
          obtain ⟨_, ⟨⟨ac0, ac1, ac2, ac3, ac4, _⟩, _⟩, ⟨⟨cc0, cc1, cc2, cc3, cc4, _⟩, _⟩⟩ := hSw
          go_simp
          try with_reducible rfl
        try simp only [Act.put, List.setIfInBounds_toArray, List.set_cons_zero, List.set_cons_succ]
        refine Ord.stepC (v := .string Wj) (by rfl) ?_ (fun w1 hS => (HWH.out w1).mono fun e w2 h => ⟨h.1, Bel.call hS.1 h.2, hS.2.1.call h.2, hS.2.2.call h.2⟩) ?_
        · intro w' hSw
          go_simp
          try with_reducible rfl
        try simp only [Act.put, List.setIfInBounds_toArray, List.set_cons_zero, List.set_cons_succ]
        refine Ord.stepC (v := .bool false) (by rfl) ?_ (fun w1 hS => (HA2.out _ _ hS.2.1.isR).mono fun e w2 h => ⟨h.1, Bel.call hS.1 h.2, hS.2.1.call h.2, hS.2.2.call h.2⟩) ?_
        · intro w' hSw
          go_simp
          try with_reducible rfl
        try simp only [Act.put, List.setIfInBounds_toArray, List.set_cons_zero, List.set_cons_succ]
        refine Ord.stepR (v := ?_) (by rfl) ?_ ?_
        rotate_left
        · intro w' hSw
          obtain ⟨_, ⟨⟨ac0, ac1, ac2, ac3, ac4, _⟩, _⟩, ⟨⟨cc0, cc1, cc2, cc3, cc4, _⟩, _⟩⟩ := hSw
          go_simp
          try with_reducible rfl
        try simp only [Act.put, List.setIfInBounds_toArray, List.set_cons_zero, List.set_cons_succ]
        refine Ord.stepR (v := ?_) (by rfl) ?_ ?_
        rotate_left
        · intro w' hSw
          obtain ⟨_, ⟨⟨ac0, ac1, ac2, ac3, ac4, _⟩, _⟩, ⟨⟨cc0, cc1, cc2, cc3, cc4, _⟩, _⟩⟩ := hSw
          go_simp
          try with_reducible rfl
        try simp only [Act.put, List.setIfInBounds_toArray, List.set_cons_zero, List.set_cons_succ]
        refine Ord.stepD ?_
        rintro w9 hS9
        have HS9 := Lib.hid hS9
        clear hS9
        go_wp2
        go_roundw
        case rel => exact ⟨j + 1, by omega, by go_num, Lib.hid HS9.out.1⟩
        case measure => simp [intOf]; omega
      · refine Ord.stepR (v := ?_) (by rfl) ?_ ?_
        rotate_left
        · intro w' hSw
          obtain ⟨_, ⟨⟨ac0, ac1, ac2, ac3, ac4, _⟩, _⟩, ⟨⟨cc0, cc1, cc2, cc3, cc4, _⟩, _⟩⟩ := hSw
          go_simp
          try with_reducible rfl
        try simp only [Act.put, List.setIfInBounds_toArray, List.set_cons_zero, List.set_cons_succ]
        refine Ord.stepR (v := ?_) (by rfl) ?_ ?_
        rotate_left
        · intro w' hSw
          obtain ⟨_, ⟨⟨ac0, ac1, ac2, ac3, ac4, _⟩, _⟩, ⟨⟨cc0, cc1, cc2, cc3, cc4, _⟩, _⟩⟩ := hSw
          go_simp
          try with_reducible rfl
        try simp only [Act.put, List.setIfInBounds_toArray, List.set_cons_zero, List.set_cons_succ]
        refine Ord.stepR (v := ?_) (by rfl) ?_ ?_
        rotate_left
        · intro w' hSw
          obtain ⟨_, ⟨⟨ac0, ac1, ac2, ac3, ac4, _⟩, _⟩, ⟨⟨cc0, cc1, cc2, cc3, cc4, _⟩, _⟩⟩ := hSw
          go_simp
          try with_reducible rfl
        try simp only [Act.put, List.setIfInBounds_toArray, List.set_cons_zero, List.set_cons_succ]
        refine Ord.stepR (v := ?_) (by rfl) ?_ ?_
        rotate_left
        · intro w' hSw
          obtain ⟨_, ⟨⟨ac0, ac1, ac2, ac3, ac4, _⟩, _⟩, ⟨⟨cc0, cc1, cc2, cc3, cc4, _⟩, _⟩⟩ := hSw
          go_simp
          try with_reducible rfl
        try simp only [Act.put, List.setIfInBounds_toArray, List.set_cons_zero, List.set_cons_succ]
        refine Ord.stepC (v := .string Wj) (by rfl) ?_ (fun w1 hS => (HWH.out w1).mono fun e w2 h => ⟨h.1, Bel.call hS.1 h.2, hS.2.1.call h.2, hS.2.2.call h.2⟩) ?_
        · intro w' hSw
          go_simp
          try with_reducible rfl
        try simp only [Act.put, List.setIfInBounds_toArray, List.set_cons_zero, List.set_cons_succ]
        refine Ord.stepC (v := .bool true) (by rfl) ?_ (fun w1 hS => (HT2.out _ _ hS.2.2.isR).mono fun e w2 h => ⟨h.1, Bel.call hS.1 h.2, hS.2.1.call h.2, hS.2.2.call h.2⟩) ?_
        · intro w' hSw
          go_simp
          try with_reducible rfl
        try simp only [Act.put, List.setIfInBounds_toArray, List.set_cons_zero, List.set_cons_succ]
        refine Ord.stepR (v := ?_) (by rfl) ?_ ?_
        rotate_left
        · intro w' hSw
          obtain ⟨_, ⟨⟨ac0, ac1, ac2, ac3, ac4, _⟩, _⟩, ⟨⟨cc0, cc1, cc2, cc3, cc4, _⟩, _⟩⟩ := hSw
          go_simp
          try with_reducible rfl
        try simp only [Act.put, List.setIfInBounds_toArray, List.set_cons_zero, List.set_cons_succ]
        refine Ord.stepR (v := ?_) (by rfl) ?_ ?_
        rotate_left
        · intro w' hSw
          obtain ⟨_, ⟨⟨ac0, ac1, ac2, ac3, ac4, _⟩, _⟩, ⟨⟨cc0, cc1, cc2, cc3, cc4, _⟩, _⟩⟩ := hSw
          go_simp
          try with_reducible rfl
        try simp only [Act.put, List.setIfInBounds_toArray, List.set_cons_zero, List.set_cons_succ]
        refine Ord.stepC (v := .string Wj) (by rfl) ?_ (fun w1 hS => (HWH.out w1).mono fun e w2 h => ⟨h.1, Bel.call hS.1 h.2, hS.2.1.call h.2, hS.2.2.call h.2⟩) ?_
        · intro w' hSw
          go_simp
          try with_reducible rfl
        try simp only [Act.put, List.setIfInBounds_toArray, List.set_cons_zero, List.set_cons_succ]
        refine Ord.stepC (v := .bool true) (by rfl) ?_ (fun w1 hS => (HA2.out _ _ hS.2.1.isR).mono fun e w2 h => ⟨h.1, Bel.call hS.1 h.2, hS.2.1.call h.2, hS.2.2.call h.2⟩) ?_
        · intro w' hSw
          go_simp
          try with_reducible rfl
        try simp only [Act.put, List.setIfInBounds_toArray, List.set_cons_zero, List.set_cons_succ]
        refine Ord.stepR (v := ?_) (by rfl) ?_ ?_
        rotate_left
        · intro w' hSw
          obtain ⟨_, ⟨⟨ac0, ac1, ac2, ac3, ac4, _⟩, _⟩, ⟨⟨cc0, cc1, cc2, cc3, cc4, _⟩, _⟩⟩ := hSw
          go_simp
          try with_reducible rfl
        try simp only [Act.put, List.setIfInBounds_toArray, List.set_cons_zero, List.set_cons_succ]
        refine Ord.stepR (v := ?_) (by rfl) ?_ ?_
        rotate_left
        · intro w' hSw
          obtain ⟨_, ⟨⟨ac0, ac1, ac2, ac3, ac4, _⟩, _⟩, ⟨⟨cc0, cc1, cc2, cc3, cc4, _⟩, _⟩⟩ := hSw
          go_simp
          try with_reducible rfl
        try simp only [Act.put, List.setIfInBounds_toArray, List.set_cons_zero, List.set_cons_succ]
        refine Ord.stepD ?_
        rintro w9 hS9
        have HS9 := Lib.hid hS9
        clear hS9
        go_wp2
        go_roundw
        case rel => exact ⟨j + 1, by omega, by go_num, Lib.hid HS9.out.1⟩
        case measure => simp [intOf]; omega
    · have hG := HG.out
      have hV := HV.out
      have HC1 := Lib.hid (can_to CO hG.writes (few_right HSR.out) HUS.out)
      have HC2 := Lib.hid (can_to CO hG.writes (few_right HSR.out) HUS.out)
      have hno : can t U.data.toList false = false := by rw [← HT.out]; exact can_no (by rintro (h | h | ⟨_, h⟩); exact hG.isnt.1 h; exact hG.isnt.2.2 h; exact hG.isnt.2.1 h)
      have HC3 := Lib.hid (can_to CO hno (few_right HTR.out) HUS.out)
      have HC4 := Lib.hid (can_to CO hV.reads (few_right HVR.out) HUS.out)
      have HC5 := Lib.hid (can_to CO hV.writes (few_right HVR.out) HUS.out)
      clear hG hV hno
      obtain ⟨⟨bc0, bc1, bc2, bc3, bc4, _⟩, _, _⟩ := HHb.out
      go_wp2_with fail
      clear bc0 bc1 bc2 bc3 bc4
      with_reducible refine (HC1.out _ _ HHb.out.isR).mono ?_
      rintro e10 w10 ⟨rfl, hb10⟩
      have HB10 := Lib.hid (Bel.call HBd.out hb10)
      replace HHa := Lib.hid (HHa.out.call hb10)
      replace HHb := Lib.hid (HHb.out.call hb10)
      replace HHc := Lib.hid (HHc.out.call hb10)
      replace HHd := Lib.hid (HHd.out.call hb10)
      clear hb10
      dsimp only
      obtain ⟨⟨bc0, bc1, bc2, bc3, bc4, _⟩, _, _⟩ := HHb.out
      go_wp2_with fail
      clear bc0 bc1 bc2 bc3 bc4
      with_reducible refine (HC2.out _ _ HHb.out.isR).mono ?_
      rintro e11 w11 ⟨rfl, hb11⟩
      have HB11 := Lib.hid (Bel.call HB10.out hb11)
      replace HHa := Lib.hid (HHa.out.call hb11)
      replace HHb := Lib.hid (HHb.out.call hb11)
      replace HHc := Lib.hid (HHc.out.call hb11)
      replace HHd := Lib.hid (HHd.out.call hb11)
      clear hb11
      dsimp only
      obtain ⟨⟨cc0, cc1, cc2, cc3, cc4, _⟩, _, _⟩ := HHc.out
      go_wp2_with fail
      clear cc0 cc1 cc2 cc3 cc4
      with_reducible refine (HC3.out _ _ HHc.out.isR).mono ?_
      rintro e12 w12 ⟨rfl, hb12⟩
      have HB12 := Lib.hid (Bel.call HB11.out hb12)
      replace HHa := Lib.hid (HHa.out.call hb12)
      replace HHb := Lib.hid (HHb.out.call hb12)
      replace HHc := Lib.hid (HHc.out.call hb12)
      replace HHd := Lib.hid (HHd.out.call hb12)
      clear hb12
      dsimp only
      obtain ⟨⟨dc0, dc1, dc2, dc3, dc4, _⟩, _, _⟩ := HHd.out
      go_wp2_with fail
      clear dc0 dc1 dc2 dc3 dc4
      with_reducible refine (HC4.out _ _ HHd.out.isR).mono ?_
      rintro e13 w13 ⟨rfl, hb13⟩
      have HB13 := Lib.hid (Bel.call HB12.out hb13)
      replace HHa := Lib.hid (HHa.out.call hb13)
      replace HHb := Lib.hid (HHb.out.call hb13)
      replace HHc := Lib.hid (HHc.out.call hb13)
      replace HHd := Lib.hid (HHd.out.call hb13)
      clear hb13
      dsimp only
      obtain ⟨⟨dc0, dc1, dc2, dc3, dc4, _⟩, _, _⟩ := HHd.out
      go_wp2_with fail
      clear dc0 dc1 dc2 dc3 dc4
      with_reducible refine (HC5.out _ _ HHd.out.isR).mono ?_
      rintro e14 w14 ⟨rfl, hb14⟩
      have HB14 := Lib.hid (Bel.call HB13.out hb14)
      replace HHa := Lib.hid (HHa.out.call hb14)
      replace HHb := Lib.hid (HHb.out.call hb14)
      replace HHc := Lib.hid (HHc.out.call hb14)
      replace HHd := Lib.hid (HHd.out.call hb14)
      clear hb14
      dsimp only
      go_wp2
      go_ret
      exact ⟨rfl, HB14.out⟩
set_option maxHeartbeats 16000000 in
set_option maxRecDepth 1000000 in
theorem undo_walk_false (CO : CanOK) (NO : NewOK) (GO : GrantOK) (RO : RevokeOK) (a : Option Addr) (n c : Nat) (Z : Nat → Nat → Int) (c1 : Int) (w : World) (ha : Acts.AReads 2 w a n Z) (h1 : -9223372036854775808 ≤ c1 ∧ c1 ≤ 9223372036854775807) :
    Calls Try.prog 7 #[.slice a n c, .int .i64 c1, .bool false] w fun e w' => e = .returned (.bool true) ∧ Below w.heap.size w w' := by
  have HSH := Lib.hid fun w => shown7_any NO GO CO w
  have HD := Lib.hid fun w' hb gs hg => done_to a n c Z w ha w' hb gs hg
  obtain ⟨U, hU, hun, hus, _⟩ := who_to c1 h1
  have HU := Lib.hid hU
  have HUN := Lib.hid hun
  have HUS := Lib.hid hus
  clear ha h1 hU hun hus
  go_enter Try.func7, Try.ntmps7
  go_wp2_with fail
  with_reducible refine (HSH.out _).mono ?_
  rintro e1 w1 ⟨rfl, hb1⟩
  have HB1 := Lib.hid hb1
  clear hb1
  dsimp only
  go_wp2_with fail
  with_reducible refine (HD.out _ HB1.out _ gs_nil).mono ?_
  rintro e2 w2 ⟨⟨v2, r, han2, hx2, rfl⟩, hb2⟩
  obtain ⟨o2, f2, p2, A2, n2, c2, B2, m2, d2, rfl, hp2, hn2, hm2, ho2, hf2, hx2⟩ := isX_lit hx2
  have HB2 := Lib.hid (Bel.call HB1.out hb2)
  have HAN := Lib.hid han2
  have HX2 := Lib.hid hx2
  have HO2 := Lib.hid ho2
  have HF2 := Lib.hid hf2
  have HP2 := Lib.hid hp2
  have HN2 := Lib.hid hn2
  have HM2 := Lib.hid hm2
  clear hb2 hx2 ho2 hf2 hp2 hn2 hm2 han2
  dsimp only at HX2 HO2 HF2 HP2 HN2 HM2 ⊢
  go_wp2_with fail
  obtain ⟨ga, hga⟩ : ∃ g, w2.heap.size = g := ⟨_, rfl⟩
  have hh3 := hold_alloc (t := 24) HX2.out
  have hba3 := al w2 (.cells #[.string o2, .string f2, .int .i64 p2, .slice A2 n2 c2, .slice B2 m2 d2] 24)
  generalize w2.alloc (.cells #[.string o2, .string f2, .int .i64 p2, .slice A2 n2 c2, .slice B2 m2 d2] 24) = w3 at hh3 hba3 ⊢
  rw [hga] at hh3 ⊢
  have HHa := Lib.hid hh3
  have HB3 := Lib.hid (Bel.call HB2.out hba3)
  clear hh3 hba3 hga
  with_reducible refine (HU.out _).mono ?_
  rintro e4 w4 ⟨rfl, hb4⟩
  have HB4 := Lib.hid (Bel.call HB3.out hb4)
  replace HHa := Lib.hid (HHa.out.call hb4)
  clear hb4
  dsimp only
  obtain ⟨s, e, hs, he⟩ := gr_out r U.data.toList false HAN.out.1 HUN.out
  have HC1 := Lib.hid (grant_to GO hs (few_right HAN.out.1) HUS.out)
  have HS := Lib.hid hs
  have HE := Lib.hid he
  clear hs he
  obtain ⟨⟨ac0, ac1, ac2, ac3, ac4, _⟩, _, _⟩ := HHa.out
  go_wp2_with fail
  clear ac0 ac1 ac2 ac3 ac4
  with_reducible refine (HC1.out _ _ _ (gs_cons HHa.out.lt gs_nil) HHa.out.isX).mono ?_
  rintro e5 w5 ⟨⟨v5, hx5, rfl⟩, hb5⟩
  obtain ⟨o5, f5, p5, A5, n5, c5, B5, m5, d5, rfl, hp5, hn5, hm5, ho5, hf5, hx5⟩ := isX_lit hx5
  have HB5 := Lib.hid (Bel.call HB4.out hb5)
  replace HHa := Lib.hid (HHa.out.call hb5)
  have HX5 := Lib.hid hx5
  have HO5 := Lib.hid ho5
  have HF5 := Lib.hid hf5
  have HP5 := Lib.hid hp5
  have HN5 := Lib.hid hn5
  have HM5 := Lib.hid hm5
  clear hb5 hx5 ho5 hf5 hp5 hn5 hm5
  dsimp only at HX5 HO5 HF5 HP5 HN5 HM5 ⊢
  obtain rfl | rfl | rfl := HE.out
  rotate_left
  · have h := gr_there HAN.out.1 HUN.out HS.out
    have HCN := Lib.hid (can_to CO h.2 (few_right HAN.out.1) HUS.out)
    clear h
    have hna := HHa.out.new (ob := (.cells #[.string o5, .string f5, .int .i64 p5, .slice A5 n5 c5, .slice B5 m5 d5] 24))
    have HNA := Lib.hid hna
    have HBC := Lib.hid (Bel.call HB5.out (al w5 (.cells #[.string o5, .string f5, .int .i64 p5, .slice A5 n5 c5, .slice B5 m5 d5] 24)))
    obtain ⟨⟨ac0, ac1, ac2, ac3, ac4, _⟩, _⟩ := hna
    go_wp2_with fail
    clear ac0 ac1 ac2 ac3 ac4
    with_reducible refine (HCN.out _ _ HNA.out.isR).mono ?_
    rintro e9 w9 ⟨rfl, hb9⟩
    have HB9 := Lib.hid (Bel.call HBC.out hb9)
    clear hb9
    dsimp only
    go_wp2
    go_ret
    exact ⟨rfl, HB9.out⟩
  · have h := gr_full HAN.out.1 HUN.out HS.out
    have HCN := Lib.hid (can_to CO h.2.1 (few_right HAN.out.1) HUS.out)
    have hl := h.2.2
    rw [← HN2.out, ← HM2.out] at hl
    clear h
    have hl5 : ((n2 : Int) + (m2 : Int)) = 5 := by omega
    clear hl
    have hna := HHa.out.new (ob := (.cells #[.string o5, .string f5, .int .i64 p5, .slice A5 n5 c5, .slice B5 m5 d5] 24))
    have HNA := Lib.hid hna
    have HBC := Lib.hid (Bel.call HB5.out (al w5 (.cells #[.string o5, .string f5, .int .i64 p5, .slice A5 n5 c5, .slice B5 m5 d5] 24)))
    obtain ⟨⟨ac0, ac1, ac2, ac3, ac4, _⟩, _⟩ := hna
    go_wp2_with fail
    clear ac0 ac1 ac2 ac3 ac4
    with_reducible refine (HCN.out _ _ HNA.out.isR).mono ?_
    rintro e9 w9 ⟨rfl, hb9⟩
    have HB9 := Lib.hid (Bel.call HBC.out hb9)
    clear hb9
    dsimp only
    go_wp2
    go_ret
    exact ⟨rfl, HB9.out⟩
  go_wp2_with fail
  obtain ⟨gb, hgb⟩ : ∃ g, w5.heap.size = g := ⟨_, rfl⟩
  have hh6 := hold_alloc (t := 24) HX5.out
  have hba6 := al w5 (.cells #[.string o5, .string f5, .int .i64 p5, .slice A5 n5 c5, .slice B5 m5 d5] 24)
  have hna6 := HHa.out.new (ob := (.cells #[.string o5, .string f5, .int .i64 p5, .slice A5 n5 c5, .slice B5 m5 d5] 24))
  generalize w5.alloc (.cells #[.string o5, .string f5, .int .i64 p5, .slice A5 n5 c5, .slice B5 m5 d5] 24) = w6 at hh6 hba6 hna6 ⊢
  rw [hgb] at hh6 hna6 ⊢
  replace HHa := Lib.hid hna6
  have HHb := Lib.hid hh6
  have HB6 := Lib.hid (Bel.call HB5.out hba6)
  clear hh6 hba6 hgb hna6
  have hG := gr_ok HAN.out.1 HUN.out HS.out
  have HG := Lib.hid hG
  have HSR := Lib.hid hG.right
  have hep := HAN.out.1.2.2.1
  rcases rv_gr hG HUN.out with ⟨h7, hrv⟩ | ⟨h7, hrv⟩
  · have HQ := Lib.hid (revoke_to RO hrv (few_right HSR.out) HUS.out)
    obtain rfl : p2 = 7 := HP2.out.trans h7
    clear hG hep h7 hrv
    with_reducible refine (HQ.out _ _ _ (gs_cons HHb.out.lt (gs_cons HHa.out.lt gs_nil)) HHb.out.isX).mono ?_
    rintro e7 w7 ⟨⟨v7, hx7, rfl⟩, hb7⟩
    obtain ⟨o7, f7, p7, A7, n7, c7, B7, m7, d7, rfl, hp7, hn7, hm7, ho7, hf7, hx7⟩ := isX_lit hx7
    have HB7 := Lib.hid (Bel.call HB6.out hb7)
    replace HHa := Lib.hid (HHa.out.call hb7)
    replace HHb := Lib.hid (HHb.out.call hb7)
    have HX7 := Lib.hid hx7
    have HO7 := Lib.hid ho7
    have HF7 := Lib.hid hf7
    have HP7 := Lib.hid hp7
    have HN7 := Lib.hid hn7
    have HM7 := Lib.hid hm7
    clear hb7 hx7 ho7 hf7 hp7 hn7 hm7
    dsimp only at HX7 HO7 HF7 HP7 HN7 HM7 ⊢
    have hna := HHa.out.new (ob := (.cells #[.string o7, .string f7, .int .i64 p7, .slice A7 n7 c7, .slice B7 m7 d7] 24))
    have HBC := Lib.hid (Bel.call HB7.out (al w7 (.cells #[.string o7, .string f7, .int .i64 p7, .slice A7 n7 c7, .slice B7 m7 d7] 24)))
    obtain ⟨⟨ac0, ac1, ac2, ac3, ac4, _⟩, _⟩ := hna
    go_wp2
    go_ret
    exact ⟨rfl, HBC.out⟩
  obtain ⟨t, ht⟩ : ∃ t : Rt, (⟨r.o, r.f, r.ep + 1, r.rs, r.ws⟩ : Rt) = t := ⟨_, rfl⟩
  rw [ht] at hrv
  have htr : RR t := by rw [← ht]; obtain ⟨x1, x2, x3, x4, x5, x6, x7⟩ := HAN.out.1; exact ⟨x1, x2, ⟨by show 0 ≤ r.ep + 1; omega, by show r.ep + 1 ≤ 7; omega⟩, x4, x5, x6, x7⟩
  obtain ⟨v, hv⟩ : ∃ v, gr t U.data.toList true = (v, 0) := by
    rcases gr_cases t U.data.toList true htr HUN.out with ⟨_, h1⟩ | ⟨_, _, h2⟩ | ⟨_, _, e, _⟩
    · rw [← ht] at h1
      exact absurd h1 (by rintro (h | h | h); exact hG.isnt.1 h; exact hG.isnt.2.1 h; exact hG.isnt.2.2 h)
    · rw [← ht] at h2
      have := hG.room
      simp only at h2
      omega
    · rcases e with ⟨_, e⟩ | ⟨_, e⟩ <;> exact ⟨_, e⟩
  have hV := gr_ok htr HUN.out hv
  have HV := Lib.hid hV
  have HVR := Lib.hid hV.right
  have HTR := Lib.hid htr
  have HQ := Lib.hid (revoke_to RO hrv (few_right HSR.out) HUS.out)
  have HQ2 := Lib.hid (grant_to GO hv (few_right HTR.out) HUS.out)
  have HT := Lib.hid ht
  have hp7 : p2 < 7 := by rw [HP2.out]; exact h7
  have hp0 : 0 ≤ p2 := by rw [HP2.out]; exact hep.1
  clear hG hep h7 hrv htr hv hV ht
  with_reducible refine (HQ.out _ _ _ (gs_cons HHb.out.lt (gs_cons HHa.out.lt gs_nil)) HHb.out.isX).mono ?_
  rintro e7 w7 ⟨⟨v7, hx7, rfl⟩, hb7⟩
  obtain ⟨o7, f7, p7, A7, n7, c7, B7, m7, d7, rfl, hp7, hn7, hm7, ho7, hf7, hx7⟩ := isX_lit hx7
  have HB7 := Lib.hid (Bel.call HB6.out hb7)
  replace HHa := Lib.hid (HHa.out.call hb7)
  replace HHb := Lib.hid (HHb.out.call hb7)
  have HX7 := Lib.hid hx7
  have HO7 := Lib.hid ho7
  have HF7 := Lib.hid hf7
  have HP7 := Lib.hid hp7
  have HN7 := Lib.hid hn7
  have HM7 := Lib.hid hm7
  clear hb7 hx7 ho7 hf7 hp7 hn7 hm7
  dsimp only at HX7 HO7 HF7 HP7 HN7 HM7 ⊢
  obtain rfl : p7 = p2 + 1 := by rw [HP7.out, HP2.out, ← HT.out]
  obtain rfl : n7 = n2 := by rw [HN7.out, HN2.out, ← HT.out]
  obtain rfl : m7 = m2 := by rw [HM7.out, HM2.out, ← HT.out]
  obtain ⟨⟨ac0, ac1, ac2, ac3, ac4, _⟩, _, _⟩ := HHa.out
  go_wp2_with fail
  clear ac0 ac1 ac2 ac3 ac4
  obtain ⟨gc, hgc⟩ : ∃ g, w7.heap.size = g := ⟨_, rfl⟩
  have hh8 := hold_alloc (t := 24) HX7.out
  have hba8 := al w7 (.cells #[.string o7, .string f7, .int .i64 (p2 + 1), .slice A7 n7 c7, .slice B7 m7 d7] 24)
  have hna8 := HHa.out.new (ob := (.cells #[.string o7, .string f7, .int .i64 (p2 + 1), .slice A7 n7 c7, .slice B7 m7 d7] 24))
  have hnb8 := HHb.out.new (ob := (.cells #[.string o7, .string f7, .int .i64 (p2 + 1), .slice A7 n7 c7, .slice B7 m7 d7] 24))
  generalize w7.alloc (.cells #[.string o7, .string f7, .int .i64 (p2 + 1), .slice A7 n7 c7, .slice B7 m7 d7] 24) = w8 at hh8 hba8 hna8 hnb8 ⊢
  rw [hgc] at hh8 hna8 hnb8 ⊢
  replace HHa := Lib.hid hna8
  replace HHb := Lib.hid hnb8
  have HHc := Lib.hid hh8
  have HB8 := Lib.hid (Bel.call HB7.out hba8)
  clear hh8 hba8 hgc hna8 hnb8
  with_reducible refine (HQ2.out _ _ _ (gs_cons HHc.out.lt (gs_cons HHb.out.lt (gs_cons HHa.out.lt gs_nil))) HHc.out.isX).mono ?_
  rintro e9 w9 ⟨⟨v9, hx9, rfl⟩, hb9⟩
  obtain ⟨o9, f9, p9, A9, n9, c9, B9, m9, d9, rfl, hp9, hn9, hm9, ho9, hf9, hx9⟩ := isX_lit hx9
  have HB9 := Lib.hid (Bel.call HB8.out hb9)
  replace HHa := Lib.hid (HHa.out.call hb9)
  replace HHb := Lib.hid (HHb.out.call hb9)
  replace HHc := Lib.hid (HHc.out.call hb9)
  have HX9 := Lib.hid hx9
  have HO9 := Lib.hid ho9
  have HF9 := Lib.hid hf9
  have HP9 := Lib.hid hp9
  have HN9 := Lib.hid hn9
  have HM9 := Lib.hid hm9
  clear hb9 hx9 ho9 hf9 hp9 hn9 hm9
  dsimp only at HX9 HO9 HF9 HP9 HN9 HM9 ⊢
  have hpv : p9 = p2 + 1 := by rw [HP9.out, HV.out.epoch, ← HT.out, HP2.out]
  subst hpv
  obtain ⟨gd, hgd⟩ : ∃ g, w9.heap.size = g := ⟨_, rfl⟩
  have hd := hold_alloc (t := 24) HX9.out
  have hbd := al w9 (.cells #[.string o9, .string f9, .int .i64 (p2 + 1), .slice A9 n9 c9, .slice B9 m9 d9] 24)
  have hna := HHa.out.new (ob := (.cells #[.string o9, .string f9, .int .i64 (p2 + 1), .slice A9 n9 c9, .slice B9 m9 d9] 24))
  rw [hgd] at hna
  have hnb := HHb.out.new (ob := (.cells #[.string o9, .string f9, .int .i64 (p2 + 1), .slice A9 n9 c9, .slice B9 m9 d9] 24))
  rw [hgd] at hnb
  have hnc := HHc.out.new (ob := (.cells #[.string o9, .string f9, .int .i64 (p2 + 1), .slice A9 n9 c9, .slice B9 m9 d9] 24))
  rw [hgd] at hnc
  rw [hgd] at hd
  have HHd := Lib.hid hd
  have HBd := Lib.hid (Bel.call HB9.out hbd)
  replace HHa := Lib.hid hna
  replace HHb := Lib.hid hnb
  replace HHc := Lib.hid hnc
  obtain ⟨⟨ac0, ac1, ac2, ac3, ac4, _⟩, _⟩ := hna
  obtain ⟨⟨cc0, cc1, cc2, cc3, cc4, _⟩, _⟩ := hnc
  have hd2 := HHd.out
  obtain ⟨⟨dc0, dc1, dc2, dc3, dc4, _⟩, _⟩ := hd2
  clear hd hbd hnb
  go_wp2_with fail
  clear ac0 ac1 ac2 ac3 ac4 cc0 cc1 cc2 cc3 cc4 dc0 dc1 dc2 dc3 dc4
  obtain ⟨wd, hwd⟩ : ∃ W, w9.alloc (.cells #[.string o9, .string f9, .int .i64 (p2 + 1), .slice A9 n9 c9, .slice B9 m9 d9] 24) = W := ⟨_, rfl⟩
  rw [hwd] at HHa HHb HHc HHd HBd ⊢
  clear hwd hgd
  go_loopw [16] (fun i wr => ∃ j : Nat, j ≤ 8 ∧ i = .int .i64 (j : Int) ∧ Hid (Below wd.heap.size wd wr)) (fun i _ => 8 - (intOf i).toNat)
  case atStart => exact ⟨0, by omega, rfl, Lib.hid (Below.refl _ _)⟩
  case round =>
    obtain ⟨j, hj, rfl, HI⟩ := hrel
    replace HBd := Lib.hid (Bel.call HBd.out HI.out)
    replace HHa := Lib.hid (HHa.out.call HI.out)
    replace HHb := Lib.hid (HHb.out.call HI.out)
    replace HHc := Lib.hid (HHc.out.call HI.out)
    replace HHd := Lib.hid (HHd.out.call HI.out)
    by_cases hlt : (j : Int) < 8
    · have hj8 : j < 8 := by omega
      have HWH := Lib.hid fun w => who_at hj8 w
      have hws : (whoN j).size ≤ 5000 := by have := who_size j; omega
      have hsame : ∀ wr, can t (whoN j).data.toList wr = can r (whoN j).data.toList wr := fun wr => by rw [← HT.out]; exact can_same HAN.out.1 (by rw [HT.out]; exact HTR.out) Iff.rfl
      obtain ⟨b1, hb1⟩ : ∃ b, can r (whoN j).data.toList false = b := ⟨_, rfl⟩
      obtain ⟨b2, hb2⟩ : ∃ b, can r (whoN j).data.toList true = b := ⟨_, rfl⟩
      have HA1 := Lib.hid (can_to CO hb1 (few_right HAN.out.1) hws)
      have HA2 := Lib.hid (can_to CO hb2 (few_right HAN.out.1) hws)
      have HT1 := Lib.hid (can_to CO ((hsame false).trans hb1) (few_right HTR.out) hws)
      have HT2 := Lib.hid (can_to CO ((hsame true).trans hb2) (few_right HTR.out) hws)
      obtain ⟨Wj, hWj⟩ : ∃ W, whoN j = W := ⟨_, rfl⟩
      rw [hWj] at HWH HA1 HA2 HT1 HT2
      clear hws hsame hb1 hb2 hWj
      go_wp2_with fail
      have hdr := Below.drewN' (Below.refl wr.heap.size wr) 1
      refine Ord.region_lit (S := fun w' => Below wd.heap.size wd w' ∧ HoldL [gd, gc, gb, ga] ga w' o2 f2 p2 A2 n7 c2 B2 m7 d2 r ∧ HoldL [gd, gc, gb, ga] gc w' o7 f7 (p2 + 1) A7 n7 c7 B7 m7 d7 t) (by kernel_rfl) (by kernel_rfl) ⟨Bel.call HI.out hdr, HHa.out.call hdr, HHc.out.call hdr⟩ ?_
      clear hdr
      refine Ord.stepR (v := ?_) (by rfl) ?_ ?_
      rotate_left
      · intro w' hSw
        obtain ⟨_, ⟨⟨ac0, ac1, ac2, ac3, ac4, _⟩, _⟩, ⟨⟨cc0, cc1, cc2, cc3, cc4, _⟩, _⟩⟩ := hSw
        go_simp
        try with_reducible rfl
      try simp only [Act.put, List.setIfInBounds_toArray, List.set_cons_zero, List.set_cons_succ]
      refine Ord.stepR (v := ?_) (by rfl) ?_ ?_
      rotate_left
      · intro w' hSw
        obtain ⟨_, ⟨⟨ac0, ac1, ac2, ac3, ac4, _⟩, _⟩, ⟨⟨cc0, cc1, cc2, cc3, cc4, _⟩, _⟩⟩ := hSw
        go_simp
        try with_reducible rfl
      try simp only [Act.put, List.setIfInBounds_toArray, List.set_cons_zero, List.set_cons_succ]
      refine Ord.stepC (v := .string Wj) (by rfl) ?_ (fun w1 hS => (HWH.out w1).mono fun e w2 h => ⟨h.1, Bel.call hS.1 h.2, hS.2.1.call h.2, hS.2.2.call h.2⟩) ?_
      · intro w' hSw
        go_simp
        try with_reducible rfl
      try simp only [Act.put, List.setIfInBounds_toArray, List.set_cons_zero, List.set_cons_succ]
      refine Ord.stepC (v := .bool b1) (by rfl) ?_ (fun w1 hS => (HT1.out _ _ hS.2.2.isR).mono fun e w2 h => ⟨h.1, Bel.call hS.1 h.2, hS.2.1.call h.2, hS.2.2.call h.2⟩) ?_
      · intro w' hSw
        go_simp
        try with_reducible rfl
      try simp only [Act.put, List.setIfInBounds_toArray, List.set_cons_zero, List.set_cons_succ]
      refine Ord.stepR (v := ?_) (by rfl) ?_ ?_
      rotate_left
      · intro w' hSw
        obtain ⟨_, ⟨⟨ac0, ac1, ac2, ac3, ac4, _⟩, _⟩, ⟨⟨cc0, cc1, cc2, cc3, cc4, _⟩, _⟩⟩ := hSw
        go_simp
        try with_reducible rfl
      try simp only [Act.put, List.setIfInBounds_toArray, List.set_cons_zero, List.set_cons_succ]
      refine Ord.stepR (v := ?_) (by rfl) ?_ ?_
      rotate_left
      · intro w' hSw
        obtain ⟨_, ⟨⟨ac0, ac1, ac2, ac3, ac4, _⟩, _⟩, ⟨⟨cc0, cc1, cc2, cc3, cc4, _⟩, _⟩⟩ := hSw
        go_simp
        try with_reducible rfl
      try simp only [Act.put, List.setIfInBounds_toArray, List.set_cons_zero, List.set_cons_succ]
      refine Ord.stepC (v := .string Wj) (by rfl) ?_ (fun w1 hS => (HWH.out w1).mono fun e w2 h => ⟨h.1, Bel.call hS.1 h.2, hS.2.1.call h.2, hS.2.2.call h.2⟩) ?_
      · intro w' hSw
        go_simp
        try with_reducible rfl
      try simp only [Act.put, List.setIfInBounds_toArray, List.set_cons_zero, List.set_cons_succ]
      refine Ord.stepC (v := .bool b1) (by rfl) ?_ (fun w1 hS => (HA1.out _ _ hS.2.1.isR).mono fun e w2 h => ⟨h.1, Bel.call hS.1 h.2, hS.2.1.call h.2, hS.2.2.call h.2⟩) ?_
      · intro w' hSw
        go_simp
        try with_reducible rfl
      try simp only [Act.put, List.setIfInBounds_toArray, List.set_cons_zero, List.set_cons_succ]
      cases b1 <;> cases b2
      · refine Ord.stepR (v := ?_) (by rfl) ?_ ?_
        rotate_left
        · intro w' hSw
          obtain ⟨_, ⟨⟨ac0, ac1, ac2, ac3, ac4, _⟩, _⟩, ⟨⟨cc0, cc1, cc2, cc3, cc4, _⟩, _⟩⟩ := hSw
          go_simp
          try with_reducible rfl
        try simp only [Act.put, List.setIfInBounds_toArray, List.set_cons_zero, List.set_cons_succ]
        refine Ord.stepR (v := ?_) (by rfl) ?_ ?_
        rotate_left
        · intro w' hSw
          obtain ⟨_, ⟨⟨ac0, ac1, ac2, ac3, ac4, _⟩, _⟩, ⟨⟨cc0, cc1, cc2, cc3, cc4, _⟩, _⟩⟩ := hSw
          go_simp
          try with_reducible rfl
        try simp only [Act.put, List.setIfInBounds_toArray, List.set_cons_zero, List.set_cons_succ]
        refine Ord.stepR (v := ?_) (by rfl) ?_ ?_
        rotate_left
        · intro w' hSw
          obtain ⟨_, ⟨⟨ac0, ac1, ac2, ac3, ac4, _⟩, _⟩, ⟨⟨cc0, cc1, cc2, cc3, cc4, _⟩, _⟩⟩ := hSw
          go_simp
          try with_reducible rfl
        try simp only [Act.put, List.setIfInBounds_toArray, List.set_cons_zero, List.set_cons_succ]
        refine Ord.stepR (v := ?_) (by rfl) ?_ ?_
        rotate_left
        · intro w' hSw
          obtain ⟨_, ⟨⟨ac0, ac1, ac2, ac3, ac4, _⟩, _⟩, ⟨⟨cc0, cc1, cc2, cc3, cc4, _⟩, _⟩⟩ := hSw
          go_simp
          try with_reducible rfl
        try simp only [Act.put, List.setIfInBounds_toArray, List.set_cons_zero, List.set_cons_succ]
        refine Ord.stepC (v := .string Wj) (by rfl) ?_ (fun w1 hS => (HWH.out w1).mono fun e w2 h => ⟨h.1, Bel.call hS.1 h.2, hS.2.1.call h.2, hS.2.2.call h.2⟩) ?_
        · intro w' hSw
          go_simp
          try with_reducible rfl
        try simp only [Act.put, List.setIfInBounds_toArray, List.set_cons_zero, List.set_cons_succ]
        refine Ord.stepC (v := .bool false) (by rfl) ?_ (fun w1 hS => (HT2.out _ _ hS.2.2.isR).mono fun e w2 h => ⟨h.1, Bel.call hS.1 h.2, hS.2.1.call h.2, hS.2.2.call h.2⟩) ?_
        · intro w' hSw
          go_simp
          try with_reducible rfl
        try simp only [Act.put, List.setIfInBounds_toArray, List.set_cons_zero, List.set_cons_succ]
        refine Ord.stepR (v := ?_) (by rfl) ?_ ?_
        rotate_left
        · intro w' hSw
          obtain ⟨_, ⟨⟨ac0, ac1, ac2, ac3, ac4, _⟩, _⟩, ⟨⟨cc0, cc1, cc2, cc3, cc4, _⟩, _⟩⟩ := hSw
          go_simp
          try with_reducible rfl
        try simp only [Act.put, List.setIfInBounds_toArray, List.set_cons_zero, List.set_cons_succ]
        refine Ord.stepR (v := ?_) (by rfl) ?_ ?_
        rotate_left
        · intro w' hSw
          obtain ⟨_, ⟨⟨ac0, ac1, ac2, ac3, ac4, _⟩, _⟩, ⟨⟨cc0, cc1, cc2, cc3, cc4, _⟩, _⟩⟩ := hSw
          go_simp
          try with_reducible rfl
        try simp only [Act.put, List.setIfInBounds_toArray, List.set_cons_zero, List.set_cons_succ]
        refine Ord.stepC (v := .string Wj) (by rfl) ?_ (fun w1 hS => (HWH.out w1).mono fun e w2 h => ⟨h.1, Bel.call hS.1 h.2, hS.2.1.call h.2, hS.2.2.call h.2⟩) ?_
        · intro w' hSw
          go_simp
          try with_reducible rfl
        try simp only [Act.put, List.setIfInBounds_toArray, List.set_cons_zero, List.set_cons_succ]
        refine Ord.stepC (v := .bool false) (by rfl) ?_ (fun w1 hS => (HA2.out _ _ hS.2.1.isR).mono fun e w2 h => ⟨h.1, Bel.call hS.1 h.2, hS.2.1.call h.2, hS.2.2.call h.2⟩) ?_
        · intro w' hSw
          go_simp
          try with_reducible rfl
        try simp only [Act.put, List.setIfInBounds_toArray, List.set_cons_zero, List.set_cons_succ]
        refine Ord.stepR (v := ?_) (by rfl) ?_ ?_
        rotate_left
        · intro w' hSw
          obtain ⟨_, ⟨⟨ac0, ac1, ac2, ac3, ac4, _⟩, _⟩, ⟨⟨cc0, cc1, cc2, cc3, cc4, _⟩, _⟩⟩ := hSw
          go_simp
          try with_reducible rfl
        try simp only [Act.put, List.setIfInBounds_toArray, List.set_cons_zero, List.set_cons_succ]
        refine Ord.stepR (v := ?_) (by rfl) ?_ ?_
        rotate_left
        · intro w' hSw
          obtain ⟨_, ⟨⟨ac0, ac1, ac2, ac3, ac4, _⟩, _⟩, ⟨⟨cc0, cc1, cc2, cc3, cc4, _⟩, _⟩⟩ := hSw
          go_simp
          try with_reducible rfl
        try simp only [Act.put, List.setIfInBounds_toArray, List.set_cons_zero, List.set_cons_succ]
        refine Ord.stepD ?_
        rintro w9 hS9
        have HS9 := Lib.hid hS9
        clear hS9
        go_wp2
        go_roundw
        case rel => exact ⟨j + 1, by omega, by go_num, Lib.hid HS9.out.1⟩
        case measure => simp [intOf]; omega
      · refine Ord.stepR (v := ?_) (by rfl) ?_ ?_
        rotate_left
        · intro w' hSw
          obtain ⟨_, ⟨⟨ac0, ac1, ac2, ac3, ac4, _⟩, _⟩, ⟨⟨cc0, cc1, cc2, cc3, cc4, _⟩, _⟩⟩ := hSw
          go_simp
          try with_reducible rfl
        try simp only [Act.put, List.setIfInBounds_toArray, List.set_cons_zero, List.set_cons_succ]
        refine Ord.stepR (v := ?_) (by rfl) ?_ ?_
        rotate_left
        · intro w' hSw
          obtain ⟨_, ⟨⟨ac0, ac1, ac2, ac3, ac4, _⟩, _⟩, ⟨⟨cc0, cc1, cc2, cc3, cc4, _⟩, _⟩⟩ := hSw
          go_simp
          try with_reducible rfl
        try simp only [Act.put, List.setIfInBounds_toArray, List.set_cons_zero, List.set_cons_succ]
        refine Ord.stepR (v := ?_) (by rfl) ?_ ?_
        rotate_left
        · intro w' hSw
          obtain ⟨_, ⟨⟨ac0, ac1, ac2, ac3, ac4, _⟩, _⟩, ⟨⟨cc0, cc1, cc2, cc3, cc4, _⟩, _⟩⟩ := hSw
          go_simp
          try with_reducible rfl
        try simp only [Act.put, List.setIfInBounds_toArray, List.set_cons_zero, List.set_cons_succ]
        refine Ord.stepR (v := ?_) (by rfl) ?_ ?_
        rotate_left
        · intro w' hSw
          obtain ⟨_, ⟨⟨ac0, ac1, ac2, ac3, ac4, _⟩, _⟩, ⟨⟨cc0, cc1, cc2, cc3, cc4, _⟩, _⟩⟩ := hSw
          go_simp
          try with_reducible rfl
        try simp only [Act.put, List.setIfInBounds_toArray, List.set_cons_zero, List.set_cons_succ]
        refine Ord.stepC (v := .string Wj) (by rfl) ?_ (fun w1 hS => (HWH.out w1).mono fun e w2 h => ⟨h.1, Bel.call hS.1 h.2, hS.2.1.call h.2, hS.2.2.call h.2⟩) ?_
        · intro w' hSw
          go_simp
          try with_reducible rfl
        try simp only [Act.put, List.setIfInBounds_toArray, List.set_cons_zero, List.set_cons_succ]
        refine Ord.stepC (v := .bool true) (by rfl) ?_ (fun w1 hS => (HT2.out _ _ hS.2.2.isR).mono fun e w2 h => ⟨h.1, Bel.call hS.1 h.2, hS.2.1.call h.2, hS.2.2.call h.2⟩) ?_
        · intro w' hSw
          go_simp
          try with_reducible rfl
        try simp only [Act.put, List.setIfInBounds_toArray, List.set_cons_zero, List.set_cons_succ]
        refine Ord.stepR (v := ?_) (by rfl) ?_ ?_
        rotate_left
        · intro w' hSw
          obtain ⟨_, ⟨⟨ac0, ac1, ac2, ac3, ac4, _⟩, _⟩, ⟨⟨cc0, cc1, cc2, cc3, cc4, _⟩, _⟩⟩ := hSw
          go_simp
          try with_reducible rfl
        try simp only [Act.put, List.setIfInBounds_toArray, List.set_cons_zero, List.set_cons_succ]
        refine Ord.stepR (v := ?_) (by rfl) ?_ ?_
        rotate_left
        · intro w' hSw
          obtain ⟨_, ⟨⟨ac0, ac1, ac2, ac3, ac4, _⟩, _⟩, ⟨⟨cc0, cc1, cc2, cc3, cc4, _⟩, _⟩⟩ := hSw
          go_simp
          try with_reducible rfl
        try simp only [Act.put, List.setIfInBounds_toArray, List.set_cons_zero, List.set_cons_succ]
        refine Ord.stepC (v := .string Wj) (by rfl) ?_ (fun w1 hS => (HWH.out w1).mono fun e w2 h => ⟨h.1, Bel.call hS.1 h.2, hS.2.1.call h.2, hS.2.2.call h.2⟩) ?_
        · intro w' hSw
          go_simp
          try with_reducible rfl
        try simp only [Act.put, List.setIfInBounds_toArray, List.set_cons_zero, List.set_cons_succ]
        refine Ord.stepC (v := .bool true) (by rfl) ?_ (fun w1 hS => (HA2.out _ _ hS.2.1.isR).mono fun e w2 h => ⟨h.1, Bel.call hS.1 h.2, hS.2.1.call h.2, hS.2.2.call h.2⟩) ?_
        · intro w' hSw
          go_simp
          try with_reducible rfl
        try simp only [Act.put, List.setIfInBounds_toArray, List.set_cons_zero, List.set_cons_succ]
        refine Ord.stepR (v := ?_) (by rfl) ?_ ?_
        rotate_left
        · intro w' hSw
          obtain ⟨_, ⟨⟨ac0, ac1, ac2, ac3, ac4, _⟩, _⟩, ⟨⟨cc0, cc1, cc2, cc3, cc4, _⟩, _⟩⟩ := hSw
          go_simp
          try with_reducible rfl
        try simp only [Act.put, List.setIfInBounds_toArray, List.set_cons_zero, List.set_cons_succ]
        refine Ord.stepR (v := ?_) (by rfl) ?_ ?_
        rotate_left
        · intro w' hSw
          obtain ⟨_, ⟨⟨ac0, ac1, ac2, ac3, ac4, _⟩, _⟩, ⟨⟨cc0, cc1, cc2, cc3, cc4, _⟩, _⟩⟩ := hSw
          go_simp
          try with_reducible rfl
        try simp only [Act.put, List.setIfInBounds_toArray, List.set_cons_zero, List.set_cons_succ]
        refine Ord.stepD ?_
        rintro w9 hS9
        have HS9 := Lib.hid hS9
        clear hS9
        go_wp2
        go_roundw
        case rel => exact ⟨j + 1, by omega, by go_num, Lib.hid HS9.out.1⟩
        case measure => simp [intOf]; omega
      · refine Ord.stepR (v := ?_) (by rfl) ?_ ?_
        rotate_left
        · intro w' hSw
          obtain ⟨_, ⟨⟨ac0, ac1, ac2, ac3, ac4, _⟩, _⟩, ⟨⟨cc0, cc1, cc2, cc3, cc4, _⟩, _⟩⟩ := hSw
          go_simp
          try with_reducible rfl
        try simp only [Act.put, List.setIfInBounds_toArray, List.set_cons_zero, List.set_cons_succ]
        refine Ord.stepR (v := ?_) (by rfl) ?_ ?_
        rotate_left
        · intro w' hSw
          obtain ⟨_, ⟨⟨ac0, ac1, ac2, ac3, ac4, _⟩, _⟩, ⟨⟨cc0, cc1, cc2, cc3, cc4, _⟩, _⟩⟩ := hSw
          go_simp
          try with_reducible rfl
        try simp only [Act.put, List.setIfInBounds_toArray, List.set_cons_zero, List.set_cons_succ]
        refine Ord.stepR (v := ?_) (by rfl) ?_ ?_
        rotate_left
        · intro w' hSw
          obtain ⟨_, ⟨⟨ac0, ac1, ac2, ac3, ac4, _⟩, _⟩, ⟨⟨cc0, cc1, cc2, cc3, cc4, _⟩, _⟩⟩ := hSw
          go_simp
          try with_reducible rfl
        try simp only [Act.put, List.setIfInBounds_toArray, List.set_cons_zero, List.set_cons_succ]
        refine Ord.stepR (v := ?_) (by rfl) ?_ ?_
        rotate_left
        · intro w' hSw
          obtain ⟨_, ⟨⟨ac0, ac1, ac2, ac3, ac4, _⟩, _⟩, ⟨⟨cc0, cc1, cc2, cc3, cc4, _⟩, _⟩⟩ := hSw
          go_simp
          try with_reducible rfl
        try simp only [Act.put, List.setIfInBounds_toArray, List.set_cons_zero, List.set_cons_succ]
        refine Ord.stepC (v := .string Wj) (by rfl) ?_ (fun w1 hS => (HWH.out w1).mono fun e w2 h => ⟨h.1, Bel.call hS.1 h.2, hS.2.1.call h.2, hS.2.2.call h.2⟩) ?_
        · intro w' hSw
          go_simp
          try with_reducible rfl
        try simp only [Act.put, List.setIfInBounds_toArray, List.set_cons_zero, List.set_cons_succ]
        refine Ord.stepC (v := .bool false) (by rfl) ?_ (fun w1 hS => (HT2.out _ _ hS.2.2.isR).mono fun e w2 h => ⟨h.1, Bel.call hS.1 h.2, hS.2.1.call h.2, hS.2.2.call h.2⟩) ?_
        · intro w' hSw
          go_simp
          try with_reducible rfl
        try simp only [Act.put, List.setIfInBounds_toArray, List.set_cons_zero, List.set_cons_succ]
        refine Ord.stepR (v := ?_) (by rfl) ?_ ?_
        rotate_left
        · intro w' hSw
          obtain ⟨_, ⟨⟨ac0, ac1, ac2, ac3, ac4, _⟩, _⟩, ⟨⟨cc0, cc1, cc2, cc3, cc4, _⟩, _⟩⟩ := hSw
          go_simp
          try with_reducible rfl
        try simp only [Act.put, List.setIfInBounds_toArray, List.set_cons_zero, List.set_cons_succ]
        refine Ord.stepR (v := ?_) (by rfl) ?_ ?_
        rotate_left
        · intro w' hSw
          obtain ⟨_, ⟨⟨ac0, ac1, ac2, ac3, ac4, _⟩, _⟩, ⟨⟨cc0, cc1, cc2, cc3, cc4, _⟩, _⟩⟩ := hSw
          go_simp
          try with_reducible rfl
        try simp only [Act.put, List.setIfInBounds_toArray, List.set_cons_zero, List.set_cons_succ]
        refine Ord.stepC (v := .string Wj) (by rfl) ?_ (fun w1 hS => (HWH.out w1).mono fun e w2 h => ⟨h.1, Bel.call hS.1 h.2, hS.2.1.call h.2, hS.2.2.call h.2⟩) ?_
        · intro w' hSw
          go_simp
          try with_reducible rfl
        try simp only [Act.put, List.setIfInBounds_toArray, List.set_cons_zero, List.set_cons_succ]
        refine Ord.stepC (v := .bool false) (by rfl) ?_ (fun w1 hS => (HA2.out _ _ hS.2.1.isR).mono fun e w2 h => ⟨h.1, Bel.call hS.1 h.2, hS.2.1.call h.2, hS.2.2.call h.2⟩) ?_
        · intro w' hSw
          go_simp
          try with_reducible rfl
        try simp only [Act.put, List.setIfInBounds_toArray, List.set_cons_zero, List.set_cons_succ]
        refine Ord.stepR (v := ?_) (by rfl) ?_ ?_
        rotate_left
        · intro w' hSw
          obtain ⟨_, ⟨⟨ac0, ac1, ac2, ac3, ac4, _⟩, _⟩, ⟨⟨cc0, cc1, cc2, cc3, cc4, _⟩, _⟩⟩ := hSw
          go_simp
          try with_reducible rfl
        try simp only [Act.put, List.setIfInBounds_toArray, List.set_cons_zero, List.set_cons_succ]
        refine Ord.stepR (v := ?_) (by rfl) ?_ ?_
        rotate_left
        · intro w' hSw
          obtain ⟨_, ⟨⟨ac0, ac1, ac2, ac3, ac4, _⟩, _⟩, ⟨⟨cc0, cc1, cc2, cc3, cc4, _⟩, _⟩⟩ := hSw
          go_simp
          try with_reducible rfl
        try simp only [Act.put, List.setIfInBounds_toArray, List.set_cons_zero, List.set_cons_succ]
        refine Ord.stepD ?_
        rintro w9 hS9
        have HS9 := Lib.hid hS9
        clear hS9
        go_wp2
        go_roundw
        case rel => exact ⟨j + 1, by omega, by go_num, Lib.hid HS9.out.1⟩
        case measure => simp [intOf]; omega
      · refine Ord.stepR (v := ?_) (by rfl) ?_ ?_
        rotate_left
        · intro w' hSw
          obtain ⟨_, ⟨⟨ac0, ac1, ac2, ac3, ac4, _⟩, _⟩, ⟨⟨cc0, cc1, cc2, cc3, cc4, _⟩, _⟩⟩ := hSw
          go_simp
          try with_reducible rfl
        try simp only [Act.put, List.setIfInBounds_toArray, List.set_cons_zero, List.set_cons_succ]
        refine Ord.stepR (v := ?_) (by rfl) ?_ ?_
        rotate_left
        · intro w' hSw
          obtain ⟨_, ⟨⟨ac0, ac1, ac2, ac3, ac4, _⟩, _⟩, ⟨⟨cc0, cc1, cc2, cc3, cc4, _⟩, _⟩⟩ := hSw
          go_simp
          try with_reducible rfl
        try simp only [Act.put, List.setIfInBounds_toArray, List.set_cons_zero, List.set_cons_succ]
        refine Ord.stepR (v := ?_) (by rfl) ?_ ?_
        rotate_left
        · intro w' hSw
          obtain ⟨_, ⟨⟨ac0, ac1, ac2, ac3, ac4, _⟩, _⟩, ⟨⟨cc0, cc1, cc2, cc3, cc4, _⟩, _⟩⟩ := hSw
          go_simp
          try with_reducible rfl
        try simp only [Act.put, List.setIfInBounds_toArray, List.set_cons_zero, List.set_cons_succ]
        refine Ord.stepR (v := ?_) (by rfl) ?_ ?_
        rotate_left
        · intro w' hSw
          obtain ⟨_, ⟨⟨ac0, ac1, ac2, ac3, ac4, _⟩, _⟩, ⟨⟨cc0, cc1, cc2, cc3, cc4, _⟩, _⟩⟩ := hSw
          go_simp
          try with_reducible rfl
        try simp only [Act.put, List.setIfInBounds_toArray, List.set_cons_zero, List.set_cons_succ]
        refine Ord.stepC (v := .string Wj) (by rfl) ?_ (fun w1 hS => (HWH.out w1).mono fun e w2 h => ⟨h.1, Bel.call hS.1 h.2, hS.2.1.call h.2, hS.2.2.call h.2⟩) ?_
        · intro w' hSw
          go_simp
          try with_reducible rfl
        try simp only [Act.put, List.setIfInBounds_toArray, List.set_cons_zero, List.set_cons_succ]
        refine Ord.stepC (v := .bool true) (by rfl) ?_ (fun w1 hS => (HT2.out _ _ hS.2.2.isR).mono fun e w2 h => ⟨h.1, Bel.call hS.1 h.2, hS.2.1.call h.2, hS.2.2.call h.2⟩) ?_
        · intro w' hSw
          go_simp
          try with_reducible rfl
        try simp only [Act.put, List.setIfInBounds_toArray, List.set_cons_zero, List.set_cons_succ]
        refine Ord.stepR (v := ?_) (by rfl) ?_ ?_
        rotate_left
        · intro w' hSw
          obtain ⟨_, ⟨⟨ac0, ac1, ac2, ac3, ac4, _⟩, _⟩, ⟨⟨cc0, cc1, cc2, cc3, cc4, _⟩, _⟩⟩ := hSw
          go_simp
          try with_reducible rfl
        try simp only [Act.put, List.setIfInBounds_toArray, List.set_cons_zero, List.set_cons_succ]
        refine Ord.stepR (v := ?_) (by rfl) ?_ ?_
        rotate_left
        · intro w' hSw
          obtain ⟨_, ⟨⟨ac0, ac1, ac2, ac3, ac4, _⟩, _⟩, ⟨⟨cc0, cc1, cc2, cc3, cc4, _⟩, _⟩⟩ := hSw
          go_simp
          try with_reducible rfl
        try simp only [Act.put, List.setIfInBounds_toArray, List.set_cons_zero, List.set_cons_succ]
        refine Ord.stepC (v := .string Wj) (by rfl) ?_ (fun w1 hS => (HWH.out w1).mono fun e w2 h => ⟨h.1, Bel.call hS.1 h.2, hS.2.1.call h.2, hS.2.2.call h.2⟩) ?_
        · intro w' hSw
          go_simp
          try with_reducible rfl
        try simp only [Act.put, List.setIfInBounds_toArray, List.set_cons_zero, List.set_cons_succ]
        refine Ord.stepC (v := .bool true) (by rfl) ?_ (fun w1 hS => (HA2.out _ _ hS.2.1.isR).mono fun e w2 h => ⟨h.1, Bel.call hS.1 h.2, hS.2.1.call h.2, hS.2.2.call h.2⟩) ?_
        · intro w' hSw
          go_simp
          try with_reducible rfl
        try simp only [Act.put, List.setIfInBounds_toArray, List.set_cons_zero, List.set_cons_succ]
        refine Ord.stepR (v := ?_) (by rfl) ?_ ?_
        rotate_left
        · intro w' hSw
          obtain ⟨_, ⟨⟨ac0, ac1, ac2, ac3, ac4, _⟩, _⟩, ⟨⟨cc0, cc1, cc2, cc3, cc4, _⟩, _⟩⟩ := hSw
          go_simp
          try with_reducible rfl
        try simp only [Act.put, List.setIfInBounds_toArray, List.set_cons_zero, List.set_cons_succ]
        refine Ord.stepR (v := ?_) (by rfl) ?_ ?_
        rotate_left
        · intro w' hSw
          obtain ⟨_, ⟨⟨ac0, ac1, ac2, ac3, ac4, _⟩, _⟩, ⟨⟨cc0, cc1, cc2, cc3, cc4, _⟩, _⟩⟩ := hSw
          go_simp
          try with_reducible rfl
        try simp only [Act.put, List.setIfInBounds_toArray, List.set_cons_zero, List.set_cons_succ]
        refine Ord.stepD ?_
        rintro w9 hS9
        have HS9 := Lib.hid hS9
        clear hS9
        go_wp2
        go_roundw
        case rel => exact ⟨j + 1, by omega, by go_num, Lib.hid HS9.out.1⟩
        case measure => simp [intOf]; omega
    · have hG := HG.out
      have hV := HV.out
      have HC1 := Lib.hid (can_to CO hG.reads (few_right HSR.out) HUS.out)
      have HC2 := Lib.hid (can_to CO hG.writes (few_right HSR.out) HUS.out)
      have hno : can t U.data.toList false = false := by rw [← HT.out]; exact can_no (by rintro (h | h | ⟨_, h⟩); exact hG.isnt.1 h; exact hG.isnt.2.2 h; exact hG.isnt.2.1 h)
      have HC3 := Lib.hid (can_to CO hno (few_right HTR.out) HUS.out)
      have HC4 := Lib.hid (can_to CO hV.reads (few_right HVR.out) HUS.out)
      have HC5 := Lib.hid (can_to CO hV.writes (few_right HVR.out) HUS.out)
      clear hG hV hno
      obtain ⟨⟨bc0, bc1, bc2, bc3, bc4, _⟩, _, _⟩ := HHb.out
      go_wp2_with fail
      clear bc0 bc1 bc2 bc3 bc4
      with_reducible refine (HC1.out _ _ HHb.out.isR).mono ?_
      rintro e10 w10 ⟨rfl, hb10⟩
      have HB10 := Lib.hid (Bel.call HBd.out hb10)
      replace HHa := Lib.hid (HHa.out.call hb10)
      replace HHb := Lib.hid (HHb.out.call hb10)
      replace HHc := Lib.hid (HHc.out.call hb10)
      replace HHd := Lib.hid (HHd.out.call hb10)
      clear hb10
      dsimp only
      obtain ⟨⟨bc0, bc1, bc2, bc3, bc4, _⟩, _, _⟩ := HHb.out
      go_wp2_with fail
      clear bc0 bc1 bc2 bc3 bc4
      with_reducible refine (HC2.out _ _ HHb.out.isR).mono ?_
      rintro e11 w11 ⟨rfl, hb11⟩
      have HB11 := Lib.hid (Bel.call HB10.out hb11)
      replace HHa := Lib.hid (HHa.out.call hb11)
      replace HHb := Lib.hid (HHb.out.call hb11)
      replace HHc := Lib.hid (HHc.out.call hb11)
      replace HHd := Lib.hid (HHd.out.call hb11)
      clear hb11
      dsimp only
      obtain ⟨⟨cc0, cc1, cc2, cc3, cc4, _⟩, _, _⟩ := HHc.out
      go_wp2_with fail
      clear cc0 cc1 cc2 cc3 cc4
      with_reducible refine (HC3.out _ _ HHc.out.isR).mono ?_
      rintro e12 w12 ⟨rfl, hb12⟩
      have HB12 := Lib.hid (Bel.call HB11.out hb12)
      replace HHa := Lib.hid (HHa.out.call hb12)
      replace HHb := Lib.hid (HHb.out.call hb12)
      replace HHc := Lib.hid (HHc.out.call hb12)
      replace HHd := Lib.hid (HHd.out.call hb12)
      clear hb12
      dsimp only
      obtain ⟨⟨dc0, dc1, dc2, dc3, dc4, _⟩, _, _⟩ := HHd.out
      go_wp2_with fail
      clear dc0 dc1 dc2 dc3 dc4
      with_reducible refine (HC4.out _ _ HHd.out.isR).mono ?_
      rintro e13 w13 ⟨rfl, hb13⟩
      have HB13 := Lib.hid (Bel.call HB12.out hb13)
      replace HHa := Lib.hid (HHa.out.call hb13)
      replace HHb := Lib.hid (HHb.out.call hb13)
      replace HHc := Lib.hid (HHc.out.call hb13)
      replace HHd := Lib.hid (HHd.out.call hb13)
      clear hb13
      dsimp only
      obtain ⟨⟨dc0, dc1, dc2, dc3, dc4, _⟩, _, _⟩ := HHd.out
      go_wp2_with fail
      clear dc0 dc1 dc2 dc3 dc4
      with_reducible refine (HC5.out _ _ HHd.out.isR).mono ?_
      rintro e14 w14 ⟨rfl, hb14⟩
      have HB14 := Lib.hid (Bel.call HB13.out hb14)
      replace HHa := Lib.hid (HHa.out.call hb14)
      replace HHb := Lib.hid (HHb.out.call hb14)
      replace HHc := Lib.hid (HHc.out.call hb14)
      replace HHd := Lib.hid (HHd.out.call hb14)
      clear hb14
      dsimp only
      go_wp2
      go_ret
      exact ⟨rfl, HB14.out⟩
end Go.Proofs.Ytjikepfgfbnheaa.Rig
