/-
  RightsErrs' walk, over what package rights is held to. By an AI agent; no person has read it.
-/
import Derived.Test.YtjikepfgfbnheaaGApp
namespace Go.Proofs.Ytjikepfgfbnheaa.Rig
open Go.RowKit Wire

set_option linter.unusedSimpArgs false
theorem lsd_last2 {o x y : Tm} {a : List Tm} (h : Lsd o (a ++ [x, y])) : lt x y = true := by
  have h2 := (List.pairwise_append.1 h.2).2.1
  exact (List.pairwise_cons.1 h2).1 y (by simp)
theorem few_of {o f : Tm} {ep : Int} {rs ws : List Tm} (h1 : o.length ≤ 5000) (h2 : f.length ≤ 5000) (h3 : rs.length ≤ 40) (h4 : ws.length ≤ 40) (h5 : ∀ x ∈ rs, x.length ≤ 5000) (h6 : ∀ x ∈ ws, x.length ≤ 5000) (h7 : -9223372036854775808 ≤ ep) (h8 : ep ≤ 9223372036854775807) : Few ⟨o, f, ep, rs, ws⟩ :=
  ⟨h1, h2, h3, h4, h5, h6, h7, h8⟩
theorem mem2 {a : List Tm} {x y : Tm} {k : Nat} (h : ∀ t ∈ a, t.length ≤ 5000) (hx : x.length ≤ k) (hy : y.length ≤ k) (hk : k ≤ 5000) : ∀ t ∈ a ++ [x, y], t.length ≤ 5000 := fun t ht => by
  rcases List.mem_append.1 ht with h1 | h1
  · exact h t h1
  · rcases List.mem_cons.1 h1 with rfl | h1
    · omega
    · rw [List.mem_singleton.1 h1]; omega
theorem mem1 {a : List Tm} {x : Tm} (h : ∀ t ∈ a, t.length ≤ 5000) (hx : x.length ≤ 5000) : ∀ t ∈ a ++ [x], t.length ≤ 5000 := fun t ht => by
  rcases List.mem_append.1 ht with h1 | h1
  · exact h t h1
  · rw [List.mem_singleton.1 h1]; exact hx
def zzB : ByteArray := ⟨#[122, 122]⟩
def zyB : ByteArray := ⟨#[122, 121]⟩
theorem bl_app (a b : List ByteArray) : bl (a ++ b) = bl a ++ bl b := by unfold bl; rw [List.map_append]
set_option maxHeartbeats 16000000 in
set_option maxRecDepth 1000000 in
theorem errs_walk (RG : RightOK) (CO : CanOK) (NO : NewOK) (GO : GrantOK) (RO : RevokeOK) (PO : PutOK) (a : Option Addr) (n c : Nat) (Z : Nat → Nat → Int) (what : Int) (w : World) (ha : Acts.AReads 2 w a n Z) (hwt : -9223372036854775808 ≤ what ∧ what ≤ 9223372036854775807) :
    Calls Try.prog 6 #[.slice a n c, .int .i64 what] w fun e w' => e = .returned (.bool true) ∧ Below w.heap.size w w' := by
  have HSH := Lib.hid fun w => shown7_any NO GO CO w
  have HD := Lib.hid fun w' hb gs hg => done_to a n c Z w ha w' hb gs hg
  have HZZ : Hid (∀ w, Calls Try.prog 30 #[.string ⟨#[122, 122]⟩] w fun e w' => e = .returned (.bool true) ∧ Below w.heap.size w w') := fun w => by
    have h := right_any ⟨#[122, 122]⟩ w
    rw [show Txt.right (ByteArray.mk #[122, 122]).data.toList = true by decide +kernel] at h
    exact h
  have hk8 := pk_lt what (n := 8) (by decide)
  have HPK : Hid (∀ w, Calls Try.prog 28 #[.int .i64 what, .int .i64 8] w fun e w' => e = .returned (.int .i64 (pk what 8 : Int)) ∧ w' = w) := fun w => pick7_any what 8 w hwt (by decide) (by decide)
  obtain ⟨K, hK⟩ : ∃ K, pk what 8 = K := ⟨_, rfl⟩
  rw [hK] at HPK hk8
  clear ha hwt hK
  go_enter Try.func6, Try.ntmps6
  go_wp2_with fail
  with_reducible refine (HSH.out _).mono ?_
  rintro e1 w1 ⟨rfl, hb1⟩
  have HB1 := Lib.hid hb1
  clear hb1
  dsimp only
  go_wp2_with fail
  with_reducible refine (HD.out _ HB1.out _ gs_nil).mono ?_
  rintro e2 w2 ⟨⟨v2, r, han2, hx2, rfl⟩, hb2⟩
  obtain ⟨o2, f2, p2, A2, n2, c2, B2, m2, d2, rfl, hp2, hn2, hm2, ho2, hf2, hx2⟩ := isX_lit hx2
  have HB2 := Lib.hid (Bel.call HB1.out hb2)
  have HAN := Lib.hid han2
  have HX2 := Lib.hid hx2
  have HO2 := Lib.hid ho2
  have HF2 := Lib.hid hf2
  have HP2 := Lib.hid hp2
  have HN2 := Lib.hid hn2
  have HM2 := Lib.hid hm2
  clear hb2 hx2 ho2 hf2 hp2 hn2 hm2 han2
  dsimp only at HX2 HO2 HF2 HP2 HN2 HM2 ⊢
  have hrr := HAN.out.1
  have HRR := Lib.hid hrr
  have hha := hold_alloc (t := 24) HX2.out
  obtain ⟨rs, ws, hn2, hm2, hre, hr1, hr2, hr3, hr4, hr5, hr6⟩ := isX_parts hha.isX
  have HRE := Lib.hid hre
  have hl5 : n2 + m2 ≤ 5 := by have := hrr.2.2.2.1; rw [HN2.out, HM2.out]; exact this
  have HR1 := Lib.hid hr1
  have HR2 := Lib.hid hr2
  have HR3 := Lib.hid hr3
  have HR4 := Lib.hid hr4
  have HR5 := Lib.hid hr5
  have HR6 := Lib.hid hr6
  have HHn := Lib.hid hn2
  have HHm := Lib.hid hm2
  have HBA := Lib.hid (Bel.call HB2.out (al w2 (.cells #[.string o2, .string f2, .int .i64 p2, .slice A2 n2 c2, .slice B2 m2 d2] 24)))
  have HWA := Lib.hid hha
  have hlw : ws.length ≤ 5 := by omega
  have hlr : rs.length ≤ 5 := by omega
  clear hrr hha hre hr1 hr2 hr3 hr4 hr5 hr6 hn2 hm2
  have HBG : Hid (w.heap.size ≤ w2.heap.size) := HB2.out.size
  have HE := Lib.hid (own_empty_at (w2.alloc (.cells #[.string o2, .string f2, .int .i64 p2, .slice A2 n2 c2, .slice B2 m2 d2] 24)) (w2.heap.size + 1) (by simp))
  have HWS := Lib.hid (HR2.out.below (al (w2.alloc (.cells #[.string o2, .string f2, .int .i64 p2, .slice A2 n2 c2, .slice B2 m2 d2] 24)) (.cells #[] 9)) (Nat.le_refl _))
  go_wp2_with (
    (at_builtin
     refine append_strs rfl _ _ rfl (w2.alloc (.cells #[.string o2, .string f2, .int .i64 p2, .slice A2 n2 c2, .slice B2 m2 d2] 24)).heap.size _ 0 [] ws rfl HE.out rfl B2 m2 d2 rfl HHm.out HR4.out.2 HWS.out (by simp; omega) (by simp) ?_
     intro v3 w3 hown hb3
     have HO := Lib.hid hown
     have HB3 := Lib.hid ((al (w2.alloc (.cells #[.string o2, .string f2, .int .i64 p2, .slice A2 n2 c2, .slice B2 m2 d2] 24)) (.cells #[] 9)).trans hb3)
     clear hown hb3))
  clear HE HWS HB1 HB2
  obtain ⟨ga, hga⟩ : ∃ g, w2.heap.size = g := ⟨_, rfl⟩
  have hgb : ga < (w2.alloc (.cells #[.string o2, .string f2, .int .i64 p2, .slice A2 n2 c2, .slice B2 m2 d2] 24)).heap.size := by rw [← hga]; simp
  have HGA : Hid (w.heap.size ≤ ga) := by rw [← hga]; exact HBG.out
  obtain ⟨wa, hwa⟩ : ∃ W, (w2.alloc (.cells #[.string o2, .string f2, .int .i64 p2, .slice A2 n2 c2, .slice B2 m2 d2] 24)) = W := ⟨_, rfl⟩
  rw [hwa] at HO HB3 HBA hgb HR1 HR2 HWA
  rw [hga] at HWA HR5 HR6 ⊢
  have hown := HO.out
  rw [Nat.zero_add, List.nil_append] at hown
  replace HO := Lib.hid hown
  have hle3 := HB3.out.size
  have HGB := Lib.hid hgb
  clear hown hga hwa HX2
  with_reducible refine (HPK.out _).mono ?_
  rintro e9 v9 ⟨rfl, h9⟩
  obtain rfl : w3 = v9 := h9.symm
  clear h9
  dsimp only
  have ht1 : ∀ t ∈ bl rs, t.length ≤ 5000 := fun t ht => by have h := HRR.out.2.2.2.2.1; rw [HRE.out] at h; have := lsd_small h t ht; omega
  have ht2 : ∀ t ∈ bl ws, t.length ≤ 5000 := fun t ht => by have h := HRR.out.2.2.2.2.2.1; rw [HRE.out] at h; have := lsd_small h t ht; omega
  have ho5 : o2.data.toList.length ≤ 5000 := by have h := (Txt.right_len HRR.out.1).2; rw [HO2.out]; omega
  have hf5 : f2.data.toList.length ≤ 5000 := by have h := (Txt.right_len HRR.out.2.1).2; rw [HF2.out]; omega
  have hp0 := HRR.out.2.2.1.1
  have hp7 := HRR.out.2.2.1.2
  rw [← HP2.out] at hp0 hp7
  have HT1 := Lib.hid ht1
  have HT2 := Lib.hid ht2
  have HO5 := Lib.hid ho5
  have HF5 := Lib.hid hf5
  have HPP := Lib.hid (And.intro hp0 hp7)
  have HOA : Hid (o2.data.toList = annaB.data.toList) := by show _ = _; rw [HO2.out]; exact HAN.out.2.1
  clear ht1 ht2 ho5 hf5 hp0 hp7
  have HBw := Lib.hid (HBA.out.trans (HB3.out.mono HBA.out.size))
  have HHa := Lib.hid (HWA.out.call HB3.out)
  have HS1 := Lib.hid (HR1.out.below HB3.out (Nat.le_refl _))
  have HS2 := Lib.hid (HR2.out.below HB3.out (Nat.le_refl _))
  obtain hm | hm | hm | hm | hm | hm | hm | hm : K = 0 ∨ K = 1 ∨ K = 2 ∨ K = 3 ∨ K = 4 ∨ K = 5 ∨ K = 6 ∨ K = 7 := by omega
  · subst hm
    have hx : IsX (Off [ga]) w3 (.agg #[.string ⟨#[65, 110, 110, 97]⟩, .string f2, .int .i64 p2, .slice A2 n2 c2, .slice B2 m2 d2]) ⟨(ByteArray.mk #[65, 110, 110, 97]).data.toList, f2.data.toList, p2, bl rs, bl ws⟩ := isX_make rs ws HHn.out HHm.out HS1.out HS2.out HR3.out HR4.out HR5.out HR6.out
    have hq := hold_set0 (List.mem_singleton_self ga) HHa.out hx
    have hb := HBw.out.setCell (p := ⟨ga, 0, none⟩) HGA.out (.string ⟨#[65, 110, 110, 97]⟩)
    have HNR : Hid (¬ RR ⟨(ByteArray.mk #[65, 110, 110, 97]).data.toList, f2.data.toList, p2, bl rs, bl ws⟩) := fun h => absurd (show nm (ByteArray.mk #[65, 110, 110, 97]).data.toList = true from h.1) (by decide +kernel)
    have HFW : Hid (Few ⟨(ByteArray.mk #[65, 110, 110, 97]).data.toList, f2.data.toList, p2, bl rs, bl ws⟩) := few_of (by decide) HF5.out (by rw [bl_len]; omega) (by rw [bl_len]; omega) HT1.out HT2.out (by have := HPP.out; omega) (by have := HPP.out; omega)
    obtain ⟨⟨ac0, ac1, ac2, ac3, ac4, _⟩, ⟨az0, az1, az2, az3, az4⟩, _⟩ := HHa.out
    go_wp2_with fail
    clear ac0 ac1 ac2 ac3 ac4 az0 az1 az2 az3 az4
    generalize w3.setCell ⟨ga, 0, none⟩ (.string ⟨#[65, 110, 110, 97]⟩) = w4 at hq hb ⊢
    replace HHa := Lib.hid hq
    replace HBw := Lib.hid hb
    clear hq hb hx
    obtain ⟨q, hq⟩ : ∃ q : Rt, ⟨(ByteArray.mk #[65, 110, 110, 97]).data.toList, f2.data.toList, p2, bl rs, bl ws⟩ = q := ⟨_, rfl⟩
    rw [hq] at HHa HNR HFW
    clear hq
    with_reducible refine (HPK.out _).mono ?_
    rintro e9 v9 ⟨rfl, h9⟩
    obtain rfl : w4 = v9 := h9.symm
    clear h9
    dsimp only
    obtain ⟨⟨ac0, ac1, ac2, ac3, ac4, _⟩, _, _⟩ := HHa.out
    go_wp2_with fail
    clear ac0 ac1 ac2 ac3 ac4
    have HC1 := Lib.hid (grant_to GO (u := ⟨#[121, 111]⟩) (wr := true) (gr_wrong HNR.out _ _) HFW.out (by decide))
    have HC2 := Lib.hid (revoke_to RO (u := ⟨#[122, 122]⟩) (rv_wrong HNR.out _) HFW.out (by decide))
    have HC3 := Lib.hid (put_to PO (putR_wrong HNR.out) HFW.out)
    have HC4 := Lib.hid (right_to RG (decide_eq_false HNR.out) HFW.out)
    have HC5 := Lib.hid (can_to CO (u := ⟨#[97, 110, 110, 97]⟩) (wr := false) (can_wrong HNR.out) HFW.out (by decide))
    have HC6 := Lib.hid (can_to CO (u := ⟨#[98, 101, 110]⟩) (wr := false) (can_wrong HNR.out) HFW.out (by decide))
    with_reducible refine (HC1.out _ _ _ (gs_cons HHa.out.lt gs_nil) HHa.out.isX).mono ?_
    rintro e101 w101 ⟨⟨v101, hx101, rfl⟩, hb101⟩
    obtain ⟨o101, f101, p101, A101, n101, c101, B101, m101, d101, rfl, hp101, hn101, hm101, ho101, hf101, hx101⟩ := isX_lit hx101
    have HB101 := Lib.hid (Bel.call HBw.out hb101)
    replace HHa := Lib.hid (HHa.out.call hb101)
    have HX101 := Lib.hid hx101
    have HO101 := Lib.hid ho101
    have HF101 := Lib.hid hf101
    have HP101 := Lib.hid hp101
    have HN101 := Lib.hid hn101
    have HM101 := Lib.hid hm101
    clear hb101 hx101 ho101 hf101 hp101 hn101 hm101
    dsimp only at HX101 HO101 HF101 HP101 HN101 HM101 ⊢
    obtain ⟨⟨ac0, ac1, ac2, ac3, ac4, _⟩, _, _⟩ := HHa.out
    go_wp2_with fail
    clear ac0 ac1 ac2 ac3 ac4
    obtain ⟨gb, hgb⟩ : ∃ g, w101.heap.size = g := ⟨_, rfl⟩
    have hh102 := hold_alloc (t := 24) HX101.out
    have hba102 := al w101 (.cells #[.string o101, .string f101, .int .i64 p101, .slice A101 n101 c101, .slice B101 m101 d101] 24)
    have hna102 := HHa.out.new (ob := (.cells #[.string o101, .string f101, .int .i64 p101, .slice A101 n101 c101, .slice B101 m101 d101] 24))
    generalize w101.alloc (.cells #[.string o101, .string f101, .int .i64 p101, .slice A101 n101 c101, .slice B101 m101 d101] 24) = w102 at hh102 hba102 hna102 ⊢
    rw [hgb] at hh102 hna102 ⊢
    replace HHa := Lib.hid hna102
    have HHb := Lib.hid hh102
    have HB102 := Lib.hid (Bel.call HB101.out hba102)
    clear hh102 hba102 hgb hna102
    with_reducible refine (HC2.out _ _ _ (gs_cons HHb.out.lt (gs_cons HHa.out.lt gs_nil)) HHa.out.isX).mono ?_
    rintro e103 w103 ⟨⟨v103, hx103, rfl⟩, hb103⟩
    obtain ⟨o103, f103, p103, A103, n103, c103, B103, m103, d103, rfl, hp103, hn103, hm103, ho103, hf103, hx103⟩ := isX_lit hx103
    have HB103 := Lib.hid (Bel.call HB102.out hb103)
    replace HHa := Lib.hid (HHa.out.call hb103)
    replace HHb := Lib.hid (HHb.out.call hb103)
    have HX103 := Lib.hid hx103
    have HO103 := Lib.hid ho103
    have HF103 := Lib.hid hf103
    have HP103 := Lib.hid hp103
    have HN103 := Lib.hid hn103
    have HM103 := Lib.hid hm103
    clear hb103 hx103 ho103 hf103 hp103 hn103 hm103
    dsimp only at HX103 HO103 HF103 HP103 HN103 HM103 ⊢
    obtain ⟨⟨ac0, ac1, ac2, ac3, ac4, _⟩, _, _⟩ := HHa.out
    go_wp2_with fail
    clear ac0 ac1 ac2 ac3 ac4
    obtain ⟨gc, hgc⟩ : ∃ g, w103.heap.size = g := ⟨_, rfl⟩
    have hh104 := hold_alloc (t := 24) HX103.out
    have hba104 := al w103 (.cells #[.string o103, .string f103, .int .i64 p103, .slice A103 n103 c103, .slice B103 m103 d103] 24)
    have hna104 := HHa.out.new (ob := (.cells #[.string o103, .string f103, .int .i64 p103, .slice A103 n103 c103, .slice B103 m103 d103] 24))
    have hnb104 := HHb.out.new (ob := (.cells #[.string o103, .string f103, .int .i64 p103, .slice A103 n103 c103, .slice B103 m103 d103] 24))
    generalize w103.alloc (.cells #[.string o103, .string f103, .int .i64 p103, .slice A103 n103 c103, .slice B103 m103 d103] 24) = w104 at hh104 hba104 hna104 hnb104 ⊢
    rw [hgc] at hh104 hna104 hnb104 ⊢
    replace HHa := Lib.hid hna104
    replace HHb := Lib.hid hnb104
    have HHc := Lib.hid hh104
    have HB104 := Lib.hid (Bel.call HB103.out hba104)
    clear hh104 hba104 hgc hna104 hnb104
    with_reducible refine (HC3.out _ _ HHa.out.isR).mono ?_
    rintro e105 w105 ⟨⟨S1, hS1, rfl⟩, hb105⟩
    have HB105 := Lib.hid (Bel.call HB104.out hb105)
    replace HHa := Lib.hid (HHa.out.call hb105)
    replace HHb := Lib.hid (HHb.out.call hb105)
    replace HHc := Lib.hid (HHc.out.call hb105)
    clear hb105
    clear hS1
    dsimp only
    obtain ⟨⟨ac0, ac1, ac2, ac3, ac4, _⟩, _, _⟩ := HHa.out
    go_wp2_with fail
    clear ac0 ac1 ac2 ac3 ac4
    with_reducible refine (HC4.out _ _ HHa.out.isR).mono ?_
    rintro e106 w106 ⟨rfl, hb106⟩
    have HB106 := Lib.hid (Bel.call HB105.out hb106)
    replace HHa := Lib.hid (HHa.out.call hb106)
    replace HHb := Lib.hid (HHb.out.call hb106)
    replace HHc := Lib.hid (HHc.out.call hb106)
    clear hb106
    dsimp only
    obtain ⟨⟨ac0, ac1, ac2, ac3, ac4, _⟩, _, _⟩ := HHa.out
    go_wp2_with fail
    clear ac0 ac1 ac2 ac3 ac4
    with_reducible refine (HC5.out _ _ HHa.out.isR).mono ?_
    rintro e107 w107 ⟨rfl, hb107⟩
    have HB107 := Lib.hid (Bel.call HB106.out hb107)
    replace HHa := Lib.hid (HHa.out.call hb107)
    replace HHb := Lib.hid (HHb.out.call hb107)
    replace HHc := Lib.hid (HHc.out.call hb107)
    clear hb107
    dsimp only
    obtain ⟨⟨ac0, ac1, ac2, ac3, ac4, _⟩, _, _⟩ := HHa.out
    go_wp2_with fail
    clear ac0 ac1 ac2 ac3 ac4
    with_reducible refine (HC6.out _ _ HHa.out.isR).mono ?_
    rintro e108 w108 ⟨rfl, hb108⟩
    have HB108 := Lib.hid (Bel.call HB107.out hb108)
    replace HHa := Lib.hid (HHa.out.call hb108)
    replace HHb := Lib.hid (HHb.out.call hb108)
    replace HHc := Lib.hid (HHc.out.call hb108)
    clear hb108
    dsimp only
    obtain ⟨⟨ac0, ac1, ac2, ac3, ac4, _⟩, _, _⟩ := HHa.out
    go_wp2_with fail
    clear ac0 ac1 ac2 ac3 ac4
    with_reducible refine (HZZ.out _).mono ?_
    rintro e109 w109 ⟨rfl, hb109⟩
    have HB109 := Lib.hid (Bel.call HB108.out hb109)
    replace HHa := Lib.hid (HHa.out.call hb109)
    replace HHb := Lib.hid (HHb.out.call hb109)
    replace HHc := Lib.hid (HHc.out.call hb109)
    clear hb109
    dsimp only
    go_wp2
    go_ret
    exact ⟨rfl, HB109.out⟩
  · subst hm
    have hx : IsX (Off [ga]) w3 (.agg #[.string o2, .string ⟨#[]⟩, .int .i64 p2, .slice A2 n2 c2, .slice B2 m2 d2]) ⟨o2.data.toList, (ByteArray.mk #[]).data.toList, p2, bl rs, bl ws⟩ := isX_make rs ws HHn.out HHm.out HS1.out HS2.out HR3.out HR4.out HR5.out HR6.out
    have hq := hold_set1 (List.mem_singleton_self ga) HHa.out hx
    have hb := HBw.out.setCell (p := ⟨ga, 1, none⟩) HGA.out (.string ⟨#[]⟩)
    have HNR : Hid (¬ RR ⟨o2.data.toList, (ByteArray.mk #[]).data.toList, p2, bl rs, bl ws⟩) := fun h => absurd (show nm (ByteArray.mk #[]).data.toList = true from h.2.1) (by decide +kernel)
    have HFW : Hid (Few ⟨o2.data.toList, (ByteArray.mk #[]).data.toList, p2, bl rs, bl ws⟩) := few_of HO5.out (by decide) (by rw [bl_len]; omega) (by rw [bl_len]; omega) HT1.out HT2.out (by have := HPP.out; omega) (by have := HPP.out; omega)
    obtain ⟨⟨ac0, ac1, ac2, ac3, ac4, _⟩, ⟨az0, az1, az2, az3, az4⟩, _⟩ := HHa.out
    go_wp2_with fail
    clear ac0 ac1 ac2 ac3 ac4 az0 az1 az2 az3 az4
    generalize w3.setCell ⟨ga, 1, none⟩ (.string ⟨#[]⟩) = w4 at hq hb ⊢
    replace HHa := Lib.hid hq
    replace HBw := Lib.hid hb
    clear hq hb hx
    obtain ⟨q, hq⟩ : ∃ q : Rt, ⟨o2.data.toList, (ByteArray.mk #[]).data.toList, p2, bl rs, bl ws⟩ = q := ⟨_, rfl⟩
    rw [hq] at HHa HNR HFW
    clear hq
    with_reducible refine (HPK.out _).mono ?_
    rintro e9 v9 ⟨rfl, h9⟩
    obtain rfl : w4 = v9 := h9.symm
    clear h9
    dsimp only
    obtain ⟨⟨ac0, ac1, ac2, ac3, ac4, _⟩, _, _⟩ := HHa.out
    go_wp2_with fail
    clear ac0 ac1 ac2 ac3 ac4
    have HC1 := Lib.hid (grant_to GO (u := ⟨#[121, 111]⟩) (wr := true) (gr_wrong HNR.out _ _) HFW.out (by decide))
    have HC2 := Lib.hid (revoke_to RO (u := ⟨#[122, 122]⟩) (rv_wrong HNR.out _) HFW.out (by decide))
    have HC3 := Lib.hid (put_to PO (putR_wrong HNR.out) HFW.out)
    have HC4 := Lib.hid (right_to RG (decide_eq_false HNR.out) HFW.out)
    have HC5 := Lib.hid (can_to CO (u := ⟨#[97, 110, 110, 97]⟩) (wr := false) (can_wrong HNR.out) HFW.out (by decide))
    have HC6 := Lib.hid (can_to CO (u := ⟨#[98, 101, 110]⟩) (wr := false) (can_wrong HNR.out) HFW.out (by decide))
    with_reducible refine (HC1.out _ _ _ (gs_cons HHa.out.lt gs_nil) HHa.out.isX).mono ?_
    rintro e101 w101 ⟨⟨v101, hx101, rfl⟩, hb101⟩
    obtain ⟨o101, f101, p101, A101, n101, c101, B101, m101, d101, rfl, hp101, hn101, hm101, ho101, hf101, hx101⟩ := isX_lit hx101
    have HB101 := Lib.hid (Bel.call HBw.out hb101)
    replace HHa := Lib.hid (HHa.out.call hb101)
    have HX101 := Lib.hid hx101
    have HO101 := Lib.hid ho101
    have HF101 := Lib.hid hf101
    have HP101 := Lib.hid hp101
    have HN101 := Lib.hid hn101
    have HM101 := Lib.hid hm101
    clear hb101 hx101 ho101 hf101 hp101 hn101 hm101
    dsimp only at HX101 HO101 HF101 HP101 HN101 HM101 ⊢
    obtain ⟨⟨ac0, ac1, ac2, ac3, ac4, _⟩, _, _⟩ := HHa.out
    go_wp2_with fail
    clear ac0 ac1 ac2 ac3 ac4
    obtain ⟨gb, hgb⟩ : ∃ g, w101.heap.size = g := ⟨_, rfl⟩
    have hh102 := hold_alloc (t := 24) HX101.out
    have hba102 := al w101 (.cells #[.string o101, .string f101, .int .i64 p101, .slice A101 n101 c101, .slice B101 m101 d101] 24)
    have hna102 := HHa.out.new (ob := (.cells #[.string o101, .string f101, .int .i64 p101, .slice A101 n101 c101, .slice B101 m101 d101] 24))
    generalize w101.alloc (.cells #[.string o101, .string f101, .int .i64 p101, .slice A101 n101 c101, .slice B101 m101 d101] 24) = w102 at hh102 hba102 hna102 ⊢
    rw [hgb] at hh102 hna102 ⊢
    replace HHa := Lib.hid hna102
    have HHb := Lib.hid hh102
    have HB102 := Lib.hid (Bel.call HB101.out hba102)
    clear hh102 hba102 hgb hna102
    with_reducible refine (HC2.out _ _ _ (gs_cons HHb.out.lt (gs_cons HHa.out.lt gs_nil)) HHa.out.isX).mono ?_
    rintro e103 w103 ⟨⟨v103, hx103, rfl⟩, hb103⟩
    obtain ⟨o103, f103, p103, A103, n103, c103, B103, m103, d103, rfl, hp103, hn103, hm103, ho103, hf103, hx103⟩ := isX_lit hx103
    have HB103 := Lib.hid (Bel.call HB102.out hb103)
    replace HHa := Lib.hid (HHa.out.call hb103)
    replace HHb := Lib.hid (HHb.out.call hb103)
    have HX103 := Lib.hid hx103
    have HO103 := Lib.hid ho103
    have HF103 := Lib.hid hf103
    have HP103 := Lib.hid hp103
    have HN103 := Lib.hid hn103
    have HM103 := Lib.hid hm103
    clear hb103 hx103 ho103 hf103 hp103 hn103 hm103
    dsimp only at HX103 HO103 HF103 HP103 HN103 HM103 ⊢
    obtain ⟨⟨ac0, ac1, ac2, ac3, ac4, _⟩, _, _⟩ := HHa.out
    go_wp2_with fail
    clear ac0 ac1 ac2 ac3 ac4
    obtain ⟨gc, hgc⟩ : ∃ g, w103.heap.size = g := ⟨_, rfl⟩
    have hh104 := hold_alloc (t := 24) HX103.out
    have hba104 := al w103 (.cells #[.string o103, .string f103, .int .i64 p103, .slice A103 n103 c103, .slice B103 m103 d103] 24)
    have hna104 := HHa.out.new (ob := (.cells #[.string o103, .string f103, .int .i64 p103, .slice A103 n103 c103, .slice B103 m103 d103] 24))
    have hnb104 := HHb.out.new (ob := (.cells #[.string o103, .string f103, .int .i64 p103, .slice A103 n103 c103, .slice B103 m103 d103] 24))
    generalize w103.alloc (.cells #[.string o103, .string f103, .int .i64 p103, .slice A103 n103 c103, .slice B103 m103 d103] 24) = w104 at hh104 hba104 hna104 hnb104 ⊢
    rw [hgc] at hh104 hna104 hnb104 ⊢
    replace HHa := Lib.hid hna104
    replace HHb := Lib.hid hnb104
    have HHc := Lib.hid hh104
    have HB104 := Lib.hid (Bel.call HB103.out hba104)
    clear hh104 hba104 hgc hna104 hnb104
    with_reducible refine (HC3.out _ _ HHa.out.isR).mono ?_
    rintro e105 w105 ⟨⟨S1, hS1, rfl⟩, hb105⟩
    have HB105 := Lib.hid (Bel.call HB104.out hb105)
    replace HHa := Lib.hid (HHa.out.call hb105)
    replace HHb := Lib.hid (HHb.out.call hb105)
    replace HHc := Lib.hid (HHc.out.call hb105)
    clear hb105
    clear hS1
    dsimp only
    obtain ⟨⟨ac0, ac1, ac2, ac3, ac4, _⟩, _, _⟩ := HHa.out
    go_wp2_with fail
    clear ac0 ac1 ac2 ac3 ac4
    with_reducible refine (HC4.out _ _ HHa.out.isR).mono ?_
    rintro e106 w106 ⟨rfl, hb106⟩
    have HB106 := Lib.hid (Bel.call HB105.out hb106)
    replace HHa := Lib.hid (HHa.out.call hb106)
    replace HHb := Lib.hid (HHb.out.call hb106)
    replace HHc := Lib.hid (HHc.out.call hb106)
    clear hb106
    dsimp only
    obtain ⟨⟨ac0, ac1, ac2, ac3, ac4, _⟩, _, _⟩ := HHa.out
    go_wp2_with fail
    clear ac0 ac1 ac2 ac3 ac4
    with_reducible refine (HC5.out _ _ HHa.out.isR).mono ?_
    rintro e107 w107 ⟨rfl, hb107⟩
    have HB107 := Lib.hid (Bel.call HB106.out hb107)
    replace HHa := Lib.hid (HHa.out.call hb107)
    replace HHb := Lib.hid (HHb.out.call hb107)
    replace HHc := Lib.hid (HHc.out.call hb107)
    clear hb107
    dsimp only
    obtain ⟨⟨ac0, ac1, ac2, ac3, ac4, _⟩, _, _⟩ := HHa.out
    go_wp2_with fail
    clear ac0 ac1 ac2 ac3 ac4
    with_reducible refine (HC6.out _ _ HHa.out.isR).mono ?_
    rintro e108 w108 ⟨rfl, hb108⟩
    have HB108 := Lib.hid (Bel.call HB107.out hb108)
    replace HHa := Lib.hid (HHa.out.call hb108)
    replace HHb := Lib.hid (HHb.out.call hb108)
    replace HHc := Lib.hid (HHc.out.call hb108)
    clear hb108
    dsimp only
    obtain ⟨⟨ac0, ac1, ac2, ac3, ac4, _⟩, _, _⟩ := HHa.out
    go_wp2_with fail
    clear ac0 ac1 ac2 ac3 ac4
    with_reducible refine (HZZ.out _).mono ?_
    rintro e109 w109 ⟨rfl, hb109⟩
    have HB109 := Lib.hid (Bel.call HB108.out hb109)
    replace HHa := Lib.hid (HHa.out.call hb109)
    replace HHb := Lib.hid (HHb.out.call hb109)
    replace HHc := Lib.hid (HHc.out.call hb109)
    clear hb109
    dsimp only
    go_wp2
    go_ret
    exact ⟨rfl, HB109.out⟩
  · subst hm
    have hx : IsX (Off [ga]) w3 (.agg #[.string o2, .string f2, .int .i64 8, .slice A2 n2 c2, .slice B2 m2 d2]) ⟨o2.data.toList, f2.data.toList, 8, bl rs, bl ws⟩ := isX_make rs ws HHn.out HHm.out HS1.out HS2.out HR3.out HR4.out HR5.out HR6.out
    have hq := hold_set2 (List.mem_singleton_self ga) HHa.out hx
    have hb := HBw.out.setCell (p := ⟨ga, 2, none⟩) HGA.out (.int .i64 8)
    have HNR : Hid (¬ RR ⟨o2.data.toList, f2.data.toList, 8, bl rs, bl ws⟩) := fun h => absurd (show (8 : Int) ≤ 7 from h.2.2.1.2) (by decide)
    have HFW : Hid (Few ⟨o2.data.toList, f2.data.toList, 8, bl rs, bl ws⟩) := few_of HO5.out HF5.out (by rw [bl_len]; omega) (by rw [bl_len]; omega) HT1.out HT2.out (by decide) (by decide)
    obtain ⟨⟨ac0, ac1, ac2, ac3, ac4, _⟩, ⟨az0, az1, az2, az3, az4⟩, _⟩ := HHa.out
    go_wp2_with fail
    clear ac0 ac1 ac2 ac3 ac4 az0 az1 az2 az3 az4
    generalize w3.setCell ⟨ga, 2, none⟩ (.int .i64 8) = w4 at hq hb ⊢
    replace HHa := Lib.hid hq
    replace HBw := Lib.hid hb
    clear hq hb hx
    obtain ⟨q, hq⟩ : ∃ q : Rt, ⟨o2.data.toList, f2.data.toList, 8, bl rs, bl ws⟩ = q := ⟨_, rfl⟩
    rw [hq] at HHa HNR HFW
    clear hq
    with_reducible refine (HPK.out _).mono ?_
    rintro e9 v9 ⟨rfl, h9⟩
    obtain rfl : w4 = v9 := h9.symm
    clear h9
    dsimp only
    obtain ⟨⟨ac0, ac1, ac2, ac3, ac4, _⟩, _, _⟩ := HHa.out
    go_wp2_with fail
    clear ac0 ac1 ac2 ac3 ac4
    have HC1 := Lib.hid (grant_to GO (u := ⟨#[121, 111]⟩) (wr := true) (gr_wrong HNR.out _ _) HFW.out (by decide))
    have HC2 := Lib.hid (revoke_to RO (u := ⟨#[122, 122]⟩) (rv_wrong HNR.out _) HFW.out (by decide))
    have HC3 := Lib.hid (put_to PO (putR_wrong HNR.out) HFW.out)
    have HC4 := Lib.hid (right_to RG (decide_eq_false HNR.out) HFW.out)
    have HC5 := Lib.hid (can_to CO (u := ⟨#[97, 110, 110, 97]⟩) (wr := false) (can_wrong HNR.out) HFW.out (by decide))
    have HC6 := Lib.hid (can_to CO (u := ⟨#[98, 101, 110]⟩) (wr := false) (can_wrong HNR.out) HFW.out (by decide))
    with_reducible refine (HC1.out _ _ _ (gs_cons HHa.out.lt gs_nil) HHa.out.isX).mono ?_
    rintro e101 w101 ⟨⟨v101, hx101, rfl⟩, hb101⟩
    obtain ⟨o101, f101, p101, A101, n101, c101, B101, m101, d101, rfl, hp101, hn101, hm101, ho101, hf101, hx101⟩ := isX_lit hx101
    have HB101 := Lib.hid (Bel.call HBw.out hb101)
    replace HHa := Lib.hid (HHa.out.call hb101)
    have HX101 := Lib.hid hx101
    have HO101 := Lib.hid ho101
    have HF101 := Lib.hid hf101
    have HP101 := Lib.hid hp101
    have HN101 := Lib.hid hn101
    have HM101 := Lib.hid hm101
    clear hb101 hx101 ho101 hf101 hp101 hn101 hm101
    dsimp only at HX101 HO101 HF101 HP101 HN101 HM101 ⊢
    obtain ⟨⟨ac0, ac1, ac2, ac3, ac4, _⟩, _, _⟩ := HHa.out
    go_wp2_with fail
    clear ac0 ac1 ac2 ac3 ac4
    obtain ⟨gb, hgb⟩ : ∃ g, w101.heap.size = g := ⟨_, rfl⟩
    have hh102 := hold_alloc (t := 24) HX101.out
    have hba102 := al w101 (.cells #[.string o101, .string f101, .int .i64 p101, .slice A101 n101 c101, .slice B101 m101 d101] 24)
    have hna102 := HHa.out.new (ob := (.cells #[.string o101, .string f101, .int .i64 p101, .slice A101 n101 c101, .slice B101 m101 d101] 24))
    generalize w101.alloc (.cells #[.string o101, .string f101, .int .i64 p101, .slice A101 n101 c101, .slice B101 m101 d101] 24) = w102 at hh102 hba102 hna102 ⊢
    rw [hgb] at hh102 hna102 ⊢
    replace HHa := Lib.hid hna102
    have HHb := Lib.hid hh102
    have HB102 := Lib.hid (Bel.call HB101.out hba102)
    clear hh102 hba102 hgb hna102
    with_reducible refine (HC2.out _ _ _ (gs_cons HHb.out.lt (gs_cons HHa.out.lt gs_nil)) HHa.out.isX).mono ?_
    rintro e103 w103 ⟨⟨v103, hx103, rfl⟩, hb103⟩
    obtain ⟨o103, f103, p103, A103, n103, c103, B103, m103, d103, rfl, hp103, hn103, hm103, ho103, hf103, hx103⟩ := isX_lit hx103
    have HB103 := Lib.hid (Bel.call HB102.out hb103)
    replace HHa := Lib.hid (HHa.out.call hb103)
    replace HHb := Lib.hid (HHb.out.call hb103)
    have HX103 := Lib.hid hx103
    have HO103 := Lib.hid ho103
    have HF103 := Lib.hid hf103
    have HP103 := Lib.hid hp103
    have HN103 := Lib.hid hn103
    have HM103 := Lib.hid hm103
    clear hb103 hx103 ho103 hf103 hp103 hn103 hm103
    dsimp only at HX103 HO103 HF103 HP103 HN103 HM103 ⊢
    obtain ⟨⟨ac0, ac1, ac2, ac3, ac4, _⟩, _, _⟩ := HHa.out
    go_wp2_with fail
    clear ac0 ac1 ac2 ac3 ac4
    obtain ⟨gc, hgc⟩ : ∃ g, w103.heap.size = g := ⟨_, rfl⟩
    have hh104 := hold_alloc (t := 24) HX103.out
    have hba104 := al w103 (.cells #[.string o103, .string f103, .int .i64 p103, .slice A103 n103 c103, .slice B103 m103 d103] 24)
    have hna104 := HHa.out.new (ob := (.cells #[.string o103, .string f103, .int .i64 p103, .slice A103 n103 c103, .slice B103 m103 d103] 24))
    have hnb104 := HHb.out.new (ob := (.cells #[.string o103, .string f103, .int .i64 p103, .slice A103 n103 c103, .slice B103 m103 d103] 24))
    generalize w103.alloc (.cells #[.string o103, .string f103, .int .i64 p103, .slice A103 n103 c103, .slice B103 m103 d103] 24) = w104 at hh104 hba104 hna104 hnb104 ⊢
    rw [hgc] at hh104 hna104 hnb104 ⊢
    replace HHa := Lib.hid hna104
    replace HHb := Lib.hid hnb104
    have HHc := Lib.hid hh104
    have HB104 := Lib.hid (Bel.call HB103.out hba104)
    clear hh104 hba104 hgc hna104 hnb104
    with_reducible refine (HC3.out _ _ HHa.out.isR).mono ?_
    rintro e105 w105 ⟨⟨S1, hS1, rfl⟩, hb105⟩
    have HB105 := Lib.hid (Bel.call HB104.out hb105)
    replace HHa := Lib.hid (HHa.out.call hb105)
    replace HHb := Lib.hid (HHb.out.call hb105)
    replace HHc := Lib.hid (HHc.out.call hb105)
    clear hb105
    clear hS1
    dsimp only
    obtain ⟨⟨ac0, ac1, ac2, ac3, ac4, _⟩, _, _⟩ := HHa.out
    go_wp2_with fail
    clear ac0 ac1 ac2 ac3 ac4
    with_reducible refine (HC4.out _ _ HHa.out.isR).mono ?_
    rintro e106 w106 ⟨rfl, hb106⟩
    have HB106 := Lib.hid (Bel.call HB105.out hb106)
    replace HHa := Lib.hid (HHa.out.call hb106)
    replace HHb := Lib.hid (HHb.out.call hb106)
    replace HHc := Lib.hid (HHc.out.call hb106)
    clear hb106
    dsimp only
    obtain ⟨⟨ac0, ac1, ac2, ac3, ac4, _⟩, _, _⟩ := HHa.out
    go_wp2_with fail
    clear ac0 ac1 ac2 ac3 ac4
    with_reducible refine (HC5.out _ _ HHa.out.isR).mono ?_
    rintro e107 w107 ⟨rfl, hb107⟩
    have HB107 := Lib.hid (Bel.call HB106.out hb107)
    replace HHa := Lib.hid (HHa.out.call hb107)
    replace HHb := Lib.hid (HHb.out.call hb107)
    replace HHc := Lib.hid (HHc.out.call hb107)
    clear hb107
    dsimp only
    obtain ⟨⟨ac0, ac1, ac2, ac3, ac4, _⟩, _, _⟩ := HHa.out
    go_wp2_with fail
    clear ac0 ac1 ac2 ac3 ac4
    with_reducible refine (HC6.out _ _ HHa.out.isR).mono ?_
    rintro e108 w108 ⟨rfl, hb108⟩
    have HB108 := Lib.hid (Bel.call HB107.out hb108)
    replace HHa := Lib.hid (HHa.out.call hb108)
    replace HHb := Lib.hid (HHb.out.call hb108)
    replace HHc := Lib.hid (HHc.out.call hb108)
    clear hb108
    dsimp only
    obtain ⟨⟨ac0, ac1, ac2, ac3, ac4, _⟩, _, _⟩ := HHa.out
    go_wp2_with fail
    clear ac0 ac1 ac2 ac3 ac4
    with_reducible refine (HZZ.out _).mono ?_
    rintro e109 w109 ⟨rfl, hb109⟩
    have HB109 := Lib.hid (Bel.call HB108.out hb109)
    replace HHa := Lib.hid (HHa.out.call hb109)
    replace HHb := Lib.hid (HHb.out.call hb109)
    replace HHc := Lib.hid (HHc.out.call hb109)
    clear hb109
    dsimp only
    go_wp2
    go_ret
    exact ⟨rfl, HB109.out⟩
  · subst hm
    have hx : IsX (Off [ga]) w3 (.agg #[.string o2, .string f2, .int .i64 (-1), .slice A2 n2 c2, .slice B2 m2 d2]) ⟨o2.data.toList, f2.data.toList, -1, bl rs, bl ws⟩ := isX_make rs ws HHn.out HHm.out HS1.out HS2.out HR3.out HR4.out HR5.out HR6.out
    have hq := hold_set2 (List.mem_singleton_self ga) HHa.out hx
    have hb := HBw.out.setCell (p := ⟨ga, 2, none⟩) HGA.out (.int .i64 (-1))
    have HNR : Hid (¬ RR ⟨o2.data.toList, f2.data.toList, -1, bl rs, bl ws⟩) := fun h => absurd (show (0 : Int) ≤ -1 from h.2.2.1.1) (by decide)
    have HFW : Hid (Few ⟨o2.data.toList, f2.data.toList, -1, bl rs, bl ws⟩) := few_of HO5.out HF5.out (by rw [bl_len]; omega) (by rw [bl_len]; omega) HT1.out HT2.out (by decide) (by decide)
    obtain ⟨⟨ac0, ac1, ac2, ac3, ac4, _⟩, ⟨az0, az1, az2, az3, az4⟩, _⟩ := HHa.out
    go_wp2_with fail
    clear ac0 ac1 ac2 ac3 ac4 az0 az1 az2 az3 az4
    generalize w3.setCell ⟨ga, 2, none⟩ (.int .i64 (-1)) = w4 at hq hb ⊢
    replace HHa := Lib.hid hq
    replace HBw := Lib.hid hb
    clear hq hb hx
    obtain ⟨q, hq⟩ : ∃ q : Rt, ⟨o2.data.toList, f2.data.toList, -1, bl rs, bl ws⟩ = q := ⟨_, rfl⟩
    rw [hq] at HHa HNR HFW
    clear hq
    with_reducible refine (HPK.out _).mono ?_
    rintro e9 v9 ⟨rfl, h9⟩
    obtain rfl : w4 = v9 := h9.symm
    clear h9
    dsimp only
    obtain ⟨⟨ac0, ac1, ac2, ac3, ac4, _⟩, _, _⟩ := HHa.out
    go_wp2_with fail
    clear ac0 ac1 ac2 ac3 ac4
    have HC1 := Lib.hid (grant_to GO (u := ⟨#[121, 111]⟩) (wr := true) (gr_wrong HNR.out _ _) HFW.out (by decide))
    have HC2 := Lib.hid (revoke_to RO (u := ⟨#[122, 122]⟩) (rv_wrong HNR.out _) HFW.out (by decide))
    have HC3 := Lib.hid (put_to PO (putR_wrong HNR.out) HFW.out)
    have HC4 := Lib.hid (right_to RG (decide_eq_false HNR.out) HFW.out)
    have HC5 := Lib.hid (can_to CO (u := ⟨#[97, 110, 110, 97]⟩) (wr := false) (can_wrong HNR.out) HFW.out (by decide))
    have HC6 := Lib.hid (can_to CO (u := ⟨#[98, 101, 110]⟩) (wr := false) (can_wrong HNR.out) HFW.out (by decide))
    with_reducible refine (HC1.out _ _ _ (gs_cons HHa.out.lt gs_nil) HHa.out.isX).mono ?_
    rintro e101 w101 ⟨⟨v101, hx101, rfl⟩, hb101⟩
    obtain ⟨o101, f101, p101, A101, n101, c101, B101, m101, d101, rfl, hp101, hn101, hm101, ho101, hf101, hx101⟩ := isX_lit hx101
    have HB101 := Lib.hid (Bel.call HBw.out hb101)
    replace HHa := Lib.hid (HHa.out.call hb101)
    have HX101 := Lib.hid hx101
    have HO101 := Lib.hid ho101
    have HF101 := Lib.hid hf101
    have HP101 := Lib.hid hp101
    have HN101 := Lib.hid hn101
    have HM101 := Lib.hid hm101
    clear hb101 hx101 ho101 hf101 hp101 hn101 hm101
    dsimp only at HX101 HO101 HF101 HP101 HN101 HM101 ⊢
    obtain ⟨⟨ac0, ac1, ac2, ac3, ac4, _⟩, _, _⟩ := HHa.out
    go_wp2_with fail
    clear ac0 ac1 ac2 ac3 ac4
    obtain ⟨gb, hgb⟩ : ∃ g, w101.heap.size = g := ⟨_, rfl⟩
    have hh102 := hold_alloc (t := 24) HX101.out
    have hba102 := al w101 (.cells #[.string o101, .string f101, .int .i64 p101, .slice A101 n101 c101, .slice B101 m101 d101] 24)
    have hna102 := HHa.out.new (ob := (.cells #[.string o101, .string f101, .int .i64 p101, .slice A101 n101 c101, .slice B101 m101 d101] 24))
    generalize w101.alloc (.cells #[.string o101, .string f101, .int .i64 p101, .slice A101 n101 c101, .slice B101 m101 d101] 24) = w102 at hh102 hba102 hna102 ⊢
    rw [hgb] at hh102 hna102 ⊢
    replace HHa := Lib.hid hna102
    have HHb := Lib.hid hh102
    have HB102 := Lib.hid (Bel.call HB101.out hba102)
    clear hh102 hba102 hgb hna102
    with_reducible refine (HC2.out _ _ _ (gs_cons HHb.out.lt (gs_cons HHa.out.lt gs_nil)) HHa.out.isX).mono ?_
    rintro e103 w103 ⟨⟨v103, hx103, rfl⟩, hb103⟩
    obtain ⟨o103, f103, p103, A103, n103, c103, B103, m103, d103, rfl, hp103, hn103, hm103, ho103, hf103, hx103⟩ := isX_lit hx103
    have HB103 := Lib.hid (Bel.call HB102.out hb103)
    replace HHa := Lib.hid (HHa.out.call hb103)
    replace HHb := Lib.hid (HHb.out.call hb103)
    have HX103 := Lib.hid hx103
    have HO103 := Lib.hid ho103
    have HF103 := Lib.hid hf103
    have HP103 := Lib.hid hp103
    have HN103 := Lib.hid hn103
    have HM103 := Lib.hid hm103
    clear hb103 hx103 ho103 hf103 hp103 hn103 hm103
    dsimp only at HX103 HO103 HF103 HP103 HN103 HM103 ⊢
    obtain ⟨⟨ac0, ac1, ac2, ac3, ac4, _⟩, _, _⟩ := HHa.out
    go_wp2_with fail
    clear ac0 ac1 ac2 ac3 ac4
    obtain ⟨gc, hgc⟩ : ∃ g, w103.heap.size = g := ⟨_, rfl⟩
    have hh104 := hold_alloc (t := 24) HX103.out
    have hba104 := al w103 (.cells #[.string o103, .string f103, .int .i64 p103, .slice A103 n103 c103, .slice B103 m103 d103] 24)
    have hna104 := HHa.out.new (ob := (.cells #[.string o103, .string f103, .int .i64 p103, .slice A103 n103 c103, .slice B103 m103 d103] 24))
    have hnb104 := HHb.out.new (ob := (.cells #[.string o103, .string f103, .int .i64 p103, .slice A103 n103 c103, .slice B103 m103 d103] 24))
    generalize w103.alloc (.cells #[.string o103, .string f103, .int .i64 p103, .slice A103 n103 c103, .slice B103 m103 d103] 24) = w104 at hh104 hba104 hna104 hnb104 ⊢
    rw [hgc] at hh104 hna104 hnb104 ⊢
    replace HHa := Lib.hid hna104
    replace HHb := Lib.hid hnb104
    have HHc := Lib.hid hh104
    have HB104 := Lib.hid (Bel.call HB103.out hba104)
    clear hh104 hba104 hgc hna104 hnb104
    with_reducible refine (HC3.out _ _ HHa.out.isR).mono ?_
    rintro e105 w105 ⟨⟨S1, hS1, rfl⟩, hb105⟩
    have HB105 := Lib.hid (Bel.call HB104.out hb105)
    replace HHa := Lib.hid (HHa.out.call hb105)
    replace HHb := Lib.hid (HHb.out.call hb105)
    replace HHc := Lib.hid (HHc.out.call hb105)
    clear hb105
    clear hS1
    dsimp only
    obtain ⟨⟨ac0, ac1, ac2, ac3, ac4, _⟩, _, _⟩ := HHa.out
    go_wp2_with fail
    clear ac0 ac1 ac2 ac3 ac4
    with_reducible refine (HC4.out _ _ HHa.out.isR).mono ?_
    rintro e106 w106 ⟨rfl, hb106⟩
    have HB106 := Lib.hid (Bel.call HB105.out hb106)
    replace HHa := Lib.hid (HHa.out.call hb106)
    replace HHb := Lib.hid (HHb.out.call hb106)
    replace HHc := Lib.hid (HHc.out.call hb106)
    clear hb106
    dsimp only
    obtain ⟨⟨ac0, ac1, ac2, ac3, ac4, _⟩, _, _⟩ := HHa.out
    go_wp2_with fail
    clear ac0 ac1 ac2 ac3 ac4
    with_reducible refine (HC5.out _ _ HHa.out.isR).mono ?_
    rintro e107 w107 ⟨rfl, hb107⟩
    have HB107 := Lib.hid (Bel.call HB106.out hb107)
    replace HHa := Lib.hid (HHa.out.call hb107)
    replace HHb := Lib.hid (HHb.out.call hb107)
    replace HHc := Lib.hid (HHc.out.call hb107)
    clear hb107
    dsimp only
    obtain ⟨⟨ac0, ac1, ac2, ac3, ac4, _⟩, _, _⟩ := HHa.out
    go_wp2_with fail
    clear ac0 ac1 ac2 ac3 ac4
    with_reducible refine (HC6.out _ _ HHa.out.isR).mono ?_
    rintro e108 w108 ⟨rfl, hb108⟩
    have HB108 := Lib.hid (Bel.call HB107.out hb108)
    replace HHa := Lib.hid (HHa.out.call hb108)
    replace HHb := Lib.hid (HHb.out.call hb108)
    replace HHc := Lib.hid (HHc.out.call hb108)
    clear hb108
    dsimp only
    obtain ⟨⟨ac0, ac1, ac2, ac3, ac4, _⟩, _, _⟩ := HHa.out
    go_wp2_with fail
    clear ac0 ac1 ac2 ac3 ac4
    with_reducible refine (HZZ.out _).mono ?_
    rintro e109 w109 ⟨rfl, hb109⟩
    have HB109 := Lib.hid (Bel.call HB108.out hb109)
    replace HHa := Lib.hid (HHa.out.call hb109)
    replace HHb := Lib.hid (HHb.out.call hb109)
    replace HHc := Lib.hid (HHc.out.call hb109)
    clear hb109
    dsimp only
    go_wp2
    go_ret
    exact ⟨rfl, HB109.out⟩
  · subst hm
    have HL := Lib.hid (sreads_own (own_lit w3 [⟨#[122, 122]⟩, ⟨#[122, 121]⟩] 2 rfl (by decide))).1
    have HOL := Lib.hid (HO.out.alloc (.cells #[.string ⟨#[122, 122]⟩, .string ⟨#[122, 121]⟩] 9))
    go_wp2_with (
      (at_builtin
       refine append_strs rfl _ _ rfl wa.heap.size _ m2 ws [⟨#[122, 122]⟩, ⟨#[122, 121]⟩] rfl HOL.out HHm.out (some ⟨w3.heap.size, 0, none⟩) 2 2 rfl rfl (fun h => by cases h) HL.out (by simp; omega) (by simp; omega) ?_
       intro v4 w4 hown4 hb4
       obtain ⟨A4, c4, rfl, hk4, hs4, hc4, hfr4⟩ := own_part hown4
       have HS4 := Lib.hid hs4
       have HK4 := Lib.hid hk4
       have HC4 := Lib.hid hc4
       have HFR4 : Hid (∀ b off, A4 = some ⟨b, off, none⟩ → wa.heap.size ≤ b) := hfr4
       have HBX := Lib.hid ((HB3.out.alloc HB3.out.size (.cells #[.string ⟨#[122, 122]⟩, .string ⟨#[122, 121]⟩] 9)).trans hb4)
       clear hown4 hk4 hs4 hc4 hfr4 hb4))
    with_reducible refine (HPK.out _).mono ?_
    rintro e9 v9 ⟨rfl, h9⟩
    obtain rfl : w4 = v9 := h9.symm
    clear h9
    dsimp only
    replace HHa := Lib.hid (HWA.out.call HBX.out)
    replace HBw := Lib.hid (HBA.out.trans (HBX.out.mono HBA.out.size))
    replace HS1 := Lib.hid (HR1.out.below HBX.out (Nat.le_refl _))
    have hx : IsX (Off [ga]) w4 (.agg #[.string o2, .string f2, .int .i64 p2, .slice A2 n2 c2, .slice A4 (m2 + 2) c4]) ⟨o2.data.toList, f2.data.toList, p2, bl rs, bl (ws ++ [⟨#[122, 122]⟩, ⟨#[122, 121]⟩])⟩ := isX_make rs (ws ++ [⟨#[122, 122]⟩, ⟨#[122, 121]⟩]) HHn.out HK4.out HS1.out HS4.out HR3.out HC4.out HR5.out (fun b off h _ hm => by have := HFR4.out b off h; rw [List.mem_singleton] at hm; omega)
    have hq := hold_set4 (List.mem_singleton_self ga) HHa.out hx
    have hb := HBw.out.setCell (p := ⟨ga, 4, none⟩) HGA.out (.slice A4 (m2 + 2) c4)
    have HNR : Hid (¬ RR ⟨o2.data.toList, f2.data.toList, p2, bl rs, bl (ws ++ [⟨#[122, 122]⟩, ⟨#[122, 121]⟩])⟩) := fun h => by
      have h2 := h.2.2.2.2.2.1
      rw [bl_app] at h2
      exact absurd (lsd_last2 h2) (by decide +kernel)
    have HFW : Hid (Few ⟨o2.data.toList, f2.data.toList, p2, bl rs, bl (ws ++ [⟨#[122, 122]⟩, ⟨#[122, 121]⟩])⟩) := few_of HO5.out HF5.out (by rw [bl_len]; first | omega | (simp; omega)) (by rw [bl_len]; first | omega | (simp; omega)) HT1.out (by rw [bl_app]; exact mem2 HT2.out (x := zzB.data.toList) (y := zyB.data.toList) (k := 2) (by decide) (by decide) (by decide)) (by have := HPP.out; omega) (by have := HPP.out; omega)
    obtain ⟨⟨ac0, ac1, ac2, ac3, ac4, _⟩, ⟨az0, az1, az2, az3, az4⟩, _⟩ := HHa.out
    go_wp2_with fail
    clear ac0 ac1 ac2 ac3 ac4 az0 az1 az2 az3 az4
    generalize w4.setCell ⟨ga, 4, none⟩ (.slice A4 (m2 + 2) c4) = w8 at hq hb ⊢
    replace HHa := Lib.hid hq
    replace HBw := Lib.hid hb
    clear hq hb hx
    obtain ⟨q, hq⟩ : ∃ q : Rt, ⟨o2.data.toList, f2.data.toList, p2, bl rs, bl (ws ++ [⟨#[122, 122]⟩, ⟨#[122, 121]⟩])⟩ = q := ⟨_, rfl⟩
    rw [hq] at HHa HNR HFW
    clear hq
    have HC1 := Lib.hid (grant_to GO (u := ⟨#[121, 111]⟩) (wr := true) (gr_wrong HNR.out _ _) HFW.out (by decide))
    have HC2 := Lib.hid (revoke_to RO (u := ⟨#[122, 122]⟩) (rv_wrong HNR.out _) HFW.out (by decide))
    have HC3 := Lib.hid (put_to PO (putR_wrong HNR.out) HFW.out)
    have HC4 := Lib.hid (right_to RG (decide_eq_false HNR.out) HFW.out)
    have HC5 := Lib.hid (can_to CO (u := ⟨#[97, 110, 110, 97]⟩) (wr := false) (can_wrong HNR.out) HFW.out (by decide))
    have HC6 := Lib.hid (can_to CO (u := ⟨#[98, 101, 110]⟩) (wr := false) (can_wrong HNR.out) HFW.out (by decide))
    with_reducible refine (HC1.out _ _ _ (gs_cons HHa.out.lt gs_nil) HHa.out.isX).mono ?_
    rintro e101 w101 ⟨⟨v101, hx101, rfl⟩, hb101⟩
    obtain ⟨o101, f101, p101, A101, n101, c101, B101, m101, d101, rfl, hp101, hn101, hm101, ho101, hf101, hx101⟩ := isX_lit hx101
    have HB101 := Lib.hid (Bel.call HBw.out hb101)
    replace HHa := Lib.hid (HHa.out.call hb101)
    have HX101 := Lib.hid hx101
    have HO101 := Lib.hid ho101
    have HF101 := Lib.hid hf101
    have HP101 := Lib.hid hp101
    have HN101 := Lib.hid hn101
    have HM101 := Lib.hid hm101
    clear hb101 hx101 ho101 hf101 hp101 hn101 hm101
    dsimp only at HX101 HO101 HF101 HP101 HN101 HM101 ⊢
    obtain ⟨⟨ac0, ac1, ac2, ac3, ac4, _⟩, _, _⟩ := HHa.out
    go_wp2_with fail
    clear ac0 ac1 ac2 ac3 ac4
    obtain ⟨gb, hgb⟩ : ∃ g, w101.heap.size = g := ⟨_, rfl⟩
    have hh102 := hold_alloc (t := 24) HX101.out
    have hba102 := al w101 (.cells #[.string o101, .string f101, .int .i64 p101, .slice A101 n101 c101, .slice B101 m101 d101] 24)
    have hna102 := HHa.out.new (ob := (.cells #[.string o101, .string f101, .int .i64 p101, .slice A101 n101 c101, .slice B101 m101 d101] 24))
    generalize w101.alloc (.cells #[.string o101, .string f101, .int .i64 p101, .slice A101 n101 c101, .slice B101 m101 d101] 24) = w102 at hh102 hba102 hna102 ⊢
    rw [hgb] at hh102 hna102 ⊢
    replace HHa := Lib.hid hna102
    have HHb := Lib.hid hh102
    have HB102 := Lib.hid (Bel.call HB101.out hba102)
    clear hh102 hba102 hgb hna102
    with_reducible refine (HC2.out _ _ _ (gs_cons HHb.out.lt (gs_cons HHa.out.lt gs_nil)) HHa.out.isX).mono ?_
    rintro e103 w103 ⟨⟨v103, hx103, rfl⟩, hb103⟩
    obtain ⟨o103, f103, p103, A103, n103, c103, B103, m103, d103, rfl, hp103, hn103, hm103, ho103, hf103, hx103⟩ := isX_lit hx103
    have HB103 := Lib.hid (Bel.call HB102.out hb103)
    replace HHa := Lib.hid (HHa.out.call hb103)
    replace HHb := Lib.hid (HHb.out.call hb103)
    have HX103 := Lib.hid hx103
    have HO103 := Lib.hid ho103
    have HF103 := Lib.hid hf103
    have HP103 := Lib.hid hp103
    have HN103 := Lib.hid hn103
    have HM103 := Lib.hid hm103
    clear hb103 hx103 ho103 hf103 hp103 hn103 hm103
    dsimp only at HX103 HO103 HF103 HP103 HN103 HM103 ⊢
    obtain ⟨⟨ac0, ac1, ac2, ac3, ac4, _⟩, _, _⟩ := HHa.out
    go_wp2_with fail
    clear ac0 ac1 ac2 ac3 ac4
    obtain ⟨gc, hgc⟩ : ∃ g, w103.heap.size = g := ⟨_, rfl⟩
    have hh104 := hold_alloc (t := 24) HX103.out
    have hba104 := al w103 (.cells #[.string o103, .string f103, .int .i64 p103, .slice A103 n103 c103, .slice B103 m103 d103] 24)
    have hna104 := HHa.out.new (ob := (.cells #[.string o103, .string f103, .int .i64 p103, .slice A103 n103 c103, .slice B103 m103 d103] 24))
    have hnb104 := HHb.out.new (ob := (.cells #[.string o103, .string f103, .int .i64 p103, .slice A103 n103 c103, .slice B103 m103 d103] 24))
    generalize w103.alloc (.cells #[.string o103, .string f103, .int .i64 p103, .slice A103 n103 c103, .slice B103 m103 d103] 24) = w104 at hh104 hba104 hna104 hnb104 ⊢
    rw [hgc] at hh104 hna104 hnb104 ⊢
    replace HHa := Lib.hid hna104
    replace HHb := Lib.hid hnb104
    have HHc := Lib.hid hh104
    have HB104 := Lib.hid (Bel.call HB103.out hba104)
    clear hh104 hba104 hgc hna104 hnb104
    with_reducible refine (HC3.out _ _ HHa.out.isR).mono ?_
    rintro e105 w105 ⟨⟨S1, hS1, rfl⟩, hb105⟩
    have HB105 := Lib.hid (Bel.call HB104.out hb105)
    replace HHa := Lib.hid (HHa.out.call hb105)
    replace HHb := Lib.hid (HHb.out.call hb105)
    replace HHc := Lib.hid (HHc.out.call hb105)
    clear hb105
    clear hS1
    dsimp only
    obtain ⟨⟨ac0, ac1, ac2, ac3, ac4, _⟩, _, _⟩ := HHa.out
    go_wp2_with fail
    clear ac0 ac1 ac2 ac3 ac4
    with_reducible refine (HC4.out _ _ HHa.out.isR).mono ?_
    rintro e106 w106 ⟨rfl, hb106⟩
    have HB106 := Lib.hid (Bel.call HB105.out hb106)
    replace HHa := Lib.hid (HHa.out.call hb106)
    replace HHb := Lib.hid (HHb.out.call hb106)
    replace HHc := Lib.hid (HHc.out.call hb106)
    clear hb106
    dsimp only
    obtain ⟨⟨ac0, ac1, ac2, ac3, ac4, _⟩, _, _⟩ := HHa.out
    go_wp2_with fail
    clear ac0 ac1 ac2 ac3 ac4
    with_reducible refine (HC5.out _ _ HHa.out.isR).mono ?_
    rintro e107 w107 ⟨rfl, hb107⟩
    have HB107 := Lib.hid (Bel.call HB106.out hb107)
    replace HHa := Lib.hid (HHa.out.call hb107)
    replace HHb := Lib.hid (HHb.out.call hb107)
    replace HHc := Lib.hid (HHc.out.call hb107)
    clear hb107
    dsimp only
    obtain ⟨⟨ac0, ac1, ac2, ac3, ac4, _⟩, _, _⟩ := HHa.out
    go_wp2_with fail
    clear ac0 ac1 ac2 ac3 ac4
    with_reducible refine (HC6.out _ _ HHa.out.isR).mono ?_
    rintro e108 w108 ⟨rfl, hb108⟩
    have HB108 := Lib.hid (Bel.call HB107.out hb108)
    replace HHa := Lib.hid (HHa.out.call hb108)
    replace HHb := Lib.hid (HHb.out.call hb108)
    replace HHc := Lib.hid (HHc.out.call hb108)
    clear hb108
    dsimp only
    obtain ⟨⟨ac0, ac1, ac2, ac3, ac4, _⟩, _, _⟩ := HHa.out
    go_wp2_with fail
    clear ac0 ac1 ac2 ac3 ac4
    with_reducible refine (HZZ.out _).mono ?_
    rintro e109 w109 ⟨rfl, hb109⟩
    have HB109 := Lib.hid (Bel.call HB108.out hb109)
    replace HHa := Lib.hid (HHa.out.call hb109)
    replace HHb := Lib.hid (HHb.out.call hb109)
    replace HHc := Lib.hid (HHc.out.call hb109)
    clear hb109
    dsimp only
    go_wp2
    go_ret
    exact ⟨rfl, HB109.out⟩
  · subst hm
    obtain ⟨A3, c3, rfl, hk3, hs3, hc3, hfr3⟩ := own_part HO.out
    have HOL := Lib.hid (own_lit w3 [⟨#[97, 110, 110, 97]⟩] 1 rfl (by decide))
    have HL := Lib.hid (hs3.below (al w3 (.cells #[.string ⟨#[97, 110, 110, 97]⟩] 9)) (Nat.le_refl _))
    have HC3 := Lib.hid hc3
    clear hk3 hs3 hc3 hfr3
    go_wp2_with (
      (at_builtin
       refine append_strs rfl _ _ rfl w3.heap.size _ 1 [⟨#[97, 110, 110, 97]⟩] ws rfl HOL.out rfl A3 m2 c3 rfl HHm.out HC3.out.2 HL.out (by omega) (by simp) ?_
       intro v4 w4 hown4 hb4
       obtain ⟨A4, c4, rfl, hk4, hs4, hc4, hfr4⟩ := own_part hown4
       have HS4 := Lib.hid hs4
       have HK4 := Lib.hid hk4
       have HC4 := Lib.hid hc4
       have HFR4 : Hid (∀ b off, A4 = some ⟨b, off, none⟩ → wa.heap.size ≤ b) := fun b off h => Nat.le_trans hle3 (hfr4 b off h)
       have HBX := Lib.hid ((HB3.out.alloc HB3.out.size (.cells #[.string ⟨#[97, 110, 110, 97]⟩] 9)).trans (hb4.mono hle3))
       clear hown4 hk4 hs4 hc4 hfr4 hb4))
    with_reducible refine (HPK.out _).mono ?_
    rintro e9 v9 ⟨rfl, h9⟩
    obtain rfl : w4 = v9 := h9.symm
    clear h9
    dsimp only
    replace HHa := Lib.hid (HWA.out.call HBX.out)
    replace HBw := Lib.hid (HBA.out.trans (HBX.out.mono HBA.out.size))
    replace HS1 := Lib.hid (HR1.out.below HBX.out (Nat.le_refl _))
    have hx : IsX (Off [ga]) w4 (.agg #[.string o2, .string f2, .int .i64 p2, .slice A2 n2 c2, .slice A4 (1 + m2) c4]) ⟨o2.data.toList, f2.data.toList, p2, bl rs, bl ([⟨#[97, 110, 110, 97]⟩] ++ ws)⟩ := isX_make rs ([⟨#[97, 110, 110, 97]⟩] ++ ws) HHn.out HK4.out HS1.out HS4.out HR3.out HC4.out HR5.out (fun b off h _ hm => by have := HFR4.out b off h; rw [List.mem_singleton] at hm; omega)
    have hq := hold_set4 (List.mem_singleton_self ga) HHa.out hx
    have hb := HBw.out.setCell (p := ⟨ga, 4, none⟩) HGA.out (.slice A4 (1 + m2) c4)
    have HNR : Hid (¬ RR ⟨o2.data.toList, f2.data.toList, p2, bl rs, bl ([⟨#[97, 110, 110, 97]⟩] ++ ws)⟩) := fun h => by
      have h2 := (h.2.2.2.2.2.1.1 annaB.data.toList (by rw [bl_app]; exact List.mem_append_left _ (List.mem_singleton_self _))).2
      exact h2 HOA.out.symm
    have HFW : Hid (Few ⟨o2.data.toList, f2.data.toList, p2, bl rs, bl ([⟨#[97, 110, 110, 97]⟩] ++ ws)⟩) := few_of HO5.out HF5.out (by rw [bl_len]; first | omega | (simp; omega)) (by rw [bl_len]; first | omega | (simp; omega)) HT1.out (by rw [bl_app]; intro t ht; rcases List.mem_append.1 ht with h1 | h1; rw [List.mem_singleton.1 h1]; decide; exact HT2.out t h1) (by have := HPP.out; omega) (by have := HPP.out; omega)
    obtain ⟨⟨ac0, ac1, ac2, ac3, ac4, _⟩, ⟨az0, az1, az2, az3, az4⟩, _⟩ := HHa.out
    go_wp2_with fail
    clear ac0 ac1 ac2 ac3 ac4 az0 az1 az2 az3 az4
    generalize w4.setCell ⟨ga, 4, none⟩ (.slice A4 (1 + m2) c4) = w8 at hq hb ⊢
    replace HHa := Lib.hid hq
    replace HBw := Lib.hid hb
    clear hq hb hx
    obtain ⟨q, hq⟩ : ∃ q : Rt, ⟨o2.data.toList, f2.data.toList, p2, bl rs, bl ([⟨#[97, 110, 110, 97]⟩] ++ ws)⟩ = q := ⟨_, rfl⟩
    rw [hq] at HHa HNR HFW
    clear hq
    have HC1 := Lib.hid (grant_to GO (u := ⟨#[121, 111]⟩) (wr := true) (gr_wrong HNR.out _ _) HFW.out (by decide))
    have HC2 := Lib.hid (revoke_to RO (u := ⟨#[122, 122]⟩) (rv_wrong HNR.out _) HFW.out (by decide))
    have HC3 := Lib.hid (put_to PO (putR_wrong HNR.out) HFW.out)
    have HC4 := Lib.hid (right_to RG (decide_eq_false HNR.out) HFW.out)
    have HC5 := Lib.hid (can_to CO (u := ⟨#[97, 110, 110, 97]⟩) (wr := false) (can_wrong HNR.out) HFW.out (by decide))
    have HC6 := Lib.hid (can_to CO (u := ⟨#[98, 101, 110]⟩) (wr := false) (can_wrong HNR.out) HFW.out (by decide))
    with_reducible refine (HC1.out _ _ _ (gs_cons HHa.out.lt gs_nil) HHa.out.isX).mono ?_
    rintro e101 w101 ⟨⟨v101, hx101, rfl⟩, hb101⟩
    obtain ⟨o101, f101, p101, A101, n101, c101, B101, m101, d101, rfl, hp101, hn101, hm101, ho101, hf101, hx101⟩ := isX_lit hx101
    have HB101 := Lib.hid (Bel.call HBw.out hb101)
    replace HHa := Lib.hid (HHa.out.call hb101)
    have HX101 := Lib.hid hx101
    have HO101 := Lib.hid ho101
    have HF101 := Lib.hid hf101
    have HP101 := Lib.hid hp101
    have HN101 := Lib.hid hn101
    have HM101 := Lib.hid hm101
    clear hb101 hx101 ho101 hf101 hp101 hn101 hm101
    dsimp only at HX101 HO101 HF101 HP101 HN101 HM101 ⊢
    obtain ⟨⟨ac0, ac1, ac2, ac3, ac4, _⟩, _, _⟩ := HHa.out
    go_wp2_with fail
    clear ac0 ac1 ac2 ac3 ac4
    obtain ⟨gb, hgb⟩ : ∃ g, w101.heap.size = g := ⟨_, rfl⟩
    have hh102 := hold_alloc (t := 24) HX101.out
    have hba102 := al w101 (.cells #[.string o101, .string f101, .int .i64 p101, .slice A101 n101 c101, .slice B101 m101 d101] 24)
    have hna102 := HHa.out.new (ob := (.cells #[.string o101, .string f101, .int .i64 p101, .slice A101 n101 c101, .slice B101 m101 d101] 24))
    generalize w101.alloc (.cells #[.string o101, .string f101, .int .i64 p101, .slice A101 n101 c101, .slice B101 m101 d101] 24) = w102 at hh102 hba102 hna102 ⊢
    rw [hgb] at hh102 hna102 ⊢
    replace HHa := Lib.hid hna102
    have HHb := Lib.hid hh102
    have HB102 := Lib.hid (Bel.call HB101.out hba102)
    clear hh102 hba102 hgb hna102
    with_reducible refine (HC2.out _ _ _ (gs_cons HHb.out.lt (gs_cons HHa.out.lt gs_nil)) HHa.out.isX).mono ?_
    rintro e103 w103 ⟨⟨v103, hx103, rfl⟩, hb103⟩
    obtain ⟨o103, f103, p103, A103, n103, c103, B103, m103, d103, rfl, hp103, hn103, hm103, ho103, hf103, hx103⟩ := isX_lit hx103
    have HB103 := Lib.hid (Bel.call HB102.out hb103)
    replace HHa := Lib.hid (HHa.out.call hb103)
    replace HHb := Lib.hid (HHb.out.call hb103)
    have HX103 := Lib.hid hx103
    have HO103 := Lib.hid ho103
    have HF103 := Lib.hid hf103
    have HP103 := Lib.hid hp103
    have HN103 := Lib.hid hn103
    have HM103 := Lib.hid hm103
    clear hb103 hx103 ho103 hf103 hp103 hn103 hm103
    dsimp only at HX103 HO103 HF103 HP103 HN103 HM103 ⊢
    obtain ⟨⟨ac0, ac1, ac2, ac3, ac4, _⟩, _, _⟩ := HHa.out
    go_wp2_with fail
    clear ac0 ac1 ac2 ac3 ac4
    obtain ⟨gc, hgc⟩ : ∃ g, w103.heap.size = g := ⟨_, rfl⟩
    have hh104 := hold_alloc (t := 24) HX103.out
    have hba104 := al w103 (.cells #[.string o103, .string f103, .int .i64 p103, .slice A103 n103 c103, .slice B103 m103 d103] 24)
    have hna104 := HHa.out.new (ob := (.cells #[.string o103, .string f103, .int .i64 p103, .slice A103 n103 c103, .slice B103 m103 d103] 24))
    have hnb104 := HHb.out.new (ob := (.cells #[.string o103, .string f103, .int .i64 p103, .slice A103 n103 c103, .slice B103 m103 d103] 24))
    generalize w103.alloc (.cells #[.string o103, .string f103, .int .i64 p103, .slice A103 n103 c103, .slice B103 m103 d103] 24) = w104 at hh104 hba104 hna104 hnb104 ⊢
    rw [hgc] at hh104 hna104 hnb104 ⊢
    replace HHa := Lib.hid hna104
    replace HHb := Lib.hid hnb104
    have HHc := Lib.hid hh104
    have HB104 := Lib.hid (Bel.call HB103.out hba104)
    clear hh104 hba104 hgc hna104 hnb104
    with_reducible refine (HC3.out _ _ HHa.out.isR).mono ?_
    rintro e105 w105 ⟨⟨S1, hS1, rfl⟩, hb105⟩
    have HB105 := Lib.hid (Bel.call HB104.out hb105)
    replace HHa := Lib.hid (HHa.out.call hb105)
    replace HHb := Lib.hid (HHb.out.call hb105)
    replace HHc := Lib.hid (HHc.out.call hb105)
    clear hb105
    clear hS1
    dsimp only
    obtain ⟨⟨ac0, ac1, ac2, ac3, ac4, _⟩, _, _⟩ := HHa.out
    go_wp2_with fail
    clear ac0 ac1 ac2 ac3 ac4
    with_reducible refine (HC4.out _ _ HHa.out.isR).mono ?_
    rintro e106 w106 ⟨rfl, hb106⟩
    have HB106 := Lib.hid (Bel.call HB105.out hb106)
    replace HHa := Lib.hid (HHa.out.call hb106)
    replace HHb := Lib.hid (HHb.out.call hb106)
    replace HHc := Lib.hid (HHc.out.call hb106)
    clear hb106
    dsimp only
    obtain ⟨⟨ac0, ac1, ac2, ac3, ac4, _⟩, _, _⟩ := HHa.out
    go_wp2_with fail
    clear ac0 ac1 ac2 ac3 ac4
    with_reducible refine (HC5.out _ _ HHa.out.isR).mono ?_
    rintro e107 w107 ⟨rfl, hb107⟩
    have HB107 := Lib.hid (Bel.call HB106.out hb107)
    replace HHa := Lib.hid (HHa.out.call hb107)
    replace HHb := Lib.hid (HHb.out.call hb107)
    replace HHc := Lib.hid (HHc.out.call hb107)
    clear hb107
    dsimp only
    obtain ⟨⟨ac0, ac1, ac2, ac3, ac4, _⟩, _, _⟩ := HHa.out
    go_wp2_with fail
    clear ac0 ac1 ac2 ac3 ac4
    with_reducible refine (HC6.out _ _ HHa.out.isR).mono ?_
    rintro e108 w108 ⟨rfl, hb108⟩
    have HB108 := Lib.hid (Bel.call HB107.out hb108)
    replace HHa := Lib.hid (HHa.out.call hb108)
    replace HHb := Lib.hid (HHb.out.call hb108)
    replace HHc := Lib.hid (HHc.out.call hb108)
    clear hb108
    dsimp only
    obtain ⟨⟨ac0, ac1, ac2, ac3, ac4, _⟩, _, _⟩ := HHa.out
    go_wp2_with fail
    clear ac0 ac1 ac2 ac3 ac4
    with_reducible refine (HZZ.out _).mono ?_
    rintro e109 w109 ⟨rfl, hb109⟩
    have HB109 := Lib.hid (Bel.call HB108.out hb109)
    replace HHa := Lib.hid (HHa.out.call hb109)
    replace HHb := Lib.hid (HHb.out.call hb109)
    replace HHc := Lib.hid (HHc.out.call hb109)
    clear hb109
    dsimp only
    go_wp2
    go_ret
    exact ⟨rfl, HB109.out⟩
  · subst hm
    have HL := Lib.hid (sreads_own (own_lit w3 [⟨#[122, 122]⟩, ⟨#[122, 122]⟩] 2 rfl (by decide))).1
    have HOL := Lib.hid (HO.out.alloc (.cells #[.string ⟨#[122, 122]⟩, .string ⟨#[122, 122]⟩] 9))
    go_wp2_with (
      (at_builtin
       refine append_strs rfl _ _ rfl wa.heap.size _ m2 ws [⟨#[122, 122]⟩, ⟨#[122, 122]⟩] rfl HOL.out HHm.out (some ⟨w3.heap.size, 0, none⟩) 2 2 rfl rfl (fun h => by cases h) HL.out (by simp; omega) (by simp; omega) ?_
       intro v4 w4 hown4 hb4
       obtain ⟨A4, c4, rfl, hk4, hs4, hc4, hfr4⟩ := own_part hown4
       have HS4 := Lib.hid hs4
       have HK4 := Lib.hid hk4
       have HC4 := Lib.hid hc4
       have HFR4 : Hid (∀ b off, A4 = some ⟨b, off, none⟩ → wa.heap.size ≤ b) := hfr4
       have HBX := Lib.hid ((HB3.out.alloc HB3.out.size (.cells #[.string ⟨#[122, 122]⟩, .string ⟨#[122, 122]⟩] 9)).trans hb4)
       clear hown4 hk4 hs4 hc4 hfr4 hb4))
    with_reducible refine (HPK.out _).mono ?_
    rintro e9 v9 ⟨rfl, h9⟩
    obtain rfl : w4 = v9 := h9.symm
    clear h9
    dsimp only
    replace HHa := Lib.hid (HWA.out.call HBX.out)
    replace HBw := Lib.hid (HBA.out.trans (HBX.out.mono HBA.out.size))
    replace HS1 := Lib.hid (HR1.out.below HBX.out (Nat.le_refl _))
    have hx : IsX (Off [ga]) w4 (.agg #[.string o2, .string f2, .int .i64 p2, .slice A2 n2 c2, .slice A4 (m2 + 2) c4]) ⟨o2.data.toList, f2.data.toList, p2, bl rs, bl (ws ++ [⟨#[122, 122]⟩, ⟨#[122, 122]⟩])⟩ := isX_make rs (ws ++ [⟨#[122, 122]⟩, ⟨#[122, 122]⟩]) HHn.out HK4.out HS1.out HS4.out HR3.out HC4.out HR5.out (fun b off h _ hm => by have := HFR4.out b off h; rw [List.mem_singleton] at hm; omega)
    have hq := hold_set4 (List.mem_singleton_self ga) HHa.out hx
    have hb := HBw.out.setCell (p := ⟨ga, 4, none⟩) HGA.out (.slice A4 (m2 + 2) c4)
    have HNR : Hid (¬ RR ⟨o2.data.toList, f2.data.toList, p2, bl rs, bl (ws ++ [⟨#[122, 122]⟩, ⟨#[122, 122]⟩])⟩) := fun h => by
      have h2 := h.2.2.2.2.2.1
      rw [bl_app] at h2
      exact absurd (lsd_last2 h2) (by decide +kernel)
    have HFW : Hid (Few ⟨o2.data.toList, f2.data.toList, p2, bl rs, bl (ws ++ [⟨#[122, 122]⟩, ⟨#[122, 122]⟩])⟩) := few_of HO5.out HF5.out (by rw [bl_len]; first | omega | (simp; omega)) (by rw [bl_len]; first | omega | (simp; omega)) HT1.out (by rw [bl_app]; exact mem2 HT2.out (x := zzB.data.toList) (y := zzB.data.toList) (k := 2) (by decide) (by decide) (by decide)) (by have := HPP.out; omega) (by have := HPP.out; omega)
    obtain ⟨⟨ac0, ac1, ac2, ac3, ac4, _⟩, ⟨az0, az1, az2, az3, az4⟩, _⟩ := HHa.out
    go_wp2_with fail
    clear ac0 ac1 ac2 ac3 ac4 az0 az1 az2 az3 az4
    generalize w4.setCell ⟨ga, 4, none⟩ (.slice A4 (m2 + 2) c4) = w8 at hq hb ⊢
    replace HHa := Lib.hid hq
    replace HBw := Lib.hid hb
    clear hq hb hx
    obtain ⟨q, hq⟩ : ∃ q : Rt, ⟨o2.data.toList, f2.data.toList, p2, bl rs, bl (ws ++ [⟨#[122, 122]⟩, ⟨#[122, 122]⟩])⟩ = q := ⟨_, rfl⟩
    rw [hq] at HHa HNR HFW
    clear hq
    have HC1 := Lib.hid (grant_to GO (u := ⟨#[121, 111]⟩) (wr := true) (gr_wrong HNR.out _ _) HFW.out (by decide))
    have HC2 := Lib.hid (revoke_to RO (u := ⟨#[122, 122]⟩) (rv_wrong HNR.out _) HFW.out (by decide))
    have HC3 := Lib.hid (put_to PO (putR_wrong HNR.out) HFW.out)
    have HC4 := Lib.hid (right_to RG (decide_eq_false HNR.out) HFW.out)
    have HC5 := Lib.hid (can_to CO (u := ⟨#[97, 110, 110, 97]⟩) (wr := false) (can_wrong HNR.out) HFW.out (by decide))
    have HC6 := Lib.hid (can_to CO (u := ⟨#[98, 101, 110]⟩) (wr := false) (can_wrong HNR.out) HFW.out (by decide))
    with_reducible refine (HC1.out _ _ _ (gs_cons HHa.out.lt gs_nil) HHa.out.isX).mono ?_
    rintro e101 w101 ⟨⟨v101, hx101, rfl⟩, hb101⟩
    obtain ⟨o101, f101, p101, A101, n101, c101, B101, m101, d101, rfl, hp101, hn101, hm101, ho101, hf101, hx101⟩ := isX_lit hx101
    have HB101 := Lib.hid (Bel.call HBw.out hb101)
    replace HHa := Lib.hid (HHa.out.call hb101)
    have HX101 := Lib.hid hx101
    have HO101 := Lib.hid ho101
    have HF101 := Lib.hid hf101
    have HP101 := Lib.hid hp101
    have HN101 := Lib.hid hn101
    have HM101 := Lib.hid hm101
    clear hb101 hx101 ho101 hf101 hp101 hn101 hm101
    dsimp only at HX101 HO101 HF101 HP101 HN101 HM101 ⊢
    obtain ⟨⟨ac0, ac1, ac2, ac3, ac4, _⟩, _, _⟩ := HHa.out
    go_wp2_with fail
    clear ac0 ac1 ac2 ac3 ac4
    obtain ⟨gb, hgb⟩ : ∃ g, w101.heap.size = g := ⟨_, rfl⟩
    have hh102 := hold_alloc (t := 24) HX101.out
    have hba102 := al w101 (.cells #[.string o101, .string f101, .int .i64 p101, .slice A101 n101 c101, .slice B101 m101 d101] 24)
    have hna102 := HHa.out.new (ob := (.cells #[.string o101, .string f101, .int .i64 p101, .slice A101 n101 c101, .slice B101 m101 d101] 24))
    generalize w101.alloc (.cells #[.string o101, .string f101, .int .i64 p101, .slice A101 n101 c101, .slice B101 m101 d101] 24) = w102 at hh102 hba102 hna102 ⊢
    rw [hgb] at hh102 hna102 ⊢
    replace HHa := Lib.hid hna102
    have HHb := Lib.hid hh102
    have HB102 := Lib.hid (Bel.call HB101.out hba102)
    clear hh102 hba102 hgb hna102
    with_reducible refine (HC2.out _ _ _ (gs_cons HHb.out.lt (gs_cons HHa.out.lt gs_nil)) HHa.out.isX).mono ?_
    rintro e103 w103 ⟨⟨v103, hx103, rfl⟩, hb103⟩
    obtain ⟨o103, f103, p103, A103, n103, c103, B103, m103, d103, rfl, hp103, hn103, hm103, ho103, hf103, hx103⟩ := isX_lit hx103
    have HB103 := Lib.hid (Bel.call HB102.out hb103)
    replace HHa := Lib.hid (HHa.out.call hb103)
    replace HHb := Lib.hid (HHb.out.call hb103)
    have HX103 := Lib.hid hx103
    have HO103 := Lib.hid ho103
    have HF103 := Lib.hid hf103
    have HP103 := Lib.hid hp103
    have HN103 := Lib.hid hn103
    have HM103 := Lib.hid hm103
    clear hb103 hx103 ho103 hf103 hp103 hn103 hm103
    dsimp only at HX103 HO103 HF103 HP103 HN103 HM103 ⊢
    obtain ⟨⟨ac0, ac1, ac2, ac3, ac4, _⟩, _, _⟩ := HHa.out
    go_wp2_with fail
    clear ac0 ac1 ac2 ac3 ac4
    obtain ⟨gc, hgc⟩ : ∃ g, w103.heap.size = g := ⟨_, rfl⟩
    have hh104 := hold_alloc (t := 24) HX103.out
    have hba104 := al w103 (.cells #[.string o103, .string f103, .int .i64 p103, .slice A103 n103 c103, .slice B103 m103 d103] 24)
    have hna104 := HHa.out.new (ob := (.cells #[.string o103, .string f103, .int .i64 p103, .slice A103 n103 c103, .slice B103 m103 d103] 24))
    have hnb104 := HHb.out.new (ob := (.cells #[.string o103, .string f103, .int .i64 p103, .slice A103 n103 c103, .slice B103 m103 d103] 24))
    generalize w103.alloc (.cells #[.string o103, .string f103, .int .i64 p103, .slice A103 n103 c103, .slice B103 m103 d103] 24) = w104 at hh104 hba104 hna104 hnb104 ⊢
    rw [hgc] at hh104 hna104 hnb104 ⊢
    replace HHa := Lib.hid hna104
    replace HHb := Lib.hid hnb104
    have HHc := Lib.hid hh104
    have HB104 := Lib.hid (Bel.call HB103.out hba104)
    clear hh104 hba104 hgc hna104 hnb104
    with_reducible refine (HC3.out _ _ HHa.out.isR).mono ?_
    rintro e105 w105 ⟨⟨S1, hS1, rfl⟩, hb105⟩
    have HB105 := Lib.hid (Bel.call HB104.out hb105)
    replace HHa := Lib.hid (HHa.out.call hb105)
    replace HHb := Lib.hid (HHb.out.call hb105)
    replace HHc := Lib.hid (HHc.out.call hb105)
    clear hb105
    clear hS1
    dsimp only
    obtain ⟨⟨ac0, ac1, ac2, ac3, ac4, _⟩, _, _⟩ := HHa.out
    go_wp2_with fail
    clear ac0 ac1 ac2 ac3 ac4
    with_reducible refine (HC4.out _ _ HHa.out.isR).mono ?_
    rintro e106 w106 ⟨rfl, hb106⟩
    have HB106 := Lib.hid (Bel.call HB105.out hb106)
    replace HHa := Lib.hid (HHa.out.call hb106)
    replace HHb := Lib.hid (HHb.out.call hb106)
    replace HHc := Lib.hid (HHc.out.call hb106)
    clear hb106
    dsimp only
    obtain ⟨⟨ac0, ac1, ac2, ac3, ac4, _⟩, _, _⟩ := HHa.out
    go_wp2_with fail
    clear ac0 ac1 ac2 ac3 ac4
    with_reducible refine (HC5.out _ _ HHa.out.isR).mono ?_
    rintro e107 w107 ⟨rfl, hb107⟩
    have HB107 := Lib.hid (Bel.call HB106.out hb107)
    replace HHa := Lib.hid (HHa.out.call hb107)
    replace HHb := Lib.hid (HHb.out.call hb107)
    replace HHc := Lib.hid (HHc.out.call hb107)
    clear hb107
    dsimp only
    obtain ⟨⟨ac0, ac1, ac2, ac3, ac4, _⟩, _, _⟩ := HHa.out
    go_wp2_with fail
    clear ac0 ac1 ac2 ac3 ac4
    with_reducible refine (HC6.out _ _ HHa.out.isR).mono ?_
    rintro e108 w108 ⟨rfl, hb108⟩
    have HB108 := Lib.hid (Bel.call HB107.out hb108)
    replace HHa := Lib.hid (HHa.out.call hb108)
    replace HHb := Lib.hid (HHb.out.call hb108)
    replace HHc := Lib.hid (HHc.out.call hb108)
    clear hb108
    dsimp only
    obtain ⟨⟨ac0, ac1, ac2, ac3, ac4, _⟩, _, _⟩ := HHa.out
    go_wp2_with fail
    clear ac0 ac1 ac2 ac3 ac4
    with_reducible refine (HZZ.out _).mono ?_
    rintro e109 w109 ⟨rfl, hb109⟩
    have HB109 := Lib.hid (Bel.call HB108.out hb109)
    replace HHa := Lib.hid (HHa.out.call hb109)
    replace HHb := Lib.hid (HHb.out.call hb109)
    replace HHc := Lib.hid (HHc.out.call hb109)
    clear hb109
    dsimp only
    go_wp2
    go_ret
    exact ⟨rfl, HB109.out⟩
  · subst hm
    have HL := Lib.hid (sreads_own (own_lit w3 [⟨#[122, 122]⟩] 1 rfl (by decide))).1
    have HOL := Lib.hid (HO.out.alloc (.cells #[.string ⟨#[122, 122]⟩] 9))
    go_wp2_with (first
      | (at_builtin
         refine append_strs rfl _ _ rfl wa.heap.size _ m2 ws [⟨#[122, 122]⟩] rfl HOL.out HHm.out (some ⟨w3.heap.size, 0, none⟩) 1 1 rfl rfl (fun h => by cases h) HL.out (by simp; omega) (by simp; omega) ?_
         intro v4 w4 hown4 hb4
         obtain ⟨A4, c4, rfl, hk4, hs4, hc4, hfr4⟩ := own_part hown4
         have HS4 := Lib.hid hs4
         have HK4 := Lib.hid hk4
         have HC4 := Lib.hid hc4
         have HFR4 : Hid (∀ b off, A4 = some ⟨b, off, none⟩ → wa.heap.size ≤ b) := hfr4
         have HBX := Lib.hid ((HB3.out.alloc HB3.out.size (.cells #[.string ⟨#[122, 122]⟩] 9)).trans hb4)
         clear hown4 hk4 hs4 hc4 hfr4 hb4
         have HBE := Lib.hid (HBX.out.alloc HBX.out.size (.cells #[] 9))
         have hq4 := HWA.out.call HBE.out
         obtain ⟨⟨ac0, ac1, ac2, ac3, ac4, _⟩, ⟨az0, az1, az2, az3, az4⟩, _⟩ := hq4
         have HL5 := Lib.hid (HR1.out.below HBE.out (Nat.le_refl _))
         have HE5 := Lib.hid (own_empty w4))
      | (at_builtin
         refine append_strs rfl _ _ rfl w4.heap.size _ 0 [] rs rfl HE5.out rfl A2 n2 c2 rfl HHn.out HR3.out.2 HL5.out (by simp; omega) (by simp) ?_
         intro v5 w5 hown5 hb5
         rw [Nat.zero_add, List.nil_append] at hown5
         have HO5' := Lib.hid (hown5.alloc (.cells #[.string ⟨#[122, 122]⟩] 9))
         have HB5 := Lib.hid ((al w4 (.cells #[] 9)).trans hb5)
         have HL6 := Lib.hid (sreads_own (own_lit w5 [⟨#[122, 122]⟩] 1 rfl (by decide))).1
         clear hown5 hb5 ac0 ac1 ac2 ac3 ac4 az0 az1 az2 az3 az4)
      | (at_builtin
         refine append_strs rfl _ _ rfl w4.heap.size _ n2 rs [⟨#[122, 122]⟩] rfl HO5'.out HHn.out (some ⟨w5.heap.size, 0, none⟩) 1 1 rfl rfl (fun h => by cases h) HL6.out (by simp; omega) (by have := HB5.out.size; simp; omega) ?_
         intro v6 w6 hown6 hb6
         obtain ⟨A6, c6, rfl, hk6, hs6, hc6, hfr6⟩ := own_part hown6
         have HS6 := Lib.hid hs6
         have HK6 := Lib.hid hk6
         have HC6 := Lib.hid hc6
         have HFR6 : Hid (∀ b off, A6 = some ⟨b, off, none⟩ → wa.heap.size ≤ b) := fun b off h => Nat.le_trans HBX.out.size (hfr6 b off h)
         have HB46 := Lib.hid ((HB5.out.alloc HB5.out.size (.cells #[.string ⟨#[122, 122]⟩] 9)).trans hb6)
         have HBX6 := Lib.hid (HBX.out.trans (HB46.out.mono HBX.out.size))
         have hq6 := HWA.out.call HBX6.out
         obtain ⟨⟨ac0, ac1, ac2, ac3, ac4, _⟩, ⟨az0, az1, az2, az3, az4⟩, _⟩ := hq6
         clear hown6 hk6 hs6 hc6 hfr6 hb6))
    clear ac0 ac1 ac2 ac3 ac4 az0 az1 az2 az3 az4
    have hx : IsX (Off [ga]) w6 (.agg #[.string o2, .string f2, .int .i64 p2, .slice A6 (n2 + 1) c6, .slice B2 m2 d2]) ⟨o2.data.toList, f2.data.toList, p2, bl (rs ++ [⟨#[122, 122]⟩]), bl ws⟩ := isX_make (rs ++ [⟨#[122, 122]⟩]) ws HK6.out HHm.out HS6.out (HR2.out.below HBX6.out (Nat.le_refl _)) HC6.out HR4.out (fun b off h _ hm => by have := HFR6.out b off h; rw [List.mem_singleton] at hm; omega) HR6.out
    have hq := hold_set3 (List.mem_singleton_self ga) (HWA.out.call HBX6.out) hx
    have hb := (HBA.out.trans (HBX6.out.mono HBA.out.size)).setCell (p := ⟨ga, 3, none⟩) HGA.out (.slice A6 (n2 + 1) c6)
    have hs4 := sreads_off (g := ga) (gs := [ga]) (j := 3) (v := .slice A6 (n2 + 1) c6) (List.mem_singleton_self ga) (HS4.out.below HB46.out (Nat.le_refl _)) (fun b off h _ hm => by have := HFR4.out b off h; rw [List.mem_singleton] at hm; omega)
    have hs6 := sreads_off (g := ga) (gs := [ga]) (j := 3) (v := .slice A6 (n2 + 1) c6) (List.mem_singleton_self ga) HS6.out (fun b off h _ hm => by have := HFR6.out b off h; rw [List.mem_singleton] at hm; omega)
    generalize w6.setCell ⟨ga, 3, none⟩ (.slice A6 (n2 + 1) c6) = w7 at hq hb hs4 hs6 ⊢
    replace HHa := Lib.hid hq
    replace HBw := Lib.hid hb
    replace HS4 := Lib.hid hs4
    replace HS6 := Lib.hid hs6
    clear hq hb hs4 hs6 hx
    with_reducible refine (HPK.out _).mono ?_
    rintro e9 v9 ⟨rfl, h9⟩
    obtain rfl : w7 = v9 := h9.symm
    clear h9
    dsimp only
    have hx : IsX (Off [ga]) w7 (.agg #[.string o2, .string f2, .int .i64 p2, .slice A6 (n2 + 1) c6, .slice A4 (m2 + 1) c4]) ⟨o2.data.toList, f2.data.toList, p2, bl (rs ++ [⟨#[122, 122]⟩]), bl (ws ++ [⟨#[122, 122]⟩])⟩ := isX_make (rs ++ [⟨#[122, 122]⟩]) (ws ++ [⟨#[122, 122]⟩]) HK6.out HK4.out HS6.out HS4.out HC6.out HC4.out (fun b off h _ hm => by have := HFR6.out b off h; rw [List.mem_singleton] at hm; omega) (fun b off h _ hm => by have := HFR4.out b off h; rw [List.mem_singleton] at hm; omega)
    have hq := hold_set4 (List.mem_singleton_self ga) HHa.out hx
    have hb := HBw.out.setCell (p := ⟨ga, 4, none⟩) HGA.out (.slice A4 (m2 + 1) c4)
    have HNR : Hid (¬ RR ⟨o2.data.toList, f2.data.toList, p2, bl (rs ++ [⟨#[122, 122]⟩]), bl (ws ++ [⟨#[122, 122]⟩])⟩) := fun h => by
      have h2 := h.2.2.2.2.2.2 zzB.data.toList (by rw [bl_app]; exact List.mem_append_right _ (List.mem_singleton_self _))
      exact h2 (by show zzB.data.toList ∈ bl (ws ++ [_]); rw [bl_app]; exact List.mem_append_right _ (List.mem_singleton_self _))
    have HFW : Hid (Few ⟨o2.data.toList, f2.data.toList, p2, bl (rs ++ [⟨#[122, 122]⟩]), bl (ws ++ [⟨#[122, 122]⟩])⟩) := few_of HO5.out HF5.out (by rw [bl_len]; first | omega | (simp; omega)) (by rw [bl_len]; first | omega | (simp; omega)) (by rw [bl_app]; exact mem1 HT1.out (x := zzB.data.toList) (by decide)) (by rw [bl_app]; exact mem1 HT2.out (x := zzB.data.toList) (by decide)) (by have := HPP.out; omega) (by have := HPP.out; omega)
    obtain ⟨⟨ac0, ac1, ac2, ac3, ac4, _⟩, ⟨az0, az1, az2, az3, az4⟩, _⟩ := HHa.out
    go_wp2_with fail
    clear ac0 ac1 ac2 ac3 ac4 az0 az1 az2 az3 az4
    generalize w7.setCell ⟨ga, 4, none⟩ (.slice A4 (m2 + 1) c4) = w8 at hq hb ⊢
    replace HHa := Lib.hid hq
    replace HBw := Lib.hid hb
    clear hq hb hx
    obtain ⟨q, hq⟩ : ∃ q : Rt, ⟨o2.data.toList, f2.data.toList, p2, bl (rs ++ [⟨#[122, 122]⟩]), bl (ws ++ [⟨#[122, 122]⟩])⟩ = q := ⟨_, rfl⟩
    rw [hq] at HHa HNR HFW
    clear hq
    have HC1 := Lib.hid (grant_to GO (u := ⟨#[121, 111]⟩) (wr := true) (gr_wrong HNR.out _ _) HFW.out (by decide))
    have HC2 := Lib.hid (revoke_to RO (u := ⟨#[122, 122]⟩) (rv_wrong HNR.out _) HFW.out (by decide))
    have HC3 := Lib.hid (put_to PO (putR_wrong HNR.out) HFW.out)
    have HC4 := Lib.hid (right_to RG (decide_eq_false HNR.out) HFW.out)
    have HC5 := Lib.hid (can_to CO (u := ⟨#[97, 110, 110, 97]⟩) (wr := false) (can_wrong HNR.out) HFW.out (by decide))
    have HC6 := Lib.hid (can_to CO (u := ⟨#[98, 101, 110]⟩) (wr := false) (can_wrong HNR.out) HFW.out (by decide))
    with_reducible refine (HC1.out _ _ _ (gs_cons HHa.out.lt gs_nil) HHa.out.isX).mono ?_
    rintro e101 w101 ⟨⟨v101, hx101, rfl⟩, hb101⟩
    obtain ⟨o101, f101, p101, A101, n101, c101, B101, m101, d101, rfl, hp101, hn101, hm101, ho101, hf101, hx101⟩ := isX_lit hx101
    have HB101 := Lib.hid (Bel.call HBw.out hb101)
    replace HHa := Lib.hid (HHa.out.call hb101)
    have HX101 := Lib.hid hx101
    have HO101 := Lib.hid ho101
    have HF101 := Lib.hid hf101
    have HP101 := Lib.hid hp101
    have HN101 := Lib.hid hn101
    have HM101 := Lib.hid hm101
    clear hb101 hx101 ho101 hf101 hp101 hn101 hm101
    dsimp only at HX101 HO101 HF101 HP101 HN101 HM101 ⊢
    obtain ⟨⟨ac0, ac1, ac2, ac3, ac4, _⟩, _, _⟩ := HHa.out
    go_wp2_with fail
    clear ac0 ac1 ac2 ac3 ac4
    obtain ⟨gb, hgb⟩ : ∃ g, w101.heap.size = g := ⟨_, rfl⟩
    have hh102 := hold_alloc (t := 24) HX101.out
    have hba102 := al w101 (.cells #[.string o101, .string f101, .int .i64 p101, .slice A101 n101 c101, .slice B101 m101 d101] 24)
    have hna102 := HHa.out.new (ob := (.cells #[.string o101, .string f101, .int .i64 p101, .slice A101 n101 c101, .slice B101 m101 d101] 24))
    generalize w101.alloc (.cells #[.string o101, .string f101, .int .i64 p101, .slice A101 n101 c101, .slice B101 m101 d101] 24) = w102 at hh102 hba102 hna102 ⊢
    rw [hgb] at hh102 hna102 ⊢
    replace HHa := Lib.hid hna102
    have HHb := Lib.hid hh102
    have HB102 := Lib.hid (Bel.call HB101.out hba102)
    clear hh102 hba102 hgb hna102
    with_reducible refine (HC2.out _ _ _ (gs_cons HHb.out.lt (gs_cons HHa.out.lt gs_nil)) HHa.out.isX).mono ?_
    rintro e103 w103 ⟨⟨v103, hx103, rfl⟩, hb103⟩
    obtain ⟨o103, f103, p103, A103, n103, c103, B103, m103, d103, rfl, hp103, hn103, hm103, ho103, hf103, hx103⟩ := isX_lit hx103
    have HB103 := Lib.hid (Bel.call HB102.out hb103)
    replace HHa := Lib.hid (HHa.out.call hb103)
    replace HHb := Lib.hid (HHb.out.call hb103)
    have HX103 := Lib.hid hx103
    have HO103 := Lib.hid ho103
    have HF103 := Lib.hid hf103
    have HP103 := Lib.hid hp103
    have HN103 := Lib.hid hn103
    have HM103 := Lib.hid hm103
    clear hb103 hx103 ho103 hf103 hp103 hn103 hm103
    dsimp only at HX103 HO103 HF103 HP103 HN103 HM103 ⊢
    obtain ⟨⟨ac0, ac1, ac2, ac3, ac4, _⟩, _, _⟩ := HHa.out
    go_wp2_with fail
    clear ac0 ac1 ac2 ac3 ac4
    obtain ⟨gc, hgc⟩ : ∃ g, w103.heap.size = g := ⟨_, rfl⟩
    have hh104 := hold_alloc (t := 24) HX103.out
    have hba104 := al w103 (.cells #[.string o103, .string f103, .int .i64 p103, .slice A103 n103 c103, .slice B103 m103 d103] 24)
    have hna104 := HHa.out.new (ob := (.cells #[.string o103, .string f103, .int .i64 p103, .slice A103 n103 c103, .slice B103 m103 d103] 24))
    have hnb104 := HHb.out.new (ob := (.cells #[.string o103, .string f103, .int .i64 p103, .slice A103 n103 c103, .slice B103 m103 d103] 24))
    generalize w103.alloc (.cells #[.string o103, .string f103, .int .i64 p103, .slice A103 n103 c103, .slice B103 m103 d103] 24) = w104 at hh104 hba104 hna104 hnb104 ⊢
    rw [hgc] at hh104 hna104 hnb104 ⊢
    replace HHa := Lib.hid hna104
    replace HHb := Lib.hid hnb104
    have HHc := Lib.hid hh104
    have HB104 := Lib.hid (Bel.call HB103.out hba104)
    clear hh104 hba104 hgc hna104 hnb104
    with_reducible refine (HC3.out _ _ HHa.out.isR).mono ?_
    rintro e105 w105 ⟨⟨S1, hS1, rfl⟩, hb105⟩
    have HB105 := Lib.hid (Bel.call HB104.out hb105)
    replace HHa := Lib.hid (HHa.out.call hb105)
    replace HHb := Lib.hid (HHb.out.call hb105)
    replace HHc := Lib.hid (HHc.out.call hb105)
    clear hb105
    clear hS1
    dsimp only
    obtain ⟨⟨ac0, ac1, ac2, ac3, ac4, _⟩, _, _⟩ := HHa.out
    go_wp2_with fail
    clear ac0 ac1 ac2 ac3 ac4
    with_reducible refine (HC4.out _ _ HHa.out.isR).mono ?_
    rintro e106 w106 ⟨rfl, hb106⟩
    have HB106 := Lib.hid (Bel.call HB105.out hb106)
    replace HHa := Lib.hid (HHa.out.call hb106)
    replace HHb := Lib.hid (HHb.out.call hb106)
    replace HHc := Lib.hid (HHc.out.call hb106)
    clear hb106
    dsimp only
    obtain ⟨⟨ac0, ac1, ac2, ac3, ac4, _⟩, _, _⟩ := HHa.out
    go_wp2_with fail
    clear ac0 ac1 ac2 ac3 ac4
    with_reducible refine (HC5.out _ _ HHa.out.isR).mono ?_
    rintro e107 w107 ⟨rfl, hb107⟩
    have HB107 := Lib.hid (Bel.call HB106.out hb107)
    replace HHa := Lib.hid (HHa.out.call hb107)
    replace HHb := Lib.hid (HHb.out.call hb107)
    replace HHc := Lib.hid (HHc.out.call hb107)
    clear hb107
    dsimp only
    obtain ⟨⟨ac0, ac1, ac2, ac3, ac4, _⟩, _, _⟩ := HHa.out
    go_wp2_with fail
    clear ac0 ac1 ac2 ac3 ac4
    with_reducible refine (HC6.out _ _ HHa.out.isR).mono ?_
    rintro e108 w108 ⟨rfl, hb108⟩
    have HB108 := Lib.hid (Bel.call HB107.out hb108)
    replace HHa := Lib.hid (HHa.out.call hb108)
    replace HHb := Lib.hid (HHb.out.call hb108)
    replace HHc := Lib.hid (HHc.out.call hb108)
    clear hb108
    dsimp only
    obtain ⟨⟨ac0, ac1, ac2, ac3, ac4, _⟩, _, _⟩ := HHa.out
    go_wp2_with fail
    clear ac0 ac1 ac2 ac3 ac4
    with_reducible refine (HZZ.out _).mono ?_
    rintro e109 w109 ⟨rfl, hb109⟩
    have HB109 := Lib.hid (Bel.call HB108.out hb109)
    replace HHa := Lib.hid (HHa.out.call hb109)
    replace HHb := Lib.hid (HHb.out.call hb109)
    replace HHc := Lib.hid (HHc.out.call hb109)
    clear hb109
    dsimp only
    go_wp2
    go_ret
    exact ⟨rfl, HB109.out⟩
end Go.Proofs.Ytjikepfgfbnheaa.Rig
