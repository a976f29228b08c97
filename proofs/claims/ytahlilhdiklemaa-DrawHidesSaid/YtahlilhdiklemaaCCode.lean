/-
  WHAT THE LANDED CODE ANSWERS (package closure): the contracts of its Apart and its Derives. By an AI agent; no person has read it.
-/
import Derived.Test.YtahlilhdiklemaaCSpec
import Derived.Test.YtahlilhdiklemaaCHold
namespace Go.Proofs.Ytahlilhdiklemaa.Clo
open Go.RowKit Wire Term

theorem ck_wrong {l : List Tm} (h : l.all right = false) : ckV l = 1 ∧ ∃ x ∈ l, right x = false := by
  refine ⟨by unfold ckV; rw [if_pos h], ?_⟩
  rw [List.all_eq_false] at h
  obtain ⟨x, hx, h⟩ := h
  exact ⟨x, hx, by simpa using h⟩
theorem ck_right {l : List Tm} (h : l.all right = true) : ∀ x ∈ l, right x = true := fun x hx => by
  have := List.all_eq_true.1 h x hx
  simpa using this
/-- The work begins. -/
theorem work_starts {held K : List Tm} {F : Tm → Fa} {N : List Tm} {B : Nat} (h : Ln held K F N []) (hb : Bd B K F N) (hB : B ≤ 20000000) (hh : ∀ x ∈ held, (F x).1 = true) : Wk held K F N ∧ K.length ≤ 100000000 ∧ N.length + uns F K ≤ 99999990 := by
  have h1 := hb.1
  have h2 := hb.2.2
  have h3 := uns_le F K
  exact ⟨wk_start h hh, by omega, by omega⟩
set_option maxHeartbeats 8000000 in
set_option maxRecDepth 1000000 in
theorem derives_ok : DerivesOK := fun a c ys t w hr hc hn hz ht => by
  have HCK := Lib.hid (check_any a c ys w hr hn hz)
  have HR := Lib.hid hr
  clear hr hz
  cases hall : (bl ys).all right with
  | false =>
    obtain ⟨e1, e2⟩ := ck_wrong hall
    rw [e1] at HCK
    have HE := Lib.hid e2
    clear e2 hall e1
    go_enter Try.func19, Try.ntmps19
    go_wp2_with fail
    refine HCK.out.mono ?_
    rintro e w1 ⟨rfl, hb1⟩
    have HB1 := Lib.hid hb1
    clear hb1 HCK
    dsimp only
    go_wp2
    go_ret2
    exact ⟨⟨false, 1, .inl ⟨HE.out, rfl, rfl⟩, rfl⟩, HB1.out⟩
  | true =>
    have HALL := Lib.hid (ck_right hall)
    by_cases h200 : 200 < ys.length
    · have e1 : ckV (bl ys) = 10 := by unfold ckV; rw [if_neg (by rw [hall]; decide), if_pos (by rw [bl_len]; exact h200)]
      rw [e1] at HCK
      clear hall e1
      go_enter Try.func19, Try.ntmps19
      go_wp2_with fail
      refine HCK.out.mono ?_
      rintro e w1 ⟨rfl, hb1⟩
      have HB1 := Lib.hid hb1
      clear hb1 HCK
      dsimp only
      go_wp2
      go_ret2
      exact ⟨⟨false, 10, .inr (.inl ⟨HALL.out, by rw [bl_len]; exact h200, rfl, rfl⟩), rfl⟩, HB1.out⟩
    · have e1 : ckV (bl ys) = 0 := by unfold ckV; rw [if_neg (by rw [hall]; decide), if_neg (by rw [bl_len]; exact h200)]
      rw [e1] at HCK
      clear hall e1
      cases hrt : right t.data.toList with
      | false =>
        have HRT := Lib.hid hrt
        clear hrt
        go_enter Try.func19, Try.ntmps19
        go_wp2_with fail
        refine HCK.out.mono ?_
        rintro e w1 ⟨rfl, hb1⟩
        have HB1 := Lib.hid hb1
        clear hb1 HCK
        dsimp only
        go_wp2_with fail
        refine (t_Kind t _ ht).mono ?_
        rw [kind_zero HRT.out]
        rintro e w2 ⟨rfl, hb2⟩
        have HB2 := Lib.hid (HB1.out.trans (hb2.mono HB1.out.size))
        clear hb2
        dsimp only
        go_wp2
        go_ret2
        exact ⟨⟨false, 1, .inr (.inr (.inl ⟨HALL.out, by rw [bl_len]; omega, HRT.out, rfl, rfl⟩)), rfl⟩, HB2.out⟩
      | true =>
        have HRT := Lib.hid hrt
        obtain ⟨kd, hkd⟩ : ∃ kd, kind t.data.toList = kd := ⟨_, rfl⟩
        have hk0 : ¬ ((kd : Nat) : Int) = 0 := by have := kind_pos hrt; omega
        have htl := (right_len hrt).2
        have hts : t.size ≤ 4000 := by rw [Lib.size_eq]; exact htl
        have q1 := field_made
        clear hrt
        go_enter Try.func19, Try.ntmps19
        go_wp2_with fail
        refine HCK.out.mono ?_
        rintro e w1 ⟨rfl, hb1⟩
        have HB1 := Lib.hid hb1
        have HR1 := Lib.hid (HR.out.below hb1 (Nat.le_refl _))
        clear hb1 HCK
        dsimp only
        go_wp2_with fail
        refine (t_Kind t _ ht).mono ?_
        rw [hkd]
        rintro e w2 ⟨rfl, hb2⟩
        have HB2 := Lib.hid (HB1.out.trans (hb2.mono HB1.out.size))
        have HR2 := Lib.hid (HR1.out.below hb2 (Nat.le_refl _))
        clear hb2 hkd
        dsimp only
        go_wp2_with fail
        refine (hold_any a c ys _ HR2.out (by omega) HALL.out).mono ?_
        rintro e w3 ⟨pb, K, F, N, rfl, hm3, hl3, hbd3, hh3, hb3⟩
        have HB3 := Lib.hid (HB2.out.trans (hb3.mono HB2.out.size))
        have HH3 := Lib.hid hh3
        have HLE := Lib.hid (learn_any (bl ys) w2.heap.size pb _ t (Nat.lt_succ_self _) HRT.out (fun _ => False) K F N [] (ys.length * 16001) w3 hm3 hl3 (fun a h => (List.not_mem_nil h).elim) hbd3 (by omega))
        have hws : w.heap.size ≤ w2.heap.size := HB2.out.size
        clear hm3 hl3 hbd3 hh3 hb3
        dsimp only
        go_wp2_with fail
        refine HLE.out.mono ?_
        rintro e w4 ⟨rfl, hb4, _, K4, F4, N4, hm4, hr4⟩
        obtain ⟨hw, hK, hM⟩ := work_starts hr4.ln hr4.bd (by omega) (fun x hx => by rw [hr4.same x]; exact HH3.out x hx)
        have HM4 := Lib.hid (hm4.lv (lv' := 4))
        have HW := Lib.hid hw
        have HB4 := Lib.hid (HB3.out.trans (hb4.mono hws))
        have HTK : Hid (t.data.toList ∈ K4) := hr4.here
        clear hm4 hr4 hb4 hw HLE
        dsimp only
        go_wp2_with fail
        refine (settle_any (bl ys) w2.heap.size pb _ K4 F4 N4 _ HM4.out HW.out hK hM).mono ?_
        rintro e w5 ⟨rfl, hb5, _, F5, hm5, hw5⟩
        obtain ⟨mb, kb, a2, c2, ys2, ia2, oa2, ic2, oc2, c0, hlt2, hbs2, _, _, _, _, _, hrun⟩ := hm5.look (by decide) hts HTK.out
        have HW5 := Lib.hid hw5
        have HB5 := Lib.hid (HB4.out.trans (hb5.mono hws))
        clear hm5 hb5 hw5
        dsimp only
        go_wp2
        go_ret2
        exact ⟨⟨_, 0, .inr (.inr (.inr ⟨HALL.out, by rw [bl_len]; omega, HRT.out, rfl, wk_der HW5.out HTK.out⟩)), rfl⟩, HB5.out⟩
end Go.Proofs.Ytahlilhdiklemaa.Clo
