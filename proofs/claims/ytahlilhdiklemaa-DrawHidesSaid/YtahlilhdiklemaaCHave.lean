/-
  CONTRACTS of the code's have, make (package closure). By an AI agent; no person has read it.
-/
import Derived.Test.YtahlilhdiklemaaCMind
namespace Go.Proofs.Ytahlilhdiklemaa.Clo
open Go.RowKit Wire Term

set_option maxHeartbeats 2000000 in
set_option maxRecDepth 1000000 in
theorem have_any (lv base pb : Nat) (hlv : 4 ≤ lv) (X : Nat → Prop) (K : List Tm) (F : Tm → Fa) (N : List Tm) (s : ByteArray) (w : World) (h : MindX lv base pb X K F N w) (hs : s.size ≤ 4000) (ht : s.data.toList ∈ K) (hK : K.length ≤ 100000000) (hN : N.length ≤ 100000000) :
    Calls Try.prog 44 #[.pointer (some ⟨pb, 0, none⟩), .string s] w fun e w' => e = .returned (.tuple #[]) ∧ MindX lv base pb X K (hvF F s.data.toList) (hvN F N s.data.toList) w' ∧ Below base w w' ∧ Kp X w w' := by
  obtain ⟨mb, own, nv, V, hm, hx⟩ := h
  have HX := Lib.hid hx
  clear hx
  obtain ⟨pv, iv, ov, hv, hp, hi, ho⟩ := hm.rows _ ht
  have hlt := hm.pb_lt
  have hbs := hm.size
  have c0 := hm.cell0
  have hrun := hm.map.look hs ht
  rw [hv] at hrun
  unfold fv at hrun
  obtain ⟨pa, pc, rfl⟩ := hp.form
  obtain ⟨ia, ic, rfl⟩ := hi.form
  obtain ⟨oa, oc, rfl⟩ := ho.form
  obtain ⟨na, nc, rfl⟩ := hm.next.form
  have HM := Lib.hid hm
  have HT : Hid (s.data.toList ∈ K) := ht
  obtain ⟨t, et⟩ : ∃ t, s.data.toList = t := ⟨_, rfl⟩
  have HV : Hid (V t = fv t (F t) (.slice pa (pts t).length pc) (.slice ia (F t).2.2.1.length ic) (.slice oa (F t).2.2.2.length oc)) := by subst et; exact hv
  rw [et] at hrun ⊢
  obtain ⟨kb, ek⟩ : ∃ kb : Int, ((t.headD 0).toNat : Int) = kb := ⟨_, rfl⟩
  rw [ek] at hrun
  have EK := Lib.hid ek
  have ET := Lib.hid et
  obtain ⟨i0, hi0, hz0, hz1, hz2⟩ := info_parts str_info
  cases hh : (F t).1 with
  | true =>
    rw [hh] at hrun
    have HH := Lib.hid hh
    clear hm ht hv hp hi ho hh ek et
    go_enter Try.func44, Try.ntmps44
    go_wp2
    refine bodyPost_ret (results_none rfl _ _ _) rfl ?_
    have HZ := MindX.below (X := X) (w' := w.alloc (.cells #[.int .u8 kb, .slice pa (pts t).length pc, .bool true, .bool (F t).2.1, .slice ia (F t).2.2.1.length ic, .slice oa (F t).2.2.2.length oc] 56)) ⟨_, _, _, _, HM.out, HX.out⟩ ((Below.refl _ _).alloc (Nat.le_refl _) _)
    refine ⟨rfl, ?_, (Below.refl _ _).alloc hbs _, HZ.2⟩
    unfold hvF hvN
    rw [if_pos HH.out, if_pos HH.out]
    exact HZ.1
  | false =>
    rw [hh] at hrun
    have HH := Lib.hid hh
    clear hm ht hv hp hi ho hh ek et
    go_enter Try.func44, Try.ntmps44
    go_wp2
    refine wp_still_drew 6 (by kernel_rfl) (by kernel_rfl) ?_
    simp only [List.take_succ_cons, List.take_zero, List.drop_succ_cons, List.drop_zero]
    repeat still_step
    refine wpStill_nil ?_
    have HB1 : Hid (Below w.heap.size w (w.alloc (.cells #[.int .u8 kb, .slice pa (pts t).length pc, .bool true, .bool true, .slice ia (F t).2.2.1.length ic, .slice oa (F t).2.2.2.length oc] 56)).drew) := ((Below.refl _ _).alloc (Nat.le_refl _) _).drew
    have HM1 := Lib.hid (HM.out.move (mv_below (g := (7, [])) HB1.out) (by omega))
    refine wpList_put_old (val := .agg #[.int .u8 kb, .slice pa (pts t).length pc, .bool true, .bool true, .slice ia (F t).2.2.1.length ic, .slice oa (F t).2.2.2.length oc]) rfl _ _ _ rfl rfl HM1.out.map rfl hs HT.out (by simp only [maxLen]; omega) rfl ?_
    intro w2 hm2 hg2
    rw [ET.out] at hm2
    have HM2 := Lib.hid (HM1.out.put hg2 hm2 (HM1.out.rows.mark (b1 := true) (b2 := true) HV.out (by have := HT.out; rw [ET.out] at this; exact this) (by unfold fv; rw [EK.out])))
    have HB2 : Hid (Below base w w2) := (HB1.out.mono hbs).grown hg2 HM1.out.size (fun k e => by rw [← Option.some.inj e]; exact HM.out.mbT.2)
    have HK2 : Hid (∀ b, X b → b < w2.heap.size ∧ w2.heap[b]? = w.heap[b]?) := fun b hb => by
      obtain ⟨x1, x2⟩ := HX.out b hb
      have x3 := Nat.lt_of_lt_of_le x1 HB1.out.size
      exact ⟨Nat.lt_of_lt_of_le x3 hg2.size, (hg2.block b x3 (fun e => tag6 x2 (by omega) ((congrArg own (Option.some.inj e)).trans HM.out.mbT.1))).trans (HB1.out.block b x1)⟩
    clear hm2 hg2 hrun
    obtain ⟨ys, hys, hown, hT⟩ := HM2.out.next
    have HTT := Lib.hid hT
    clear hT
    have HYS := Lib.hid hys
    have HO := Lib.hid hown
    have hyl : ys.length = N.length := by rw [← bl_len, hys]
    have hnc := HM2.out.off HM2.out.next (by decide)
    have d1 := HM2.out.cell1
    have d2 := HM2.out.soft 1
    have d3 := HM2.out.pb_lt
    have d4 := HM2.out.size
    clear hown hys c0
    go_wp2_with (
      at_builtin
      refine wpList_append_lies _ rfl _ _ _ rfl base 9 i0 _ 1 16 Try.underlying38 hi0 hz0 hz1 hz2 rfl (by decide) _ ys.length (sv ys) rfl (HO.out.alloc _) _ 1 1 [.string s] rfl rfl (lit_cells _ _ _) (sv_one [s]) (by decide) (by simp only [maxLen]; omega) (by omega) ?h6 _ rfl ?_
      case h6 =>
        simp only [World.alloc, Array.size_push]
        omega
      intro gg cap2 w6 hown6 hgrow6 hat6 hlt6
      have HO6 := Lib.hid hown6
      have HG6 := Lib.hid hgrow6
      have HAT6 := Lib.hid hat6
      have e1 := (hgrow6.cell (a := ⟨pb, 1, none⟩) (by rw [World.cell?_alloc_past _ _ _ d3]; exact d1) hnc)
      have e2 : w6.frozen? ⟨pb, 1, none⟩ = false := by
        rw [World.frozen?_of_block (a := ⟨pb, 1, none⟩) (hgrow6.block pb (by simp only [World.alloc, Array.size_push]; omega) hnc), World.frozen?_alloc_past _ _ _ d3]; exact d2
      clear hown6 hgrow6 hat6)
    go_end0
    have HP := (HM2.out.move (mv_alloc (7, []) own w2 (.cells #[.string s] 9)) (by omega)).push HYS.out HO6.out HG6.out HAT6.out
    rw [hyl, ET.out] at HP
    have M6 := mv_row HG6.out HTT.out HAT6.out
    have hsz : (w2.alloc (.cells #[.string s] 9)).heap.size = w2.heap.size + 1 := by simp
    have HKX : ∀ b, X b → (b < w6.heap.size ∧ w6.heap[b]? = w.heap[b]?) ∧ lv ≤ (setT own gg (3, []) b).1 := fun b hb => by
      obtain ⟨x1, x2⟩ := HK2.out b hb
      obtain ⟨y1, y2⟩ := M6.2 b (by omega) (tag6 (HX.out b hb).2 (by omega))
      exact ⟨⟨Nat.lt_of_lt_of_le x1 (by have := M6.1; omega), y2.trans (((MapKept.heap_alloc w2 _).2 b x1).trans x2)⟩, by rw [y1]; exact (HX.out b hb).2⟩
    refine ⟨rfl, ?_, ((HB2.out.alloc d4 _).grown HG6.out (by simp only [World.alloc, Array.size_push]; omega) fun k e => (HO.out.lt k e).1).setCell HM2.out.pbT.2 _, fun b hb => (Below.heap_setCell _ _ _ _ (fun e => tag6 (HX.out b hb).2 (by omega) ((congrArg own e).trans HM.out.pbT.1))).trans (HKX b hb).1.2⟩
    unfold hvF hvN
    rw [if_neg (by rw [HH.out]; decide), if_neg (by rw [HH.out]; decide)]
    exact ⟨_, _, _, _, HP, fun b hb => ⟨by have := (HKX b hb).1.1; simpa [World.setCell] using this, (HKX b hb).2⟩⟩
set_option maxHeartbeats 2000000 in
set_option maxRecDepth 1000000 in
theorem make_any (lv base pb : Nat) (hlv : 4 ≤ lv) (X : Nat → Prop) (K : List Tm) (F : Tm → Fa) (N : List Tm) (s : ByteArray) (w : World) (h : MindX lv base pb X K F N w) (hs : s.size ≤ 4000) (ht : s.data.toList ∈ K) (hK : K.length ≤ 100000000) (hN : N.length ≤ 100000000) :
    Calls Try.prog 49 #[.pointer (some ⟨pb, 0, none⟩), .string s] w fun e w' => e = .returned (.tuple #[]) ∧ MindX lv base pb X K (mkF F s.data.toList) (mkN F N s.data.toList) w' ∧ Below base w w' ∧ Kp X w w' := by
  obtain ⟨mb, own, nv, V, hm, hx⟩ := h
  have HX := Lib.hid hx
  clear hx
  obtain ⟨pv, iv, ov, hv, hp, hi, ho⟩ := hm.rows _ ht
  have hlt := hm.pb_lt
  have hbs := hm.size
  have c0 := hm.cell0
  have hrun := hm.map.look hs ht
  rw [hv] at hrun
  unfold fv at hrun
  obtain ⟨pa, pc, rfl⟩ := hp.form
  obtain ⟨ia, ic, rfl⟩ := hi.form
  obtain ⟨oa, oc, rfl⟩ := ho.form
  obtain ⟨na, nc, rfl⟩ := hm.next.form
  have HM := Lib.hid hm
  have HT : Hid (s.data.toList ∈ K) := ht
  obtain ⟨t, et⟩ : ∃ t, s.data.toList = t := ⟨_, rfl⟩
  have HV : Hid (V t = fv t (F t) (.slice pa (pts t).length pc) (.slice ia (F t).2.2.1.length ic) (.slice oa (F t).2.2.2.length oc)) := by subst et; exact hv
  rw [et] at hrun ⊢
  obtain ⟨kb, ek⟩ : ∃ kb : Int, ((t.headD 0).toNat : Int) = kb := ⟨_, rfl⟩
  rw [ek] at hrun
  have EK := Lib.hid ek
  have ET := Lib.hid et
  obtain ⟨i0, hi0, hz0, hz1, hz2⟩ := info_parts str_info
  cases hh : (F t).2.1 with
  | true =>
    rw [hh] at hrun
    have HH := Lib.hid hh
    clear hm ht hv hp hi ho hh ek et
    go_enter Try.func49, Try.ntmps49
    go_wp2
    refine bodyPost_ret (results_none rfl _ _ _) rfl ?_
    have HZ := MindX.below (X := X) (w' := w.alloc (.cells #[.int .u8 kb, .slice pa (pts t).length pc, .bool (F t).1, .bool true, .slice ia (F t).2.2.1.length ic, .slice oa (F t).2.2.2.length oc] 56)) ⟨_, _, _, _, HM.out, HX.out⟩ ((Below.refl _ _).alloc (Nat.le_refl _) _)
    refine ⟨rfl, ?_, (Below.refl _ _).alloc hbs _, HZ.2⟩
    unfold mkF mkN
    rw [if_pos HH.out, if_pos HH.out]
    exact HZ.1
  | false =>
    rw [hh] at hrun
    have HH := Lib.hid hh
    clear hm ht hv hp hi ho hh ek et
    go_enter Try.func49, Try.ntmps49
    go_wp2
    refine wp_still_drew 6 (by kernel_rfl) (by kernel_rfl) ?_
    simp only [List.take_succ_cons, List.take_zero, List.drop_succ_cons, List.drop_zero]
    repeat still_step
    refine wpStill_nil ?_
    have HB1 : Hid (Below w.heap.size w (w.alloc (.cells #[.int .u8 kb, .slice pa (pts t).length pc, .bool (F t).1, .bool true, .slice ia (F t).2.2.1.length ic, .slice oa (F t).2.2.2.length oc] 56)).drew) := ((Below.refl _ _).alloc (Nat.le_refl _) _).drew
    have HM1 := Lib.hid (HM.out.move (mv_below (g := (7, [])) HB1.out) (by omega))
    refine wpList_put_old (val := .agg #[.int .u8 kb, .slice pa (pts t).length pc, .bool (F t).1, .bool true, .slice ia (F t).2.2.1.length ic, .slice oa (F t).2.2.2.length oc]) rfl _ _ _ rfl rfl HM1.out.map rfl hs HT.out (by simp only [maxLen]; omega) rfl ?_
    intro w2 hm2 hg2
    rw [ET.out] at hm2
    have HM2 := Lib.hid (HM1.out.put hg2 hm2 (HM1.out.rows.mark (b1 := (F t).1) (b2 := true) HV.out (by have := HT.out; rw [ET.out] at this; exact this) (by unfold fv; rw [EK.out])))
    have HB2 : Hid (Below base w w2) := (HB1.out.mono hbs).grown hg2 HM1.out.size (fun k e => by rw [← Option.some.inj e]; exact HM.out.mbT.2)
    have HK2 : Hid (∀ b, X b → b < w2.heap.size ∧ w2.heap[b]? = w.heap[b]?) := fun b hb => by
      obtain ⟨x1, x2⟩ := HX.out b hb
      have x3 := Nat.lt_of_lt_of_le x1 HB1.out.size
      exact ⟨Nat.lt_of_lt_of_le x3 hg2.size, (hg2.block b x3 (fun e => tag6 x2 (by omega) ((congrArg own (Option.some.inj e)).trans HM.out.mbT.1))).trans (HB1.out.block b x1)⟩
    clear hm2 hg2 hrun
    obtain ⟨ys, hys, hown, hT⟩ := HM2.out.next
    have HTT := Lib.hid hT
    clear hT
    have HYS := Lib.hid hys
    have HO := Lib.hid hown
    have hyl : ys.length = N.length := by rw [← bl_len, hys]
    have hnc := HM2.out.off HM2.out.next (by decide)
    have d1 := HM2.out.cell1
    have d2 := HM2.out.soft 1
    have d3 := HM2.out.pb_lt
    have d4 := HM2.out.size
    clear hown hys c0
    go_wp2_with (
      at_builtin
      refine wpList_append_lies _ rfl _ _ _ rfl base 9 i0 _ 1 16 Try.underlying38 hi0 hz0 hz1 hz2 rfl (by decide) _ ys.length (sv ys) rfl (HO.out.alloc _) _ 1 1 [.string s] rfl rfl (lit_cells _ _ _) (sv_one [s]) (by decide) (by simp only [maxLen]; omega) (by omega) ?h6 _ rfl ?_
      case h6 =>
        simp only [World.alloc, Array.size_push]
        omega
      intro gg cap2 w6 hown6 hgrow6 hat6 hlt6
      have HO6 := Lib.hid hown6
      have HG6 := Lib.hid hgrow6
      have HAT6 := Lib.hid hat6
      have e1 := (hgrow6.cell (a := ⟨pb, 1, none⟩) (by rw [World.cell?_alloc_past _ _ _ d3]; exact d1) hnc)
      have e2 : w6.frozen? ⟨pb, 1, none⟩ = false := by
        rw [World.frozen?_of_block (a := ⟨pb, 1, none⟩) (hgrow6.block pb (by simp only [World.alloc, Array.size_push]; omega) hnc), World.frozen?_alloc_past _ _ _ d3]; exact d2
      clear hown6 hgrow6 hat6)
    go_end0
    have HP := (HM2.out.move (mv_alloc (7, []) own w2 (.cells #[.string s] 9)) (by omega)).push HYS.out HO6.out HG6.out HAT6.out
    rw [hyl, ET.out] at HP
    have M6 := mv_row HG6.out HTT.out HAT6.out
    have hsz : (w2.alloc (.cells #[.string s] 9)).heap.size = w2.heap.size + 1 := by simp
    have HKX : ∀ b, X b → (b < w6.heap.size ∧ w6.heap[b]? = w.heap[b]?) ∧ lv ≤ (setT own gg (3, []) b).1 := fun b hb => by
      obtain ⟨x1, x2⟩ := HK2.out b hb
      obtain ⟨y1, y2⟩ := M6.2 b (by omega) (tag6 (HX.out b hb).2 (by omega))
      exact ⟨⟨Nat.lt_of_lt_of_le x1 (by have := M6.1; omega), y2.trans (((MapKept.heap_alloc w2 _).2 b x1).trans x2)⟩, by rw [y1]; exact (HX.out b hb).2⟩
    refine ⟨rfl, ?_, ((HB2.out.alloc d4 _).grown HG6.out (by simp only [World.alloc, Array.size_push]; omega) fun k e => (HO.out.lt k e).1).setCell HM2.out.pbT.2 _, fun b hb => (Below.heap_setCell _ _ _ _ (fun e => tag6 (HX.out b hb).2 (by omega) ((congrArg own e).trans HM.out.pbT.1))).trans (HKX b hb).1.2⟩
    unfold mkF mkN
    rw [if_neg (by rw [HH.out]; decide), if_neg (by rw [HH.out]; decide)]
    exact ⟨_, _, _, _, HP, fun b hb => ⟨by have := (HKX b hb).1.1; simpa [World.setCell] using this, (HKX b hb).2⟩⟩
end Go.Proofs.Ytahlilhdiklemaa.Clo
