/-
  CONTRACTS of the code's standsIn, isKeyTo (package closure). By an AI agent; no person has read it.
-/
import Derived.Test.YtahlilhdiklemaaCMind
namespace Go.Proofs.Ytahlilhdiklemaa.Clo
open Go.RowKit Wire Term

section
variable {base pb mb : Nat} {own : Nat → Tag} {nv : Value} {K : List Tm} {F : Tm → Fa} {N : List Tm} {V : Tm → Value} {w : World}
/-- A term is written down with another one. -/
theorem Mind.stand (h : Mind base pb mb own nv K F N V w) {p : Tm} {s : ByteArray} {pv iv ov : Value} {ys : List ByteArray} {g cap : Nat} {w3 w4 w5 : World} (hp : IsParts w own pv (pts p)) (hy : bl ys = (F p).2.2.1) (hT : ∀ b, iv.ownBlock = some b → own b = (4, p)) (ho : IsRow w base own ov (5, p) (F p).2.2.2)
    (hown : w3.ownsRow base 9 1 (.slice (some ⟨g, 0, none⟩) (ys.length + 1) cap) (ys.length + 1) (sv ys ++ [.string s])) (hgrow : w.grownBy w3 iv.ownBlock) (hat : iv.ownBlock = some g ∨ g = w.heap.size)
    (m3 : Mv (7, []) (setT own g (4, p)) (setT own g (4, p)) w3 w4) (hg : w4.grownBy w5 (some mb)) (hmap : MapIs w5 mb K (updV V p (fv p (F p) pv (.slice (some ⟨g, 0, none⟩) (ys.length + 1) cap) ov))) :
    Mind base pb mb (setT own g (4, p)) nv K (inF F p s.data.toList) N (updV V p (fv p (F p) pv (.slice (some ⟨g, 0, none⟩) (ys.length + 1) cap) ov)) w5 := by
  have m2 : Mv (4, p) own (setT own g (4, p)) w w3 := mv_row hgrow hT hat
  have a1 := m2.2 pb h.pb_lt (by rw [h.pbT.1]; exact tag_ne (by decide))
  have a2 := m3.2 pb (Nat.lt_of_lt_of_le h.pb_lt m2.1) (by rw [a1.1, h.pbT.1]; exact tag_ne (by decide))
  have b1 := m2.2 mb h.map.lt (by rw [h.mbT.1]; exact tag_ne (by decide))
  have hmT : setT own g (4, p) mb = (2, []) := b1.1.trans h.mbT.1
  have m4 : Mv (2, []) (setT own g (4, p)) (setT own g (4, p)) w4 w5 := by
    have := mv_grown (own := setT own g (4, p)) hg
    rw [hmT] at this; exact this
  have a3 := m4.2 pb (Nat.lt_of_lt_of_le (Nat.lt_of_lt_of_le h.pb_lt m2.1) m3.1) (by rw [a1.1, h.pbT.1]; exact tag_ne (by decide))
  refine ⟨a3.2.trans (a2.2.trans (a1.2.trans h.here)), ⟨a1.1.trans h.pbT.1, h.pbT.2⟩, ⟨hmT, h.mbT.2⟩, hmap, ((h.next.move m2 (tag_ne (by decide))).move m3 (tag_ne (by decide))).move m4 (tag_ne (by decide)), fun y hyK => ?_⟩
  by_cases e : y = p
  · subst e
    refine ⟨pv, .slice (some ⟨g, 0, none⟩) (ys.length + 1) cap, ov, ?_, ((hp.move m2 (tag_ne (by decide))).move m3 (tag_ne (by decide))).move m4 (tag_ne (by decide)), ?_, ?_⟩
    · rw [updV_same, inF, upd_same]; rfl
    · rw [inF, upd_same]
      refine IsRow.move (w := w4) (IsRow.move (w := w3) ⟨ys ++ [s], by rw [bl_app', hy], ?_, fun b hb => ?_⟩ m3 (tag_ne (by decide))) m4 (tag_ne (by decide))
      · rw [List.length_append, List.length_singleton]
        simpa [sv] using hown
      · have : g = b := Option.some.inj hb
        rw [← this, setT_same]
    · rw [inF, upd_same]
      exact ((ho.move m2 (tag_ne (by decide))).move m3 (tag_ne (by decide))).move m4 (tag_ne (by decide))
  · obtain ⟨pv', iv', ov', h1, h2, h3, h4⟩ := h.rows y hyK
    rw [updV_other _ _ e, inF, upd_other _ _ e]
    have ne4 : ((4, y) : Tag) ≠ (4, p) := fun e2 => e (congrArg Prod.snd e2)
    exact ⟨pv', iv', ov', h1, ((h2.move m2 (tag_ne (by decide))).move m3 (tag_ne (by decide))).move m4 (tag_ne (by decide)), ((h3.move m2 ne4).move m3 (tag_ne (by decide))).move m4 (tag_ne (by decide)),
      ((h4.move m2 (tag_ne (by decide))).move m3 (tag_ne (by decide))).move m4 (tag_ne (by decide))⟩
/-- A term is written down with its key. -/
theorem Mind.open (h : Mind base pb mb own nv K F N V w) {p : Tm} {s : ByteArray} {pv iv ov : Value} {ys : List ByteArray} {g cap : Nat} {w3 w4 w5 : World} (hp : IsParts w own pv (pts p)) (hy : bl ys = (F p).2.2.2) (hT : ∀ b, ov.ownBlock = some b → own b = (5, p)) (ho : IsRow w base own iv (4, p) (F p).2.2.1)
    (hown : w3.ownsRow base 9 1 (.slice (some ⟨g, 0, none⟩) (ys.length + 1) cap) (ys.length + 1) (sv ys ++ [.string s])) (hgrow : w.grownBy w3 ov.ownBlock) (hat : ov.ownBlock = some g ∨ g = w.heap.size)
    (m3 : Mv (7, []) (setT own g (5, p)) (setT own g (5, p)) w3 w4) (hg : w4.grownBy w5 (some mb)) (hmap : MapIs w5 mb K (updV V p (fv p (F p) pv iv (.slice (some ⟨g, 0, none⟩) (ys.length + 1) cap)))) :
    Mind base pb mb (setT own g (5, p)) nv K (opF F p s.data.toList) N (updV V p (fv p (F p) pv iv (.slice (some ⟨g, 0, none⟩) (ys.length + 1) cap))) w5 := by
  have m2 : Mv (5, p) own (setT own g (5, p)) w w3 := mv_row hgrow hT hat
  have a1 := m2.2 pb h.pb_lt (by rw [h.pbT.1]; exact tag_ne (by decide))
  have a2 := m3.2 pb (Nat.lt_of_lt_of_le h.pb_lt m2.1) (by rw [a1.1, h.pbT.1]; exact tag_ne (by decide))
  have b1 := m2.2 mb h.map.lt (by rw [h.mbT.1]; exact tag_ne (by decide))
  have hmT : setT own g (5, p) mb = (2, []) := b1.1.trans h.mbT.1
  have m4 : Mv (2, []) (setT own g (5, p)) (setT own g (5, p)) w4 w5 := by
    have := mv_grown (own := setT own g (5, p)) hg
    rw [hmT] at this; exact this
  have a3 := m4.2 pb (Nat.lt_of_lt_of_le (Nat.lt_of_lt_of_le h.pb_lt m2.1) m3.1) (by rw [a1.1, h.pbT.1]; exact tag_ne (by decide))
  refine ⟨a3.2.trans (a2.2.trans (a1.2.trans h.here)), ⟨a1.1.trans h.pbT.1, h.pbT.2⟩, ⟨hmT, h.mbT.2⟩, hmap, ((h.next.move m2 (tag_ne (by decide))).move m3 (tag_ne (by decide))).move m4 (tag_ne (by decide)), fun y hyK => ?_⟩
  by_cases e : y = p
  · subst e
    refine ⟨pv, iv, .slice (some ⟨g, 0, none⟩) (ys.length + 1) cap, ?_, ((hp.move m2 (tag_ne (by decide))).move m3 (tag_ne (by decide))).move m4 (tag_ne (by decide)), ?_, ?_⟩
    · rw [updV_same, opF, upd_same]; rfl
    · rw [opF, upd_same]
      exact ((ho.move m2 (tag_ne (by decide))).move m3 (tag_ne (by decide))).move m4 (tag_ne (by decide))
    · rw [opF, upd_same]
      refine IsRow.move (w := w4) (IsRow.move (w := w3) ⟨ys ++ [s], by rw [bl_app', hy], ?_, fun b hb => ?_⟩ m3 (tag_ne (by decide))) m4 (tag_ne (by decide))
      · rw [List.length_append, List.length_singleton]
        simpa [sv] using hown
      · have : g = b := Option.some.inj hb
        rw [← this, setT_same]
  · obtain ⟨pv', iv', ov', h1, h2, h3, h4⟩ := h.rows y hyK
    rw [updV_other _ _ e, opF, upd_other _ _ e]
    have ne4 : ((5, y) : Tag) ≠ (5, p) := fun e2 => e (congrArg Prod.snd e2)
    exact ⟨pv', iv', ov', h1, ((h2.move m2 (tag_ne (by decide))).move m3 (tag_ne (by decide))).move m4 (tag_ne (by decide)), ((h3.move m2 (tag_ne (by decide))).move m3 (tag_ne (by decide))).move m4 (tag_ne (by decide)),
      ((h4.move m2 ne4).move m3 (tag_ne (by decide))).move m4 (tag_ne (by decide))⟩
end
set_option maxHeartbeats 4000000 in
set_option maxRecDepth 1000000 in
theorem stands_any (base pb : Nat) (X : Nat → Prop) (K : List Tm) (F : Tm → Fa) (N : List Tm) (p s : ByteArray) (w : World) (h : MindX 6 base pb X K F N w) (hs : p.size ≤ 4000) (ht : p.data.toList ∈ K) (hK : K.length ≤ 100000000) (hN : (F p.data.toList).2.2.1.length ≤ 100000000) :
    Calls Try.prog 46 #[.pointer (some ⟨pb, 0, none⟩), .string p, .string s] w fun e w' => e = .returned (.tuple #[]) ∧ MindX 6 base pb X K (inF F p.data.toList s.data.toList) N w' ∧ Below base w w' ∧ Kp X w w' := by
  obtain ⟨mb, own, nv, V, hm, hx⟩ := h
  have HX := Lib.hid hx
  clear hx
  obtain ⟨pv, iv, ov, hv, hp, hi, ho⟩ := hm.rows _ ht
  have hlt := hm.pb_lt
  have hbs := hm.size
  have hne : pb ≠ w.heap.size := by omega
  have c0 := hm.cell0
  have hrun := hm.map.look hs ht
  rw [hv] at hrun
  unfold fv at hrun
  obtain ⟨pa, pc, rfl⟩ := hp.form
  obtain ⟨ia, ic, rfl⟩ := hi.form
  obtain ⟨oa, oc, rfl⟩ := ho.form
  have HM := Lib.hid hm
  have HT : Hid (p.data.toList ∈ K) := ht
  obtain ⟨t, et⟩ : ∃ t, p.data.toList = t := ⟨_, rfl⟩
  rw [et] at hrun hp hi ho hv hN ⊢
  obtain ⟨kb, ek⟩ : ∃ kb : Int, ((t.headD 0).toNat : Int) = kb := ⟨_, rfl⟩
  rw [ek] at hrun
  have EK := Lib.hid ek
  have ET := Lib.hid et
  obtain ⟨i0, hi0, hz0, hz1, hz2⟩ := info_parts str_info
  -- the world ahead of the append, and what is whose in it
  have HB1 : Hid (Mv (7, []) own (setT own w.heap.size (7, [])) w ((w.alloc (.cells #[.int .u8 kb, .slice pa (pts t).length pc, .bool (F t).1, .bool (F t).2.1, .slice ia (F t).2.2.1.length ic, .slice oa (F t).2.2.2.length oc] 56)).alloc (.cells #[.string s] 9))) := by
    have b1 : Below w.heap.size w ((w.alloc (.cells #[.int .u8 kb, .slice pa (pts t).length pc, .bool (F t).1, .bool (F t).2.1, .slice ia (F t).2.2.1.length ic, .slice oa (F t).2.2.2.length oc] 56)).alloc (.cells #[.string s] 9)) := two_new _ _ _
    exact ⟨b1.size, fun b hb _ => ⟨by unfold setT; rw [if_neg (by omega)], b1.block b hb⟩⟩
  have HM1 := Lib.hid (HM.out.move HB1.out (by omega))
  have HP1 := Lib.hid (hp.move HB1.out (tag_ne (by decide)))
  have HI1 := Lib.hid (hi.move HB1.out (tag_ne (by decide)))
  have HO1 := Lib.hid (ho.move HB1.out (tag_ne (by decide)))
  have HBB : Hid (Below base w ((w.alloc (.cells #[.int .u8 kb, .slice pa (pts t).length pc, .bool (F t).1, .bool (F t).2.1, .slice ia (F t).2.2.1.length ic, .slice oa (F t).2.2.2.length oc] 56)).alloc (.cells #[.string s] 9))) := (two_new _ _ _).mono hbs
  have HV : Hid (V t = fv t (F t) (.slice pa (pts t).length pc) (.slice ia (F t).2.2.1.length ic) (.slice oa (F t).2.2.2.length oc)) := hv
  obtain ⟨ys, hys, hown, hT⟩ := HI1.out
  have HYS := Lib.hid hys
  have HO := Lib.hid hown
  have HTT := Lib.hid hT
  have hyl : ys.length = (F t).2.2.1.length := by rw [← bl_len, hys]
  have hoff : some w.heap.size ≠ (Value.slice ia (F t).2.2.1.length ic).ownBlock := fun e => by
    obtain ⟨_, _, h2, _⟩ := hi
    have := (h2.lt _ e.symm).2
    omega
  have hnc := HM1.out.off HI1.out (by decide)
  clear hm ht hv hp hi ho ek et hown hys hT
  go_enter Try.func46, Try.ntmps46
  go_wp2_with (
    at_builtin
    refine wpList_append_lies _ rfl _ _ _ rfl base 9 i0 _ 1 16 Try.underlying38 hi0 hz0 hz1 hz2 rfl (by decide) _ ys.length (sv ys) rfl HO.out _ 1 1 [.string s] rfl rfl (lit_cells_at _ _ _ _ (by simp)) (sv_one [s]) (by decide) (by simp only [maxLen]; omega) (by omega) ?h6 _ rfl ?_
    case h6 => exact HM1.out.size
    intro gg cap2 w6 hown6 hgrow6 hat6 hlt6
    have HO6 := Lib.hid hown6
    have HG6 := Lib.hid hgrow6
    have HAT6 := Lib.hid hat6
    have e0 : w6.cell? ⟨pb, 0, none⟩ = some (.map (some mb)) := hgrow6.cell (a := ⟨pb, 0, none⟩) HM1.out.cell0 hnc
    have k0 := hgrow6.cell (a := ⟨w.heap.size, 0, none⟩) (v := .int .u8 kb) (by rw [World.cell?_alloc_past _ _ _ (by simp), World.cell?_alloc_new]; rfl) hoff
    have k1 := hgrow6.cell (a := ⟨w.heap.size, 1, none⟩) (v := .slice pa (pts t).length pc) (by rw [World.cell?_alloc_past _ _ _ (by simp), World.cell?_alloc_new]; rfl) hoff
    have k2 := hgrow6.cell (a := ⟨w.heap.size, 2, none⟩) (v := .bool (F t).1) (by rw [World.cell?_alloc_past _ _ _ (by simp), World.cell?_alloc_new]; rfl) hoff
    have k3 := hgrow6.cell (a := ⟨w.heap.size, 3, none⟩) (v := .bool (F t).2.1) (by rw [World.cell?_alloc_past _ _ _ (by simp), World.cell?_alloc_new]; rfl) hoff
    have k4 := hgrow6.cell (a := ⟨w.heap.size, 4, none⟩) (v := .slice ia (F t).2.2.1.length ic) (by rw [World.cell?_alloc_past _ _ _ (by simp), World.cell?_alloc_new]; rfl) hoff
    have k5 := hgrow6.cell (a := ⟨w.heap.size, 5, none⟩) (v := .slice oa (F t).2.2.2.length oc) (by rw [World.cell?_alloc_past _ _ _ (by simp), World.cell?_alloc_new]; rfl) hoff
    have e2 : w6.frozen? ⟨w.heap.size, 4, none⟩ = false := by
      rw [World.frozen?_of_block (a := ⟨w.heap.size, 4, none⟩) (hgrow6.block w.heap.size (by simp; omega) hoff), World.frozen?_alloc_past _ _ _ (by simp), World.frozen?_alloc_new]
    clear hown6 hgrow6 hat6)
  have M2 : Mv (4, t) (setT own w.heap.size (7, [])) (setT (setT own w.heap.size (7, [])) gg (4, t)) _ w6 := mv_row HG6.out HTT.out HAT6.out
  have hw7 : setT (setT own w.heap.size (7, [])) gg (4, t) w.heap.size = (7, []) := (M2.2 w.heap.size (by simp; omega) (by rw [setT_same]; exact tag_ne (by decide))).1.trans (setT_same _ _ _)
  have HBX : Hid (Below base w w6) := HBB.out.grown HG6.out HM1.out.size fun k e => (HO.out.lt k e).1
  rw [hyl] at HO6
  obtain ⟨w4, hw4⟩ : ∃ w4, w6.setCell ⟨w.heap.size, 4, none⟩ (.slice (some ⟨gg, 0, none⟩) ((F t).2.2.1.length + 1) cap2) = w4 := ⟨_, rfl⟩
  rw [hw4]
  have M3 : Hid (Mv (7, []) (setT (setT own w.heap.size (7, [])) gg (4, t)) (setT (setT own w.heap.size (7, [])) gg (4, t)) w6 w4.drew) := by
    rw [← hw4]
    exact ⟨by simp [World.setCell], fun b hb hne => ⟨rfl, Below.heap_setCell _ _ _ _ (by rintro rfl; exact hne hw7)⟩⟩
  have HBY : Hid (Below base w w4.drew) := by
    rw [← hw4]
    exact (HBX.out.setCell hbs _).drew
  have f0 : w4.cell? ⟨pb, 0, none⟩ = some (.map (some mb)) := by
    rw [← hw4, cell_block _ _ _ _ hne]; exact e0
  have j0 : w4.cell? ⟨w.heap.size, 0, none⟩ = some (.int .u8 kb) := by rw [← hw4, cell_off _ _ _ (by decide)]; exact k0
  have j1 : w4.cell? ⟨w.heap.size, 1, none⟩ = some (.slice pa (pts t).length pc) := by rw [← hw4, cell_off _ _ _ (by decide)]; exact k1
  have j2 : w4.cell? ⟨w.heap.size, 2, none⟩ = some (.bool (F t).1) := by rw [← hw4, cell_off _ _ _ (by decide)]; exact k2
  have j3 : w4.cell? ⟨w.heap.size, 3, none⟩ = some (.bool (F t).2.1) := by rw [← hw4, cell_off _ _ _ (by decide)]; exact k3
  have j4 : w4.cell? ⟨w.heap.size, 4, none⟩ = some (.slice (some ⟨gg, 0, none⟩) ((F t).2.2.1.length + 1) cap2) := by rw [← hw4, cell_same _ _ _ _ k4]
  have j5 : w4.cell? ⟨w.heap.size, 5, none⟩ = some (.slice oa (F t).2.2.2.length oc) := by rw [← hw4, cell_off _ _ _ (by decide)]; exact k5
  have HW4 := Lib.hid hw4
  clear hw4 k0 k1 k2 k3 k4 k5 e0 e2 c0 hrun
  have HKX : Hid (∀ b, X b → (b < w4.drew.heap.size ∧ w4.drew.heap[b]? = w.heap[b]?) ∧ 6 ≤ (setT (setT own w.heap.size (7, [])) gg (4, t) b).1) := fun b hb => by
    obtain ⟨x1, x2⟩ := HX.out b hb
    have x3 : 6 ≤ (setT own w.heap.size (7, []) b).1 := by unfold setT; rw [if_neg (by omega)]; exact x2
    obtain ⟨y1, y2⟩ := M2.2 b (by simp; omega) (tag6 x3 (by decide))
    have y3 : b < w6.heap.size := Nat.lt_of_lt_of_le x1 (Nat.le_trans (two_new _ _ _).size M2.1)
    refine ⟨?_, by rw [y1]; exact x3⟩
    rw [← HW4.out]
    exact ⟨by simpa [World.setCell] using y3, (Below.heap_setCell _ _ _ _ (Nat.ne_of_lt x1)).trans (y2.trans ((two_new w _ _).block b x1))⟩
  have HMAP : Hid (MapIs w4.drew mb K V) := by
    have a := M2.2 mb (Nat.lt_of_lt_of_le HM.out.map.lt HB1.out.1) (by rw [HM1.out.mbT.1]; exact tag_ne (by decide))
    have b := M3.out.2 mb (Nat.lt_of_lt_of_le (Nat.lt_of_lt_of_le HM.out.map.lt HB1.out.1) M2.1) (by rw [a.1, HM1.out.mbT.1]; exact tag_ne (by decide))
    exact (HM1.out.map.block a.2).block b.2
  refine wp_still_drew 6 (by kernel_rfl) (by kernel_rfl) ?_
  simp only [List.take_succ_cons, List.take_zero, List.drop_succ_cons, List.drop_zero]
  repeat still_step
  refine wpStill_nil ?_
  refine wpList_put_old (val := .agg #[.int .u8 kb, .slice pa (pts t).length pc, .bool (F t).1, .bool (F t).2.1, .slice (some ⟨gg, 0, none⟩) ((F t).2.2.1.length + 1) cap2, .slice oa (F t).2.2.2.length oc]) rfl _ _ _ rfl rfl HMAP.out rfl hs HT.out (by simp only [maxLen]; omega) rfl ?_
  intro w5 hm5 hg5
  rw [ET.out] at hm5
  have HF := HM1.out.stand (s := s) HP1.out HYS.out HTT.out HO1.out (by rw [hyl]; exact HO6.out) HG6.out HAT6.out M3.out hg5 (by rw [hyl]; unfold fv; rw [EK.out]; exact hm5)
  have HBZ : Hid (Below base w w5) := HBY.out.grown hg5 (Nat.le_trans hbs HBY.out.size) (fun k e => by rw [← Option.some.inj e]; exact HM.out.mbT.2)
  have HFF := Lib.hid HF
  have HKZ : Hid (∀ b, X b → b < w5.heap.size ∧ w5.heap[b]? = w.heap[b]?) := fun b hb => by
    obtain ⟨⟨x1, x2⟩, _⟩ := HKX.out b hb
    exact ⟨Nat.lt_of_lt_of_le x1 hg5.size, (hg5.block b x1 (fun e => tag6 (HX.out b hb).2 (by decide) ((congrArg own (Option.some.inj e)).trans HM.out.mbT.1))).trans x2⟩
  clear HF hm5 hg5
  go_wp2
  go_end0
  exact ⟨rfl, ⟨_, _, _, _, HFF.out, fun b hb => ⟨(HKZ.out b hb).1, (HKX.out b hb).2⟩⟩, HBZ.out, fun b hb => (HKZ.out b hb).2⟩
set_option maxHeartbeats 4000000 in
set_option maxRecDepth 1000000 in
theorem opens_any' (base pb : Nat) (X : Nat → Prop) (K : List Tm) (F : Tm → Fa) (N : List Tm) (p s : ByteArray) (w : World) (h : MindX 6 base pb X K F N w) (hs : p.size ≤ 4000) (ht : p.data.toList ∈ K) (hK : K.length ≤ 100000000) (hN : (F p.data.toList).2.2.2.length ≤ 100000000) :
    Calls Try.prog 48 #[.pointer (some ⟨pb, 0, none⟩), .string p, .string s] w fun e w' => e = .returned (.tuple #[]) ∧ MindX 6 base pb X K (opF F p.data.toList s.data.toList) N w' ∧ Below base w w' ∧ Kp X w w' := by
  obtain ⟨mb, own, nv, V, hm, hx⟩ := h
  have HX := Lib.hid hx
  clear hx
  obtain ⟨pv, iv, ov, hv, hp, hi, ho⟩ := hm.rows _ ht
  have hlt := hm.pb_lt
  have hbs := hm.size
  have hne : pb ≠ w.heap.size := by omega
  have c0 := hm.cell0
  have hrun := hm.map.look hs ht
  rw [hv] at hrun
  unfold fv at hrun
  obtain ⟨pa, pc, rfl⟩ := hp.form
  obtain ⟨ia, ic, rfl⟩ := hi.form
  obtain ⟨oa, oc, rfl⟩ := ho.form
  have HM := Lib.hid hm
  have HT : Hid (p.data.toList ∈ K) := ht
  obtain ⟨t, et⟩ : ∃ t, p.data.toList = t := ⟨_, rfl⟩
  rw [et] at hrun hp hi ho hv hN ⊢
  obtain ⟨kb, ek⟩ : ∃ kb : Int, ((t.headD 0).toNat : Int) = kb := ⟨_, rfl⟩
  rw [ek] at hrun
  have EK := Lib.hid ek
  have ET := Lib.hid et
  obtain ⟨i0, hi0, hz0, hz1, hz2⟩ := info_parts str_info
  -- the world ahead of the append, and what is whose in it
  have HB1 : Hid (Mv (7, []) own (setT own w.heap.size (7, [])) w ((w.alloc (.cells #[.int .u8 kb, .slice pa (pts t).length pc, .bool (F t).1, .bool (F t).2.1, .slice ia (F t).2.2.1.length ic, .slice oa (F t).2.2.2.length oc] 56)).alloc (.cells #[.string s] 9))) := by
    have b1 : Below w.heap.size w ((w.alloc (.cells #[.int .u8 kb, .slice pa (pts t).length pc, .bool (F t).1, .bool (F t).2.1, .slice ia (F t).2.2.1.length ic, .slice oa (F t).2.2.2.length oc] 56)).alloc (.cells #[.string s] 9)) := two_new _ _ _
    exact ⟨b1.size, fun b hb _ => ⟨by unfold setT; rw [if_neg (by omega)], b1.block b hb⟩⟩
  have HM1 := Lib.hid (HM.out.move HB1.out (by omega))
  have HP1 := Lib.hid (hp.move HB1.out (tag_ne (by decide)))
  have HI1 := Lib.hid (hi.move HB1.out (tag_ne (by decide)))
  have HO1 := Lib.hid (ho.move HB1.out (tag_ne (by decide)))
  have HBB : Hid (Below base w ((w.alloc (.cells #[.int .u8 kb, .slice pa (pts t).length pc, .bool (F t).1, .bool (F t).2.1, .slice ia (F t).2.2.1.length ic, .slice oa (F t).2.2.2.length oc] 56)).alloc (.cells #[.string s] 9))) := (two_new _ _ _).mono hbs
  have HV : Hid (V t = fv t (F t) (.slice pa (pts t).length pc) (.slice ia (F t).2.2.1.length ic) (.slice oa (F t).2.2.2.length oc)) := hv
  obtain ⟨ys, hys, hown, hT⟩ := HO1.out
  have HYS := Lib.hid hys
  have HO := Lib.hid hown
  have HTT := Lib.hid hT
  have hyl : ys.length = (F t).2.2.2.length := by rw [← bl_len, hys]
  have hoff : some w.heap.size ≠ (Value.slice oa (F t).2.2.2.length oc).ownBlock := fun e => by
    obtain ⟨_, _, h2, _⟩ := ho
    have := (h2.lt _ e.symm).2
    omega
  have hnc := HM1.out.off HO1.out (by decide)
  clear hm ht hv hp hi ho ek et hown hys hT
  go_enter Try.func48, Try.ntmps48
  go_wp2_with (
    at_builtin
    refine wpList_append_lies _ rfl _ _ _ rfl base 9 i0 _ 1 16 Try.underlying38 hi0 hz0 hz1 hz2 rfl (by decide) _ ys.length (sv ys) rfl HO.out _ 1 1 [.string s] rfl rfl (lit_cells_at _ _ _ _ (by simp)) (sv_one [s]) (by decide) (by simp only [maxLen]; omega) (by omega) ?h6 _ rfl ?_
    case h6 => exact HM1.out.size
    intro gg cap2 w6 hown6 hgrow6 hat6 hlt6
    have HO6 := Lib.hid hown6
    have HG6 := Lib.hid hgrow6
    have HAT6 := Lib.hid hat6
    have e0 : w6.cell? ⟨pb, 0, none⟩ = some (.map (some mb)) := hgrow6.cell (a := ⟨pb, 0, none⟩) HM1.out.cell0 hnc
    have k0 := hgrow6.cell (a := ⟨w.heap.size, 0, none⟩) (v := .int .u8 kb) (by rw [World.cell?_alloc_past _ _ _ (by simp), World.cell?_alloc_new]; rfl) hoff
    have k1 := hgrow6.cell (a := ⟨w.heap.size, 1, none⟩) (v := .slice pa (pts t).length pc) (by rw [World.cell?_alloc_past _ _ _ (by simp), World.cell?_alloc_new]; rfl) hoff
    have k2 := hgrow6.cell (a := ⟨w.heap.size, 2, none⟩) (v := .bool (F t).1) (by rw [World.cell?_alloc_past _ _ _ (by simp), World.cell?_alloc_new]; rfl) hoff
    have k3 := hgrow6.cell (a := ⟨w.heap.size, 3, none⟩) (v := .bool (F t).2.1) (by rw [World.cell?_alloc_past _ _ _ (by simp), World.cell?_alloc_new]; rfl) hoff
    have k4 := hgrow6.cell (a := ⟨w.heap.size, 4, none⟩) (v := .slice ia (F t).2.2.1.length ic) (by rw [World.cell?_alloc_past _ _ _ (by simp), World.cell?_alloc_new]; rfl) hoff
    have k5 := hgrow6.cell (a := ⟨w.heap.size, 5, none⟩) (v := .slice oa (F t).2.2.2.length oc) (by rw [World.cell?_alloc_past _ _ _ (by simp), World.cell?_alloc_new]; rfl) hoff
    have e2 : w6.frozen? ⟨w.heap.size, 5, none⟩ = false := by
      rw [World.frozen?_of_block (a := ⟨w.heap.size, 5, none⟩) (hgrow6.block w.heap.size (by simp; omega) hoff), World.frozen?_alloc_past _ _ _ (by simp), World.frozen?_alloc_new]
    clear hown6 hgrow6 hat6)
  have M2 : Mv (5, t) (setT own w.heap.size (7, [])) (setT (setT own w.heap.size (7, [])) gg (5, t)) _ w6 := mv_row HG6.out HTT.out HAT6.out
  have hw7 : setT (setT own w.heap.size (7, [])) gg (5, t) w.heap.size = (7, []) := (M2.2 w.heap.size (by simp; omega) (by rw [setT_same]; exact tag_ne (by decide))).1.trans (setT_same _ _ _)
  have HBX : Hid (Below base w w6) := HBB.out.grown HG6.out HM1.out.size fun k e => (HO.out.lt k e).1
  rw [hyl] at HO6
  obtain ⟨w4, hw4⟩ : ∃ w4, w6.setCell ⟨w.heap.size, 5, none⟩ (.slice (some ⟨gg, 0, none⟩) ((F t).2.2.2.length + 1) cap2) = w4 := ⟨_, rfl⟩
  rw [hw4]
  have M3 : Hid (Mv (7, []) (setT (setT own w.heap.size (7, [])) gg (5, t)) (setT (setT own w.heap.size (7, [])) gg (5, t)) w6 w4.drew) := by
    rw [← hw4]
    exact ⟨by simp [World.setCell], fun b hb hne => ⟨rfl, Below.heap_setCell _ _ _ _ (by rintro rfl; exact hne hw7)⟩⟩
  have HBY : Hid (Below base w w4.drew) := by
    rw [← hw4]
    exact (HBX.out.setCell hbs _).drew
  have f0 : w4.cell? ⟨pb, 0, none⟩ = some (.map (some mb)) := by
    rw [← hw4, cell_block _ _ _ _ hne]; exact e0
  have j0 : w4.cell? ⟨w.heap.size, 0, none⟩ = some (.int .u8 kb) := by rw [← hw4, cell_off _ _ _ (by decide)]; exact k0
  have j1 : w4.cell? ⟨w.heap.size, 1, none⟩ = some (.slice pa (pts t).length pc) := by rw [← hw4, cell_off _ _ _ (by decide)]; exact k1
  have j2 : w4.cell? ⟨w.heap.size, 2, none⟩ = some (.bool (F t).1) := by rw [← hw4, cell_off _ _ _ (by decide)]; exact k2
  have j3 : w4.cell? ⟨w.heap.size, 3, none⟩ = some (.bool (F t).2.1) := by rw [← hw4, cell_off _ _ _ (by decide)]; exact k3
  have j4 : w4.cell? ⟨w.heap.size, 4, none⟩ = some (.slice ia (F t).2.2.1.length ic) := by rw [← hw4, cell_off _ _ _ (by decide)]; exact k4
  have j5 : w4.cell? ⟨w.heap.size, 5, none⟩ = some (.slice (some ⟨gg, 0, none⟩) ((F t).2.2.2.length + 1) cap2) := by rw [← hw4, cell_same _ _ _ _ k5]
  have HW4 := Lib.hid hw4
  clear hw4 k0 k1 k2 k3 k4 k5 e0 e2 c0 hrun
  have HKX : Hid (∀ b, X b → (b < w4.drew.heap.size ∧ w4.drew.heap[b]? = w.heap[b]?) ∧ 6 ≤ (setT (setT own w.heap.size (7, [])) gg (5, t) b).1) := fun b hb => by
    obtain ⟨x1, x2⟩ := HX.out b hb
    have x3 : 6 ≤ (setT own w.heap.size (7, []) b).1 := by unfold setT; rw [if_neg (by omega)]; exact x2
    obtain ⟨y1, y2⟩ := M2.2 b (by simp; omega) (tag6 x3 (by decide))
    have y3 : b < w6.heap.size := Nat.lt_of_lt_of_le x1 (Nat.le_trans (two_new _ _ _).size M2.1)
    refine ⟨?_, by rw [y1]; exact x3⟩
    rw [← HW4.out]
    exact ⟨by simpa [World.setCell] using y3, (Below.heap_setCell _ _ _ _ (Nat.ne_of_lt x1)).trans (y2.trans ((two_new w _ _).block b x1))⟩
  have HMAP : Hid (MapIs w4.drew mb K V) := by
    have a := M2.2 mb (Nat.lt_of_lt_of_le HM.out.map.lt HB1.out.1) (by rw [HM1.out.mbT.1]; exact tag_ne (by decide))
    have b := M3.out.2 mb (Nat.lt_of_lt_of_le (Nat.lt_of_lt_of_le HM.out.map.lt HB1.out.1) M2.1) (by rw [a.1, HM1.out.mbT.1]; exact tag_ne (by decide))
    exact (HM1.out.map.block a.2).block b.2
  refine wp_still_drew 6 (by kernel_rfl) (by kernel_rfl) ?_
  simp only [List.take_succ_cons, List.take_zero, List.drop_succ_cons, List.drop_zero]
  repeat still_step
  refine wpStill_nil ?_
  refine wpList_put_old (val := .agg #[.int .u8 kb, .slice pa (pts t).length pc, .bool (F t).1, .bool (F t).2.1, .slice ia (F t).2.2.1.length ic, .slice (some ⟨gg, 0, none⟩) ((F t).2.2.2.length + 1) cap2]) rfl _ _ _ rfl rfl HMAP.out rfl hs HT.out (by simp only [maxLen]; omega) rfl ?_
  intro w5 hm5 hg5
  rw [ET.out] at hm5
  have HF := HM1.out.open (s := s) HP1.out HYS.out HTT.out HI1.out (by rw [hyl]; exact HO6.out) HG6.out HAT6.out M3.out hg5 (by rw [hyl]; unfold fv; rw [EK.out]; exact hm5)
  have HBZ : Hid (Below base w w5) := HBY.out.grown hg5 (Nat.le_trans hbs HBY.out.size) (fun k e => by rw [← Option.some.inj e]; exact HM.out.mbT.2)
  have HFF := Lib.hid HF
  have HKZ : Hid (∀ b, X b → b < w5.heap.size ∧ w5.heap[b]? = w.heap[b]?) := fun b hb => by
    obtain ⟨⟨x1, x2⟩, _⟩ := HKX.out b hb
    exact ⟨Nat.lt_of_lt_of_le x1 hg5.size, (hg5.block b x1 (fun e => tag6 (HX.out b hb).2 (by decide) ((congrArg own (Option.some.inj e)).trans HM.out.mbT.1))).trans x2⟩
  clear HF hm5 hg5
  go_wp2
  go_end0
  exact ⟨rfl, ⟨_, _, _, _, HFF.out, fun b hb => ⟨(HKZ.out b hb).1, (HKX.out b hb).2⟩⟩, HBZ.out, fun b hb => (HKZ.out b hb).2⟩
end Go.Proofs.Ytahlilhdiklemaa.Clo
