/-
  THE LANDED CODE (package tree): Proof. By an AI agent; no person has read it.
-/
import Derived.Test.YtblgcpopcgnncaaERef5
import Derived.Test.YtblgcpopcgnncaaECode3
import Derived.Test.YtblgcpopcgnncaaEWayP
namespace Go.Proofs.Ytblgcpopcgnncaa.Tre
open Go Go.RowKit Go.Shelf Wire Term Draw Reg Clo

attribute [local go_sem] Oper.semAt_some
set_option linter.unusedSimpArgs false
set_option linter.unusedVariables false
theorem owns_kept {W W' : World} {row : Option Nat} {base : Nat} {e : TypeId} {size k : Nat} {v : Value} {xs : List Value} (h : W.ownsRow base e size v k xs) (hg : W.grownBy W' row) (hr : ∀ r, row = some r → ∃ o : Obj, W.heap[r]? = some o ∧ o.isCells = false) : W'.ownsRow base e size v k xs := by
  refine h.kept hg ?_
  rcases h.2 with ⟨rfl, _⟩ | ⟨g, cap, cur, rfl, _, hgb, _⟩
  · exact .inl rfl
  · refine .inr fun e' => ?_
    obtain ⟨o, ho, hc⟩ := hr g (by simpa [Value.ownBlock] using e'.symm)
    rw [hgb] at ho; cases ho; cases hc
/-- Between two rounds of Proof. -/
def PrI (w : World) (A : Option Addr) (c : Nat) (ys : List ByteArray) (bp m : Nat) (pre : List (Nat × Nat)) (B : World) : Prop :=
  m ≤ B.heap.size ∧ Below w.heap.size w B ∧ B.heap[w.heap.size]? = some (.cells #[.slice A ys.length c] 23) ∧
  ∃ (v : Value) (zs : List ByteArray), B.heap[bp]? = some (.cells #[v] 23) ∧ B.ownsRow m 9 1 v zs.length (sv zs) ∧ bl zs = pre.map (treeOf (bl ys))
theorem pr_box {B B2 w6 : World} {bp m : Nat} {v : Value} {T : ByteArray} {k : Nat} {xs : List Value} (h : B.heap[bp]? = some (.cells #[v] 23)) (hb : Below B.heap.size B B2) (ho : B2.ownsRow m 9 1 v k xs) (hg : (B2.alloc (.cells #[.string T] 9)).grownBy w6 v.ownBlock) (hte : 23 ≠ 9) : Boxed w6 bp 23 v := by
  have h2 : Boxed B2 bp 23 v := (hb.block _ (Array.getElem?_eq_some_iff.1 h).1).trans h
  exact (h2.alloc _).kept hg (h2.not_row hte ho)
theorem PrI.kept {w : World} {A : Option Addr} {c : Nat} {ys : List ByteArray} {bp m : Nat} {pre : List (Nat × Nat)} {B C : World} {row : Option Nat} {n : Nat} (h : PrI w A c ys bp m pre B) (hg : B.grownBy C row) (hn : w.heap.size < n) (hn2 : bp < n) (hw : w.heap.size ≤ n)
    (hr : ∀ r, row = some r → n ≤ r ∧ ∃ o : Obj, B.heap[r]? = some o ∧ o.isCells = false) : PrI w A c ys bp m pre C := by
  obtain ⟨g1, g2, g3, v, zs, g4, g5, g6⟩ := h
  refine ⟨Nat.le_trans g1 hg.size, g2.grown hg g2.size (fun k e => by have := (hr k e).1; omega), (hg.block _ (Array.getElem?_eq_some_iff.1 g3).1 (fun e => by have := (hr _ e.symm).1; omega)).trans g3, v, zs, (hg.block _ (Array.getElem?_eq_some_iff.1 g4).1 (fun e => by have := (hr _ e.symm).1; omega)).trans g4, owns_kept g5 hg (fun r e => (hr r e).2), g6⟩
theorem PrI.step {w : World} {A : Option Addr} {c : Nat} {ys : List ByteArray} {bp m n : Nat} {pre : List (Nat × Nat)} {x : Nat × Nat} {B B2 w6 : World} {v v' : Value} {zs : List ByteArray} {T : ByteArray}
    (h : m ≤ B.heap.size ∧ Below w.heap.size w B ∧ B.heap[w.heap.size]? = some (.cells #[.slice A ys.length c] 23) ∧ B.heap[bp]? = some (.cells #[v] 23) ∧ B.ownsRow m 9 1 v zs.length (sv zs) ∧ bl zs = pre.map (treeOf (bl ys)))
    (hb : Below B.heap.size B B2) (hT : T.data.toList = treeOf (bl ys) x) (hg : (B2.alloc (.cells #[.string T] 9)).grownBy w6 v.ownBlock)
    (hown : w6.ownsRow m 9 1 v' (zs.length + 1) (sv zs ++ [.string T])) (hte : 23 ≠ 9) (hwb : w.heap.size < bp) (hbn : bp < n) (hnm : n ≤ m) :
    Keeps n m B (w6.setCell ⟨bp, 0, none⟩ v') ∧ PrI w A c ys bp m (pre ++ [x]) (w6.setCell ⟨bp, 0, none⟩ v') := by
  obtain ⟨g1, g2, g3, g4, g5, g6⟩ := h
  have ho := own_below g5 hb (Nat.le_refl _)
  have hv1 := pr_box g4 hb ho hg hte
  have hs2 : m ≤ B2.heap.size := Nat.le_trans g1 hb.size
  have hs6 : B2.heap.size + 1 ≤ w6.heap.size := by have := hg.size; rwa [World.size_alloc] at this
  have hsz : (w6.setCell ⟨bp, 0, none⟩ v').heap.size = w6.heap.size := by simp [World.setCell]
  have keep : ∀ k, k ≠ bp → k < m → (w6.setCell ⟨bp, 0, none⟩ v').heap[k]? = B.heap[k]? := fun k h1 h2 => by
    rw [Below.heap_setCell _ _ _ k h1, hg.block k (by rw [World.size_alloc]; omega) (fun e => by have := (ho.lt k e.symm).1; omega), Below.heap_alloc _ _ _ (by omega), hb.block k (by omega)]
  refine ⟨⟨by rw [hsz]; have := hb.size; omega, fun k h1 h2 => keep k (by omega) h2⟩, by rw [hsz]; omega, ?_, (keep _ (by omega) (by omega)).trans g3, v', zs ++ [T], hv1.set v', ?_, ?_⟩
  · refine Below.setCell ?_ (by simp only; omega) _
    refine ((g2.trans (hb.mono g2.size)).alloc (by have := g2.size; omega) _).grown hg (by rw [World.size_alloc]; have := g2.size; omega) (fun k e => by have := (ho.lt k e).1; omega)
  · have := hown.kept (grownBy_setCell' w6 bp v') (.inr (hv1.not_row hte hown).symm)
    simpa [sv] using this
  · rw [List.map_append, ← g6]
    simp [bl, hT]
set_option maxHeartbeats 4000000 in
set_option maxRecDepth 1000000 in
theorem cproof_any (i : Int) (A : Option Addr) (c : Nat) (ys : List ByteArray) (w : World) (hr : SReads w A ys) (hc : ys.length ≤ c) (hc2 : c ≤ 9223372036854775807) (hz : ∀ y ∈ ys, y.size ≤ 140737488355328) :
    Calls Try.prog 15 #[.slice A ys.length c, .int .i64 i] w fun e w' => Pb w w' (proofT (bl ys) i) e ∧ Below w.heap.size w w' := by
  have HRT := Lib.hid fun w h => croot_any A c ys w h hc hc2 hz
  have hbl : (bl ys).length = ys.length := by simp [bl]
  generalize ho : proofT (bl ys) i = o
  unfold proofT at ho
  rw [hbl] at ho
  have hlen : (root (bl ys)).2 = 0 → 1 ≤ ys.length ∧ ys.length ≤ 8 := fun h => by
    unfold root at h
    rw [hbl] at h
    by_cases h1 : ys.length < 1 ∨ 8 < ys.length
    · rw [if_pos h1] at h; exact absurd h (show ¬ (1 : Int) = 0 by decide)
    · omega
  obtain ⟨x, f, hx⟩ : ∃ x f, root (bl ys) = (x, f) := ⟨_, _, rfl⟩
  rw [hx] at HRT ho hlen
  simp only at ho hlen
  clear hx
  have HR := Lib.hid hr
  by_cases hf : f = 0
  · subst hf
    obtain ⟨n1, n8⟩ := hlen rfl
    rw [if_neg (fun h => h rfl)] at ho
    by_cases h0 : 0 ≤ i ∧ i < (ys.length : Int)
    · rw [if_neg (by omega)] at ho
      obtain ⟨k, rfl⟩ : ∃ k : Nat, i = (k : Int) := ⟨i.toNat, by omega⟩
      rw [show ((k : Int)).toNat = k by omega] at ho
      have hkn : k < ys.length := by omega
      have HPL := Lib.hid fun w => isPlace_any (k : Int) (ys.length : Int) w
      rw [decide_eq_true h0] at HPL
      have HO := Lib.hid ho
      obtain ⟨i0, hi0, hz0, hz1, hz2⟩ := info_parts str_info
      obtain ⟨g, off, rfl, hg, _⟩ := hr 0 (by omega)
      have HGR : Hid (∀ (x : Nat × Nat), x.1 < x.2 → x.2 ≤ ys.length → ∀ B, SReads B (some ⟨g, off, none⟩) ys → Calls Try.prog 34 #[.slice (some ⟨g, off + x.1, none⟩) (x.2 - x.1) (c - x.1)] B fun e w' => (∃ (T : ByteArray) (f : Int), T.data.toList = treeOf (bl ys) x ∧ e = .returned (.tuple #[.string T, .int .i64 f])) ∧ Below B.heap.size B w') := Lib.hid fun x h1 h2 B h => by
        have hl : ((ys.take x.2).drop x.1).length = x.2 - x.1 := by rw [List.length_drop, List.length_take]; omega
        have := cgrow_any 3 (some ⟨g, off + x.1, none⟩) (c - x.1) ((ys.take x.2).drop x.1) B (by omega) (sreads_drop (sreads_take h x.2) x.1) (by omega) (by omega) (by omega) (by omega) (fun y hy => hz y (List.mem_of_mem_take (List.mem_of_mem_drop hy)))
        rw [hl] at this
        refine this.mono fun e w' ⟨⟨T, hT, he⟩, hb⟩ => ⟨⟨T, _, ?_, he⟩, hb⟩
        rw [hT, ← bl_drop', ← bl_take']
        rfl
      clear ho hlen hz hr h0 hg
      refine callsIn_wide (n := 0).1 ?_
      refine callsIn_of_wp_marks Try.func15 rfl trivial ?_
      simp only [Try.ntmps15, List.size_toArray, List.length_cons, List.length_nil, Nat.reduceAdd, Nat.reduceSub, Array.replicate_succ, Array.replicate_zero, List.push_toArray, List.append_toArray, List.nil_append, List.cons_append]
      refine wpIn_wide.2 ?_
      go_wp2_with fail
      obtain ⟨X, hX⟩ : ∃ X, w.alloc (.cells #[.slice (some ⟨g, off, none⟩) ys.length c] 23) = X := ⟨_, rfl⟩
      have HWX : Hid (Below w.heap.size w X) := by rw [← hX]; exact (Below.refl _ w).alloc (Nat.le_refl _) _
      have HXc : Hid (X.heap[w.heap.size]? = some (.cells #[.slice (some ⟨g, off, none⟩) ys.length c] 23)) := by rw [← hX]; exact World.alloc_heap_new _ _
      have HXs : Hid (X.heap.size = w.heap.size + 1) := by rw [← hX]; exact World.size_alloc _ _
      have HRX := Lib.hid (HR.out.below HWX.out (Nat.le_refl _))
      rw [hX]
      clear hX
      with_reducible refine (HRT.out _ HRX.out).mono ?_
      rintro e w1 ⟨⟨T, hT, rfl⟩, hb1⟩
      have HB1 := Lib.hid (HWX.out.trans (hb1.mono HWX.out.size))
      have HR1 := Lib.hid (HRX.out.below hb1 (Nat.le_refl _))
      have HC1 := Lib.hid ((hb1.block _ (by have := HXs.out; omega)).trans HXc.out)
      have HS1 : Hid (w.heap.size < w1.heap.size) := by have h1 := HXs.out; have h2 := hb1.size; show _ < _; omega
      have hc1 := cell_heap HC1.out
      clear hT hb1
      dsimp only
      go_wp2_with fail
      with_reducible refine (HPL.out _).mono ?_
      rintro e w2 ⟨rfl, hw⟩
      obtain rfl : w1 = w2 := hw.symm
      dsimp only
      have hne1 : w.heap.size ≠ w1.heap.size := by have := HS1.out; omega
      have hne2 := Ne.symm hne1
      have hc2' : (w1.alloc (.cells #[.slice none 0 0] 23)).cell? ⟨w.heap.size, 0, none⟩ = some (.slice (some ⟨g, off, none⟩) ys.length c) := (((Below.refl _ w1).alloc (Nat.le_refl _) _).cell (p := ⟨w.heap.size, 0, none⟩) HS1.out).trans hc1
      go_wp2_with fail
      obtain ⟨Y, hY⟩ : ∃ Y, w1.alloc (.cells #[.slice none 0 0] 23) = Y := ⟨_, rfl⟩
      have HPY : Hid (Y.heap[w1.heap.size]? = some (.cells #[.slice none 0 0] 23)) := by rw [← hY]; exact World.alloc_heap_new _ _
      have HBY : Hid (Below w.heap.size w Y) := by rw [← hY]; exact HB1.out.alloc HB1.out.size _
      have HCY : Hid (Y.heap[w.heap.size]? = some (.cells #[.slice (some ⟨g, off, none⟩) ys.length c] 23)) := by rw [← hY]; exact (Below.heap_alloc _ _ _ HS1.out).trans HC1.out
      have HSY : Hid (Y.heap.size = w1.heap.size + 1) := by rw [← hY]; exact World.size_alloc _ _
      rw [hY]
      clear hY hc2' hc1 hne1 hne2 HPL
      refine (way_any k 0 ys.length _).mono ?_
      rintro e v1 ⟨rfl, hv1⟩
      have hbV : Below Y.heap.size Y v1 := by rw [hv1]; exact three_below Y _ _ _
      have hbx1 : Bxs v1 (Y.heap.size + 2) (Y.heap.size + 1) Y.heap.size k 0 ys.length := by rw [hv1]; exact boxes_new Y k 0 ys.length
      clear hv1
      have hsv := hbV.size
      have hs1 := HS1.out
      have hPv := (hbV.block _ (by have := HSY.out; omega)).trans HPY.out
      have hCv := (hbV.block _ (by have := HSY.out; omega)).trans HCY.out
      have hbp : w1.heap.size < v1.heap.size := by have := HSY.out; omega
      have hwv : Below w.heap.size w v1 := HBY.out.trans (hbV.mono HBY.out.size)
      dsimp only
      go_wp2_with fail
      have hseq := way_iter 3 k 0 ys.length (Y.heap.size + 2) (Y.heap.size + 1) Y.heap.size v1 (by omega) (by omega) hkn (by omega) n8 hbx1
      have hmap := way_beside (bl ys) 3 k 0 ys.length (by omega) (by omega) hkn (by omega) n8 (by rw [hbl]; exact Nat.le_refl _)
      have hin := way_in 3 k 0 ys.length (by omega) (by omega) hkn (by omega) n8
      have hfew := way_few (3 + 1) k 0 ys.length
      rw [show cut (bl ys) (0, ys.length) = bl ys by unfold cut; rw [← hbl]; simp, Nat.sub_zero] at hmap
      generalize wayL (3 + 1) k 0 ys.length = xs at hseq hmap hin hfew
      clear hsv
      refine (wpIn_wide (n := 0)).1 ?_
      refine range_law (xs := xs) (encs := pcsA) (a₁ := fun x b => { tmps := #[.slice (some ⟨g, off, none⟩) ys.length c, .int .i64 (k : Int), .pointer (some ⟨w.heap.size, 0, none⟩), undef, .slice none 0 0, .int .i64 (0 : Int), .string T, .int .i64 (0 : Int), .pointer (some ⟨w1.heap.size, 0, none⟩), .pointer (some ⟨b, 0, none⟩), undef, undef, .tuple #[.string T, .int .i64 0], .slice (some ⟨g, off, none⟩) ys.length c, .tuple #[.string T, .int .i64 0], .string T, .int .i64 (0 : Int), .int .i64 (0 : Int), .bool false, undef, .int .i64 (k : Int), .slice (some ⟨g, off, none⟩) ys.length c, .int .i64 (ys.length : Int), .bool true, .bool false, .int .i64 (k : Int), .slice (some ⟨g, off, none⟩) ys.length c, .int .i64 (ys.length : Int), .func (.func 58) #[] #[.pointer (some ⟨Y.heap.size + 2, 0, none⟩), .pointer (some ⟨Y.heap.size + 1, 0, none⟩), .pointer (some ⟨Y.heap.size, 0, none⟩)], pcs x, undef, undef, undef, undef, undef, undef, undef, undef, undef, undef, undef, undef, undef, undef, undef], defers := [] }) (blk := pcsO) rfl (enters_of Try.func58 (by kernel_rfl) rfl) hseq (Below.refl _ _) (fun _ => rfl)
        (fun m pre B => PrI w (some ⟨g, off, none⟩) c ys w1.heap.size m pre B) (fun pre B => False) ?hI (fun s B C row hs _ _ => hs.elim) (fun m zs B h => h.1) (fun B hB => ⟨Nat.le_refl _, hwv.trans (hB.mono hwv.size), (hB.block _ (by omega)).trans hCv, _, [], (hB.block _ (by omega)).trans hPv, World.ownsRow_nil _ _ _ _, rfl⟩) ?assign ?body ?done (fun pre B _ h _ => h.elim)
      case hI =>
        intro m s B C row hs hg hr
        exact hs.kept hg (by omega) (by omega) (by omega) hr
      case assign =>
        intro l' x B K hK
        simp only [pcsA, pcs, pcsO] at hK ⊢
        gi_wp2
        exact hK
      case body =>
        intro l' m pre x b B hm' hI hpre' hb' hbx
        obtain ⟨g1, g2, g3, v, zs, g4, g5, g6⟩ := hI
        obtain ⟨y0, y1, _, _⟩ := pcs_cells hbx
        have hx := hin x (hpre'.subset (by simp))
        have q1 := cell_heap g3
        have q2 := cell_heap g4
        have hzl : zs.length ≤ 4 := by
          have h1 := congrArg List.length g6
          have h2 := hpre'.length_le
          simp only [bl, List.length_map, List.length_append, List.length_singleton] at h1 h2
          omega
        have HI := Lib.hid (And.intro g1 (And.intro g2 (And.intro g3 (And.intro g4 (And.intro g5 g6)))))
        have HR3 := Lib.hid (HR.out.below g2 (Nat.le_refl _))
        have hx1 := hx.2.1
        have hx2 := hx.2.2
        have hxi1 : (x.1 : Int) ≤ (x.2 : Int) := by omega
        have hxi2 : (x.2 : Int) ≤ (c : Int) := by omega
        have hxi3 : (0 : Int) ≤ (x.1 : Int) := by omega
        have hHBX := Lib.hid hbx
        have HFIN := Lib.hid hseq
        clear g1 g2 g3 g4 g5 g6 hx hseq hPv hCv hwv hbV hbx1
        gi_wp2_with fail
        refine ⟨trivial, rfl, ?_⟩
        refine CallsIn.inRound l' (callsIn_wide.2 ?_)
        with_reducible refine (HGR.out x hx1 hx2 B HR3.out).mono ?_
        rintro e B2 ⟨⟨T2, f2, hT2, rfl⟩, hb2⟩
        obtain ⟨g1, g2, g3, g4, g5, g6⟩ := HI.out
        have q2' := (hb2.cell (p := ⟨w1.heap.size, 0, none⟩) (Array.getElem?_eq_some_iff.1 g4).1).trans q2
        have HB2 := Lib.hid hb2
        have HT2 := Lib.hid hT2
        have HO2 := Lib.hid (own_below g5 hb2 (Nat.le_refl _))
        have hm2 : m ≤ B2.heap.size := Nat.le_trans g1 hb2.size
        clear g1 g2 g3 g4 g5 g6 hb2 hT2 q2 q1
        dsimp only
        gi_wp2_with (first
          | (gi_at_builtin
             refine wpListIn_append_own _ rfl _ _ _ rfl m 9 i0 _ 1 16 Try.underlying23 hi0 hz0 hz1 hz2 rfl (by decide) v zs.length (sv zs) rfl ?c1 _ 1 1 [.string T2] rfl rfl ?c2 ?c3 ?c4 ?c5 ?c6 ?_
             case c1 => exact HO2.out.alloc _
             case c2 => exact lit_cells _ _ _
             case c3 => exact sv_one [T2]
             case c4 => simp only [maxLen]; omega
             case c5 => omega
             case c6 => simp only [World.alloc, Array.size_push]; omega
             intro v6 w6 hown hgrow _
             obtain ⟨g', cap', rfl⟩ := ownsRow_succ hown
             have HO6 := Lib.hid hown
             have HG6 := Lib.hid hgrow
             have HV1 := Lib.hid (pr_box HI.out.2.2.2.1 HB2.out HO2.out hgrow (by decide))
             have r1 := HV1.out.cell
             have r2 := HV1.out.frozen
             clear hown hgrow))
        exact PrI.step HI.out HB2.out HT2.out HG6.out HO6.out (by decide) hs1 hbp (by omega)
      case done =>
        intro m B hm' hI hD
        obtain ⟨g1, g2, g3, v, zs, g4, g5, g6⟩ := hI
        have q2 := cell_heap g4
        dsimp only [Exit.inBlock, Exit.then]
        refine (by assumption : ∀ (a : Act) (w : World), Code.wp Try.prog _ _ a w → _) _ _ ?_
        refine (wpIn_wide (n := 0)).1 ?_
        gi_wp2
        refine ⟨by simp, .inl ⟨_, _, rfl, run_takeDeferred hD, ?_⟩⟩
        refine ⟨_, results_tmp2 rfl _ _ _, ?_, ?_⟩
        · rw [← HO.out, ← hmap]
          exact ⟨v, zs, g6, own_low (ownsRow_putObj g5 _ hD rfl) (by omega), rfl⟩
        · exact g2.grown (grownBy_putObj' _ _ _) g2.size (fun k e => by cases e; omega)
    · rw [if_pos (by omega)] at ho
      have HO := Lib.hid ho
      have HPL := Lib.hid fun w => isPlace_any i (ys.length : Int) w
      rw [decide_eq_false h0] at HPL
      clear ho hlen hr hbl
      go_enter Try.func15, Try.ntmps15
      go_wp2_with fail
      obtain ⟨X, hX⟩ : ∃ X, w.alloc (.cells #[.slice A ys.length c] 23) = X := ⟨_, rfl⟩
      have HWX : Hid (Below w.heap.size w X) := by rw [← hX]; exact (Below.refl _ w).alloc (Nat.le_refl _) _
      have HXc : Hid (X.heap[w.heap.size]? = some (.cells #[.slice A ys.length c] 23)) := by rw [← hX]; exact World.alloc_heap_new _ _
      have HXs : Hid (X.heap.size = w.heap.size + 1) := by rw [← hX]; exact World.size_alloc _ _
      have HRX := Lib.hid (HR.out.below HWX.out (Nat.le_refl _))
      rw [hX]
      clear hX
      with_reducible refine (HRT.out _ HRX.out).mono ?_
      rintro e w1 ⟨⟨T, hT, rfl⟩, hb1⟩
      have HB1 := Lib.hid (HWX.out.trans (hb1.mono HWX.out.size))
      have HR1 := Lib.hid (HRX.out.below hb1 (Nat.le_refl _))
      have HC1 := Lib.hid ((hb1.block _ (by have := HXs.out; omega)).trans HXc.out)
      have HS1 : Hid (w.heap.size < w1.heap.size) := by have h1 := HXs.out; have h2 := hb1.size; show _ < _; omega
      have hc1 := cell_heap HC1.out
      clear hT hb1
      dsimp only
      go_wp2_with fail
      with_reducible refine (HPL.out _).mono ?_
      rintro e w2 ⟨rfl, hw⟩
      obtain rfl : w1 = w2 := hw.symm
      dsimp only
      go_wp2
      go_ret2
      exact ⟨by rw [← HO.out]; exact pb_nil _ _ _, HB1.out⟩
  · rw [if_pos hf] at ho
    have HO := Lib.hid ho
    have hb1 : (f == 0) = false := by simpa using hf
    have hb2 : (f != 0) = true := by simpa using hf
    clear ho hf hlen hr hbl
    go_enter Try.func15, Try.ntmps15
    go_wp2_with fail
    obtain ⟨X, hX⟩ : ∃ X, w.alloc (.cells #[.slice A ys.length c] 23) = X := ⟨_, rfl⟩
    have HWX : Hid (Below w.heap.size w X) := by rw [← hX]; exact (Below.refl _ w).alloc (Nat.le_refl _) _
    have HXc : Hid (X.heap[w.heap.size]? = some (.cells #[.slice A ys.length c] 23)) := by rw [← hX]; exact World.alloc_heap_new _ _
    have HXs : Hid (X.heap.size = w.heap.size + 1) := by rw [← hX]; exact World.size_alloc _ _
    have HRX := Lib.hid (HR.out.below HWX.out (Nat.le_refl _))
    rw [hX]
    clear hX
    with_reducible refine (HRT.out _ HRX.out).mono ?_
    rintro e w1 ⟨⟨T, hT, rfl⟩, hb1⟩
    have HB1 := Lib.hid (HWX.out.trans (hb1.mono HWX.out.size))
    have HR1 := Lib.hid (HRX.out.below hb1 (Nat.le_refl _))
    have HC1 := Lib.hid ((hb1.block _ (by have := HXs.out; omega)).trans HXc.out)
    have HS1 : Hid (w.heap.size < w1.heap.size) := by have h1 := HXs.out; have h2 := hb1.size; show _ < _; omega
    have hc1 := cell_heap HC1.out
    clear hT hb1
    dsimp only
    go_wp2
    go_ret2
    exact ⟨by rw [← HO.out]; exact pb_nil _ _ _, HB1.out⟩
end Go.Proofs.Ytblgcpopcgnncaa.Tre
