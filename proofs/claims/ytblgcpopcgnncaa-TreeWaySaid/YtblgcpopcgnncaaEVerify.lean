/-
  THE LANDED CODE (package tree): Verify. By an AI agent; no person has read it.
-/
import Derived.Test.YtblgcpopcgnncaaERef5
import Derived.Test.YtblgcpopcgnncaaECode3
import Derived.Test.YtblgcpopcgnncaaEWayP
namespace Go.Proofs.Ytblgcpopcgnncaa.Tre
open Go Go.RowKit Go.Shelf Wire Term Draw Reg Clo

attribute [local go_sem] Oper.semAt_some
set_option linter.unusedSimpArgs false
set_option linter.unusedVariables false
theorem frozen_heap {W : World} {b : Nat} {v : Value} {T : TypeId} (h : W.heap[b]? = some (.cells #[v] T)) : W.frozen? ⟨b, 0, none⟩ = false := by
  simp only [World.frozen?, h]
  simp
theorem boxes3 (w : World) (a b d : Value) (ta tb td : TypeId) : Below w.heap.size w (((w.alloc (.cells #[a] ta)).alloc (.cells #[b] tb)).alloc (.cells #[d] td)) ∧ (((w.alloc (.cells #[a] ta)).alloc (.cells #[b] tb)).alloc (.cells #[d] td)).heap.size = w.heap.size + 3 ∧
    (((w.alloc (.cells #[a] ta)).alloc (.cells #[b] tb)).alloc (.cells #[d] td)).heap[w.heap.size]? = some (.cells #[a] ta) ∧ (((w.alloc (.cells #[a] ta)).alloc (.cells #[b] tb)).alloc (.cells #[d] td)).heap[w.heap.size + 1]? = some (.cells #[b] tb) ∧
    (((w.alloc (.cells #[a] ta)).alloc (.cells #[b] tb)).alloc (.cells #[d] td)).heap[w.heap.size + 2]? = some (.cells #[d] td) := by
  have a1 := World.alloc_heap_new w (.cells #[a] ta)
  have a2 := World.alloc_heap_new (w.alloc (.cells #[a] ta)) (.cells #[b] tb)
  have a3 := World.alloc_heap_new ((w.alloc (.cells #[a] ta)).alloc (.cells #[b] tb)) (.cells #[d] td)
  simp only [World.size_alloc] at a2 a3
  refine ⟨three_below w _ _ _, by simp, ?_, ?_, a3⟩
  · exact (Below.heap_alloc _ _ _ (by simp; omega)).trans ((Below.heap_alloc _ _ _ (by simp)).trans a1)
  · exact (Below.heap_alloc _ _ _ (by simp)).trans a2
/-- Between two rounds of Verify. -/
def VeI (w : World) (k : Nat) (r : Tm) (xs : List (Nat × Nat)) (v : Bool) (tb m : Nat) (pre : List (Nat × Nat)) (B : World) : Prop :=
  m ≤ B.heap.size ∧ Below w.heap.size w B ∧ B.heap[w.heap.size]? = some (.cells #[.int .i64 (k : Int)] 3) ∧ B.heap[w.heap.size + 2]? = some (.cells #[.bool false] 4) ∧
  ∃ (T : ByteArray) (f : Int) (A : Option Addr) (c : Nat) (ps : List ByteArray) (rest : List (Nat × Nat)), B.heap[tb]? = some (.cells #[.string T] 9) ∧ B.heap[tb + 1]? = some (.cells #[.int .i64 f] 26) ∧
    B.heap[w.heap.size + 1]? = some (.cells #[.slice A ps.length c] 23) ∧ SReads w A ps ∧ ps.length ≤ c ∧ (∀ y ∈ ps, y.size ≤ 140737488355328) ∧ T.data.toList.length ≤ 4000 ∧ xs = pre ++ rest ∧ goes r k rest (T.data.toList, f) (bl ps) = v
/-- A round has told that it is not. -/
def VeX (w : World) (v : Bool) (B : World) : Prop := Below w.heap.size w B ∧ B.heap[w.heap.size + 2]? = some (.cells #[.bool false] 4) ∧ v = false
theorem VeI.kept {w : World} {k : Nat} {r : Tm} {xs : List (Nat × Nat)} {v : Bool} {tb m n : Nat} {pre : List (Nat × Nat)} {B C : World} {row : Option Nat} (h : VeI w k r xs v tb m pre B) (hg : B.grownBy C row) (hn : w.heap.size + 2 < n) (hn2 : tb + 1 < n)
    (hr : ∀ r, row = some r → n ≤ r ∧ ∃ o : Obj, B.heap[r]? = some o ∧ o.isCells = false) : VeI w k r xs v tb m pre C := by
  obtain ⟨g1, g2, g3, g4, T, f, A, c, ps, rest, g5, g6, g7, g8⟩ := h
  have keep : ∀ {b : Nat} {o : Obj}, b < n → B.heap[b]? = some o → C.heap[b]? = some o := fun hb h => (hg.block _ (Array.getElem?_eq_some_iff.1 h).1 (fun e => by have := (hr _ e.symm).1; omega)).trans h
  exact ⟨Nat.le_trans g1 hg.size, g2.grown hg g2.size (fun k e => by have := (hr k e).1; omega), keep (by omega) g3, keep (by omega) g4, T, f, A, c, ps, rest, keep (by omega) g5, keep (by omega) g6, keep (by omega) g7, g8⟩
theorem VeX.kept {w : World} {v : Bool} {n : Nat} {B C : World} {row : Option Nat} (h : VeX w v B) (hg : B.grownBy C row) (hn : w.heap.size + 2 < n) (hr : ∀ r, row = some r → n ≤ r ∧ ∃ o : Obj, B.heap[r]? = some o ∧ o.isCells = false) : VeX w v C := by
  obtain ⟨g2, g4, g5⟩ := h
  exact ⟨g2.grown hg g2.size (fun k e => by have := (hr k e).1; omega), (hg.block _ (Array.getElem?_eq_some_iff.1 g4).1 (fun e => by have := (hr _ e.symm).1; omega)).trans g4, g5⟩
theorem put_box {B : World} {b n : Nat} {v : Value} {t : TypeId} {o : Obj} (h : B.heap[b]? = some (.cells #[v] t)) (hn : b < n) : (B.putObj n o).cell? ⟨b, 0, none⟩ = some v ∧ (B.putObj n o).frozen? ⟨b, 0, none⟩ = false := by
  have e : (B.putObj n o).heap[b]? = some (.cells #[v] t) := (heap_put_other (by omega)).trans h
  exact ⟨cell_heap e, frozen_heap e⟩
theorem set_box {B : World} {b n : Nat} {v u : Value} {t : TypeId} {o : Obj} (h : B.heap[b]? = some (.cells #[v] t)) (hn : b < n) : ((B.setCell ⟨b, 0, none⟩ u).putObj n o).cell? ⟨b, 0, none⟩ = some u ∧ ((B.setCell ⟨b, 0, none⟩ u).putObj n o).frozen? ⟨b, 0, none⟩ = false :=
  put_box (show (B.setCell ⟨b, 0, none⟩ u).heap[b]? = some (.cells #[u] t) from Boxed.set (t := t) u h) hn
theorem s_eq {S T : ByteArray} (h : S.data.toList = T.data.toList) : (S.toList == T.toList) = true := by
  rw [Lib.toList_data, Lib.toList_data, h, beq_self_eq_true]
theorem s_ne {S T : ByteArray} (h : ¬ S.data.toList = T.data.toList) : (S.toList == T.toList) = false := by
  rw [beq_eq_false_iff_ne, Lib.toList_data, Lib.toList_data]; exact h
theorem VeI.step {w : World} {k : Nat} {r : Tm} {xs : List (Nat × Nat)} {v : Bool} {tb m n : Nat} {pre : List (Nat × Nat)} {x : Nat × Nat} {z : List (Nat × Nat)} {B B2 : World} {T2 T3 : ByteArray} {f2 ff : Int} {A A' : Option Addr} {c c' l : Nat} {ps : List ByteArray}
    (g1 : m ≤ B.heap.size) (g2 : Below w.heap.size w B) (g3 : B.heap[w.heap.size]? = some (.cells #[.int .i64 (k : Int)] 3)) (g4 : B.heap[w.heap.size + 2]? = some (.cells #[.bool false] 4))
    (g5 : B.heap[tb]? = some (.cells #[.string T2] 9)) (g6 : B.heap[tb + 1]? = some (.cells #[.int .i64 f2] 26)) (g7 : B.heap[w.heap.size + 1]? = some (.cells #[.slice A l c] 23))
    (h8 : SReads w A' ps) (h9 : ps.length ≤ c') (h10 : ∀ y ∈ ps, y.size ≤ 140737488355328) (h11 : T3.data.toList.length ≤ 4000) (hx : pre ++ x :: z = xs) (hgo : goes r k z (T3.data.toList, ff) (bl ps) = v)
    (hb : Below B.drew.heap.size B.drew B2) (h1 : w.heap.size + 2 < tb) (h2 : tb + 1 < n) (h3 : n ≤ m) :
    Keeps n m B (((B2.setCell ⟨tb, 0, none⟩ (.string T3)).setCell ⟨tb + 1, 0, none⟩ (.int .i64 ff)).setCell ⟨w.heap.size + 1, 0, none⟩ (.slice A' ps.length c')) ∧
    VeI w k r xs v tb m (pre ++ [x]) (((B2.setCell ⟨tb, 0, none⟩ (.string T3)).setCell ⟨tb + 1, 0, none⟩ (.int .i64 ff)).setCell ⟨w.heap.size + 1, 0, none⟩ (.slice A' ps.length c')) := by
  have hb' : Below B.heap.size B B2 := ⟨hb.os, hb.tape, hb.output, hb.size, hb.block⟩
  have hs := hb'.size
  have k1 : ∀ {b : Nat} {o : Obj}, B.heap[b]? = some o → B2.heap[b]? = some o := fun h => (hb'.block _ (Array.getElem?_eq_some_iff.1 h).1).trans h
  have hsz : (((B2.setCell ⟨tb, 0, none⟩ (.string T3)).setCell ⟨tb + 1, 0, none⟩ (.int .i64 ff)).setCell ⟨w.heap.size + 1, 0, none⟩ (.slice A' ps.length c')).heap.size = B2.heap.size := by simp [World.setCell]
  have other : ∀ j, j ≠ tb → j ≠ tb + 1 → j ≠ w.heap.size + 1 → (((B2.setCell ⟨tb, 0, none⟩ (.string T3)).setCell ⟨tb + 1, 0, none⟩ (.int .i64 ff)).setCell ⟨w.heap.size + 1, 0, none⟩ (.slice A' ps.length c')).heap[j]? = B2.heap[j]? := fun j a b d => by
    rw [Below.heap_setCell _ _ _ j d, Below.heap_setCell _ _ _ j b, Below.heap_setCell _ _ _ j a]
  refine ⟨⟨by rw [hsz]; exact hs, fun j a b => by rw [other j (by omega) (by omega) (by omega)]; exact hb'.block j (by omega)⟩, by rw [hsz]; omega, ?_, (other _ (by omega) (by omega) (by omega)).trans (k1 g3), (other _ (by omega) (by omega) (by omega)).trans (k1 g4), T3, ff, A', c', ps, z, ?_, ?_, ?_, h8, h9, h10, h11, by rw [List.append_assoc]; exact hx.symm, hgo⟩
  · exact (((g2.trans (hb'.mono g2.size)).setCell (by simp only; omega) _).setCell (by simp only; omega) _).setCell (by simp only; omega) _
  · rw [Below.heap_setCell _ _ _ _ (by simp only; omega), Below.heap_setCell _ _ _ _ (by simp only; omega)]
    exact Boxed.set (t := 9) _ (k1 g5)
  · rw [Below.heap_setCell _ _ _ _ (by simp only; omega)]
    exact Boxed.set (t := 26) _ (show (B2.setCell ⟨tb, 0, none⟩ (.string T3)).heap[tb + 1]? = some (.cells #[.int .i64 f2] 26) by rw [Below.heap_setCell _ _ _ _ (by simp only; omega)]; exact k1 g6)
  · exact Boxed.set (t := 23) _ (show ((B2.setCell ⟨tb, 0, none⟩ (.string T3)).setCell ⟨tb + 1, 0, none⟩ (.int .i64 ff)).heap[w.heap.size + 1]? = some (.cells #[.slice A l c] 23) by rw [Below.heap_setCell _ _ _ _ (by simp only; omega), Below.heap_setCell _ _ _ _ (by simp only; omega)]; exact k1 g7)
set_option maxHeartbeats 8000000 in
set_option maxRecDepth 1000000 in
theorem cverify_any (r : ByteArray) (n i : Int) (t : ByteArray) (A : Option Addr) (c : Nat) (ys : List ByteArray) (w : World) (hr : SReads w A ys) (hc : ys.length ≤ c) (hc2 : c ≤ 9223372036854775807) (hz : ∀ y ∈ ys, y.size ≤ 140737488355328) (ht : t.size ≤ 140737488355328) (hrz : r.size ≤ 140737488355328) :
    Calls Try.prog 18 #[.string r, .int .i64 n, .int .i64 i, .string t, .slice A ys.length c] w fun e w' => e = .returned (.bool (verifyT r.data.toList n i t.data.toList (bl ys))) ∧ Below w.heap.size w w' := by
  obtain ⟨v, hv⟩ : ∃ v, verifyT r.data.toList n i t.data.toList (bl ys) = v := ⟨_, rfl⟩
  rw [hv]
  have HIM := Lib.hid fun w => isMany_any n w
  have HPL := Lib.hid fun w => isPlace_any i n w
  have HLF := Lib.hid fun w => cleaf_any t w ht
  have no : ∀ {p : Prop}, (v = true → p) → ¬ p → v = false := fun h hp => by
    cases v with
    | false => rfl
    | true => exact absurd (h rfl) hp
  have hvt : v = true → 1 ≤ n ∧ n ≤ 8 ∧ 0 ≤ i ∧ i < n ∧ isLeaf t.data.toList = true := fun h => by
    rw [← hv] at h
    unfold verifyT at h
    have := of_decide_eq_true h
    exact ⟨this.1, this.2.1, this.2.2.1, this.2.2.2.1, this.2.2.2.2.1⟩
  by_cases hm : 1 ≤ n ∧ n ≤ 8
  · rw [decide_eq_true hm] at HIM
    by_cases hp : 0 ≤ i ∧ i < n
    · rw [decide_eq_true hp] at HPL
      cases hl : isLeaf t.data.toList with
      | false =>
        obtain rfl : v = false := no (fun h => (hvt h).2.2.2.2) (by rw [hl]; decide)
        rw [hl] at HLF
        clear hv hvt no hl hr hz
        go_enter Try.func18, Try.ntmps18
        go_wp2_with fail
        obtain ⟨X, hX⟩ : ∃ X, ((w.alloc (.cells #[.int .i64 i] 3)).alloc (.cells #[.slice A ys.length c] 23)).alloc (.cells #[.bool false] 4) = X := ⟨_, rfl⟩
        have hx0 := boxes3 w (.int .i64 i) (.slice A ys.length c) (.bool false) 3 23 4
        rw [hX] at hx0
        obtain ⟨hx1, hx2, hx3, hx4, hx5⟩ := hx0
        have HWX := Lib.hid hx1
        have HXs := Lib.hid hx2
        have HXa := Lib.hid hx3
        have HXp := Lib.hid hx4
        have HXr := Lib.hid hx5
        have ca := cell_heap hx3
        have cr := cell_heap hx5
        have fr := frozen_heap hx5
        rw [hX]
        clear hX hx1 hx2 hx3 hx4 hx5
        with_reducible refine (HIM.out _).mono ?_
        rintro e w2 ⟨rfl, hw⟩
        obtain rfl : X = w2 := hw.symm
        dsimp only
        go_wp2_with fail
        with_reducible refine (HPL.out _).mono ?_
        rintro e w2 ⟨rfl, hw⟩
        obtain rfl : X = w2 := hw.symm
        dsimp only
        go_wp2_with fail
        with_reducible refine (HLF.out _).mono ?_
        rintro e w1 ⟨rfl, hb1⟩
        have HB1 := Lib.hid hb1
        have HW1 := Lib.hid (HWX.out.trans (hb1.mono HWX.out.size))
        have cr1 := (hb1.cell (p := ⟨w.heap.size + 2, 0, none⟩) (by have := HXs.out; simp only; omega)).trans cr
        have fr1 := (hb1.frozen (p := ⟨w.heap.size + 2, 0, none⟩) (by have := HXs.out; simp only; omega)).trans fr
        clear hb1 cr fr
        dsimp only
        go_wp2
        refine bodyPost_ret (v := .bool false) (by simp [results, Try.results18, go_sem, cr1, fr1]) rfl ?_
        exact ⟨rfl, HW1.out.setCell (by simp only; omega) _⟩
      | true =>
        rw [hl] at HLF
        obtain ⟨N, rfl⟩ : ∃ N : Nat, n = (N : Int) := ⟨n.toNat, by omega⟩
        obtain ⟨k, rfl⟩ : ∃ k : Nat, i = (k : Int) := ⟨i.toNat, by omega⟩
        have hN1 : 1 ≤ N := by omega
        have hN8 : N ≤ 8 := by omega
        have hkN : k < N := by omega
        rw [← goes_verify hN1 hN8 hkN hl] at hv
        have HV := Lib.hid hv
        have HR := Lib.hid hr
        have HZ := Lib.hid hz
        have HOH := Lib.hid fun w => t_OfHash t w ht
        obtain ⟨T0, f0, hT0⟩ : ∃ T0 f0, one 104 t.data.toList = (T0, f0) := ⟨_, _, rfl⟩
        rw [hT0] at HOH HV
        have hT04 : T0.length ≤ 4000 := by have := one_len t.data.toList; rw [hT0] at this; exact this
        clear hv hvt no hl hr hz hm hp hT0
        refine callsIn_wide (n := 0).1 ?_
        refine callsIn_of_wp_marks Try.func18 rfl trivial ?_
        simp only [Try.ntmps18, List.size_toArray, List.length_cons, List.length_nil, Nat.reduceAdd, Nat.reduceSub, Array.replicate_succ, Array.replicate_zero, List.push_toArray, List.append_toArray, List.nil_append, List.cons_append]
        refine wpIn_wide.2 ?_
        go_wp2_with fail
        obtain ⟨X, hX⟩ : ∃ X, ((w.alloc (.cells #[.int .i64 (k : Int)] 3)).alloc (.cells #[.slice A ys.length c] 23)).alloc (.cells #[.bool false] 4) = X := ⟨_, rfl⟩
        have hx0 := boxes3 w (.int .i64 (k : Int)) (.slice A ys.length c) (.bool false) 3 23 4
        rw [hX] at hx0
        obtain ⟨hx1, hx2, hx3, hx4, hx5⟩ := hx0
        have HWX := Lib.hid hx1
        have HXs := Lib.hid hx2
        have HXa := Lib.hid hx3
        have HXp := Lib.hid hx4
        have HXr := Lib.hid hx5
        have ca := cell_heap hx3
        have cr := cell_heap hx5
        have fr := frozen_heap hx5
        rw [hX]
        clear hX hx1 hx2 hx3 hx4 hx5
        with_reducible refine (HIM.out _).mono ?_
        rintro e w2 ⟨rfl, hw⟩
        obtain rfl : X = w2 := hw.symm
        dsimp only
        go_wp2_with fail
        with_reducible refine (HPL.out _).mono ?_
        rintro e w2 ⟨rfl, hw⟩
        obtain rfl : X = w2 := hw.symm
        dsimp only
        go_wp2_with fail
        with_reducible refine (HLF.out _).mono ?_
        rintro e w1 ⟨rfl, hb1⟩
        have HB1 := Lib.hid hb1
        have HW1 := Lib.hid (HWX.out.trans (hb1.mono HWX.out.size))
        have cr1 := (hb1.cell (p := ⟨w.heap.size + 2, 0, none⟩) (by have := HXs.out; simp only; omega)).trans cr
        have fr1 := (hb1.frozen (p := ⟨w.heap.size + 2, 0, none⟩) (by have := HXs.out; simp only; omega)).trans fr
        clear hb1 cr fr
        dsimp only
        go_wp2_with fail
        with_reducible refine (HOH.out _).mono ?_
        rintro e w3 ⟨⟨T, hT, rfl⟩, hb3⟩
        try dsimp only at hT
        have HT := Lib.hid hT
        have HX3 : Hid (Below X.heap.size X w3) := Lib.hid (HB1.out.trans (hb3.mono HB1.out.size))
        have ca3 := ((HX3.out).cell (p := ⟨w.heap.size, 0, none⟩) (by have := HXs.out; simp only; omega)).trans ca
        clear hT hb3 cr1 fr1 ca
        dsimp only
        have ca4 : ((w3.alloc (.cells #[.string T] 9)).alloc (.cells #[.int .i64 f0] 26)).cell? ⟨w.heap.size, 0, none⟩ = some (.int .i64 (k : Int)) := by
          rw [← ca3]
          exact (((Below.refl w3.heap.size w3).alloc (Nat.le_refl _) _).alloc (by simp) _).cell (p := ⟨w.heap.size, 0, none⟩) (by have := HXs.out; have := HX3.out.size; simp only; omega)
        go_wp2_with fail
        obtain ⟨Y, hY⟩ : ∃ Y, (w3.alloc (.cells #[.string T] 9)).alloc (.cells #[.int .i64 f0] 26) = Y := ⟨_, rfl⟩
        have HYT : Hid (Y.heap[w3.heap.size]? = some (.cells #[.string T] 9)) := by rw [← hY]; exact (Below.heap_alloc _ _ _ (by simp)).trans (World.alloc_heap_new _ _)
        have HYE : Hid (Y.heap[w3.heap.size + 1]? = some (.cells #[.int .i64 f0] 26)) := by
          rw [← hY]
          have := World.alloc_heap_new (w3.alloc (.cells #[.string T] 9)) (.cells #[.int .i64 f0] 26)
          rwa [World.size_alloc] at this
        have HYS : Hid (Y.heap.size = w3.heap.size + 2) := by rw [← hY]; show _ = _; simp
        have HYX : Hid (Below X.heap.size X Y) := by rw [← hY]; exact (HX3.out.alloc HX3.out.size _).alloc (by have := HX3.out.size; rw [World.size_alloc]; omega) _
        rw [hY]
        clear hY ca4 ca3
        refine (way_any k 0 N _).mono ?_
        rintro e v1 ⟨rfl, hv1⟩
        have hbV : Below Y.heap.size Y v1 := by rw [hv1]; exact three_below Y _ _ _
        have hbx1 : Bxs v1 (Y.heap.size + 2) (Y.heap.size + 1) Y.heap.size k 0 N := by rw [hv1]; exact boxes_new Y k 0 N
        clear hv1
        have HXv : Hid (Below X.heap.size X v1) := Lib.hid (HYX.out.trans (hbV.mono HYX.out.size))
        have hwv : Below w.heap.size w v1 := HWX.out.trans (HXv.out.mono HWX.out.size)
        have hlt1 : w.heap.size + 2 < v1.heap.size := by have := HXs.out; have := HXv.out.size; omega
        have hlt2 : w3.heap.size + 1 < v1.heap.size := by have := HYS.out; have := hbV.size; omega
        have hlt3 : w.heap.size + 2 < w3.heap.size := by have := HXs.out; have := HX3.out.size; omega
        have hva := (HXv.out.block _ (by have := HXs.out; omega)).trans HXa.out
        have hvp := (HXv.out.block _ (by have := HXs.out; omega)).trans HXp.out
        have hvr := (HXv.out.block _ (by have := HXs.out; omega)).trans HXr.out
        have hvT := (hbV.block _ (by have := HYS.out; omega)).trans HYT.out
        have hvE := (hbV.block _ (by have := HYS.out; omega)).trans HYE.out
        dsimp only
        go_wp2_with fail
        have hseq := way_iter 3 k 0 N (Y.heap.size + 2) (Y.heap.size + 1) Y.heap.size v1 (by omega) (by omega) hkN (by omega) hN8 hbx1
        have HVx := HV.out
        change goes r.data.toList k (wayL (3 + 1) k 0 N) (T0, f0) (bl ys) = v at HVx
        generalize wayL (3 + 1) k 0 N = xs at hseq HVx
        refine (wpIn_wide (n := 0)).1 ?_
        refine range_law (xs := xs) (encs := pcsA) (a₁ := fun x b => { tmps := #[.string r, .int .i64 (N : Int), .int .i64 (k : Int), .string t, .slice A ys.length c, undef, undef, .pointer (some ⟨w.heap.size, 0, none⟩), undef, .pointer (some ⟨w.heap.size + 1, 0, none⟩), .pointer (some ⟨w.heap.size + 1 + 1, 0, none⟩), .pointer (some ⟨w3.heap.size, 0, none⟩), .pointer (some ⟨w3.heap.size + 1, 0, none⟩), .pointer (some ⟨b, 0, none⟩), .int .i64 (N : Int), .bool true, .bool false, .bool false, .int .i64 (k : Int), .int .i64 (N : Int), .bool true, .bool false, .bool false, .bool false, .string t, .bool true, .bool false, .bool false, .tuple #[.string T, .int .i64 f0], .string t, .tuple #[.string T, .int .i64 f0], .string T, .int .i64 f0, .int .i64 (k : Int), .int .i64 (N : Int), .func (.func 58) #[] #[.pointer (some ⟨Y.heap.size + 2, 0, none⟩), .pointer (some ⟨Y.heap.size + 1, 0, none⟩), .pointer (some ⟨Y.heap.size, 0, none⟩)], pcs x, undef, undef, undef, undef, undef, undef, undef, undef, undef, undef, undef, undef, undef, undef, undef, undef, undef, undef, undef, undef, undef, undef, undef, undef, undef, undef, undef, undef, undef, undef, undef, undef, undef, undef, undef, undef, undef, undef, undef, undef, undef], defers := [] }) (blk := pcsO) rfl (enters_of Try.func58 (by kernel_rfl) rfl) hseq (Below.refl _ _) (fun _ => rfl)
          (fun m pre B => VeI w k r.data.toList xs v w3.heap.size m pre B) (fun pre B => VeX w v B) ?hI ?hIx (fun m zs B h => h.1)
          (fun B hB => ⟨Nat.le_refl _, hwv.trans (hB.mono hwv.size), (hB.block _ (by omega)).trans hva, (hB.block _ (by omega)).trans hvr, T, f0, A, c, ys, xs, (hB.block _ (by omega)).trans hvT, (hB.block _ (by omega)).trans hvE, (hB.block _ (by omega)).trans hvp, HR.out, hc, HZ.out, by rw [HT.out]; exact hT04, rfl, by rw [HT.out]; exact HVx⟩) ?assign ?body ?done ?stop
        case hI =>
          intro m s B C row hs hg hr
          exact hs.kept hg hlt1 hlt2 hr
        case hIx =>
          intro s B C row hs hg hr
          exact hs.kept hg hlt1 hr
        case assign =>
          intro l' x B K hK
          simp only [pcsA, pcs, pcsO] at hK ⊢
          gi_wp2
          exact hK
        case body =>
          intro l' m pre x b B hm' hI hpre' hb' hbx
          obtain ⟨g1, g2, g3, g4, T2, f2, A2, c2, ps, rest, g5, g6, g7, g8, g9, g10, g11, g12, g13⟩ := hI
          obtain ⟨z, hz⟩ := hpre'
          obtain rfl : rest = x :: z := by
            rw [← hz, List.append_assoc] at g12
            exact (List.append_cancel_left g12).symm
          have HXZ : Hid (pre ++ x :: z = xs) := g12.symm
          obtain ⟨y0, y1, _, _⟩ := pcs_cells hbx
          have cT := cell_heap g5
          have cE := cell_heap g6
          have cP := cell_heap g7
          have cR := cell_heap g4
          have fR := frozen_heap g4
          have cA := cell_heap g3
          have HG := Lib.hid (And.intro hva (And.intro hvp (And.intro hvr (And.intro hvT (And.intro hvE (And.intro g13 g12))))))
          clear hva hvp hvr hvT hvE hseq HVx hbx1 hbx hz
          by_cases hf : f2 = 0
          · subst hf
            cases ps with
            | nil =>
              obtain rfl : v = false := g13.symm
              have hP0 : B.cell? ⟨w.heap.size + 1, 0, none⟩ = some (.slice A2 0 c2) := cP
              clear g13 g12
              gi_wp2
              exact ⟨⟨by simp [World.setCell], fun j h1 h2 => Below.heap_setCell _ _ _ j (by simp only; omega)⟩, g2.setCell (by simp only; omega) _, Boxed.set (t := 4) _ g4, rfl⟩
            | cons p ps =>
              obtain ⟨g, off, rfl, hg, hcell⟩ := g8 0 (by simp)
              have hpc : B.cell? ⟨g, off, none⟩ = some (.string p) := (g2.cell (p := ⟨g, off, none⟩) hg).trans hcell
              have fT := frozen_heap g5
              have fE := frozen_heap g6
              have fP := frozen_heap g7
              have hP1 : B.cell? ⟨w.heap.size + 1, 0, none⟩ = some (.slice (some ⟨g, off, none⟩) (ps.length + 1) c2) := cP
              have hpz := g10 p (by simp)
              have q0 : (0 : Int) < (ps.length : Int) + 1 := by omega
              have q1 : ((ps.length : Int) + 1 == 0) = false := by rw [beq_eq_false_iff_ne]; omega
              have q2 : (1 : Int) ≤ (ps.length : Int) + 1 := by omega
              have q3 : (1 : Int) ≤ (c2 : Int) := by have : (p :: ps).length = ps.length + 1 := rfl; omega
              by_cases hxk : x.2 ≤ k
              · have hxk2 : (x.2 : Int) ≤ (k : Int) := by omega
                have hst : stepU k x T2.data.toList p.data.toList = over p.data.toList T2.data.toList := if_pos hxk
                have hgo : goes r.data.toList k z (over p.data.toList T2.data.toList) (bl ps) = v := by rw [← hst]; exact (if_pos rfl).symm.trans g13
                have hgl : (over p.data.toList T2.data.toList).1.length ≤ 4000 := over_len _ _
                obtain ⟨xx, ff, hxf⟩ : ∃ xx ff, over p.data.toList T2.data.toList = (xx, ff) := ⟨_, _, rfl⟩
                have HJN : Hid (∀ w, Calls Try.prog 40 #[.string p, .string T2] w fun e w' => Sr (xx, ff) e ∧ Below w.heap.size w w') := Lib.hid fun w => by rw [← hxf]; exact cjoin_any p T2 w hpz (by rw [Lib.size_eq]; omega)
                rw [hxf] at hgo hgl
                have HGO := Lib.hid hgo
                have d1 : B.drew.cell? ⟨w3.heap.size, 0, none⟩ = some (.string T2) := cT
                have d2 : B.drew.cell? ⟨w3.heap.size + 1, 0, none⟩ = some (.int .i64 0) := cE
                have d3 : B.drew.cell? ⟨w.heap.size + 1, 0, none⟩ = some (.slice (some ⟨g, off, none⟩) (ps.length + 1) c2) := hP1
                have d4 : B.drew.cell? ⟨g, off, none⟩ = some (.string p) := hpc
                have d5 : B.drew.frozen? ⟨w3.heap.size, 0, none⟩ = false := fT
                have d6 : B.drew.frozen? ⟨w3.heap.size + 1, 0, none⟩ = false := fE
                have d7 : B.drew.frozen? ⟨w.heap.size + 1, 0, none⟩ = false := fP
                have l1 : w3.heap.size < B.drew.heap.size := (Array.getElem?_eq_some_iff.1 g5).1
                have l2 : w3.heap.size + 1 < B.drew.heap.size := (Array.getElem?_eq_some_iff.1 g6).1
                have l3 : w.heap.size + 1 < B.drew.heap.size := (Array.getElem?_eq_some_iff.1 g7).1
                have n1 : w.heap.size + 1 ≠ w3.heap.size := by omega
                have n2 : w.heap.size + 1 ≠ w3.heap.size + 1 := by omega
                have n3 := Ne.symm n1
                have n4 := Ne.symm n2
                have hmix : Try.prog.follows .mixedOrders = true := by kernel_rfl
                clear g13 g12 hst hgo hxf
                gi_wp2_with fail
                gi_region_with_o (first
                  | (refine ⟨trivial, rfl, ?_⟩
                     refine CallsIn.inRound l' (callsIn_wide.2 ?_)
                     with_reducible refine (HJN.out _).mono ?_
                     rintro e B2 ⟨⟨T3, hT3, rfl⟩, hb2⟩
                     have HT3 := Lib.hid hT3
                     have HB2 := Lib.hid hb2
                     have e1 := (hb2.cell (p := ⟨w3.heap.size, 0, none⟩) l1).trans d1
                     have e2 := (hb2.cell (p := ⟨w3.heap.size + 1, 0, none⟩) l2).trans d2
                     have e3 := (hb2.cell (p := ⟨w.heap.size + 1, 0, none⟩) l3).trans d3
                     have e4 := (hb2.frozen (p := ⟨w3.heap.size, 0, none⟩) l1).trans d5
                     have e5 := (hb2.frozen (p := ⟨w3.heap.size + 1, 0, none⟩) l2).trans d6
                     have e6 := (hb2.frozen (p := ⟨w.heap.size + 1, 0, none⟩) l3).trans d7
                     clear hT3 hb2 d1 d2 d3 d4 d5 d6 d7 cT cE cP hpc cR fR fT fE fP cA
                     dsimp only))
                all_goals gi_wp2
                all_goals first
                  | exact VeI.step g1 g2 g3 g4 g5 g6 g7 (sreads_drop g8 1) (by have : (p :: ps).length = ps.length + 1 := rfl; omega) (fun y hy => g10 y (List.mem_cons_of_mem _ hy)) (by rw [HT3.out]; exact hgl) HXZ.out (by rw [HT3.out]; exact HGO.out) HB2.out hlt3 hlt2 hm'
                  | exact VeI.step g1 g2 g3 g4 g5 g6 g7 (fun j hj => absurd hj (by have : (p :: ps).length = ps.length + 1 := rfl; omega)) (by have : (p :: ps).length = ps.length + 1 := rfl; omega) (fun y hy => g10 y (List.mem_cons_of_mem _ hy)) (by rw [HT3.out]; exact hgl) HXZ.out (by rw [HT3.out]; exact HGO.out) HB2.out hlt3 hlt2 hm'
              · have hxk2 : ¬ (x.2 : Int) ≤ (k : Int) := by omega
                have hst : stepU k x T2.data.toList p.data.toList = over T2.data.toList p.data.toList := if_neg hxk
                have hgo : goes r.data.toList k z (over T2.data.toList p.data.toList) (bl ps) = v := by rw [← hst]; exact (if_pos rfl).symm.trans g13
                have hgl : (over T2.data.toList p.data.toList).1.length ≤ 4000 := over_len _ _
                obtain ⟨xx, ff, hxf⟩ : ∃ xx ff, over T2.data.toList p.data.toList = (xx, ff) := ⟨_, _, rfl⟩
                have HJN : Hid (∀ w, Calls Try.prog 40 #[.string T2, .string p] w fun e w' => Sr (xx, ff) e ∧ Below w.heap.size w w') := Lib.hid fun w => by rw [← hxf]; exact cjoin_any T2 p w (by rw [Lib.size_eq]; omega) hpz
                rw [hxf] at hgo hgl
                have HGO := Lib.hid hgo
                have d1 : B.drew.cell? ⟨w3.heap.size, 0, none⟩ = some (.string T2) := cT
                have d2 : B.drew.cell? ⟨w3.heap.size + 1, 0, none⟩ = some (.int .i64 0) := cE
                have d3 : B.drew.cell? ⟨w.heap.size + 1, 0, none⟩ = some (.slice (some ⟨g, off, none⟩) (ps.length + 1) c2) := hP1
                have d4 : B.drew.cell? ⟨g, off, none⟩ = some (.string p) := hpc
                have d5 : B.drew.frozen? ⟨w3.heap.size, 0, none⟩ = false := fT
                have d6 : B.drew.frozen? ⟨w3.heap.size + 1, 0, none⟩ = false := fE
                have d7 : B.drew.frozen? ⟨w.heap.size + 1, 0, none⟩ = false := fP
                have l1 : w3.heap.size < B.drew.heap.size := (Array.getElem?_eq_some_iff.1 g5).1
                have l2 : w3.heap.size + 1 < B.drew.heap.size := (Array.getElem?_eq_some_iff.1 g6).1
                have l3 : w.heap.size + 1 < B.drew.heap.size := (Array.getElem?_eq_some_iff.1 g7).1
                have n1 : w.heap.size + 1 ≠ w3.heap.size := by omega
                have n2 : w.heap.size + 1 ≠ w3.heap.size + 1 := by omega
                have n3 := Ne.symm n1
                have n4 := Ne.symm n2
                have hmix : Try.prog.follows .mixedOrders = true := by kernel_rfl
                clear g13 g12 hst hgo hxf
                gi_wp2_with fail
                gi_region_with_o (first
                  | (refine ⟨trivial, rfl, ?_⟩
                     refine CallsIn.inRound l' (callsIn_wide.2 ?_)
                     with_reducible refine (HJN.out _).mono ?_
                     rintro e B2 ⟨⟨T3, hT3, rfl⟩, hb2⟩
                     have HT3 := Lib.hid hT3
                     have HB2 := Lib.hid hb2
                     have e1 := (hb2.cell (p := ⟨w3.heap.size, 0, none⟩) l1).trans d1
                     have e2 := (hb2.cell (p := ⟨w3.heap.size + 1, 0, none⟩) l2).trans d2
                     have e3 := (hb2.cell (p := ⟨w.heap.size + 1, 0, none⟩) l3).trans d3
                     have e4 := (hb2.frozen (p := ⟨w3.heap.size, 0, none⟩) l1).trans d5
                     have e5 := (hb2.frozen (p := ⟨w3.heap.size + 1, 0, none⟩) l2).trans d6
                     have e6 := (hb2.frozen (p := ⟨w.heap.size + 1, 0, none⟩) l3).trans d7
                     clear hT3 hb2 d1 d2 d3 d4 d5 d6 d7 cT cE cP hpc cR fR fT fE fP cA
                     dsimp only))
                all_goals gi_wp2
                all_goals first
                  | exact VeI.step g1 g2 g3 g4 g5 g6 g7 (sreads_drop g8 1) (by have : (p :: ps).length = ps.length + 1 := rfl; omega) (fun y hy => g10 y (List.mem_cons_of_mem _ hy)) (by rw [HT3.out]; exact hgl) HXZ.out (by rw [HT3.out]; exact HGO.out) HB2.out hlt3 hlt2 hm'
                  | exact VeI.step g1 g2 g3 g4 g5 g6 g7 (fun j hj => absurd hj (by have : (p :: ps).length = ps.length + 1 := rfl; omega)) (by have : (p :: ps).length = ps.length + 1 := rfl; omega) (fun y hy => g10 y (List.mem_cons_of_mem _ hy)) (by rw [HT3.out]; exact hgl) HXZ.out (by rw [HT3.out]; exact HGO.out) HB2.out hlt3 hlt2 hm'
          · have q : (f2 == 0) = false := by simpa using hf
            have q' : (f2 != 0) = true := by simpa using hf
            obtain rfl : v = false := by
              rw [← g13]
              cases ps with
              | nil => rfl
              | cons p ps => exact if_neg hf
            clear g13 g12
            gi_wp2
            exact ⟨⟨by simp [World.setCell], fun j h1 h2 => Below.heap_setCell _ _ _ j (by simp only; omega)⟩, g2.setCell (by simp only; omega) _, Boxed.set (t := 4) _ g4, rfl⟩
        case done =>
          intro m B hm' hI hD
          obtain ⟨g1, g2, g3, g4, T2, f2, A2, c2, ps, rest, g5, g6, g7, g8, g9, g10, g11, g12, g13⟩ := hI
          obtain rfl : rest = [] := by simpa using g12.symm
          have cT := cell_heap g5
          have cE := cell_heap g6
          have cP := cell_heap g7
          have cR := cell_heap g4
          have fR := frozen_heap g4
          have hg13 : (decide (f2 = 0) && (decide (bl ps = []) && decide (T2.data.toList = r.data.toList))) = v := g13
          have hp0 : bl ps = [] ↔ ps.length = 0 := bl_nil
          dsimp only [Exit.inBlock, Exit.then]
          refine (by assumption : ∀ (a : Act) (w : World), Code.wp Try.prog _ _ a w → _) _ _ ?_
          refine (wpIn_wide (n := 0)).1 ?_
          have HG := Lib.hid (And.intro hva (And.intro hvp (And.intro hvr (And.intro hvT (And.intro hvE (And.intro g13 g12))))))
          clear hva hvp hvr hvT hvE g13 g12 hseq HVx hbx1
          by_cases hf : f2 = 0
          · by_cases hp : ps.length = 0
            · by_cases hs : T2.data.toList = r.data.toList
              · have q := s_eq hs
                obtain rfl : v = true := by rw [← hg13, decide_eq_true hf, decide_eq_true (hp0.2 hp), decide_eq_true hs]; rfl
                subst hf
                rw [hp] at cP
                clear hg13 hs hp hp0
                gi_wp2
                refine ⟨by simp, .inl ⟨_, _, rfl, run_takeDeferred (by rw [Below.heap_setCell _ _ _ _ (by simp only; omega)]; exact hD), ?_⟩⟩
                have hz := set_box (u := .bool true) (o := .deferred none) g4 hlt1
                refine ⟨.bool true, by simp [results, Try.results18, go_sem, hz.1, hz.2], rfl, ?_⟩
                exact (g2.setCell (by simp only; omega) _).grown (grownBy_putObj' _ _ _) (Nat.le_trans g2.size (by simp [World.setCell])) (fun j e => by cases e; omega)
              · have q := s_ne hs
                obtain rfl : v = false := by rw [← hg13, decide_eq_true hf, decide_eq_true (hp0.2 hp), decide_eq_false hs]; rfl
                subst hf
                rw [hp] at cP
                clear hg13 hs hp hp0
                gi_wp2
                refine ⟨by simp, .inl ⟨_, _, rfl, run_takeDeferred (by rw [Below.heap_setCell _ _ _ _ (by simp only; omega)]; exact hD), ?_⟩⟩
                have hz := set_box (u := .bool false) (o := .deferred none) g4 hlt1
                refine ⟨.bool false, by simp [results, Try.results18, go_sem, hz.1, hz.2], rfl, ?_⟩
                exact (g2.setCell (by simp only; omega) _).grown (grownBy_putObj' _ _ _) (Nat.le_trans g2.size (by simp [World.setCell])) (fun j e => by cases e; omega)
            · have q : ((ps.length : Int) == 0) = false := by rw [beq_eq_false_iff_ne]; omega
              obtain rfl : v = false := by rw [← hg13, decide_eq_true hf, decide_eq_false (fun h => hp (hp0.1 h))]; rfl
              subst hf
              clear hg13 hp0
              gi_wp2
              refine ⟨by simp, .inl ⟨_, _, rfl, run_takeDeferred (by rw [Below.heap_setCell _ _ _ _ (by simp only; omega)]; exact hD), ?_⟩⟩
              have hz := set_box (u := .bool false) (o := .deferred none) g4 hlt1
              refine ⟨.bool false, by simp [results, Try.results18, go_sem, hz.1, hz.2], rfl, ?_⟩
              exact (g2.setCell (by simp only; omega) _).grown (grownBy_putObj' _ _ _) (Nat.le_trans g2.size (by simp [World.setCell])) (fun j e => by cases e; omega)
          · have q : (f2 == 0) = false := by simpa using hf
            obtain rfl : v = false := by rw [← hg13, decide_eq_false hf]; rfl
            clear hg13 hp0
            gi_wp2
            refine ⟨by simp, .inl ⟨_, _, rfl, run_takeDeferred (by rw [Below.heap_setCell _ _ _ _ (by simp only; omega)]; exact hD), ?_⟩⟩
            have hz := set_box (u := .bool false) (o := .deferred none) g4 hlt1
            refine ⟨.bool false, by simp [results, Try.results18, go_sem, hz.1, hz.2], rfl, ?_⟩
            exact (g2.setCell (by simp only; omega) _).grown (grownBy_putObj' _ _ _) (Nat.le_trans g2.size (by simp [World.setCell])) (fun j e => by cases e; omega)
        case stop =>
          intro pre B hpre' hI hD
          obtain ⟨g2, g4, rfl⟩ := hI
          gi_wp2
          refine ⟨by simp, .inl ⟨_, _, rfl, run_takeDeferred hD, ?_⟩⟩
          have hz := put_box (o := .deferred none) g4 hlt1
          refine ⟨.bool false, by simp [results, Try.results18, go_sem, hz.1, hz.2], rfl, ?_⟩
          exact g2.grown (grownBy_putObj' _ _ _) g2.size (fun j e => by cases e; omega)
    · rw [decide_eq_false hp] at HPL
      obtain rfl : v = false := no (fun h => (And.intro (hvt h).2.2.1 (hvt h).2.2.2.1)) hp
      clear hv hvt no hr hz
      go_enter Try.func18, Try.ntmps18
      go_wp2_with fail
      obtain ⟨X, hX⟩ : ∃ X, ((w.alloc (.cells #[.int .i64 i] 3)).alloc (.cells #[.slice A ys.length c] 23)).alloc (.cells #[.bool false] 4) = X := ⟨_, rfl⟩
      have hx0 := boxes3 w (.int .i64 i) (.slice A ys.length c) (.bool false) 3 23 4
      rw [hX] at hx0
      obtain ⟨hx1, hx2, hx3, hx4, hx5⟩ := hx0
      have HWX := Lib.hid hx1
      have HXs := Lib.hid hx2
      have HXa := Lib.hid hx3
      have HXp := Lib.hid hx4
      have HXr := Lib.hid hx5
      have ca := cell_heap hx3
      have cr := cell_heap hx5
      have fr := frozen_heap hx5
      rw [hX]
      clear hX hx1 hx2 hx3 hx4 hx5
      with_reducible refine (HIM.out _).mono ?_
      rintro e w2 ⟨rfl, hw⟩
      obtain rfl : X = w2 := hw.symm
      dsimp only
      go_wp2_with fail
      with_reducible refine (HPL.out _).mono ?_
      rintro e w2 ⟨rfl, hw⟩
      obtain rfl : X = w2 := hw.symm
      dsimp only
      go_wp2
      refine bodyPost_ret (v := .bool false) (by simp [results, Try.results18, go_sem, cr, fr]) rfl ?_
      exact ⟨rfl, HWX.out.setCell (by simp only; omega) _⟩
  · rw [decide_eq_false hm] at HIM
    obtain rfl : v = false := no (fun h => (And.intro (hvt h).1 (hvt h).2.1)) hm
    clear hv hvt no hr hz
    go_enter Try.func18, Try.ntmps18
    go_wp2_with fail
    obtain ⟨X, hX⟩ : ∃ X, ((w.alloc (.cells #[.int .i64 i] 3)).alloc (.cells #[.slice A ys.length c] 23)).alloc (.cells #[.bool false] 4) = X := ⟨_, rfl⟩
    have hx0 := boxes3 w (.int .i64 i) (.slice A ys.length c) (.bool false) 3 23 4
    rw [hX] at hx0
    obtain ⟨hx1, hx2, hx3, hx4, hx5⟩ := hx0
    have HWX := Lib.hid hx1
    have HXs := Lib.hid hx2
    have HXa := Lib.hid hx3
    have HXp := Lib.hid hx4
    have HXr := Lib.hid hx5
    have ca := cell_heap hx3
    have cr := cell_heap hx5
    have fr := frozen_heap hx5
    rw [hX]
    clear hX hx1 hx2 hx3 hx4 hx5
    with_reducible refine (HIM.out _).mono ?_
    rintro e w2 ⟨rfl, hw⟩
    obtain rfl : X = w2 := hw.symm
    dsimp only
    go_wp2
    refine bodyPost_ret (v := .bool false) (by simp [results, Try.results18, go_sem, cr, fr]) rfl ?_
    exact ⟨rfl, HWX.out.setCell (by simp only; omega) _⟩
end Go.Proofs.Ytblgcpopcgnncaa.Tre
