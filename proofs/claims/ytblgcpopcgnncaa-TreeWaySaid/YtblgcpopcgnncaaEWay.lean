/-
  THE LANDED CODE (package tree): way, a range over a function that is made of itself. By an AI agent; no person has read it.
-/
import Derived.Test.YtblgcpopcgnncaaECode0
import Derived.Test.YtblgcpopcgnncaaERef3
import Derived.Test.YtblgcpopcgnncaaRng
import Derived.Test.YtblgcpopcgnncaaOrd
import Derived.Deep.RegionHeld
import Derived.OwnWalkIn
import Derived.TacticsInMore
import Derived.Shelf.RegionOpen
namespace Go.Proofs.Ytblgcpopcgnncaa.Tre
open Go Go.RowKit Go.Shelf Wire Term Draw Reg Clo

attribute [local go_sem] Oper.semAt_some
set_option linter.unusedSimpArgs false
set_option linter.unusedVariables false
theorem region_join {P : Program} {c : Code} {Q : Exit → Act → World → Prop} {a : Act} {w : World} (R : Act → Exit → Act → World → Prop) (h1 : c.wp P (R a) a w) (h2 : ∀ ex a' w', R a ex a' w' → Q ex a' w') : c.wp P Q a w :=
  Code.wp_mono (fun e a' w' h => h2 e a' w' h) h1
/-- The pieces beside the way from a place, the lowest one first. -/
def wayL : Nat → Nat → Nat → Nat → List (Nat × Nat)
  | 0, _, _, _ => []
  | d + 1, i, f, t => if t - f = 1 then [] else
    if i < f + fst (t - f) then wayL d i f (f + fst (t - f)) ++ [(f + fst (t - f), t)]
    else wayL d i (f + fst (t - f)) t ++ [(f, f + fst (t - f))]
def pcs (x : Nat × Nat) : Value := .agg #[.int .i64 (x.1 : Int), .int .i64 (x.2 : Int)]
def pcsA (x : Nat × Nat) : Array Value := #[pcs x]
def pcsO (x : Nat × Nat) : Obj := .cells #[.int .i64 (x.1 : Int), .int .i64 (x.2 : Int)] 55
set_option maxHeartbeats 4000000 in
set_option maxRecDepth 1000000 in
theorem way_any (i f t : Nat) (w : World) : Calls Try.prog 38 #[.int .i64 (i : Int), .int .i64 (f : Int), .int .i64 (t : Int)] w fun e w' =>
    e = .returned (.func (.func 58) #[] #[.pointer (some ⟨w.heap.size + 2, 0, none⟩), .pointer (some ⟨w.heap.size + 1, 0, none⟩), .pointer (some ⟨w.heap.size, 0, none⟩)]) ∧
    w' = ((w.alloc (.cells #[.int .i64 (i : Int)] 3)).alloc (.cells #[.int .i64 (f : Int)] 3)).alloc (.cells #[.int .i64 (t : Int)] 3) := by
  go_enter Try.func38, Try.ntmps38
  go_wp2
  go_ret
  exact ⟨rfl, rfl⟩
/-- Two new blocks, each of a piece. -/
structure Two (X : World) (bw bb : Nat) (x y : Nat × Nat) (w' : World) : Prop where
  bel : Below X.heap.size X w'
  lw : X.heap.size ≤ bw
  lb : X.heap.size ≤ bb
  ne : bw ≠ bb
  hw : w'.heap[bw]? = some (pcsO x)
  hb : w'.heap[bb]? = some (pcsO y)
theorem pcs_cells {W : World} {b : Nat} {x : Nat × Nat} (h : W.heap[b]? = some (pcsO x)) : W.cell? ⟨b, 0, none⟩ = some (.int .i64 (x.1 : Int)) ∧ W.cell? ⟨b, 1, none⟩ = some (.int .i64 (x.2 : Int)) ∧ W.frozen? ⟨b, 0, none⟩ = false ∧ W.frozen? ⟨b, 1, none⟩ = false := by
  unfold pcsO at h
  refine ⟨?_, ?_, ?_, ?_⟩ <;> simp [World.cell?, World.frozen?, h]
theorem Two.below {X : World} {bw bb : Nat} {x y : Nat × Nat} {w' w2 : World} (h : Two X bw bb x y w') (hb : Below w'.heap.size w' w2) : Two X bw bb x y w2 :=
  ⟨h.bel.trans (hb.mono h.bel.size), h.lw, h.lb, h.ne, (hb.block bw (Array.getElem?_eq_some_iff.1 h.hw).1).trans h.hw, (hb.block bb (Array.getElem?_eq_some_iff.1 h.hb).1).trans h.hb⟩
theorem set_heap {W : World} {b : Nat} {x z : Nat × Nat} (h : W.heap[b]? = some (pcsO x)) : ((W.setCell ⟨b, 0, none⟩ (.int .i64 (z.1 : Int))).setCell ⟨b, 1, none⟩ (.int .i64 (z.2 : Int))).heap[b]? = some (pcsO z) := by
  unfold pcsO at h ⊢
  simp [World.setCell, Array.getElem?_modify, h]
theorem two_swap {X : World} {bw bb : Nat} {x y : Nat × Nat} {w' : World} (h : Two X bw bb x y w') : Two X bw bb y x ((((w'.setCell ⟨bw, 0, none⟩ (.int .i64 (y.1 : Int))).setCell ⟨bw, 1, none⟩ (.int .i64 (y.2 : Int))).setCell ⟨bb, 0, none⟩ (.int .i64 (x.1 : Int))).setCell ⟨bb, 1, none⟩ (.int .i64 (x.2 : Int))) := by
  have hne := h.ne
  have e1 := set_heap (z := y) h.hw
  have e2 : ((w'.setCell ⟨bw, 0, none⟩ (.int .i64 (y.1 : Int))).setCell ⟨bw, 1, none⟩ (.int .i64 (y.2 : Int))).heap[bb]? = some (pcsO y) := by
    rw [Below.heap_setCell _ _ _ _ (Ne.symm hne), Below.heap_setCell _ _ _ _ (Ne.symm hne)]; exact h.hb
  refine ⟨(((h.bel.setCell h.lw _).setCell h.lw _).setCell h.lb _).setCell h.lb _, h.lw, h.lb, hne, ?_, set_heap (z := x) e2⟩
  rw [Below.heap_setCell _ _ _ _ hne, Below.heap_setCell _ _ _ _ hne]; exact e1
/-- The closure's boxes. -/
structure Bxs (w : World) (bt bf bi : Nat) (i f t : Nat) : Prop where
  t0 : w.cell? ⟨bt, 0, none⟩ = some (.int .i64 (t : Int))
  f0 : w.cell? ⟨bf, 0, none⟩ = some (.int .i64 (f : Int))
  i0 : w.cell? ⟨bi, 0, none⟩ = some (.int .i64 (i : Int))
  lt : bt < w.heap.size
  lf : bf < w.heap.size
  li : bi < w.heap.size
theorem Bxs.below {w w' : World} {bt bf bi i f t : Nat} (h : Bxs w bt bf bi i f t) (hb : Below w.heap.size w w') : Bxs w' bt bf bi i f t :=
  ⟨(hb.cell (p := ⟨bt, 0, none⟩) h.lt).trans h.t0, (hb.cell (p := ⟨bf, 0, none⟩) h.lf).trans h.f0, (hb.cell (p := ⟨bi, 0, none⟩) h.li).trans h.i0, Nat.lt_of_lt_of_le h.lt hb.size, Nat.lt_of_lt_of_le h.lf hb.size, Nat.lt_of_lt_of_le h.li hb.size⟩
theorem cell_heap {W : World} {b : Nat} {v : Value} {T : TypeId} (h : W.heap[b]? = some (.cells #[v] T)) : W.cell? ⟨b, 0, none⟩ = some v := by
  simp only [World.cell?, h]
  rfl
theorem three_below (V : World) (a b c : Obj) : Below V.heap.size V (((V.alloc a).alloc b).alloc c) :=
  (((Below.refl _ V).alloc (Nat.le_refl _) a).alloc (by simp) b).alloc (by simp; omega) c
theorem boxes_new (V : World) (i f t : Nat) : Bxs (((V.alloc (.cells #[.int .i64 (i : Int)] 3)).alloc (.cells #[.int .i64 (f : Int)] 3)).alloc (.cells #[.int .i64 (t : Int)] 3)) (V.heap.size + 2) (V.heap.size + 1) V.heap.size i f t := by
  have a1 := World.alloc_heap_new V (.cells #[.int .i64 (i : Int)] 3)
  have a2 := World.alloc_heap_new (V.alloc (.cells #[.int .i64 (i : Int)] 3)) (.cells #[.int .i64 (f : Int)] 3)
  have a3 := World.alloc_heap_new ((V.alloc (.cells #[.int .i64 (i : Int)] 3)).alloc (.cells #[.int .i64 (f : Int)] 3)) (.cells #[.int .i64 (t : Int)] 3)
  simp only [World.size_alloc] at a2 a3
  have b1 : ((V.alloc (.cells #[.int .i64 (i : Int)] 3)).alloc (.cells #[.int .i64 (f : Int)] 3)).heap[V.heap.size]? = _ := (Below.heap_alloc _ _ _ (by simp)).trans a1
  have c1 : (((V.alloc (.cells #[.int .i64 (i : Int)] 3)).alloc (.cells #[.int .i64 (f : Int)] 3)).alloc (.cells #[.int .i64 (t : Int)] 3)).heap[V.heap.size]? = _ := (Below.heap_alloc _ _ _ (by simp; omega)).trans b1
  have c2 : (((V.alloc (.cells #[.int .i64 (i : Int)] 3)).alloc (.cells #[.int .i64 (f : Int)] 3)).alloc (.cells #[.int .i64 (t : Int)] 3)).heap[V.heap.size + 1]? = _ := (Below.heap_alloc _ _ _ (by simp)).trans a2
  exact ⟨cell_heap a3, cell_heap c2, cell_heap c1, by simp, by simp, by simp; omega⟩
set_option maxHeartbeats 4000000 in
set_option maxRecDepth 1000000 in
theorem way_iter : ∀ (d i f t bt bf bi : Nat) (w : World), d ≤ 3 → f ≤ i → i < t → t - f ≤ 2 ^ d → t ≤ 8 → Bxs w bt bf bi i f t →
    IterOK Try.prog 58 #[.pointer (some ⟨bt, 0, none⟩), .pointer (some ⟨bf, 0, none⟩), .pointer (some ⟨bi, 0, none⟩)] pcsA (wayL (d + 1) i f t) w := by
  have one : ∀ (d i f t bt bf bi : Nat) (w : World), f < t → t ≤ 8 → t - f = 1 → Bxs w bt bf bi i f t →
      IterOK Try.prog 58 #[.pointer (some ⟨bt, 0, none⟩), .pointer (some ⟨bf, 0, none⟩), .pointer (some ⟨bi, 0, none⟩)] pcsA (wayL (d + 1) i f t) w := by
    intro d i f t bt bf bi w hft ht8 h1 hbx l J Jx W hbW hJ hJx hJm hJ0 hY
    obtain ⟨ct, cf, ci, lt, lf, li⟩ := hbx.below hbW
    have hw1 : IntKind.i64.wrap ((t : Int) - (f : Int)) = 1 := by rw [IntKind.wrap_i64]; omega
    have hpieces : wayL (d + 1) i f t = [] := by
      show (if t - f = 1 then [] else _) = _
      rw [if_pos h1]
    have HP := Lib.hid hpieces
    have HJ0 := Lib.hid hJ0
    have hbX : Below W.heap.size W (W.alloc (Obj.cells #[Value.func (Fn.yield l) #[] #[]] 67)) := (Below.refl _ W).alloc (Nat.le_refl _) _
    have HBX := Lib.hid hbX
    clear hbW hJ hJx hJm hJ0 hY hbx hpieces hbX
    refine callsIn_wide (n := 0).1 ?_
    refine callsIn_of_wp_marks Try.func58 rfl trivial ?_
    simp only [Try.ntmps58, List.size_toArray, List.length_cons, List.length_nil, Nat.reduceAdd, Nat.reduceSub, Array.replicate_succ, Array.replicate_zero, List.push_toArray, List.append_toArray, List.nil_append, List.cons_append]
    refine wpIn_wide.2 ?_
    go_wp2
    exact ⟨_, results_none rfl _ _ _, ⟨_, rfl⟩, .inl ⟨_, HBX.out.size, by rw [HP.out]; exact HJ0.out _ HBX.out⟩⟩
  intro d
  induction d with
  | zero =>
    intro i f t bt bf bi w hd hfi hit htf ht8 hbx
    exact one 0 i f t bt bf bi w (by omega) ht8 (by omega) hbx
  | succ d ih =>
    intro i f t bt bf bi w hd hfi hit htf ht8 hbx
    by_cases h1 : t - f = 1
    · exact one (d + 1) i f t bt bf bi w (by omega) ht8 h1 hbx
    · intro l J Jx W hbW hJ hJx hJm hJ0 hY
      obtain ⟨ct, cf, ci, lt, lf, li⟩ := hbx.below hbW
      obtain ⟨n2, n8, p1, p2, k0, k1⟩ := fst_half0 (n := t - f) (d := d) h1 (by omega) (by omega) htf
      have HFI := Lib.hid fun w => cfirst_any (t - f) w n2 n8
      obtain ⟨K, hK⟩ : ∃ K, fst (t - f) = K := ⟨_, rfl⟩
      rw [hK] at p1 p2 k0 k1 HFI
      have hw1 : IntKind.i64.wrap ((t : Int) - (f : Int)) = ((t - f : Nat) : Int) := by rw [IntKind.wrap_i64]; omega
      have hw2 : IntKind.i64.wrap ((f : Int) + (K : Int)) = ((f + K : Nat) : Int) := by rw [IntKind.wrap_i64]; omega
      have hb2 : (((t - f : Nat) : Int) == 1) = false := by rw [beq_eq_false_iff_ne]; omega
      have HH := Lib.hid (And.intro hbW (And.intro hJ (And.intro hJx (And.intro hJm (And.intro hJ0 hY)))))
      have HIH := Lib.hid ih
      clear hbW hJ hJx hJm hJ0 hY hbx ih one
      generalize hn : t - f = n at *
      generalize hm : f + K = mid at *
      refine callsIn_wide (n := 0).1 ?_
      refine callsIn_of_wp_marks Try.func58 rfl trivial ?_
      simp only [Try.ntmps58, List.size_toArray, List.length_cons, List.length_nil, Nat.reduceAdd, Nat.reduceSub, Array.replicate_succ, Array.replicate_zero, List.push_toArray, List.append_toArray, List.nil_append, List.cons_append]
      refine wpIn_wide.2 ?_
      go_wp2_with fail
      obtain ⟨X, hX⟩ : ∃ X, W.alloc (Obj.cells #[Value.func (Fn.yield l) #[] #[]] 67) = X := ⟨_, rfl⟩
      have ctX : X.cell? ⟨bt, 0, none⟩ = some (.int .i64 (t : Int)) := by rw [← hX]; exact (((Below.refl _ W).alloc (Nat.le_refl _) _).cell (p := ⟨bt, 0, none⟩) lt).trans ct
      have cfX : X.cell? ⟨bf, 0, none⟩ = some (.int .i64 (f : Int)) := by rw [← hX]; exact (((Below.refl _ W).alloc (Nat.le_refl _) _).cell (p := ⟨bf, 0, none⟩) lf).trans cf
      have ciX : X.cell? ⟨bi, 0, none⟩ = some (.int .i64 (i : Int)) := by rw [← hX]; exact (((Below.refl _ W).alloc (Nat.le_refl _) _).cell (p := ⟨bi, 0, none⟩) li).trans ci
      have hXs : X.heap.size = W.heap.size + 1 := by rw [← hX]; exact World.size_alloc _ _
      have hXY : X.heap[W.heap.size]? = some (Obj.cells #[Value.func (Fn.yield l) #[] #[]] 67) := by rw [← hX]; exact World.alloc_heap_new _ _
      have HWX : Hid (Below W.heap.size W X) := by rw [← hX]; exact (Below.refl _ W).alloc (Nat.le_refl _) _
      have ltX : bt < X.heap.size := by omega
      have lfX : bf < X.heap.size := by omega
      have liX : bi < X.heap.size := by omega
      rw [hX]
      have HXY := Lib.hid hXY
      have HXS := Lib.hid hXs
      clear hX ct cf ci lt lf li hXY hXs
      have hdr := Below.drewN' (Below.refl X.heap.size X) 1
      refine Ord.region_lit (S := fun w' => Below X.heap.size X w') (by kernel_rfl) (by kernel_rfl) hdr ?_
      clear hdr
      refine Ord.stepR (v := ?_) (by rfl) ?_ ?_
      rotate_left
      · intro w' hSw
        have ct' := (hSw.cell (p := ⟨bt, 0, none⟩) ltX).trans ctX
        have cf' := (hSw.cell (p := ⟨bf, 0, none⟩) lfX).trans cfX
        go_simp
        try with_reducible rfl
      try simp only [Act.put, List.setIfInBounds_toArray, List.set_cons_zero, List.set_cons_succ]
      refine Ord.stepR (v := ?_) (by rfl) ?_ ?_
      rotate_left
      · intro w' hSw
        have ct' := (hSw.cell (p := ⟨bt, 0, none⟩) ltX).trans ctX
        have cf' := (hSw.cell (p := ⟨bf, 0, none⟩) lfX).trans cfX
        go_simp
        try with_reducible rfl
      try simp only [Act.put, List.setIfInBounds_toArray, List.set_cons_zero, List.set_cons_succ]
      refine Ord.stepR (v := ?_) (by rfl) ?_ ?_
      rotate_left
      · intro w' hSw
        have ct' := (hSw.cell (p := ⟨bt, 0, none⟩) ltX).trans ctX
        have cf' := (hSw.cell (p := ⟨bf, 0, none⟩) lfX).trans cfX
        go_simp
        try with_reducible rfl
      try simp only [Act.put, List.setIfInBounds_toArray, List.set_cons_zero, List.set_cons_succ]
      refine Ord.stepR (v := ?_) (by rfl) ?_ ?_
      rotate_left
      · intro w' hSw
        have ct' := (hSw.cell (p := ⟨bt, 0, none⟩) ltX).trans ctX
        have cf' := (hSw.cell (p := ⟨bf, 0, none⟩) lfX).trans cfX
        go_simp
        try with_reducible rfl
      try simp only [Act.put, List.setIfInBounds_toArray, List.set_cons_zero, List.set_cons_succ]
      refine Ord.stepC (v := .int .i64 (K : Int)) (by rfl) ?_ (fun w1 hS => (HFI.out w1).mono fun e w2 h => ⟨h.1, by rw [h.2]; exact hS⟩) ?_
      · intro w' hSw
        go_simp
        try with_reducible rfl
      try simp only [Act.put, List.setIfInBounds_toArray, List.set_cons_zero, List.set_cons_succ]
      refine Ord.stepR (v := ?_) (by rfl) ?_ ?_
      rotate_left
      · intro w' hSw
        have ct' := (hSw.cell (p := ⟨bt, 0, none⟩) ltX).trans ctX
        have cf' := (hSw.cell (p := ⟨bf, 0, none⟩) lfX).trans cfX
        go_simp
        try with_reducible rfl
      try simp only [Act.put, List.setIfInBounds_toArray, List.set_cons_zero, List.set_cons_succ]
      refine Ord.stepR (v := ?_) (by rfl) ?_ ?_
      rotate_left
      · intro w' hSw
        have ct' := (hSw.cell (p := ⟨bt, 0, none⟩) ltX).trans ctX
        have cf' := (hSw.cell (p := ⟨bf, 0, none⟩) lfX).trans cfX
        go_simp
        try with_reducible rfl
      try simp only [Act.put, List.setIfInBounds_toArray, List.set_cons_zero, List.set_cons_succ]
      refine Ord.stepD fun Z hZ => ?_
      have ctZ := (hZ.cell (p := ⟨bt, 0, none⟩) ltX).trans ctX
      have cfZ := (hZ.cell (p := ⟨bf, 0, none⟩) lfX).trans cfX
      go_wp2_with fail
      refine region_join (R := fun a ex a' w' => ex = .normal ∧ ∃ bw bb : Nat, Two X bw bb (f, mid) (mid, t) w' ∧ a' = { tmps := #[.func (.yield l) #[] #[], .pointer (some ⟨bt, 0, none⟩), .pointer (some ⟨bf, 0, none⟩), .pointer (some ⟨bi, 0, none⟩), .pointer (some ⟨W.heap.size, 0, none⟩), .int .i64 (mid : Int), .pointer (some ⟨bw, 0, none⟩), .pointer (some ⟨bb, 0, none⟩), undef, .int .i64 (t : Int), .int .i64 (f : Int), .int .i64 (n : Int), .bool false, .int .i64 (f : Int), .int .i64 (t : Int), .int .i64 (f : Int), .int .i64 (n : Int), .int .i64 (K : Int), .int .i64 (mid : Int), .int .i64 (f : Int), .int .i64 (mid : Int), .agg #[.int .i64 (f : Int), .int .i64 (mid : Int)], .int .i64 (mid : Int), .int .i64 (t : Int), .agg #[.int .i64 (mid : Int), .int .i64 (t : Int)], undef, undef, undef, undef, undef, undef, undef, undef, undef, undef, undef, undef, undef, undef, undef, undef, undef, undef, undef], defers := [] }) ?_ ?_
      · refine wp_region_held_drew (S := fun w' => w'.cell? ⟨bt, 0, none⟩ = some (.int .i64 (t : Int)) ∧ w'.cell? ⟨bf, 0, none⟩ = some (.int .i64 (f : Int))) (by kernel_rfl) ⟨ctZ, cfZ⟩ (fun hHeld => ?_)
        have hz1 := Below.drewN' hZ 1
        obtain ⟨z, hz⟩ : ∃ z, Z.drew = z := ⟨_, rfl⟩
        have hz2 : Below X.heap.size X z := by rw [← hz]; exact hz1
        rw [hz] at hHeld ⊢
        have HZ := Lib.hid hz2
        clear hz hz1 hz2 ctZ cfZ hZ
        refine wpAnyH_take (i := 0) (v := ?_) (by rw [List.getElem?_toArray]; rfl) (by kernel_rfl) (by kernel_rfl) (by kernel_rfl) (by intro _ _ _ h; exact absurd h.1 (by simp)) (Or.inl ⟨by rfl, ?_⟩) (by assumption) ?_
        rotate_left
        · intro w' hSw
          obtain ⟨ct', cf'⟩ := hSw
          go_simp
          try with_reducible rfl
        try simp only [Act.put, List.setIfInBounds_toArray, List.set_cons_zero, List.set_cons_succ]
        refine wpAnyH_take (i := 1) (v := ?_) (by rw [List.getElem?_toArray]; rfl) (by kernel_rfl) (by kernel_rfl) (by kernel_rfl) (by intro _ _ _ h; exact absurd h.1 (by simp)) (Or.inl ⟨by rfl, ?_⟩) (by assumption) ?_
        rotate_left
        · intro w' hSw
          obtain ⟨ct', cf'⟩ := hSw
          go_simp
          try with_reducible rfl
        try simp only [Act.put, List.setIfInBounds_toArray, List.set_cons_zero, List.set_cons_succ]
        refine wpAnyH_take (i := 2) (v := ?_) (by rw [List.getElem?_toArray]; rfl) (by kernel_rfl) (by kernel_rfl) (by kernel_rfl) (by intro _ _ _ h; exact absurd h.1 (by simp)) (Or.inl ⟨by rfl, ?_⟩) (by assumption) ?_
        rotate_left
        · intro w' hSw
          obtain ⟨ct', cf'⟩ := hSw
          go_simp
          try with_reducible rfl
        try simp only [Act.put, List.setIfInBounds_toArray, List.set_cons_zero, List.set_cons_succ]
        refine wpAnyH_take (i := 3) (v := ?_) (by rw [List.getElem?_toArray]; rfl) (by kernel_rfl) (by kernel_rfl) (by kernel_rfl) (by intro _ _ _ h; exact absurd h.1 (by simp)) (Or.inl ⟨by rfl, ?_⟩) (by assumption) ?_
        rotate_left
        · intro w' hSw
          obtain ⟨ct', cf'⟩ := hSw
          go_simp
          try with_reducible rfl
        try simp only [Act.put, List.setIfInBounds_toArray, List.set_cons_zero, List.set_cons_succ]
        refine wpAnyH_take (i := 4) (v := ?_) (by rw [List.getElem?_toArray]; rfl) (by kernel_rfl) (by kernel_rfl) (by kernel_rfl) (by intro _ _ _ h; exact absurd h.1 (by simp)) (Or.inl ⟨by rfl, ?_⟩) (by assumption) ?_
        rotate_left
        · intro w' hSw
          obtain ⟨ct', cf'⟩ := hSw
          go_simp
          try with_reducible rfl
        try simp only [Act.put, List.setIfInBounds_toArray, List.set_cons_zero, List.set_cons_succ]
        refine wpAnyH_take (i := 5) (v := ?_) (by rw [List.getElem?_toArray]; rfl) (by kernel_rfl) (by kernel_rfl) (by kernel_rfl) (by intro _ _ _ h; exact absurd h.1 (by simp)) (Or.inl ⟨by rfl, ?_⟩) (by assumption) ?_
        rotate_left
        · intro w' hSw
          obtain ⟨ct', cf'⟩ := hSw
          go_simp
          try with_reducible rfl
        try simp only [Act.put, List.setIfInBounds_toArray, List.set_cons_zero, List.set_cons_succ]
        refine wpAnyH_ready (rs := [6, 7]) (by kernel_rfl) (by simp) ?_
        refine AllReadyH.cons (by rw [List.getElem?_toArray]; rfl) (fun K hK => ?_) ?_
        · go_simp
          have HZ1 := Lib.hid (HZ.out.alloc HZ.out.size (.cells #[.int .i64 0, .int .i64 0] 55))
          refine hK.out _ _ ⟨(HZ1.out.cell (p := ⟨bt, 0, none⟩) ltX).trans ctX, (HZ1.out.cell (p := ⟨bf, 0, none⟩) lfX).trans cfX⟩ (fun hHeld => ?_)
          clear hHeld
          try simp only [Act.put, List.setIfInBounds_toArray, List.set_cons_zero, List.set_cons_succ]
          refine wpAnyH_ready (rs := [7]) (by kernel_rfl) (by simp) ?_
          refine AllReadyH.cons (by rw [List.getElem?_toArray]; rfl) (fun K hK => ?_) AllReadyH.nil
          go_simp
          have HZ2 := Lib.hid (HZ1.out.alloc HZ1.out.size (.cells #[.int .i64 0, .int .i64 0] 55))
          refine hK.out _ _ ⟨(HZ2.out.cell (p := ⟨bt, 0, none⟩) ltX).trans ctX, (HZ2.out.cell (p := ⟨bf, 0, none⟩) lfX).trans cfX⟩ (fun hHeld => ?_)
          clear hHeld
          try simp only [Act.put, List.setIfInBounds_toArray, List.set_cons_zero, List.set_cons_succ]
          refine wpAnyH_ready (rs := [8]) (by kernel_rfl) (by simp) ?_
          refine AllReadyH.cons (by rw [List.getElem?_toArray]; rfl) (fun K hK => ?_) AllReadyH.nil
          go_simp
          have HZ3 := Lib.hid ((HZ.out.alloc HZ.out.size (pcsO (f, mid))).alloc (HZ.out.alloc HZ.out.size (pcsO (f, mid))).size (.cells #[.int .i64 0, .int .i64 0] 55))
          refine hK.out _ _ ⟨(HZ3.out.cell (p := ⟨bt, 0, none⟩) ltX).trans ctX, (HZ3.out.cell (p := ⟨bf, 0, none⟩) lfX).trans cfX⟩ (fun hHeld => ?_)
          clear hHeld
          try simp only [Act.put, List.setIfInBounds_toArray, List.set_cons_zero, List.set_cons_succ]
          refine wpAnyH_ready (rs := [9]) (by kernel_rfl) (by simp) ?_
          refine AllReadyH.cons (by rw [List.getElem?_toArray]; rfl) (fun K hK => ?_) AllReadyH.nil
          go_simp
          have HZ4 := Lib.hid ((HZ.out.alloc HZ.out.size (pcsO (f, mid))).alloc (HZ.out.alloc HZ.out.size (pcsO (f, mid))).size (pcsO (mid, t)))
          refine hK.out _ _ ⟨(HZ4.out.cell (p := ⟨bt, 0, none⟩) ltX).trans ctX, (HZ4.out.cell (p := ⟨bf, 0, none⟩) lfX).trans cfX⟩ (fun hHeld => ?_)
          clear hHeld
          try simp only [Act.put, List.setIfInBounds_toArray, List.set_cons_zero, List.set_cons_succ]
          refine wpAnyH_done (by kernel_rfl) ?_ _
          have hsz := HZ.out.size
          refine ⟨rfl, z.heap.size, z.heap.size + 1, ⟨HZ4.out, by omega, by omega, by omega, ?_, ?_⟩, rfl⟩
          · exact (Below.heap_alloc (z.alloc (pcsO (f, mid))) (pcsO (mid, t)) z.heap.size (by simp)).trans (World.alloc_heap_new z (pcsO (f, mid)))
          · have := World.alloc_heap_new (z.alloc (pcsO (f, mid))) (pcsO (mid, t))
            rwa [World.size_alloc] at this
        refine AllReadyH.cons (by rw [List.getElem?_toArray]; rfl) (fun K hK => ?_) AllReadyH.nil
        · go_simp
          have HZ1 := Lib.hid (HZ.out.alloc HZ.out.size (.cells #[.int .i64 0, .int .i64 0] 55))
          refine hK.out _ _ ⟨(HZ1.out.cell (p := ⟨bt, 0, none⟩) ltX).trans ctX, (HZ1.out.cell (p := ⟨bf, 0, none⟩) lfX).trans cfX⟩ (fun hHeld => ?_)
          clear hHeld
          try simp only [Act.put, List.setIfInBounds_toArray, List.set_cons_zero, List.set_cons_succ]
          refine wpAnyH_ready (rs := [6]) (by kernel_rfl) (by simp) ?_
          refine AllReadyH.cons (by rw [List.getElem?_toArray]; rfl) (fun K hK => ?_) AllReadyH.nil
          go_simp
          have HZ2 := Lib.hid (HZ1.out.alloc HZ1.out.size (.cells #[.int .i64 0, .int .i64 0] 55))
          refine hK.out _ _ ⟨(HZ2.out.cell (p := ⟨bt, 0, none⟩) ltX).trans ctX, (HZ2.out.cell (p := ⟨bf, 0, none⟩) lfX).trans cfX⟩ (fun hHeld => ?_)
          clear hHeld
          try simp only [Act.put, List.setIfInBounds_toArray, List.set_cons_zero, List.set_cons_succ]
          refine wpAnyH_ready (rs := [8]) (by kernel_rfl) (by simp) ?_
          refine AllReadyH.cons (by rw [List.getElem?_toArray]; rfl) (fun K hK => ?_) AllReadyH.nil
          go_simp
          have HZ3 := Lib.hid ((HZ.out.alloc HZ.out.size (.cells #[.int .i64 0, .int .i64 0] 55)).alloc (HZ.out.alloc HZ.out.size (.cells #[.int .i64 0, .int .i64 0] 55)).size (pcsO (f, mid)))
          refine hK.out _ _ ⟨(HZ3.out.cell (p := ⟨bt, 0, none⟩) ltX).trans ctX, (HZ3.out.cell (p := ⟨bf, 0, none⟩) lfX).trans cfX⟩ (fun hHeld => ?_)
          clear hHeld
          try simp only [Act.put, List.setIfInBounds_toArray, List.set_cons_zero, List.set_cons_succ]
          refine wpAnyH_ready (rs := [9]) (by kernel_rfl) (by simp) ?_
          refine AllReadyH.cons (by rw [List.getElem?_toArray]; rfl) (fun K hK => ?_) AllReadyH.nil
          go_simp
          have HZ4 := Lib.hid ((HZ.out.alloc HZ.out.size (pcsO (mid, t))).alloc (HZ.out.alloc HZ.out.size (pcsO (mid, t))).size (pcsO (f, mid)))
          refine hK.out _ _ ⟨(HZ4.out.cell (p := ⟨bt, 0, none⟩) ltX).trans ctX, (HZ4.out.cell (p := ⟨bf, 0, none⟩) lfX).trans cfX⟩ (fun hHeld => ?_)
          clear hHeld
          try simp only [Act.put, List.setIfInBounds_toArray, List.set_cons_zero, List.set_cons_succ]
          refine wpAnyH_done (by kernel_rfl) ?_ _
          have hsz := HZ.out.size
          refine ⟨rfl, z.heap.size + 1, z.heap.size, ⟨HZ4.out, by omega, by omega, by omega, ?_, ?_⟩, rfl⟩
          · have := World.alloc_heap_new (z.alloc (pcsO (mid, t))) (pcsO (f, mid))
            rwa [World.size_alloc] at this
          · exact (Below.heap_alloc (z.alloc (pcsO (mid, t))) (pcsO (f, mid)) z.heap.size (by simp)).trans (World.alloc_heap_new z (pcsO (mid, t)))
      · rintro ex a' w' ⟨rfl, bw, bb, HT, rfl⟩
        have hb := HT.bel
        have ctV := (hb.cell (p := ⟨bt, 0, none⟩) ltX).trans ctX
        have cfV := (hb.cell (p := ⟨bf, 0, none⟩) lfX).trans cfX
        have ciV := (hb.cell (p := ⟨bi, 0, none⟩) liX).trans ciX
        have hne := HT.ne
        have hne2 := Ne.symm hne
        have k1i : bi ≠ bw := by have := HT.lw; omega
        have k2i : bi ≠ bb := by have := HT.lb; omega
        have k3i := Ne.symm k1i
        have k4i := Ne.symm k2i
        obtain ⟨x0, x1, xf0, xf1⟩ := pcs_cells HT.hw
        obtain ⟨y0, y1, yf0, yf1⟩ := pcs_cells HT.hb
        by_cases hil : i < mid
        · have hil2 : ¬ (mid : Int) ≤ (i : Int) := by omega
          go_wp2_with fail
          obtain ⟨V, hV⟩ : ∃ V, w' = V := ⟨_, rfl⟩
          have HT2 : Two X bw bb (f, mid) (mid, t) V := by rw [← hV]; exact HT
          rw [hV]
          clear hV x0 x1 xf0 xf1 y0 y1 yf0 yf1 ctV cfV ciV HT hb hil2 k1i k2i k3i k4i hne hne2
          refine (way_any i f mid _).mono ?_
          rintro e v1 ⟨rfl, hv1⟩
          have hbV : Below V.heap.size V v1 := by rw [hv1]; exact three_below V _ _ _
          have hbx1 : Bxs v1 (V.heap.size + 2) (V.heap.size + 1) V.heap.size i f mid := by rw [hv1]; exact boxes_new V i f mid
          have HT3 : Two X bw bb (f, mid) (mid, t) v1 := HT2.below hbV
          clear hv1 HT2
          dsimp only
          go_wp2_with fail
          obtain ⟨hbW, hJ, hJx, hJm, hJ0, hY⟩ := HH.out
          have hWV : Below W.heap.size W v1 := HWX.out.trans (HT3.bel.mono HWX.out.size)
          have hXS := HXS.out
          have hXv := HT3.bel.size
          have hwv : W.heap.size < v1.heap.size := by omega
          have hbwv := (Array.getElem?_eq_some_iff.1 HT3.hw).1
          have hbbv := (Array.getElem?_eq_some_iff.1 HT3.hb).1
          have hlb := HT3.lb
          have hyv : v1.heap[W.heap.size]? = some (Obj.cells #[Value.func (Fn.yield l) #[] #[]] 67) := (HT3.bel.block _ (by omega)).trans HXY.out
          have hpieces : wayL (d + 1 + 1) i f t = wayL (d + 1) i f mid ++ [(mid, t)] := by
            show (if t - f = 1 then [] else if i < f + fst (t - f) then wayL (d + 1) i f (f + fst (t - f)) ++ [(f + fst (t - f), t)] else wayL (d + 1) i (f + fst (t - f)) t ++ [(f, f + fst (t - f))]) = _
            rw [hn, hK, hm, if_neg h1, if_pos hil]
          have hseq := HIH.out i f mid (V.heap.size + 2) (V.heap.size + 1) V.heap.size v1 (by omega) (by omega) (by omega) (by omega) (by omega) hbx1
          rw [hpieces] at hY
          generalize wayL (d + 1) i f mid = xs at hseq hY hpieces
          refine (wpIn_wide (n := 0)).1 ?_
          refine range_law (xs := xs) (encs := pcsA) (a₁ := fun x b => { tmps := #[.func (.yield l) #[] #[], .pointer (some ⟨bt, 0, none⟩), .pointer (some ⟨bf, 0, none⟩), .pointer (some ⟨bi, 0, none⟩), .pointer (some ⟨W.heap.size, 0, none⟩), .int .i64 (mid : Int), .pointer (some ⟨bw, 0, none⟩), .pointer (some ⟨bb, 0, none⟩), .pointer (some ⟨b, 0, none⟩), .int .i64 (t : Int), .int .i64 (f : Int), .int .i64 (n : Int), .bool false, .int .i64 (f : Int), .int .i64 (t : Int), .int .i64 (f : Int), .int .i64 (n : Int), .int .i64 (K : Int), .int .i64 (mid : Int), .int .i64 (f : Int), .int .i64 (mid : Int), .agg #[.int .i64 (f : Int), .int .i64 (mid : Int)], .int .i64 (mid : Int), .int .i64 (t : Int), .agg #[.int .i64 (mid : Int), .int .i64 (t : Int)], .int .i64 (i : Int), .int .i64 (mid : Int), .bool false, undef, undef, .int .i64 (i : Int), .pointer (some ⟨bw, 0, none⟩), .int .i64 (f : Int), .pointer (some ⟨bw, 1, none⟩), .int .i64 (mid : Int), .func (.func 58) #[] #[.pointer (some ⟨V.heap.size + 2, 0, none⟩), .pointer (some ⟨V.heap.size + 1, 0, none⟩), .pointer (some ⟨V.heap.size, 0, none⟩)], pcs x, undef, undef, undef, undef, undef, undef, undef], defers := [] }) (blk := pcsO) rfl (enters_of Try.func58 (by kernel_rfl) rfl) hseq (Below.refl _ _) (fun _ => rfl)
            (fun m pre A => J m pre A ∧ Keeps W.heap.size v1.heap.size v1 A) (fun pre A => Jx pre A) ?hI ?hIx (fun m ys A h => hJm m ys A h.1) (fun A hA => ⟨hJ0 A (hWV.trans (hA.mono hWV.size)), ⟨hA.size, fun k _ h2 => hA.block k h2⟩⟩) ?assign ?body ?done ?stop
          case hI =>
            intro m s A B row hs hg hr
            have hsz := hs.2.size
            exact ⟨hJ m s A B row hs.1 hg (fun r e => ⟨by have := (hr r e).1; omega, (hr r e).2⟩), hs.2.trans ⟨hg.size, fun k h1 h2 => hg.block k (by omega) (fun e => by have := (hr k e.symm).1; omega)⟩⟩
          case hIx =>
            intro s A B row hs hg hr
            exact hJx s A B row hs hg (fun r e => ⟨by have := (hr r e).1; omega, (hr r e).2⟩)
          case assign =>
            intro l' x A K hK
            simp only [pcsA, pcs, pcsO] at hK ⊢
            gi_wp2
            exact hK
          case body =>
            intro l' m pre x b A hm' hjk hpre' hb' hbx
            obtain ⟨hj, hk⟩ := hjk
            have hyA := cell_heap ((hk.same W.heap.size (Nat.le_refl _) hwv).trans hyv)
            obtain ⟨c0, c1, _, _⟩ := pcs_cells hbx
            obtain ⟨fn, tmps, assign, body, hy, hR⟩ := hY m pre x A (by omega) hj (hpre'.trans (List.prefix_append _ _))
            simp only [pcsA, pcs] at hy
            gi_wp2_with fail
            refine ⟨rfl, (RoundIn.inR l' hR).mono ?_⟩
            clear hR hy
            rintro e W' (⟨rfl, hJ', hk'⟩ | ⟨rfl, hJ', hk'⟩)
            · gi_wp2
              exact ⟨hk'.mono (by omega), hJ', hk.trans (hk'.less (by omega))⟩
            · gi_wp2
              exact ⟨hk'.mono (by omega), hJ'⟩
          case done =>
            intro m A hm' hjk hD
            obtain ⟨hj, hk⟩ := hjk
            have hyA := cell_heap ((hk.same W.heap.size (Nat.le_refl _) hwv).trans hyv)
            have hbA := (hk.same bb (by omega) hbbv).trans HT3.hb
            obtain ⟨c0, c1, _, _⟩ := pcs_cells hbA
            obtain ⟨fn, tmps, assign, body, hy, hR⟩ := hY m xs (mid, t) A (by omega) hj (List.prefix_refl _)
            simp only [pcsA, pcs] at hy
            dsimp only [Exit.inBlock, Exit.then]
            refine (by assumption : ∀ (a : Act) (w : World), Code.wp Try.prog _ _ a w → _) _ _ ?_
            refine (wpIn_wide (n := 0)).1 ?_
            gi_wp2_with fail
            refine ⟨rfl, (RoundIn.any hR).mono ?_⟩
            clear hR hy
            rintro e W' (⟨rfl, hJ', hk'⟩ | ⟨rfl, hJ', hk'⟩)
            · have hD' := (hk'.same v1.heap.size (by omega) (by omega)).trans hD
              gi_wp2
              refine ⟨by simp, .inl ⟨_, _, rfl, run_takeDeferred hD', ?_⟩⟩
              exact ⟨_, results_none rfl _ _ _, ⟨_, rfl⟩, .inl ⟨m, by omega, by rw [hpieces]; exact (hJ m).putObj _ hJ' (by omega) hD' rfl⟩⟩
            · have hD' := (hk'.same v1.heap.size (by omega) (by omega)).trans hD
              gi_wp2
              refine ⟨by simp, .inl ⟨_, _, rfl, run_takeDeferred hD', ?_⟩⟩
              exact ⟨_, results_none rfl _ _ _, ⟨_, rfl⟩, .inr ⟨_, by rw [hpieces]; exact List.prefix_refl _, hJx.putObj _ hJ' (by omega) hD' rfl⟩⟩
          case stop =>
            intro pre A hpre' hj hD
            gi_wp2
            refine ⟨by simp, .inl ⟨_, _, rfl, run_takeDeferred hD, ?_⟩⟩
            exact ⟨_, results_none rfl _ _ _, ⟨_, rfl⟩, .inr ⟨pre, by rw [hpieces]; exact hpre'.trans (List.prefix_append _ _), hJx.putObj _ hj (by omega) hD rfl⟩⟩
        · have hil2 : (mid : Int) ≤ (i : Int) := by omega
          go_wp2_with fail
          have HT2 := two_swap HT
          generalize ((((w'.setCell ⟨bw, 0, none⟩ (.int .i64 (mid : Int))).setCell ⟨bw, 1, none⟩ (.int .i64 (t : Int))).setCell ⟨bb, 0, none⟩ (.int .i64 (f : Int))).setCell ⟨bb, 1, none⟩ (.int .i64 (mid : Int))) = V at HT2 ⊢
          clear x0 x1 xf0 xf1 y0 y1 yf0 yf1 ctV cfV ciV HT hb hil2 k1i k2i k3i k4i hne hne2
          refine (way_any i mid t _).mono ?_
          rintro e v1 ⟨rfl, hv1⟩
          have hbV : Below V.heap.size V v1 := by rw [hv1]; exact three_below V _ _ _
          have hbx1 : Bxs v1 (V.heap.size + 2) (V.heap.size + 1) V.heap.size i mid t := by rw [hv1]; exact boxes_new V i mid t
          have HT3 : Two X bw bb (mid, t) (f, mid) v1 := HT2.below hbV
          clear hv1 HT2
          dsimp only
          go_wp2_with fail
          obtain ⟨hbW, hJ, hJx, hJm, hJ0, hY⟩ := HH.out
          have hWV : Below W.heap.size W v1 := HWX.out.trans (HT3.bel.mono HWX.out.size)
          have hXS := HXS.out
          have hXv := HT3.bel.size
          have hwv : W.heap.size < v1.heap.size := by omega
          have hbwv := (Array.getElem?_eq_some_iff.1 HT3.hw).1
          have hbbv := (Array.getElem?_eq_some_iff.1 HT3.hb).1
          have hlb := HT3.lb
          have hyv : v1.heap[W.heap.size]? = some (Obj.cells #[Value.func (Fn.yield l) #[] #[]] 67) := (HT3.bel.block _ (by omega)).trans HXY.out
          have hpieces : wayL (d + 1 + 1) i f t = wayL (d + 1) i mid t ++ [(f, mid)] := by
            show (if t - f = 1 then [] else if i < f + fst (t - f) then wayL (d + 1) i f (f + fst (t - f)) ++ [(f + fst (t - f), t)] else wayL (d + 1) i (f + fst (t - f)) t ++ [(f, f + fst (t - f))]) = _
            rw [hn, hK, hm, if_neg h1, if_neg hil]
          have hseq := HIH.out i mid t (V.heap.size + 2) (V.heap.size + 1) V.heap.size v1 (by omega) (by omega) (by omega) (by omega) (by omega) hbx1
          rw [hpieces] at hY
          generalize wayL (d + 1) i mid t = xs at hseq hY hpieces
          refine (wpIn_wide (n := 0)).1 ?_
          refine range_law (xs := xs) (encs := pcsA) (a₁ := fun x b => { tmps := #[.func (.yield l) #[] #[], .pointer (some ⟨bt, 0, none⟩), .pointer (some ⟨bf, 0, none⟩), .pointer (some ⟨bi, 0, none⟩), .pointer (some ⟨W.heap.size, 0, none⟩), .int .i64 (mid : Int), .pointer (some ⟨bw, 0, none⟩), .pointer (some ⟨bb, 0, none⟩), .pointer (some ⟨b, 0, none⟩), .int .i64 (t : Int), .int .i64 (f : Int), .int .i64 (n : Int), .bool false, .int .i64 (f : Int), .int .i64 (t : Int), .int .i64 (f : Int), .int .i64 (n : Int), .int .i64 (K : Int), .int .i64 (mid : Int), .int .i64 (f : Int), .int .i64 (mid : Int), .agg #[.int .i64 (f : Int), .int .i64 (mid : Int)], .int .i64 (mid : Int), .int .i64 (t : Int), .agg #[.int .i64 (mid : Int), .int .i64 (t : Int)], .int .i64 (i : Int), .int .i64 (mid : Int), .bool true, .agg #[.int .i64 (mid : Int), .int .i64 (t : Int)], .agg #[.int .i64 (f : Int), .int .i64 (mid : Int)], .int .i64 (i : Int), .pointer (some ⟨bw, 0, none⟩), .int .i64 (mid : Int), .pointer (some ⟨bw, 1, none⟩), .int .i64 (t : Int), .func (.func 58) #[] #[.pointer (some ⟨V.heap.size + 2, 0, none⟩), .pointer (some ⟨V.heap.size + 1, 0, none⟩), .pointer (some ⟨V.heap.size, 0, none⟩)], pcs x, undef, undef, undef, undef, undef, undef, undef], defers := [] }) (blk := pcsO) rfl (enters_of Try.func58 (by kernel_rfl) rfl) hseq (Below.refl _ _) (fun _ => rfl)
            (fun m pre A => J m pre A ∧ Keeps W.heap.size v1.heap.size v1 A) (fun pre A => Jx pre A) ?hI ?hIx (fun m ys A h => hJm m ys A h.1) (fun A hA => ⟨hJ0 A (hWV.trans (hA.mono hWV.size)), ⟨hA.size, fun k _ h2 => hA.block k h2⟩⟩) ?assign ?body ?done ?stop
          case hI =>
            intro m s A B row hs hg hr
            have hsz := hs.2.size
            exact ⟨hJ m s A B row hs.1 hg (fun r e => ⟨by have := (hr r e).1; omega, (hr r e).2⟩), hs.2.trans ⟨hg.size, fun k h1 h2 => hg.block k (by omega) (fun e => by have := (hr k e.symm).1; omega)⟩⟩
          case hIx =>
            intro s A B row hs hg hr
            exact hJx s A B row hs hg (fun r e => ⟨by have := (hr r e).1; omega, (hr r e).2⟩)
          case assign =>
            intro l' x A K hK
            simp only [pcsA, pcs, pcsO] at hK ⊢
            gi_wp2
            exact hK
          case body =>
            intro l' m pre x b A hm' hjk hpre' hb' hbx
            obtain ⟨hj, hk⟩ := hjk
            have hyA := cell_heap ((hk.same W.heap.size (Nat.le_refl _) hwv).trans hyv)
            obtain ⟨c0, c1, _, _⟩ := pcs_cells hbx
            obtain ⟨fn, tmps, assign, body, hy, hR⟩ := hY m pre x A (by omega) hj (hpre'.trans (List.prefix_append _ _))
            simp only [pcsA, pcs] at hy
            gi_wp2_with fail
            refine ⟨rfl, (RoundIn.inR l' hR).mono ?_⟩
            clear hR hy
            rintro e W' (⟨rfl, hJ', hk'⟩ | ⟨rfl, hJ', hk'⟩)
            · gi_wp2
              exact ⟨hk'.mono (by omega), hJ', hk.trans (hk'.less (by omega))⟩
            · gi_wp2
              exact ⟨hk'.mono (by omega), hJ'⟩
          case done =>
            intro m A hm' hjk hD
            obtain ⟨hj, hk⟩ := hjk
            have hyA := cell_heap ((hk.same W.heap.size (Nat.le_refl _) hwv).trans hyv)
            have hbA := (hk.same bb (by omega) hbbv).trans HT3.hb
            obtain ⟨c0, c1, _, _⟩ := pcs_cells hbA
            obtain ⟨fn, tmps, assign, body, hy, hR⟩ := hY m xs (f, mid) A (by omega) hj (List.prefix_refl _)
            simp only [pcsA, pcs] at hy
            dsimp only [Exit.inBlock, Exit.then]
            refine (by assumption : ∀ (a : Act) (w : World), Code.wp Try.prog _ _ a w → _) _ _ ?_
            refine (wpIn_wide (n := 0)).1 ?_
            gi_wp2_with fail
            refine ⟨rfl, (RoundIn.any hR).mono ?_⟩
            clear hR hy
            rintro e W' (⟨rfl, hJ', hk'⟩ | ⟨rfl, hJ', hk'⟩)
            · have hD' := (hk'.same v1.heap.size (by omega) (by omega)).trans hD
              gi_wp2
              refine ⟨by simp, .inl ⟨_, _, rfl, run_takeDeferred hD', ?_⟩⟩
              exact ⟨_, results_none rfl _ _ _, ⟨_, rfl⟩, .inl ⟨m, by omega, by rw [hpieces]; exact (hJ m).putObj _ hJ' (by omega) hD' rfl⟩⟩
            · have hD' := (hk'.same v1.heap.size (by omega) (by omega)).trans hD
              gi_wp2
              refine ⟨by simp, .inl ⟨_, _, rfl, run_takeDeferred hD', ?_⟩⟩
              exact ⟨_, results_none rfl _ _ _, ⟨_, rfl⟩, .inr ⟨_, by rw [hpieces]; exact List.prefix_refl _, hJx.putObj _ hJ' (by omega) hD' rfl⟩⟩
          case stop =>
            intro pre A hpre' hj hD
            gi_wp2
            refine ⟨by simp, .inl ⟨_, _, rfl, run_takeDeferred hD, ?_⟩⟩
            exact ⟨_, results_none rfl _ _ _, ⟨_, rfl⟩, .inr ⟨pre, by rw [hpieces]; exact hpre'.trans (List.prefix_append _ _), hJx.putObj _ hj (by omega) hD rfl⟩⟩
end Go.Proofs.Ytblgcpopcgnncaa.Tre
