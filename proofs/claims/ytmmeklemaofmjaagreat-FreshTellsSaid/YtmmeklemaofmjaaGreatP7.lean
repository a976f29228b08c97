/-
  One text of several, in their order: ECode0, EWay, ECode, ECode2, ECode3. By an AI agent; no person has read it.
-/
import Derived.Test.YtmmeklemaofmjaaGreatP6
import Derived.Test.YtmmeklemaofmjaaGreatShelfL
import Derived.Deep.RegionHeld
import Derived.OwnWalkIn
import Derived.TacticsInMore
import Derived.Shelf.RegionOpen
import Derived.Test.YtmmeklemaofmjaaGreatP4
/-
  THE LANDED CODE (package tree): isMany, isPlace, first. By an AI agent; no person has read it.
-/
namespace Go.Proofs.YtmmeklemaofmjaaGreat.Tre
open Go.RowKit Wire Term Draw Reg Clo

set_option linter.unusedSimpArgs false
set_option linter.unusedVariables false
theorem isMany_any (n : Int) (w : World) : Calls Tryz.prog 69 #[.int .i64 n] w fun e w' => e = .returned (.bool (decide (1 ≤ n ∧ n ≤ 8))) ∧ w' = w := by
  by_cases h1 : 1 ≤ n
  · by_cases h8 : n ≤ 8
    · have e : decide (1 ≤ n ∧ n ≤ 8) = true := decide_eq_true ⟨h1, h8⟩
      rw [e]
      clear e
      go_enter Tryz.func69, Tryz.ntmps69
      go_wp2
      go_ret
      exact ⟨rfl, rfl⟩
    · have e : decide (1 ≤ n ∧ n ≤ 8) = false := decide_eq_false (by omega)
      rw [e]
      clear e
      go_enter Tryz.func69, Tryz.ntmps69
      go_wp2
      go_ret
      exact ⟨rfl, rfl⟩
  · have e : decide (1 ≤ n ∧ n ≤ 8) = false := decide_eq_false (by omega)
    rw [e]
    clear e
    go_enter Tryz.func69, Tryz.ntmps69
    go_wp2
    go_ret
    exact ⟨rfl, rfl⟩
theorem isPlace_any (i n : Int) (w : World) : Calls Tryz.prog 70 #[.int .i64 i, .int .i64 n] w fun e w' => e = .returned (.bool (decide (0 ≤ i ∧ i < n))) ∧ w' = w := by
  by_cases h1 : 0 ≤ i
  · by_cases h8 : i < n
    · have e : decide (0 ≤ i ∧ i < n) = true := decide_eq_true ⟨h1, h8⟩
      rw [e]
      clear e
      go_enter Tryz.func70, Tryz.ntmps70
      go_wp2
      go_ret
      exact ⟨rfl, rfl⟩
    · have e : decide (0 ≤ i ∧ i < n) = false := decide_eq_false (by omega)
      rw [e]
      clear e
      go_enter Tryz.func70, Tryz.ntmps70
      go_wp2
      go_ret
      exact ⟨rfl, rfl⟩
  · have e : decide (0 ≤ i ∧ i < n) = false := decide_eq_false (by omega)
    rw [e]
    clear e
    go_enter Tryz.func70, Tryz.ntmps70
    go_wp2
    go_ret
    exact ⟨rfl, rfl⟩
theorem len_any (n : Nat) (w : World) (h : n < 18446744073709551616) : Calls Tryz.prog 102 #[.int .u64 (n : Int)] w fun e w' => e = .returned (.int .i64 (Lib.bitLen n)) ∧ w' = w := by
  have := Tryz.bits_Len (n : Int) w (by omega) (by omega)
  rw [show ((n : Int)).toNat = n by omega] at this
  exact this
set_option maxHeartbeats 2000000 in
theorem cfirst_any (n : Nat) (w : World) (h1 : 2 ≤ n) (h8 : n ≤ 8) : Calls Tryz.prog 93 #[.int .i64 (n : Int)] w fun e w' => e = .returned (.int .i64 (fst n : Int)) ∧ w' = w := by
  have hn : n = 2 ∨ n = 3 ∨ n = 4 ∨ n = 5 ∨ n = 6 ∨ n = 7 ∨ n = 8 := by omega
  rcases hn with rfl | rfl | rfl | rfl | rfl | rfl | rfl
  · have HL : Hid (∀ w, Calls Tryz.prog 102 #[.int .u64 1] w fun e w' => e = .returned (.int .i64 1) ∧ w' = w) := Lib.hid fun w => by
      have := len_any 1 w (by decide)
      rw [show Lib.bitLen 1 = 1 by decide] at this
      exact this
    go_enter Tryz.func93, Tryz.ntmps93
    go_wp2_with fail
    refine (HL.out _).mono ?_
    rintro e w1 ⟨rfl, rfl⟩
    dsimp only
    go_wp2
    go_ret
    exact ⟨rfl, rfl⟩
  · have HL : Hid (∀ w, Calls Tryz.prog 102 #[.int .u64 2] w fun e w' => e = .returned (.int .i64 2) ∧ w' = w) := Lib.hid fun w => by
      have := len_any 2 w (by decide)
      rw [show Lib.bitLen 2 = 2 by decide] at this
      exact this
    go_enter Tryz.func93, Tryz.ntmps93
    go_wp2_with fail
    refine (HL.out _).mono ?_
    rintro e w1 ⟨rfl, rfl⟩
    dsimp only
    go_wp2
    go_ret
    exact ⟨rfl, rfl⟩
  · have HL : Hid (∀ w, Calls Tryz.prog 102 #[.int .u64 3] w fun e w' => e = .returned (.int .i64 2) ∧ w' = w) := Lib.hid fun w => by
      have := len_any 3 w (by decide)
      rw [show Lib.bitLen 3 = 2 by decide] at this
      exact this
    go_enter Tryz.func93, Tryz.ntmps93
    go_wp2_with fail
    refine (HL.out _).mono ?_
    rintro e w1 ⟨rfl, rfl⟩
    dsimp only
    go_wp2
    go_ret
    exact ⟨rfl, rfl⟩
  · have HL : Hid (∀ w, Calls Tryz.prog 102 #[.int .u64 4] w fun e w' => e = .returned (.int .i64 3) ∧ w' = w) := Lib.hid fun w => by
      have := len_any 4 w (by decide)
      rw [show Lib.bitLen 4 = 3 by decide] at this
      exact this
    go_enter Tryz.func93, Tryz.ntmps93
    go_wp2_with fail
    refine (HL.out _).mono ?_
    rintro e w1 ⟨rfl, rfl⟩
    dsimp only
    go_wp2
    go_ret
    exact ⟨rfl, rfl⟩
  · have HL : Hid (∀ w, Calls Tryz.prog 102 #[.int .u64 5] w fun e w' => e = .returned (.int .i64 3) ∧ w' = w) := Lib.hid fun w => by
      have := len_any 5 w (by decide)
      rw [show Lib.bitLen 5 = 3 by decide] at this
      exact this
    go_enter Tryz.func93, Tryz.ntmps93
    go_wp2_with fail
    refine (HL.out _).mono ?_
    rintro e w1 ⟨rfl, rfl⟩
    dsimp only
    go_wp2
    go_ret
    exact ⟨rfl, rfl⟩
  · have HL : Hid (∀ w, Calls Tryz.prog 102 #[.int .u64 6] w fun e w' => e = .returned (.int .i64 3) ∧ w' = w) := Lib.hid fun w => by
      have := len_any 6 w (by decide)
      rw [show Lib.bitLen 6 = 3 by decide] at this
      exact this
    go_enter Tryz.func93, Tryz.ntmps93
    go_wp2_with fail
    refine (HL.out _).mono ?_
    rintro e w1 ⟨rfl, rfl⟩
    dsimp only
    go_wp2
    go_ret
    exact ⟨rfl, rfl⟩
  · have HL : Hid (∀ w, Calls Tryz.prog 102 #[.int .u64 7] w fun e w' => e = .returned (.int .i64 3) ∧ w' = w) := Lib.hid fun w => by
      have := len_any 7 w (by decide)
      rw [show Lib.bitLen 7 = 3 by decide] at this
      exact this
    go_enter Tryz.func93, Tryz.ntmps93
    go_wp2_with fail
    refine (HL.out _).mono ?_
    rintro e w1 ⟨rfl, rfl⟩
    dsimp only
    go_wp2
    go_ret
    exact ⟨rfl, rfl⟩
end Go.Proofs.YtmmeklemaofmjaaGreat.Tre

/-
  THE LANDED CODE (package tree): way, a range over a function that is made of itself. By an AI agent; no person has read it.
-/
namespace Go.Proofs.YtmmeklemaofmjaaGreat.Tre
open Go Go.RowKit Go.Shelf Wire Term Draw Reg Clo

attribute [local go_sem] Oper.semAt_some
set_option linter.unusedSimpArgs false
set_option linter.unusedVariables false
theorem region_join {P : Program} {c : Code} {Q : Exit → Act → World → Prop} {a : Act} {w : World} (R : Act → Exit → Act → World → Prop) (h1 : c.wp P (R a) a w) (h2 : ∀ ex a' w', R a ex a' w' → Q ex a' w') : c.wp P Q a w :=
  Code.wp_mono (fun e a' w' h => h2 e a' w' h) h1
/-- The pieces beside the way from a place, the lowest one first. -/
def wayL : Nat → Nat → Nat → Nat → List (Nat × Nat)
  | 0, _, _, _ => []
  | d + 1, i, f, t => if t - f = 1 then [] else
    if i < f + fst (t - f) then wayL d i f (f + fst (t - f)) ++ [(f + fst (t - f), t)]
    else wayL d i (f + fst (t - f)) t ++ [(f, f + fst (t - f))]
def pcs (x : Nat × Nat) : Value := .agg #[.int .i64 (x.1 : Int), .int .i64 (x.2 : Int)]
def pcsA (x : Nat × Nat) : Array Value := #[pcs x]
def pcsO (x : Nat × Nat) : Obj := .cells #[.int .i64 (x.1 : Int), .int .i64 (x.2 : Int)] 91
set_option maxHeartbeats 4000000 in
set_option maxRecDepth 1000000 in
theorem way_any (i f t : Nat) (w : World) : Calls Tryz.prog 73 #[.int .i64 (i : Int), .int .i64 (f : Int), .int .i64 (t : Int)] w fun e w' =>
    e = .returned (.func (.func 92) #[] #[.pointer (some ⟨w.heap.size + 2, 0, none⟩), .pointer (some ⟨w.heap.size + 1, 0, none⟩), .pointer (some ⟨w.heap.size, 0, none⟩)]) ∧
    w' = ((w.alloc (.cells #[.int .i64 (i : Int)] 3)).alloc (.cells #[.int .i64 (f : Int)] 3)).alloc (.cells #[.int .i64 (t : Int)] 3) := by
  go_enter Tryz.func73, Tryz.ntmps73
  go_wp2
  go_ret
  exact ⟨rfl, rfl⟩
/-- Two new blocks, each of a piece. -/
structure Two (X : World) (bw bb : Nat) (x y : Nat × Nat) (w' : World) : Prop where
  bel : Below X.heap.size X w'
  lw : X.heap.size ≤ bw
  lb : X.heap.size ≤ bb
  ne : bw ≠ bb
  hw : w'.heap[bw]? = some (pcsO x)
  hb : w'.heap[bb]? = some (pcsO y)
theorem pcs_cells {W : World} {b : Nat} {x : Nat × Nat} (h : W.heap[b]? = some (pcsO x)) : W.cell? ⟨b, 0, none⟩ = some (.int .i64 (x.1 : Int)) ∧ W.cell? ⟨b, 1, none⟩ = some (.int .i64 (x.2 : Int)) ∧ W.frozen? ⟨b, 0, none⟩ = false ∧ W.frozen? ⟨b, 1, none⟩ = false := by
  unfold pcsO at h
  refine ⟨?_, ?_, ?_, ?_⟩ <;> simp [World.cell?, World.frozen?, h]
theorem Two.below {X : World} {bw bb : Nat} {x y : Nat × Nat} {w' w2 : World} (h : Two X bw bb x y w') (hb : Below w'.heap.size w' w2) : Two X bw bb x y w2 :=
  ⟨h.bel.trans (hb.mono h.bel.size), h.lw, h.lb, h.ne, (hb.block bw (Array.getElem?_eq_some_iff.1 h.hw).1).trans h.hw, (hb.block bb (Array.getElem?_eq_some_iff.1 h.hb).1).trans h.hb⟩
theorem set_heap {W : World} {b : Nat} {x z : Nat × Nat} (h : W.heap[b]? = some (pcsO x)) : ((W.setCell ⟨b, 0, none⟩ (.int .i64 (z.1 : Int))).setCell ⟨b, 1, none⟩ (.int .i64 (z.2 : Int))).heap[b]? = some (pcsO z) := by
  unfold pcsO at h ⊢
  simp [World.setCell, Array.getElem?_modify, h]
theorem two_swap {X : World} {bw bb : Nat} {x y : Nat × Nat} {w' : World} (h : Two X bw bb x y w') : Two X bw bb y x ((((w'.setCell ⟨bw, 0, none⟩ (.int .i64 (y.1 : Int))).setCell ⟨bw, 1, none⟩ (.int .i64 (y.2 : Int))).setCell ⟨bb, 0, none⟩ (.int .i64 (x.1 : Int))).setCell ⟨bb, 1, none⟩ (.int .i64 (x.2 : Int))) := by
  have hne := h.ne
  have e1 := set_heap (z := y) h.hw
  have e2 : ((w'.setCell ⟨bw, 0, none⟩ (.int .i64 (y.1 : Int))).setCell ⟨bw, 1, none⟩ (.int .i64 (y.2 : Int))).heap[bb]? = some (pcsO y) := by
    rw [Below.heap_setCell _ _ _ _ (Ne.symm hne), Below.heap_setCell _ _ _ _ (Ne.symm hne)]; exact h.hb
  refine ⟨(((h.bel.setCell h.lw _).setCell h.lw _).setCell h.lb _).setCell h.lb _, h.lw, h.lb, hne, ?_, set_heap (z := x) e2⟩
  rw [Below.heap_setCell _ _ _ _ hne, Below.heap_setCell _ _ _ _ hne]; exact e1
/-- The closure's boxes. -/
structure Bxs (w : World) (bt bf bi : Nat) (i f t : Nat) : Prop where
  t0 : w.cell? ⟨bt, 0, none⟩ = some (.int .i64 (t : Int))
  f0 : w.cell? ⟨bf, 0, none⟩ = some (.int .i64 (f : Int))
  i0 : w.cell? ⟨bi, 0, none⟩ = some (.int .i64 (i : Int))
  lt : bt < w.heap.size
  lf : bf < w.heap.size
  li : bi < w.heap.size
theorem Bxs.below {w w' : World} {bt bf bi i f t : Nat} (h : Bxs w bt bf bi i f t) (hb : Below w.heap.size w w') : Bxs w' bt bf bi i f t :=
  ⟨(hb.cell (p := ⟨bt, 0, none⟩) h.lt).trans h.t0, (hb.cell (p := ⟨bf, 0, none⟩) h.lf).trans h.f0, (hb.cell (p := ⟨bi, 0, none⟩) h.li).trans h.i0, Nat.lt_of_lt_of_le h.lt hb.size, Nat.lt_of_lt_of_le h.lf hb.size, Nat.lt_of_lt_of_le h.li hb.size⟩
theorem cell_heap {W : World} {b : Nat} {v : Value} {T : TypeId} (h : W.heap[b]? = some (.cells #[v] T)) : W.cell? ⟨b, 0, none⟩ = some v := by
  simp only [World.cell?, h]
  rfl
theorem three_below (V : World) (a b c : Obj) : Below V.heap.size V (((V.alloc a).alloc b).alloc c) :=
  (((Below.refl _ V).alloc (Nat.le_refl _) a).alloc (by simp) b).alloc (by simp; omega) c
theorem boxes_new (V : World) (i f t : Nat) : Bxs (((V.alloc (.cells #[.int .i64 (i : Int)] 3)).alloc (.cells #[.int .i64 (f : Int)] 3)).alloc (.cells #[.int .i64 (t : Int)] 3)) (V.heap.size + 2) (V.heap.size + 1) V.heap.size i f t := by
  have a1 := World.alloc_heap_new V (.cells #[.int .i64 (i : Int)] 3)
  have a2 := World.alloc_heap_new (V.alloc (.cells #[.int .i64 (i : Int)] 3)) (.cells #[.int .i64 (f : Int)] 3)
  have a3 := World.alloc_heap_new ((V.alloc (.cells #[.int .i64 (i : Int)] 3)).alloc (.cells #[.int .i64 (f : Int)] 3)) (.cells #[.int .i64 (t : Int)] 3)
  simp only [World.size_alloc] at a2 a3
  have b1 : ((V.alloc (.cells #[.int .i64 (i : Int)] 3)).alloc (.cells #[.int .i64 (f : Int)] 3)).heap[V.heap.size]? = _ := (Below.heap_alloc _ _ _ (by simp)).trans a1
  have c1 : (((V.alloc (.cells #[.int .i64 (i : Int)] 3)).alloc (.cells #[.int .i64 (f : Int)] 3)).alloc (.cells #[.int .i64 (t : Int)] 3)).heap[V.heap.size]? = _ := (Below.heap_alloc _ _ _ (by simp; omega)).trans b1
  have c2 : (((V.alloc (.cells #[.int .i64 (i : Int)] 3)).alloc (.cells #[.int .i64 (f : Int)] 3)).alloc (.cells #[.int .i64 (t : Int)] 3)).heap[V.heap.size + 1]? = _ := (Below.heap_alloc _ _ _ (by simp)).trans a2
  exact ⟨cell_heap a3, cell_heap c2, cell_heap c1, by simp, by simp, by simp; omega⟩
set_option maxHeartbeats 4000000 in
set_option maxRecDepth 1000000 in
theorem way_iter : ∀ (d i f t bt bf bi : Nat) (w : World), d ≤ 3 → f ≤ i → i < t → t - f ≤ 2 ^ d → t ≤ 8 → Bxs w bt bf bi i f t →
    IterOK Tryz.prog 92 #[.pointer (some ⟨bt, 0, none⟩), .pointer (some ⟨bf, 0, none⟩), .pointer (some ⟨bi, 0, none⟩)] pcsA (wayL (d + 1) i f t) w := by
  have one : ∀ (d i f t bt bf bi : Nat) (w : World), f < t → t ≤ 8 → t - f = 1 → Bxs w bt bf bi i f t →
      IterOK Tryz.prog 92 #[.pointer (some ⟨bt, 0, none⟩), .pointer (some ⟨bf, 0, none⟩), .pointer (some ⟨bi, 0, none⟩)] pcsA (wayL (d + 1) i f t) w := by
    intro d i f t bt bf bi w hft ht8 h1 hbx l J Jx W hbW hJ hJx hJm hJ0 hY
    obtain ⟨ct, cf, ci, lt, lf, li⟩ := hbx.below hbW
    have hw1 : IntKind.i64.wrap ((t : Int) - (f : Int)) = 1 := by rw [IntKind.wrap_i64]; omega
    have hpieces : wayL (d + 1) i f t = [] := by
      show (if t - f = 1 then [] else _) = _
      rw [if_pos h1]
    have HP := Lib.hid hpieces
    have HJ0 := Lib.hid hJ0
    have hbX : Below W.heap.size W (W.alloc (Obj.cells #[Value.func (Fn.yield l) #[] #[]] 104)) := (Below.refl _ W).alloc (Nat.le_refl _) _
    have HBX := Lib.hid hbX
    clear hbW hJ hJx hJm hJ0 hY hbx hpieces hbX
    refine callsIn_wide (n := 0).1 ?_
    refine callsIn_of_wp_marks Tryz.func92 rfl trivial ?_
    simp only [Tryz.ntmps92, List.size_toArray, List.length_cons, List.length_nil, Nat.reduceAdd, Nat.reduceSub, Array.replicate_succ, Array.replicate_zero, List.push_toArray, List.append_toArray, List.nil_append, List.cons_append]
    refine wpIn_wide.2 ?_
    go_wp2
    exact ⟨_, results_none rfl _ _ _, ⟨_, rfl⟩, .inl ⟨_, HBX.out.size, by rw [HP.out]; exact HJ0.out _ HBX.out⟩⟩
  intro d
  induction d with
  | zero =>
    intro i f t bt bf bi w hd hfi hit htf ht8 hbx
    exact one 0 i f t bt bf bi w (by omega) ht8 (by omega) hbx
  | succ d ih =>
    intro i f t bt bf bi w hd hfi hit htf ht8 hbx
    by_cases h1 : t - f = 1
    · exact one (d + 1) i f t bt bf bi w (by omega) ht8 h1 hbx
    · intro l J Jx W hbW hJ hJx hJm hJ0 hY
      obtain ⟨ct, cf, ci, lt, lf, li⟩ := hbx.below hbW
      obtain ⟨n2, n8, p1, p2, k0, k1⟩ := fst_half0 (n := t - f) (d := d) h1 (by omega) (by omega) htf
      have HFI := Lib.hid fun w => cfirst_any (t - f) w n2 n8
      obtain ⟨K, hK⟩ : ∃ K, fst (t - f) = K := ⟨_, rfl⟩
      rw [hK] at p1 p2 k0 k1 HFI
      have hw1 : IntKind.i64.wrap ((t : Int) - (f : Int)) = ((t - f : Nat) : Int) := by rw [IntKind.wrap_i64]; omega
      have hw2 : IntKind.i64.wrap ((f : Int) + (K : Int)) = ((f + K : Nat) : Int) := by rw [IntKind.wrap_i64]; omega
      have hb2 : (((t - f : Nat) : Int) == 1) = false := by rw [beq_eq_false_iff_ne]; omega
      have HH := Lib.hid (And.intro hbW (And.intro hJ (And.intro hJx (And.intro hJm (And.intro hJ0 hY)))))
      have HIH := Lib.hid ih
      clear hbW hJ hJx hJm hJ0 hY hbx ih one
      generalize hn : t - f = n at *
      generalize hm : f + K = mid at *
      refine callsIn_wide (n := 0).1 ?_
      refine callsIn_of_wp_marks Tryz.func92 rfl trivial ?_
      simp only [Tryz.ntmps92, List.size_toArray, List.length_cons, List.length_nil, Nat.reduceAdd, Nat.reduceSub, Array.replicate_succ, Array.replicate_zero, List.push_toArray, List.append_toArray, List.nil_append, List.cons_append]
      refine wpIn_wide.2 ?_
      go_wp2_with fail
      obtain ⟨X, hX⟩ : ∃ X, W.alloc (Obj.cells #[Value.func (Fn.yield l) #[] #[]] 104) = X := ⟨_, rfl⟩
      have ctX : X.cell? ⟨bt, 0, none⟩ = some (.int .i64 (t : Int)) := by rw [← hX]; exact (((Below.refl _ W).alloc (Nat.le_refl _) _).cell (p := ⟨bt, 0, none⟩) lt).trans ct
      have cfX : X.cell? ⟨bf, 0, none⟩ = some (.int .i64 (f : Int)) := by rw [← hX]; exact (((Below.refl _ W).alloc (Nat.le_refl _) _).cell (p := ⟨bf, 0, none⟩) lf).trans cf
      have ciX : X.cell? ⟨bi, 0, none⟩ = some (.int .i64 (i : Int)) := by rw [← hX]; exact (((Below.refl _ W).alloc (Nat.le_refl _) _).cell (p := ⟨bi, 0, none⟩) li).trans ci
      have hXs : X.heap.size = W.heap.size + 1 := by rw [← hX]; exact World.size_alloc _ _
      have hXY : X.heap[W.heap.size]? = some (Obj.cells #[Value.func (Fn.yield l) #[] #[]] 104) := by rw [← hX]; exact World.alloc_heap_new _ _
      have HWX : Hid (Below W.heap.size W X) := by rw [← hX]; exact (Below.refl _ W).alloc (Nat.le_refl _) _
      have ltX : bt < X.heap.size := by omega
      have lfX : bf < X.heap.size := by omega
      have liX : bi < X.heap.size := by omega
      rw [hX]
      have HXY := Lib.hid hXY
      have HXS := Lib.hid hXs
      clear hX ct cf ci lt lf li hXY hXs
      have hdr := Below.drewN' (Below.refl X.heap.size X) 1
      refine Ord.region_lit (S := fun w' => Below X.heap.size X w') (by kernel_rfl) (by kernel_rfl) hdr ?_
      clear hdr
      refine Ord.stepR (v := ?_) (by rfl) ?_ ?_
      rotate_left
      · intro w' hSw
        have ct' := (hSw.cell (p := ⟨bt, 0, none⟩) ltX).trans ctX
        have cf' := (hSw.cell (p := ⟨bf, 0, none⟩) lfX).trans cfX
        go_simp
        try with_reducible rfl
      try simp only [Act.put, List.setIfInBounds_toArray, List.set_cons_zero, List.set_cons_succ]
      refine Ord.stepR (v := ?_) (by rfl) ?_ ?_
      rotate_left
      · intro w' hSw
        have ct' := (hSw.cell (p := ⟨bt, 0, none⟩) ltX).trans ctX
        have cf' := (hSw.cell (p := ⟨bf, 0, none⟩) lfX).trans cfX
        go_simp
        try with_reducible rfl
      try simp only [Act.put, List.setIfInBounds_toArray, List.set_cons_zero, List.set_cons_succ]
      refine Ord.stepR (v := ?_) (by rfl) ?_ ?_
      rotate_left
      · intro w' hSw
        have ct' := (hSw.cell (p := ⟨bt, 0, none⟩) ltX).trans ctX
        have cf' := (hSw.cell (p := ⟨bf, 0, none⟩) lfX).trans cfX
        go_simp
        try with_reducible rfl
      try simp only [Act.put, List.setIfInBounds_toArray, List.set_cons_zero, List.set_cons_succ]
      refine Ord.stepR (v := ?_) (by rfl) ?_ ?_
      rotate_left
      · intro w' hSw
        have ct' := (hSw.cell (p := ⟨bt, 0, none⟩) ltX).trans ctX
        have cf' := (hSw.cell (p := ⟨bf, 0, none⟩) lfX).trans cfX
        go_simp
        try with_reducible rfl
      try simp only [Act.put, List.setIfInBounds_toArray, List.set_cons_zero, List.set_cons_succ]
      refine Ord.stepC (v := .int .i64 (K : Int)) (by rfl) ?_ (fun w1 hS => (HFI.out w1).mono fun e w2 h => ⟨h.1, by rw [h.2]; exact hS⟩) ?_
      · intro w' hSw
        go_simp
        try with_reducible rfl
      try simp only [Act.put, List.setIfInBounds_toArray, List.set_cons_zero, List.set_cons_succ]
      refine Ord.stepR (v := ?_) (by rfl) ?_ ?_
      rotate_left
      · intro w' hSw
        have ct' := (hSw.cell (p := ⟨bt, 0, none⟩) ltX).trans ctX
        have cf' := (hSw.cell (p := ⟨bf, 0, none⟩) lfX).trans cfX
        go_simp
        try with_reducible rfl
      try simp only [Act.put, List.setIfInBounds_toArray, List.set_cons_zero, List.set_cons_succ]
      refine Ord.stepR (v := ?_) (by rfl) ?_ ?_
      rotate_left
      · intro w' hSw
        have ct' := (hSw.cell (p := ⟨bt, 0, none⟩) ltX).trans ctX
        have cf' := (hSw.cell (p := ⟨bf, 0, none⟩) lfX).trans cfX
        go_simp
        try with_reducible rfl
      try simp only [Act.put, List.setIfInBounds_toArray, List.set_cons_zero, List.set_cons_succ]
      refine Ord.stepD fun Z hZ => ?_
      have ctZ := (hZ.cell (p := ⟨bt, 0, none⟩) ltX).trans ctX
      have cfZ := (hZ.cell (p := ⟨bf, 0, none⟩) lfX).trans cfX
      go_wp2_with fail
      refine region_join (R := fun a ex a' w' => ex = .normal ∧ ∃ bw bb : Nat, Two X bw bb (f, mid) (mid, t) w' ∧ a' = { tmps := #[.func (.yield l) #[] #[], .pointer (some ⟨bt, 0, none⟩), .pointer (some ⟨bf, 0, none⟩), .pointer (some ⟨bi, 0, none⟩), .pointer (some ⟨W.heap.size, 0, none⟩), .int .i64 (mid : Int), .pointer (some ⟨bw, 0, none⟩), .pointer (some ⟨bb, 0, none⟩), undef, .int .i64 (t : Int), .int .i64 (f : Int), .int .i64 (n : Int), .bool false, .int .i64 (f : Int), .int .i64 (t : Int), .int .i64 (f : Int), .int .i64 (n : Int), .int .i64 (K : Int), .int .i64 (mid : Int), .int .i64 (f : Int), .int .i64 (mid : Int), .agg #[.int .i64 (f : Int), .int .i64 (mid : Int)], .int .i64 (mid : Int), .int .i64 (t : Int), .agg #[.int .i64 (mid : Int), .int .i64 (t : Int)], undef, undef, undef, undef, undef, undef, undef, undef, undef, undef, undef, undef, undef, undef, undef, undef, undef, undef, undef], defers := [] }) ?_ ?_
      · refine wp_region_held_drew (S := fun w' => w'.cell? ⟨bt, 0, none⟩ = some (.int .i64 (t : Int)) ∧ w'.cell? ⟨bf, 0, none⟩ = some (.int .i64 (f : Int))) (by kernel_rfl) ⟨ctZ, cfZ⟩ (fun hHeld => ?_)
        have hz1 := Below.drewN' hZ 1
        obtain ⟨z, hz⟩ : ∃ z, Z.drew = z := ⟨_, rfl⟩
        have hz2 : Below X.heap.size X z := by rw [← hz]; exact hz1
        rw [hz] at hHeld ⊢
        have HZ := Lib.hid hz2
        clear hz hz1 hz2 ctZ cfZ hZ
        refine wpAnyH_take (i := 0) (v := ?_) (by rw [List.getElem?_toArray]; rfl) (by kernel_rfl) (by kernel_rfl) (by kernel_rfl) (by intro _ _ _ h; exact absurd h.1 (by simp)) (Or.inl ⟨by rfl, ?_⟩) (by assumption) ?_
        rotate_left
        · intro w' hSw
          obtain ⟨ct', cf'⟩ := hSw
          go_simp
          try with_reducible rfl
        try simp only [Act.put, List.setIfInBounds_toArray, List.set_cons_zero, List.set_cons_succ]
        refine wpAnyH_take (i := 1) (v := ?_) (by rw [List.getElem?_toArray]; rfl) (by kernel_rfl) (by kernel_rfl) (by kernel_rfl) (by intro _ _ _ h; exact absurd h.1 (by simp)) (Or.inl ⟨by rfl, ?_⟩) (by assumption) ?_
        rotate_left
        · intro w' hSw
          obtain ⟨ct', cf'⟩ := hSw
          go_simp
          try with_reducible rfl
        try simp only [Act.put, List.setIfInBounds_toArray, List.set_cons_zero, List.set_cons_succ]
        refine wpAnyH_take (i := 2) (v := ?_) (by rw [List.getElem?_toArray]; rfl) (by kernel_rfl) (by kernel_rfl) (by kernel_rfl) (by intro _ _ _ h; exact absurd h.1 (by simp)) (Or.inl ⟨by rfl, ?_⟩) (by assumption) ?_
        rotate_left
        · intro w' hSw
          obtain ⟨ct', cf'⟩ := hSw
          go_simp
          try with_reducible rfl
        try simp only [Act.put, List.setIfInBounds_toArray, List.set_cons_zero, List.set_cons_succ]
        refine wpAnyH_take (i := 3) (v := ?_) (by rw [List.getElem?_toArray]; rfl) (by kernel_rfl) (by kernel_rfl) (by kernel_rfl) (by intro _ _ _ h; exact absurd h.1 (by simp)) (Or.inl ⟨by rfl, ?_⟩) (by assumption) ?_
        rotate_left
        · intro w' hSw
          obtain ⟨ct', cf'⟩ := hSw
          go_simp
          try with_reducible rfl
        try simp only [Act.put, List.setIfInBounds_toArray, List.set_cons_zero, List.set_cons_succ]
        refine wpAnyH_take (i := 4) (v := ?_) (by rw [List.getElem?_toArray]; rfl) (by kernel_rfl) (by kernel_rfl) (by kernel_rfl) (by intro _ _ _ h; exact absurd h.1 (by simp)) (Or.inl ⟨by rfl, ?_⟩) (by assumption) ?_
        rotate_left
        · intro w' hSw
          obtain ⟨ct', cf'⟩ := hSw
          go_simp
          try with_reducible rfl
        try simp only [Act.put, List.setIfInBounds_toArray, List.set_cons_zero, List.set_cons_succ]
        refine wpAnyH_take (i := 5) (v := ?_) (by rw [List.getElem?_toArray]; rfl) (by kernel_rfl) (by kernel_rfl) (by kernel_rfl) (by intro _ _ _ h; exact absurd h.1 (by simp)) (Or.inl ⟨by rfl, ?_⟩) (by assumption) ?_
        rotate_left
        · intro w' hSw
          obtain ⟨ct', cf'⟩ := hSw
          go_simp
          try with_reducible rfl
        try simp only [Act.put, List.setIfInBounds_toArray, List.set_cons_zero, List.set_cons_succ]
        refine wpAnyH_ready (rs := [6, 7]) (by kernel_rfl) (by simp) ?_
        refine AllReadyH.cons (by rw [List.getElem?_toArray]; rfl) (fun K hK => ?_) ?_
        · go_simp
          have HZ1 := Lib.hid (HZ.out.alloc HZ.out.size (.cells #[.int .i64 0, .int .i64 0] 91))
          refine hK.out _ _ ⟨(HZ1.out.cell (p := ⟨bt, 0, none⟩) ltX).trans ctX, (HZ1.out.cell (p := ⟨bf, 0, none⟩) lfX).trans cfX⟩ (fun hHeld => ?_)
          clear hHeld
          try simp only [Act.put, List.setIfInBounds_toArray, List.set_cons_zero, List.set_cons_succ]
          refine wpAnyH_ready (rs := [7]) (by kernel_rfl) (by simp) ?_
          refine AllReadyH.cons (by rw [List.getElem?_toArray]; rfl) (fun K hK => ?_) AllReadyH.nil
          go_simp
          have HZ2 := Lib.hid (HZ1.out.alloc HZ1.out.size (.cells #[.int .i64 0, .int .i64 0] 91))
          refine hK.out _ _ ⟨(HZ2.out.cell (p := ⟨bt, 0, none⟩) ltX).trans ctX, (HZ2.out.cell (p := ⟨bf, 0, none⟩) lfX).trans cfX⟩ (fun hHeld => ?_)
          clear hHeld
          try simp only [Act.put, List.setIfInBounds_toArray, List.set_cons_zero, List.set_cons_succ]
          refine wpAnyH_ready (rs := [8]) (by kernel_rfl) (by simp) ?_
          refine AllReadyH.cons (by rw [List.getElem?_toArray]; rfl) (fun K hK => ?_) AllReadyH.nil
          go_simp
          have HZ3 := Lib.hid ((HZ.out.alloc HZ.out.size (pcsO (f, mid))).alloc (HZ.out.alloc HZ.out.size (pcsO (f, mid))).size (.cells #[.int .i64 0, .int .i64 0] 91))
          refine hK.out _ _ ⟨(HZ3.out.cell (p := ⟨bt, 0, none⟩) ltX).trans ctX, (HZ3.out.cell (p := ⟨bf, 0, none⟩) lfX).trans cfX⟩ (fun hHeld => ?_)
          clear hHeld
          try simp only [Act.put, List.setIfInBounds_toArray, List.set_cons_zero, List.set_cons_succ]
          refine wpAnyH_ready (rs := [9]) (by kernel_rfl) (by simp) ?_
          refine AllReadyH.cons (by rw [List.getElem?_toArray]; rfl) (fun K hK => ?_) AllReadyH.nil
          go_simp
          have HZ4 := Lib.hid ((HZ.out.alloc HZ.out.size (pcsO (f, mid))).alloc (HZ.out.alloc HZ.out.size (pcsO (f, mid))).size (pcsO (mid, t)))
          refine hK.out _ _ ⟨(HZ4.out.cell (p := ⟨bt, 0, none⟩) ltX).trans ctX, (HZ4.out.cell (p := ⟨bf, 0, none⟩) lfX).trans cfX⟩ (fun hHeld => ?_)
          clear hHeld
          try simp only [Act.put, List.setIfInBounds_toArray, List.set_cons_zero, List.set_cons_succ]
          refine wpAnyH_done (by kernel_rfl) ?_ _
          have hsz := HZ.out.size
          refine ⟨rfl, z.heap.size, z.heap.size + 1, ⟨HZ4.out, by omega, by omega, by omega, ?_, ?_⟩, rfl⟩
          · exact (Below.heap_alloc (z.alloc (pcsO (f, mid))) (pcsO (mid, t)) z.heap.size (by simp)).trans (World.alloc_heap_new z (pcsO (f, mid)))
          · have := World.alloc_heap_new (z.alloc (pcsO (f, mid))) (pcsO (mid, t))
            rwa [World.size_alloc] at this
        refine AllReadyH.cons (by rw [List.getElem?_toArray]; rfl) (fun K hK => ?_) AllReadyH.nil
        · go_simp
          have HZ1 := Lib.hid (HZ.out.alloc HZ.out.size (.cells #[.int .i64 0, .int .i64 0] 91))
          refine hK.out _ _ ⟨(HZ1.out.cell (p := ⟨bt, 0, none⟩) ltX).trans ctX, (HZ1.out.cell (p := ⟨bf, 0, none⟩) lfX).trans cfX⟩ (fun hHeld => ?_)
          clear hHeld
          try simp only [Act.put, List.setIfInBounds_toArray, List.set_cons_zero, List.set_cons_succ]
          refine wpAnyH_ready (rs := [6]) (by kernel_rfl) (by simp) ?_
          refine AllReadyH.cons (by rw [List.getElem?_toArray]; rfl) (fun K hK => ?_) AllReadyH.nil
          go_simp
          have HZ2 := Lib.hid (HZ1.out.alloc HZ1.out.size (.cells #[.int .i64 0, .int .i64 0] 91))
          refine hK.out _ _ ⟨(HZ2.out.cell (p := ⟨bt, 0, none⟩) ltX).trans ctX, (HZ2.out.cell (p := ⟨bf, 0, none⟩) lfX).trans cfX⟩ (fun hHeld => ?_)
          clear hHeld
          try simp only [Act.put, List.setIfInBounds_toArray, List.set_cons_zero, List.set_cons_succ]
          refine wpAnyH_ready (rs := [8]) (by kernel_rfl) (by simp) ?_
          refine AllReadyH.cons (by rw [List.getElem?_toArray]; rfl) (fun K hK => ?_) AllReadyH.nil
          go_simp
          have HZ3 := Lib.hid ((HZ.out.alloc HZ.out.size (.cells #[.int .i64 0, .int .i64 0] 91)).alloc (HZ.out.alloc HZ.out.size (.cells #[.int .i64 0, .int .i64 0] 91)).size (pcsO (f, mid)))
          refine hK.out _ _ ⟨(HZ3.out.cell (p := ⟨bt, 0, none⟩) ltX).trans ctX, (HZ3.out.cell (p := ⟨bf, 0, none⟩) lfX).trans cfX⟩ (fun hHeld => ?_)
          clear hHeld
          try simp only [Act.put, List.setIfInBounds_toArray, List.set_cons_zero, List.set_cons_succ]
          refine wpAnyH_ready (rs := [9]) (by kernel_rfl) (by simp) ?_
          refine AllReadyH.cons (by rw [List.getElem?_toArray]; rfl) (fun K hK => ?_) AllReadyH.nil
          go_simp
          have HZ4 := Lib.hid ((HZ.out.alloc HZ.out.size (pcsO (mid, t))).alloc (HZ.out.alloc HZ.out.size (pcsO (mid, t))).size (pcsO (f, mid)))
          refine hK.out _ _ ⟨(HZ4.out.cell (p := ⟨bt, 0, none⟩) ltX).trans ctX, (HZ4.out.cell (p := ⟨bf, 0, none⟩) lfX).trans cfX⟩ (fun hHeld => ?_)
          clear hHeld
          try simp only [Act.put, List.setIfInBounds_toArray, List.set_cons_zero, List.set_cons_succ]
          refine wpAnyH_done (by kernel_rfl) ?_ _
          have hsz := HZ.out.size
          refine ⟨rfl, z.heap.size + 1, z.heap.size, ⟨HZ4.out, by omega, by omega, by omega, ?_, ?_⟩, rfl⟩
          · have := World.alloc_heap_new (z.alloc (pcsO (mid, t))) (pcsO (f, mid))
            rwa [World.size_alloc] at this
          · exact (Below.heap_alloc (z.alloc (pcsO (mid, t))) (pcsO (f, mid)) z.heap.size (by simp)).trans (World.alloc_heap_new z (pcsO (mid, t)))
      · rintro ex a' w' ⟨rfl, bw, bb, HT, rfl⟩
        have hb := HT.bel
        have ctV := (hb.cell (p := ⟨bt, 0, none⟩) ltX).trans ctX
        have cfV := (hb.cell (p := ⟨bf, 0, none⟩) lfX).trans cfX
        have ciV := (hb.cell (p := ⟨bi, 0, none⟩) liX).trans ciX
        have hne := HT.ne
        have hne2 := Ne.symm hne
        have k1i : bi ≠ bw := by have := HT.lw; omega
        have k2i : bi ≠ bb := by have := HT.lb; omega
        have k3i := Ne.symm k1i
        have k4i := Ne.symm k2i
        obtain ⟨x0, x1, xf0, xf1⟩ := pcs_cells HT.hw
        obtain ⟨y0, y1, yf0, yf1⟩ := pcs_cells HT.hb
        by_cases hil : i < mid
        · have hil2 : ¬ (mid : Int) ≤ (i : Int) := by omega
          go_wp2_with fail
          obtain ⟨V, hV⟩ : ∃ V, w' = V := ⟨_, rfl⟩
          have HT2 : Two X bw bb (f, mid) (mid, t) V := by rw [← hV]; exact HT
          rw [hV]
          clear hV x0 x1 xf0 xf1 y0 y1 yf0 yf1 ctV cfV ciV HT hb hil2 k1i k2i k3i k4i hne hne2
          refine (way_any i f mid _).mono ?_
          rintro e v1 ⟨rfl, hv1⟩
          have hbV : Below V.heap.size V v1 := by rw [hv1]; exact three_below V _ _ _
          have hbx1 : Bxs v1 (V.heap.size + 2) (V.heap.size + 1) V.heap.size i f mid := by rw [hv1]; exact boxes_new V i f mid
          have HT3 : Two X bw bb (f, mid) (mid, t) v1 := HT2.below hbV
          clear hv1 HT2
          dsimp only
          go_wp2_with fail
          obtain ⟨hbW, hJ, hJx, hJm, hJ0, hY⟩ := HH.out
          have hWV : Below W.heap.size W v1 := HWX.out.trans (HT3.bel.mono HWX.out.size)
          have hXS := HXS.out
          have hXv := HT3.bel.size
          have hwv : W.heap.size < v1.heap.size := by omega
          have hbwv := (Array.getElem?_eq_some_iff.1 HT3.hw).1
          have hbbv := (Array.getElem?_eq_some_iff.1 HT3.hb).1
          have hlb := HT3.lb
          have hyv : v1.heap[W.heap.size]? = some (Obj.cells #[Value.func (Fn.yield l) #[] #[]] 104) := (HT3.bel.block _ (by omega)).trans HXY.out
          have hpieces : wayL (d + 1 + 1) i f t = wayL (d + 1) i f mid ++ [(mid, t)] := by
            show (if t - f = 1 then [] else if i < f + fst (t - f) then wayL (d + 1) i f (f + fst (t - f)) ++ [(f + fst (t - f), t)] else wayL (d + 1) i (f + fst (t - f)) t ++ [(f, f + fst (t - f))]) = _
            rw [hn, hK, hm, if_neg h1, if_pos hil]
          have hseq := HIH.out i f mid (V.heap.size + 2) (V.heap.size + 1) V.heap.size v1 (by omega) (by omega) (by omega) (by omega) (by omega) hbx1
          rw [hpieces] at hY
          generalize wayL (d + 1) i f mid = xs at hseq hY hpieces
          refine (wpIn_wide (n := 0)).1 ?_
          refine range_law (xs := xs) (encs := pcsA) (a₁ := fun x b => { tmps := #[.func (.yield l) #[] #[], .pointer (some ⟨bt, 0, none⟩), .pointer (some ⟨bf, 0, none⟩), .pointer (some ⟨bi, 0, none⟩), .pointer (some ⟨W.heap.size, 0, none⟩), .int .i64 (mid : Int), .pointer (some ⟨bw, 0, none⟩), .pointer (some ⟨bb, 0, none⟩), .pointer (some ⟨b, 0, none⟩), .int .i64 (t : Int), .int .i64 (f : Int), .int .i64 (n : Int), .bool false, .int .i64 (f : Int), .int .i64 (t : Int), .int .i64 (f : Int), .int .i64 (n : Int), .int .i64 (K : Int), .int .i64 (mid : Int), .int .i64 (f : Int), .int .i64 (mid : Int), .agg #[.int .i64 (f : Int), .int .i64 (mid : Int)], .int .i64 (mid : Int), .int .i64 (t : Int), .agg #[.int .i64 (mid : Int), .int .i64 (t : Int)], .int .i64 (i : Int), .int .i64 (mid : Int), .bool false, undef, undef, .int .i64 (i : Int), .pointer (some ⟨bw, 0, none⟩), .int .i64 (f : Int), .pointer (some ⟨bw, 1, none⟩), .int .i64 (mid : Int), .func (.func 92) #[] #[.pointer (some ⟨V.heap.size + 2, 0, none⟩), .pointer (some ⟨V.heap.size + 1, 0, none⟩), .pointer (some ⟨V.heap.size, 0, none⟩)], pcs x, undef, undef, undef, undef, undef, undef, undef], defers := [] }) (blk := pcsO) rfl (enters_of Tryz.func92 (by kernel_rfl) rfl) hseq (Below.refl _ _) (fun _ => rfl)
            (fun m pre A => J m pre A ∧ Keeps W.heap.size v1.heap.size v1 A) (fun pre A => Jx pre A) ?hI ?hIx (fun m ys A h => hJm m ys A h.1) (fun A hA => ⟨hJ0 A (hWV.trans (hA.mono hWV.size)), ⟨hA.size, fun k _ h2 => hA.block k h2⟩⟩) ?assign ?body ?done ?stop
          case hI =>
            intro m s A B row hs hg hr
            have hsz := hs.2.size
            exact ⟨hJ m s A B row hs.1 hg (fun r e => ⟨by have := (hr r e).1; omega, (hr r e).2⟩), hs.2.trans ⟨hg.size, fun k h1 h2 => hg.block k (by omega) (fun e => by have := (hr k e.symm).1; omega)⟩⟩
          case hIx =>
            intro s A B row hs hg hr
            exact hJx s A B row hs hg (fun r e => ⟨by have := (hr r e).1; omega, (hr r e).2⟩)
          case assign =>
            intro l' x A K hK
            simp only [pcsA, pcs, pcsO] at hK ⊢
            gi_wp2
            exact hK
          case body =>
            intro l' m pre x b A hm' hjk hpre' hb' hbx
            obtain ⟨hj, hk⟩ := hjk
            have hyA := cell_heap ((hk.same W.heap.size (Nat.le_refl _) hwv).trans hyv)
            obtain ⟨c0, c1, _, _⟩ := pcs_cells hbx
            obtain ⟨fn, tmps, assign, body, hy, hR⟩ := hY m pre x A (by omega) hj (hpre'.trans (List.prefix_append _ _))
            simp only [pcsA, pcs] at hy
            gi_wp2_with fail
            refine ⟨rfl, (RoundIn.inR l' hR).mono ?_⟩
            clear hR hy
            rintro e W' (⟨rfl, hJ', hk'⟩ | ⟨rfl, hJ', hk'⟩)
            · gi_wp2
              exact ⟨hk'.mono (by omega), hJ', hk.trans (hk'.less (by omega))⟩
            · gi_wp2
              exact ⟨hk'.mono (by omega), hJ'⟩
          case done =>
            intro m A hm' hjk hD
            obtain ⟨hj, hk⟩ := hjk
            have hyA := cell_heap ((hk.same W.heap.size (Nat.le_refl _) hwv).trans hyv)
            have hbA := (hk.same bb (by omega) hbbv).trans HT3.hb
            obtain ⟨c0, c1, _, _⟩ := pcs_cells hbA
            obtain ⟨fn, tmps, assign, body, hy, hR⟩ := hY m xs (mid, t) A (by omega) hj (List.prefix_refl _)
            simp only [pcsA, pcs] at hy
            dsimp only [Exit.inBlock, Exit.then]
            refine (by assumption : ∀ (a : Act) (w : World), Code.wp Tryz.prog _ _ a w → _) _ _ ?_
            refine (wpIn_wide (n := 0)).1 ?_
            gi_wp2_with fail
            refine ⟨rfl, (RoundIn.any hR).mono ?_⟩
            clear hR hy
            rintro e W' (⟨rfl, hJ', hk'⟩ | ⟨rfl, hJ', hk'⟩)
            · have hD' := (hk'.same v1.heap.size (by omega) (by omega)).trans hD
              gi_wp2
              refine ⟨by simp, .inl ⟨_, _, rfl, run_takeDeferred hD', ?_⟩⟩
              exact ⟨_, results_none rfl _ _ _, ⟨_, rfl⟩, .inl ⟨m, by omega, by rw [hpieces]; exact (hJ m).putObj _ hJ' (by omega) hD' rfl⟩⟩
            · have hD' := (hk'.same v1.heap.size (by omega) (by omega)).trans hD
              gi_wp2
              refine ⟨by simp, .inl ⟨_, _, rfl, run_takeDeferred hD', ?_⟩⟩
              exact ⟨_, results_none rfl _ _ _, ⟨_, rfl⟩, .inr ⟨_, by rw [hpieces]; exact List.prefix_refl _, hJx.putObj _ hJ' (by omega) hD' rfl⟩⟩
          case stop =>
            intro pre A hpre' hj hD
            gi_wp2
            refine ⟨by simp, .inl ⟨_, _, rfl, run_takeDeferred hD, ?_⟩⟩
            exact ⟨_, results_none rfl _ _ _, ⟨_, rfl⟩, .inr ⟨pre, by rw [hpieces]; exact hpre'.trans (List.prefix_append _ _), hJx.putObj _ hj (by omega) hD rfl⟩⟩
        · have hil2 : (mid : Int) ≤ (i : Int) := by omega
          go_wp2_with fail
          have HT2 := two_swap HT
          generalize ((((w'.setCell ⟨bw, 0, none⟩ (.int .i64 (mid : Int))).setCell ⟨bw, 1, none⟩ (.int .i64 (t : Int))).setCell ⟨bb, 0, none⟩ (.int .i64 (f : Int))).setCell ⟨bb, 1, none⟩ (.int .i64 (mid : Int))) = V at HT2 ⊢
          clear x0 x1 xf0 xf1 y0 y1 yf0 yf1 ctV cfV ciV HT hb hil2 k1i k2i k3i k4i hne hne2
          refine (way_any i mid t _).mono ?_
          rintro e v1 ⟨rfl, hv1⟩
          have hbV : Below V.heap.size V v1 := by rw [hv1]; exact three_below V _ _ _
          have hbx1 : Bxs v1 (V.heap.size + 2) (V.heap.size + 1) V.heap.size i mid t := by rw [hv1]; exact boxes_new V i mid t
          have HT3 : Two X bw bb (mid, t) (f, mid) v1 := HT2.below hbV
          clear hv1 HT2
          dsimp only
          go_wp2_with fail
          obtain ⟨hbW, hJ, hJx, hJm, hJ0, hY⟩ := HH.out
          have hWV : Below W.heap.size W v1 := HWX.out.trans (HT3.bel.mono HWX.out.size)
          have hXS := HXS.out
          have hXv := HT3.bel.size
          have hwv : W.heap.size < v1.heap.size := by omega
          have hbwv := (Array.getElem?_eq_some_iff.1 HT3.hw).1
          have hbbv := (Array.getElem?_eq_some_iff.1 HT3.hb).1
          have hlb := HT3.lb
          have hyv : v1.heap[W.heap.size]? = some (Obj.cells #[Value.func (Fn.yield l) #[] #[]] 104) := (HT3.bel.block _ (by omega)).trans HXY.out
          have hpieces : wayL (d + 1 + 1) i f t = wayL (d + 1) i mid t ++ [(f, mid)] := by
            show (if t - f = 1 then [] else if i < f + fst (t - f) then wayL (d + 1) i f (f + fst (t - f)) ++ [(f + fst (t - f), t)] else wayL (d + 1) i (f + fst (t - f)) t ++ [(f, f + fst (t - f))]) = _
            rw [hn, hK, hm, if_neg h1, if_neg hil]
          have hseq := HIH.out i mid t (V.heap.size + 2) (V.heap.size + 1) V.heap.size v1 (by omega) (by omega) (by omega) (by omega) (by omega) hbx1
          rw [hpieces] at hY
          generalize wayL (d + 1) i mid t = xs at hseq hY hpieces
          refine (wpIn_wide (n := 0)).1 ?_
          refine range_law (xs := xs) (encs := pcsA) (a₁ := fun x b => { tmps := #[.func (.yield l) #[] #[], .pointer (some ⟨bt, 0, none⟩), .pointer (some ⟨bf, 0, none⟩), .pointer (some ⟨bi, 0, none⟩), .pointer (some ⟨W.heap.size, 0, none⟩), .int .i64 (mid : Int), .pointer (some ⟨bw, 0, none⟩), .pointer (some ⟨bb, 0, none⟩), .pointer (some ⟨b, 0, none⟩), .int .i64 (t : Int), .int .i64 (f : Int), .int .i64 (n : Int), .bool false, .int .i64 (f : Int), .int .i64 (t : Int), .int .i64 (f : Int), .int .i64 (n : Int), .int .i64 (K : Int), .int .i64 (mid : Int), .int .i64 (f : Int), .int .i64 (mid : Int), .agg #[.int .i64 (f : Int), .int .i64 (mid : Int)], .int .i64 (mid : Int), .int .i64 (t : Int), .agg #[.int .i64 (mid : Int), .int .i64 (t : Int)], .int .i64 (i : Int), .int .i64 (mid : Int), .bool true, .agg #[.int .i64 (mid : Int), .int .i64 (t : Int)], .agg #[.int .i64 (f : Int), .int .i64 (mid : Int)], .int .i64 (i : Int), .pointer (some ⟨bw, 0, none⟩), .int .i64 (mid : Int), .pointer (some ⟨bw, 1, none⟩), .int .i64 (t : Int), .func (.func 92) #[] #[.pointer (some ⟨V.heap.size + 2, 0, none⟩), .pointer (some ⟨V.heap.size + 1, 0, none⟩), .pointer (some ⟨V.heap.size, 0, none⟩)], pcs x, undef, undef, undef, undef, undef, undef, undef], defers := [] }) (blk := pcsO) rfl (enters_of Tryz.func92 (by kernel_rfl) rfl) hseq (Below.refl _ _) (fun _ => rfl)
            (fun m pre A => J m pre A ∧ Keeps W.heap.size v1.heap.size v1 A) (fun pre A => Jx pre A) ?hI ?hIx (fun m ys A h => hJm m ys A h.1) (fun A hA => ⟨hJ0 A (hWV.trans (hA.mono hWV.size)), ⟨hA.size, fun k _ h2 => hA.block k h2⟩⟩) ?assign ?body ?done ?stop
          case hI =>
            intro m s A B row hs hg hr
            have hsz := hs.2.size
            exact ⟨hJ m s A B row hs.1 hg (fun r e => ⟨by have := (hr r e).1; omega, (hr r e).2⟩), hs.2.trans ⟨hg.size, fun k h1 h2 => hg.block k (by omega) (fun e => by have := (hr k e.symm).1; omega)⟩⟩
          case hIx =>
            intro s A B row hs hg hr
            exact hJx s A B row hs hg (fun r e => ⟨by have := (hr r e).1; omega, (hr r e).2⟩)
          case assign =>
            intro l' x A K hK
            simp only [pcsA, pcs, pcsO] at hK ⊢
            gi_wp2
            exact hK
          case body =>
            intro l' m pre x b A hm' hjk hpre' hb' hbx
            obtain ⟨hj, hk⟩ := hjk
            have hyA := cell_heap ((hk.same W.heap.size (Nat.le_refl _) hwv).trans hyv)
            obtain ⟨c0, c1, _, _⟩ := pcs_cells hbx
            obtain ⟨fn, tmps, assign, body, hy, hR⟩ := hY m pre x A (by omega) hj (hpre'.trans (List.prefix_append _ _))
            simp only [pcsA, pcs] at hy
            gi_wp2_with fail
            refine ⟨rfl, (RoundIn.inR l' hR).mono ?_⟩
            clear hR hy
            rintro e W' (⟨rfl, hJ', hk'⟩ | ⟨rfl, hJ', hk'⟩)
            · gi_wp2
              exact ⟨hk'.mono (by omega), hJ', hk.trans (hk'.less (by omega))⟩
            · gi_wp2
              exact ⟨hk'.mono (by omega), hJ'⟩
          case done =>
            intro m A hm' hjk hD
            obtain ⟨hj, hk⟩ := hjk
            have hyA := cell_heap ((hk.same W.heap.size (Nat.le_refl _) hwv).trans hyv)
            have hbA := (hk.same bb (by omega) hbbv).trans HT3.hb
            obtain ⟨c0, c1, _, _⟩ := pcs_cells hbA
            obtain ⟨fn, tmps, assign, body, hy, hR⟩ := hY m xs (f, mid) A (by omega) hj (List.prefix_refl _)
            simp only [pcsA, pcs] at hy
            dsimp only [Exit.inBlock, Exit.then]
            refine (by assumption : ∀ (a : Act) (w : World), Code.wp Tryz.prog _ _ a w → _) _ _ ?_
            refine (wpIn_wide (n := 0)).1 ?_
            gi_wp2_with fail
            refine ⟨rfl, (RoundIn.any hR).mono ?_⟩
            clear hR hy
            rintro e W' (⟨rfl, hJ', hk'⟩ | ⟨rfl, hJ', hk'⟩)
            · have hD' := (hk'.same v1.heap.size (by omega) (by omega)).trans hD
              gi_wp2
              refine ⟨by simp, .inl ⟨_, _, rfl, run_takeDeferred hD', ?_⟩⟩
              exact ⟨_, results_none rfl _ _ _, ⟨_, rfl⟩, .inl ⟨m, by omega, by rw [hpieces]; exact (hJ m).putObj _ hJ' (by omega) hD' rfl⟩⟩
            · have hD' := (hk'.same v1.heap.size (by omega) (by omega)).trans hD
              gi_wp2
              refine ⟨by simp, .inl ⟨_, _, rfl, run_takeDeferred hD', ?_⟩⟩
              exact ⟨_, results_none rfl _ _ _, ⟨_, rfl⟩, .inr ⟨_, by rw [hpieces]; exact List.prefix_refl _, hJx.putObj _ hJ' (by omega) hD' rfl⟩⟩
          case stop =>
            intro pre A hpre' hj hD
            gi_wp2
            refine ⟨by simp, .inl ⟨_, _, rfl, run_takeDeferred hD, ?_⟩⟩
            exact ⟨_, results_none rfl _ _ _, ⟨_, rfl⟩, .inr ⟨pre, by rw [hpieces]; exact hpre'.trans (List.prefix_append _ _), hJx.putObj _ hj (by omega) hD rfl⟩⟩
end Go.Proofs.YtmmeklemaofmjaaGreat.Tre

/-
  THE LANDED CODE (package tree): isLeaf, join. By an AI agent; no person has read it.
-/
namespace Go.Proofs.YtmmeklemaofmjaaGreat.Tre
open Go.RowKit Wire Term Draw Reg Clo

set_option linter.unusedSimpArgs false
set_option linter.unusedVariables false
set_option maxHeartbeats 2000000 in
set_option maxRecDepth 1000000 in
theorem cjoin_any (a b : ByteArray) (w : World) (ha : a.size ≤ 140737488355328) (hb : b.size ≤ 140737488355328) :
    Calls Tryz.prog 74 #[.string a, .string b] w fun e w' => Sr (over a.data.toList b.data.toList) e ∧ Below w.heap.size w w' := by
  have HP := Lib.hid fun w => t_OfPair a b w ha hb
  obtain ⟨x, f, hx⟩ : ∃ x f, two 112 a.data.toList b.data.toList = (x, f) := ⟨_, _, rfl⟩
  generalize ho : over a.data.toList b.data.toList = o
  unfold over at ho
  rw [hx] at ho HP
  have hl := two_len hx
  have HH : Hid (∀ (T : ByteArray) (w : World), T.data.toList = x → Calls Tryz.prog 72 #[.string T] w fun e w' => Sr (one 104 x) e ∧ Below w.heap.size w w') := Lib.hid fun T w hT => by
    have := t_OfHash T w (by rw [Lib.size_eq, hT]; omega)
    rw [hT] at this
    exact this
  clear hx hl
  by_cases hf : f = 0
  · subst hf
    rw [if_neg (fun h => h rfl)] at ho
    rw [ho] at HH
    obtain ⟨ol, of⟩ := o
    clear ho
    go_enter Tryz.func74, Tryz.ntmps74
    go_wp2_with fail
    with_reducible refine (HP.out _).mono ?_
    rintro e w1 ⟨⟨T, hT, rfl⟩, hb1⟩
    try dsimp only at hT
    have HT := Lib.hid hT
    have HB1 := Lib.hid hb1
    clear hT hb1
    dsimp only
    go_wp2_with fail
    with_reducible refine (HH.out T _ HT.out).mono ?_
    rintro e w2 ⟨⟨U, hU, rfl⟩, hb2⟩
    try dsimp only at hU
    have HU := Lib.hid hU
    have HB2 := Lib.hid (belc HB1.out hb2)
    clear hU hb2
    dsimp only
    go_wp2
    go_ret2
    exact ⟨⟨U, HU.out, rfl⟩, HB2.out⟩
  · rw [if_pos hf] at ho
    have HO := Lib.hid ho
    have hfb : (f == 0) = false := by simpa using hf
    have hfb2 : (f != 0) = true := by simpa using hf
    clear ho hf
    go_enter Tryz.func74, Tryz.ntmps74
    go_wp2_with fail
    with_reducible refine (HP.out _).mono ?_
    rintro e w1 ⟨⟨T, hT, rfl⟩, hb1⟩
    try dsimp only at hT
    have HT := Lib.hid hT
    have HB1 := Lib.hid hb1
    clear hT hb1
    dsimp only
    go_wp2
    go_ret2
    exact ⟨by rw [← HO.out]; exact ⟨⟨#[]⟩, rfl, rfl⟩, HB1.out⟩
set_option maxHeartbeats 2000000 in
set_option maxRecDepth 1000000 in
theorem cleaf_any (t : ByteArray) (w : World) (ht : t.size ≤ 140737488355328) :
    Calls Tryz.prog 71 #[.string t] w fun e w' => e = .returned (.bool (isLeaf t.data.toList)) ∧ Below w.heap.size w w' := by
  have HK := Lib.hid fun w => t_Kind t w ht
  obtain ⟨v, hv⟩ : ∃ v, isLeaf t.data.toList = v := ⟨_, rfl⟩
  rw [hv]
  by_cases hk : kind t.data.toList = 112
  · have hr : right t.data.toList = true := by
      cases h : right t.data.toList with
      | true => rfl
      | false => rw [kind_wrong h] at hk; exact absurd hk (by decide)
    have hh : t.data.toList.headD 0 = 112 := by
      rw [kind_right hr] at hk
      exact UInt8.toNat_inj.1 hk
    obtain ⟨p, q, hpq, hp, hq⟩ : ∃ a b, pts t.data.toList = [a, b] ∧ right a = true ∧ right b = true := by
      cases hx : t.data.toList with
      | nil => rw [hx] at hh; exact absurd hh (by decide)
      | cons k r =>
        rw [hx] at hh hr
        have h1 : k = 112 := hh
        subst h1
        obtain ⟨y, z, e1, e2, e3, e4, _⟩ := pts_two hr (.inl rfl)
        exact ⟨y, z, e2, e3, e4⟩
    have HP : Hid (∀ w, Calls Tryz.prog 91 #[.string t] w fun e w' => Ta ([p, q], 0) e w' ∧ Below w.heap.size w w') := Lib.hid fun w => by
      have := t_Parts t w ht
      rw [show parts t.data.toList = (pts t.data.toList, 0) by unfold pts parts; rw [if_pos hr], hpq] at this
      exact this
    rw [hk] at HK
    have hvv : v = (decide (p.headD 0 = 116) && decide (q.headD 0 = 97)) := by
      rw [← hv]
      unfold isLeaf
      rw [hk, hpq]
      rfl
    have hkp := kind_right hp
    have hkq := kind_right hq
    have b1 := (p.headD 0).toNat_lt
    have b2 := (q.headD 0).toNat_lt
    have hvv2 : v = (decide (kind p = 116) && decide (kind q = 97)) := by
      rw [hvv, hkp, hkq]
      congr 1
      · exact decide_eq_decide.2 ⟨fun h => by rw [h]; rfl, fun h => UInt8.toNat_inj.1 h⟩
      · exact decide_eq_decide.2 ⟨fun h => by rw [h]; rfl, fun h => UInt8.toNat_inj.1 h⟩
    clear hv hk hr hh hpq hvv b1 b2 hkp hkq
    have HPR := Lib.hid (right_len hp)
    have HQR := Lib.hid (right_len hq)
    clear hp hq
    go_enter Tryz.func71, Tryz.ntmps71
    go_wp2_with fail
    with_reducible refine (HK.out _).mono ?_
    rintro e w1 ⟨rfl, hb1⟩
    dsimp only
    go_wp2_with fail
    with_reducible refine (HP.out _).mono ?_
    rintro e w2 ⟨⟨A, cc, ys, hys, hlc, hsr, rfl⟩, hb2⟩
    have HB1 := Lib.hid (belc hb1 hb2)
    obtain ⟨PA, PB, rfl, hPA, hPB⟩ := bl_two hys
    obtain ⟨g2, off, rfl, hg1, l0, l1⟩ := two_reads hsr
    have HKA := Lib.hid fun w => t_Kind PA w (by rw [Lib.size_eq, hPA]; have := HPR.out; omega)
    have HKB := Lib.hid fun w => t_Kind PB w (by rw [Lib.size_eq, hPB]; have := HQR.out; omega)
    rw [hPA] at HKA
    rw [hPB] at HKB
    obtain ⟨ka, hka⟩ : ∃ k, kind p = k := ⟨_, rfl⟩
    obtain ⟨kb, hkb⟩ : ∃ k, kind q = k := ⟨_, rfl⟩
    rw [hka] at HKA hvv2
    rw [hkb] at HKB hvv2
    have HG := Lib.hid hg1
    have H1 := Lib.hid l1
    clear hb1 hb2 hys hlc hsr hka hkb hPA hPB
    dsimp only
    go_wp2_with fail
    with_reducible refine (HKA.out _).mono ?_
    rintro e w3 ⟨rfl, hb3⟩
    have l1' := (hb3.cell (p := ⟨g2, off + 1, none⟩) HG.out).trans H1.out
    have HB3 := Lib.hid (belc HB1.out hb3)
    clear hb3 l1 l0 hg1
    dsimp only
    by_cases e1 : ka = 116
    · subst e1
      have c1 : (((116 : Nat) : Int) == 116) = true := rfl
      go_wp2_with fail
      with_reducible refine (HKB.out _).mono ?_
      rintro e w4 ⟨rfl, hb4⟩
      have HB4 := Lib.hid (belc HB3.out hb4)
      clear hb4
      dsimp only
      by_cases e2 : kb = 97
      · subst e2
        have c2 : (((97 : Nat) : Int) == 97) = true := rfl
        obtain rfl : v = true := hvv2
        go_wp2
        go_ret
        exact ⟨rfl, HB4.out⟩
      · have c2 : ((kb : Int) == 97) = false := by rw [beq_eq_false_iff_ne]; omega
        obtain rfl : v = false := by rw [hvv2, decide_eq_false e2]; rfl
        clear hvv2
        go_wp2
        go_ret
        exact ⟨rfl, HB4.out⟩
    · have c1 : ((ka : Int) == 116) = false := by rw [beq_eq_false_iff_ne]; omega
      obtain rfl : v = false := by rw [hvv2, decide_eq_false e1]; rfl
      clear hvv2
      go_wp2
      go_ret
      exact ⟨rfl, HB3.out⟩
  · obtain rfl : v = false := by rw [← hv]; unfold isLeaf; rw [decide_eq_false hk]; rfl
    obtain ⟨k, hkk⟩ : ∃ k, kind t.data.toList = k := ⟨_, rfl⟩
    rw [hkk] at HK hk
    have c1 : ((k : Int) == 112) = false := by rw [beq_eq_false_iff_ne]; omega
    have c2 : ((k : Int) != 112) = true := by simp [bne, c1]
    clear hv hkk
    go_enter Tryz.func71, Tryz.ntmps71
    go_wp2_with fail
    with_reducible refine (HK.out _).mono ?_
    rintro e w1 ⟨rfl, hb1⟩
    dsimp only
    go_wp2
    go_ret
    exact ⟨rfl, hb1⟩
end Go.Proofs.YtmmeklemaofmjaaGreat.Tre

/-
  THE LANDED CODE (package tree): Leaf, grow, Root. By an AI agent; no person has read it.
-/
namespace Go.Proofs.YtmmeklemaofmjaaGreat.Tre
open Go.RowKit Wire Term Draw Reg Clo

set_option linter.unusedSimpArgs false
set_option linter.unusedVariables false
set_option maxHeartbeats 4000000 in
set_option maxRecDepth 1000000 in
theorem cgrow_any : ∀ (d : Nat) (A : Option Addr) (c : Nat) (ys : List ByteArray) (w : World), d ≤ 3 → SReads w A ys → 1 ≤ ys.length → ys.length ≤ 2 ^ d → ys.length ≤ c → c ≤ 9223372036854775807 → (∀ y ∈ ys, y.size ≤ 140737488355328) →
    Calls Tryz.prog 79 #[.slice A ys.length c] w fun e w' => Sr (treeD (d + 1) (bl ys)) e ∧ Below w.heap.size w w' := by
  intro d
  induction d with
  | zero =>
    intro A c ys w hd hr h1 h2 hc hc2 hz
    obtain ⟨y, rfl⟩ := List.length_eq_one_iff.1 (show ys.length = 1 by omega)
    rw [treeD_succ, if_pos (show (bl [y]).length = 1 from rfl)]
    obtain ⟨g, off, rfl, hg, hcell⟩ := hr 0 (by simp)
    have hc0 : w.cell? ⟨g, off, none⟩ = some (.string y) := hcell
    have HH := Lib.hid fun w => t_OfHash y w (hz y (by simp))
    obtain ⟨x, f, hx⟩ : ∃ x f, one 104 y.data.toList = (x, f) := ⟨_, _, rfl⟩
    show Calls _ _ _ _ fun e w' => Sr (one 104 y.data.toList) e ∧ _
    rw [hx] at HH ⊢
    clear hx hr hz
    go_enter Tryz.func79, Tryz.ntmps79
    go_wp2_with fail
    with_reducible refine (HH.out _).mono ?_
    rintro e w1 ⟨⟨T, hT, rfl⟩, hb1⟩
    try dsimp only at hT
    have HT := Lib.hid hT
    dsimp only
    go_wp2
    go_ret2
    exact ⟨⟨T, HT.out, rfl⟩, hb1⟩
  | succ d ih =>
    intro A c ys w hd hr h1 h2 hc hc2 hz
    by_cases hl : ys.length = 1
    · obtain ⟨y, rfl⟩ := List.length_eq_one_iff.1 hl
      rw [treeD_succ, if_pos (show (bl [y]).length = 1 from rfl)]
      obtain ⟨g, off, rfl, hg, hcell⟩ := hr 0 (by simp)
      have hc0 : w.cell? ⟨g, off, none⟩ = some (.string y) := hcell
      have HH := Lib.hid fun w => t_OfHash y w (hz y (by simp))
      obtain ⟨x, f, hx⟩ : ∃ x f, one 104 y.data.toList = (x, f) := ⟨_, _, rfl⟩
      show Calls _ _ _ _ fun e w' => Sr (one 104 y.data.toList) e ∧ _
      rw [hx] at HH ⊢
      clear hx hr hz ih
      go_enter Tryz.func79, Tryz.ntmps79
      go_wp2_with fail
      with_reducible refine (HH.out _).mono ?_
      rintro e w1 ⟨⟨T, hT, rfl⟩, hb1⟩
      try dsimp only at hT
      have HT := Lib.hid hT
      dsimp only
      go_wp2
      go_ret2
      exact ⟨⟨T, HT.out, rfl⟩, hb1⟩
    · obtain ⟨p1, p2, p3, p4, p5⟩ := fst_half (n := ys.length) (d := d) (by omega) (by omega) h2
      obtain ⟨k0, k1⟩ := fst_lt (n := ys.length) (by omega) p3
      obtain ⟨g, off, rfl, hg, _⟩ := hr 0 (by omega)
      have HFI := Lib.hid fun w => cfirst_any ys.length w (by omega) p3
      have hbl : (bl ys).length = ys.length := by simp [bl]
      generalize ho : treeD (d + 1 + 1) (bl ys) = o
      rw [treeD_succ, hbl, if_neg hl, bl_take', bl_drop'] at ho
      obtain ⟨K, hK⟩ : ∃ K, fst ys.length = K := ⟨_, rfl⟩
      rw [hK] at p1 p2 k0 k1 HFI ho
      obtain ⟨n, hn⟩ : ∃ n, ys.length = n := ⟨_, rfl⟩
      have ltk : (ys.take K).length = K := by rw [List.length_take]; omega
      have ldr : (ys.drop K).length = n - K := by rw [List.length_drop, hn]
      obtain ⟨xa, fa, hxa⟩ : ∃ xa fa, treeD (d + 1) (bl (ys.take K)) = (xa, fa) := ⟨_, _, rfl⟩
      obtain ⟨xb, fb, hxb⟩ : ∃ xb fb, treeD (d + 1) (bl (ys.drop K)) = (xb, fb) := ⟨_, _, rfl⟩
      have HTA : Hid (∀ w, SReads w (some ⟨g, off, none⟩) ys → Calls Tryz.prog 79 #[.slice (some ⟨g, off, none⟩) K c] w fun e w' => Sr (xa, fa) e ∧ Below w.heap.size w w') := Lib.hid fun w h => by
        have := ih (some ⟨g, off, none⟩) c (ys.take K) w (by omega) (sreads_take h K) (by omega) (by omega) (by omega) hc2 (fun y hy => hz y (List.mem_of_mem_take hy))
        rw [ltk, hxa] at this
        exact this
      have HTB : Hid (∀ w, SReads w (some ⟨g, off, none⟩) ys → Calls Tryz.prog 79 #[.slice (some ⟨g, off + K, none⟩) (n - K) (c - K)] w fun e w' => Sr (xb, fb) e ∧ Below w.heap.size w w') := Lib.hid fun w h => by
        have := ih (some ⟨g, off + K, none⟩) (c - K) (ys.drop K) w (by omega) (sreads_drop h K) (by omega) (by omega) (by omega) (by omega) (fun y hy => hz y (List.mem_of_mem_drop hy))
        rw [ldr, hxb] at this
        exact this
      rw [hxa, hxb] at ho
      have hla := tree_len hxa
      have hlb := tree_len hxb
      have HOV : Hid (∀ (T U : ByteArray) (w : World), T.data.toList = xa → U.data.toList = xb → Calls Tryz.prog 74 #[.string T, .string U] w fun e w' => Sr (over xa xb) e ∧ Below w.heap.size w w') := Lib.hid fun T U w hT hU => by
        have := cjoin_any T U w (by rw [Lib.size_eq, hT]; omega) (by rw [Lib.size_eq, hU]; omega)
        rw [hT, hU] at this
        exact this
      have HR := Lib.hid hr
      rw [hn] at hl hc k1 h1 p3 HFI ⊢
      have hlb2 : ((n : Int) == 1) = false := by rw [beq_eq_false_iff_ne]; omega
      have q1 : (K : Int) ≤ (c : Int) := by omega
      have q2 : (K : Int) ≤ (n : Int) := by omega
      have q3 : (0 : Int) ≤ (K : Int) := by omega
      simp only at ho
      clear hxa hxb hr hz ih hla hlb ltk ldr hbl h2 p1 p2 p3 p4 p5
      by_cases hfa : fa = 0
      · subst hfa
        rw [if_neg (fun h => h rfl)] at ho
        by_cases hfb : fb = 0
        · subst hfb
          rw [if_neg (fun h => h rfl)] at ho
          rw [ho] at HOV
          obtain ⟨ol, of⟩ := o
          clear ho
          go_enter Tryz.func79, Tryz.ntmps79
          go_wp2_with fail
          with_reducible refine (HFI.out _).mono ?_
          rintro e w1 ⟨rfl, rfl⟩
          dsimp only
          go_wp2_with fail
          with_reducible refine (HTA.out _ HR.out).mono ?_
          rintro e w2 ⟨⟨T, hT, rfl⟩, hb2⟩
          try dsimp only at hT
          have HT := Lib.hid hT
          have HB2 := Lib.hid hb2
          have HR2 := Lib.hid (HR.out.below hb2 (Nat.le_refl _))
          clear hT hb2
          dsimp only
          go_wp2_with fail
          with_reducible refine (HTB.out _ HR2.out).mono ?_
          rintro e w3 ⟨⟨U, hU, rfl⟩, hb3⟩
          try dsimp only at hU
          have HU := Lib.hid hU
          have HB3 := Lib.hid (belc HB2.out hb3)
          clear hU hb3
          dsimp only
          go_wp2_with fail
          with_reducible refine (HOV.out T U _ HT.out HU.out).mono ?_
          rintro e w4 ⟨⟨V, hV, rfl⟩, hb4⟩
          try dsimp only at hV
          have HV := Lib.hid hV
          have HB4 := Lib.hid (belc HB3.out hb4)
          clear hV hb4
          dsimp only
          go_wp2
          go_ret2
          exact ⟨⟨V, HV.out, rfl⟩, HB4.out⟩
        · rw [if_pos hfb] at ho
          have HO := Lib.hid ho
          have hb1 : (fb == 0) = false := by simpa using hfb
          have hb2 : (fb != 0) = true := by simpa using hfb
          clear ho hfb
          go_enter Tryz.func79, Tryz.ntmps79
          go_wp2_with fail
          with_reducible refine (HFI.out _).mono ?_
          rintro e w1 ⟨rfl, rfl⟩
          dsimp only
          go_wp2_with fail
          with_reducible refine (HTA.out _ HR.out).mono ?_
          rintro e w2 ⟨⟨T, hT, rfl⟩, hb2⟩
          try dsimp only at hT
          have HT := Lib.hid hT
          have HB2 := Lib.hid hb2
          have HR2 := Lib.hid (HR.out.below hb2 (Nat.le_refl _))
          clear hT hb2
          dsimp only
          go_wp2_with fail
          with_reducible refine (HTB.out _ HR2.out).mono ?_
          rintro e w3 ⟨⟨U, hU, rfl⟩, hb3⟩
          try dsimp only at hU
          have HU := Lib.hid hU
          have HB3 := Lib.hid (belc HB2.out hb3)
          clear hU hb3
          dsimp only
          go_wp2
          go_ret2
          exact ⟨by rw [← HO.out]; exact ⟨⟨#[]⟩, rfl, rfl⟩, HB3.out⟩
      · rw [if_pos hfa] at ho
        have HO := Lib.hid ho
        have hb1 : (fa == 0) = false := by simpa using hfa
        have hb2 : (fa != 0) = true := by simpa using hfa
        clear ho hfa
        go_enter Tryz.func79, Tryz.ntmps79
        go_wp2_with fail
        with_reducible refine (HFI.out _).mono ?_
        rintro e w1 ⟨rfl, rfl⟩
        dsimp only
        go_wp2_with fail
        with_reducible refine (HTA.out _ HR.out).mono ?_
        rintro e w2 ⟨⟨T, hT, rfl⟩, hb2⟩
        try dsimp only at hT
        have HT := Lib.hid hT
        have HB2 := Lib.hid hb2
        have HR2 := Lib.hid (HR.out.below hb2 (Nat.le_refl _))
        clear hT hb2
        dsimp only
        go_wp2
        go_ret2
        exact ⟨by rw [← HO.out]; exact ⟨⟨#[]⟩, rfl, rfl⟩, HB2.out⟩
end Go.Proofs.YtmmeklemaofmjaaGreat.Tre

/-
  THE LANDED CODE (package tree): Root. By an AI agent; no person has read it.
-/
namespace Go.Proofs.YtmmeklemaofmjaaGreat.Tre
open Go.RowKit Wire Term Draw Reg Clo

set_option linter.unusedSimpArgs false
set_option linter.unusedVariables false
set_option maxHeartbeats 4000000 in
set_option maxRecDepth 1000000 in
theorem croot_any (A : Option Addr) (c : Nat) (ys : List ByteArray) (w : World) (hr : SReads w A ys) (hc : ys.length ≤ c) (hc2 : c ≤ 9223372036854775807) (hz : ∀ y ∈ ys, y.size ≤ 140737488355328) :
    Calls Tryz.prog 50 #[.slice A ys.length c] w fun e w' => Sr (root (bl ys)) e ∧ Below w.heap.size w w' := by
  have hbl : (bl ys).length = ys.length := by simp [bl]
  obtain ⟨o, ho⟩ : ∃ o, root (bl ys) = o := ⟨_, rfl⟩
  rw [ho]
  have HO := Lib.hid ho
  unfold root at ho
  rw [hbl] at ho
  by_cases h1 : ys.length < 1
  · rw [if_pos (.inl h1)] at ho
    have HX := Lib.hid ho
    have HIM := Lib.hid fun w => isMany_any (ys.length : Int) w
    rw [decide_eq_false (show ¬ ((1 : Int) ≤ (ys.length : Int) ∧ (ys.length : Int) ≤ 8) by omega)] at HIM
    clear ho h1
    go_enter Tryz.func50, Tryz.ntmps50
    go_wp2_with fail
    with_reducible refine (HIM.out _).mono ?_
    rintro e w1 ⟨rfl, rfl⟩
    dsimp only
    go_wp2
    go_ret2
    exact ⟨by rw [← HX.out]; exact ⟨⟨#[]⟩, rfl, rfl⟩, Below.refl _ _⟩
  · by_cases h8 : 8 < ys.length
    · rw [if_pos (.inr h8)] at ho
      have HX := Lib.hid ho
      have HIM := Lib.hid fun w => isMany_any (ys.length : Int) w
      rw [decide_eq_false (show ¬ ((1 : Int) ≤ (ys.length : Int) ∧ (ys.length : Int) ≤ 8) by omega)] at HIM
      clear ho h1 h8
      go_enter Tryz.func50, Tryz.ntmps50
      go_wp2_with fail
      with_reducible refine (HIM.out _).mono ?_
      rintro e w1 ⟨rfl, rfl⟩
      dsimp only
      go_wp2
      go_ret2
      exact ⟨by rw [← HX.out]; exact ⟨⟨#[]⟩, rfl, rfl⟩, Below.refl _ _⟩
    · rw [if_neg (by omega)] at ho
      have HIM := Lib.hid fun w => isMany_any (ys.length : Int) w
      rw [decide_eq_true (show ((1 : Int) ≤ (ys.length : Int) ∧ (ys.length : Int) ≤ 8) by omega)] at HIM
      have HLF := Lib.hid fun y (h : y ∈ ys) w => cleaf_any y w (hz y h)
      have HTR := Lib.hid fun w (h : SReads w A ys) => cgrow_any 3 A c ys w (by omega) h (by omega) (by omega) hc hc2 hz
      have HOO := Lib.hid ho
      clear ho
      have HR := Lib.hid hr
      have HB0 := Lib.hid (Below.refl w.heap.size w)
      go_enter Tryz.func50, Tryz.ntmps50
      go_wp2_with fail
      with_reducible refine (HIM.out _).mono ?_
      rintro e w1 ⟨rfl, hw⟩
      obtain rfl : w = w1 := hw.symm
      dsimp only
      go_wp2_with fail
      go_loopw [12] (fun i wr => ∃ k : Nat, k ≤ ys.length ∧ i = .int .i64 k ∧ Hid (Below w.heap.size w wr) ∧ Hid (∀ j, j < k → isLeaf (ys.getD j ByteArray.empty).data.toList = true)) (fun i _ => ys.length - (intOf i).toNat)
      case atStart => exact ⟨0, Nat.zero_le _, rfl, HB0, Lib.hid fun j hj => absurd hj (Nat.not_lt_zero _)⟩
      case round =>
        obtain ⟨k, hk, rfl, HB, HJ⟩ := hrel
        by_cases hlt : k < ys.length
        · obtain ⟨gg, off, hA, hblt, hcell⟩ := HR.out.below HB.out (Nat.le_refl _) k hlt
          have hA' := hA
          subst hA'
          obtain ⟨z, hzz⟩ : ∃ z, ys.getD k ByteArray.empty = z := ⟨_, rfl⟩
          rw [hzz] at hcell
          have hzm : z ∈ ys := by
            rw [← hzz, List.getD, List.getElem?_eq_getElem hlt]
            exact List.getElem_mem hlt
          have hki : (k : Int) < (ys.length : Int) := by omega
          have HL := Lib.hid fun w => HLF.out z hzm w
          obtain ⟨v, hv⟩ : ∃ v, isLeaf z.data.toList = v := ⟨_, rfl⟩
          rw [hv] at HL
          go_wp2_with fail
          with_reducible refine (HL.out _).mono ?_
          rintro e w2 ⟨rfl, hb2⟩
          have HB2 := Lib.hid (belc HB.out hb2)
          clear hb2
          dsimp only
          cases v with
          | true =>
            go_wp2
            go_roundw
            case rel => exact ⟨k + 1, by omega, by go_num, HB2, Lib.hid fun j hj => by
              rcases Nat.lt_or_ge j k with h | h
              · exact HJ.out j h
              · rw [show j = k by omega, hzz]; exact hv⟩
            case measure => simp [intOf]; omega
          | false =>
            have hno : ¬ (∀ t ∈ bl ys, isLeaf t = true) := fun h => by
              rw [h z.data.toList (List.mem_map.2 ⟨z, hzm, rfl⟩)] at hv; cases hv
            have HX := Lib.hid HOO.out
            rw [if_pos hno] at HX
            go_wp2
            go_ret2
            exact ⟨by rw [← HX.out]; exact ⟨⟨#[]⟩, rfl, rfl⟩, HB2.out⟩
        · obtain rfl : k = ys.length := by omega
          have hall : ∀ t ∈ bl ys, isLeaf t = true := fun t ht => by
            obtain ⟨y, hy, rfl⟩ := List.mem_map.1 ht
            obtain ⟨j, hj, rfl⟩ := List.mem_iff_getElem.1 hy
            have := HJ.out j hj
            rw [List.getD, List.getElem?_eq_getElem hj] at this
            exact this
          have HX := HOO.out
          rw [if_neg (fun h => h hall)] at HX
          have HX2 := Lib.hid HX
          have HT2 := Lib.hid fun w h => HTR.out w h
          rw [HX2.out] at HT2
          obtain ⟨ol, of⟩ := o
          clear HX hall HJ
          go_wp2_with fail
          with_reducible refine (HT2.out _ (HR.out.below HB.out (Nat.le_refl _))).mono ?_
          rintro e w2 ⟨⟨T, hT, rfl⟩, hb2⟩
          try dsimp only at hT
          have HT := Lib.hid hT
          have HB2 := Lib.hid (belc HB.out hb2)
          clear hT hb2
          dsimp only
          go_wp2
          go_ret2
          exact ⟨⟨T, HT.out, rfl⟩, HB2.out⟩
end Go.Proofs.YtmmeklemaofmjaaGreat.Tre
