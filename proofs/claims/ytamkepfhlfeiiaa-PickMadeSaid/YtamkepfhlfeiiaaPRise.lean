/-
  CONTRACT of the document's rising (letterlockref12): a row of one's own, put in order. By an AI agent; no person has read it.
-/
import Derived.Test.YtamkepfhlfeiiaaPSort
import Derived.Deep.RegionHeld3
namespace Go.Proofs.Ytamkepfhlfeiiaa.Sto
open Go Go.RowKit Wire

set_option linter.unusedVariables false
set_option linter.unusedSimpArgs false
/-- The row on its way. -/
structure RSt (base : Nat) (g n c : Nat) (ys : List ByteArray) (w wr : World) (zs : List ByteArray) : Prop where
  own : wr.ownsRow base 9 1 (.slice (some ⟨g, 0, none⟩) n c) n (sv zs)
  len : zs.length = n
  perm : (bl zs).Perm (bl ys)
  bel : Below base w wr
  g : base ≤ g
theorem bl_getD (zs : List ByteArray) (j : Nat) : (bl zs).getD j [] = (zs.getD j ByteArray.empty).data.toList := by
  by_cases h : j < zs.length
  · unfold bl; simp [List.getD_eq_getElem?_getD, List.getElem?_map, List.getElem?_eq_getElem h]
  · have h1 : (bl zs)[j]? = none := List.getElem?_eq_none (by rw [bl_len]; omega)
    have h2 : zs[j]? = none := List.getElem?_eq_none (by omega)
    rw [List.getD_eq_getElem?_getD, List.getD_eq_getElem?_getD, h1, h2]; rfl
theorem RSt.cell {base g n c : Nat} {ys zs : List ByteArray} {w wr : World} (h : RSt base g n c ys w wr zs) {j : Nat} (hj : j < n) : wr.cell? ⟨g, j, none⟩ = some (.string (zs.getD j ByteArray.empty)) ∧ wr.frozen? ⟨g, j, none⟩ = false := by
  have hl := h.len
  refine ⟨(h.own.cellAt j (by omega)).trans ?_, h.own.frozenAt j⟩
  unfold sv
  rw [List.getElem?_map, List.getD_eq_getElem?_getD, List.getElem?_eq_getElem (by omega : j < zs.length)]
  rfl
theorem RSt.small {base g n c : Nat} {ys zs : List ByteArray} {w wr : World} (h : RSt base g n c ys w wr zs) (hs : ∀ t ∈ bl ys, t.length ≤ 1000) {j : Nat} (hj : j < n) : (zs.getD j ByteArray.empty).size ≤ 1000 := by
  have hl := h.len
  have : (zs.getD j ByteArray.empty).data.toList ∈ bl zs := by
    rw [List.getD_eq_getElem?_getD, List.getElem?_eq_getElem (by omega : j < zs.length)]
    exact List.mem_map_of_mem (List.getElem_mem _)
  rw [Lib.size_eq]
  exact hs _ (h.perm.mem_iff.1 this)
theorem bl_set (zs : List ByteArray) (k : Nat) (y : ByteArray) : bl (zs.set k y) = (bl zs).set k y.data.toList := by unfold bl; rw [List.map_set]
theorem sv_set (zs : List ByteArray) (k : Nat) (y : ByteArray) : sv (zs.set k y) = (sv zs).set k (.string y) := by unfold sv; rw [List.map_set]
/-- Two neighbours change their places. -/
theorem RSt.swap {base g n c : Nat} {ys zs : List ByteArray} {w wr : World} (h : RSt base g n c ys w wr zs) {k : Nat} (h0 : 0 < k) (hk : k < n) :
    ∃ zs', RSt base g n c ys w ((wr.setCell ⟨g, k, none⟩ (.string (zs.getD (k - 1) ByteArray.empty))).setCell ⟨g, k - 1, none⟩ (.string (zs.getD k ByteArray.empty))) zs' ∧ bl zs' = swapAt (bl zs) k := by
  have hl := h.len
  have hb : bl ((zs.set k (zs.getD (k - 1) ByteArray.empty)).set (k - 1) (zs.getD k ByteArray.empty)) = swapAt (bl zs) k := by
    rw [bl_set, bl_set]; unfold swapAt; rw [bl_getD, bl_getD]
  refine ⟨(zs.set k (zs.getD (k - 1) ByteArray.empty)).set (k - 1) (zs.getD k ByteArray.empty), ⟨?_, by simpa using hl, ?_, (h.bel.setCell (p := ⟨g, k, none⟩) h.g _).setCell (p := ⟨g, k - 1, none⟩) h.g _, h.g⟩, hb⟩
  · obtain ⟨o1, _⟩ := h.own.stored k (.string (zs.getD (k - 1) ByteArray.empty))
    obtain ⟨o2, _⟩ := o1.stored (k - 1) (.string (zs.getD k ByteArray.empty))
    rw [sv_set, sv_set]; exact o2
  · rw [hb]; exact (swap_perm _ h0 (by rw [bl_len]; omega)).trans h.perm
/-- Two neighbours, as they are read. -/
def C2 (g q : Nat) (w : World) (x y : ByteArray) : Prop := g < w.heap.size ∧ w.cell? ⟨g, q + 1, none⟩ = some (.string x) ∧ w.cell? ⟨g, q, none⟩ = some (.string y)
theorem C2.below {g q : Nat} {w w1 : World} {x y : ByteArray} (h : C2 g q w x y) (hb : Below w.heap.size w w1) : C2 g q w1 x y := by
  obtain ⟨h0, h1, h2⟩ := h
  exact ⟨Nat.lt_of_lt_of_le h0 hb.size, (hb.cell (p := ⟨g, _, none⟩) h0).trans h1, (hb.cell (p := ⟨g, _, none⟩) h0).trans h2⟩
theorem RSt.lt {base g n c : Nat} {ys zs : List ByteArray} {w wr : World} (h : RSt base g n c ys w wr zs) : g < wr.heap.size := (h.own.lt g rfl).2
theorem RSt.below {base g n c : Nat} {ys zs : List ByteArray} {w wr w1 : World} (h : RSt base g n c ys w wr zs) (hb : Below wr.heap.size wr w1) : RSt base g n c ys w w1 zs :=
  ⟨own_below h.own hb (Nat.le_refl _), h.len, h.perm, h.bel.trans (hb.mono (Nat.le_of_lt (Nat.lt_of_le_of_lt h.g h.lt))), h.g⟩
set_option maxHeartbeats 8000000 in
set_option maxRecDepth 1000000 in
theorem risingr_c (base g c n : Nat) (ys : List ByteArray) (w : World) (hn : ys.length = n) (hn2 : n ≤ 100000) (ho : w.ownsRow base 9 1 (.slice (some ⟨g, 0, none⟩) n c) n (sv ys)) (hg : base ≤ g) (hs : ∀ t ∈ bl ys, t.length ≤ 1000) (hd : (bl ys).Nodup) :
    Calls Try.prog 45 #[.slice (some ⟨g, 0, none⟩) n c] w fun e w' => ∃ zs : List ByteArray, e = .returned (.slice (some ⟨g, 0, none⟩) n c) ∧ w'.ownsRow base 9 1 (.slice (some ⟨g, 0, none⟩) n c) n (sv zs) ∧ zs.length = n ∧ (bl zs).Perm (bl ys) ∧ Rising (bl zs) ∧ Below base w w' := by
  have H0 : Hid (RSt base g n c ys w w ys) := Lib.hid ⟨ho, hn, List.Perm.refl _, Below.refl _ _, hg⟩
  have HS := Lib.hid hs
  have HD := Lib.hid hd
  clear ho hs hd hn
  go_enter Try.func45, Try.ntmps45
  go_wp2_with fail
  go_loopw [3] (fun i wr => ∃ (j : Nat) (zs : List ByteArray), 1 ≤ j ∧ (j ≤ n ∨ j = 1) ∧ i = .int .i64 j ∧ Hid (RSt base g n c ys w wr zs) ∧ Hid (∀ a b, a < b → b < j → lsAt (bl zs) b a = false)) (fun i _ => n - (intOf i).toNat)
  case atStart => exact ⟨1, ys, Nat.le_refl _, .inr rfl, rfl, H0, Lib.hid fun a b h1 h2 => by omega⟩
  case round =>
    obtain ⟨j, zs, hj1, hjn, rfl, HR, HO⟩ := hrel
    have hj0 : (1 : Int) ≤ (j : Int) := by omega
    by_cases hlt : j < n
    · have hji : (j : Int) < (n : Int) := by omega
      go_wp2
      go_loopw [4] (fun k wr => ∃ (m : Nat) (zs : List ByteArray), m ≤ j ∧ k = .int .i64 m ∧ Hid (RSt base g n c ys w wr zs) ∧ Hid (Hole (bl zs) j m)) (fun k _ => (intOf k).toNat)
      case atStart => exact ⟨j, zs, Nat.le_refl _, rfl, HR, Lib.hid (hole_start HO.out)⟩
      case round =>
        clear HR HO
        obtain ⟨m, zs, hm, rfl, HR, HO⟩ := hrel
        by_cases h0 : 0 < m
        · obtain ⟨q, rfl⟩ : ∃ q, m = q + 1 := ⟨m - 1, by omega⟩
          obtain ⟨c1, f1⟩ := HR.out.cell (j := q + 1) (by omega)
          obtain ⟨c2, f2⟩ := HR.out.cell (j := q) (by omega)
          have hsm := HR.out.small HS.out (j := q + 1) (by omega)
          have hmi : (0 : Int) < ((q : Int) + 1) := by omega
          have hq0 : (0 : Int) ≤ (q : Int) := by omega
          have hqn : (q : Int) + 1 < (n : Int) := by omega
          have hqn2 : (q : Int) < (n : Int) := by omega
          have hq1 : (0 : Int) ≤ (q : Int) + 1 := by omega
          have hwq : IntKind.i64.wrap (q : Int) = (q : Int) := by rw [IntKind.wrap_i64]; omega
          obtain ⟨x, hx⟩ : ∃ x, zs.getD (q + 1) ByteArray.empty = x := ⟨_, rfl⟩
          obtain ⟨y, hy⟩ : ∃ y, zs.getD q ByteArray.empty = y := ⟨_, rfl⟩
          rw [hx] at c1 hsm
          rw [hy] at c2
          have HC : Hid (C2 g q wr x y) := Lib.hid ⟨HR.out.lt, c1, c2⟩
          have HX := Lib.hid hx
          have HY := Lib.hid hy
          have HL : Hid (∀ w1, Calls Try.prog 49 #[.string x, .string y] w1 fun e w' => e = .returned (.bool (Op.bytesLess x.data.toList y.data.toList)) ∧ Below w1.heap.size w1 w') := Lib.hid fun w1 => refless_any x y w1 (by omega)
          obtain ⟨lv, hlv⟩ : ∃ lv, Op.bytesLess x.data.toList y.data.toList = lv := ⟨_, rfl⟩
          rw [hlv] at HL
          have HLV := Lib.hid hlv
          clear c1 c2 f1 f2 hx hy hlv hsm
          go_wp2_with fail
          have hdr : C2 g q wr.drew x y ∧ Below wr.heap.size wr wr.drew := ⟨HC.out.below (Below.drewN' (Below.refl wr.heap.size wr) 1), (Below.drewN' (Below.refl wr.heap.size wr) 1)⟩
          refine Ord.region_lit (S := fun w' => C2 g q w' x y ∧ Below wr.heap.size wr w') (by kernel_rfl) (by kernel_rfl) hdr ?_
          clear hdr
          refine Ord.stepR (v := ?_) (by rfl) ?_ ?_
          rotate_left
          · intro w' hSw
            go_simp
            try with_reducible rfl
          try simp only [Act.put, List.setIfInBounds_toArray, List.set_cons_zero, List.set_cons_succ]
          refine Ord.stepR (v := ?_) (by rfl) ?_ ?_
          rotate_left
          · intro w' hSw
            go_simp
            try with_reducible rfl
          try simp only [Act.put, List.setIfInBounds_toArray, List.set_cons_zero, List.set_cons_succ]
          refine Ord.stepR (v := ?_) (by rfl) ?_ ?_
          rotate_left
          · intro w' hSw
            go_simp
            try with_reducible rfl
          try simp only [Act.put, List.setIfInBounds_toArray, List.set_cons_zero, List.set_cons_succ]
          refine Ord.stepR (v := ?_) (by rfl) ?_ ?_
          rotate_left
          · intro w' hSw
            go_simp
            try with_reducible rfl
          try simp only [Act.put, List.setIfInBounds_toArray, List.set_cons_zero, List.set_cons_succ]
          refine Ord.stepR (v := ?_) (by rfl) ?_ ?_
          rotate_left
          · intro w' hSw
            go_simp
            try with_reducible rfl
          try simp only [Act.put, List.setIfInBounds_toArray, List.set_cons_zero, List.set_cons_succ]
          refine Ord.stepR (v := ?_) (by rfl) ?_ ?_
          rotate_left
          · intro w' hSw
            go_simp
            try with_reducible rfl
          try simp only [Act.put, List.setIfInBounds_toArray, List.set_cons_zero, List.set_cons_succ]
          refine Ord.stepR (v := ?_) (by rfl) ?_ ?_
          rotate_left
          · intro w' hSw
            obtain ⟨_, z0, z1⟩ := hSw.1
            go_simp
            try with_reducible rfl
          try simp only [Act.put, List.setIfInBounds_toArray, List.set_cons_zero, List.set_cons_succ]
          refine Ord.stepR (v := ?_) (by rfl) ?_ ?_
          rotate_left
          · intro w' hSw
            go_simp
            try with_reducible rfl
          try simp only [Act.put, List.setIfInBounds_toArray, List.set_cons_zero, List.set_cons_succ]
          refine Ord.stepR (v := ?_) (by rfl) ?_ ?_
          rotate_left
          · intro w' hSw
            go_simp
            try with_reducible rfl
          try simp only [Act.put, List.setIfInBounds_toArray, List.set_cons_zero, List.set_cons_succ]
          refine Ord.stepR (v := ?_) (by rfl) ?_ ?_
          rotate_left
          · intro w' hSw
            go_simp
            try with_reducible rfl
          try simp only [Act.put, List.setIfInBounds_toArray, List.set_cons_zero, List.set_cons_succ]
          refine Ord.stepR (v := ?_) (by rfl) ?_ ?_
          rotate_left
          · intro w' hSw
            go_simp
            try with_reducible rfl
          try simp only [Act.put, List.setIfInBounds_toArray, List.set_cons_zero, List.set_cons_succ]
          refine Ord.stepR (v := ?_) (by rfl) ?_ ?_
          rotate_left
          · intro w' hSw
            obtain ⟨_, z0, z1⟩ := hSw.1
            go_simp
            try with_reducible rfl
          try simp only [Act.put, List.setIfInBounds_toArray, List.set_cons_zero, List.set_cons_succ]
          refine Ord.stepC (v := .bool lv) (by rfl) ?_ (fun w1 hS => (HL.out _).mono fun e w2 h => ⟨h.1, ⟨hS.1.below (h.2), hS.2.trans ((h.2).mono hS.2.size)⟩⟩) ?_
          · intro w' hSw
            go_simp
            try with_reducible rfl
          try simp only [Act.put, List.setIfInBounds_toArray, List.set_cons_zero, List.set_cons_succ]
          refine Ord.stepR (v := ?_) (by rfl) ?_ ?_
          rotate_left
          · intro w' hSw
            go_simp
            try with_reducible rfl
          try simp only [Act.put, List.setIfInBounds_toArray, List.set_cons_zero, List.set_cons_succ]
          refine Ord.stepD fun Z1 hZ => ?_
          replace HC := Lib.hid hZ.1
          have HB1 := Lib.hid hZ.2
          clear hZ
          replace HR := Lib.hid (HR.out.below HB1.out)
          cases lv
          · have HE : Hid (lsAt (bl zs) (q + 1) (q + 1 - 1) = false) := Lib.hid (by unfold lsAt; rw [Nat.add_sub_cancel, bl_getD, bl_getD, HX.out, HY.out]; exact HLV.out)
            go_wp2_with fail
            go_roundw
            case rel => exact ⟨j + 1, zs, by omega, by omega, by go_num, HR, Lib.hid (hole_end HO.out (by omega) hm HE.out)⟩
            case measure => simp [intOf]; omega
          · obtain ⟨c1, f1⟩ := HR.out.cell (j := q + 1) (by omega)
            obtain ⟨c2, f2⟩ := HR.out.cell (j := q) (by omega)
            rw [HX.out] at c1
            rw [HY.out] at c2
            have e1 : (Z1.setCell ⟨g, q + 1, none⟩ (.string y)).cell? ⟨g, q, none⟩ = some (.string y) := (World.cell?_setCell_other _ _ _ _ (fun e => by injection e with _ e _; omega)).trans c2
            have e2 : (Z1.setCell ⟨g, q + 1, none⟩ (.string y)).frozen? ⟨g, q, none⟩ = false := (World.frozen?_setCell ..).trans f2
            have hsw := HR.out.swap (k := q + 1) (by omega) (by omega)
            rw [Nat.add_sub_cancel, HX.out, HY.out] at hsw
            obtain ⟨zs', hz, hb⟩ := hsw
            have HZ := Lib.hid hz
            have hho := hole_swap HO.out (by omega) hm (by rw [bl_len, HR.out.len]; omega) (by unfold lsAt; rw [Nat.add_sub_cancel, bl_getD, bl_getD, HX.out, HY.out]; exact HLV.out)
            rw [Nat.add_sub_cancel, ← hb] at hho
            have HH := Lib.hid hho
            clear hz hb hho
            go_wp2_with fail
            go_roundw
            case rel => exact ⟨q, zs', by omega, rfl, HZ, HH⟩
            case measure => simp [intOf]
        · obtain rfl : m = 0 := by omega
          go_wp2_with fail
          have hdr : Below wr.heap.size wr wr.drew := (Below.drewN' (Below.refl wr.heap.size wr) 1)
          refine Ord.region_lit (S := fun w' => Below wr.heap.size wr w') (by kernel_rfl) (by kernel_rfl) hdr ?_
          clear hdr
          refine Ord.stepR (v := ?_) (by rfl) ?_ ?_
          rotate_left
          · intro w' hSw
            go_simp
            try with_reducible rfl
          try simp only [Act.put, List.setIfInBounds_toArray, List.set_cons_zero, List.set_cons_succ]
          refine Ord.stepR (v := ?_) (by rfl) ?_ ?_
          rotate_left
          · intro w' hSw
            go_simp
            try with_reducible rfl
          try simp only [Act.put, List.setIfInBounds_toArray, List.set_cons_zero, List.set_cons_succ]
          refine Ord.stepR (v := ?_) (by rfl) ?_ ?_
          rotate_left
          · intro w' hSw
            go_simp
            try with_reducible rfl
          try simp only [Act.put, List.setIfInBounds_toArray, List.set_cons_zero, List.set_cons_succ]
          refine Ord.stepS (by rfl) ?_
          try simp only [Act.put, List.setIfInBounds_toArray, List.set_cons_zero, List.set_cons_succ]
          refine Ord.stepS (by rfl) ?_
          try simp only [Act.put, List.setIfInBounds_toArray, List.set_cons_zero, List.set_cons_succ]
          refine Ord.stepS (by rfl) ?_
          try simp only [Act.put, List.setIfInBounds_toArray, List.set_cons_zero, List.set_cons_succ]
          refine Ord.stepS (by rfl) ?_
          try simp only [Act.put, List.setIfInBounds_toArray, List.set_cons_zero, List.set_cons_succ]
          refine Ord.stepS (by rfl) ?_
          try simp only [Act.put, List.setIfInBounds_toArray, List.set_cons_zero, List.set_cons_succ]
          refine Ord.stepS (by rfl) ?_
          try simp only [Act.put, List.setIfInBounds_toArray, List.set_cons_zero, List.set_cons_succ]
          refine Ord.stepS (by rfl) ?_
          try simp only [Act.put, List.setIfInBounds_toArray, List.set_cons_zero, List.set_cons_succ]
          refine Ord.stepS (by rfl) ?_
          try simp only [Act.put, List.setIfInBounds_toArray, List.set_cons_zero, List.set_cons_succ]
          refine Ord.stepS (by rfl) ?_
          try simp only [Act.put, List.setIfInBounds_toArray, List.set_cons_zero, List.set_cons_succ]
          refine Ord.stepS (by rfl) ?_
          try simp only [Act.put, List.setIfInBounds_toArray, List.set_cons_zero, List.set_cons_succ]
          refine Ord.stepR (v := ?_) (by rfl) ?_ ?_
          rotate_left
          · intro w' hSw
            go_simp
            try with_reducible rfl
          try simp only [Act.put, List.setIfInBounds_toArray, List.set_cons_zero, List.set_cons_succ]
          refine Ord.stepD fun Z1 hZ => ?_
          have HB1 := Lib.hid hZ
          clear hZ
          replace HR := Lib.hid (HR.out.below HB1.out)
          go_wp2_with fail
          go_roundw
          case rel => exact ⟨j + 1, zs, by omega, by omega, by go_num, HR, Lib.hid (hole_zero HO.out)⟩
          case measure => simp [intOf]; omega
    · go_wp2_with fail
      go_ret
      refine ⟨zs, rfl, HR.out.own, HR.out.len, HR.out.perm, rising_of ((HR.out.perm.nodup_iff).2 HD.out) (fun a b h1 h2 => HO.out a b h1 (by rw [bl_len, HR.out.len] at h2; omega)), HR.out.bel⟩
end Go.Proofs.Ytamkepfhlfeiiaa.Sto
