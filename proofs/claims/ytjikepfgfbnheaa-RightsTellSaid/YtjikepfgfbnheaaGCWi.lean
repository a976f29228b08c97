/-
  THE CODE's with, without (package rights): a list of its own with one name more, or less. By an AI agent; no person has read it.
-/
import Derived.Test.YtjikepfgfbnheaaGCSl
namespace Go.Proofs.Ytjikepfgfbnheaa.Rig
open Go.RowKit Wire

set_option linter.unusedSimpArgs false
set_option linter.unusedVariables false
/-- l[:k]. -/
theorem cut_hi (a : Option Addr) (n c P : Nat) (hP : P ≤ n) (hc : n ≤ c) (W : World) : (Instr.sliceAt 22 (.slice a n c) none (some (.int .i64 (P : Int))) none).run Try.prog W = .ok (.slice a P c) W := by
  have he : Try.prog.elem 22 = 9 := by kernel_rfl
  have hu : Try.prog.underlying 22 = some (.slice (Try.prog.elem 22)) := by rw [he]; exact Try.underlying22
  have hz : (sizeOf 9).run Try.prog W = .ok 1 W := by rw [Try.sizeOf9]
  rw [run_sliceAt_slice (h := hu), run_slice_h (ht := hu) (h0 := by omega) (h2 := by omega), he, hz]
  simp only [Result.andThen_ok, sliced, Int.toNat_natCast, Nat.sub_zero]
  cases a with
  | none => simp
  | some ad =>
    obtain ⟨b, o, x⟩ := ad
    by_cases h : c = 0
    · simp [h]
    · simp [h, Addr.add]
/-- l[k:]. -/
theorem cut_lo (a : Option Addr) (n c P : Nat) (hP : P ≤ n) (hc : n ≤ c) : ∃ A : Option Addr, (∀ W : World, (Instr.sliceAt 22 (.slice a n c) (some (.int .i64 (P : Int))) none none).run Try.prog W = .ok (.slice A (n - P) (c - P)) W) ∧ (c = P ∧ A = a ∨ c ≠ P ∧ A = a.map (·.add P)) := by
  have he : Try.prog.elem 22 = 9 := by kernel_rfl
  have hu : Try.prog.underlying 22 = some (.slice (Try.prog.elem 22)) := by rw [he]; exact Try.underlying22
  refine ⟨if c = P then a else a.map (·.add (P * 1)), fun W => ?_, ?_⟩
  · have hz : (sizeOf 9).run Try.prog W = .ok 1 W := by rw [Try.sizeOf9]
    rw [run_sliceAt_slice (h := hu), run_slice_l (ht := hu) (h0 := by omega) (h1 := by omega), he, hz]
    simp only [Result.andThen_ok, sliced, Int.toNat_natCast]
  · by_cases h : c = P
    · exact .inl ⟨h, by rw [if_pos h]⟩
    · exact .inr ⟨h, by rw [if_neg h, Nat.mul_one]⟩
theorem sreads_take {w : World} {a : Option Addr} {ys : List ByteArray} (h : SReads w a ys) (k : Nat) : SReads w a (ys.take k) := fun j hj => by
  rw [List.length_take] at hj
  obtain ⟨b, o, e, hb, hc⟩ := h j (by omega)
  refine ⟨b, o, e, hb, ?_⟩
  rw [hc]
  simp [List.getD, List.getElem?_take, show j < k by omega]
theorem sreads_drop {w : World} {a A : Option Addr} {ys : List ByteArray} {c P : Nat} (h : SReads w a ys) (hP : ys.length ≤ c) (hA : c = P ∧ A = a ∨ c ≠ P ∧ A = a.map (·.add P)) : SReads w A (ys.drop P) := fun j hj => by
  rw [List.length_drop] at hj
  obtain ⟨b, o, e, hb, hc⟩ := h (P + j) (by omega)
  rcases hA with ⟨h1, _⟩ | ⟨h1, rfl⟩
  · omega
  · refine ⟨b, o + P, ?_, hb, ?_⟩
    · rw [e, Option.map_some, add_none]
    · rw [show o + P + j = o + (P + j) by omega, hc]
      simp [List.getD, List.getElem?_drop]
theorem drop_nil {a A : Option Addr} {c P : Nat} (hn : a = none → c = 0) (hA : c = P ∧ A = a ∨ c ≠ P ∧ A = a.map (·.add P)) : A = none → c - P = 0 := fun h => by
  rcases hA with ⟨h1, rfl⟩ | ⟨h1, rfl⟩
  · omega
  · have := hn (by cases a with
      | none => rfl
      | some x => cases h)
    omega
theorem bl_app (xs ys : List ByteArray) : bl (xs ++ ys) = bl xs ++ bl ys := by simp [bl]
theorem three_pieces (w : World) (g : Nat) (t : TypeId) {A1 A2 A3 : Option Addr} {c1 c2 c3 : Nat} {m1 m2 m3 : Nat} {x1 x2 x3 : List ByteArray} (hg : g = w.heap.size)
    (e1 : m1 = x1.length) (e2 : m2 = x2.length) (e3 : m3 = x3.length) (h1 : SReads w A1 x1) (h2 : SReads w A2 x2) (h3 : SReads w A3 x3) (n1 : A1 = none → c1 = 0) (n2 : A2 = none → c2 = 0) (n3 : A3 = none → c3 = 0) :
    Pieces (w.alloc (.cells #[.slice A1 m1 c1, .slice A2 m2 c2, .slice A3 m3 c3] t)) g [(A1, c1, x1), (A2, c2, x2), (A3, c3, x3)] := by
  subst hg e1 e2 e3
  refine ⟨by simp, fun j A c ys hj => ?_⟩
  have hb := (Below.refl w.heap.size w).alloc (Nat.le_refl _) (.cells #[.slice A1 x1.length c1, .slice A2 x2.length c2, .slice A3 x3.length c3] t)
  have hc : ∀ j, (w.alloc (.cells #[.slice A1 x1.length c1, .slice A2 x2.length c2, .slice A3 x3.length c3] t)).cell? ⟨w.heap.size, j, none⟩ = (#[.slice A1 x1.length c1, .slice A2 x2.length c2, .slice A3 x3.length c3] : Array Value)[j]? := fun j => cell_of_row _ _ _ _ _ (0, 0) (heap_alloc_new w _)
  match j, hj with
  | 0, hj => simp at hj; obtain ⟨rfl, rfl, rfl⟩ := hj; exact ⟨hc 0, h1.below hb (Nat.le_refl _), n1⟩
  | 1, hj => simp at hj; obtain ⟨rfl, rfl, rfl⟩ := hj; exact ⟨hc 1, h2.below hb (Nat.le_refl _), n2⟩
  | 2, hj => simp at hj; obtain ⟨rfl, rfl, rfl⟩ := hj; exact ⟨hc 2, h3.below hb (Nat.le_refl _), n3⟩
  | k + 3, hj => simp at hj
theorem two_pieces (w : World) (g : Nat) (t : TypeId) {A1 A2 : Option Addr} {c1 c2 : Nat} {m1 m2 : Nat} {x1 x2 : List ByteArray} (hg : g = w.heap.size)
    (e1 : m1 = x1.length) (e2 : m2 = x2.length) (h1 : SReads w A1 x1) (h2 : SReads w A2 x2) (n1 : A1 = none → c1 = 0) (n2 : A2 = none → c2 = 0) :
    Pieces (w.alloc (.cells #[.slice A1 m1 c1, .slice A2 m2 c2] t)) g [(A1, c1, x1), (A2, c2, x2)] := by
  subst hg e1 e2
  refine ⟨by simp, fun j A c ys hj => ?_⟩
  have hb := (Below.refl w.heap.size w).alloc (Nat.le_refl _) (.cells #[.slice A1 x1.length c1, .slice A2 x2.length c2] t)
  have hc : ∀ j, (w.alloc (.cells #[.slice A1 x1.length c1, .slice A2 x2.length c2] t)).cell? ⟨w.heap.size, j, none⟩ = (#[.slice A1 x1.length c1, .slice A2 x2.length c2] : Array Value)[j]? := fun j => cell_of_row _ _ _ _ _ (0, 0) (heap_alloc_new w _)
  match j, hj with
  | 0, hj => simp at hj; obtain ⟨rfl, rfl, rfl⟩ := hj; exact ⟨hc 0, h1.below hb (Nat.le_refl _), n1⟩
  | 1, hj => simp at hj; obtain ⟨rfl, rfl, rfl⟩ := hj; exact ⟨hc 1, h2.below hb (Nat.le_refl _), n2⟩
  | k + 2, hj => simp at hj
theorem one_piece (w : World) (g : Nat) (t : TypeId) {A1 : Option Addr} {c1 : Nat} {m1 : Nat} {x1 : List ByteArray} (hg : g = w.heap.size)
    (e1 : m1 = x1.length) (h1 : SReads w A1 x1) (n1 : A1 = none → c1 = 0) :
    Pieces (w.alloc (.cells #[.slice A1 m1 c1] t)) g [(A1, c1, x1)] := by
  subst hg e1
  refine ⟨by simp, fun j A c ys hj => ?_⟩
  have hb := (Below.refl w.heap.size w).alloc (Nat.le_refl _) (.cells #[.slice A1 x1.length c1] t)
  have hc : ∀ j, (w.alloc (.cells #[.slice A1 x1.length c1] t)).cell? ⟨w.heap.size, j, none⟩ = (#[.slice A1 x1.length c1] : Array Value)[j]? := fun j => cell_of_row _ _ _ _ _ (0, 0) (heap_alloc_new w _)
  match j, hj with
  | 0, hj => simp at hj; obtain ⟨rfl, rfl, rfl⟩ := hj; exact ⟨hc 0, h1.below hb (Nat.le_refl _), n1⟩
  | k + 1, hj => simp at hj
theorem lit1_reads (w : World) (u : ByteArray) (g : Nat) (hg : g = w.heap.size) : SReads (w.alloc (.cells #[.string u] 9)) (some ⟨g, 0, none⟩) [u] := by
  subst hg
  intro j hj
  obtain rfl : j = 0 := by simpa using hj
  exact ⟨_, 0, rfl, by simp, cell_of_row _ _ _ _ _ (0, 0) (heap_alloc_new w _)⟩
theorem lst_mono {B B' : Nat} {x : List Tm} {e : Ending} {w : World} (h : Lst B x e w) (hB : B' ≤ B) : Lst B' x e w := by
  obtain ⟨A, c, ys, h1, h2, h3, h4, h5⟩ := h
  exact ⟨A, c, ys, h1, h2, h3, fun b off e => Nat.le_trans hB (h4 b off e), h5⟩
/-- slices.Concat of one list: a list of its own of the same. -/
theorem copy_any (a : Option Addr) (n c : Nat) (ys : List ByteArray) (w : World) (g : Nat) (hg : g = w.heap.size) (hr : SReads w a ys) (hl : ys.length ≤ 40) (hnil : a = none → c = 0) (hn : n = ys.length) :
    Calls Try.prog 33 #[.slice (some ⟨g, 0, none⟩) 1 1] (w.alloc (.cells #[.slice a n c] 22)) fun e w' => Lst w.heap.size (bl ys) e w' ∧ Below w.heap.size w w' := by
  have hp := one_piece w g 22 hg hn hr hnil
  have hb := (Below.refl w.heap.size w).alloc (Nat.le_refl _) (.cells #[.slice a n c] 22)
  have he : whole [(a, c, ys)] = ys := by simp [whole]
  have h := concat_at g 1 _ _ hp rfl (by simp) (by rw [he]; omega)
  rw [he] at h
  exact h.mono fun e w' h2 => ⟨lst_mono h2.1 hb.size, hb.trans (h2.2.mono hb.size)⟩
set_option maxHeartbeats 4000000 in
set_option maxRecDepth 1000000 in
theorem with_any (a : Option Addr) (c : Nat) (ys : List ByteArray) (u : ByteArray) (w : World) (hr : SReads w a ys) (hn : ys.length ≤ 40) (hc : ys.length ≤ c ∧ (a = none → c = 0)) (hu : u.data.toList ∉ bl ys) :
    Calls Try.prog 34 #[.slice a ys.length c, .string u] w fun e w' => Lst w.heap.size (ins u.data.toList (bl ys)) e w' ∧ Below w.heap.size w w' := by
  have HI := Lib.hid (plc_ins u.data.toList hu)
  have hpl := plc_le u.data.toList (bl ys)
  rw [bl_len] at hpl
  obtain ⟨P, hP⟩ : ∃ P, (plc u.data.toList (bl ys)).1 = P := ⟨_, rfl⟩
  rw [hP] at hpl
  have HP := Lib.hid hP
  have HR := Lib.hid hr
  have hc1 := hc.1
  have HC := Lib.hid hc.2
  clear hr hP hc hu
  have hmf : ∀ (fn : Fn) (first cap : Array Value) (w : World), (Instr.makeFunc fn first cap).run Try.prog w = .ok (.func fn first cap) w := fun _ _ _ _ => rfl
  go_enter Try.func34, Try.ntmps34
  go_wp2_with (go_at_call 51; refine (place_any _ _ _ _ _ HR.out (by omega)).mono ?_; rw [HP.out]; rintro e w1 ⟨rfl, hb⟩; have HB := Lib.hid hb; clear hb; dsimp only)
  have HT := Lib.hid (sreads_take HR.out P)
  obtain ⟨A3, hcl, ha3⟩ := cut_lo a ys.length c P hpl hc1
  have HD := Lib.hid (sreads_drop HR.out hc1 ha3)
  have HN3 := Lib.hid (drop_nil HC.out ha3)
  have hch := cut_hi a ys.length c P hpl hc1
  have i0 : (0 : Int) ≤ (P : Int) := by omega
  have i1 : (P : Int) ≤ (ys.length : Int) := by omega
  have i2 : (P : Int) ≤ (c : Int) := by omega
  clear ha3
  have hb0 : Below w.heap.size w (w1.alloc (.cells #[.string u] 9)) := HB.out.alloc HB.out.size _
  have HB0 := Lib.hid hb0
  have hb3 : Below w.heap.size w ((w1.alloc (.cells #[.string u] 9)).alloc (.cells #[.slice a P c, .slice (some ⟨w1.heap.size, 0, none⟩) 1 1, .slice A3 (ys.length - P) (c - P)] 22)).drew := Below.drewN' (hb0.alloc hb0.size _) 1
  have hpc : Pieces ((w1.alloc (.cells #[.string u] 9)).alloc (.cells #[.slice a P c, .slice (some ⟨w1.heap.size, 0, none⟩) 1 1, .slice A3 (ys.length - P) (c - P)] 22)).drew (w1.heap.size + 1) [(a, c, ys.take P), (some ⟨w1.heap.size, 0, none⟩, 1, [u]), (A3, c - P, ys.drop P)] :=
    (three_pieces _ _ _ (by simp) (by rw [List.length_take]; omega) rfl (by rw [List.length_drop]) (HT.out.below HB0.out (Nat.le_refl _)) (lit1_reads _ _ _ rfl) (HD.out.below HB0.out (Nat.le_refl _)) HC.out (fun h => by cases h) HN3.out).below (bdrew _ 1) (Nat.le_refl _)
  have HB3 := Lib.hid hb3
  have HCON := Lib.hid (concat_at _ 3 _ _ hpc rfl (by simp) (by simp [whole]; omega))
  clear hb0 hb3 hpc
  go_region_held3 (fun _ => True) (trivial) (first | (go_at_call 33; with_reducible refine HCON.out.mono ?_; (intro e w5 hh; obtain ⟨hh1, hb5⟩ := hh; unfold Lst at hh1; obtain ⟨A5, c5, y5, hy5, hc5, hr5, hf5, he5⟩ := hh1; subst he5); have HY5 := Lib.hid hy5; have HC5 := Lib.hid hc5; have HR5 := Lib.hid hr5; have HF5 := Lib.hid hf5; have HB5 := Lib.hid hb5; clear hy5 hc5 hr5 hf5 hb5; dsimp only))
  have hfin : Lst w.heap.size (ins u.data.toList (bl ys)) (.returned (.slice A5 y5.length c5)) w5 ∧ Below w.heap.size w w5 := by
    refine ⟨⟨A5, c5, y5, ?_, HC5.out, HR5.out, fun b off h => ?_, rfl⟩, HB3.out.trans (HB5.out.mono HB3.out.size)⟩
    · rw [HY5.out]
      have := HI.out
      rw [HP.out] at this
      rw [← this]
      simp [whole, bl, List.map_take, List.map_drop]
    · exact Nat.le_trans HB3.out.size (HF5.out b off h)
  have HFIN := Lib.hid hfin
  clear hfin
  go_wp2
  go_ret
  exact HFIN.out
set_option maxHeartbeats 4000000 in
set_option maxRecDepth 1000000 in
theorem without_any (a : Option Addr) (c : Nat) (ys : List ByteArray) (u : ByteArray) (w : World) (hr : SReads w a ys) (hn : ys.length ≤ 40) (hc : ys.length ≤ c ∧ (a = none → c = 0)) (hp : (bl ys).Pairwise (fun a b => lt a b = true)) :
    Calls Try.prog 39 #[.slice a ys.length c, .string u] w fun e w' => Lst w.heap.size (del u.data.toList (bl ys)) e w' ∧ Below w.heap.size w w' := by
  have hpl := plc_le u.data.toList (bl ys)
  rw [bl_len] at hpl
  have hmem := plc_mem u.data.toList hp
  obtain ⟨P, hP⟩ : ∃ P, (plc u.data.toList (bl ys)).1 = P := ⟨_, rfl⟩
  rw [hP] at hpl
  have HP := Lib.hid hP
  have HR := Lib.hid hr
  have hc1 := hc.1
  have HC := Lib.hid hc.2
  clear hr hP hc
  have hmf : ∀ (fn : Fn) (first cap : Array Value) (w : World), (Instr.makeFunc fn first cap).run Try.prog w = .ok (.func fn first cap) w := fun _ _ _ _ => rfl
  by_cases hu : u.data.toList ∈ bl ys
  · have HD0 := Lib.hid (plc_del u.data.toList hp hu)
    rw [decide_eq_true hu] at hmem
    have HM := Lib.hid hmem
    have hlt := HD0.out.1
    rw [HP.out, bl_len] at hlt
    clear hp hu hmem
    have HT := Lib.hid (sreads_take HR.out P)
    obtain ⟨A3, hcl, ha3⟩ := cut_lo a ys.length c (P + 1) hlt hc1
    have HD := Lib.hid (sreads_drop HR.out hc1 ha3)
    have HN3 := Lib.hid (drop_nil HC.out ha3)
    have hch := cut_hi a ys.length c P hpl hc1
    have hwr : IntKind.i64.wrap ((P : Int) + 1) = (P : Int) + 1 := by rw [IntKind.wrap_i64]; omega
    rw [show ((P + 1 : Nat) : Int) = (P : Int) + 1 by omega] at hcl
    clear ha3
    go_enter Try.func39, Try.ntmps39
    go_wp2_with (go_at_call 51; refine (place_any _ _ _ _ _ HR.out (by omega)).mono ?_; rw [HP.out, HM.out]; rintro e w1 ⟨rfl, hb⟩; have HB := Lib.hid hb; clear hb; dsimp only)
    have hb3 : Below w.heap.size w (w1.alloc (.cells #[.slice a P c, .slice A3 (ys.length - (P + 1)) (c - (P + 1))] 22)).drew := Below.drewN' (HB.out.alloc HB.out.size _) 1
    have hpc : Pieces (w1.alloc (.cells #[.slice a P c, .slice A3 (ys.length - (P + 1)) (c - (P + 1))] 22)).drew w1.heap.size [(a, c, ys.take P), (A3, c - (P + 1), ys.drop (P + 1))] :=
      (two_pieces _ _ _ rfl (by rw [List.length_take]; omega) (by rw [List.length_drop]) (HT.out.below HB.out (Nat.le_refl _)) (HD.out.below HB.out (Nat.le_refl _)) HC.out HN3.out).below (bdrew _ 1) (Nat.le_refl _)
    have HB3 := Lib.hid hb3
    have HCON := Lib.hid (concat_at _ 2 _ _ hpc rfl (by simp) (by simp [whole]; omega))
    clear hb3 hpc
    go_region_held3 (fun _ => True) (trivial) (first | (go_at_call 33; with_reducible refine HCON.out.mono ?_; (intro e w5 hh; obtain ⟨hh1, hb5⟩ := hh; unfold Lst at hh1; obtain ⟨A5, c5, y5, hy5, hc5, hr5, hf5, he5⟩ := hh1; subst he5); have HY5 := Lib.hid hy5; have HC5 := Lib.hid hc5; have HR5 := Lib.hid hr5; have HF5 := Lib.hid hf5; have HB5 := Lib.hid hb5; clear hy5 hc5 hr5 hf5 hb5; dsimp only))
    have hfin : Lst w.heap.size (del u.data.toList (bl ys)) (.returned (.slice A5 y5.length c5)) w5 ∧ Below w.heap.size w w5 := by
      refine ⟨⟨A5, c5, y5, ?_, HC5.out, HR5.out, fun b off h => ?_, rfl⟩, HB3.out.trans (HB5.out.mono HB3.out.size)⟩
      · rw [HY5.out]
        have := HD0.out.2
        rw [HP.out] at this
        rw [← this]
        simp [whole, bl, List.map_take, List.map_drop]
      · exact Nat.le_trans HB3.out.size (HF5.out b off h)
    have HFIN := Lib.hid hfin
    clear hfin
    go_wp2
    go_ret
    exact HFIN.out
  · have HD0 := Lib.hid (del_not hu)
    rw [decide_eq_false hu] at hmem
    have HM := Lib.hid hmem
    clear hp hu hmem
    go_enter Try.func39, Try.ntmps39
    go_wp2_with (go_at_call 51; refine (place_any _ _ _ _ _ HR.out (by omega)).mono ?_; rw [HP.out, HM.out]; rintro e w1 ⟨rfl, hb⟩; have HB := Lib.hid hb; clear hb; dsimp only)
    with_reducible refine (copy_any a ys.length c ys _ _ rfl (HR.out.below HB.out (Nat.le_refl _)) hn HC.out rfl).mono ?_
    intro e w5 hh
    obtain ⟨hh1, hb5⟩ := hh
    have HH1 := Lib.hid hh1
    have HB5 := Lib.hid hb5
    unfold Lst at hh1
    obtain ⟨A5, c5, y5, hy5, hc5, hr5, hf5, he5⟩ := hh1
    subst he5
    clear hy5 hc5 hr5 hf5 hb5
    have hfin : Lst w.heap.size (del u.data.toList (bl ys)) (.returned (.slice A5 y5.length c5)) w5 ∧ Below w.heap.size w w5 := by
      have h1 := HH1.out
      rw [HD0.out]
      exact ⟨lst_mono h1 HB.out.size, HB.out.trans (HB5.out.mono HB.out.size)⟩
    have HFIN := Lib.hid hfin
    clear hfin
    dsimp only
    go_wp2
    go_ret
    exact HFIN.out
end Go.Proofs.Ytjikepfgfbnheaa.Rig
