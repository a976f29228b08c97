/-
  CONTRACTS of the landed code's New, Get, Puts, Delete (package store). By an AI agent; no person has read it.
-/
import Derived.Test.YtamkepfhlfeiiaaSTMem
namespace Go.Proofs.Ytamkepfhlfeiiaa.Sto
open Go Go.RowKit Wire

set_option linter.unusedVariables false
set_option linter.unusedSimpArgs false
theorem new_st (w : World) (T : TypeId) : DS (((w.alloc (.map #[] 0)).alloc (.map #[] 0)).alloc (.cells #[.map (some w.heap.size), .map (some (w.heap.size + 1)), .int .i64 0] T)) ⟨w.heap.size + 2, 0, none⟩ (fun b => b = w.heap.size ∨ b = w.heap.size + 1 ∨ b = w.heap.size + 2) s0 := by
  have h1 : (w.alloc (.map #[] 0)).heap.size = w.heap.size + 1 := by simp
  have h2 : ((w.alloc (.map #[] 0)).alloc (.map #[] 0)).heap.size = w.heap.size + 2 := by simp
  have e1 := mapIs_made w (fun _ => undef)
  have e2 := mapIs_made (w.alloc (.map #[] 0)) (lastV s0)
  rw [h1] at e2
  generalize w.alloc (.map #[] 0) = w1 at e1 e2 h1 h2
  have e1' := e1.block ((MapKept.heap_alloc w1 (.map #[] 0)).2 _ (by omega))
  generalize w1.alloc (.map #[] 0) = w2 at e1' e2 h2
  have hc : ∀ j, (w2.alloc (.cells #[.map (some w.heap.size), .map (some (w.heap.size + 1)), .int .i64 0] T)).cell? ⟨w.heap.size + 2, j, none⟩ = (#[.map (some w.heap.size), .map (some (w.heap.size + 1)), .int .i64 0] : Array Value)[j]? := fun j => by
    have := heap_alloc_new w2 (.cells #[.map (some w.heap.size), .map (some (w.heap.size + 1)), .int .i64 0] T)
    rw [h2] at this
    exact cell_of_row _ _ _ _ _ _ this
  have hf : (w2.alloc (.cells #[.map (some w.heap.size), .map (some (w.heap.size + 1)), .int .i64 0] T)).frozen? ⟨w.heap.size + 2, 2, none⟩ = false := by
    have := heap_alloc_new w2 (.cells #[.map (some w.heap.size), .map (some (w.heap.size + 1)), .int .i64 0] T)
    rw [h2] at this
    unfold World.frozen?
    rw [this]; simp
  refine ⟨w.heap.size + 2, w.heap.size, w.heap.size + 1, fun _ => undef, fun _ => 0, rfl, ⟨(hc 0).trans rfl, (hc 1).trans rfl, (hc 2).trans rfl, hf, ?_, ?_, fun t ht => absurd rfl ht, by omega, by omega, by omega, fun t ht => absurd rfl ht, fun t _ ht => absurd rfl ht⟩, fun b => ?_⟩
  · exact (e1'.block ((MapKept.heap_alloc w2 _).2 _ (by omega))).congr (fun t => by simp [isEver, s0]) (fun t ht => by cases ht)
  · exact (e2.block ((MapKept.heap_alloc w2 _).2 _ (by omega))).congr (fun t => by simp [s0]) (fun t ht => by cases ht)
  · unfold Xs
    constructor
    · rintro (h | h | h)
      · exact .inr (.inl h)
      · exact .inr (.inr (.inl h))
      · exact .inl h
    · rintro (h | h | h | ⟨t, ht, _⟩)
      · exact .inr (.inr h)
      · exact .inl h
      · exact .inr (.inl h)
      · exact absurd rfl ht
set_option maxHeartbeats 4000000 in
set_option maxRecDepth 1000000 in
theorem new_c (w : World) : Calls Try.prog 23 #[] w fun e w' => ∃ (a : Addr) (X : Nat → Prop), e = .returned (.pointer (some a)) ∧ DS w' a X s0 ∧ (∀ b, X b → w.heap.size ≤ b) ∧ Below w.heap.size w w' := by
  have HN := fun T => Lib.hid (new_st w T)
  have hmm := @run_makeMap Try.prog
  have HB : ∀ o1 o2 o3, Hid (Below w.heap.size w (((w.alloc o1).alloc o2).alloc o3)) := fun o1 o2 o3 => by
    have h1 := (Below.refl w.heap.size w).alloc (Nat.le_refl _) o1
    have h2 := h1.alloc h1.size o2
    exact h2.alloc h2.size o3
  go_enter Try.func23, Try.ntmps23
  go_wp2_with fail
  go_ret
  exact ⟨_, _, rfl, (HN _).out, (fun b hb => by omega), (HB _ _ _).out⟩
set_option maxHeartbeats 4000000 in
set_option maxRecDepth 1000000 in
theorem puts_c (a : Addr) (X : Nat → Prop) (s : Stt) (w : World) (h : DS w a X s) : Calls Try.prog 20 #[.pointer (some a)] w fun e w' => e = .returned (.int .i64 (s.n : Int)) ∧ Below w.heap.size w w' := by
  obtain ⟨g, me, mt, V, rb, rfl, h, _⟩ := h
  have c2 := h.c2
  have HB := Lib.hid (Below.refl w.heap.size w)
  clear h
  go_enter Try.func20, Try.ntmps20
  go_wp2_with fail
  go_ret
  exact ⟨rfl, HB.out⟩
set_option maxHeartbeats 4000000 in
set_option maxRecDepth 1000000 in
theorem get_c (a : Addr) (X : Nat → Prop) (s : Stt) (K : ByteArray) (w : World) (h : DS w a X s) (hK : K.size ≤ 140737488351232) : Calls Try.prog 22 #[.pointer (some a), .string K] w fun e w' => Sr (getS s K.data.toList) e ∧ w' = w := by
  obtain ⟨g, me, mt, V, rb, rfl, h, _⟩ := h
  have c1 := h.c1
  have hl := h.tm.look_ok Try.underlying65 (zero_str w) hK
  unfold lastV eStr at hl
  unfold getS
  obtain ⟨L, hL⟩ : ∃ L, (s.ver K.data.toList).getLastD [] = L := ⟨_, rfl⟩
  rw [hL] at hl ⊢
  clear h
  cases hb : s.is K.data.toList with
  | false =>
    rw [hb] at hl
    simp only [Bool.false_eq_true, if_false] at hl
    go_enter Try.func22, Try.ntmps22
    go_wp2_with fail
    go_ret2
    exact ⟨⟨⟨#[]⟩, rfl, rfl⟩, rfl⟩
  | true =>
    rw [hb] at hl
    simp only [if_true] at hl
    go_enter Try.func22, Try.ntmps22
    go_wp2_with fail
    go_ret2
    exact ⟨⟨⟨L.toArray⟩, by simp, rfl⟩, rfl⟩
theorem fr_drop {g me mt : Nat} {V : Tm → Value} {rb : Tm → Nat} {w w1 : World} {s : Stt} {k : Tm} (h : StoreAt g me mt V rb w s) (hm : MapIs w1 mt s.n (updH s.is k false) (lastV s)) (hg : w.grownBy w1 (some mt)) : StoreAt g me mt V rb w1 (delS s k) := by
  have hb : ∀ b, b < w.heap.size → b ≠ mt → w1.heap[b]? = w.heap[b]? := fun b hlt hne => hg.block b hlt fun e => hne (Option.some.inj e)
  have hg0 := hb g h.g_lt h.n2
  exact ⟨(World.cell?_of_block (a := ⟨g, 0, none⟩) hg0).trans h.c0, (World.cell?_of_block (a := ⟨g, 1, none⟩) hg0).trans h.c1, (World.cell?_of_block (a := ⟨g, 2, none⟩) hg0).trans h.c2, (World.frozen?_of_block (a := ⟨g, 2, none⟩) hg0).trans h.f2,
    h.em.block (hb me h.em.lt h.n3), hm.congr (fun t => by unfold updH delS; by_cases e : t = k <;> simp [e]) (fun t _ => rfl), fun t ht => (h.rows t ht).move (hb _ (h.rows t ht).lt (h.off t ht).2.2), h.n1, h.n2, h.n3, h.off, h.inj⟩
theorem delS_none {s : Stt} {k : Tm} (h : s.is k = false) : delS s k = s := by
  unfold delS
  have : (fun x => !decide (x = k) && s.is x) = s.is := by
    funext x
    by_cases e : x = k
    · rw [e, h]; simp
    · simp [e]
  rw [this]
set_option maxHeartbeats 4000000 in
set_option maxRecDepth 1000000 in
theorem del_c (a : Addr) (X : Nat → Prop) (s : Stt) (K : ByteArray) (w : World) (h : DS w a X s) (hK : K.size ≤ 140737488351232) : Calls Try.prog 27 #[.pointer (some a), .string K] w fun e w' => e = .returned (.int .i64 (delE s K.data.toList)) ∧ (∃ X', DS w' a X' (delS s K.data.toList) ∧ ∀ b, X' b → X b ∨ w.heap.size ≤ b) ∧ Fr X w w' := by
  have HG := Lib.hid (get_c a X s K w h hK)
  have HD := Lib.hid h
  obtain ⟨g, me, mt, V, rb, rfl, h, hx⟩ := h
  have c1 := h.c1
  have HH := Lib.hid h
  have HX := Lib.hid hx
  clear h hx
  cases hb : s.is K.data.toList with
  | false =>
    have HE : Hid (delE s K.data.toList = 4 ∧ delS s K.data.toList = s ∧ getS s K.data.toList = ([], 4)) := ⟨by unfold delE; rw [hb]; rfl, delS_none hb, by unfold getS; rw [hb]; rfl⟩
    clear hb
    go_enter Try.func27, Try.ntmps27
    go_wp2_with fail
    refine HG.out.mono ?_
    rintro e w1 ⟨h1, rfl⟩
    rw [HE.out.2.2] at h1
    obtain ⟨T, _, rfl⟩ := h1
    dsimp only
    go_wp2
    go_ret
    exact ⟨by rw [HE.out.1]; rfl, ⟨X, by rw [HE.out.2.1]; exact HD.out, fun b hb => .inl hb⟩, ⟨rfl, rfl, rfl, Nat.le_refl _, fun _ _ _ => rfl⟩⟩
  | true =>
    have HE : Hid (delE s K.data.toList = 0 ∧ (getS s K.data.toList).2 = 0) := ⟨by unfold delE; rw [hb]; rfl, by unfold getS; rw [hb]; rfl⟩
    clear hb
    go_enter Try.func27, Try.ntmps27
    go_wp2_with fail
    refine HG.out.mono ?_
    rintro e w1 ⟨⟨T, _, rfl⟩, rfl⟩
    rw [HE.out.2]
    dsimp only
    go_wp2_with (at_delete; refine wpList_drop rfl _ _ rfl rfl HH.out.tm Try.underlying65 rfl hK ?_; intro w2 hm2 hg2; have HM2 := Lib.hid hm2; have HG2 := Lib.hid hg2; clear hm2 hg2)
    go_ret
    refine ⟨by rw [HE.out.1]; rfl, ⟨X, ⟨g, me, mt, V, rb, rfl, fr_drop HH.out HM2.out HG2.out, HX.out⟩, fun b hb => .inl hb⟩, ⟨HG2.out.os, HG2.out.tape, HG2.out.output, HG2.out.size, fun b hlt hn => HG2.out.block b hlt fun e => hn ((HX.out b).2 (.inr (.inr (.inl (Option.some.inj e)))))⟩⟩
end Go.Proofs.Ytamkepfhlfeiiaa.Sto
