/-
  CONTRACT of the landed code's Put (package store). By an AI agent; no person has read it.
-/
import Derived.Test.YtamkepfhlfeiiaaSTGet
import Derived.Deep.RegionHeld3
namespace Go.Proofs.Ytamkepfhlfeiiaa.Sto
open Go Go.RowKit Wire

set_option linter.unusedVariables false
set_option linter.unusedSimpArgs false
section
variable {w : World} {mb n : Nat} {H : Tm → Bool} {V : Tm → Value} {T e : TypeId} {ops : Array Oper} {o : Oper} {a : Act} {K : Act → World → Prop} {Q : Exit → Act → World → Prop} {E : Prop}
/-- A map is written, at a step of a region that draws its order. -/
theorem step_put (hg : o.guard = none) (m x v : Operand) (hop : o.op = Op.mapUpdate T m x v) (hm : a.eval m = .map (some mb)) (h : MapIs w mb n H V) (hT : Try.prog.underlying T = some (.map 9 e)) {s : ByteArray} (hx : a.eval x = .string s) (hs : s.size ≤ 140737488351232)
    (hn : n < maxLen) {val : Value} (hv : a.eval v = val) (hC : ∀ w', MapIs w' mb (n + 1) (updH H s.data.toList true) (updV V s.data.toList val) → w.grownBy w' (some mb) → K (a.put o.dst undef) w') : if Region.wanted o (yielded ops a.tmps) = true then Oper.wp Try.prog o a w K Q else E := by
  have hw : Region.wanted o (yielded ops a.tmps) = true := by simp [Region.wanted, hg]
  rw [if_pos hw]
  obtain ⟨w', hrun, r1, r2⟩ := h.put hT hs hn val
  unfold Oper.wp
  simp [execOp, hop, hm, hx, hv, hrun, Result.andThen]
  exact hC w' r1 r2
end
theorem cells3 (w : World) (g : Nat) (v : Value) {u0 u1 u2 : Value} (c0 : w.cell? ⟨g, 0, none⟩ = some u0) (c1 : w.cell? ⟨g, 1, none⟩ = some u1) (c2 : w.cell? ⟨g, 2, none⟩ = some u2) :
    (w.setCell ⟨g, 2, none⟩ v).cell? ⟨g, 0, none⟩ = some u0 ∧ (w.setCell ⟨g, 2, none⟩ v).cell? ⟨g, 1, none⟩ = some u1 ∧ (w.setCell ⟨g, 2, none⟩ v).cell? ⟨g, 2, none⟩ = some v :=
  ⟨(World.cell?_setCell_other _ _ _ _ (fun e => by injection e with _ e _; omega)).trans c0, (World.cell?_setCell_other _ _ _ _ (fun e => by injection e with _ e _; omega)).trans c1, World.cell?_setCell_same _ _ _ c2⟩
/-- All that a Put does, one behind the other. -/
theorem StoreAt.put {g me mt : Nat} {V : Tm → Value} {rb : Tm → Nat} {w w1 w6 w7 w8 : World} {s : Stt} (h : StoreAt g me mt V rb w s) {X : Nat → Prop} (hx : ∀ b, X b ↔ Xs g me mt rb s b) {k : Tm} {B : ByteArray} {ys : List ByteArray} {A : Option Addr} {n c gg cap : Nat}
    (hy : bl ys = s.ver k) (hA : ∀ b, (Value.slice A n c).ownBlock = some b → s.ver k ≠ [] ∧ rb k = b)
    (b1 : Below w.heap.size w w1) (hs1 : w1.heap.size = w.heap.size + 1)
    (o6 : w6.ownsRow 0 9 1 (.slice (some ⟨gg, 0, none⟩) (ys.length + 1) cap) (ys.length + 1) (sv ys ++ [.string B])) (g6 : w1.grownBy w6 (Value.slice A n c).ownBlock) (hat : (Value.slice A n c).ownBlock = some gg ∨ gg = w.heap.size + 1)
    (m7 : MapIs w7 me (s.n + 1) (updH (isEver s) k true) (updV V k (.slice (some ⟨gg, 0, none⟩) (ys.length + 1) cap))) (g7 : w6.grownBy w7 (some me))
    (m8 : MapIs w8 mt (s.n + 1) (updH s.is k true) (updV (lastV s) k (.string B))) (g8 : w7.grownBy w8 (some mt)) :
    (∃ X', DS (w8.setCell ⟨g, 2, none⟩ (.int .i64 ((s.n : Int) + 1))) ⟨g, 0, none⟩ X' (putD s k B.data.toList) ∧ ∀ b, X' b → X b ∨ w.heap.size ≤ b) ∧ Fr X w (w8.setCell ⟨g, 2, none⟩ (.int .i64 ((s.n : Int) + 1))) := by
  have hggX : s.ver k ≠ [] ∧ rb k = gg ∨ gg = w.heap.size + 1 := hat.imp (hA gg) id
  have hggX1 : gg = w.heap.size + 1 ∨ (s.ver k ≠ [] ∧ rb k = gg) := hggX.symm
  -- what a block below comes to, up to w8
  have E6 : ∀ b, b < w.heap.size → (s.ver k ≠ [] → rb k ≠ b) → w6.heap[b]? = w.heap[b]? := fun b hb hne => (g6.block b (by omega) fun e => by
    obtain ⟨h1, h2⟩ := hA b e.symm
    exact hne h1 h2).trans (b1.block b hb)
  have S6 : w.heap.size + 1 ≤ w6.heap.size := by have := g6.size; omega
  have S7 : w.heap.size + 1 ≤ w7.heap.size := Nat.le_trans S6 g7.size
  have S8 : w.heap.size + 1 ≤ w8.heap.size := Nat.le_trans S7 g8.size
  have E7 : ∀ b, b < w.heap.size → b ≠ me → (s.ver k ≠ [] → rb k ≠ b) → w7.heap[b]? = w.heap[b]? := fun b hb hn hne => (g7.block b (by omega) fun e => hn (Option.some.inj e)).trans (E6 b hb hne)
  have E8 : ∀ b, b < w.heap.size → b ≠ me → b ≠ mt → (s.ver k ≠ [] → rb k ≠ b) → w8.heap[b]? = w.heap[b]? := fun b hb hn hn2 hne => (g8.block b (by omega) fun e => hn2 (Option.some.inj e)).trans (E7 b hb hn hne)
  have G8 := E8 g h.g_lt h.n1 h.n2 fun hk => (h.off k hk).1
  obtain ⟨q0, q1, q2⟩ := cells3 w8 g (.int .i64 ((s.n : Int) + 1)) ((World.cell?_of_block (a := ⟨g, 0, none⟩) G8).trans h.c0) ((World.cell?_of_block (a := ⟨g, 1, none⟩) G8).trans h.c1) ((World.cell?_of_block (a := ⟨g, 2, none⟩) G8).trans h.c2)
  have E9 : ∀ b, b ≠ g → (w8.setCell ⟨g, 2, none⟩ (.int .i64 ((s.n : Int) + 1))).heap[b]? = w8.heap[b]? := fun b hb => Below.heap_setCell _ _ _ _ hb
  have lt6 : gg < w6.heap.size := (o6.lt gg rfl).2
  have ggme : gg ≠ me := by
    rcases hggX with ⟨h1, rfl⟩ | h1
    · exact (h.off k h1).2.1
    · have := h.em.lt; omega
  have ggmt : gg ≠ mt := by
    rcases hggX with ⟨h1, rfl⟩ | h1
    · exact (h.off k h1).2.2
    · have := h.tm.lt; omega
  have ggg : gg ≠ g := by
    rcases hggX with ⟨h1, rfl⟩ | h1
    · exact (h.off k h1).1
    · have := h.g_lt; omega
  have ever' : ∀ t, (putD s k B.data.toList).ver t ≠ [] → t ≠ k → s.ver t ≠ [] := fun t ht hne => by
    have : (if t = k then s.ver k ++ [B.data.toList] else s.ver t) ≠ [] := ht
    rw [if_neg hne] at this; exact this
  have rbne : ∀ t, t ≠ k → s.ver t ≠ [] → rb t ≠ gg := fun t hne ht e => by
    rcases hggX with ⟨h1, h2⟩ | h1
    · exact hne (h.inj t k ht h1 (e.trans h2.symm))
    · have := (h.rows t ht).lt; omega
  refine ⟨⟨Xs g me mt (fun t => if t = k then gg else rb t) (putD s k B.data.toList), ⟨g, me, mt, updV V k (.slice (some ⟨gg, 0, none⟩) (ys.length + 1) cap), fun t => if t = k then gg else rb t, rfl, ⟨q0, q1, ?_, ?_, ?_, ?_, ?_, h.n1, h.n2, h.n3, ?_, ?_⟩, fun b => Iff.rfl⟩, ?_⟩, ?_⟩
  · rw [q2]; show _ = some (Value.int .i64 (((s.n + 1 : Nat)) : Int)); simp
  · exact (World.frozen?_setCell ..).trans ((World.frozen?_of_block (a := ⟨g, 2, none⟩) G8).trans h.f2)
  · refine ((m7.block (w' := w8) (g8.block me m7.lt fun e => h.n3 (Option.some.inj e))).block (E9 me (Ne.symm h.n1))).congr (fun t => ?_) (fun t _ => rfl)
    unfold isEver updH putD
    by_cases e : t = k <;> simp [e, isEver]
  · refine (m8.block (E9 mt (Ne.symm h.n2))).congr (fun t => ?_) (fun t _ => ?_)
    · unfold updH putD
      by_cases e : t = k <;> simp [e]
    · unfold updV lastV putD
      by_cases e : t = k
      · simp [e, eStr]
      · simp [e]
  · intro t ht
    by_cases e : t = k
    · subst e
      have R6 : RowAt w6 (.slice (some ⟨gg, 0, none⟩) (ys.length + 1) cap) gg (s.ver t ++ [B.data.toList]) := ⟨ys ++ [B], by simp [bl] at hy ⊢; exact hy, by
        rw [List.length_append, List.length_singleton]
        simpa [sv] using o6, rfl⟩
      have := ((R6.move (w' := w7) (g7.block gg lt6 fun e => ggme (Option.some.inj e))).move (w' := w8) (g8.block gg (Nat.lt_of_lt_of_le lt6 g7.size) fun e => ggmt (Option.some.inj e))).move (E9 gg ggg)
      simpa [updV, putD] using this
    · have ht' := ever' t ht e
      have r := h.rows t ht'
      have hb := h.off t ht'
      have := (r.move (w' := w8) (E8 _ r.lt hb.2.1 hb.2.2 fun hk e2 => e (h.inj t k ht' hk e2.symm))).move (E9 _ hb.1)
      simpa [updV, putD, e] using this
  · intro t ht
    by_cases e : t = k
    · simp only [e, if_true]; exact ⟨ggg, ggme, ggmt⟩
    · simp only [e, if_false]; exact h.off t (ever' t ht e)
  · intro t u ht hu e
    by_cases e1 : t = k
    · by_cases e2 : u = k
      · rw [e1, e2]
      · simp only [e1, e2, if_true, if_false] at e
        exact absurd e.symm (rbne u e2 (ever' u hu e2))
    · by_cases e2 : u = k
      · simp only [e1, e2, if_true, if_false] at e
        exact absurd e (rbne t e1 (ever' t ht e1))
      · simp only [e1, e2, if_false] at e
        exact h.inj t u (ever' t ht e1) (ever' u hu e2) e
  · rintro b (hb | hb | hb | ⟨t, ht, hb⟩)
    · exact .inl ((hx b).2 (.inl hb))
    · exact .inl ((hx b).2 (.inr (.inl hb)))
    · exact .inl ((hx b).2 (.inr (.inr (.inl hb))))
    · by_cases e : t = k
      · simp only [e, if_true] at hb
        rcases hggX with ⟨h1, h2⟩ | h1
        · exact .inl ((hx b).2 (.inr (.inr (.inr ⟨k, h1, h2.trans hb⟩))))
        · exact .inr (by omega)
      · simp only [e, if_false] at hb
        exact .inl ((hx b).2 (.inr (.inr (.inr ⟨t, ever' t ht e, hb⟩))))
  · refine ⟨?_, ?_, ?_, ?_, fun b hb hn => ?_⟩
    · show w8.os = _; exact g8.os.trans (g7.os.trans (g6.os.trans b1.os))
    · show w8.tape = _; exact g8.tape.trans (g7.tape.trans (g6.tape.trans b1.tape))
    · show w8.output = _; exact g8.output.trans (g7.output.trans (g6.output.trans b1.output))
    · rw [World.size_setCell]; omega
    · have hne : ∀ {P : Prop}, (P → X b) → P → False := fun f p => hn (f p)
      rw [E9 b fun e => hn ((hx b).2 (.inl e))]
      exact E8 b hb (fun e => hn ((hx b).2 (.inr (.inl e)))) (fun e => hn ((hx b).2 (.inr (.inr (.inl e))))) fun hk e => hn ((hx b).2 (.inr (.inr (.inr ⟨k, hk, e⟩))))
theorem putS_ok {s : Stt} {k b : Tm} (h : putE s k b = 0) : putS s k b = putD s k b := by unfold putS; rw [if_pos h]
theorem putS_no {s : Stt} {k b : Tm} (h : putE s k b ≠ 0) : putS s k b = s := by unfold putS; rw [if_neg h]
end Go.Proofs.Ytamkepfhlfeiiaa.Sto
