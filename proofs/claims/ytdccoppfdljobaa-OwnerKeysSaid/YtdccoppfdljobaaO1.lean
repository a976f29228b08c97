/-
  One text of several, in their order: Ord, Frm, Frm2. By an AI agent; no person has read it.
-/
import Derived.Deep.RegionHeld
import Derived.Still
import Derived.Test.YtdccoppfdljobaaW0
import Derived.Laws.OwnMore
import Derived.Deep.AppendLies
/-
  A REGION THAT DRAWS ITS ORDER, WHOSE OPERATIONS EACH COME TO ONE VALUE IN EVERY WORLD THAT MEETS A CONDITION, and leave such a world (a call that makes memory among them): each may be taken in the text's order, no order is branched over. By an AI agent; no person has read it.
-/
namespace Go.Proofs.Ytdccoppfdljobaa.Ord
section
variable {P : Program} {ops : Array Oper} {Q : Exit → Act → World → Prop} {md : Region.Mode} {S : World → Prop}

/-- A step comes to v, and to a world that meets S. -/
def Comes (P : Program) (S : World → Prop) (v : Value) : Result Next → Prop
  | .ok (.value u) w' => u = v ∧ S w'
  | .ok (.enter f args) w' => Calls P f args w' fun e w'' => e = .returned v ∧ S w''
  | _ => False
/-- In state a, in every world that meets S, operation o comes to v and to a world that meets S. -/
def Gives (P : Program) (ops : Array Oper) (S : World → Prop) (o : Oper) (v : Value) (a : Act) : Prop :=
  (Region.wanted o (yielded ops a.tmps) = true ∧ ∀ w, S w → Comes P S v ((execOp a.eval o).run P w)) ∨ (Region.wanted o (yielded ops a.tmps) = false ∧ v = undef)
theorem Gives.same {o : Oper} {v : Value} {a a' : Act} (hy : Gives P ops S o v a) (he : execOp a'.eval o = execOp a.eval o)
    (hw : Region.wanted o (yielded ops a'.tmps) = Region.wanted o (yielded ops a.tmps)) : Gives P ops S o v a' := by
  unfold Gives at *
  rw [he, hw]
  exact hy
theorem Gives.step {i : Nat} {o : Oper} {v : Value} {a : Act} (hi : ops[i]? = some o) (hy : Gives P ops S o v a) {K : Act → World → Prop} {w : World} (hS : S w) (h : ∀ w', S w' → K (a.put o.dst v) w') : wpOp P ops Q i K a w := by
  unfold Go.wpOp
  simp only [hi]
  rcases hy with ⟨hw, hv⟩ | ⟨hw, rfl⟩
  · simp only [hw, if_true, Oper.wp]
    have h2 := hv w hS
    generalize (execOp a.eval o).run P w = r at h2
    refine .inl ?_
    cases r with
    | ok n w' =>
      cases n <;> simp only [Comes] at h2
      case value u =>
        obtain ⟨rfl, h3⟩ := h2
        exact h _ h3
      case enter f args =>
        simp only [Oper.upon]
        refine Calls.mono h2 fun e w'' he => ?_
        obtain ⟨rfl, h3⟩ := he
        exact h _ h3
    | halt x w' => cases h2
  · simp only [hw, Bool.false_eq_true, if_false]; exact h _ hS
/-- Whatever order is picked from here on, in every world that meets S. -/
def wpAnyS (P : Program) (md : Region.Mode) (ops : Array Oper) (Q : Exit → Act → World → Prop) (S : World → Prop) : Nat → Array Bool → Act → Prop
  | 0, listed, a => Region.ready md ops listed = [] ∧ ∀ w, S w → Q .normal a w
  | fuel + 1, listed, a => (Region.ready md ops listed = [] → ∀ w, S w → Q .normal a w) ∧
    ∀ i ∈ Region.ready md ops listed, ∃ o v, ops[i]? = some o ∧ Gives P ops S o v a ∧ wpAnyS P md ops Q S fuel (listed.setIfInBounds i true) (a.put o.dst v)
theorem any_of_given : ∀ (fuel : Nat) (listed : Array Bool) (a : Act), wpAnyS P md ops Q S fuel listed a → ∀ w, S w → wpAny P md ops Q fuel listed a w
  | 0, _, _, h, w, hS => ⟨h.1, h.2 w hS⟩
  | fuel + 1, _, _, h, w, hS => ⟨fun h0 => h.1 h0 w hS, fun i hi => by
      obtain ⟨o, v, ho, hg, hr⟩ := h.2 i hi
      exact hg.step ho hS fun w' hS' => any_of_given fuel _ _ hr w' hS'⟩
theorem held_of_given : ∀ (fuel : Nat) (listed : Array Bool) (a : Act), wpAnyS P md ops Q S fuel listed a → ∀ w, S w → wpAnyH P md ops Q S fuel listed a w
  | 0, _, _, h, w, hS => ⟨h.1, h.2 w hS⟩
  | fuel + 1, _, _, h, w, hS => ⟨fun h0 => h.1 h0 w hS, fun i hi => by
      obtain ⟨o, v, ho, hg, hr⟩ := h.2 i hi
      exact hg.step ho hS fun w' hS' => ⟨hS', held_of_given fuel _ _ hr w' hS'⟩⟩
/-- **An operation that may come up now may be taken first**, if all the others are apart from it or wait for it. -/
theorem given_first {i : Nat} {oi : Oper} {v : Value} (hi : ops[i]? = some oi) (hsel : ∀ (j : Nat) (o : Oper) cs b, ops[j]? = some o → o.op ≠ .select cs b) :
    ∀ (fuel : Nat) (listed : Array Bool) (a : Act),
      (∀ j oj, ops[j]? = some oj → j ≠ i → listed.getD j true = false → (∀ e ∈ oj.after, Region.binds md e = true → e.on ≠ i) → oi.apart ops oj = true) →
      i ∈ Region.ready md ops listed → Gives P ops S oi v a →
      wpAnyS P md ops Q S fuel (listed.setIfInBounds i true) (a.put oi.dst v) → wpAnyS P md ops Q S (fuel + 1) listed a := by
  intro fuel
  induction fuel with
  | zero =>
    intro listed a _ hr hy H
    refine ⟨fun h => (by rw [h] at hr; cases hr), fun j hj => ?_⟩
    by_cases hji : j = i
    · subst hji; exact ⟨oi, v, hi, hy, H⟩
    · have := ready_mono hj hji
      rw [H.1] at this
      cases this
  | succ fuel ih =>
    intro listed a hfree hr hy H
    refine ⟨fun h => (by rw [h] at hr; cases hr), fun j hj => ?_⟩
    by_cases hji : j = i
    · subst hji; exact ⟨oi, v, hi, hy, H⟩
    · obtain ⟨oj, u, hoj, hgj, hrest⟩ := H.2 j (ready_mono hj hji)
      obtain ⟨hjun, oj', hoj', hall⟩ := mem_ready.1 hj
      obtain rfl : oj = oj' := Option.some.inj (hoj.symm.trans hoj')
      have hnot : ∀ e ∈ oj.after, Region.binds md e = true → e.on ≠ i := fun e he hb heq => by
        have h1 := hall e he hb
        have h0 := (mem_ready.1 hr).1
        rw [heq] at h1
        rcases Nat.lt_or_ge i listed.size with h' | h'
        · simp [h'] at h0 h1; rw [h0] at h1; cases h1
        · simp [Array.getElem?_eq_none h'] at h1
      obtain ⟨h1, h2, h3⟩ := Oper.apart_spec (hfree j oj hoj hji hjun hnot)
      have hfree' : ∀ k ok, ops[k]? = some ok → k ≠ i → (listed.setIfInBounds j true).getD k true = false →
          (∀ e ∈ ok.after, Region.binds md e = true → e.on ≠ i) → oi.apart ops ok = true := fun k ok hk hki hun hno => by
        refine hfree k ok hk hki ?_ hno
        by_cases hjk : j = k
        · subst hjk; exact hjun
        · rw [getD_set_ne true hjk] at hun; exact hun
      refine ⟨oj, u, hoj, hgj.same (execOp_put oj (fun cs b => hsel j oj cs b hoj) a oi.dst v h1).symm (wanted_put oj a oi.dst v h1).symm, ?_⟩
      refine ih (listed.setIfInBounds j true) (a.put oj.dst u) hfree' (ready_mono hr (Ne.symm hji)) (hy.same (execOp_put oi (fun cs b => hsel i oi cs b hi) a oj.dst u h3) (wanted_put oi a oj.dst u h3)) ?_
      rw [Array.setIfInBounds_comm _ _ hji, ← Act.put_comm a v u h2]
      exact hrest

/-! ### the moves of a walk -/
theorem takeR {i : Nat} {oi : Oper} {v : Value} {fuel : Nat} {listed : Array Bool} {a : Act} (hi : ops[i]? = some oi)
    (hs : Region.noSelect ops = true) (hf : Region.free md ops listed i = true) (hr : (Region.ready md ops listed).contains i = true)
    (hw : Region.wanted oi (yielded ops a.tmps) = true) (hy : ∀ w, S w → (execOp a.eval oi).run P w = .ok (.value v) w)
    (h : wpAnyS P md ops Q S fuel (listed.setIfInBounds i true) (a.put oi.dst v)) : wpAnyS P md ops Q S (fuel + 1) listed a :=
  given_first hi (Region.noSelect_spec hs) fuel listed a (Region.free_spec hi hf) (by simpa using hr) (.inl ⟨hw, fun w hS => by rw [hy w hS]; exact ⟨rfl, hS⟩⟩) h
theorem takeC {i : Nat} {oi : Oper} {v : Value} {f : FuncId} {args : Array Value} {fuel : Nat} {listed : Array Bool} {a : Act} (hi : ops[i]? = some oi)
    (hs : Region.noSelect ops = true) (hf : Region.free md ops listed i = true) (hr : (Region.ready md ops listed).contains i = true)
    (hw : Region.wanted oi (yielded ops a.tmps) = true) (he : ∀ w, S w → (execOp a.eval oi).run P w = .ok (.enter f args) w)
    (hc : ∀ w, S w → Calls P f args w fun e w' => e = .returned v ∧ S w')
    (h : wpAnyS P md ops Q S fuel (listed.setIfInBounds i true) (a.put oi.dst v)) : wpAnyS P md ops Q S (fuel + 1) listed a :=
  given_first hi (Region.noSelect_spec hs) fuel listed a (Region.free_spec hi hf) (by simpa using hr) (.inl ⟨hw, fun w hS => by rw [he w hS]; exact hc w hS⟩) h
theorem skip {i : Nat} {oi : Oper} {fuel : Nat} {listed : Array Bool} {a : Act} (hi : ops[i]? = some oi)
    (hs : Region.noSelect ops = true) (hf : Region.free md ops listed i = true) (hr : (Region.ready md ops listed).contains i = true)
    (hw : Region.wanted oi (yielded ops a.tmps) = false)
    (h : wpAnyS P md ops Q S fuel (listed.setIfInBounds i true) (a.put oi.dst undef)) : wpAnyS P md ops Q S (fuel + 1) listed a :=
  given_first hi (Region.noSelect_spec hs) fuel listed a (Region.free_spec hi hf) (by simpa using hr) (.inr ⟨hw, rfl⟩) h
theorem done {listed : Array Bool} {a : Act} (hr : Region.ready md ops listed = []) (h : ∀ w, S w → Q .normal a w) : ∀ fuel, wpAnyS P md ops Q S fuel listed a
  | 0 => ⟨hr, h⟩
  | _ + 1 => ⟨fun _ => h, by rw [hr]; simp⟩
/-- The beginning. -/
theorem region {id : Nat} {a : Act} {w : World} (hm : P.follows .mixedOrders = true) (hS : S w.drew)
    (h : wpAnyS P .any ops Q S ops.size (Array.replicate ops.size false) a) : (Code.region id ops true).wp P Q a w :=
  wp_region_any hm (any_of_given _ _ _ h _ hS)
/-! ### the same, in the text's order: one check for the whole region -/
/-- The operations one behind the other. -/
def wpG (P : Program) (ops : Array Oper) (Q : Exit → Act → World → Prop) (S : World → Prop) : List Oper → Act → Prop
  | [], a => ∀ w, S w → Q .normal a w
  | o :: l, a => ∃ v, Gives P ops S o v a ∧ wpG P ops Q S l (a.put o.dst v)
theorem given_lex (hs : Region.noSelect ops = true) : ∀ (l : List Oper) (k : Nat) (listed : Array Bool) (a : Act), (∀ j, l[j]? = ops[k + j]?) →
    Region.lexFrom md ops l.length k listed = true → wpG P ops Q S l a → wpAnyS P md ops Q S l.length listed a
  | [], _, _, _, _, hB, h => ⟨by simpa [Region.lexFrom] using hB, h⟩
  | o :: l, k, listed, a, hl, hB, h => by
    have h0 : ops[k]? = some o := by simpa using (hl 0).symm
    simp only [List.length_cons, Region.lexFrom, Bool.and_eq_true] at hB
    obtain ⟨⟨hr, hf⟩, hB'⟩ := hB
    obtain ⟨v, hy, hK⟩ := h
    exact given_first h0 (Region.noSelect_spec hs) l.length listed a (Region.free_spec h0 hf) (by simpa using hr) hy
      (given_lex hs l (k + 1) _ _ (fun j => by have := hl (j + 1); simpa [Nat.add_assoc, Nat.add_comm 1 j] using this) hB' hK)
theorem region_lit {id : Nat} {l : List Oper} {a : Act} {w : World} (hm : P.follows .mixedOrders = true) (hB : Region.lexB .any l.toArray = true) (hS : S w.drew) (h : wpG P l.toArray Q S l a) : (Code.region id l.toArray true).wp P Q a w := by
  simp only [Region.lexB, Bool.and_eq_true] at hB
  refine region hm hS ?_
  have := given_lex (md := .any) hB.1 l 0 (Array.replicate l.toArray.size false) a (by simp) (by simpa using hB.2) h
  simpa using this
theorem stepR {o : Oper} {l : List Oper} {v : Value} {a : Act} (hw : Region.wanted o (yielded ops a.tmps) = true) (hy : ∀ w, S w → (execOp a.eval o).run P w = .ok (.value v) w) (h : wpG P ops Q S l (a.put o.dst v)) : wpG P ops Q S (o :: l) a :=
  ⟨v, .inl ⟨hw, fun w hS => by rw [hy w hS]; exact ⟨rfl, hS⟩⟩, h⟩
theorem stepC {o : Oper} {l : List Oper} {v : Value} {f : FuncId} {args : Array Value} {a : Act} (hw : Region.wanted o (yielded ops a.tmps) = true) (he : ∀ w, S w → (execOp a.eval o).run P w = .ok (.enter f args) w)
    (hc : ∀ w, S w → Calls P f args w fun e w' => e = .returned v ∧ S w') (h : wpG P ops Q S l (a.put o.dst v)) : wpG P ops Q S (o :: l) a :=
  ⟨v, .inl ⟨hw, fun w hS => by rw [he w hS]; exact hc w hS⟩, h⟩
theorem stepS {o : Oper} {l : List Oper} {a : Act} (hw : Region.wanted o (yielded ops a.tmps) = false) (h : wpG P ops Q S l (a.put o.dst undef)) : wpG P ops Q S (o :: l) a := ⟨undef, .inr ⟨hw, rfl⟩, h⟩
theorem stepD {a : Act} (h : ∀ w, S w → Q .normal a w) : wpG P ops Q S [] a := h
end
end Go.Proofs.Ytdccoppfdljobaa.Ord

/-
  A FRAME: several parts of memory side by side (a user behind a pointer, a variable's cells, a row); each says which blocks it hangs on and which of them may be written; no part's writing touches another one's. One fact carries them all through a walk. By an AI agent; no person has read it.
-/
namespace Go.Proofs.Ytdccoppfdljobaa.Frm
open Go Go.RowKit

set_option linter.unusedVariables false
/-- Of what was there blocks X alone may have turned. -/
structure Fr (X : Nat → Prop) (w w' : World) : Prop where
  os : w'.os = w.os
  tape : w'.tape = w.tape
  output : w'.output = w.output
  size : w.heap.size ≤ w'.heap.size
  block : ∀ b, b < w.heap.size → ¬ X b → w'.heap[b]? = w.heap[b]?
theorem Fr.none {X : Nat → Prop} {w w' : World} (h : Below w.heap.size w w') : Fr X w w' := ⟨h.os, h.tape, h.output, h.size, fun b hb _ => h.block b hb⟩
theorem Fr.trans {X Y : Nat → Prop} {w w1 w2 : World} (h : Fr X w w1) (h2 : Fr Y w1 w2) (hY : ∀ b, Y b → X b ∨ w.heap.size ≤ b) : Fr X w w2 :=
  ⟨h2.os.trans h.os, h2.tape.trans h.tape, h2.output.trans h.output, Nat.le_trans h.size h2.size, fun b hb hx => (h2.block b (Nat.lt_of_lt_of_le hb h.size) fun hy => by
    rcases hY b hy with h3 | h3
    · exact hx h3
    · omega).trans (h.block b hb hx)⟩
/-- A part of memory: what it says, the blocks it hangs on, those of them that may be written. -/
structure Part where
  P : World → Prop
  S : Nat → Prop
  M : Nat → Prop
  dep : ∀ {w w' : World}, w.heap.size ≤ w'.heap.size → P w → (∀ b, S b → w'.heap[b]? = w.heap[b]?) → P w'
  old : ∀ {w : World}, P w → ∀ b, S b → b < w.heap.size
  sub : ∀ b, M b → S b
def Apart (p q : Part) : Prop := ∀ b, ¬ (p.M b ∧ q.S b) ∧ ¬ (p.S b ∧ q.M b)
theorem Apart.symm {p q : Part} (h : Apart p q) : Apart q p := fun b => ⟨fun h2 => (h b).2 ⟨h2.2, h2.1⟩, fun h2 => (h b).1 ⟨h2.2, h2.1⟩⟩
/-- Since w0 nothing older has turned; these parts stand, and none is written with another. -/
structure Fm (w0 w : World) (l : List Part) : Prop where
  bel : Below w0.heap.size w0 w
  all : ∀ p ∈ l, p.P w ∧ ∀ b, p.M b → w0.heap.size ≤ b
  dis : l.Pairwise Apart
section
variable {w0 w w' : World} {l : List Part} {p q : Part}
theorem fm_nil (h : Below w0.heap.size w0 w) : Fm w0 w [] := ⟨h, fun _ h => (List.not_mem_nil h).elim, List.Pairwise.nil⟩
theorem fm_refl (w : World) : Fm w w [] := fm_nil (Below.refl _ _)
theorem Fm.go (h : Fm w0 w l) (hb : Below w.heap.size w w') : Fm w0 w' l :=
  ⟨h.bel.trans (hb.mono h.bel.size), fun p hp => ⟨p.dep hb.size (h.all p hp).1 fun b hs => hb.block b (p.old (h.all p hp).1 b hs), (h.all p hp).2⟩, h.dis⟩
theorem Fm.add (h : Fm w0 w l) (hp : p.P w) (hm : ∀ b, p.M b → w0.heap.size ≤ b) (ha : ∀ q ∈ l, Apart p q) : Fm w0 w (p :: l) :=
  ⟨h.bel, fun q hq => by
    rcases List.mem_cons.1 hq with rfl | hq
    · exact ⟨hp, hm⟩
    · exact h.all q hq, List.pairwise_cons.2 ⟨ha, h.dis⟩⟩
/-- A new part, in new blocks. -/
theorem Fm.new (h : Fm w0 w l) (hb : Below w.heap.size w w') (hp : p.P w') (hS : ∀ b, p.S b → w.heap.size ≤ b) (hM : ∀ b, p.M b → w.heap.size ≤ b) : Fm w0 w' (p :: l) :=
  (h.go hb).add hp (fun b hb2 => Nat.le_trans h.bel.size (hM b hb2)) fun q hq b => by
    have ho := q.old (h.all q hq).1 b
    refine ⟨fun h2 => ?_, fun h2 => ?_⟩
    · have h3 := hM b h2.1; have h4 := ho h2.2; omega
    · have h3 := hS b h2.1; have h4 := p.old hp b h2.1
      by_cases h5 : q.S b
      · have := ho h5; omega
      · have h6 := (h.all q hq).2 b h2.2
        exact h5 (q.sub b h2.2)
theorem Fm.tail (h : Fm w0 w (p :: l)) : Fm w0 w l := ⟨h.bel, fun q hq => h.all q (List.mem_cons_of_mem _ hq), (List.pairwise_cons.1 h.dis).2⟩
theorem Fm.sub {m : List Part} (h : Fm w0 w l) (hs : m.Sublist l) : Fm w0 w m := ⟨h.bel, fun q hq => h.all q (hs.subset hq), h.dis.sublist hs⟩
theorem Fm.hide (h : Fm w0 w l) (i : Nat) : Fm w0 w (l.eraseIdx i) := h.sub (List.eraseIdx_sublist l i)
theorem Fm.at (h : Fm w0 w l) (i : Nat) {p : Part} (hi : l[i]? = some p) : p.P w := (h.all p (List.mem_of_getElem? hi)).1
theorem Fm.lo (h : Fm w0 w l) (i : Nat) {p : Part} (hi : l[i]? = some p) : ∀ b, p.M b → w0.heap.size ≤ b := (h.all p (List.mem_of_getElem? hi)).2
theorem pair_lt {R : Part → Part → Prop} : ∀ {l : List Part}, l.Pairwise R → ∀ (i j : Nat), i < j → ∀ {p q : Part}, l[i]? = some p → l[j]? = some q → R p q
  | [], _, i, j, _, _, _, h1, _ => by simp at h1
  | x :: l, h, 0, j + 1, _, p, q, h1, h2 => by
    rw [List.getElem?_cons_zero] at h1
    obtain rfl := Option.some.inj h1
    rw [List.getElem?_cons_succ] at h2
    exact (List.pairwise_cons.1 h).1 _ (List.mem_of_getElem? h2)
  | x :: l, h, i + 1, j + 1, hij, p, q, h1, h2 => by
    rw [List.getElem?_cons_succ] at h1 h2
    exact pair_lt (List.pairwise_cons.1 h).2 i j (by omega) h1 h2
  | _ :: _, _, _, 0, hij, _, _, _, _ => absurd hij (Nat.not_lt_zero _)
theorem Fm.apart (h : Fm w0 w l) (i j : Nat) (hij : i ≠ j) {p q : Part} (h1 : l[i]? = some p) (h2 : l[j]? = some q) : Apart p q := by
  rcases Nat.lt_or_gt_of_ne hij with h3 | h3
  · exact pair_lt h.dis i j h3 h1 h2
  · exact (pair_lt h.dis j i h3 h2 h1).symm
/-- One part has turned into another one, written in its own blocks and new ones. -/
theorem Fm.turn (h : Fm w0 w l) (i : Nat) (hi : l[i]? = some p) (hf : Fr p.M w w') (hq : q.P w') (hS : ∀ b, q.S b → p.S b ∨ w.heap.size ≤ b) (hM : ∀ b, q.M b → p.M b ∨ w.heap.size ≤ b) : Fm w0 w' (l.set i q) := by
  have hil := (List.getElem?_eq_some_iff.1 hi).1
  have hold : ∀ j, j ≠ i → ∀ {r : Part}, l[j]? = some r → r.P w' ∧ (∀ b, r.M b → w0.heap.size ≤ b) ∧ Apart r q := fun j hj r hr => by
    have hm := List.mem_of_getElem? hr
    have ha := h.apart j i hj hr hi
    have ho := r.old (h.all r hm).1
    refine ⟨r.dep hf.size (h.all r hm).1 fun b hs => hf.block b (ho b hs) fun h2 => (ha b).2 ⟨hs, h2⟩, (h.all r hm).2, fun b => ⟨fun h2 => ?_, fun h2 => ?_⟩⟩
    · rcases hS b h2.2 with h3 | h3
      · exact (ha b).1 ⟨h2.1, h3⟩
      · have := ho b (r.sub b h2.1); omega
    · rcases hM b h2.2 with h3 | h3
      · exact (ha b).2 ⟨h2.1, h3⟩
      · have := ho b h2.1; omega
  refine ⟨⟨hf.os.trans h.bel.os, hf.tape.trans h.bel.tape, hf.output.trans h.bel.output, Nat.le_trans h.bel.size hf.size, fun b hlt => (hf.block b (Nat.lt_of_lt_of_le hlt h.bel.size) fun hx => by have := h.lo i hi b hx; omega).trans (h.bel.block b hlt)⟩, fun r hr => ?_, ?_⟩
  · obtain ⟨j, hj⟩ := List.mem_iff_getElem?.1 hr
    by_cases e : j = i
    · subst e
      rw [List.getElem?_set_self hil] at hj
      obtain rfl := Option.some.inj hj
      refine ⟨hq, fun b hs => ?_⟩
      rcases hM b hs with h3 | h3
      · exact h.lo j hi b h3
      · exact Nat.le_trans h.bel.size h3
    · rw [List.getElem?_set_ne (fun e2 => e e2.symm)] at hj
      exact ⟨(hold j e hj).1, (hold j e hj).2.1⟩
  · rw [List.pairwise_iff_getElem]
    intro j k hj hk hjk
    have hj2 : j < l.length := by rw [List.length_set] at hj; exact hj
    have hk2 : k < l.length := by rw [List.length_set] at hk; exact hk
    by_cases e1 : j = i
    · subst e1
      rw [List.getElem_set_self, List.getElem_set_ne (by omega)]
      exact (hold k (by omega) (List.getElem?_eq_getElem hk2)).2.2.symm
    · rw [List.getElem_set_ne (fun e2 => e1 e2.symm)]
      by_cases e2 : k = i
      · subst e2
        rw [List.getElem_set_self]
        exact (hold j e1 (List.getElem?_eq_getElem hj2)).2.2
      · rw [List.getElem_set_ne (fun e3 => e2 e3.symm)]
        exact h.apart j k (by omega) (List.getElem?_eq_getElem hj2) (List.getElem?_eq_getElem hk2)
/-- A part that is read alone, told by part i: it hangs on what i hangs on and never writes, and on new blocks. -/
theorem Fm.told (h : Fm w0 w l) (i : Nat) (hi : l[i]? = some p) (hb : Below w.heap.size w w') (hq : q.P w') (hM : ∀ b, ¬ q.M b) (hS : ∀ b, q.S b → (p.S b ∧ ¬ p.M b) ∨ w.heap.size ≤ b) : Fm w0 w' (q :: l) :=
  (h.go hb).add hq (fun b h2 => absurd h2 (hM b)) fun r hr b => by
    refine ⟨fun h2 => hM b h2.1, fun h2 => ?_⟩
    have ho := r.old (h.all r hr).1
    rcases hS b h2.1 with ⟨h3, h4⟩ | h3
    · obtain ⟨j, hj⟩ := List.mem_iff_getElem?.1 hr
      by_cases e : j = i
      · subst e
        rw [hi] at hj
        obtain rfl := Option.some.inj hj
        exact h4 h2.2
      · exact (h.apart j i e hj hi b).1 ⟨h2.2, h3⟩
    · have := ho b (r.sub b h2.2); omega
/-- A copy of part i: it is written in new blocks alone, and hangs on them, and on what i hangs on and never writes. -/
theorem Fm.copy (h : Fm w0 w l) (i : Nat) (hi : l[i]? = some p) (hb : Below w.heap.size w w') (hq : q.P w') (hM : ∀ b, q.M b → w.heap.size ≤ b) (hS : ∀ b, q.S b → (p.S b ∧ ¬ p.M b) ∨ w.heap.size ≤ b) : Fm w0 w' (q :: l) :=
  (h.go hb).add hq (fun b h2 => Nat.le_trans h.bel.size (hM b h2)) fun r hr b => by
    have ho := r.old (h.all r hr).1
    refine ⟨fun h2 => ?_, fun h2 => ?_⟩
    · have h3 := hM b h2.1; have h4 := ho b h2.2; omega
    rcases hS b h2.1 with ⟨h3, h4⟩ | h3
    · obtain ⟨j, hj⟩ := List.mem_iff_getElem?.1 hr
      by_cases e : j = i
      · subst e
        rw [hi] at hj
        obtain rfl := Option.some.inj hj
        exact h4 h2.2
      · exact (h.apart j i e hj hi b).1 ⟨h2.2, h3⟩
    · have := ho b (r.sub b h2.2); omega
/-- A part that came in: older than all that is written. -/
theorem Fm.came (h : Fm w0 w l) (hq : q.P w) (hM : ∀ b, ¬ q.M b) (hS : ∀ b, q.S b → b < w0.heap.size) : Fm w0 w (q :: l) :=
  h.add hq (fun b h2 => absurd h2 (hM b)) fun r hr b => ⟨fun h2 => hM b h2.1, fun h2 => by
    have h3 := hS b h2.1; have h4 := (h.all r hr).2 b h2.2; omega⟩
end
/-! ### parts: a variable's cells -/
/-- A variable: its block holds these cells. -/
def box (g : Nat) (V : Array Value) (t : TypeId) : Part where
  P w := w.heap[g]? = some (.cells V t)
  S b := b = g
  M b := b = g
  sub _ h := h
  dep _ h hs := (hs g rfl).trans h
  old h b e := by subst e; exact (Array.getElem?_eq_some_iff.1 h).1
theorem Fm.box {w0 w : World} {l : List Part} (h : Fm w0 w l) (V : Array Value) (t : TypeId) : Fm w0 (w.alloc (.cells V t)) (box w.heap.size V t :: l) :=
  h.new ((Below.refl _ _).alloc (Nat.le_refl _) _) (heap_alloc_new w _) (fun b e => by rw [show b = w.heap.size from e]; exact Nat.le_refl _) (fun b e => by rw [show b = w.heap.size from e]; exact Nat.le_refl _)
theorem box_at {w : World} {g : Nat} {V : Array Value} {t : TypeId} (h : (box g V t).P w) : ∀ j, w.cell? ⟨g, j, none⟩ = V[j]? := fun j => cell_of_row _ _ _ _ _ _ h
theorem box_sf {w : World} {g : Nat} {V : Array Value} {t : TypeId} (h : (box g V t).P w) : ∀ j, w.frozen? ⟨g, j, none⟩ = false := fun j => by
  have h2 : w.heap[g]? = some (.cells V t) := h
  unfold World.frozen?
  rw [h2]; simp
theorem box_lt {w : World} {g : Nat} {V : Array Value} {t : TypeId} (h : (box g V t).P w) : g < w.heap.size := (Array.getElem?_eq_some_iff.1 h).1
/-- A cell of a variable is written. -/
theorem Fm.put {w0 w : World} {l : List Part} {g : Nat} {V : Array Value} {t : TypeId} (h : Fm w0 w l) (i : Nat) (hi : l[i]? = some (Frm.box g V t)) (j : Nat) (v : Value) (U : Array Value) (hU : V.setIfInBounds j v = U) : Fm w0 (w.setCell ⟨g, j, none⟩ v) (l.set i (Frm.box g U t)) := by
  have hb : w.heap[g]? = some (.cells V t) := h.at i hi
  have hlt := (Array.getElem?_eq_some_iff.1 hb).1
  refine h.turn i hi ⟨rfl, rfl, rfl, by simp [World.setCell], fun b _ hn => Below.heap_setCell w ⟨g, j, none⟩ v b (fun e => hn e)⟩ ?_ (fun b e => .inl e) (fun b e => .inl e)
  show (w.setCell ⟨g, j, none⟩ v).heap[g]? = some (.cells U t)
  have h' : w.heap[g] = .cells V t := by simpa [Array.getElem?_eq_getElem hlt] using hb
  show (w.heap.modify g _)[g]? = _
  rw [Array.getElem?_eq_getElem (by simpa using hlt), Array.getElem_modify_self, h', ← hU]
  simp
end Go.Proofs.Ytdccoppfdljobaa.Frm

/-
  FRAMES OVER A WORLD IN WHICH NOTHING IS OLD; all that stays; a row of structs that is written; a part that lies nowhere where anything is written. By an AI agent; no person has read it.
-/
namespace Go.Proofs.Ytdccoppfdljobaa.Frm
open Go Go.RowKit

set_option linter.unusedVariables false
/-- A world in which nothing is old. -/
def v00 (w : World) : World := { w with heap := #[] }
theorem fv00 (w : World) : Fm (v00 w) w [] := fm_nil ⟨rfl, rfl, rfl, Nat.zero_le _, fun b hb => absurd hb (Nat.not_lt_zero b)⟩
/-- All that was there but for blocks X. -/
def keepP (X : Nat → Prop) (w : World) : Part where
  P w' := w.heap.size ≤ w'.heap.size ∧ ∀ b, b < w.heap.size → ¬ X b → w'.heap[b]? = w.heap[b]?
  S b := b < w.heap.size ∧ ¬ X b
  M _ := False
  sub _ h := h.elim
  dep hs h hb := ⟨Nat.le_trans h.1 hs, fun b h1 h2 => (hb b ⟨h1, h2⟩).trans (h.2 b h1 h2)⟩
  old h b hb := Nat.lt_of_lt_of_le hb.1 h.1
theorem keep_self (X : Nat → Prop) (w : World) : (keepP X w).P w := ⟨Nat.le_refl _, fun _ _ _ => rfl⟩
theorem keep_fr {X : Nat → Prop} {w w' : World} {l : List Part} (h : Fm (v00 w) w' l) (i : Nat) (hi : l[i]? = some (keepP X w)) : Fr X w w' :=
  ⟨h.bel.os, h.bel.tape, h.bel.output, (h.at i hi).1, fun b h1 h2 => (h.at i hi).2 b h1 h2⟩
section
variable {w0 w w' : World} {l : List Part} {q : Part}
/-- A part that is read alone, in none of the blocks that anything writes. -/
theorem Fm.off (h : Fm w0 w l) (hb : Below w.heap.size w w') (hq : q.P w') (hM : ∀ b, ¬ q.M b) (hS : ∀ r ∈ l, ∀ b, r.M b → ¬ q.S b) : Fm w0 w' (q :: l) :=
  (h.go hb).add hq (fun b h2 => absurd h2 (hM b)) fun r hr b => ⟨fun h2 => hM b h2.1, fun h2 => hS r hr b h2.2 h2.1⟩
end
theorem owns_move {w w' : World} {base n k : Nat} {T : TypeId} {v : Value} {zs : List Value} (h : w.ownsRow base T k v n zs) (hb : ∀ b, v.ownBlock = some b → w'.heap[b]? = w.heap[b]?) : w'.ownsRow base T k v n zs := by
  refine ⟨h.1, ?_⟩
  rcases h.2 with h1 | ⟨x, cap, cur, rfl, a1, a2, a3⟩
  · exact .inl h1
  · exact .inr ⟨x, cap, cur, rfl, a1, (hb x rfl).trans a2, a3⟩
/-- A row of structs of k cells each, that is written. -/
def rowK (T : TypeId) (k : Nat) (A : Option Addr) (cap : Nat) (rs : List (List Value)) : Part where
  P w := w.ownsRow 0 T k (.slice A rs.length cap) rs.length rs.flatten ∧ ∀ vs ∈ rs, vs.length = k
  S b := (Value.slice A rs.length cap).ownBlock = some b
  M b := (Value.slice A rs.length cap).ownBlock = some b
  sub _ h := h
  dep _ h hs := ⟨owns_move h.1 hs, h.2⟩
  old h b hb := (h.1.lt b hb).2
theorem flat_len {k : Nat} : ∀ {rs : List (List Value)}, (∀ vs ∈ rs, vs.length = k) → rs.flatten.length = rs.length * k
  | [], _ => by simp
  | v :: rs, h => by
    rw [List.flatten_cons, List.length_append, flat_len fun u hu => h u (List.mem_cons_of_mem _ hu), h v (List.mem_cons_self ..), List.length_cons, Nat.succ_mul, Nat.add_comm]
theorem flat_at {k : Nat} : ∀ {rs : List (List Value)} {i j : Nat} {vs : List Value}, (∀ vs ∈ rs, vs.length = k) → rs[i]? = some vs → j < k → rs.flatten[i * k + j]? = vs[j]?
  | [], i, j, vs, _, h, _ => by simp at h
  | v :: rs, 0, j, vs, hk, h, hj => by
    obtain rfl : v = vs := by simpa using h
    rw [List.flatten_cons, Nat.zero_mul, Nat.zero_add, List.getElem?_append_left (by rw [hk v (List.mem_cons_self ..)]; exact hj)]
  | v :: rs, i + 1, j, vs, hk, h, hj => by
    have h1 := hk v (List.mem_cons_self ..)
    rw [List.flatten_cons, Nat.succ_mul, List.getElem?_append_right (by rw [h1]; omega), h1, show i * k + k + j - k = i * k + j by omega]
    exact flat_at (fun u hu => hk u (List.mem_cons_of_mem _ hu)) (by simpa using h) hj
theorem flat_set {k : Nat} : ∀ {rs : List (List Value)} {i j : Nat} {vs : List Value} (v : Value), (∀ vs ∈ rs, vs.length = k) → rs[i]? = some vs → j < k → rs.flatten.set (i * k + j) v = (rs.set i (vs.set j v)).flatten
  | [], i, j, vs, v, _, h, _ => by simp at h
  | u :: rs, 0, j, vs, v, hk, h, hj => by
    obtain rfl : u = vs := by simpa using h
    rw [List.flatten_cons, Nat.zero_mul, Nat.zero_add, List.set_append_left _ _ (by rw [hk u (List.mem_cons_self ..)]; exact hj), List.set_cons_zero, List.flatten_cons]
  | u :: rs, i + 1, j, vs, v, hk, h, hj => by
    have h1 := hk u (List.mem_cons_self ..)
    rw [List.flatten_cons, Nat.succ_mul, List.set_append_right _ _ (by rw [h1]; omega), h1, show i * k + k + j - k = i * k + j by omega, flat_set v (fun u hu => hk u (List.mem_cons_of_mem _ hu)) (by simpa using h) hj, List.set_cons_succ, List.flatten_cons]
section
variable {T : TypeId} {k : Nat} {A : Option Addr} {cap : Nat} {rs : List (List Value)} {w0 w : World} {l : List Part}
theorem rowK_some (h : (rowK T k A cap rs).P w) {i : Nat} (hi : i < rs.length) : ∃ g, A = some ⟨g, 0, none⟩ := by
  rcases h.1.2 with ⟨_, h0⟩ | ⟨g, cp, cur, hv, _⟩
  · omega
  · injection hv with hv
    exact ⟨g, hv⟩
theorem rowK_cap (h : (rowK T k A cap rs).P w) : rs.length ≤ cap ∧ cap ≤ 9223372036854775807 := by
  rcases h.1.2 with ⟨h1, h0⟩ | ⟨g, cp, cur, hv, _, _, h3, h4, _⟩
  · injection h1 with _ h2 h3; omega
  · injection hv with _ _ hc
    rw [hc]; exact ⟨h3, h4⟩
theorem rowK_at {g : Nat} (h : (rowK T k (some ⟨g, 0, none⟩) cap rs).P w) {i : Nat} {vs : List Value} (hi : rs[i]? = some vs) {j : Nat} (hj : j < k) : w.cell? ⟨g, i * k + j, none⟩ = vs[j]? := by
  have hil := (List.getElem?_eq_some_iff.1 hi).1
  refine (h.1.cellAt (i * k + j) ?_).trans (flat_at h.2 hi hj)
  have := Nat.mul_le_mul_right k (Nat.succ_le_of_lt hil)
  rw [Nat.succ_mul] at this
  omega
theorem rowK_sf {g : Nat} (h : (rowK T k (some ⟨g, 0, none⟩) cap rs).P w) (j : Nat) : w.frozen? ⟨g, j, none⟩ = false := h.1.frozenAt j
theorem rowK_lt {g : Nat} (h : (rowK T k (some ⟨g, 0, none⟩) cap rs).P w) : g < w.heap.size := (h.1.lt g rfl).2
/-- A cell of a row of structs is written. -/
theorem Fm.putK {g : Nat} (h : Fm w0 w l) (p : Nat) (hp : l[p]? = some (rowK T k (some ⟨g, 0, none⟩) cap rs)) {i : Nat} {vs : List Value} (hi : rs[i]? = some vs) (j : Nat) (hj : j < k) (v : Value) : Fm w0 (w.setCell ⟨g, i * k + j, none⟩ v) (l.set p (rowK T k (some ⟨g, 0, none⟩) cap (rs.set i (vs.set j v)))) := by
  have hr := h.at p hp
  obtain ⟨o1, o2⟩ := hr.1.stored (i * k + j) v
  rw [flat_set v hr.2 hi hj] at o1
  refine h.turn p hp ⟨o2.os, o2.tape, o2.output, o2.size, fun b hb hne => o2.block b hb fun e => hne (show (Value.slice (some ⟨g, 0, none⟩) rs.length cap).ownBlock = some b from e ▸ rfl)⟩ ⟨by rw [List.length_set]; exact o1, fun us hu => ?_⟩ (fun b hb => .inl hb) (fun b hb => .inl hb)
  rcases List.mem_or_eq_of_mem_set hu with h1 | h1
  · exact hr.2 us h1
  · rw [h1, List.length_set]; exact hr.2 vs (List.mem_of_getElem? hi)
end
/-- A part is seen as another one that says less, and writes no more. -/
theorem Fm.conv {w0 w : World} {l : List Part} {p q : Part} (h : Fm w0 w l) (i : Nat) (hi : l[i]? = some p) (hq : q.P w) (hS : ∀ b, q.S b → p.S b) (hM : ∀ b, q.M b → p.M b) : Fm w0 w (l.set i q) :=
  h.turn i hi (Fr.none (Below.refl _ _)) hq (fun b hb => .inl (hS b hb)) (fun b hb => .inl (hM b hb))
/-- No row as yet. -/
theorem Fm.nilK {w0 w : World} {l : List Part} (h : Fm w0 w l) (T : TypeId) (k : Nat) : Fm w0 w (rowK T k none 0 [] :: l) :=
  h.add (p := rowK T k none 0 []) ⟨World.ownsRow_nil _ _ _ _, fun _ h => (List.not_mem_nil h).elim⟩ (fun b hb => by cases hb) fun q hq b => ⟨fun h2 => (by cases h2.1), fun h2 => (by cases h2.1)⟩
/-- A row in a frame, appended to by one struct. -/
theorem fmK_append {P : Program} {w0 w : World} {l : List Part} {T : TypeId} {k : Nat} {A : Option Addr} {cap : Nat} {rs : List (List Value)} (i : Nat) (hi : l[i]? = some (rowK T k A cap rs)) (h : Fm w0 w l) {o : Oper} {a : Act} {K : Act → World → Prop} {Q : Exit → Act → World → Prop} (s x : Operand) (t : TypeId)
    (ho : o.op = .call { callee := .builtin .append, args := #[s, x], argTypes := #[t, t] }) (inf : TypeInfo) (z : Value) (bytes : Nat) (ht : P.underlying t = some (.slice T)) (hinf : P.info? T = some inf) (hz : inf.zero = some z) (hsz : inf.size = k) (hby : inf.bytes = bytes) (hzs : z.cells.size = k) (hk : 0 < k)
    (vs : List Value) (gl cc : Nat) (hvs : vs.length = k) (h1 : ∀ u ∈ vs, u.oneCell' = true) (hs : a.eval s = .slice A rs.length cap) (hx : a.eval x = .slice (some ⟨gl, 0, none⟩) 1 cc) (hr : ∀ j u, vs[j]? = some u → w.cell? ⟨gl, j, none⟩ = some u) (hlen : rs.length + 1 ≤ 1000000) (hbl : (rs.length + 1) * bytes ≤ 140737488355328)
    (kk : ∀ g' c' w', ((Value.slice A rs.length cap).ownBlock = some g' ∨ w.heap.size ≤ g') → Fm w0 w' (l.set i (rowK T k (some ⟨g', 0, none⟩) c' (rs ++ [vs]))) → K (a.put o.dst (.slice (some ⟨g', 0, none⟩) (rs.length + 1) c')) w') : o.wp P a w K Q := by
  have hp := h.at i hi
  refine wp_append_lies w s x t ho 0 T inf z k bytes ht hinf hz hsz hby hzs hk (.slice A rs.length cap) rs.length rs.flatten hs hp.1 ⟨gl, 0, none⟩ 1 cc vs hx (by rw [hvs, Nat.one_mul]) ?_ h1 (by decide) (by simp only [maxLen]; omega) hbl (Nat.zero_le _) _ rfl ?_
  · intro j u hj
    rw [show (⟨gl, 0, none⟩ : Addr).add j = ⟨gl, j, none⟩ by unfold Addr.add; split <;> simp_all]
    exact hr j u hj
  · intro g' c' w' hown hgr hat _
    have hgg : (Value.slice A rs.length cap).ownBlock = some g' ∨ w.heap.size ≤ g' := hat.imp_right fun e => Nat.le_of_eq e.symm
    refine kk g' c' w' hgg (h.turn i hi ⟨hgr.os, hgr.tape, hgr.output, hgr.size, fun b hb hne => hgr.block b hb fun e => hne e.symm⟩ ⟨?_, fun us hu => ?_⟩ (fun b hb => ?_) (fun b hb => ?_))
    · rw [List.length_append, List.flatten_append, List.flatten_singleton]
      exact hown
    · rcases List.mem_append.1 hu with hu | hu
      · exact hp.2 us hu
      · rw [List.mem_singleton.1 hu]; exact hvs
    · obtain rfl : g' = b := Option.some.inj hb
      exact hgg
    · obtain rfl : g' = b := Option.some.inj hb
      exact hgg
/-! ### parts that are read alone -/
/-- In this frame nothing is written any more. -/
def RO (l : List Part) : Prop := ∀ r ∈ l, ∀ b, ¬ r.M b
theorem ro_nil : RO [] := fun _ h => (List.not_mem_nil h).elim
theorem ro_cons {p : Part} {l : List Part} (h : ∀ b, ¬ p.M b) (h2 : RO l) : RO (p :: l) := fun r hr => by
  rcases List.mem_cons.1 hr with rfl | hr
  · exact h
  · exact h2 r hr
/-- A variable that is written no more. -/
def boxR (g : Nat) (V : Array Value) (t : TypeId) : Part where
  P w := w.heap[g]? = some (.cells V t)
  S b := b = g
  M _ := False
  sub _ h := h.elim
  dep _ h hs := (hs g rfl).trans h
  old h b e := by subst e; exact (Array.getElem?_eq_some_iff.1 h).1
theorem Fm.boxR {w0 w : World} {l : List Part} (h : Fm w0 w l) (V : Array Value) (t : TypeId) : Fm w0 (w.alloc (.cells V t)) (boxR w.heap.size V t :: l) :=
  h.new (p := Frm.boxR w.heap.size V t) ((Below.refl _ _).alloc (Nat.le_refl _) _) (heap_alloc_new w _) (fun b e => by rw [show b = w.heap.size from e]; exact Nat.le_refl _) (fun b e => e.elim)
theorem Fm.seen {w0 w w' : World} {l : List Part} {q : Part} (h : Fm w0 w l) (hb : Below w.heap.size w w') (hq : q.P w') (hM : ∀ b, ¬ q.M b := by exact fun _ h => h) (hr : RO l := by repeat' first | exact ro_nil | refine ro_cons (fun _ h => h) ?_) : Fm w0 w' (q :: l) :=
  h.off hb hq hM fun r hm b h2 => absurd h2 (hr r hm b)
theorem boxR_box {w : World} {g : Nat} {V : Array Value} {t : TypeId} (h : (boxR g V t).P w) : (box g V t).P w := h
/-! ### all cells of a variable are written -/
def fills (w : World) (g : Nat) : Nat → List Value → World
  | _, [] => w
  | k, v :: vs => fills (w.setCell ⟨g, k, none⟩ v) g (k + 1) vs
theorem Fm.fillK {w0 : World} {l : List Part} {g i : Nat} {t : TypeId} : ∀ (vs : List Value) (k : Nat) (w : World) (us : List Value), Fm w0 w (l.set i (Frm.box g us.toArray t)) → i < l.length → us.length = k + vs.length → Fm w0 (fills w g k vs) (l.set i (Frm.box g (us.take k ++ vs).toArray t))
  | [], k, w, us, h, hi, hl => by
    rw [List.length_nil, Nat.add_zero] at hl
    rw [List.append_nil, List.take_of_length_le (by omega)]
    exact h
  | v :: vs, k, w, us, h, hi, hl => by
    rw [List.length_cons] at hl
    have h1 := h.put i (List.getElem?_set_self hi) k v (us.set k v).toArray (by simp)
    rw [List.set_set] at h1
    have h2 := Fm.fillK vs (k + 1) (w.setCell ⟨g, k, none⟩ v) (us.set k v) h1 hi (by rw [List.length_set]; omega)
    have e : (us.set k v).take (k + 1) ++ vs = us.take k ++ v :: vs := by
      have hk : k < us.length := by omega
      have e2 : (us.set k v).take (k + 1) = us.take k ++ [v] := by
        rw [List.take_add_one, List.take_set_of_le (Nat.le_refl _), List.getElem?_set_self hk]; rfl
      rw [e2, List.append_assoc]; rfl
    rw [e] at h2
    exact h2
theorem Fm.fill {w0 w : World} {l : List Part} {g : Nat} {V : Array Value} {t : TypeId} (h : Fm w0 w l) (i : Nat) (hi : l[i]? = some (Frm.box g V t)) (vs : List Value) (hl : V.size = vs.length) : Fm w0 (fills w g 0 vs) (l.set i (Frm.box g vs.toArray t)) := by
  have hil := (List.getElem?_eq_some_iff.1 hi).1
  have e : l.set i (Frm.box g V.toList.toArray t) = l := by
    rw [Array.toArray_toList, ← (List.getElem?_eq_some_iff.1 hi).2]
    exact List.set_getElem_self hil
  have h2 := Fm.fillK (l := l) (i := i) (g := g) (t := t) vs 0 w V.toList (by rw [e]; exact h) hil (by rw [Array.length_toList]; omega)
  rw [List.take_zero, List.nil_append] at h2
  exact h2
end Go.Proofs.Ytdccoppfdljobaa.Frm
