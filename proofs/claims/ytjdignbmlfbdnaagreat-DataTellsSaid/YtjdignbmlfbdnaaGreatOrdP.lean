/-
  A REGION THAT DRAWS ITS ORDER, IN WHICH AN OPERATION PANICS: each other operation comes to one value in every world that meets a condition; one that panics does so in every such world. By an AI agent; no person has read it.
-/
import Derived.Test.YtjdignbmlfbdnaaGreatOrd
namespace Go.Proofs.YtjdignbmlfbdnaaGreat.Ord
section
variable {P : Program} {ops : Array Oper} {Q : Exit → Act → World → Prop} {md : Region.Mode} {S : World → Prop} {R : List PanicEntry → Prop}

/-- A step calls a function that panics, with what R allows, in a world that meets S. -/
def Dying (P : Program) (S : World → Prop) (R : List PanicEntry → Prop) : Result Next → Prop
  | .ok (.enter f args) w' => Calls P f args w' fun e w'' => ∃ ch, e = .panicked ch ∧ R ch ∧ S w''
  | _ => False
def Dies (P : Program) (ops : Array Oper) (S : World → Prop) (R : List PanicEntry → Prop) (o : Oper) (a : Act) : Prop :=
  Region.wanted o (yielded ops a.tmps) = true ∧ ∀ w, S w → Dying P S R ((execOp a.eval o).run P w)
theorem Dies.same {o : Oper} {a a' : Act} (hy : Dies P ops S R o a) (he : execOp a'.eval o = execOp a.eval o)
    (hw : Region.wanted o (yielded ops a'.tmps) = Region.wanted o (yielded ops a.tmps)) : Dies P ops S R o a' := by
  unfold Dies at *
  rw [he, hw]
  exact hy
theorem Dies.step {i : Nat} {o : Oper} {a : Act} (hi : ops[i]? = some o) (hy : Dies P ops S R o a) {K : Act → World → Prop} {w : World} (hS : S w) (h : ∀ ch w', R ch → S w' → Q (.panic ch) a w') : wpOp P ops Q i K a w := by
  unfold Go.wpOp
  simp only [hi]
  obtain ⟨hw, hv⟩ := hy
  simp only [hw, if_true, Oper.wp]
  have h2 := hv w hS
  generalize (execOp a.eval o).run P w = r at h2
  refine .inl ?_
  cases r with
  | ok n w' =>
    cases n <;> simp only [Dying] at h2
    case enter f args =>
      simp only [Oper.upon]
      refine Calls.mono h2 fun e w'' he => ?_
      obtain ⟨ch, rfl, h3, h4⟩ := he
      exact h _ _ h3 h4
  | halt x w' => cases h2
/-- Whatever order is picked from here on, in every world that meets S. -/
def wpAnyE (P : Program) (md : Region.Mode) (ops : Array Oper) (Q : Exit → Act → World → Prop) (S : World → Prop) (R : List PanicEntry → Prop) : Nat → Array Bool → Act → Prop
  | 0, listed, a => Region.ready md ops listed = [] ∧ ∀ w, S w → Q .normal a w
  | fuel + 1, listed, a => (Region.ready md ops listed = [] → ∀ w, S w → Q .normal a w) ∧
    ∀ i ∈ Region.ready md ops listed, ∃ o, ops[i]? = some o ∧ (Dies P ops S R o a ∨ ∃ v, Gives P ops S o v a ∧ wpAnyE P md ops Q S R fuel (listed.setIfInBounds i true) (a.put o.dst v))
theorem put_defers (a : Act) (d : Option Nat) (v : Value) : (a.put d v).defers = a.defers := by cases d <;> rfl
theorem put_tmp (a : Act) {d : Option Nat} (v : Value) {j : Nat} (h : (d != some j) = true) : (a.put d v).tmps[j]? = a.tmps[j]? := by
  cases d with
  | none => rfl
  | some k =>
    have hk : k ≠ j := by simpa using h
    simp only [Act.put]
    exact Array.getElem?_setIfInBounds_ne hk
/-- What the operations of a region leave as it was: what is deferred, and each number that none of them writes. -/
def Kept (ops : Array Oper) (a0 a : Act) : Prop := a.defers = a0.defers ∧ ∀ j, ops.all (fun o => o.dst != some j) = true → a.tmps[j]? = a0.tmps[j]?
theorem Kept.put {a0 a : Act} (h : Kept ops a0 a) {i : Nat} {o : Oper} (ho : ops[i]? = some o) (v : Value) : Kept ops a0 (a.put o.dst v) := by
  refine ⟨(put_defers a _ v).trans h.1, fun j hj => ?_⟩
  have h1 : (o.dst != some j) = true := by
    have := Array.all_eq_true.1 hj
    obtain ⟨hi, e⟩ := Array.getElem?_eq_some_iff.1 ho
    have h2 := this i hi
    rw [e] at h2
    exact h2
  exact (put_tmp a v h1).trans (h.2 j hj)
theorem any_of_givenE {a0 : Act} (hQ : ∀ ch a w', R ch → S w' → Kept ops a0 a → Q (.panic ch) a w') : ∀ (fuel : Nat) (listed : Array Bool) (a : Act), Kept ops a0 a → wpAnyE P md ops Q S R fuel listed a → ∀ w, S w → wpAny P md ops Q fuel listed a w
  | 0, _, _, _, h, w, hS => ⟨h.1, h.2 w hS⟩
  | fuel + 1, _, a, ha, h, w, hS => ⟨fun h0 => h.1 h0 w hS, fun i hi => by
      obtain ⟨o, ho, hd | ⟨v, hg, hr⟩⟩ := h.2 i hi
      · exact hd.step ho hS fun ch w' h1 h2 => hQ ch a w' h1 h2 ha
      · exact hg.step ho hS fun w' hS' => any_of_givenE hQ fuel _ _ (ha.put ho v) hr w' hS'⟩
theorem given_firstE {i : Nat} {oi : Oper} {v : Value} (hi : ops[i]? = some oi) (hsel : ∀ (j : Nat) (o : Oper) cs b, ops[j]? = some o → o.op ≠ .select cs b) :
    ∀ (fuel : Nat) (listed : Array Bool) (a : Act),
      (∀ j oj, ops[j]? = some oj → j ≠ i → listed.getD j true = false → (∀ e ∈ oj.after, Region.binds md e = true → e.on ≠ i) → oi.apart ops oj = true) →
      i ∈ Region.ready md ops listed → Gives P ops S oi v a →
      wpAnyE P md ops Q S R fuel (listed.setIfInBounds i true) (a.put oi.dst v) → wpAnyE P md ops Q S R (fuel + 1) listed a := by
  intro fuel
  induction fuel with
  | zero =>
    intro listed a _ hr hy H
    refine ⟨fun h => (by rw [h] at hr; cases hr), fun j hj => ?_⟩
    by_cases hji : j = i
    · subst hji; exact ⟨oi, hi, .inr ⟨v, hy, H⟩⟩
    · have := ready_mono hj hji
      rw [H.1] at this
      cases this
  | succ fuel ih =>
    intro listed a hfree hr hy H
    refine ⟨fun h => (by rw [h] at hr; cases hr), fun j hj => ?_⟩
    by_cases hji : j = i
    · subst hji; exact ⟨oi, hi, .inr ⟨v, hy, H⟩⟩
    · obtain ⟨oj, hoj, hor⟩ := H.2 j (ready_mono hj hji)
      obtain ⟨hjun, oj', hoj', hall⟩ := mem_ready.1 hj
      obtain rfl : oj = oj' := Option.some.inj (hoj.symm.trans hoj')
      have hnot : ∀ e ∈ oj.after, Region.binds md e = true → e.on ≠ i := fun e he hb heq => by
        have h1 := hall e he hb
        have h0 := (mem_ready.1 hr).1
        rw [heq] at h1
        rcases Nat.lt_or_ge i listed.size with h' | h'
        · simp [h'] at h0 h1; rw [h0] at h1; cases h1
        · simp [Array.getElem?_eq_none h'] at h1
      obtain ⟨h1, h2, h3⟩ := Oper.apart_spec (hfree j oj hoj hji hjun hnot)
      refine ⟨oj, hoj, ?_⟩
      rcases hor with hd | ⟨u, hgj, hrest⟩
      · exact .inl (hd.same (execOp_put oj (fun cs b => hsel j oj cs b hoj) a oi.dst v h1).symm (wanted_put oj a oi.dst v h1).symm)
      have hfree' : ∀ k ok, ops[k]? = some ok → k ≠ i → (listed.setIfInBounds j true).getD k true = false →
          (∀ e ∈ ok.after, Region.binds md e = true → e.on ≠ i) → oi.apart ops ok = true := fun k ok hk hki hun hno => by
        refine hfree k ok hk hki ?_ hno
        by_cases hjk : j = k
        · subst hjk; exact hjun
        · rw [getD_set_ne true hjk] at hun; exact hun
      refine .inr ⟨u, hgj.same (execOp_put oj (fun cs b => hsel j oj cs b hoj) a oi.dst v h1).symm (wanted_put oj a oi.dst v h1).symm, ?_⟩
      refine ih (listed.setIfInBounds j true) (a.put oj.dst u) hfree' (ready_mono hr (Ne.symm hji)) (hy.same (execOp_put oi (fun cs b => hsel i oi cs b hi) a oj.dst u h3) (wanted_put oi a oj.dst u h3)) ?_
      rw [Array.setIfInBounds_comm _ _ hji, ← Act.put_comm a v u h2]
      exact hrest
/-! ### the moves of a walk -/
theorem takeRE {i : Nat} {oi : Oper} {v : Value} {fuel : Nat} {listed : Array Bool} {a : Act} (hi : ops[i]? = some oi)
    (hs : Region.noSelect ops = true) (hf : Region.free md ops listed i = true) (hr : (Region.ready md ops listed).contains i = true)
    (hw : Region.wanted oi (yielded ops a.tmps) = true) (hy : ∀ w, S w → (execOp a.eval oi).run P w = .ok (.value v) w)
    (h : wpAnyE P md ops Q S R fuel (listed.setIfInBounds i true) (a.put oi.dst v)) : wpAnyE P md ops Q S R (fuel + 1) listed a :=
  given_firstE hi (Region.noSelect_spec hs) fuel listed a (Region.free_spec hi hf) (by simpa using hr) (.inl ⟨hw, fun w hS => by rw [hy w hS]; exact ⟨rfl, hS⟩⟩) h
theorem takeCE {i : Nat} {oi : Oper} {v : Value} {f : FuncId} {args : Array Value} {fuel : Nat} {listed : Array Bool} {a : Act} (hi : ops[i]? = some oi)
    (hs : Region.noSelect ops = true) (hf : Region.free md ops listed i = true) (hr : (Region.ready md ops listed).contains i = true)
    (hw : Region.wanted oi (yielded ops a.tmps) = true) (he : ∀ w, S w → (execOp a.eval oi).run P w = .ok (.enter f args) w)
    (hc : ∀ w, S w → Calls P f args w fun e w' => e = .returned v ∧ S w')
    (h : wpAnyE P md ops Q S R fuel (listed.setIfInBounds i true) (a.put oi.dst v)) : wpAnyE P md ops Q S R (fuel + 1) listed a :=
  given_firstE hi (Region.noSelect_spec hs) fuel listed a (Region.free_spec hi hf) (by simpa using hr) (.inl ⟨hw, fun w hS => by rw [he w hS]; exact hc w hS⟩) h
/-- The one operation that is left to come up now panics. -/
theorem dieE {i : Nat} {oi : Oper} {f : FuncId} {args : Array Value} {fuel : Nat} {listed : Array Bool} {a : Act} (hi : ops[i]? = some oi)
    (hr : Region.ready md ops listed = [i]) (hw : Region.wanted oi (yielded ops a.tmps) = true) (he : ∀ w, S w → (execOp a.eval oi).run P w = .ok (.enter f args) w)
    (hc : ∀ w, S w → Calls P f args w fun e w' => ∃ ch, e = .panicked ch ∧ R ch ∧ S w') : wpAnyE P md ops Q S R (fuel + 1) listed a := by
  refine ⟨fun h => (by rw [h] at hr; cases hr), fun j hj => ?_⟩
  rw [hr] at hj
  obtain rfl := List.mem_singleton.1 hj
  exact ⟨oi, hi, .inl ⟨hw, fun w hS => by rw [he w hS]; exact hc w hS⟩⟩
/-- The beginning. -/
theorem regionE {id : Nat} {a : Act} {w : World} (hm : P.follows .mixedOrders = true) (hS : S w.drew) (hQ : ∀ ch b w', R ch → S w' → Kept ops a b → Q (.panic ch) b w')
    (h : wpAnyE P .any ops Q S R ops.size (Array.replicate ops.size false) a) : (Code.region id ops true).wp P Q a w :=
  wp_region_any hm (any_of_givenE hQ _ _ _ ⟨rfl, fun _ _ => rfl⟩ h _ hS)
end
end Go.Proofs.YtjdignbmlfbdnaaGreat.Ord
