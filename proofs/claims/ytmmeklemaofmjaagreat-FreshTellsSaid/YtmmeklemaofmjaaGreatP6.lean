/-
  One text of several, in their order: Ord, QConst, QPure, EPure, EFacts, ERef, ERef2, ERef3, ERef4, ERef5, Rng. By an AI agent; no person has read it.
-/
import Derived.Deep.RegionHeld
import Derived.Still
import Derived.Test.YtmmeklemaofmjaaGreatP5
import Derived.Test.YtmmeklemaofmjaaGreatP1
import Derived.Test.YtmmeklemaofmjaaGreatP3
import Derived.RangeFuncNested
import Derived.RangeFuncBound
import Derived.RangeFuncCalls
import Derived.RangeFuncLeaves
import Derived.RangeFuncRecord
import Derived.RangeFuncFrom
/-
  A REGION THAT DRAWS ITS ORDER, WHOSE OPERATIONS EACH COME TO ONE VALUE IN EVERY WORLD THAT MEETS A CONDITION, and leave such a world (a call that makes memory among them): each may be taken in the text's order, no order is branched over. By an AI agent; no person has read it.
-/
namespace Go.Proofs.YtmmeklemaofmjaaGreat.Ord
section
variable {P : Program} {ops : Array Oper} {Q : Exit → Act → World → Prop} {md : Region.Mode} {S : World → Prop}

/-- A step comes to v, and to a world that meets S. -/
def Comes (P : Program) (S : World → Prop) (v : Value) : Result Next → Prop
  | .ok (.value u) w' => u = v ∧ S w'
  | .ok (.enter f args) w' => Calls P f args w' fun e w'' => e = .returned v ∧ S w''
  | _ => False
/-- In state a, in every world that meets S, operation o comes to v and to a world that meets S. -/
def Gives (P : Program) (ops : Array Oper) (S : World → Prop) (o : Oper) (v : Value) (a : Act) : Prop :=
  (Region.wanted o (yielded ops a.tmps) = true ∧ ∀ w, S w → Comes P S v ((execOp a.eval o).run P w)) ∨ (Region.wanted o (yielded ops a.tmps) = false ∧ v = undef)
theorem Gives.same {o : Oper} {v : Value} {a a' : Act} (hy : Gives P ops S o v a) (he : execOp a'.eval o = execOp a.eval o)
    (hw : Region.wanted o (yielded ops a'.tmps) = Region.wanted o (yielded ops a.tmps)) : Gives P ops S o v a' := by
  unfold Gives at *
  rw [he, hw]
  exact hy
theorem Gives.step {i : Nat} {o : Oper} {v : Value} {a : Act} (hi : ops[i]? = some o) (hy : Gives P ops S o v a) {K : Act → World → Prop} {w : World} (hS : S w) (h : ∀ w', S w' → K (a.put o.dst v) w') : wpOp P ops Q i K a w := by
  unfold Go.wpOp
  simp only [hi]
  rcases hy with ⟨hw, hv⟩ | ⟨hw, rfl⟩
  · simp only [hw, if_true, Oper.wp]
    have h2 := hv w hS
    generalize (execOp a.eval o).run P w = r at h2
    refine .inl ?_
    cases r with
    | ok n w' =>
      cases n <;> simp only [Comes] at h2
      case value u =>
        obtain ⟨rfl, h3⟩ := h2
        exact h _ h3
      case enter f args =>
        simp only [Oper.upon]
        refine Calls.mono h2 fun e w'' he => ?_
        obtain ⟨rfl, h3⟩ := he
        exact h _ h3
    | halt x w' => cases h2
  · simp only [hw, Bool.false_eq_true, if_false]; exact h _ hS
/-- Whatever order is picked from here on, in every world that meets S. -/
def wpAnyS (P : Program) (md : Region.Mode) (ops : Array Oper) (Q : Exit → Act → World → Prop) (S : World → Prop) : Nat → Array Bool → Act → Prop
  | 0, listed, a => Region.ready md ops listed = [] ∧ ∀ w, S w → Q .normal a w
  | fuel + 1, listed, a => (Region.ready md ops listed = [] → ∀ w, S w → Q .normal a w) ∧
    ∀ i ∈ Region.ready md ops listed, ∃ o v, ops[i]? = some o ∧ Gives P ops S o v a ∧ wpAnyS P md ops Q S fuel (listed.setIfInBounds i true) (a.put o.dst v)
theorem any_of_given : ∀ (fuel : Nat) (listed : Array Bool) (a : Act), wpAnyS P md ops Q S fuel listed a → ∀ w, S w → wpAny P md ops Q fuel listed a w
  | 0, _, _, h, w, hS => ⟨h.1, h.2 w hS⟩
  | fuel + 1, _, _, h, w, hS => ⟨fun h0 => h.1 h0 w hS, fun i hi => by
      obtain ⟨o, v, ho, hg, hr⟩ := h.2 i hi
      exact hg.step ho hS fun w' hS' => any_of_given fuel _ _ hr w' hS'⟩
theorem held_of_given : ∀ (fuel : Nat) (listed : Array Bool) (a : Act), wpAnyS P md ops Q S fuel listed a → ∀ w, S w → wpAnyH P md ops Q S fuel listed a w
  | 0, _, _, h, w, hS => ⟨h.1, h.2 w hS⟩
  | fuel + 1, _, _, h, w, hS => ⟨fun h0 => h.1 h0 w hS, fun i hi => by
      obtain ⟨o, v, ho, hg, hr⟩ := h.2 i hi
      exact hg.step ho hS fun w' hS' => ⟨hS', held_of_given fuel _ _ hr w' hS'⟩⟩
/-- **An operation that may come up now may be taken first**, if all the others are apart from it or wait for it. -/
theorem given_first {i : Nat} {oi : Oper} {v : Value} (hi : ops[i]? = some oi) (hsel : ∀ (j : Nat) (o : Oper) cs b, ops[j]? = some o → o.op ≠ .select cs b) :
    ∀ (fuel : Nat) (listed : Array Bool) (a : Act),
      (∀ j oj, ops[j]? = some oj → j ≠ i → listed.getD j true = false → (∀ e ∈ oj.after, Region.binds md e = true → e.on ≠ i) → oi.apart ops oj = true) →
      i ∈ Region.ready md ops listed → Gives P ops S oi v a →
      wpAnyS P md ops Q S fuel (listed.setIfInBounds i true) (a.put oi.dst v) → wpAnyS P md ops Q S (fuel + 1) listed a := by
  intro fuel
  induction fuel with
  | zero =>
    intro listed a _ hr hy H
    refine ⟨fun h => (by rw [h] at hr; cases hr), fun j hj => ?_⟩
    by_cases hji : j = i
    · subst hji; exact ⟨oi, v, hi, hy, H⟩
    · have := ready_mono hj hji
      rw [H.1] at this
      cases this
  | succ fuel ih =>
    intro listed a hfree hr hy H
    refine ⟨fun h => (by rw [h] at hr; cases hr), fun j hj => ?_⟩
    by_cases hji : j = i
    · subst hji; exact ⟨oi, v, hi, hy, H⟩
    · obtain ⟨oj, u, hoj, hgj, hrest⟩ := H.2 j (ready_mono hj hji)
      obtain ⟨hjun, oj', hoj', hall⟩ := mem_ready.1 hj
      obtain rfl : oj = oj' := Option.some.inj (hoj.symm.trans hoj')
      have hnot : ∀ e ∈ oj.after, Region.binds md e = true → e.on ≠ i := fun e he hb heq => by
        have h1 := hall e he hb
        have h0 := (mem_ready.1 hr).1
        rw [heq] at h1
        rcases Nat.lt_or_ge i listed.size with h' | h'
        · simp [h'] at h0 h1; rw [h0] at h1; cases h1
        · simp [Array.getElem?_eq_none h'] at h1
      obtain ⟨h1, h2, h3⟩ := Oper.apart_spec (hfree j oj hoj hji hjun hnot)
      have hfree' : ∀ k ok, ops[k]? = some ok → k ≠ i → (listed.setIfInBounds j true).getD k true = false →
          (∀ e ∈ ok.after, Region.binds md e = true → e.on ≠ i) → oi.apart ops ok = true := fun k ok hk hki hun hno => by
        refine hfree k ok hk hki ?_ hno
        by_cases hjk : j = k
        · subst hjk; exact hjun
        · rw [getD_set_ne true hjk] at hun; exact hun
      refine ⟨oj, u, hoj, hgj.same (execOp_put oj (fun cs b => hsel j oj cs b hoj) a oi.dst v h1).symm (wanted_put oj a oi.dst v h1).symm, ?_⟩
      refine ih (listed.setIfInBounds j true) (a.put oj.dst u) hfree' (ready_mono hr (Ne.symm hji)) (hy.same (execOp_put oi (fun cs b => hsel i oi cs b hi) a oj.dst u h3) (wanted_put oi a oj.dst u h3)) ?_
      rw [Array.setIfInBounds_comm _ _ hji, ← Act.put_comm a v u h2]
      exact hrest

/-! ### the moves of a walk -/
theorem takeR {i : Nat} {oi : Oper} {v : Value} {fuel : Nat} {listed : Array Bool} {a : Act} (hi : ops[i]? = some oi)
    (hs : Region.noSelect ops = true) (hf : Region.free md ops listed i = true) (hr : (Region.ready md ops listed).contains i = true)
    (hw : Region.wanted oi (yielded ops a.tmps) = true) (hy : ∀ w, S w → (execOp a.eval oi).run P w = .ok (.value v) w)
    (h : wpAnyS P md ops Q S fuel (listed.setIfInBounds i true) (a.put oi.dst v)) : wpAnyS P md ops Q S (fuel + 1) listed a :=
  given_first hi (Region.noSelect_spec hs) fuel listed a (Region.free_spec hi hf) (by simpa using hr) (.inl ⟨hw, fun w hS => by rw [hy w hS]; exact ⟨rfl, hS⟩⟩) h
theorem takeC {i : Nat} {oi : Oper} {v : Value} {f : FuncId} {args : Array Value} {fuel : Nat} {listed : Array Bool} {a : Act} (hi : ops[i]? = some oi)
    (hs : Region.noSelect ops = true) (hf : Region.free md ops listed i = true) (hr : (Region.ready md ops listed).contains i = true)
    (hw : Region.wanted oi (yielded ops a.tmps) = true) (he : ∀ w, S w → (execOp a.eval oi).run P w = .ok (.enter f args) w)
    (hc : ∀ w, S w → Calls P f args w fun e w' => e = .returned v ∧ S w')
    (h : wpAnyS P md ops Q S fuel (listed.setIfInBounds i true) (a.put oi.dst v)) : wpAnyS P md ops Q S (fuel + 1) listed a :=
  given_first hi (Region.noSelect_spec hs) fuel listed a (Region.free_spec hi hf) (by simpa using hr) (.inl ⟨hw, fun w hS => by rw [he w hS]; exact hc w hS⟩) h
theorem skip {i : Nat} {oi : Oper} {fuel : Nat} {listed : Array Bool} {a : Act} (hi : ops[i]? = some oi)
    (hs : Region.noSelect ops = true) (hf : Region.free md ops listed i = true) (hr : (Region.ready md ops listed).contains i = true)
    (hw : Region.wanted oi (yielded ops a.tmps) = false)
    (h : wpAnyS P md ops Q S fuel (listed.setIfInBounds i true) (a.put oi.dst undef)) : wpAnyS P md ops Q S (fuel + 1) listed a :=
  given_first hi (Region.noSelect_spec hs) fuel listed a (Region.free_spec hi hf) (by simpa using hr) (.inr ⟨hw, rfl⟩) h
theorem done {listed : Array Bool} {a : Act} (hr : Region.ready md ops listed = []) (h : ∀ w, S w → Q .normal a w) : ∀ fuel, wpAnyS P md ops Q S fuel listed a
  | 0 => ⟨hr, h⟩
  | _ + 1 => ⟨fun _ => h, by rw [hr]; simp⟩
/-- The beginning. -/
theorem region {id : Nat} {a : Act} {w : World} (hm : P.follows .mixedOrders = true) (hS : S w.drew)
    (h : wpAnyS P .any ops Q S ops.size (Array.replicate ops.size false) a) : (Code.region id ops true).wp P Q a w :=
  wp_region_any hm (any_of_given _ _ _ h _ hS)
/-! ### the same, in the text's order: one check for the whole region -/
/-- The operations one behind the other. -/
def wpG (P : Program) (ops : Array Oper) (Q : Exit → Act → World → Prop) (S : World → Prop) : List Oper → Act → Prop
  | [], a => ∀ w, S w → Q .normal a w
  | o :: l, a => ∃ v, Gives P ops S o v a ∧ wpG P ops Q S l (a.put o.dst v)
theorem given_lex (hs : Region.noSelect ops = true) : ∀ (l : List Oper) (k : Nat) (listed : Array Bool) (a : Act), (∀ j, l[j]? = ops[k + j]?) →
    Region.lexFrom md ops l.length k listed = true → wpG P ops Q S l a → wpAnyS P md ops Q S l.length listed a
  | [], _, _, _, _, hB, h => ⟨by simpa [Region.lexFrom] using hB, h⟩
  | o :: l, k, listed, a, hl, hB, h => by
    have h0 : ops[k]? = some o := by simpa using (hl 0).symm
    simp only [List.length_cons, Region.lexFrom, Bool.and_eq_true] at hB
    obtain ⟨⟨hr, hf⟩, hB'⟩ := hB
    obtain ⟨v, hy, hK⟩ := h
    exact given_first h0 (Region.noSelect_spec hs) l.length listed a (Region.free_spec h0 hf) (by simpa using hr) hy
      (given_lex hs l (k + 1) _ _ (fun j => by have := hl (j + 1); simpa [Nat.add_assoc, Nat.add_comm 1 j] using this) hB' hK)
theorem region_lit {id : Nat} {l : List Oper} {a : Act} {w : World} (hm : P.follows .mixedOrders = true) (hB : Region.lexB .any l.toArray = true) (hS : S w.drew) (h : wpG P l.toArray Q S l a) : (Code.region id l.toArray true).wp P Q a w := by
  simp only [Region.lexB, Bool.and_eq_true] at hB
  refine region hm hS ?_
  have := given_lex (md := .any) hB.1 l 0 (Array.replicate l.toArray.size false) a (by simp) (by simpa using hB.2) h
  simpa using this
theorem stepR {o : Oper} {l : List Oper} {v : Value} {a : Act} (hw : Region.wanted o (yielded ops a.tmps) = true) (hy : ∀ w, S w → (execOp a.eval o).run P w = .ok (.value v) w) (h : wpG P ops Q S l (a.put o.dst v)) : wpG P ops Q S (o :: l) a :=
  ⟨v, .inl ⟨hw, fun w hS => by rw [hy w hS]; exact ⟨rfl, hS⟩⟩, h⟩
theorem stepC {o : Oper} {l : List Oper} {v : Value} {f : FuncId} {args : Array Value} {a : Act} (hw : Region.wanted o (yielded ops a.tmps) = true) (he : ∀ w, S w → (execOp a.eval o).run P w = .ok (.enter f args) w)
    (hc : ∀ w, S w → Calls P f args w fun e w' => e = .returned v ∧ S w') (h : wpG P ops Q S l (a.put o.dst v)) : wpG P ops Q S (o :: l) a :=
  ⟨v, .inl ⟨hw, fun w hS => by rw [he w hS]; exact hc w hS⟩, h⟩
theorem stepS {o : Oper} {l : List Oper} {a : Act} (hw : Region.wanted o (yielded ops a.tmps) = false) (h : wpG P ops Q S l (a.put o.dst undef)) : wpG P ops Q S (o :: l) a := ⟨undef, .inr ⟨hw, rfl⟩, h⟩
theorem stepD {a : Act} (h : ∀ w, S w → Q .normal a w) : wpG P ops Q S [] a := h
end
end Go.Proofs.YtmmeklemaofmjaaGreat.Ord

/-
  PLAIN FACTS, OF NO PROGRAM: the terms that layer 9's laws speak of (a root's states and keys, terms that sign): right, how long, which are the same. By an AI agent; no person has read it.
-/
namespace Go.Proofs.YtmmeklemaofmjaaGreat.Dta
open Wire Term Draw Reg Clo

abbrev Tm := List UInt8
def signT : Tm := [115, 105, 103, 110]
def xT : Tm := [120]
def sgn (i : Nat) : Tm := sech signT xT i
def sgp (i : Nat) : Tm := 117 :: sgn i
def sgs (n : Nat) : List Tm := (List.range n).map sgn
theorem size_two {d : Nat} {k : UInt8} {a b : List UInt8} (hk : k = 112 ∨ k = 103 ∨ k = 115 ∨ (k = 98 ∧ a.head? = some 117)) (ha : size d a = a.length) (ha0 : a ≠ []) (hb : size d b = b.length) (hb0 : b ≠ []) : size (d + 1) (k :: (a ++ b)) = (k :: (a ++ b)).length := by
  have hal : a.length ≠ 0 := fun h => ha0 (List.eq_nil_of_length_eq_zero h)
  have hbl : b.length ≠ 0 := fun h => hb0 (List.eq_nil_of_length_eq_zero h)
  show up (body (size d) k (a ++ b)) = _
  have har : arity k = some 2 := by rcases hk with rfl | rfl | rfl | ⟨rfl, _⟩ <;> rfl
  have h1 : body (size d) k (a ++ b) = sizes (size d) 2 (a ++ b) := by
    unfold body
    rw [har]
    show (if k = 98 ∧ (a ++ b).head? ≠ some 117 then none else sizes (size d) 2 (a ++ b)) = _
    rw [if_neg]
    rintro ⟨h98, hh⟩
    rcases hk with rfl | rfl | rfl | ⟨rfl, h117⟩
    · exact absurd h98 (by decide)
    · exact absurd h98 (by decide)
    · exact absurd h98 (by decide)
    · refine hh ?_
      cases a with
      | nil => exact absurd rfl ha0
      | cons x t => exact h117
  have h2 : size d (a ++ b) = a.length := by
    have := size_ext d a b (by rw [ha]; exact hal)
    rw [ha, List.take_length] at this
    exact this
  have h3 : sizes (size d) 1 b = some b.length := by
    unfold sizes
    rw [hb, if_neg hbl]
    unfold sizes
    rfl
  have h4 : sizes (size d) 2 (a ++ b) = some (a.length + b.length) := by
    unfold sizes
    rw [h2, if_neg hal, List.drop_left, h3]
    rfl
  rw [h1, h4]
  simp only [up, List.length_cons, List.length_append]; omega
theorem sz_two {d : Nat} {k : UInt8} {a b : List UInt8} (hk : k = 112 ∨ k = 103 ∨ k = 115 ∨ (k = 98 ∧ a.head? = some 117)) (ha : Sz d a) (hb : Sz d b) : Sz (d + 1) (k :: (a ++ b)) := ⟨List.cons_ne_nil _ _, size_two hk ha.2 ha.1 hb.2 hb.1⟩
theorem sz_text (d : Nat) {s : Tm} (h : s.length ≤ 3900) : Sz (d + 1) (116 :: putText s) := by
  refine ⟨List.cons_ne_nil _ _, ?_⟩
  have h1 : text (putText s) 4000 = (s, [], 0) := by
    have := text_put (t := s) (by omega) [] 4000 (by omega)
    rw [List.append_nil] at this
    exact this
  show up (body (size d) 116 (putText s)) = _
  have h2 : body (size d) 116 (putText s) = some (putText s).length := by
    show leaf 116 (putText s) = _
    unfold leaf
    rw [if_neg (by decide), h1, if_pos rfl]
    rfl
  rw [h2]
  simp only [up, List.length_cons]; omega
theorem sgn_sz {i : Nat} (h : i < 18446744073709551616) : Sz 3 (sgn i) ∧ (sgn i).length ≤ 50 := by
  have hl : (signT ++ 58 :: xT).length = 6 := rfl
  have h1 : Sz 1 (txt signT xT) := sz_txt 0 (by rw [hl]; omega)
  have h2 : Sz 1 (ofAtom i) := sz_atom 0 h
  refine ⟨sz_one (.inl rfl) (sz_pair h1 h2), ?_⟩
  have h3 := (put_le h).2
  have h4 := (put_le (n := (signT ++ 58 :: xT).length) (by omega)).2
  unfold sgn sech prs ofAtom txt
  simp only [List.length_cons, List.length_append, putText_len] at hl h4 ⊢
  omega
theorem sgn_right {i : Nat} (h : i < 18446744073709551616) : right (sgn i) = true := sz_right (sgn_sz h).1 (by omega) (by have := (sgn_sz h).2; omega)
theorem sgp_sz {i : Nat} (h : i < 18446744073709551616) : Sz 4 (sgp i) ∧ (sgp i).length ≤ 51 := ⟨sz_one (.inr rfl) (sgn_sz h).1, by have := (sgn_sz h).2; unfold sgp; rw [List.length_cons]; omega⟩
theorem sgp_right {i : Nat} (h : i < 18446744073709551616) : right (sgp i) = true := sz_right (sgp_sz h).1 (by omega) (by have := (sgp_sz h).2; omega)
theorem sgp_kind {i : Nat} (h : i < 18446744073709551616) : kind (sgp i) = 117 := by rw [kind_right (sgp_right h)]; rfl
theorem sgn_is {i : Nat} (h : i < 18446744073709551616) : secret signT xT i = (sgn i, 0) := by
  obtain ⟨h1, h2, h3, _⟩ := secret_small (use := signT) (who := xT) (n := i) (by decide) h
  exact secret_ok h h1 h2 h3
theorem root_is {n : Nat} (h : n < 18446744073709551616) : secret [114, 111, 111, 116] [120] n = (rootS n, 0) := by
  obtain ⟨h1, h2, h3, _⟩ := secret_small (use := [114, 111, 111, 116]) (who := [120]) (n := n) (by decide) h
  exact secret_ok h h1 h2 h3
theorem sgp_is {i : Nat} (h : i < 18446744073709551616) : one 117 (sgn i) = (sgp i, 0) := by
  unfold one
  rw [if_pos (sgn_right h)]
  exact made_yes (sgp_right h)
theorem sgn_inj {i j : Nat} (hi : i < 18446744073709551616) (hj : j < 18446744073709551616) (h : sgn i = sgn j) : i = j := by
  obtain ⟨h1, _⟩ := secret_small (use := signT) (who := xT) (n := i) (by decide) hi
  exact (sech_inj hi hj h1 h1 (by decide) (by decide) (by decide) (by decide) h).2.2
theorem st_sz {n k : Nat} (hn : n < 18446744073709551616) (hk : k ≤ 7) : Sz 10 (hs k (rootS n)) ∧ (hs k (rootS n)).length ≤ 47 := by
  obtain ⟨h1, h2⟩ := root_sz hn
  exact ⟨sz_up (sz_hs h1 k) (by omega), by rw [hs_len]; omega⟩
end Go.Proofs.YtmmeklemaofmjaaGreat.Dta

/-
  PLAIN FACTS, OF NO PROGRAM: blobs (layer 9): what is built, a blob's bytes, what bytes are, what is opened. By an AI agent; no person has read it.
-/
namespace Go.Proofs.YtmmeklemaofmjaaGreat.Dta
open Wire Term Draw Reg Clo

def isPath (p : Tm) : Bool := (Txt.split p).isSome
/-- A blob. -/
structure Bb where
  ep : Int
  sl : Tm
  sg : Tm
def bzero : Bb := ⟨0, [], []⟩
def BR (b : Bb) : Prop := (0 ≤ b.ep ∧ b.ep ≤ 7) ∧ kind b.sl = 115 ∧ kind b.sg = 103
instance (b : Bb) : Decidable (BR b) := by unfold BR; infer_instance
def txtT (s : Tm) : Tm := 116 :: putText s
def inner (path c : Tm) : Tm := 112 :: (txtT path ++ txtT c)
def said (ep : Int) (sl : Tm) : Tm × Int := two 112 (ofAtom ep.toNat) sl
def sealB (st path c : Tm) : Tm × Int := if (key st).2 ≠ 0 then ([], 10) else if (two 115 (key st).1 (inner path c)).2 ≠ 0 then ([], 10) else ((two 115 (key st).1 (inner path c)).1, 0)
def signB (ep : Int) (sn sl : Tm) : Tm × Int := if (said ep sl).2 ≠ 0 then ([], 10) else if (two 103 sn (said ep sl).1).2 ≠ 0 then ([], 10) else ((two 103 sn (said ep sl).1).1, 0)
def ArgB (st : Tm) (ep : Int) (sn path : Tm) : Prop := (0 ≤ ep ∧ ep ≤ 7) ∧ right st = true ∧ right sn = true ∧ isPath path = true
instance (st : Tm) (ep : Int) (sn path : Tm) : Decidable (ArgB st ep sn path) := by unfold ArgB; infer_instance
def build (st : Tm) (ep : Int) (sn path c : Tm) : Bb × Int :=
  if ¬ ArgB st ep sn path then (bzero, 1) else if 64 < c.length then (bzero, 10)
  else if (sealB st path c).2 ≠ 0 then (bzero, 10)
  else if (signB ep sn (sealB st path c).1).2 ≠ 0 then (bzero, 10)
  else (⟨ep, (sealB st path c).1, (signB ep sn (sealB st path c).1).1⟩, 0)
def row (b : Bb) : Tm := putAll [put b.ep.toNat, b.sl, b.sg]
def putB (b : Bb) : Tm × Int := if BR b then (row b, 0) else ([], 1)
def blobOf (l : List Tm) : Bb := ⟨((tk (l.getD 0 [])).1 : Int), l.getD 1 [], l.getD 2 []⟩
def rowOK (l : List Tm) : Prop := (tk (l.getD 0 [])).2.2 = 0 ∧ (tk (l.getD 0 [])).2.1 = [] ∧ (tk (l.getD 0 [])).1 ≤ 7
instance (l : List Tm) : Decidable (rowOK l) := by unfold rowOK; infer_instance
def takeM (m : Int) (s : Tm) : Bb × Int :=
  if (all s 3 m).2 ≠ 0 ∨ (all s 3 m).1.length ≠ 3 then (bzero, 2)
  else if ¬ (rowOK (all s 3 m).1 ∧ BR (blobOf (all s 3 m).1)) then (bzero, 2) else (blobOf (all s 3 m).1, 0)
def takeB (s : Tm) : Bb × Int := takeM 4000 s
def unsealB (st path sl : Tm) : Tm × Int :=
  if (key st).2 ≠ 0 then ([], 7) else
  if (open' (key st).1 sl).2 ≠ 0 then ([], 7) else
  if (open' (key st).1 sl).1.headD 0 ≠ 112 then ([], 7) else
  if (words ((pts (open' (key st).1 sl).1).getD 0 [])).2 ≠ 0 ∨ (words ((pts (open' (key st).1 sl).1).getD 1 [])).2 ≠ 0 then ([], 7) else
  if (words ((pts (open' (key st).1 sl).1).getD 0 [])).1 ≠ path ∨ 64 < (words ((pts (open' (key st).1 sl).1).getD 1 [])).1.length then ([], 7) else
  ((words ((pts (open' (key st).1 sl).1).getD 1 [])).1, 0)
def ArgO (b : Bb) (n : Nat) (st : Tm) (ep : Int) : Prop := BR b ∧ right st = true ∧ (0 ≤ ep ∧ ep ≤ 7) ∧ (n : Int) = ep + 1
instance (b : Bb) (n : Nat) (st : Tm) (ep : Int) : Decidable (ArgO b n st ep) := by unfold ArgO; infer_instance
def openB (b : Bb) (vs : List Tm) (st : Tm) (ep : Int) (path : Tm) : Tm × Int :=
  if ¬ ArgO b vs.length st ep then ([], 1) else
  if ep < b.ep then ([], 7) else
  if (said b.ep b.sl).2 ≠ 0 then ([], 7) else
  if verify (vs.getD b.ep.toNat []) (said b.ep b.sl).1 b.sg ≠ 0 then ([], 7) else
  if (back st (ep - b.ep)).2 ≠ 0 then ([], 7) else
  unsealB (back st (ep - b.ep)).1 path b.sl

/-! ### errors -/
theorem made_two (l : Tm) : (made l).2 = 0 ∨ made l = ([], 10) := by
  unfold made
  split
  · exact .inl rfl
  · exact .inr rfl
theorem two_ten {k : UInt8} {a b : Tm} (ha : right a = true) (hb : right b = true) : (two k a b).2 = 0 ∨ two k a b = ([], 10) := by
  unfold two
  rw [if_pos ⟨ha, hb⟩]
  exact made_two _
theorem key_ten {st : Tm} (h : right st = true) : (key st).2 = 0 ∨ key st = ([], 10) := by
  unfold key
  rw [if_pos h]
  split
  · exact made_two _
  · exact .inr rfl
theorem made_ok {l : Tm} (h : (made l).2 = 0) : right (made l).1 = true ∧ (made l).1 = l := by
  unfold made at h ⊢
  split at h
  · rename_i hr
    rw [if_pos hr]
    exact ⟨hr, rfl⟩
  · cases h
theorem two_ok {k : UInt8} {a b : Tm} (h : (two k a b).2 = 0) : right (two k a b).1 = true ∧ (two k a b).1 = k :: (a ++ b) ∧ right a = true ∧ right b = true := by
  unfold two at h ⊢
  split at h
  · rename_i hr
    rw [if_pos hr]
    exact ⟨(made_ok h).1, (made_ok h).2, hr.1, hr.2⟩
  · cases h
theorem key_ok {st : Tm} (h : (key st).2 = 0) : right (key st).1 = true ∧ (key st).1 = keyh st := by
  unfold key at h ⊢
  split at h
  · rename_i hr
    rw [if_pos hr]
    split at h
    · rename_i h2
      rw [if_pos h2]
      exact made_ok h
    · cases h
  · cases h
theorem back_ok {st : Tm} {k : Int} (h : (back st k).2 = 0) : right (back st k).1 = true ∧ (back st k).1 = hs k.toNat st := by
  unfold back at h ⊢
  split at h
  · rename_i hr
    rw [if_pos hr]
    rcases backN_cases st k.toNat with ⟨h1, h2⟩ | ⟨h1, h2⟩
    · rw [h2]; exact ⟨h1, rfl⟩
    · rw [h2] at h; cases h
  · cases h
theorem kind_is {t : Tm} {k : Nat} (h : kind t = k) (hk : k ≠ 0) : right t = true ∧ (t.headD 0).toNat = k := by
  cases hr : right t with
  | true => rw [kind_right hr] at h; exact ⟨rfl, h⟩
  | false => rw [kind_wrong hr] at h; exact absurd h.symm hk
theorem head_u8 {t : Tm} {k : UInt8} (h : (t.headD 0).toNat = k.toNat) : t.headD 0 = k := UInt8.toNat_inj.1 h
theorem br_sl {b : Bb} (h : BR b) : right b.sl = true ∧ b.sl.headD 0 = 115 := by
  obtain ⟨h1, h2⟩ := kind_is h.2.1 (by decide)
  exact ⟨h1, head_u8 h2⟩
theorem br_sg {b : Bb} (h : BR b) : right b.sg = true ∧ b.sg.headD 0 = 103 := by
  obtain ⟨h1, h2⟩ := kind_is h.2.2 (by decide)
  exact ⟨h1, head_u8 h2⟩
theorem path_len {p : Tm} (h : isPath p = true) : p.length ≤ 257 := by
  unfold isPath at h
  cases hs : Txt.split p with
  | none => rw [hs] at h; cases h
  | some ab =>
    obtain ⟨a, b⟩ := ab
    obtain ⟨h1, h2, h3⟩ := Txt.split_some.1 hs
    have := (Txt.right_len h2).2
    have := (Txt.right_len h3).2
    rw [h1, List.length_append, List.length_cons]
    omega
theorem txtT_right {s : Tm} (h : s.length ≤ 3000) : right (txtT s) = true := ofText_small_right h
theorem txtT_sz (d : Nat) {s : Tm} (h : s.length ≤ 3900) : Sz (d + 1) (txtT s) ∧ (txtT s).length ≤ s.length + 10 := by
  refine ⟨sz_text d h, ?_⟩
  have := (put_le (n := s.length) (by omega)).2
  show (116 :: putText s).length ≤ _
  rw [List.length_cons, putText_len]
  omega
theorem inner_sz (d : Nat) {p c : Tm} (hp : p.length ≤ 257) (hc : c.length ≤ 64) : Sz (d + 2) (inner p c) ∧ (inner p c).length ≤ 342 := by
  have h1 := txtT_sz d (s := p) (by omega)
  have h2 := txtT_sz d (s := c) (by omega)
  refine ⟨sz_two (.inl rfl) h1.1 h2.1, ?_⟩
  unfold inner
  rw [List.length_cons, List.length_append]
  omega
theorem inner_right {p c : Tm} (hp : p.length ≤ 257) (hc : c.length ≤ 64) : right (inner p c) = true := sz_right (inner_sz 0 hp hc).1 (by omega) (by have := (inner_sz 0 hp hc).2; omega)
theorem inner_is {p c : Tm} (hp : p.length ≤ 257) (hc : c.length ≤ 64) : two 112 (txtT p) (txtT c) = (inner p c, 0) := by
  unfold two
  rw [if_pos ⟨txtT_right (by omega), txtT_right (by omega)⟩]
  exact made_yes (inner_right hp hc)
theorem ofText_txt {s : Tm} (h : s.length ≤ 3000) : ofText s = (txtT s, 0) := ofText_small h
theorem sealB_ten (st path c : Tm) : (sealB st path c).2 = 0 ∨ sealB st path c = ([], 10) := by
  unfold sealB
  split
  · exact .inr rfl
  · split
    · exact .inr rfl
    · exact .inl rfl
theorem signB_ten (ep : Int) (sn sl : Tm) : (signB ep sn sl).2 = 0 ∨ signB ep sn sl = ([], 10) := by
  unfold signB
  split
  · exact .inr rfl
  · split
    · exact .inr rfl
    · exact .inl rfl
theorem sealB_ok {st path c : Tm} (h : (sealB st path c).2 = 0) : right (sealB st path c).1 = true ∧ (sealB st path c).1 = 115 :: (keyh st ++ inner path c) := by
  unfold sealB at h ⊢
  split at h
  · cases h
  · rename_i h1
    rw [if_neg h1]
    split at h
    · cases h
    · rename_i h2
      rw [if_neg h2]
      have h3 := two_ok (Decidable.not_not.1 h2)
      refine ⟨h3.1, ?_⟩
      rw [h3.2.1, (key_ok (Decidable.not_not.1 h1)).2]
theorem signB_ok {ep : Int} {sn sl : Tm} (h : (signB ep sn sl).2 = 0) : right (signB ep sn sl).1 = true ∧ (signB ep sn sl).1 = 103 :: (sn ++ (112 :: (ofAtom ep.toNat ++ sl))) := by
  unfold signB at h ⊢
  split at h
  · cases h
  · rename_i h1
    rw [if_neg h1]
    split at h
    · cases h
    · rename_i h2
      rw [if_neg h2]
      have h3 := two_ok (Decidable.not_not.1 h2)
      refine ⟨h3.1, ?_⟩
      rw [h3.2.1]
      unfold said at h1 ⊢
      rw [(two_ok (Decidable.not_not.1 h1)).2.1]

/-! ### bytes -/
theorem ep_put {e : Int} (h0 : 0 ≤ e) (h7 : e ≤ 7) : (put e.toNat).length ≤ 9 ∧ tk (put e.toNat) = (e.toNat, [], 0) := by
  have hn : e.toNat < 18446744073709551616 := by omega
  refine ⟨(put_le hn).2, ?_⟩
  have := take_put hn []
  rw [List.append_nil] at this
  exact tk_some this
theorem all_three {l : List Tm} {m : Nat} (h3 : l.length = 3) (hm : m < 18446744073709551616) (h : ∀ t ∈ l, t.length ≤ m) : all (putAll l) 3 (m : Int) = (l, 0) := by
  have e1 : take (putAll l) = some (l.length, l.flatMap putText) := take_put (by omega) _
  refine all_ok e1 (by rw [h3]; omega) ?_
  have := texts_put l [] (m : Int) [] (fun t ht => ⟨Nat.lt_of_le_of_lt (h t ht) hm, by have := h t ht; omega⟩)
  rw [List.append_nil] at this
  exact this
theorem br_lens {b : Bb} (h : BR b) : b.sl.length ≤ 4000 ∧ b.sg.length ≤ 4000 := ⟨(right_len (br_sl h).1).2, (right_len (br_sg h).1).2⟩
theorem blobOf_row {b : Bb} (h : BR b) : rowOK [put b.ep.toNat, b.sl, b.sg] ∧ blobOf [put b.ep.toNat, b.sl, b.sg] = b := by
  obtain ⟨h1, h2⟩ := ep_put h.1.1 h.1.2
  have e1 : ([put b.ep.toNat, b.sl, b.sg] : List Tm).getD 0 [] = put b.ep.toNat := rfl
  refine ⟨?_, ?_⟩
  · unfold rowOK
    rw [e1, h2]
    exact ⟨rfl, rfl, by have := h.1; show b.ep.toNat ≤ 7; omega⟩
  · unfold blobOf
    rw [e1, h2]
    show (⟨(b.ep.toNat : Int), b.sl, b.sg⟩ : Bb) = b
    rw [show (b.ep.toNat : Int) = b.ep by have := h.1; omega]
theorem takeM_put {b : Bb} (h : BR b) {m : Nat} (hm : m < 18446744073709551616) (h9 : (put b.ep.toNat).length ≤ m) (hsl : b.sl.length ≤ m) (hsg : b.sg.length ≤ m) : takeM (m : Int) (row b) = (b, 0) := by
  obtain ⟨h1, h2⟩ := ep_put h.1.1 h.1.2
  have e1 : all (row b) 3 (m : Int) = ([put b.ep.toNat, b.sl, b.sg], 0) := all_three rfl hm fun t ht => by
    rcases List.mem_cons.1 ht with rfl | ht
    · exact h9
    · rcases List.mem_cons.1 ht with rfl | ht
      · exact hsl
      · rw [List.mem_singleton.1 ht]; exact hsg
  obtain ⟨h3, h4⟩ := blobOf_row h
  unfold takeM
  rw [e1, if_neg (by rintro (h5 | h5); exact h5 rfl; exact h5 rfl), if_neg (by rw [h4]; exact fun h5 => h5 ⟨h3, h⟩), h4]
theorem takeB_put {b : Bb} (h : BR b) : takeB (row b) = (b, 0) := takeM_put (m := 4000) h (by omega) (by have := (ep_put h.1.1 h.1.2).1; omega) (br_lens h).1 (br_lens h).2
theorem takeM_back {m : Int} {s : Tm} {b : Bb} (h : takeM m s = (b, 0)) : BR b ∧ s = row b := by
  unfold takeM at h
  split at h
  · cases h
  · rename_i h1
    have h1' : (all s 3 m).2 = 0 ∧ (all s 3 m).1.length = 3 := ⟨Decidable.not_not.1 fun h => h1 (.inl h), Decidable.not_not.1 fun h => h1 (.inr h)⟩
    split at h
    · cases h
    · rename_i h2
      obtain ⟨h3, h4⟩ := Decidable.not_not.1 h2
      have hb : blobOf (all s 3 m).1 = b := (Prod.mk.inj h).1
      rw [hb] at h4
      refine ⟨h4, ?_⟩
      have h5 : s = putAll (all s 3 m).1 := ((all_back (l := s) (a := 3) (b := m) (x := (all s 3 m).1) (e := (all s 3 m).2) rfl).1 h1'.1).1
      obtain ⟨x, y, z, hx⟩ : ∃ x y z, (all s 3 m).1 = [x, y, z] := by
        match hh : (all s 3 m).1, h1'.2 with
        | [x, y, z], _ => exact ⟨x, y, z, rfl⟩
      rw [hx] at h3 h5 hb
      rw [h5]
      unfold rowOK at h3
      have e1 : ([x, y, z] : List Tm).getD 0 [] = x := rfl
      rw [e1] at h3
      cases ht : take x with
      | none => rw [tk_none ht] at h3; exact absurd h3.1 (by decide)
      | some p =>
        obtain ⟨n, r⟩ := p
        rw [tk_some ht] at h3
        have h6 := take_some ht
        have hr : r = [] := h3.2.1
        subst hr
        rw [List.append_nil] at h6
        unfold blobOf at hb
        rw [e1, tk_some ht] at hb
        subst hb
        unfold row
        show putAll [x, y, z] = putAll [put ((n : Int)).toNat, y, z]
        rw [show ((n : Int)).toNat = n by omega, ← h6.1]
theorem takeM_err {m : Int} {s : Tm} : (takeM m s).2 = 0 ∨ takeM m s = (bzero, 2) := by
  unfold takeM
  split
  · exact .inr rfl
  · split
    · exact .inr rfl
    · exact .inl rfl
theorem mem_flat {t : Tm} : ∀ {l : List Tm}, t ∈ l → (putText t).length ≤ (l.flatMap putText).length
  | x :: l, h => by
    rw [List.flatMap_cons, List.length_append]
    rcases List.mem_cons.1 h with rfl | h
    · omega
    · have := mem_flat h; omega
theorem row_mem {b : Bb} {t : Tm} (h : t ∈ [put b.ep.toNat, b.sl, b.sg]) : t.length ≤ (row b).length := by
  have h1 := mem_flat h
  rw [putText_len] at h1
  unfold row putAll
  rw [List.length_append]
  omega
/-- However long the texts may be, the same bytes are taken. -/
theorem take_same (s : Tm) (hs : s.length < 18446744073709551616) : takeM (s.length : Int) s = takeB s := by
  by_cases h : (takeB s).2 = 0
  · obtain ⟨b, hb⟩ : ∃ b, takeB s = (b, 0) := ⟨(takeB s).1, by rw [← h]⟩
    obtain ⟨h1, h2⟩ := takeM_back hb
    rw [hb]
    conv => lhs; rw [h2]
    rw [h2] at hs
    exact takeM_put h1 hs (row_mem (by simp)) (row_mem (by simp)) (row_mem (by simp))
  · have hn : takeB s = (bzero, 2) := (takeM_err (m := 4000) (s := s)).resolve_left h
    rw [hn]
    rcases takeM_err (m := (s.length : Int)) (s := s) with h1 | h1
    · exfalso
      obtain ⟨b, hb⟩ : ∃ b, takeM (s.length : Int) s = (b, 0) := ⟨(takeM (s.length : Int) s).1, by rw [← h1]⟩
      obtain ⟨h2, h3⟩ := takeM_back hb
      have := takeB_put h2
      rw [← h3] at this
      rw [this] at hn
      exact absurd (congrArg Prod.snd hn) (show ¬ (0 : Int) = 2 by decide)
    · exact h1
end Go.Proofs.YtmmeklemaofmjaaGreat.Dta

/-
  PLAIN FACTS, OF NO PROGRAM: trees of leaves (layer 10): what is over two trees, the tree of a row, the trees beside a way, the tree that is put together of a leaf and its proof. By an AI agent; no person has read it.
-/
namespace Go.Proofs.YtmmeklemaofmjaaGreat.Tre
open Wire Term Draw Reg Clo

abbrev Tm := List UInt8
def leafT (f : Tm) (v : Nat) : Tm × Int := if (ofText f).2 ≠ 0 then ([], (ofText f).2) else two 112 (ofText f).1 (ofAtom v)
def isLeaf (t : Tm) : Bool := decide (kind t = 112) && (decide (((pts t).getD 0 []).headD 0 = 116) && decide (((pts t).getD 1 []).headD 0 = 97))
/-- How many leaves stand in the first one of two trees (of two leaves to eight). -/
def fst (n : Nat) : Nat := if n ≤ 2 then 1 else if n ≤ 4 then 2 else 4
theorem fst_lt {n : Nat} (h1 : 2 ≤ n) (h2 : n ≤ 8) : 0 < fst n ∧ fst n < n := by
  unfold fst
  split
  · omega
  · split <;> omega
def over (a b : Tm) : Tm × Int := if (two 112 a b).2 ≠ 0 then ([], (two 112 a b).2) else one 104 (two 112 a b).1
def treeD : Nat → List Tm → Tm × Int
  | 0, _ => ([], 0)
  | d + 1, l => if l.length = 1 then one 104 (l.headD []) else
    if (treeD d (l.take (fst l.length))).2 ≠ 0 then ([], (treeD d (l.take (fst l.length))).2) else
    if (treeD d (l.drop (fst l.length))).2 ≠ 0 then ([], (treeD d (l.drop (fst l.length))).2) else
    over (treeD d (l.take (fst l.length))).1 (treeD d (l.drop (fst l.length))).1
def root (l : List Tm) : Tm × Int := if l.length < 1 ∨ 8 < l.length then ([], 1) else if ¬ (∀ t ∈ l, isLeaf t = true) then ([], 1) else treeD 4 l
def besideD : Nat → List Tm → Nat → List Tm
  | 0, _, _ => []
  | d + 1, l, i => if l.length = 1 then [] else
    if i < fst l.length then besideD d (l.take (fst l.length)) i ++ [(treeD d (l.drop (fst l.length))).1]
    else besideD d (l.drop (fst l.length)) (i - fst l.length) ++ [(treeD d (l.take (fst l.length))).1]
def proofT (l : List Tm) (i : Int) : List Tm × Int := if (root l).2 ≠ 0 then ([], (root l).2) else if i < 0 ∨ (l.length : Int) ≤ i then ([], 1) else (besideD 4 l i.toNat, 0)
def upD : Nat → Nat → Nat → Tm → List Tm → Tm
  | 0, _, _, _, _ => []
  | d + 1, n, i, t, p => if n = 1 then (if p ≠ [] then [] else (one 104 t).1) else if p = [] then [] else
    if i < fst n then (over (upD d (fst n) i t p.dropLast) (p.getLastD [])).1
    else (over (p.getLastD []) (upD d (n - fst n) (i - fst n) t p.dropLast)).1
def verifyT (r : Tm) (n i : Int) (t : Tm) (p : List Tm) : Bool := decide (1 ≤ n ∧ n ≤ 8 ∧ 0 ≤ i ∧ i < n ∧ isLeaf t = true ∧ right r = true ∧ (∀ x ∈ p, right x = true) ∧ upD 4 n.toNat i.toNat t p = r)

/-! ### over two trees, over one leaf -/
theorem made_or (l : Tm) : (right l = true ∧ made l = (l, 0)) ∨ (right l = false ∧ made l = ([], 10)) := by
  cases h : right l with
  | true => exact .inl ⟨rfl, made_yes h⟩
  | false => exact .inr ⟨rfl, by unfold made; rw [if_neg (by rw [h]; decide)]⟩
theorem one_or (t : Tm) : ((one 104 t).2 = 0 ∧ right t = true ∧ right (104 :: t) = true ∧ one 104 t = (104 :: t, 0)) ∨ ((one 104 t).2 ≠ 0 ∧ (one 104 t).1 = []) := by
  unfold one
  by_cases h : right t = true
  · rw [if_pos h]
    rcases made_or (104 :: t) with ⟨h1, h2⟩ | ⟨_, h2⟩
    · rw [h2]; exact .inl ⟨rfl, h, h1, rfl⟩
    · rw [h2]; exact .inr ⟨by decide, rfl⟩
  · rw [if_neg h]; exact .inr ⟨by decide, rfl⟩
theorem over_or (a b : Tm) : ((over a b).2 = 0 ∧ right a = true ∧ right b = true ∧ right (112 :: (a ++ b)) = true ∧ right (104 :: 112 :: (a ++ b)) = true ∧ over a b = (104 :: 112 :: (a ++ b), 0)) ∨ ((over a b).2 ≠ 0 ∧ (over a b).1 = []) := by
  unfold over two
  by_cases h : right a = true ∧ right b = true
  · rw [if_pos h]
    rcases made_or (112 :: (a ++ b)) with ⟨h1, h2⟩ | ⟨_, h2⟩
    · rw [h2, if_neg (fun h => h rfl)]
      rcases one_or (112 :: (a ++ b)) with ⟨h3, _, h4, h5⟩ | ⟨h3, h4⟩
      · exact .inl ⟨h3, h.1, h.2, h1, h4, h5⟩
      · exact .inr ⟨h3, h4⟩
    · rw [h2, if_pos (show ¬ (10 : Int) = 0 by decide)]
      exact .inr ⟨show ¬ (10 : Int) = 0 by decide, rfl⟩
  · rw [if_neg h, if_pos (show ¬ (1 : Int) = 0 by decide)]
    exact .inr ⟨show ¬ (1 : Int) = 0 by decide, rfl⟩
theorem over_inj {a b a' b' : Tm} (h : (over a b).1 = (over a' b').1) (hn : (over a b).1 ≠ []) : a = a' ∧ b = b' := by
  rcases over_or a b with ⟨_, h1, _, _, _, h2⟩ | ⟨_, h2⟩
  · rcases over_or a' b' with ⟨_, h3, _, _, _, h4⟩ | ⟨_, h4⟩
    · rw [h2, h4] at h
      exact right_cut h1 h3 (List.cons.inj (List.cons.inj h).2).2
    · rw [h4] at h; exact absurd h hn
  · exact absurd h2 hn
theorem over_parts {a b : Tm} (hn : (over a b).1 ≠ []) : a ≠ [] ∧ b ≠ [] := by
  rcases over_or a b with ⟨_, h1, h2, _⟩ | ⟨_, h2⟩
  · exact ⟨(right_iff.1 h1).1, (right_iff.1 h2).1⟩
  · exact absurd h2 hn
theorem one_inj {t t' : Tm} (h : (one 104 t).1 = (one 104 t').1) (hn : (one 104 t).1 ≠ []) : t = t' := by
  rcases one_or t with ⟨_, _, _, h2⟩ | ⟨_, h2⟩
  · rcases one_or t' with ⟨_, _, _, h4⟩ | ⟨_, h4⟩
    · rw [h2, h4] at h
      exact (List.cons.inj h).2
    · rw [h4] at h; exact absurd h hn
  · exact absurd h2 hn

/-! ### what is put together of a leaf and its proof -/
theorem last_eq {p : List Tm} (h : p ≠ []) : p = p.dropLast ++ [p.getLastD []] := by
  have := List.dropLast_concat_getLast h
  conv => lhs; rw [← this]
  rw [List.getLastD_eq_getLast?, List.getLast?_eq_some_getLast h]
  rfl
/-- A tree says which leaf and which proof it is put together of. -/
theorem up_inj : ∀ {d n i : Nat} {t t' : Tm} {p p' : List Tm}, upD d n i t p = upD d n i t' p' → upD d n i t p ≠ [] → t = t' ∧ p = p'
  | 0, _, _, _, _, _, _, _, hn => absurd rfl hn
  | d + 1, n, i, t, t', p, p', h, hn => by
    unfold upD at h hn
    by_cases h1 : n = 1
    · rw [if_pos h1] at h hn
      rw [if_pos h1] at h
      by_cases hp : p = []
      · subst hp
        rw [if_neg (fun h => h rfl)] at h hn
        by_cases hp' : p' = []
        · subst hp'
          rw [if_neg (fun h => h rfl)] at h
          exact ⟨one_inj h hn, rfl⟩
        · rw [if_pos hp'] at h; exact absurd h hn
      · rw [if_pos hp] at hn; exact absurd rfl hn
    · rw [if_neg h1] at h hn
      rw [if_neg h1] at h
      by_cases hp : p = []
      · rw [if_pos hp] at hn; exact absurd rfl hn
      · rw [if_neg hp] at h hn
        by_cases hp' : p' = []
        · rw [if_pos hp'] at h; exact absurd h hn
        · rw [if_neg hp'] at h
          by_cases hi : i < fst n
          · rw [if_pos hi] at h hn
            rw [if_pos hi] at h
            obtain ⟨e1, e2⟩ := over_inj h hn
            obtain ⟨e3, e4⟩ := up_inj e1 (over_parts hn).1
            exact ⟨e3, by rw [last_eq hp, last_eq hp', e4, e2]⟩
          · rw [if_neg hi] at h hn
            rw [if_neg hi] at h
            obtain ⟨e1, e2⟩ := over_inj h hn
            obtain ⟨e3, e4⟩ := up_inj e2 (over_parts hn).2
            exact ⟨e3, by rw [last_eq hp, last_eq hp', e4, e1]⟩
theorem treeD_succ (d : Nat) (l : List Tm) : treeD (d + 1) l = if l.length = 1 then one 104 (l.headD []) else
    if (treeD d (l.take (fst l.length))).2 ≠ 0 then ([], (treeD d (l.take (fst l.length))).2) else
    if (treeD d (l.drop (fst l.length))).2 ≠ 0 then ([], (treeD d (l.drop (fst l.length))).2) else
    over (treeD d (l.take (fst l.length))).1 (treeD d (l.drop (fst l.length))).1 := rfl
theorem besideD_succ (d : Nat) (l : List Tm) (i : Nat) : besideD (d + 1) l i = if l.length = 1 then [] else
    if i < fst l.length then besideD d (l.take (fst l.length)) i ++ [(treeD d (l.drop (fst l.length))).1]
    else besideD d (l.drop (fst l.length)) (i - fst l.length) ++ [(treeD d (l.take (fst l.length))).1] := rfl
theorem upD_succ (d n i : Nat) (t : Tm) (p : List Tm) : upD (d + 1) n i t p = if n = 1 then (if p ≠ [] then [] else (one 104 t).1) else if p = [] then [] else
    if i < fst n then (over (upD d (fst n) i t p.dropLast) (p.getLastD [])).1
    else (over (p.getLastD []) (upD d (n - fst n) (i - fst n) t p.dropLast)).1 := rfl
/-- A row of more than one: both its trees, and what is over them. -/
theorem tree_two {d : Nat} {l : List Tm} (hl : ¬ l.length = 1) (h0 : (treeD (d + 1) l).2 = 0) : (treeD d (l.take (fst l.length))).2 = 0 ∧ (treeD d (l.drop (fst l.length))).2 = 0 ∧ treeD (d + 1) l = over (treeD d (l.take (fst l.length))).1 (treeD d (l.drop (fst l.length))).1 := by
  rw [treeD_succ, if_neg hl] at h0 ⊢
  by_cases ha : (treeD d (l.take (fst l.length))).2 = 0
  · rw [if_neg (fun h => h ha)] at h0 ⊢
    by_cases hb : (treeD d (l.drop (fst l.length))).2 = 0
    · rw [if_neg (fun h => h hb)]
      exact ⟨ha, hb, rfl⟩
    · rw [if_pos hb] at h0; exact absurd h0 hb
  · rw [if_pos ha] at h0; exact absurd h0 ha
/-- A leaf and the trees beside its way make the row's tree. -/
theorem up_beside : ∀ {d : Nat} {l : List Tm} {i : Nat}, 1 ≤ l.length → l.length ≤ 8 → i < l.length → (treeD d l).2 = 0 → upD d l.length i (l.getD i []) (besideD d l i) = (treeD d l).1
  | 0, _, _, _, _, _, _ => rfl
  | d + 1, l, i, h1, h8, hi, h0 => by
    by_cases hl : l.length = 1
    · rw [upD_succ, besideD_succ, treeD_succ, if_pos hl, if_pos hl, if_pos hl, if_neg (fun h => h rfl)]
      obtain rfl : i = 0 := by omega
      cases l with
      | nil => exact absurd h1 (by decide)
      | cons x t => rfl
    · obtain ⟨k0, k1⟩ := fst_lt (n := l.length) (by omega) h8
      obtain ⟨ha, hb, e0⟩ := tree_two hl h0
      have ltk : (l.take (fst l.length)).length = fst l.length := by rw [List.length_take]; omega
      have ldr : (l.drop (fst l.length)).length = l.length - fst l.length := List.length_drop
      rw [upD_succ, besideD_succ, e0, if_neg hl, if_neg hl]
      by_cases hk : i < fst l.length
      · rw [if_pos hk, if_pos hk, if_neg (by simp)]
        have e := up_beside (d := d) (l := l.take (fst l.length)) (i := i) (by omega) (by omega) (by omega) ha
        rw [ltk] at e
        have e2 : (l.take (fst l.length)).getD i [] = l.getD i [] := by simp [List.getD, hk]
        rw [e2] at e
        simp only [List.dropLast_concat, List.getLastD_concat]
        rw [e]
      · rw [if_neg hk, if_neg hk, if_neg (by simp)]
        have e := up_beside (d := d) (l := l.drop (fst l.length)) (i := i - fst l.length) (by omega) (by omega) (by omega) hb
        rw [ldr] at e
        have e2 : (l.drop (fst l.length)).getD (i - fst l.length) [] = l.getD i [] := by simp [List.getD, List.getElem?_drop, show fst l.length + (i - fst l.length) = i by omega]
        rw [e2] at e
        simp only [List.dropLast_concat, List.getLastD_concat]
        rw [e]

/-! ### a tree says which row it is the tree of -/
theorem leaf_right {t : Tm} (h : isLeaf t = true) : right t = true ∧ t.headD 0 = 112 := by
  unfold isLeaf at h
  simp only [Bool.and_eq_true, decide_eq_true_eq] at h
  cases hr : right t with
  | false => rw [kind_wrong hr] at h; exact absurd h.1 (by decide)
  | true =>
    refine ⟨rfl, UInt8.toNat_inj.1 ?_⟩
    have := h.1
    rw [kind_right hr] at this
    exact this
theorem leaf_parts {t : Tm} (h : isLeaf t = true) : ∃ x y, right x = true ∧ x.headD 0 = 116 ∧ t = 112 :: (x ++ y) := by
  obtain ⟨hr, h112⟩ := leaf_right h
  unfold isLeaf at h
  simp only [Bool.and_eq_true, decide_eq_true_eq] at h
  cases t with
  | nil => exact absurd h112 (by decide)
  | cons b t =>
    have hb : b = 112 := h112
    subst hb
    obtain ⟨x, y, e1, e2, e3, _, _⟩ := pts_two hr (.inl rfl)
    subst e1
    refine ⟨x, y, e3, ?_, rfl⟩
    have := h.2.1
    rw [e2] at this
    exact this
theorem tree_head : ∀ {d : Nat} {l : List Tm} {x : Tm}, treeD d l = (x, 0) → d ≠ 0 → x.headD 0 = 104 ∧ right x = true
  | 0, _, _, _, h => absurd rfl h
  | d + 1, l, x, h, _ => by
    by_cases hl : l.length = 1
    · rw [treeD_succ, if_pos hl] at h
      rcases one_or (l.headD []) with ⟨_, _, h2, h3⟩ | ⟨h2, _⟩
      · rw [h3] at h; rw [← (Prod.mk.inj h).1]; exact ⟨rfl, h2⟩
      · rw [h] at h2; exact absurd rfl h2
    · obtain ⟨_, _, e0⟩ := tree_two hl (by rw [h])
      rw [h] at e0
      rcases over_or (treeD d (l.take (fst l.length))).1 (treeD d (l.drop (fst l.length))).1 with ⟨_, _, _, _, h2, h3⟩ | ⟨h2, _⟩
      · rw [h3] at e0; rw [(Prod.mk.inj e0).1]; exact ⟨rfl, h2⟩
      · rw [← e0] at h2; exact absurd rfl h2
theorem two_one {d : Nat} {l l' : List Tm} {x : Tm} (hl' : ∀ t ∈ l', isLeaf t = true) (h1 : l'.length = 1) (h2 : ¬ l.length = 1) (e1 : treeD (d + 1) l = (x, 0)) (e2 : treeD (d + 1) l' = (x, 0)) : False := by
  obtain ⟨ha, hb, e0⟩ := tree_two h2 (by rw [e1])
  rw [e1] at e0
  rw [treeD_succ, if_pos h1] at e2
  obtain ⟨a, rfl⟩ : ∃ a, l' = [a] := List.length_eq_one_iff.1 h1
  obtain ⟨u, v, hu, h116, ha2⟩ := leaf_parts (hl' a (by simp))
  rcases one_or a with ⟨_, _, _, h3⟩ | ⟨h3, _⟩
  · have e3 : one 104 a = (x, 0) := e2
    rw [h3] at e3
    rcases over_or (treeD d (l.take (fst l.length))).1 (treeD d (l.drop (fst l.length))).1 with ⟨_, g1, _, _, _, g3⟩ | ⟨g3, _⟩
    · rw [g3, ← (Prod.mk.inj e3).1, ha2] at e0
      have e4 := (List.cons.inj (List.cons.inj (Prod.mk.inj e0).1).2).2
      obtain ⟨e5, _⟩ := right_cut hu g1 e4
      have hd : d ≠ 0 := fun h => by
        subst h
        exact absurd (show right ([] : Tm) = true from g1) (by decide)
      have := (tree_head (d := d) (l := l.take (fst l.length)) (x := (treeD d (l.take (fst l.length))).1) (Prod.ext rfl ha) hd).1
      rw [← e5, h116] at this
      exact absurd this (by decide)
    · rw [← e0] at g3; exact absurd rfl g3
  · have e3 : one 104 a = (x, 0) := e2
    rw [e3] at h3; exact absurd rfl h3
/-- Rows of leaves with one tree are one row. -/
theorem tree_inj : ∀ {d : Nat} {l l' : List Tm} {x : Tm}, (∀ t ∈ l, isLeaf t = true) → (∀ t ∈ l', isLeaf t = true) → 1 ≤ l.length → l.length ≤ 8 → 1 ≤ l'.length → l'.length ≤ 8 → treeD (d + 1) l = (x, 0) → treeD (d + 1) l' = (x, 0) → l = l' := by
  intro d
  induction d with
  | zero =>
    intro l l' x hl hl' h1 h8 h1' h8' e1 e2
    by_cases c1 : l.length = 1
    · by_cases c2 : l'.length = 1
      · obtain ⟨a, rfl⟩ := List.length_eq_one_iff.1 c1
        obtain ⟨b, rfl⟩ := List.length_eq_one_iff.1 c2
        rw [treeD_succ, if_pos c1] at e1
        rw [treeD_succ, if_pos c2] at e2
        have e3 : (one 104 a).1 = (one 104 b).1 := by
          have e4 : one 104 a = (x, 0) := e1
          have e5 : one 104 b = (x, 0) := e2
          rw [e4, e5]
        rw [one_inj e3 (fun h => by
          rcases one_or a with ⟨_, _, _, h3⟩ | ⟨h3, _⟩
          · rw [h3] at h; cases h
          · have e4 : one 104 a = (x, 0) := e1
            rw [e4] at h3; exact absurd rfl h3)]
      · exact (two_one hl c1 c2 e2 e1).elim
    · by_cases c2 : l'.length = 1
      · exact (two_one hl' c2 c1 e1 e2).elim
      · obtain ⟨_, _, e0⟩ := tree_two c1 (by rw [e1])
        rcases over_or (treeD 0 (l.take (fst l.length))).1 (treeD 0 (l.drop (fst l.length))).1 with ⟨_, g1, _⟩ | ⟨g3, _⟩
        · exact absurd g1 (show ¬ right [] = true by decide)
        · rw [← e0, e1] at g3; exact absurd rfl g3
  | succ d ih =>
    intro l l' x hl hl' h1 h8 h1' h8' e1 e2
    by_cases c1 : l.length = 1
    · by_cases c2 : l'.length = 1
      · obtain ⟨a, rfl⟩ := List.length_eq_one_iff.1 c1
        obtain ⟨b, rfl⟩ := List.length_eq_one_iff.1 c2
        rw [treeD_succ, if_pos c1] at e1
        rw [treeD_succ, if_pos c2] at e2
        have e3 : (one 104 a).1 = (one 104 b).1 := by
          have e4 : one 104 a = (x, 0) := e1
          have e5 : one 104 b = (x, 0) := e2
          rw [e4, e5]
        rw [one_inj e3 (fun h => by
          rcases one_or a with ⟨_, _, _, h3⟩ | ⟨h3, _⟩
          · rw [h3] at h; cases h
          · have e4 : one 104 a = (x, 0) := e1
            rw [e4] at h3; exact absurd rfl h3)]
      · exact (two_one hl c1 c2 e2 e1).elim
    · by_cases c2 : l'.length = 1
      · exact (two_one hl' c2 c1 e1 e2).elim
      · obtain ⟨ha, hb, e0⟩ := tree_two c1 (by rw [e1])
        obtain ⟨ha', hb', e0'⟩ := tree_two c2 (by rw [e2])
        obtain ⟨k0, k1⟩ := fst_lt (n := l.length) (by omega) h8
        obtain ⟨k0', k1'⟩ := fst_lt (n := l'.length) (by omega) h8'
        rw [e1] at e0
        rw [e2] at e0'
        have hne : (over (treeD (d + 1) (l.take (fst l.length))).1 (treeD (d + 1) (l.drop (fst l.length))).1).1 ≠ [] := fun h => by
          rcases over_or (treeD (d + 1) (l.take (fst l.length))).1 (treeD (d + 1) (l.drop (fst l.length))).1 with ⟨_, _, _, _, _, g3⟩ | ⟨g3, _⟩
          · rw [g3] at h; cases h
          · rw [← e0] at g3; exact absurd rfl g3
        obtain ⟨e3, e4⟩ := over_inj (congrArg Prod.fst (e0.symm.trans e0')) hne
        have lt1 : (l.take (fst l.length)).length = fst l.length := by rw [List.length_take]; omega
        have lt2 : (l'.take (fst l'.length)).length = fst l'.length := by rw [List.length_take]; omega
        have ld1 : (l.drop (fst l.length)).length = l.length - fst l.length := List.length_drop
        have ld2 : (l'.drop (fst l'.length)).length = l'.length - fst l'.length := List.length_drop
        have r1 := ih (l := l.take (fst l.length)) (l' := l'.take (fst l'.length)) (x := (treeD (d + 1) (l.take (fst l.length))).1) (fun t ht => hl t (List.mem_of_mem_take ht)) (fun t ht => hl' t (List.mem_of_mem_take ht)) (by omega) (by omega) (by omega) (by omega) (Prod.ext rfl ha) (Prod.ext e3.symm ha')
        have r2 := ih (l := l.drop (fst l.length)) (l' := l'.drop (fst l'.length)) (x := (treeD (d + 1) (l.drop (fst l.length))).1) (fun t ht => hl t (List.mem_of_mem_drop ht)) (fun t ht => hl' t (List.mem_of_mem_drop ht)) (by omega) (by omega) (by omega) (by omega) (Prod.ext rfl hb) (Prod.ext e4.symm hb')
        rw [← List.take_append_drop (fst l.length) l, ← List.take_append_drop (fst l'.length) l', r1, r2]
end Go.Proofs.YtmmeklemaofmjaaGreat.Tre

/-
  PLAIN FACTS, OF NO PROGRAM: leaves of files; trees of small leaves are no error; a proof proves its leaf alone. By an AI agent; no person has read it.
-/
namespace Go.Proofs.YtmmeklemaofmjaaGreat.Tre
open Wire Term Draw Reg Clo

set_option linter.unusedVariables false
theorem sz_text (d : Nat) {s : List UInt8} (h : s.length ≤ 3900) : Sz (d + 1) (116 :: putText s) := by
  refine ⟨List.cons_ne_nil _ _, ?_⟩
  have h1 : text (putText s) 4000 = (s, [], 0) := by
    have := text_put (t := s) (by omega) [] 4000 (by omega)
    rw [List.append_nil] at this
    exact this
  show up (body (size d) 116 (putText s)) = _
  have h2 : body (size d) 116 (putText s) = some (putText s).length := by
    show leaf 116 (putText s) = _
    unfold leaf
    rw [if_neg (by decide), h1, if_pos rfl]
    rfl
  rw [h2]
  simp only [up, List.length_cons]; omega
theorem sz_text1 {f : Tm} (hf : f.length ≤ 100) : Sz 1 (116 :: putText f) := sz_text 0 (by omega)
/-- A file's leaf. -/
def lf (f : Tm) (v : Nat) : Tm := 112 :: (116 :: putText f ++ ofAtom v)
theorem lf_sz {f : Tm} {v : Nat} (hf : f.length ≤ 100) (hv : v < 18446744073709551616) : Sz 2 (lf f v) ∧ (lf f v).length ≤ f.length + 21 := by
  have h1 : Sz 1 (116 :: putText f) := sz_text1 hf
  refine ⟨sz_pair h1 (sz_atom 0 hv), ?_⟩
  have h2 := (put_le hv).2
  have h3 := (put_le (n := f.length) (by omega)).2
  unfold lf ofAtom
  rw [List.length_cons, List.length_append, List.length_cons, List.length_cons, putText_len]
  omega
theorem lf_right {f : Tm} {v : Nat} (hf : f.length ≤ 100) (hv : v < 18446744073709551616) : right (lf f v) = true := sz_right (lf_sz hf hv).1 (by omega) (by have := (lf_sz hf hv).2; omega)
theorem leafT_is {f : Tm} {v : Nat} (hf : f.length ≤ 100) (hv : v < 18446744073709551616) : leafT f v = (lf f v, 0) := by
  unfold leafT
  rw [ofText_small (by omega), if_neg (fun h => h rfl)]
  unfold two
  rw [if_pos ⟨ofText_small_right (by omega), atom_ok hv⟩]
  exact made_yes (lf_right hf hv)
theorem lf_pts {f : Tm} {v : Nat} (hf : f.length ≤ 100) (hv : v < 18446744073709551616) : pts (lf f v) = [116 :: putText f, ofAtom v] := by
  obtain ⟨x, y, e1, e2, e3, _, _⟩ := pts_two (lf_right hf hv) (.inl rfl)
  obtain ⟨e5, e6⟩ := right_cut (ofText_small_right (s := f) (by omega)) e3 e1
  show pts (112 :: (116 :: putText f ++ ofAtom v)) = _
  rw [e2, ← e5, ← e6]
theorem lf_leaf {f : Tm} {v : Nat} (hf : f.length ≤ 100) (hv : v < 18446744073709551616) : isLeaf (lf f v) = true := by
  unfold isLeaf
  rw [kind_right (lf_right hf hv), lf_pts hf hv]
  rfl
theorem lf_inj {f g : Tm} {v u : Nat} (hf : f.length ≤ 100) (hg : g.length ≤ 100) (hv : v < 18446744073709551616) (hu : u < 18446744073709551616) (h : lf f v = lf g u) : f = g ∧ v = u := by
  have e1 := (List.cons.inj h).2
  obtain ⟨e2, e3⟩ := right_cut (ofText_small_right (s := f) (by omega)) (ofText_small_right (s := g) (by omega)) e1
  have e4 : put f.length ++ f = put g.length ++ g := (List.cons.inj e2).2
  refine ⟨(put_inj (by omega) (by omega) e4).2, ?_⟩
  exact (put_inj hv hu (r := []) (q := []) (by rw [List.append_nil, List.append_nil]; exact (List.cons.inj e3).2)).1
theorem fst_half {n d : Nat} (h1 : 2 ≤ n) (hd : d ≤ 2) (h : n ≤ 2 ^ (d + 1)) : fst n ≤ 2 ^ d ∧ n - fst n ≤ 2 ^ d ∧ n ≤ 8 ∧ 2 ^ (d + 1) = 2 * 2 ^ d ∧ 2 ^ d ≤ 4 := by
  have h8 : n ≤ 8 := Nat.le_trans h (by
    have : d = 0 ∨ d = 1 ∨ d = 2 := by omega
    rcases this with rfl | rfl | rfl <;> decide)
  have hn : n = 2 ∨ n = 3 ∨ n = 4 ∨ n = 5 ∨ n = 6 ∨ n = 7 ∨ n = 8 := by omega
  have hdd : d = 0 ∨ d = 1 ∨ d = 2 := by omega
  rcases hdd with rfl | rfl | rfl <;> rcases hn with rfl | rfl | rfl | rfl | rfl | rfl | rfl <;> first | decide | exact absurd h (by decide)
theorem over_is {x y : Tm} (hx : right x = true) (hy : right y = true) (h1 : right (112 :: (x ++ y)) = true) (h2 : right (104 :: 112 :: (x ++ y)) = true) : over x y = (104 :: 112 :: (x ++ y), 0) := by
  have e : two 112 x y = (112 :: (x ++ y), 0) := by
    unfold two
    rw [if_pos ⟨hx, hy⟩]
    exact made_yes h1
  unfold over
  rw [e, if_neg (fun h => h rfl)]
  unfold one
  rw [if_pos h1]
  exact made_yes h2
theorem one_is {a : Tm} (s1 : Sz 2 a) (s2 : a.length ≤ 121) : one 104 a = (104 :: a, 0) := by
  have s3 : Sz 3 (104 :: a) := sz_one (.inl rfl) s1
  unfold one
  rw [if_pos (sz_right s1 (by omega) (by omega))]
  exact made_yes (sz_right s3 (by omega) (by rw [List.length_cons]; omega))
/-- Trees of small leaves are no error. -/
theorem tree_small : ∀ {d : Nat} {l : List Tm}, d ≤ 3 → 1 ≤ l.length → l.length ≤ 2 ^ d → (∀ t ∈ l, Sz 2 t ∧ t.length ≤ 121) → ∃ x, treeD (d + 1) l = (x, 0) ∧ Sz (3 + 2 * d) x ∧ x.length + 2 ≤ 2 ^ d * 124
  | 0, l, _, h1, h2, hl => by
    have h1' : l.length = 1 := by omega
    obtain ⟨a, rfl⟩ := List.length_eq_one_iff.1 h1'
    obtain ⟨s1, s2⟩ := hl a (by simp)
    refine ⟨104 :: a, ?_, sz_one (.inl rfl) s1, by rw [List.length_cons]; omega⟩
    rw [treeD_succ, if_pos h1']
    exact one_is s1 s2
  | d + 1, l, hd, h1, h2, hl => by
    by_cases h1' : l.length = 1
    · obtain ⟨a, rfl⟩ := List.length_eq_one_iff.1 h1'
      obtain ⟨s1, s2⟩ := hl a (by simp)
      refine ⟨104 :: a, ?_, sz_up (sz_one (.inl rfl) s1) (by omega), ?_⟩
      · rw [treeD_succ, if_pos h1']
        exact one_is s1 s2
      · have : 1 ≤ 2 ^ (d + 1) := Nat.one_le_two_pow
        rw [List.length_cons]; omega
    · obtain ⟨p1, p2, p3, p4, p5⟩ := fst_half (n := l.length) (d := d) (by omega) (by omega) h2
      obtain ⟨k0, k1⟩ := fst_lt (n := l.length) (by omega) p3
      have lt1 : (l.take (fst l.length)).length = fst l.length := by rw [List.length_take]; omega
      have ld1 : (l.drop (fst l.length)).length = l.length - fst l.length := List.length_drop
      obtain ⟨x, ex, sx, lx⟩ := tree_small (d := d) (l := l.take (fst l.length)) (by omega) (by omega) (by omega) (fun t ht => hl t (List.mem_of_mem_take ht))
      obtain ⟨y, ey, sy, ly⟩ := tree_small (d := d) (l := l.drop (fst l.length)) (by omega) (by omega) (by omega) (fun t ht => hl t (List.mem_of_mem_drop ht))
      have s1 : Sz (3 + 2 * d + 1) (112 :: (x ++ y)) := sz_pair sx sy
      have s2 : Sz (3 + 2 * d + 1 + 1) (104 :: 112 :: (x ++ y)) := sz_one (.inl rfl) s1
      have l1 : (112 :: (x ++ y) : Tm).length = x.length + y.length + 1 := by rw [List.length_cons, List.length_append]
      have l2 : (104 :: 112 :: (x ++ y) : Tm).length = x.length + y.length + 2 := by rw [List.length_cons, l1]
      refine ⟨104 :: 112 :: (x ++ y), ?_, sz_up s2 (by omega), by rw [l2]; omega⟩
      rw [treeD_succ, if_neg h1', ex, ey, if_neg (fun h => h rfl), if_neg (fun h => h rfl)]
      show over x y = _
      exact over_is (sz_right sx (by omega) (by omega)) (sz_right sy (by omega) (by omega)) (sz_right s1 (by omega) (by rw [l1]; omega)) (sz_right s2 (by omega) (by rw [l2]; omega))
/-- The tree of up to eight small leaves. -/
theorem root_small {l : List Tm} (h1 : 1 ≤ l.length) (h8 : l.length ≤ 8) (hl : ∀ t ∈ l, Sz 2 t ∧ t.length ≤ 121) (hf : ∀ t ∈ l, isLeaf t = true) : ∃ x, root l = (x, 0) ∧ treeD 4 l = (x, 0) ∧ right x = true ∧ x.headD 0 = 104 := by
  obtain ⟨x, e, s, hlen⟩ := tree_small (d := 3) (by omega) h1 h8 hl
  refine ⟨x, ?_, e, sz_right s (by omega) (by omega), (tree_head e (by omega)).1⟩
  unfold root
  rw [if_neg (by omega), if_neg (fun h => h hf)]
  exact e
/-- The trees beside a way are right terms, few of them. -/
theorem beside_right : ∀ {d : Nat} {l : List Tm} {i : Nat}, 1 ≤ l.length → l.length ≤ 8 → i < l.length → (treeD (d + 1) l).2 = 0 → ∀ x ∈ besideD (d + 1) l i, right x = true := by
  intro d
  induction d with
  | zero =>
    intro l i h1 h8 hi h0 x hx
    by_cases hl : l.length = 1
    · rw [besideD_succ, if_pos hl] at hx; cases hx
    · obtain ⟨_, _, e0⟩ := tree_two hl h0
      rcases over_or (treeD 0 (l.take (fst l.length))).1 (treeD 0 (l.drop (fst l.length))).1 with ⟨_, g1, _⟩ | ⟨g3, _⟩
      · exact absurd (show right ([] : Tm) = true from g1) (by decide)
      · rw [← e0] at g3; exact absurd h0 g3
  | succ d ih =>
    intro l i h1 h8 hi h0 x hx
    by_cases hl : l.length = 1
    · rw [besideD_succ, if_pos hl] at hx; cases hx
    · obtain ⟨ha, hb, _⟩ := tree_two hl h0
      obtain ⟨k0, k1⟩ := fst_lt (n := l.length) (by omega) h8
      have lt1 : (l.take (fst l.length)).length = fst l.length := by rw [List.length_take]; omega
      have ld1 : (l.drop (fst l.length)).length = l.length - fst l.length := List.length_drop
      rw [besideD_succ, if_neg hl] at hx
      by_cases hk : i < fst l.length
      · rw [if_pos hk] at hx
        rcases List.mem_append.1 hx with h | h
        · exact ih (by omega) (by omega) (by omega) ha x h
        · rw [List.mem_singleton.1 h]; exact (tree_head (Prod.ext rfl hb) (by omega)).2
      · rw [if_neg hk] at hx
        rcases List.mem_append.1 hx with h | h
        · exact ih (by omega) (by omega) (by omega) hb x h
        · rw [List.mem_singleton.1 h]; exact (tree_head (Prod.ext rfl ha) (by omega)).2
/-- Each leaf is proved at its place. -/
theorem verify_yes {l : List Tm} {r : Tm} {i : Nat} (h1 : 1 ≤ l.length) (h8 : l.length ≤ 8) (hi : i < l.length) (hf : ∀ t ∈ l, isLeaf t = true) (h : treeD 4 l = (r, 0)) : verifyT r (l.length : Int) (i : Int) (l.getD i []) (besideD 4 l i) = true := by
  unfold verifyT
  rw [decide_eq_true_eq]
  refine ⟨by omega, by omega, by omega, by omega, hf _ (by rw [List.getD, List.getElem?_eq_getElem hi]; exact List.getElem_mem hi), (tree_head h (by omega)).2, beside_right h1 h8 hi (by rw [h]), ?_⟩
  rw [show ((l.length : Int)).toNat = l.length by omega, show ((i : Int)).toNat = i by omega, up_beside h1 h8 hi (by rw [h]), h]
/-- .. and nothing else is, with no other proof. -/
theorem verify_only {l : List Tm} {r t : Tm} {i : Nat} {p : List Tm} (h1 : 1 ≤ l.length) (h8 : l.length ≤ 8) (hi : i < l.length) (h : treeD 4 l = (r, 0)) (hv : verifyT r (l.length : Int) (i : Int) t p = true) : t = l.getD i [] ∧ p = besideD 4 l i := by
  unfold verifyT at hv
  rw [decide_eq_true_eq] at hv
  have e := hv.2.2.2.2.2.2.2
  rw [show ((l.length : Int)).toNat = l.length by omega, show ((i : Int)).toNat = i by omega] at e
  have e2 := up_beside h1 h8 hi (by rw [h])
  rw [h] at e2
  have e3 : upD 4 l.length i t p = upD 4 l.length i (l.getD i []) (besideD 4 l i) := by rw [e, e2]
  refine up_inj e3 ?_
  rw [e]
  exact (right_iff.1 (tree_head h (by omega)).2).1
end Go.Proofs.YtmmeklemaofmjaaGreat.Tre

/-
  THE DOCUMENT's ANSWER (letterlockref10): over, Leaf, first, tree. By an AI agent; no person has read it.
-/
namespace Go.Proofs.YtmmeklemaofmjaaGreat.Tre
open Go.RowKit Wire Term Draw Reg Clo

set_option linter.unusedSimpArgs false
set_option linter.unusedVariables false
theorem belc {w w1 w2 : World} (h1 : Below w.heap.size w w1) (h2 : Below w1.heap.size w1 w2) : Below w.heap.size w w2 := h1.trans (h2.mono h1.size)
theorem two_len {a b x : Tm} {k : UInt8} {f : Int} (h : two k a b = (x, f)) : x.length ≤ 4000 := by
  unfold two at h
  split at h
  · rcases made_or (k :: (a ++ b)) with ⟨h1, h2⟩ | ⟨_, h2⟩
    · rw [h2] at h; rw [← (Prod.mk.inj h).1]; exact (right_len h1).2
    · rw [h2] at h; rw [← (Prod.mk.inj h).1]; decide
  · rw [← (Prod.mk.inj h).1]; decide
theorem ofText_len {s x : Tm} {f : Int} (h : ofText s = (x, f)) : x.length ≤ 4000 := by
  unfold ofText at h
  rcases made_or (116 :: putText s) with ⟨h1, h2⟩ | ⟨_, h2⟩
  · rw [h2] at h; rw [← (Prod.mk.inj h).1]; exact (right_len h1).2
  · rw [h2] at h; rw [← (Prod.mk.inj h).1]; decide
set_option maxHeartbeats 2000000 in
set_option maxRecDepth 1000000 in
theorem rover_any (a b : ByteArray) (w : World) (ha : a.size ≤ 140737488355328) (hb : b.size ≤ 140737488355328) :
    Calls Tryz.prog 86 #[.string a, .string b] w fun e w' => Sr (over a.data.toList b.data.toList) e ∧ Below w.heap.size w w' := by
  have HP := Lib.hid fun w => ofPair_any a b w ha hb
  obtain ⟨x, f, hx⟩ : ∃ x f, two 112 a.data.toList b.data.toList = (x, f) := ⟨_, _, rfl⟩
  generalize ho : over a.data.toList b.data.toList = o
  unfold over at ho
  rw [hx] at ho HP
  have hl := two_len hx
  have HH : Hid (∀ (T : ByteArray) (w : World), T.data.toList = x → Calls Tryz.prog 76 #[.string T] w fun e w' => Sr (one 104 x) e ∧ Below w.heap.size w w') := Lib.hid fun T w hT => by
    have := ofHash_any T w (by rw [Lib.size_eq, hT]; omega)
    rw [hT] at this
    exact this
  clear hx hl
  by_cases hf : f = 0
  · subst hf
    rw [if_neg (fun h => h rfl)] at ho
    rw [ho] at HH
    obtain ⟨ol, of⟩ := o
    clear ho
    go_enter Tryz.func86, Tryz.ntmps86
    go_wp2_with fail
    with_reducible refine (HP.out _).mono ?_
    rintro e w1 ⟨⟨T, hT, rfl⟩, hb1⟩
    try dsimp only at hT
    have HT := Lib.hid hT
    have HB1 := Lib.hid hb1
    clear hT hb1
    dsimp only
    go_wp2_with fail
    with_reducible refine (HH.out T _ HT.out).mono ?_
    rintro e w2 ⟨⟨U, hU, rfl⟩, hb2⟩
    try dsimp only at hU
    have HU := Lib.hid hU
    have HB2 := Lib.hid (belc HB1.out hb2)
    clear hU hb2
    dsimp only
    go_wp2
    go_ret2
    exact ⟨⟨U, HU.out, rfl⟩, HB2.out⟩
  · rw [if_pos hf] at ho
    have HO := Lib.hid ho
    have hfb : (f == 0) = false := by simpa using hf
    have hfb2 : (f != 0) = true := by simpa using hf
    clear ho hf
    go_enter Tryz.func86, Tryz.ntmps86
    go_wp2_with fail
    with_reducible refine (HP.out _).mono ?_
    rintro e w1 ⟨⟨T, hT, rfl⟩, hb1⟩
    try dsimp only at hT
    have HT := Lib.hid hT
    have HB1 := Lib.hid hb1
    clear hT hb1
    dsimp only
    go_wp2
    go_ret2
    exact ⟨by rw [← HO.out]; exact ⟨⟨#[]⟩, rfl, rfl⟩, HB1.out⟩
set_option maxHeartbeats 2000000 in
set_option maxRecDepth 1000000 in
theorem rfirst_any (n : Nat) (w : World) (h1 : 2 ≤ n) (h8 : n ≤ 8) : Calls Tryz.prog 85 #[.int .i64 (n : Int)] w fun e w' => e = .returned (.int .i64 (fst n : Int)) ∧ w' = w := by
  have HF : Hid (∀ k, (k = 1 ∨ k = 2 ∨ k = 4) → (k = 1 ∨ k < n) → ¬ 2 * k < n → k = fst n) := Lib.hid fun k h2 h3 h4 => by
    unfold fst
    split
    · omega
    · split <;> omega
  go_enter Tryz.func85, Tryz.ntmps85
  go_wp2_with fail
  go_loopw [3] (fun i wr => ∃ k : Nat, (k = 1 ∨ k = 2 ∨ k = 4) ∧ (k = 1 ∨ k < n) ∧ i = .int .i64 k ∧ wr = w) (fun i _ => 8 - (intOf i).toNat)
  case atStart => exact ⟨1, .inl rfl, .inl rfl, rfl, rfl⟩
  case round =>
    obtain ⟨k, hk, hk2, rfl, rfl⟩ := hrel
    have hw2 : IntKind.i64.wrap (2 * (k : Int)) = 2 * (k : Int) := by rw [IntKind.wrap_i64]; omega
    by_cases hlt : 2 * k < n
    · have hlt2 : 2 * (k : Int) < (n : Int) := by omega
      go_wp2
      go_roundw
      case rel => exact ⟨2 * k, by omega, by omega, by go_num, trivial⟩
      case measure => simp [intOf]; omega
    · have hlt2 : ¬ 2 * (k : Int) < (n : Int) := by omega
      have e := HF.out k hk hk2 hlt
      clear HF
      go_wp2
      go_ret
      exact ⟨rfl, rfl⟩
theorem sreads_take {w : World} {g off : Nat} {ys : List ByteArray} (h : SReads w (some ⟨g, off, none⟩) ys) (k : Nat) : SReads w (some ⟨g, off, none⟩) (ys.take k) := fun j hj => by
  rw [List.length_take] at hj
  obtain ⟨b, o, e, hb, hc⟩ := h j (by omega)
  exact ⟨b, o, e, hb, by rw [hc]; simp [List.getD, List.getElem?_take, show j < k by omega]⟩
theorem sreads_drop {w : World} {g off : Nat} {ys : List ByteArray} (h : SReads w (some ⟨g, off, none⟩) ys) (k : Nat) : SReads w (some ⟨g, off + k, none⟩) (ys.drop k) := fun j hj => by
  rw [List.length_drop] at hj
  obtain ⟨b, o, e, hb, hc⟩ := h (k + j) (by omega)
  injection e with e
  injection e with e1 e2 _
  subst e1; subst e2
  exact ⟨g, off + k, rfl, hb, by rw [show off + k + j = off + (k + j) by omega, hc]; simp [List.getD, List.getElem?_drop]⟩
theorem bl_take' (ys : List ByteArray) (k : Nat) : (bl ys).take k = bl (ys.take k) := by simp [bl, List.map_take]
theorem bl_drop' (ys : List ByteArray) (k : Nat) : (bl ys).drop k = bl (ys.drop k) := by simp [bl, List.map_drop]
theorem tree_len {d : Nat} {l : List Tm} {x : Tm} {f : Int} (h : treeD d l = (x, f)) : x.length ≤ 4000 := by
  cases d with
  | zero => rw [← (Prod.mk.inj h).1]; decide
  | succ d =>
    by_cases hf : f = 0
    · subst hf; exact (right_len (tree_head h (by omega)).2).2
    · have : x = [] := by
        by_cases hl : l.length = 1
        · rw [treeD_succ, if_pos hl] at h
          rcases one_or (l.headD []) with ⟨h2, _⟩ | ⟨_, h2⟩
          · rw [h] at h2; exact absurd h2 hf
          · rw [h] at h2; exact h2
        · rw [treeD_succ, if_neg hl] at h
          split at h
          · exact (Prod.mk.inj h).1.symm
          · split at h
            · exact (Prod.mk.inj h).1.symm
            · rcases over_or (treeD d (l.take (fst l.length))).1 (treeD d (l.drop (fst l.length))).1 with ⟨h2, _⟩ | ⟨_, h2⟩
              · rw [h] at h2; exact absurd h2 hf
              · rw [h] at h2; exact h2
      rw [this]; decide
set_option maxHeartbeats 4000000 in
set_option maxRecDepth 1000000 in
theorem rtree_any : ∀ (d : Nat) (A : Option Addr) (c : Nat) (ys : List ByteArray) (w : World), d ≤ 3 → SReads w A ys → 1 ≤ ys.length → ys.length ≤ 2 ^ d → ys.length ≤ c → c ≤ 9223372036854775807 → (∀ y ∈ ys, y.size ≤ 140737488355328) →
    Calls Tryz.prog 58 #[.slice A ys.length c] w fun e w' => Sr (treeD (d + 1) (bl ys)) e ∧ Below w.heap.size w w' := by
  intro d
  induction d with
  | zero =>
    intro A c ys w hd hr h1 h2 hc hc2 hz
    obtain ⟨y, rfl⟩ := List.length_eq_one_iff.1 (show ys.length = 1 by omega)
    rw [treeD_succ, if_pos (show (bl [y]).length = 1 from rfl)]
    obtain ⟨g, off, rfl, hg, hcell⟩ := hr 0 (by simp)
    have hc0 : w.cell? ⟨g, off, none⟩ = some (.string y) := hcell
    have HH := Lib.hid fun w => ofHash_any y w (hz y (by simp))
    obtain ⟨x, f, hx⟩ : ∃ x f, one 104 y.data.toList = (x, f) := ⟨_, _, rfl⟩
    show Calls _ _ _ _ fun e w' => Sr (one 104 y.data.toList) e ∧ _
    rw [hx] at HH ⊢
    clear hx hr hz
    go_enter Tryz.func58, Tryz.ntmps58
    go_wp2_with fail
    with_reducible refine (HH.out _).mono ?_
    rintro e w1 ⟨⟨T, hT, rfl⟩, hb1⟩
    try dsimp only at hT
    have HT := Lib.hid hT
    dsimp only
    go_wp2
    go_ret2
    exact ⟨⟨T, HT.out, rfl⟩, hb1⟩
  | succ d ih =>
    intro A c ys w hd hr h1 h2 hc hc2 hz
    by_cases hl : ys.length = 1
    · obtain ⟨y, rfl⟩ := List.length_eq_one_iff.1 hl
      rw [treeD_succ, if_pos (show (bl [y]).length = 1 from rfl)]
      obtain ⟨g, off, rfl, hg, hcell⟩ := hr 0 (by simp)
      have hc0 : w.cell? ⟨g, off, none⟩ = some (.string y) := hcell
      have HH := Lib.hid fun w => ofHash_any y w (hz y (by simp))
      obtain ⟨x, f, hx⟩ : ∃ x f, one 104 y.data.toList = (x, f) := ⟨_, _, rfl⟩
      show Calls _ _ _ _ fun e w' => Sr (one 104 y.data.toList) e ∧ _
      rw [hx] at HH ⊢
      clear hx hr hz ih
      go_enter Tryz.func58, Tryz.ntmps58
      go_wp2_with fail
      with_reducible refine (HH.out _).mono ?_
      rintro e w1 ⟨⟨T, hT, rfl⟩, hb1⟩
      try dsimp only at hT
      have HT := Lib.hid hT
      dsimp only
      go_wp2
      go_ret2
      exact ⟨⟨T, HT.out, rfl⟩, hb1⟩
    · obtain ⟨p1, p2, p3, p4, p5⟩ := fst_half (n := ys.length) (d := d) (by omega) (by omega) h2
      obtain ⟨k0, k1⟩ := fst_lt (n := ys.length) (by omega) p3
      obtain ⟨g, off, rfl, hg, _⟩ := hr 0 (by omega)
      have HFI := Lib.hid fun w => rfirst_any ys.length w (by omega) p3
      have hbl : (bl ys).length = ys.length := by simp [bl]
      generalize ho : treeD (d + 1 + 1) (bl ys) = o
      rw [treeD_succ, hbl, if_neg hl, bl_take', bl_drop'] at ho
      obtain ⟨K, hK⟩ : ∃ K, fst ys.length = K := ⟨_, rfl⟩
      rw [hK] at p1 p2 k0 k1 HFI ho
      obtain ⟨n, hn⟩ : ∃ n, ys.length = n := ⟨_, rfl⟩
      have ltk : (ys.take K).length = K := by rw [List.length_take]; omega
      have ldr : (ys.drop K).length = n - K := by rw [List.length_drop, hn]
      obtain ⟨xa, fa, hxa⟩ : ∃ xa fa, treeD (d + 1) (bl (ys.take K)) = (xa, fa) := ⟨_, _, rfl⟩
      obtain ⟨xb, fb, hxb⟩ : ∃ xb fb, treeD (d + 1) (bl (ys.drop K)) = (xb, fb) := ⟨_, _, rfl⟩
      have HTA : Hid (∀ w, SReads w (some ⟨g, off, none⟩) ys → Calls Tryz.prog 58 #[.slice (some ⟨g, off, none⟩) K c] w fun e w' => Sr (xa, fa) e ∧ Below w.heap.size w w') := Lib.hid fun w h => by
        have := ih (some ⟨g, off, none⟩) c (ys.take K) w (by omega) (sreads_take h K) (by omega) (by omega) (by omega) hc2 (fun y hy => hz y (List.mem_of_mem_take hy))
        rw [ltk, hxa] at this
        exact this
      have HTB : Hid (∀ w, SReads w (some ⟨g, off, none⟩) ys → Calls Tryz.prog 58 #[.slice (some ⟨g, off + K, none⟩) (n - K) (c - K)] w fun e w' => Sr (xb, fb) e ∧ Below w.heap.size w w') := Lib.hid fun w h => by
        have := ih (some ⟨g, off + K, none⟩) (c - K) (ys.drop K) w (by omega) (sreads_drop h K) (by omega) (by omega) (by omega) (by omega) (fun y hy => hz y (List.mem_of_mem_drop hy))
        rw [ldr, hxb] at this
        exact this
      rw [hxa, hxb] at ho
      have hla := tree_len hxa
      have hlb := tree_len hxb
      have HOV : Hid (∀ (T U : ByteArray) (w : World), T.data.toList = xa → U.data.toList = xb → Calls Tryz.prog 86 #[.string T, .string U] w fun e w' => Sr (over xa xb) e ∧ Below w.heap.size w w') := Lib.hid fun T U w hT hU => by
        have := rover_any T U w (by rw [Lib.size_eq, hT]; omega) (by rw [Lib.size_eq, hU]; omega)
        rw [hT, hU] at this
        exact this
      have HR := Lib.hid hr
      rw [hn] at hl hc k1 h1 p3 HFI ⊢
      have hlb2 : ((n : Int) == 1) = false := by rw [beq_eq_false_iff_ne]; omega
      have q1 : (K : Int) ≤ (c : Int) := by omega
      have q2 : (K : Int) ≤ (n : Int) := by omega
      have q3 : (0 : Int) ≤ (K : Int) := by omega
      simp only at ho
      clear hxa hxb hr hz ih hla hlb ltk ldr hbl h2 p1 p2 p3 p4 p5
      by_cases hfa : fa = 0
      · subst hfa
        rw [if_neg (fun h => h rfl)] at ho
        by_cases hfb : fb = 0
        · subst hfb
          rw [if_neg (fun h => h rfl)] at ho
          rw [ho] at HOV
          obtain ⟨ol, of⟩ := o
          clear ho
          go_enter Tryz.func58, Tryz.ntmps58
          go_wp2_with fail
          with_reducible refine (HFI.out _).mono ?_
          rintro e w1 ⟨rfl, rfl⟩
          dsimp only
          go_wp2_with fail
          with_reducible refine (HTA.out _ HR.out).mono ?_
          rintro e w2 ⟨⟨T, hT, rfl⟩, hb2⟩
          try dsimp only at hT
          have HT := Lib.hid hT
          have HB2 := Lib.hid hb2
          have HR2 := Lib.hid (HR.out.below hb2 (Nat.le_refl _))
          clear hT hb2
          dsimp only
          go_wp2_with fail
          with_reducible refine (HTB.out _ HR2.out).mono ?_
          rintro e w3 ⟨⟨U, hU, rfl⟩, hb3⟩
          try dsimp only at hU
          have HU := Lib.hid hU
          have HB3 := Lib.hid (belc HB2.out hb3)
          clear hU hb3
          dsimp only
          go_wp2_with fail
          with_reducible refine (HOV.out T U _ HT.out HU.out).mono ?_
          rintro e w4 ⟨⟨V, hV, rfl⟩, hb4⟩
          try dsimp only at hV
          have HV := Lib.hid hV
          have HB4 := Lib.hid (belc HB3.out hb4)
          clear hV hb4
          dsimp only
          go_wp2
          go_ret2
          exact ⟨⟨V, HV.out, rfl⟩, HB4.out⟩
        · rw [if_pos hfb] at ho
          have HO := Lib.hid ho
          have hb1 : (fb == 0) = false := by simpa using hfb
          have hb2 : (fb != 0) = true := by simpa using hfb
          clear ho hfb
          go_enter Tryz.func58, Tryz.ntmps58
          go_wp2_with fail
          with_reducible refine (HFI.out _).mono ?_
          rintro e w1 ⟨rfl, rfl⟩
          dsimp only
          go_wp2_with fail
          with_reducible refine (HTA.out _ HR.out).mono ?_
          rintro e w2 ⟨⟨T, hT, rfl⟩, hb2⟩
          try dsimp only at hT
          have HT := Lib.hid hT
          have HB2 := Lib.hid hb2
          have HR2 := Lib.hid (HR.out.below hb2 (Nat.le_refl _))
          clear hT hb2
          dsimp only
          go_wp2_with fail
          with_reducible refine (HTB.out _ HR2.out).mono ?_
          rintro e w3 ⟨⟨U, hU, rfl⟩, hb3⟩
          try dsimp only at hU
          have HU := Lib.hid hU
          have HB3 := Lib.hid (belc HB2.out hb3)
          clear hU hb3
          dsimp only
          go_wp2
          go_ret2
          exact ⟨by rw [← HO.out]; exact ⟨⟨#[]⟩, rfl, rfl⟩, HB3.out⟩
      · rw [if_pos hfa] at ho
        have HO := Lib.hid ho
        have hb1 : (fa == 0) = false := by simpa using hfa
        have hb2 : (fa != 0) = true := by simpa using hfa
        clear ho hfa
        go_enter Tryz.func58, Tryz.ntmps58
        go_wp2_with fail
        with_reducible refine (HFI.out _).mono ?_
        rintro e w1 ⟨rfl, rfl⟩
        dsimp only
        go_wp2_with fail
        with_reducible refine (HTA.out _ HR.out).mono ?_
        rintro e w2 ⟨⟨T, hT, rfl⟩, hb2⟩
        try dsimp only at hT
        have HT := Lib.hid hT
        have HB2 := Lib.hid hb2
        have HR2 := Lib.hid (HR.out.below hb2 (Nat.le_refl _))
        clear hT hb2
        dsimp only
        go_wp2
        go_ret2
        exact ⟨by rw [← HO.out]; exact ⟨⟨#[]⟩, rfl, rfl⟩, HB2.out⟩
end Go.Proofs.YtmmeklemaofmjaaGreat.Tre

/-
  THE DOCUMENT's ANSWER (letterlockref10): leaf, Root. By an AI agent; no person has read it.
-/
namespace Go.Proofs.YtmmeklemaofmjaaGreat.Tre
open Go.RowKit Wire Term Draw Reg Clo

set_option linter.unusedSimpArgs false
set_option linter.unusedVariables false
theorem bl_two {ys : List ByteArray} {a b : Tm} (h : bl ys = [a, b]) : ∃ A B : ByteArray, ys = [A, B] ∧ A.data.toList = a ∧ B.data.toList = b := by
  match ys, h with
  | [A, B], h =>
    have h1 : A.data.toList = a ∧ [B.data.toList] = [b] := List.cons.inj h
    exact ⟨A, B, rfl, h1.1, (List.cons.inj h1.2).1⟩
theorem two_reads {w : World} {A : Option Addr} {a b : ByteArray} (h : SReads w A [a, b]) : ∃ (g off : Nat), A = some ⟨g, off, none⟩ ∧ g < w.heap.size ∧ w.cell? ⟨g, off, none⟩ = some (.string a) ∧ w.cell? ⟨g, off + 1, none⟩ = some (.string b) := by
  obtain ⟨g, off, e0, hl, c0⟩ := h 0 (by simp)
  have k : ∀ j (hj : j < 2) (y : ByteArray), [a, b].getD j ByteArray.empty = y → w.cell? ⟨g, off + j, none⟩ = some (.string y) := fun j hj y hy => by
    obtain ⟨g2, off2, e2, _, c2⟩ := h j (by simpa using hj)
    rw [e0] at e2
    injection e2 with e2
    injection e2 with e3 e4 _
    subst e3; subst e4
    rw [hy] at c2; exact c2
  exact ⟨g, off, e0, hl, k 0 (by decide) a rfl, k 1 (by decide) b rfl⟩
set_option maxHeartbeats 2000000 in
set_option maxRecDepth 1000000 in
theorem rleaf_any (t : ByteArray) (w : World) (ht : t.size ≤ 140737488355328) :
    Calls Tryz.prog 57 #[.string t] w fun e w' => e = .returned (.bool (isLeaf t.data.toList)) ∧ Below w.heap.size w w' := by
  have HK := Lib.hid fun w => kind_any t w ht
  obtain ⟨v, hv⟩ : ∃ v, isLeaf t.data.toList = v := ⟨_, rfl⟩
  rw [hv]
  by_cases hk : kind t.data.toList = 112
  · have hr : right t.data.toList = true := by
      cases h : right t.data.toList with
      | true => rfl
      | false => rw [kind_wrong h] at hk; exact absurd hk (by decide)
    have hh : t.data.toList.headD 0 = 112 := by
      rw [kind_right hr] at hk
      exact UInt8.toNat_inj.1 hk
    obtain ⟨p, q, hpq, hp, hq⟩ : ∃ a b, pts t.data.toList = [a, b] ∧ right a = true ∧ right b = true := by
      cases hx : t.data.toList with
      | nil => rw [hx] at hh; exact absurd hh (by decide)
      | cons k r =>
        rw [hx] at hh hr
        have h1 : k = 112 := hh
        subst h1
        obtain ⟨y, z, e1, e2, e3, e4, _⟩ := pts_two hr (.inl rfl)
        exact ⟨y, z, e2, e3, e4⟩
    have HP : Hid (∀ w, Calls Tryz.prog 84 #[.string t] w fun e w' => Ta ([p, q], 0) e w' ∧ Below w.heap.size w w') := Lib.hid fun w => by
      have := parts_any t w ht
      rw [show parts t.data.toList = (pts t.data.toList, 0) by unfold pts parts; rw [if_pos hr], hpq] at this
      exact this
    rw [hk] at HK
    have hvv : v = (decide (p.headD 0 = 116) && decide (q.headD 0 = 97)) := by
      rw [← hv]
      unfold isLeaf
      rw [hk, hpq]
      rfl
    clear hv hk hr hh hpq
    go_enter Tryz.func57, Tryz.ntmps57
    go_wp2_with fail
    with_reducible refine (HK.out _).mono ?_
    rintro e w1 ⟨rfl, hb1⟩
    dsimp only
    go_wp2_with fail
    with_reducible refine (HP.out _).mono ?_
    rintro e w2 ⟨⟨A, cc, ys, hys, hlc, hsr, rfl⟩, hb2⟩
    have HB1 := Lib.hid (belc hb1 hb2)
    obtain ⟨PA, PB, rfl, hPA, hPB⟩ := bl_two hys
    obtain ⟨g2, off, rfl, hg1, l0, l1⟩ := two_reads hsr
    clear hb1 hb2 hys hlc hsr
    dsimp only
    obtain ⟨h0, b, t1, hh, _⟩ := right_head (s := PA) (by rw [hPA]; exact hp)
    have hb := hh.first
    have hz1 : (0 : Int) < (PA.size : Int) := by omega
    have hpb : p.headD 0 = b := by rw [← hPA, hh.all]; rfl
    obtain ⟨h0', b', t2, hh', _⟩ := right_head (s := PB) (by rw [hPB]; exact hq)
    have hb' := hh'.first
    have hz2 : (0 : Int) < (PB.size : Int) := by omega
    have hqb : q.headD 0 = b' := by rw [← hPB, hh'.all]; rfl
    rw [hpb, hqb] at hvv
    clear hPA hPB hp hq hh hh' hpb hqb
    by_cases e1 : b = 116
    · subst e1
      have c1 : (((116 : UInt8).toNat : Int) == 116) = true := rfl
      by_cases e2 : b' = 97
      · subst e2
        obtain rfl : v = true := hvv
        go_wp2
        go_ret
        exact ⟨rfl, HB1.out⟩
      · have c2 : ((b'.toNat : Int) == 97) = false := by
          rw [beq_eq_false_iff_ne]; intro h; exact e2 (UInt8.toNat_inj.1 (by have : (97 : UInt8).toNat = 97 := rfl; omega))
        obtain rfl : v = false := by rw [hvv, decide_eq_false e2]; rfl
        clear hvv e2
        go_wp2
        go_ret
        exact ⟨rfl, HB1.out⟩
    · have c1 : ((b.toNat : Int) == 116) = false := by
        rw [beq_eq_false_iff_ne]; intro h; exact e1 (UInt8.toNat_inj.1 (by have : (116 : UInt8).toNat = 116 := rfl; omega))
      obtain rfl : v = false := by rw [hvv, decide_eq_false e1]; rfl
      clear hvv e1
      go_wp2
      go_ret
      exact ⟨rfl, HB1.out⟩
  · obtain rfl : v = false := by rw [← hv]; unfold isLeaf; rw [decide_eq_false hk]; rfl
    obtain ⟨k, hkk⟩ : ∃ k, kind t.data.toList = k := ⟨_, rfl⟩
    rw [hkk] at HK hk
    have c1 : ((k : Int) == 112) = false := by rw [beq_eq_false_iff_ne]; omega
    have c2 : ((k : Int) != 112) = true := by simp [bne, c1]
    clear hv hkk
    go_enter Tryz.func57, Tryz.ntmps57
    go_wp2_with fail
    with_reducible refine (HK.out _).mono ?_
    rintro e w1 ⟨rfl, hb1⟩
    dsimp only
    go_wp2
    go_ret
    exact ⟨rfl, hb1⟩
set_option maxHeartbeats 4000000 in
set_option maxRecDepth 1000000 in
theorem rroot_any (A : Option Addr) (c : Nat) (ys : List ByteArray) (w : World) (hr : SReads w A ys) (hc : ys.length ≤ c) (hc2 : c ≤ 9223372036854775807) (hz : ∀ y ∈ ys, y.size ≤ 140737488355328) :
    Calls Tryz.prog 29 #[.slice A ys.length c] w fun e w' => Sr (root (bl ys)) e ∧ Below w.heap.size w w' := by
  have hbl : (bl ys).length = ys.length := by simp [bl]
  obtain ⟨o, ho⟩ : ∃ o, root (bl ys) = o := ⟨_, rfl⟩
  rw [ho]
  have HO := Lib.hid ho
  unfold root at ho
  rw [hbl] at ho
  by_cases h1 : ys.length < 1
  · rw [if_pos (.inl h1)] at ho
    have HX := Lib.hid ho
    have q : (ys.length : Int) < 1 := by omega
    clear ho h1
    go_enter Tryz.func29, Tryz.ntmps29
    go_wp2
    go_ret2
    exact ⟨by rw [← HX.out]; exact ⟨⟨#[]⟩, rfl, rfl⟩, Below.refl _ _⟩
  · by_cases h8 : 8 < ys.length
    · rw [if_pos (.inr h8)] at ho
      have HX := Lib.hid ho
      have q : (8 : Int) < (ys.length : Int) := by omega
      have q1 : ¬ (ys.length : Int) < 1 := by omega
      clear ho h1 h8
      go_enter Tryz.func29, Tryz.ntmps29
      go_wp2
      go_ret2
      exact ⟨by rw [← HX.out]; exact ⟨⟨#[]⟩, rfl, rfl⟩, Below.refl _ _⟩
    · rw [if_neg (by omega)] at ho
      have q1 : ¬ (ys.length : Int) < 1 := by omega
      have q2 : ¬ (8 : Int) < (ys.length : Int) := by omega
      have HLF := Lib.hid fun y (h : y ∈ ys) w => rleaf_any y w (hz y h)
      have HTR := Lib.hid fun w (h : SReads w A ys) => rtree_any 3 A c ys w (by omega) h (by omega) (by omega) hc hc2 hz
      have HOO := Lib.hid ho
      clear ho
      have HR := Lib.hid hr
      have HB0 := Lib.hid (Below.refl w.heap.size w)
      go_enter Tryz.func29, Tryz.ntmps29
      go_wp2_with fail
      go_loopw [4] (fun i wr => ∃ k : Nat, k ≤ ys.length ∧ i = .int .i64 k ∧ Hid (Below w.heap.size w wr) ∧ Hid (∀ j, j < k → isLeaf (ys.getD j ByteArray.empty).data.toList = true)) (fun i _ => ys.length - (intOf i).toNat)
      case atStart => exact ⟨0, Nat.zero_le _, rfl, HB0, Lib.hid fun j hj => absurd hj (Nat.not_lt_zero _)⟩
      case round =>
        obtain ⟨k, hk, rfl, HB, HJ⟩ := hrel
        by_cases hlt : k < ys.length
        · obtain ⟨gg, off, hA, hblt, hcell⟩ := HR.out.below HB.out (Nat.le_refl _) k hlt
          have hA' := hA
          subst hA'
          obtain ⟨z, hzz⟩ : ∃ z, ys.getD k ByteArray.empty = z := ⟨_, rfl⟩
          rw [hzz] at hcell
          have hzm : z ∈ ys := by
            rw [← hzz, List.getD, List.getElem?_eq_getElem hlt]
            exact List.getElem_mem hlt
          have hki : (k : Int) < (ys.length : Int) := by omega
          have HL := Lib.hid fun w => HLF.out z hzm w
          obtain ⟨v, hv⟩ : ∃ v, isLeaf z.data.toList = v := ⟨_, rfl⟩
          rw [hv] at HL
          go_wp2_with fail
          with_reducible refine (HL.out _).mono ?_
          rintro e w2 ⟨rfl, hb2⟩
          have HB2 := Lib.hid (belc HB.out hb2)
          clear hb2
          dsimp only
          cases v with
          | true =>
            go_wp2
            go_roundw
            case rel => exact ⟨k + 1, by omega, by go_num, HB2, Lib.hid fun j hj => by
              rcases Nat.lt_or_ge j k with h | h
              · exact HJ.out j h
              · rw [show j = k by omega, hzz]; exact hv⟩
            case measure => simp [intOf]; omega
          | false =>
            have hno : ¬ (∀ t ∈ bl ys, isLeaf t = true) := fun h => by
              rw [h z.data.toList (List.mem_map.2 ⟨z, hzm, rfl⟩)] at hv; cases hv
            have HX := Lib.hid HOO.out
            rw [if_pos hno] at HX
            go_wp2
            go_ret2
            exact ⟨by rw [← HX.out]; exact ⟨⟨#[]⟩, rfl, rfl⟩, HB2.out⟩
        · obtain rfl : k = ys.length := by omega
          have hall : ∀ t ∈ bl ys, isLeaf t = true := fun t ht => by
            obtain ⟨y, hy, rfl⟩ := List.mem_map.1 ht
            obtain ⟨j, hj, rfl⟩ := List.mem_iff_getElem.1 hy
            have := HJ.out j hj
            rw [List.getD, List.getElem?_eq_getElem hj] at this
            exact this
          have HX := HOO.out
          rw [if_neg (fun h => h hall)] at HX
          have HX2 := Lib.hid HX
          have HT2 := Lib.hid fun w h => HTR.out w h
          rw [HX2.out] at HT2
          obtain ⟨ol, of⟩ := o
          clear HX hall HJ
          go_wp2_with fail
          with_reducible refine (HT2.out _ (HR.out.below HB.out (Nat.le_refl _))).mono ?_
          rintro e w2 ⟨⟨T, hT, rfl⟩, hb2⟩
          try dsimp only at hT
          have HT := Lib.hid hT
          have HB2 := Lib.hid (belc HB.out hb2)
          clear hT hb2
          dsimp only
          go_wp2
          go_ret2
          exact ⟨⟨T, HT.out, rfl⟩, HB2.out⟩
end Go.Proofs.YtmmeklemaofmjaaGreat.Tre

/-
  THE DOCUMENT's ANSWER (letterlockref10): up, Verify. By an AI agent; no person has read it.
-/
namespace Go.Proofs.YtmmeklemaofmjaaGreat.Tre
open Go.RowKit Wire Term Draw Reg Clo

set_option linter.unusedSimpArgs false
set_option linter.unusedVariables false
theorem str_eq {S H : ByteArray} (h : S.data.toList = H.data.toList) : S = H := by
  cases S; cases H
  simp only [ByteArray.mk.injEq]
  exact Array.toList_inj.1 h
theorem over_len (a b : Tm) : (over a b).1.length ≤ 4000 := by
  rcases over_or a b with ⟨_, _, _, _, h, e⟩ | ⟨_, e⟩
  · rw [e]; exact (right_len h).2
  · rw [e]; decide
theorem one_len (a : Tm) : (one 104 a).1.length ≤ 4000 := by
  rcases one_or a with ⟨_, _, h, e⟩ | ⟨_, e⟩
  · rw [e]; exact (right_len h).2
  · rw [e]; decide
theorem up_len : ∀ (d n i : Nat) (t : Tm) (p : List Tm), (upD d n i t p).length ≤ 4000
  | 0, _, _, _, _ => by unfold upD; decide
  | d + 1, n, i, t, p => by
    rw [upD_succ]
    split
    · split
      · decide
      · exact one_len t
    · split
      · decide
      · split
        · exact over_len _ _
        · exact over_len _ _
theorem bl_last {ys : List ByteArray} {m : Nat} (h : ys.length = m + 1) : (bl ys).getLastD [] = (ys.getD m ByteArray.empty).data.toList := by
  have hl : (bl ys).length = m + 1 := by simp [bl, h]
  rw [List.getLastD_eq_getLast?, List.getLast?_eq_getElem?, hl]
  simp [bl, List.getD, List.getElem?_map, show m < ys.length by omega]
theorem bl_front {ys : List ByteArray} {m : Nat} (h : ys.length = m + 1) : (bl ys).dropLast = bl (ys.take m) := by
  rw [List.dropLast_eq_take, ← bl_take', show (bl ys).length - 1 = m by simp [bl, h]]
theorem bl_nil {ys : List ByteArray} : bl ys = [] ↔ ys.length = 0 := by
  cases ys with
  | nil => exact ⟨fun _ => rfl, fun _ => rfl⟩
  | cons y t => exact ⟨fun h => absurd h (by simp [bl]), fun h => absurd h (by simp)⟩
theorem fst_half0 {n d : Nat} (h1 : ¬ n = 1) (h2 : 1 ≤ n) (hd : d + 1 ≤ 3) (h : n ≤ 2 ^ (d + 1)) : 2 ≤ n ∧ n ≤ 8 ∧ fst n ≤ 2 ^ d ∧ n - fst n ≤ 2 ^ d ∧ 0 < fst n ∧ fst n < n := by
  obtain ⟨p1, p2, p3, _, _⟩ := fst_half (n := n) (d := d) (by omega) (by omega) h
  obtain ⟨k0, k1⟩ := fst_lt (n := n) (by omega) p3
  exact ⟨by omega, p3, p1, p2, k0, k1⟩
set_option maxHeartbeats 4000000 in
set_option maxRecDepth 1000000 in
theorem rup_any : ∀ (d n i : Nat) (t : ByteArray) (A : Option Addr) (c : Nat) (ys : List ByteArray) (w : World), d ≤ 3 → SReads w A ys → 1 ≤ n → n ≤ 2 ^ d → i < n → ys.length ≤ c → c ≤ 9223372036854775807 → (∀ y ∈ ys, y.size ≤ 140737488355328) → t.size ≤ 140737488355328 →
    Calls Tryz.prog 75 #[.int .i64 (n : Int), .int .i64 (i : Int), .string t, .slice A ys.length c] w fun e w' => St (upD (d + 1) n i t.data.toList (bl ys)) e ∧ Below w.heap.size w w' := by
  have one_case : ∀ (d i : Nat) (t : ByteArray) (A : Option Addr) (c : Nat) (ys : List ByteArray) (w : World), t.size ≤ 140737488355328 → Calls Tryz.prog 75 #[.int .i64 1, .int .i64 (i : Int), .string t, .slice A ys.length c] w fun e w' => St (upD (d + 1) 1 i t.data.toList (bl ys)) e ∧ Below w.heap.size w w' := fun d i t A c ys w ht => by
    rw [upD_succ, if_pos rfl]
    by_cases h0 : ys.length = 0
    · rw [if_neg (fun h => h (bl_nil.2 h0))]
      have HH := Lib.hid fun w => ofHash_any t w ht
      rw [h0]
      go_enter Tryz.func75, Tryz.ntmps75
      go_wp2_with fail
      with_reducible refine (HH.out _).mono ?_
      rintro e w1 ⟨⟨T, hT, rfl⟩, hb1⟩
      have HT := Lib.hid hT
      clear hT
      dsimp only
      go_wp2
      go_ret
      exact ⟨⟨T, HT.out, rfl⟩, hb1⟩
    · rw [if_pos (fun h => h0 (bl_nil.1 h))]
      have q : (0 : Int) < (ys.length : Int) := by omega
      go_enter Tryz.func75, Tryz.ntmps75
      go_wp2
      go_ret
      exact ⟨⟨⟨#[]⟩, rfl, rfl⟩, Below.refl _ _⟩
  intro d
  induction d with
  | zero =>
    intro n i t A c ys w hd hr h1 h2 hi hc hc2 hz ht
    obtain rfl : n = 1 := by omega
    exact one_case 0 i t A c ys w ht
  | succ d ih =>
    intro n i t A c ys w hd hr h1 h2 hi hc hc2 hz ht
    by_cases hn1 : n = 1
    · subst hn1
      exact one_case (d + 1) i t A c ys w ht
    · obtain ⟨n2, n8, p1, p2, k0, k1⟩ := fst_half0 (d := d) hn1 h1 (by omega) h2
      have hb : ((n : Int) == 1) = false := by rw [beq_eq_false_iff_ne]; omega
      rw [upD_succ, if_neg hn1]
      by_cases h0 : ys.length = 0
      · rw [if_pos (bl_nil.2 h0), h0]
        clear ih hr hz one_case
        go_enter Tryz.func75, Tryz.ntmps75
        go_wp2
        go_ret
        exact ⟨⟨⟨#[]⟩, rfl, rfl⟩, Below.refl _ _⟩
      · rw [if_neg (fun h => h0 (bl_nil.1 h))]
        obtain ⟨m, hm⟩ : ∃ m, ys.length = m + 1 := ⟨ys.length - 1, by omega⟩
        obtain ⟨g, off, rfl, hg, hcl⟩ := hr m (by omega)
        clear hcl
        have HFI := Lib.hid fun w => rfirst_any n w n2 n8
        rw [bl_last hm, bl_front hm]
        obtain ⟨K, hK⟩ : ∃ K, fst n = K := ⟨_, rfl⟩
        rw [hK] at p1 p2 k0 k1 HFI ⊢
        obtain ⟨L, hL⟩ : ∃ L, ys.getD m ByteArray.empty = L := ⟨_, rfl⟩
        have hLz : L.size ≤ 140737488355328 := by
          rw [← hL, List.getD, List.getElem?_eq_getElem (show m < ys.length by omega)]
          exact hz _ (List.getElem_mem (show m < ys.length by omega))
        have ltk : (ys.take m).length = m := by rw [List.length_take]; omega
        have HLC : Hid (∀ w' : World, SReads w' (some ⟨g, off, none⟩) ys → w'.cell? ⟨g, off + m, none⟩ = some (.string L)) := Lib.hid fun w' h => by
          obtain ⟨b, o2, e, _, hcc⟩ := h m (by omega)
          injection e with e
          injection e with e1 e2 _
          subst e1; subst e2
          rw [hcc, hL]
        have HR := Lib.hid hr
        rw [hL]
        rw [hm] at hc ⊢
        have hw1 : IntKind.i64.wrap ((m : Int) + 1 - 1) = (m : Int) := by rw [IntKind.wrap_i64]; omega
        have hw2 : IntKind.i64.wrap (m : Int) = (m : Int) := by rw [IntKind.wrap_i64]; omega
        have q1 : (m : Int) ≤ (c : Int) := by omega
        have q2 : (m : Int) < (m : Int) + 1 := by omega
        have q3 : (0 : Int) < (m : Int) + 1 := by omega
        have q4 : ((m : Int) + 1 == 0) = false := by rw [beq_eq_false_iff_ne]; omega
        by_cases hik : i < K
        · rw [if_pos hik]
          have hik2 : (i : Int) < (K : Int) := by omega
          have HU : Hid (∀ w, SReads w (some ⟨g, off, none⟩) ys → Calls Tryz.prog 75 #[.int .i64 (K : Int), .int .i64 (i : Int), .string t, .slice (some ⟨g, off, none⟩) m c] w fun e w' => St (upD (d + 1) K i t.data.toList (bl (ys.take m))) e ∧ Below w.heap.size w w') := Lib.hid fun w h => by
            have := ih K i t (some ⟨g, off, none⟩) c (ys.take m) w (by omega) (sreads_take h m) (by omega) (by omega) hik (by omega) hc2 (fun y hy => hz y (List.mem_of_mem_take hy)) ht
            rw [ltk] at this
            exact this
          have hul := up_len (d + 1) K i t.data.toList (bl (ys.take m))
          generalize upD (d + 1) K i t.data.toList (bl (ys.take m)) = ux at HU hul ⊢
          have HOV : Hid (∀ (T : ByteArray) (w : World), T.data.toList = ux → Calls Tryz.prog 86 #[.string T, .string L] w fun e w' => Sr (over ux L.data.toList) e ∧ Below w.heap.size w w') := Lib.hid fun T w hT => by
            have := rover_any T L w (by rw [Lib.size_eq, hT]; omega) hLz
            rw [hT] at this
            exact this
          clear ih hr hz one_case hul hLz hL ltk p1 p2 h0 hn1 h2
          go_enter Tryz.func75, Tryz.ntmps75
          go_wp2_with fail
          with_reducible refine (HFI.out _).mono ?_
          rintro e w1 ⟨rfl, rfl⟩
          have hk1 := HLC.out _ HR.out
          dsimp only
          go_wp2_with fail
          with_reducible refine (HU.out _ HR.out).mono ?_
          rintro e w2 ⟨⟨T, hT, rfl⟩, hb2⟩
          have HT := Lib.hid hT
          have HB2 := Lib.hid hb2
          have hk2 := HLC.out _ (HR.out.below hb2 (Nat.le_refl _))
          clear hT hb2 hk1
          dsimp only
          go_wp2_with fail
          with_reducible refine (HOV.out T _ HT.out).mono ?_
          rintro e w3 ⟨⟨V, hV, rfl⟩, hb3⟩
          try dsimp only at hV
          have HV := Lib.hid hV
          have HB3 := Lib.hid (belc HB2.out hb3)
          clear hV hb3
          dsimp only
          go_wp2
          go_ret
          exact ⟨⟨V, HV.out, rfl⟩, HB3.out⟩
        · rw [if_neg hik]
          have hik2 : ¬ (i : Int) < (K : Int) := by omega
          have hwn : IntKind.i64.wrap ((n : Int) - (K : Int)) = ((n - K : Nat) : Int) := by rw [IntKind.wrap_i64]; omega
          have hwi : IntKind.i64.wrap ((i : Int) - (K : Int)) = ((i - K : Nat) : Int) := by rw [IntKind.wrap_i64]; omega
          have HU : Hid (∀ w, SReads w (some ⟨g, off, none⟩) ys → Calls Tryz.prog 75 #[.int .i64 ((n - K : Nat) : Int), .int .i64 ((i - K : Nat) : Int), .string t, .slice (some ⟨g, off, none⟩) m c] w fun e w' => St (upD (d + 1) (n - K) (i - K) t.data.toList (bl (ys.take m))) e ∧ Below w.heap.size w w') := Lib.hid fun w h => by
            have := ih (n - K) (i - K) t (some ⟨g, off, none⟩) c (ys.take m) w (by omega) (sreads_take h m) (by omega) (by omega) (by omega) (by omega) hc2 (fun y hy => hz y (List.mem_of_mem_take hy)) ht
            rw [ltk] at this
            exact this
          have hul := up_len (d + 1) (n - K) (i - K) t.data.toList (bl (ys.take m))
          generalize upD (d + 1) (n - K) (i - K) t.data.toList (bl (ys.take m)) = ux at HU hul ⊢
          have HOV : Hid (∀ (T : ByteArray) (w : World), T.data.toList = ux → Calls Tryz.prog 86 #[.string L, .string T] w fun e w' => Sr (over L.data.toList ux) e ∧ Below w.heap.size w w') := Lib.hid fun T w hT => by
            have := rover_any L T w hLz (by rw [Lib.size_eq, hT]; omega)
            rw [hT] at this
            exact this
          generalize n - K = nk at HU hwn
          generalize i - K = ik at HU hwi
          clear ih hr hz one_case hul hLz hL ltk p1 p2 h0 hn1 h2
          go_enter Tryz.func75, Tryz.ntmps75
          go_wp2_with fail
          with_reducible refine (HFI.out _).mono ?_
          rintro e w1 ⟨rfl, rfl⟩
          have hk1 := HLC.out _ HR.out
          dsimp only
          go_wp2_with fail
          with_reducible refine (HU.out _ HR.out).mono ?_
          rintro e w2 ⟨⟨T, hT, rfl⟩, hb2⟩
          have HT := Lib.hid hT
          have HB2 := Lib.hid hb2
          have hk2 := HLC.out _ (HR.out.below hb2 (Nat.le_refl _))
          clear hT hb2 hk1
          dsimp only
          go_wp2_with fail
          with_reducible refine (HOV.out T _ HT.out).mono ?_
          rintro e w3 ⟨⟨V, hV, rfl⟩, hb3⟩
          try dsimp only at hV
          have HV := Lib.hid hV
          have HB3 := Lib.hid (belc HB2.out hb3)
          clear hV hb3
          dsimp only
          go_wp2
          go_ret
          exact ⟨⟨V, HV.out, rfl⟩, HB3.out⟩
set_option maxHeartbeats 4000000 in
set_option maxRecDepth 1000000 in
theorem rverify_any (r : ByteArray) (n i : Int) (t : ByteArray) (A : Option Addr) (c : Nat) (ys : List ByteArray) (w : World) (hr : SReads w A ys) (hc : ys.length ≤ c) (hc2 : c ≤ 9223372036854775807) (hz : ∀ y ∈ ys, y.size ≤ 140737488355328) (ht : t.size ≤ 140737488355328) (hrz : r.size ≤ 140737488355328) :
    Calls Tryz.prog 45 #[.string r, .int .i64 n, .int .i64 i, .string t, .slice A ys.length c] w fun e w' => e = .returned (.bool (verifyT r.data.toList n i t.data.toList (bl ys))) ∧ Below w.heap.size w w' := by
  obtain ⟨v, hv⟩ : ∃ v, verifyT r.data.toList n i t.data.toList (bl ys) = v := ⟨_, rfl⟩
  rw [hv]
  have HLF := Lib.hid fun w => rleaf_any t w ht
  have HRR := Lib.hid fun w => Term.right_any r w hrz
  have HRY := Lib.hid fun y (h : y ∈ ys) w => Term.right_any y w (hz y h)
  have no : ∀ {p : Prop}, (v = true → p) → ¬ p → v = false := fun h hp => by
    cases v with
    | false => rfl
    | true => exact absurd (h rfl) hp
  have hvt : v = true → 1 ≤ n ∧ n ≤ 8 ∧ 0 ≤ i ∧ i < n ∧ isLeaf t.data.toList = true ∧ right r.data.toList = true ∧ (∀ x ∈ bl ys, right x = true) ∧ upD 4 n.toNat i.toNat t.data.toList (bl ys) = r.data.toList := fun h => by
    rw [← hv] at h
    unfold verifyT at h
    exact of_decide_eq_true h
  by_cases h1 : 1 ≤ n
  · by_cases h8 : n ≤ 8
    · by_cases h0 : 0 ≤ i
      · by_cases hin : i < n
        · have q1 : ¬ n < 1 := by omega
          have q2 : ¬ 8 < n := by omega
          have q3 : ¬ i < 0 := by omega
          have q4 : ¬ n ≤ i := by omega
          cases hl : isLeaf t.data.toList with
          | false =>
            obtain rfl : v = false := no (fun h => (hvt h).2.2.2.2.1) (by rw [hl]; decide)
            rw [hl] at HLF
            clear hv hvt no hl
            go_enter Tryz.func45, Tryz.ntmps45
            go_wp2_with fail
            with_reducible refine (HLF.out _).mono ?_
            rintro e w1 ⟨rfl, hb1⟩
            have HB1 := Lib.hid hb1
            have HR1 := Lib.hid hb1
            clear hb1 HR1
            dsimp only
            go_wp2
            go_ret
            exact ⟨rfl, HB1.out⟩
          | true =>
            rw [hl] at HLF
            cases hr1 : right r.data.toList with
            | false =>
              obtain rfl : v = false := no (fun h => (hvt h).2.2.2.2.2.1) (by rw [hr1]; decide)
              rw [hr1] at HRR
              clear hv hvt no hl hr1
              go_enter Tryz.func45, Tryz.ntmps45
              go_wp2_with fail
              with_reducible refine (HLF.out _).mono ?_
              rintro e w1 ⟨rfl, hb1⟩
              have HB1 := Lib.hid hb1
              have HR1 := Lib.hid hb1
              clear hb1 HR1
              dsimp only
              go_wp2_with fail
              with_reducible refine (HRR.out _).mono ?_
              rintro e w2 ⟨rfl, hb2⟩
              have HB2 := Lib.hid (belc HB1.out hb2)
              clear hb2
              dsimp only
              go_wp2
              go_ret
              exact ⟨rfl, HB2.out⟩
            | true =>
              rw [hr1] at HRR
              obtain ⟨N, rfl⟩ : ∃ N : Nat, n = (N : Int) := ⟨n.toNat, by omega⟩
              obtain ⟨I, rfl⟩ : ∃ I : Nat, i = (I : Int) := ⟨i.toNat, by omega⟩
              have HUP : Hid (∀ w, SReads w A ys → Calls Tryz.prog 75 #[.int .i64 (N : Int), .int .i64 (I : Int), .string t, .slice A ys.length c] w fun e w' => St (upD 4 N I t.data.toList (bl ys)) e ∧ Below w.heap.size w w') := Lib.hid fun w h => rup_any 3 N I t A c ys w (by omega) h (by omega) (by omega) (by omega) hc hc2 hz ht
              have HVV : Hid (v = decide ((∀ x ∈ bl ys, right x = true) ∧ upD 4 N I t.data.toList (bl ys) = r.data.toList)) := Lib.hid (by
                rw [← hv]
                unfold verifyT
                refine decide_eq_decide.2 ?_
                rw [show ((N : Int)).toNat = N by omega, show ((I : Int)).toNat = I by omega]
                exact ⟨fun h => ⟨h.2.2.2.2.2.2.1, h.2.2.2.2.2.2.2⟩, fun h => ⟨h1, h8, h0, hin, hl, hr1, h.1, h.2⟩⟩)
              generalize upD 4 N I t.data.toList (bl ys) = ux at HUP HVV
              have HR := Lib.hid hr
              clear hv hvt no hl hr1
              go_enter Tryz.func45, Tryz.ntmps45
              go_wp2_with fail
              with_reducible refine (HLF.out _).mono ?_
              rintro e w1 ⟨rfl, hb1⟩
              have HB1 := Lib.hid hb1
              have HR1 := Lib.hid hb1
              clear hb1 HR1
              dsimp only
              go_wp2_with fail
              with_reducible refine (HRR.out _).mono ?_
              rintro e w2 ⟨rfl, hb2⟩
              have HB2 := Lib.hid (belc HB1.out hb2)
              clear hb2
              dsimp only
              go_wp2_with fail
              have HR2 := Lib.hid (HR.out.below HB2.out (Nat.le_refl _))
              clear HB1
              go_loopw [11] (fun i wr => ∃ k : Nat, k ≤ ys.length ∧ i = .int .i64 k ∧ Hid (Below w.heap.size w wr) ∧ Hid (∀ j, j < k → right (ys.getD j ByteArray.empty).data.toList = true)) (fun i _ => ys.length - (intOf i).toNat)
              case atStart => exact ⟨0, Nat.zero_le _, rfl, HB2, Lib.hid fun j hj => absurd hj (Nat.not_lt_zero _)⟩
              case round =>
                obtain ⟨k, hk, rfl, HB, HJ⟩ := hrel
                by_cases hlt : k < ys.length
                · obtain ⟨gg, off, hA, hblt, hcell⟩ := HR.out.below HB.out (Nat.le_refl _) k hlt
                  have hA' := hA
                  subst hA'
                  obtain ⟨z, hzz⟩ : ∃ z, ys.getD k ByteArray.empty = z := ⟨_, rfl⟩
                  rw [hzz] at hcell
                  have hzm : z ∈ ys := by
                    rw [← hzz, List.getD, List.getElem?_eq_getElem hlt]
                    exact List.getElem_mem hlt
                  have hki : (k : Int) < (ys.length : Int) := by omega
                  have HL := Lib.hid fun w => HRY.out z hzm w
                  obtain ⟨v2, hv2⟩ : ∃ v2, right z.data.toList = v2 := ⟨_, rfl⟩
                  rw [hv2] at HL
                  go_wp2_with fail
                  with_reducible refine (HL.out _).mono ?_
                  rintro e w3 ⟨rfl, hb3⟩
                  have HB3 := Lib.hid (belc HB.out hb3)
                  clear hb3
                  dsimp only
                  cases v2 with
                  | true =>
                    go_wp2
                    go_roundw
                    case rel => exact ⟨k + 1, by omega, by go_num, HB3, Lib.hid fun j hj => by
                      rcases Nat.lt_or_ge j k with h | h
                      · exact HJ.out j h
                      · rw [show j = k by omega, hzz]; exact hv2⟩
                    case measure => simp [intOf]; omega
                  | false =>
                    have hno : v = false := by
                      rw [HVV.out]
                      exact decide_eq_false fun h => by
                        rw [h.1 z.data.toList (List.mem_map.2 ⟨z, hzm, rfl⟩)] at hv2; cases hv2
                    subst hno
                    go_wp2
                    go_ret
                    exact ⟨rfl, HB3.out⟩
                · obtain rfl : k = ys.length := by omega
                  have hall : ∀ x ∈ bl ys, right x = true := fun x hx => by
                    obtain ⟨y, hy, rfl⟩ := List.mem_map.1 hx
                    obtain ⟨j, hj, rfl⟩ := List.mem_iff_getElem.1 hy
                    have := HJ.out j hj
                    rw [List.getD, List.getElem?_eq_getElem hj] at this
                    exact this
                  have HV2 : Hid (v = decide (ux = r.data.toList)) := Lib.hid (by rw [HVV.out]; exact decide_eq_decide.2 ⟨fun h => h.2, fun h => ⟨hall, h⟩⟩)
                  clear hall HJ HVV
                  go_wp2_with fail
                  with_reducible refine (HUP.out _ (HR.out.below HB.out (Nat.le_refl _))).mono ?_
                  rintro e w3 ⟨⟨U, hU, rfl⟩, hb3⟩
                  have HB3 := Lib.hid (belc HB.out hb3)
                  clear hb3
                  dsimp only
                  by_cases hur : U = r
                  · subst hur
                    obtain rfl : v = true := by rw [HV2.out, decide_eq_true hU.symm]
                    clear hU
                    go_wp2
                    go_ret
                    exact ⟨rfl, HB3.out⟩
                  · have hne : (U.toList == r.toList) = false := by
                      rw [beq_eq_false_iff_ne]
                      intro h
                      rw [Lib.toList_data, Lib.toList_data] at h
                      exact hur (str_eq h)
                    obtain rfl : v = false := by rw [HV2.out, decide_eq_false (fun h => hur (str_eq (hU.trans h)))]
                    clear hU hur
                    go_wp2
                    go_ret
                    exact ⟨rfl, HB3.out⟩
        · obtain rfl : v = false := no (fun h => (hvt h).2.2.2.1) hin
          have q : n ≤ i := by omega
          clear hv hvt no
          go_enter Tryz.func45, Tryz.ntmps45
          go_wp2
          go_ret
          exact ⟨rfl, Below.refl _ _⟩
      · obtain rfl : v = false := no (fun h => (hvt h).2.2.1) h0
        have q : i < 0 := by omega
        clear hv hvt no
        go_enter Tryz.func45, Tryz.ntmps45
        go_wp2
        go_ret
        exact ⟨rfl, Below.refl _ _⟩
    · obtain rfl : v = false := no (fun h => (hvt h).2.1) h8
      have q : 8 < n := by omega
      clear hv hvt no
      go_enter Tryz.func45, Tryz.ntmps45
      go_wp2
      go_ret
      exact ⟨rfl, Below.refl _ _⟩
  · obtain rfl : v = false := no (fun h => (hvt h).1) h1
    have q : n < 1 := by omega
    clear hv hvt no
    go_enter Tryz.func45, Tryz.ntmps45
    go_wp2
    go_ret
    exact ⟨rfl, Below.refl _ _⟩
end Go.Proofs.YtmmeklemaofmjaaGreat.Tre

/-
  THE DOCUMENT's ANSWER (letterlockref10): beside. By an AI agent; no person has read it.
-/
namespace Go.Proofs.YtmmeklemaofmjaaGreat.Tre
open Go.RowKit Wire Term Draw Reg Clo

set_option linter.unusedSimpArgs false
set_option linter.unusedVariables false
theorem own_low {w : World} {base b2 : Nat} {e : TypeId} {size n : Nat} {v : Value} {xs : List Value} (h : w.ownsRow base e size v n xs) (hb : b2 ≤ base) : w.ownsRow b2 e size v n xs := by
  refine ⟨h.1, ?_⟩
  rcases h.2 with h | ⟨g, cap, cur, hv, hg, rest⟩
  · exact .inl h
  · exact .inr ⟨g, cap, cur, hv, Nat.le_trans hb hg, rest⟩
/-- A row of one's own of these terms. -/
def Ob (w w' : World) (x : List Tm) (e : Ending) : Prop := ∃ (v : Value) (zs : List ByteArray), bl zs = x ∧ w'.ownsRow w.heap.size 9 1 v zs.length (sv zs) ∧ e = .returned v
theorem beside_few : ∀ (d i : Nat) (l : List Tm), (besideD d l i).length ≤ d
  | 0, _, _ => by unfold besideD; decide
  | d + 1, i, l => by
    rw [besideD_succ]
    split
    · simp
    · split
      · rw [List.length_append]
        have := beside_few d i (l.take (fst l.length))
        simp only [List.length_cons, List.length_nil]; omega
      · rw [List.length_append]
        have := beside_few d (i - fst l.length) (l.drop (fst l.length))
        simp only [List.length_cons, List.length_nil]; omega
end Go.Proofs.YtmmeklemaofmjaaGreat.Tre

/-
  THE DOCUMENT's ANSWER (letterlockref10): Proof. By an AI agent; no person has read it.
-/
namespace Go.Proofs.YtmmeklemaofmjaaGreat.Tre
open Go.RowKit Wire Term Draw Reg Clo

set_option linter.unusedSimpArgs false
set_option linter.unusedVariables false
/-- A row of one's own of these terms, and an error. -/
def Pb (w w' : World) (x : List Tm × Int) (e : Ending) : Prop := ∃ (v : Value) (zs : List ByteArray), bl zs = x.1 ∧ w'.ownsRow w.heap.size 9 1 v zs.length (sv zs) ∧ e = .returned (.tuple #[v, .int .i64 x.2])
theorem pb_nil (w w' : World) (f : Int) : Pb w w' ([], f) (.returned (.tuple #[.slice none 0 0, .int .i64 f])) := ⟨_, [], rfl, World.ownsRow_nil _ _ _ _, rfl⟩
end Go.Proofs.YtmmeklemaofmjaaGreat.Tre

/-
  OF NO PROGRAM: a range over a function whose rounds make memory of their own, over an iterator that is itself a range over a function: what an iterator keeps of its own (IterOK), and the loop (range_law). By an AI agent; no person has read it.
-/
namespace Go.Proofs.YtmmeklemaofmjaaGreat.Tre
open Go Go.RowKit

/-- What lies from B on, ahead of m, is as it was. -/
structure Keeps (B m : Nat) (A C : World) : Prop where
  size : A.heap.size ≤ C.heap.size
  same : ∀ k, B ≤ k → k < m → C.heap[k]? = A.heap[k]?

theorem Keeps.refl (B m : Nat) (A : World) : Keeps B m A A := ⟨Nat.le_refl _, fun _ _ _ => rfl⟩
theorem Keeps.trans {B m : Nat} {A C D : World} (h : Keeps B m A C) (k : Keeps B m C D) : Keeps B m A D :=
  ⟨Nat.le_trans h.size k.size, fun i h1 h2 => (k.same i h1 h2).trans (h.same i h1 h2)⟩
theorem Keeps.mono {B B' m : Nat} {A C : World} (h : Keeps B m A C) (hB : B ≤ B') : Keeps B' m A C := ⟨h.size, fun k h1 h2 => h.same k (by omega) h2⟩
theorem Keeps.less {B m m' : Nat} {A C : World} (h : Keeps B m A C) (hm : m' ≤ m) : Keeps B m' A C := ⟨h.size, fun k h1 h2 => h.same k h1 (by omega)⟩
theorem Keeps.of_below {B m : Nat} {A C : World} (h : Below A.heap.size A C) (hm : m ≤ A.heap.size) : Keeps B m A C :=
  ⟨h.size, fun i _ h2 => h.block i (by omega)⟩
theorem Keeps.cell {B m : Nat} {A C : World} (h : Keeps B m A C) {p : Addr} (h1 : B ≤ p.block) (h2 : p.block < m) : C.cell? p = A.cell? p :=
  World.cell?_of_block (h.same p.block h1 h2)

/-- An iterator that hands out these, one by one: each round keeps what the iterator has laid (from its call on, up to m, a number that is its heap's size ahead of the first round), and the caller's word J. -/
def IterOK {α : Type} (P : Program) (g : Nat) (lb : Array Value) (encs : α → Array Value) (xs : List α) (w : World) : Prop :=
  ∀ (l : Nat) (J : Nat → List α → World → Prop) (Jx : List α → World → Prop) (W : World), Below w.heap.size w W →
    (∀ m, OwnFrom W.heap.size (J m)) → OwnFrom W.heap.size Jx → (∀ m ys A, J m ys A → m ≤ A.heap.size) →
    (∀ A, Below W.heap.size W A → J A.heap.size [] A) →
    (∀ m pre x W1, W.heap.size ≤ m → J m pre W1 → pre ++ [x] <+: xs → YieldAt Fence.wide 0 P l (encs x) W1 fun e W' =>
      (e = .returned (.bool true) ∧ J m (pre ++ [x]) W' ∧ Keeps W.heap.size m W1 W') ∨ (e = .returned (.bool false) ∧ Jx (pre ++ [x]) W' ∧ Keeps W.heap.size m W1 W')) →
    Calls P g (#[.func (.yield l) #[] #[]] ++ lb) W fun e W' => (∃ v, e = .returned v) ∧ ((∃ m, W.heap.size ≤ m ∧ J m xs W') ∨ (∃ pre, pre <+: xs ∧ Jx pre W'))

/-- How a round's body may be left. -/
def roundEnd {α : Type} (B m : Nat) (I : Nat → List α → World → Prop) (Ix : List α → World → Prop) (ys : List α) (W : World) : Exit → Act → World → Prop
  | .normal, _, W' => Keeps B m W W' ∧ I m ys W'
  | .ret, _, W' => Keeps B m W W' ∧ Ix ys W'
  | _, _, _ => False

theorem room_any (k : Nat) : Fence.wide.room k := fun d h => by cases h
theorem RoundIn.any {m m' : Nat} {P : Program} {l : Nat} {f : FuncId} {tmps : Array Value} {assign body : Code} {w : World} {R : Ending → World → Prop}
    (h : RoundIn Fence.wide m P l f tmps assign body w R) : RoundIn Fence.wide m' P l f tmps assign body w R := ⟨h.1, fun c cs _ => h.2 c cs (room_any _)⟩
theorem RoundIn.inR {m m' : Nat} {P : Program} {l : Nat} (l' : Nat) {f : FuncId} {tmps : Array Value} {assign body : Code} {w : World} {R : Ending → World → Prop}
    (h : RoundIn Fence.wide m P l f tmps assign body w R) : RoundIn (Fence.wide.inRound l') m' P l f tmps assign body w R := ⟨h.1, fun c cs _ => h.2 c cs (room_any _)⟩
theorem heap_put_other {w : World} {r k : Nat} {o : Obj} (h : k ≠ r) : (w.putObj r o).heap[k]? = w.heap[k]? := World.putObj_heap_other h

/-- The loop. -/
theorem range_law {α : Type} {P : Program} {n : Nat} {g : Operand} {ps : Array Tmp} {assign body : Code} {Q : Exit → Act → World → Prop} {a : Act} {w : World} {gf : Nat} {lb : Array Value}
    (hg : a.eval g = .func (.func gf) #[] lb) (eg : ∀ args w, (callFunc gf args).run P w = .ok (.enter gf args) w)
    {encs : α → Array Value} {xs : List α} {w0 : World} (hseq : IterOK P gf lb encs xs w0) (hb0 : Below w0.heap.size w0 w) (hps : ∀ x, (encs x).size = ps.size)
    (I : Nat → List α → World → Prop) (Ix : List α → World → Prop) (hI : ∀ m, OwnFrom w.heap.size (I m)) (hIx : OwnFrom w.heap.size Ix) (hIm : ∀ m ys A, I m ys A → m ≤ A.heap.size)
    (hI0 : ∀ A, Below w.heap.size w A → I A.heap.size [] A) (a₁ : α → Nat → Act) (blk : α → Obj)
    (hassign : ∀ (l : Nat) (x : α) (W : World) (K : Act → World → Prop), K (a₁ x W.heap.size) (W.alloc (blk x)) →
      assign.wpIn (Fence.wide.inRound l) 0 P (Exit.then K (fun _ _ _ => False)) { tmps := (ps.zip (encs x)).foldl (fun t (p, v) => t.setIfInBounds p v) a.tmps, defers := [] } W)
    (hbody : ∀ (l m : Nat) (pre : List α) (x : α) (b : Nat) (W : World), w.heap.size ≤ m → I m pre W → pre ++ [x] <+: xs → w.heap.size ≤ b → W.heap[b]? = some (blk x) →
      body.wpIn (Fence.wide.inRound l) 0 P (roundEnd w.heap.size m I Ix (pre ++ [x]) W) (a₁ x b) W)
    (hdone : ∀ (m : Nat) (W : World), w.heap.size + 2 ≤ m → I m xs W → W.heap[w.heap.size]? = some (.deferred (some [])) → Q .normal { a with defers := { target := .collected w.heap.size, args := #[] } :: a.defers } W)
    (hstop : ∀ (pre : List α) (W : World), pre <+: xs → Ix pre W → W.heap[w.heap.size]? = some (.deferred (some [])) → Code.ret.wpIn Fence.wide n P Q { a with defers := { target := .collected w.heap.size, args := #[] } :: a.defers } W) :
    (Code.rangeFunc g ps assign body).wpIn Fence.wide n P Q a w := by
  refine wpIn_rangeFunc ?_
  intro fn hfn
  rw [show Fence.wide.round = none from rfl]
  obtain ⟨rec, hrec⟩ : ∃ rec : LoopState → Option Code → Loop, rec = fun st pe => { state := st, pending := pe, fn, tmps := a.tmps, params := ps, assign, body, defers := w.heap.size } := ⟨_, rfl⟩
  obtain ⟨W1, hW1⟩ : ∃ W1, (w.alloc (.deferred (some []))).alloc (.loop (rec .ready none)) = W1 := ⟨_, rfl⟩
  have hsz : W1.heap.size = w.heap.size + 2 := by rw [← hW1]; simp
  have hL1 : W1.heap[w.heap.size + 1]? = some (.loop (rec .ready none)) := by
    rw [← hW1]; have := World.alloc_heap_new (w.alloc (.deferred (some []))) (.loop (rec .ready none)); rwa [World.size_alloc] at this
  have hK1 : W1.heap[w.heap.size]? = some (.deferred (some [])) := by
    rw [← hW1]; exact (Below.heap_alloc _ _ _ (by simp)).trans (World.alloc_heap_new w _)
  have hbw : Below w.heap.size w W1 := by
    rw [← hW1]; exact ((Below.refl _ w).alloc (Nat.le_refl _) _).alloc (by simp) _
  have hb1 : Below w0.heap.size w0 W1 := hb0.trans (hbw.mono hb0.size)
  have kept : ∀ {A B : World} {row : Option Nat} {k : Nat} {o : Obj}, k < W1.heap.size → A.grownBy B row → (∀ r, row = some r → W1.heap.size ≤ r ∧ ∃ o : Obj, A.heap[r]? = some o ∧ o.isCells = false) → A.heap[k]? = some o → B.heap[k]? = some o := fun {A B row k o} hk hg hr h =>
    (hg.block k (Array.getElem?_eq_some_iff.1 h).1 (fun e => by have := (hr k e.symm).1; omega)).trans h
  have hmore : ∀ {A : World} {row : Option Nat}, (∀ r, row = some r → W1.heap.size ≤ r ∧ ∃ o : Obj, A.heap[r]? = some o ∧ o.isCells = false) → (∀ r, row = some r → w.heap.size ≤ r ∧ ∃ o : Obj, A.heap[r]? = some o ∧ o.isCells = false) :=
    fun hr r e => ⟨by have := (hr r e).1; omega, (hr r e).2⟩
  refine ⟨w.heap.size + 1, [{ target := .collected w.heap.size, args := #[] }], W1, { target := .fn (.func gf) lb, args := #[.func (.yield (w.heap.size + 1)) #[] #[]] }, W1, gf,
    #[.func (.yield (w.heap.size + 1)) #[] #[]] ++ lb, W1, ?_, ?_, ?_, ?_, fun h => (by cases h), ?_⟩
  · rw [← hW1, hrec]; exact run_enterLoop_outer _ _ _ _ _
  · simp only [resolve, hg]
    simp [go_sem]
  · intro f' _; trivial
  · simp [invoke, go_sem, eg]
  · refine callsIn_wide.2 ((hseq (w.heap.size + 1)
      (fun m pre W => I m pre W ∧ W.heap[w.heap.size + 1]? = some (.loop (rec .ready none)) ∧ W.heap[w.heap.size]? = some (.deferred (some [])))
      (fun pre W => Ix pre W ∧ W.heap[w.heap.size + 1]? = some (.loop (rec .done (some .ret))) ∧ W.heap[w.heap.size]? = some (.deferred (some [])))
      W1 hb1
      (fun m s A B row hs hg' hr => ⟨hI m s A B row hs.1 hg' (hmore hr), kept (by omega) hg' hr hs.2.1, kept (by omega) hg' hr hs.2.2⟩)
      (fun s A B row hs hg' hr => ⟨hIx s A B row hs.1 hg' (hmore hr), kept (by omega) hg' hr hs.2.1, kept (by omega) hg' hr hs.2.2⟩)
      (fun m ys A h => hIm m ys A h.1)
      (fun A hA => ⟨hI0 A (hbw.trans (hA.mono (by omega))), (hA.block _ (by omega)).trans hL1, (hA.block _ (by omega)).trans hK1⟩)
      ?_).mono ?_)
    · rintro m pre x W hm ⟨hi, hl, hk⟩ hpre
      have hmW := hIm _ _ _ hi
      have hlt : w.heap.size + 1 < W.heap.size := (Array.getElem?_eq_some_iff.1 hl).1
      have hy := run_yield (P := P) (args := encs x) hl (by rw [hrec]; exact hps x)
      rw [hrec] at hy
      have hl1 : (W.alloc (blk x)).heap[w.heap.size + 1]? = some (.loop (rec .ready none)) := (Below.heap_alloc _ _ _ hlt).trans hl
      have hk1 : (W.alloc (blk x)).heap[w.heap.size]? = some (.deferred (some [])) := (Below.heap_alloc _ _ _ (by omega)).trans hk
      have hn1 : (W.alloc (blk x)).heap[W.heap.size]? = some (blk x) := World.alloc_heap_new _ _
      have hs1 : (W.alloc (blk x)).heap.size = W.heap.size + 1 := World.size_alloc _ _
      refine ⟨fn, _, assign, body, hy, roundIn_of_wpIn hfn (hassign _ x W _ ⟨_, run_beginRound hl1 (by rw [hrec]), ?_⟩)⟩
      have hi2 := (hI m).putObj (.loop { rec .ready none with state := .busy }) ((hI m).alloc (blk x) hi) (by omega) hl1 rfl
      obtain ⟨W2, hW2⟩ : ∃ W2, (W.alloc (blk x)).putObj (w.heap.size + 1) (.loop { rec .ready none with state := .busy }) = W2 := ⟨_, rfl⟩
      have hl2 : W2.heap[w.heap.size + 1]? = some (.loop { rec .ready none with state := .busy }) := by rw [← hW2]; exact World.putObj_heap_same (by omega)
      have hk2 : W2.heap[w.heap.size]? = some (.deferred (some [])) := by rw [← hW2]; exact (heap_put_other (by omega)).trans hk1
      have hn2 : W2.heap[W.heap.size]? = some (blk x) := by rw [← hW2]; exact (heap_put_other (by omega)).trans hn1
      have hs2 : W2.heap.size = W.heap.size + 1 := by rw [← hW2]; simp
      have ho2 : ∀ k, k < W.heap.size → k ≠ w.heap.size + 1 → W2.heap[k]? = W.heap[k]? := fun k h1 h2 => by
        rw [← hW2]; exact (heap_put_other h2).trans (Below.heap_alloc _ _ _ h1)
      rw [hW2] at hi2 ⊢
      refine wpIn_mono (hbody _ m pre x W.heap.size W2 (by omega) hi2 hpre (by omega) hn2) ?_
      have fin : ∀ (jump : Option Code) (W3 : World), Keeps w.heap.size m W2 W3 →
          (Instr.endRound (w.heap.size + 1) jump).run P W3 = .ok (.bool jump.isNone) (W3.putObj (w.heap.size + 1) (.loop (rec (if jump.isNone then .ready else .done) jump))) ∧
          W3.heap[w.heap.size + 1]? = some (.loop { rec .ready none with state := .busy }) ∧
          (W3.putObj (w.heap.size + 1) (.loop (rec (if jump.isNone then .ready else .done) jump))).heap[w.heap.size + 1]? = some (.loop (rec (if jump.isNone then .ready else .done) jump)) ∧
          (W3.putObj (w.heap.size + 1) (.loop (rec (if jump.isNone then .ready else .done) jump))).heap[w.heap.size]? = some (.deferred (some [])) ∧
          Keeps W1.heap.size m W (W3.putObj (w.heap.size + 1) (.loop (rec (if jump.isNone then .ready else .done) jump))) := fun jump W3 hk3 => by
        have hl3 := (hk3.same (w.heap.size + 1) (by omega) (by omega)).trans hl2
        have hd3 := (hk3.same w.heap.size (by omega) (by omega)).trans hk2
        have hs3 := hk3.size
        have := run_endRound (P := P) jump hl3
        rw [hrec] at this hl3 ⊢
        refine ⟨this, hl3, World.putObj_heap_same (by omega), (heap_put_other (by omega)).trans hd3, ⟨by rw [World.putObj_size]; omega, fun k h1 h2 => ?_⟩⟩
        rw [heap_put_other (by omega), hk3.same k (by omega) h2]
        exact ho2 k (by omega) (by omega)
      rintro e a3 W3 hp
      cases e with
      | normal =>
        obtain ⟨hk3, hi3⟩ := hp
        obtain ⟨hr, hl3, hl4, hk4, hkp⟩ := fin none W3 hk3
        exact ⟨_, _, hr, .inl ⟨rfl, ⟨(hI m).putObj _ hi3 (by omega) hl3 rfl, hl4, hk4⟩, hkp⟩⟩
      | ret =>
        obtain ⟨hk3, hi3⟩ := hp
        obtain ⟨hr, hl3, hl4, hk4, hkp⟩ := fin (some .ret) W3 hk3
        exact ⟨_, _, hr, .inr ⟨rfl, ⟨hIx.putObj _ hi3 (by omega) hl3 rfl, hl4, hk4⟩, hkp⟩⟩
      | exit id => exact hp.elim
      | goto t => exact hp.elim
      | panic ch => exact hp.elim
      | outgrown => exact hp.elim
    · rintro e W2 ⟨⟨v, rfl⟩, (⟨m, hm, hi, hl, hk⟩ | ⟨pre, hpre, hi, hl, hk⟩)⟩
      · exact ⟨none, _, by have := run_endLoop (P := P) hl (by rw [hrec]; simp); rw [hrec] at this; exact this, hdone m _ (by omega) ((hI m).putObj _ hi (by omega) hl rfl) ((heap_put_other (by omega)).trans hk)⟩
      · exact ⟨some .ret, _, by have := run_endLoop (P := P) hl (by rw [hrec]; simp); rw [hrec] at this; exact this, hstop pre _ hpre (hIx.putObj _ hi (by omega) hl rfl) ((heap_put_other (by omega)).trans hk)⟩
end Go.Proofs.YtmmeklemaofmjaaGreat.Tre
