/-
  B1. By an AI agent.
-/
import Derived.Test.YtbdealddjonobaaGreatYZ
import Derived.Deep.RegionHeld
import Derived.Still
import Derived.WalkKit
import Derived.Below
import Derived.Deep.Slices
import Derived.Deep.Fields
import Derived.ChangeSame
import Derived.Laws.AppendOwnNone
import Derived.Laws.Cover1
import Derived.Test.YtbdealddjonobaaGreatYW0
import Derived.Test.YtbdealddjonobaaGreatYH1
import Derived.Test.YtbdealddjonobaaGreatYT1
import Derived.Test.YtbdealddjonobaaGreatYD1
import Derived.Test.YtbdealddjonobaaGreatYG1
import Derived.Test.YtbdealddjonobaaGreatYW1
import Derived.Test.YtbdealddjonobaaGreatYG2
namespace Go.Proofs.YtbdealddjonobaaGreat.Ord
section
variable {P : Program} {ops : Array Oper} {Q : Exit → Act → World → Prop} {md : Region.Mode} {S : World → Prop}

def Comes (P : Program) (S : World → Prop) (v : Value) : Result Next → Prop
  | .ok (.value u) w' => u = v ∧ S w'
  | .ok (.enter f args) w' => Calls P f args w' fun e w'' => e = .returned v ∧ S w''
  | _ => False
def Gives (P : Program) (ops : Array Oper) (S : World → Prop) (o : Oper) (v : Value) (a : Act) : Prop :=
  (Region.wanted o (yielded ops a.tmps) = true ∧ ∀ w, S w → Comes P S v ((execOp a.eval o).run P w)) ∨ (Region.wanted o (yielded ops a.tmps) = false ∧ v = undef)
theorem Gives.same {o : Oper} {v : Value} {a a' : Act} (hy : Gives P ops S o v a) (he : execOp a'.eval o = execOp a.eval o)
    (hw : Region.wanted o (yielded ops a'.tmps) = Region.wanted o (yielded ops a.tmps)) : Gives P ops S o v a' := by
  unfold Gives at *
  rw [he, hw]
  exact hy
theorem Gives.step {i : Nat} {o : Oper} {v : Value} {a : Act} (hi : ops[i]? = some o) (hy : Gives P ops S o v a) {K : Act → World → Prop} {w : World} (hS : S w) (h : ∀ w', S w' → K (a.put o.dst v) w') : wpOp P ops Q i K a w := by
  unfold Go.wpOp
  simp only [hi]
  rcases hy with ⟨hw, hv⟩ | ⟨hw, rfl⟩
  · simp only [hw, if_true, Oper.wp]
    have h2 := hv w hS
    generalize (execOp a.eval o).run P w = r at h2
    refine .inl ?_
    cases r with
    | ok n w' =>
      cases n <;> simp only [Comes] at h2
      case value u =>
        obtain ⟨rfl, h3⟩ := h2
        exact h _ h3
      case enter f args =>
        simp only [Oper.upon]
        refine Calls.mono h2 fun e w'' he => ?_
        obtain ⟨rfl, h3⟩ := he
        exact h _ h3
    | halt x w' => cases h2
  · simp only [hw, Bool.false_eq_true, if_false]; exact h _ hS
def wpAnyS (P : Program) (md : Region.Mode) (ops : Array Oper) (Q : Exit → Act → World → Prop) (S : World → Prop) : Nat → Array Bool → Act → Prop
  | 0, listed, a => Region.ready md ops listed = [] ∧ ∀ w, S w → Q .normal a w
  | fuel + 1, listed, a => (Region.ready md ops listed = [] → ∀ w, S w → Q .normal a w) ∧
    ∀ i ∈ Region.ready md ops listed, ∃ o v, ops[i]? = some o ∧ Gives P ops S o v a ∧ wpAnyS P md ops Q S fuel (listed.setIfInBounds i true) (a.put o.dst v)
theorem any_of_given : ∀ (fuel : Nat) (listed : Array Bool) (a : Act), wpAnyS P md ops Q S fuel listed a → ∀ w, S w → wpAny P md ops Q fuel listed a w
  | 0, _, _, h, w, hS => ⟨h.1, h.2 w hS⟩
  | fuel + 1, _, _, h, w, hS => ⟨fun h0 => h.1 h0 w hS, fun i hi => by
      obtain ⟨o, v, ho, hg, hr⟩ := h.2 i hi
      exact hg.step ho hS fun w' hS' => any_of_given fuel _ _ hr w' hS'⟩
theorem given_first {i : Nat} {oi : Oper} {v : Value} (hi : ops[i]? = some oi) (hsel : ∀ (j : Nat) (o : Oper) cs b, ops[j]? = some o → o.op ≠ .select cs b) :
    ∀ (fuel : Nat) (listed : Array Bool) (a : Act),
      (∀ j oj, ops[j]? = some oj → j ≠ i → listed.getD j true = false → (∀ e ∈ oj.after, Region.binds md e = true → e.on ≠ i) → oi.apart ops oj = true) →
      i ∈ Region.ready md ops listed → Gives P ops S oi v a →
      wpAnyS P md ops Q S fuel (listed.setIfInBounds i true) (a.put oi.dst v) → wpAnyS P md ops Q S (fuel + 1) listed a := by
  intro fuel
  induction fuel with
  | zero =>
    intro listed a _ hr hy H
    refine ⟨fun h => (by rw [h] at hr; cases hr), fun j hj => ?_⟩
    by_cases hji : j = i
    · subst hji; exact ⟨oi, v, hi, hy, H⟩
    · have := ready_mono hj hji
      rw [H.1] at this
      cases this
  | succ fuel ih =>
    intro listed a hfree hr hy H
    refine ⟨fun h => (by rw [h] at hr; cases hr), fun j hj => ?_⟩
    by_cases hji : j = i
    · subst hji; exact ⟨oi, v, hi, hy, H⟩
    · obtain ⟨oj, u, hoj, hgj, hrest⟩ := H.2 j (ready_mono hj hji)
      obtain ⟨hjun, oj', hoj', hall⟩ := mem_ready.1 hj
      obtain rfl : oj = oj' := Option.some.inj (hoj.symm.trans hoj')
      have hnot : ∀ e ∈ oj.after, Region.binds md e = true → e.on ≠ i := fun e he hb heq => by
        have h1 := hall e he hb
        have h0 := (mem_ready.1 hr).1
        rw [heq] at h1
        rcases Nat.lt_or_ge i listed.size with h' | h'
        · simp [h'] at h0 h1; rw [h0] at h1; cases h1
        · simp [Array.getElem?_eq_none h'] at h1
      obtain ⟨h1, h2, h3⟩ := Oper.apart_spec (hfree j oj hoj hji hjun hnot)
      have hfree' : ∀ k ok, ops[k]? = some ok → k ≠ i → (listed.setIfInBounds j true).getD k true = false →
          (∀ e ∈ ok.after, Region.binds md e = true → e.on ≠ i) → oi.apart ops ok = true := fun k ok hk hki hun hno => by
        refine hfree k ok hk hki ?_ hno
        by_cases hjk : j = k
        · subst hjk; exact hjun
        · rw [getD_set_ne true hjk] at hun; exact hun
      refine ⟨oj, u, hoj, hgj.same (execOp_put oj (fun cs b => hsel j oj cs b hoj) a oi.dst v h1).symm (wanted_put oj a oi.dst v h1).symm, ?_⟩
      refine ih (listed.setIfInBounds j true) (a.put oj.dst u) hfree' (ready_mono hr (Ne.symm hji)) (hy.same (execOp_put oi (fun cs b => hsel i oi cs b hi) a oj.dst u h3) (wanted_put oi a oj.dst u h3)) ?_
      rw [Array.setIfInBounds_comm _ _ hji, ← Act.put_comm a v u h2]
      exact hrest

theorem skip {i : Nat} {oi : Oper} {fuel : Nat} {listed : Array Bool} {a : Act} (hi : ops[i]? = some oi)
    (hs : Region.noSelect ops = true) (hf : Region.free md ops listed i = true) (hr : (Region.ready md ops listed).contains i = true)
    (hw : Region.wanted oi (yielded ops a.tmps) = false)
    (h : wpAnyS P md ops Q S fuel (listed.setIfInBounds i true) (a.put oi.dst undef)) : wpAnyS P md ops Q S (fuel + 1) listed a :=
  given_first hi (Region.noSelect_spec hs) fuel listed a (Region.free_spec hi hf) (by simpa using hr) (.inr ⟨hw, rfl⟩) h
theorem region {id : Nat} {a : Act} {w : World} (hm : P.follows .mixedOrders = true) (hS : S w.drew)
    (h : wpAnyS P .any ops Q S ops.size (Array.replicate ops.size false) a) : (Code.region id ops true).wp P Q a w :=
  wp_region_any hm (any_of_given _ _ _ h _ hS)
def wpG (P : Program) (ops : Array Oper) (Q : Exit → Act → World → Prop) (S : World → Prop) : List Oper → Act → Prop
  | [], a => ∀ w, S w → Q .normal a w
  | o :: l, a => ∃ v, Gives P ops S o v a ∧ wpG P ops Q S l (a.put o.dst v)
theorem given_lex (hs : Region.noSelect ops = true) : ∀ (l : List Oper) (k : Nat) (listed : Array Bool) (a : Act), (∀ j, l[j]? = ops[k + j]?) →
    Region.lexFrom md ops l.length k listed = true → wpG P ops Q S l a → wpAnyS P md ops Q S l.length listed a
  | [], _, _, _, _, hB, h => ⟨by simpa [Region.lexFrom] using hB, h⟩
  | o :: l, k, listed, a, hl, hB, h => by
    have h0 : ops[k]? = some o := by simpa using (hl 0).symm
    simp only [List.length_cons, Region.lexFrom, Bool.and_eq_true] at hB
    obtain ⟨⟨hr, hf⟩, hB'⟩ := hB
    obtain ⟨v, hy, hK⟩ := h
    exact given_first h0 (Region.noSelect_spec hs) l.length listed a (Region.free_spec h0 hf) (by simpa using hr) hy
      (given_lex hs l (k + 1) _ _ (fun j => by have := hl (j + 1); simpa [Nat.add_assoc, Nat.add_comm 1 j] using this) hB' hK)
theorem region_lit {id : Nat} {l : List Oper} {a : Act} {w : World} (hm : P.follows .mixedOrders = true) (hB : Region.lexB .any l.toArray = true) (hS : S w.drew) (h : wpG P l.toArray Q S l a) : (Code.region id l.toArray true).wp P Q a w := by
  simp only [Region.lexB, Bool.and_eq_true] at hB
  refine region hm hS ?_
  have := given_lex (md := .any) hB.1 l 0 (Array.replicate l.toArray.size false) a (by simp) (by simpa using hB.2) h
  simpa using this
theorem stepR {o : Oper} {l : List Oper} {v : Value} {a : Act} (hw : Region.wanted o (yielded ops a.tmps) = true) (hy : ∀ w, S w → (execOp a.eval o).run P w = .ok (.value v) w) (h : wpG P ops Q S l (a.put o.dst v)) : wpG P ops Q S (o :: l) a :=
  ⟨v, .inl ⟨hw, fun w hS => by rw [hy w hS]; exact ⟨rfl, hS⟩⟩, h⟩
theorem stepC {o : Oper} {l : List Oper} {v : Value} {f : FuncId} {args : Array Value} {a : Act} (hw : Region.wanted o (yielded ops a.tmps) = true) (he : ∀ w, S w → (execOp a.eval o).run P w = .ok (.enter f args) w)
    (hc : ∀ w, S w → Calls P f args w fun e w' => e = .returned v ∧ S w') (h : wpG P ops Q S l (a.put o.dst v)) : wpG P ops Q S (o :: l) a :=
  ⟨v, .inl ⟨hw, fun w hS => by rw [he w hS]; exact hc w hS⟩, h⟩
theorem stepS {o : Oper} {l : List Oper} {a : Act} (hw : Region.wanted o (yielded ops a.tmps) = false) (h : wpG P ops Q S l (a.put o.dst undef)) : wpG P ops Q S (o :: l) a := ⟨undef, .inr ⟨hw, rfl⟩, h⟩
theorem stepD {a : Act} (h : ∀ w, S w → Q .normal a w) : wpG P ops Q S [] a := h
end
end Go.Proofs.YtbdealddjonobaaGreat.Ord

namespace Go.Proofs.YtbdealddjonobaaGreat.Acts
open Go.RowKit

def IsActs (nf : Nat) (w : World) (a : Option Addr) (len cap : Nat) (Z : Nat → Nat → Int) : Prop :=
  (a = none ∧ len = 0 ∧ cap = 0) ∨
  ∃ x, a = some x ∧ len ≤ cap ∧ cap ≤ maxLen ∧ ∀ i j, i < len → j < nf → w.cell? ((x.add (i * nf)).add j) = some (.int .i64 (Z i j)) ∧ (Lit.int .i64 (Z i j)).wf = true
section
variable {H : Type} {enc : TypeId × Value → H} {P : Program} {w : World} {base : Nat} {spare : Nat → Bool} {held : Bool}
theorem acts_open {t e : TypeId} {fs : Array Field} {fuel : Nat} {a : Option Addr} {len cap : Nat} {x : DataW H × List MemPlace} (ht : P.underlying t = some (.slice e)) (he : P.underlying e = some (.struct fs))
    (hone : Go.Deep.oneCellFields P fs = true) (hC : P.cellsOf e = fs.size) (hint : ∀ (j : Nat) (f : Field), fs[j]? = some f → P.underlying f.type = some (.int .i64))
    (h : DataW.trod enc P w base spare held fuel t [.slice a len cap] = some x) : ∃ Z, IsActs fs.size w a len cap Z := by
  rcases Go.Deep.open_slice ht h with ⟨h0, _⟩ | ⟨b, l, c, m, n, D, Pl, hcs, _, hl, hm, hmm, _, hi⟩
  · simp only [List.cons.injEq, Value.slice.injEq, and_true] at h0
    exact ⟨fun _ _ => 0, .inl h0⟩
  simp only [List.cons.injEq, Value.slice.injEq, and_true] at hcs
  obtain ⟨rfl, rfl, rfl⟩ := hcs
  have hlm : len ≤ m := by rw [hmm]; split <;> omega
  have key : ∀ i j, ∃ z : Int, i < len → j < fs.size → w.cell? ((b.add (i * fs.size)).add j) = some (.int .i64 z) ∧ (Lit.int .i64 z).wf = true := by
    intro i j
    by_cases hij : i < len ∧ j < fs.size
    · obtain ⟨cs', h1, h2⟩ := hi i (by omega)
      rw [hC] at h1
      obtain ⟨_, hlen, hcell⟩ := World.cells?_some h1
      obtain ⟨xs, k, _, _, _, hxl, hf⟩ := DataW.trod_struct he h2
      have hfj : fs[j]? = some fs[j] := Array.getElem?_eq_getElem hij.2
      obtain ⟨ho, hk⟩ := Go.Deep.hone_of hone j _ hfj
      have h3 := hf j _ hfj
      have hjl : j < cs'.length := by omega
      rw [ho, hk, List.drop_eq_getElem_cons hjl, List.take_succ_cons, List.take_zero] at h3
      cases hx : xs[j]? with
      | none =>
        have := List.getElem?_eq_none_iff.1 hx
        omega
      | some y =>
        rw [hx] at h3
        obtain ⟨z, hz, _, hw⟩ := DataW.trod_int (hint j _ hfj) h3
        refine ⟨z, fun _ _ => ⟨?_, hw⟩⟩
        rw [hcell j hij.2, List.getElem?_eq_getElem hjl]
        exact congrArg some (List.cons.inj hz).1
    · exact ⟨0, fun h1 h2 => absurd ⟨h1, h2⟩ hij⟩
  exact ⟨fun i j => Classical.choose (key i j), .inr ⟨b, rfl, hl, hm, fun i j h1 h2 => Classical.choose_spec (key i j) h1 h2⟩⟩
end
def AReads (nf : Nat) (w : World) (a : Option Addr) (n : Nat) (Z : Nat → Nat → Int) : Prop :=
  ∀ i, i < n → ∃ b off, a = some ⟨b, off, none⟩ ∧ b < w.heap.size ∧ ∀ j, j < nf → w.cell? ⟨b, off + i * nf + j, none⟩ = some (.int .i64 (Z i j)) ∧ (-9223372036854775808 ≤ Z i j ∧ Z i j ≤ 9223372036854775807)
theorem acts_of {nf : Nat} {w : World} {a : Option Addr} {len cap : Nat} {Z : Nat → Nat → Int} (hnf : 0 < nf) (h : IsActs nf w a len cap Z) : len ≤ cap ∧ cap ≤ maxLen ∧ AReads nf w a len Z := by
  rcases h with ⟨rfl, rfl, rfl⟩ | ⟨x, rfl, h1, h2, h3⟩
  · exact ⟨Nat.le_refl _, Nat.zero_le _, fun i hi => absurd hi (Nat.not_lt_zero _)⟩
  refine ⟨h1, h2, fun i hi => ?_⟩
  have c0 := (h3 0 0 (by omega) hnf).1
  obtain ⟨b, off, sp⟩ := x
  have z0 : ∀ y : Addr, y.add 0 = y := fun y => by simp [Addr.add]
  rw [Nat.zero_mul, z0, z0] at c0
  have hb : sp = none ∧ b < w.heap.size := by
    unfold World.cell? at c0
    simp only at c0
    split at c0
    · rename_i h0
      refine ⟨?_, (Array.getElem?_eq_some_iff.1 h0).1⟩
      cases sp with
      | none => rfl
      | some q => simp at c0
    · cases c0
  obtain ⟨rfl, hlt⟩ := hb
  have e0 : ∀ k, (⟨b, off, none⟩ : Addr).add k = ⟨b, off + k, none⟩ := fun k => by
    unfold Addr.add
    split
    · rename_i h0; rw [h0]; rfl
    · rfl
  refine ⟨b, off, rfl, hlt, fun j hj => ?_⟩
  obtain ⟨h4, h5⟩ := h3 i j hi hj
  rw [e0] at h4
  have e1 : (⟨b, off + i * nf, none⟩ : Addr).add j = ⟨b, off + i * nf + j, none⟩ := by
    unfold Addr.add
    split
    · rename_i h0; rw [h0]; rfl
    · rfl
  rw [e1] at h4
  exact ⟨h4, Wire.int_i64 h5⟩
end Go.Proofs.YtbdealddjonobaaGreat.Acts

namespace Go.Proofs.YtbdealddjonobaaGreat.Mta
open Wire Term Rig

def sort : List Tm → List Tm
  | [] => []
  | x :: l => ins x (sort l)
theorem mem_sort {x : Tm} : ∀ {l : List Tm}, x ∈ sort l ↔ x ∈ l
  | [] => Iff.rfl
  | y :: l => by
    show x ∈ ins y (sort l) ↔ _
    rw [mem_ins, mem_sort, List.mem_cons]
theorem sort_len : ∀ {l : List Tm}, (sort l).length = l.length
  | [] => rfl
  | y :: l => by
    show (ins y (sort l)).length = _
    rw [ins_len, sort_len, List.length_cons]
theorem lsd_sort {o : Tm} : ∀ {l : List Tm}, (∀ x ∈ l, nm x = true ∧ x ≠ o) → l.Nodup → Lsd o (sort l)
  | [], _, _ => lsd_nil o
  | y :: l, h, hn => by
    obtain ⟨h1, h2⟩ := List.nodup_cons.1 hn
    exact lsd_ins (h y (by simp)).1 (h y (by simp)).2 (lsd_sort (fun x hx => h x (by simp [hx])) h2) (fun hm => h1 (mem_sort.1 hm))
def oth (r : Rt) : List Tm := sort (r.rs ++ r.ws)
theorem lsd_nodup {o : Tm} {l : List Tm} (h : Lsd o l) : l.Nodup := h.2.imp fun {a b} hab e => by rw [e, lt_irrefl] at hab; cases hab
theorem oth_nodup {r : Rt} (h : RR r) : (r.rs ++ r.ws).Nodup := by
  obtain ⟨_, _, _, _, a5, a6, a7⟩ := h
  exact List.nodup_append.2 ⟨lsd_nodup a5, lsd_nodup a6, fun a ha b hb e => a7 a ha (by rw [e]; exact hb)⟩
theorem oth_names {r : Rt} (h : RR r) : ∀ x ∈ r.rs ++ r.ws, nm x = true ∧ x ≠ r.o := fun x hx => by
  obtain ⟨_, _, _, _, a5, a6, _⟩ := h
  rcases List.mem_append.1 hx with hx | hx
  · exact a5.1 x hx
  · exact a6.1 x hx
theorem lsd_oth {r : Rt} (h : RR r) : Lsd r.o (oth r) := lsd_sort (oth_names h) (oth_nodup h)
theorem mem_oth {r : Rt} {x : Tm} : x ∈ oth r ↔ x ∈ r.rs ∨ x ∈ r.ws := by unfold oth; rw [mem_sort, List.mem_append]
theorem oth_len (r : Rt) : (oth r).length = r.rs.length + r.ws.length := by unfold oth; rw [sort_len, List.length_append]
theorem oth_is {r : Rt} (h : RR r) {l : List Tm} (hl : l.Pairwise fun a b => lt a b = true) (hm : ∀ x, x ∈ l ↔ x ∈ r.rs ++ r.ws) : l = oth r :=
  lsd_eq (o := r.o) ⟨fun x hx => oth_names h x ((hm x).1 hx), hl⟩ (lsd_oth h) fun x => by rw [hm, mem_oth, List.mem_append]

structure Mt where
  r : Rt
  ver : Nat
  vf : List Tm
  bs : List (Tm × Tm)
  sig : Tm
def mzero : Mt := ⟨zero, 0, [], [], []⟩
def Kds (k : Nat) (l : List Tm) : Prop := ∀ t ∈ l, kind t = k
instance (k : Nat) (l : List Tm) : Decidable (Kds k l) := inferInstanceAs (Decidable (∀ t ∈ l, kind t = k))
def MR (m : Mt) : Prop := RR m.r ∧ (m.vf.length : Int) = m.r.ep + 1 ∧ kind m.sig = 103 ∧ Kds 117 m.vf ∧ m.bs.map (·.1) = oth m.r ∧ Kds 98 (m.bs.map (·.2))
instance (m : Mt) : Decidable (MR m) := inferInstanceAs (Decidable (_ ∧ _ ∧ _ ∧ _ ∧ _ ∧ _))
def bodyB (m : Mt) : Tm := putAll [rowR m.r, put m.ver, putAll m.vf, putAll (m.bs.map fun b => putAll [b.1, b.2])]
def checkM (m : Mt) (p o f : Tm) : Int :=
  if ¬ MR m ∨ kind p ≠ 117 then 1
  else if (ofText (bodyB m)).2 ≠ 0 ∨ verify p (ofText (bodyB m)).1 m.sig ≠ 0 then 7
  else if m.r.o ≠ o ∨ m.r.f ≠ f then 3 else 0
def told (secret b : Tm) : Tm × Tm × Int :=
  if (unbox secret b).2 ≠ 0 ∨ (unbox secret b).1.headD 0 ≠ 112 then ([], [], 7)
  else if ((parts (unbox secret b).1).1.getD 1 []).headD 0 = 116 then ((parts (unbox secret b).1).1.getD 0 [], [], 0)
  else ((parts (unbox secret b).1).1.getD 0 [], (parts (unbox secret b).1).1.getD 1 [], 0)
def openM (m : Mt) (u secret : Tm) : Tm × Tm × Int :=
  if ¬ MR m ∨ ¬ right secret = true then ([], [], 1)
  else match m.bs.find? (fun b => b.1 == u) with
    | none => ([], [], 6)
    | some b => told secret b.2
def pub (known : List (Tm × Tm)) (s : Tm) : Tm × Int := match known.find? (fun k => k.1 == s) with
  | none => ([], 4)
  | some k => if kind k.2 = 117 then (k.2, 0) else ([], 1)
def pubs (known : List (Tm × Tm)) : List Tm → List Tm × Int
  | [] => ([], 0)
  | s :: l => if (pub known s).2 ≠ 0 then ([], (pub known s).2) else if (pubs known l).2 ≠ 0 then ([], (pubs known l).2) else ((pub known s).1 :: (pubs known l).1, 0)
def vfs : List Tm → List Tm × Int
  | [] => ([], 0)
  | s :: l => if (one 117 s).2 ≠ 0 then ([], (one 117 s).2) else if (vfs l).2 ≠ 0 then ([], (vfs l).2) else ((one 117 s).1 :: (vfs l).1, 0)
def emptyT : Tm := [116, 0]
def blk (r : Rt) (s state signer p : Tm) : (Tm × Tm) × Int :=
  if (two 112 state (if s ∈ r.ws then signer else emptyT)).2 ≠ 0 then (([], []), (two 112 state (if s ∈ r.ws then signer else emptyT)).2)
  else ((s, (box p (two 112 state (if s ∈ r.ws then signer else emptyT)).1).1), (box p (two 112 state (if s ∈ r.ws then signer else emptyT)).1).2)
def blkAll (r : Rt) (state signer : Tm) : List Tm → List Tm → List (Tm × Tm) × Int
  | s :: l, p :: q => if (blk r s state signer p).2 ≠ 0 then ([], (blk r s state signer p).2) else if (blkAll r state signer l q).2 ≠ 0 then ([], (blkAll r state signer l q).2) else ((blk r s state signer p).1 :: (blkAll r state signer l q).1, 0)
  | _, _ => ([], 0)
def built (r : Rt) (ver : Nat) (v : List Tm) (b : List (Tm × Tm)) (secret : Tm) : Mt × Int :=
  if (ofText (bodyB ⟨r, ver, v, b, []⟩)).2 ≠ 0 then (mzero, (ofText (bodyB ⟨r, ver, v, b, []⟩)).2)
  else if (two 103 secret (ofText (bodyB ⟨r, ver, v, b, []⟩)).1).2 ≠ 0 then (mzero, (two 103 secret (ofText (bodyB ⟨r, ver, v, b, []⟩)).1).2)
  else (⟨r, ver, v, b, (two 103 secret (ofText (bodyB ⟨r, ver, v, b, []⟩)).1).1⟩, 0)
def build (secret : Tm) (r : Rt) (ver : Nat) (root : Tm) (sgs : List Tm) (known : List (Tm × Tm)) : Mt × Int :=
  if ¬ right secret = true ∨ ¬ right root = true ∨ ¬ RR r ∨ (sgs.length : Int) ≠ r.ep + 1 ∨ ¬ (∀ t ∈ sgs, right t = true) then (mzero, 1)
  else if (pubs known (oth r)).2 ≠ 0 then (mzero, (pubs known (oth r)).2)
  else if (vfs sgs).2 ≠ 0 then (mzero, (vfs sgs).2)
  else if (Reg.state root r.ep).2 ≠ 0 ∧ oth r ≠ [] then (mzero, (Reg.state root r.ep).2)
  else if (blkAll r (Reg.state root r.ep).1 (sgs.getD r.ep.toNat []) (oth r) (pubs known (oth r)).1).2 ≠ 0 then (mzero, (blkAll r (Reg.state root r.ep).1 (sgs.getD r.ep.toNat []) (oth r) (pubs known (oth r)).1).2)
  else built r ver (vfs sgs).1 (blkAll r (Reg.state root r.ep).1 (sgs.getD r.ep.toNat []) (oth r) (pubs known (oth r)).1).1 secret
end Go.Proofs.YtbdealddjonobaaGreat.Mta

namespace Go.Proofs.YtbdealddjonobaaGreat.Mta
open Go.RowKit Wire Rig

def pl (ks : List (ByteArray × ByteArray)) : List (Tm × Tm) := ks.map fun k => (k.1.data.toList, k.2.data.toList)
theorem pl_len (ks : List (ByteArray × ByteArray)) : (pl ks).length = ks.length := by simp [pl]
theorem pl_get {ks : List (ByteArray × ByteArray)} {k : Nat} (hk : k < ks.length) : (pl ks).take (k + 1) = (pl ks).take k ++ [((ks.getD k default).1.data.toList, (ks.getD k default).2.data.toList)] := by
  have e : (pl ks)[k]? = some ((ks.getD k default).1.data.toList, (ks.getD k default).2.data.toList) := by
    unfold pl
    rw [List.getElem?_map, List.getElem?_eq_getElem hk]
    simp [List.getD, hk]
  rw [List.take_add_one, e]; rfl
def PReads (w : World) (a : Option Addr) (ks : List (ByteArray × ByteArray)) : Prop := ∀ j < ks.length, ∃ b off, a = some ⟨b, off, none⟩ ∧ b < w.heap.size ∧ w.cell? ⟨b, off + j * 2, none⟩ = some (.string (ks.getD j default).1) ∧ w.cell? ⟨b, off + j * 2 + 1, none⟩ = some (.string (ks.getD j default).2)
theorem PReads.nil (w : World) (a : Option Addr) : PReads w a [] := fun j hj => by simp at hj
theorem PReads.below {w w' : World} {a : Option Addr} {ks : List (ByteArray × ByteArray)} {B : Nat} (h : PReads w a ks) (hb : Below B w w') (hB : w.heap.size ≤ B) : PReads w' a ks := fun j hj => by
  obtain ⟨b, off, e, hl, h1, h2⟩ := h j hj
  have hlB := Nat.lt_of_lt_of_le hl hB
  exact ⟨b, off, e, Nat.lt_of_lt_of_le hl hb.size, (hb.cell (p := ⟨b, off + j * 2, none⟩) hlB).trans h1, (hb.cell (p := ⟨b, off + j * 2 + 1, none⟩) hlB).trans h2⟩
theorem preads_lt {w : World} {A : Option Addr} {ks : List (ByteArray × ByteArray)} (h : PReads w A ks) {b off : Nat} (e : A = some ⟨b, off, none⟩) (h0 : 0 < ks.length) : b < w.heap.size := by
  obtain ⟨b2, off2, e2, hlt, _⟩ := h 0 h0
  rw [e] at e2
  injection e2 with e2
  injection e2 with e3 _ _
  omega
theorem preads_setL {w : World} {A : Option Addr} {ks : List (ByteArray × ByteArray)} (h : PReads w A ks) {R j : Nat} {v : Value} (hR : ∀ b off, A = some ⟨b, off, none⟩ → 0 < ks.length → b ≠ R) : PReads (w.setCell ⟨R, j, none⟩ v) A ks := fun i hi => by
  obtain ⟨b, off, e, hb, h1, h2⟩ := h i hi
  have n : ∀ q, (⟨R, j, none⟩ : Addr) ≠ ⟨b, q, none⟩ := fun q e2 => hR b off e (by omega) (by injection e2 with e3 _ _; exact e3.symm)
  exact ⟨b, off, e, by simpa [World.setCell] using hb, (World.cell?_setCell_other w _ _ v (n _)).trans h1, (World.cell?_setCell_other w _ _ v (n _)).trans h2⟩
def IsM (ok : Nat → Prop) (w : World) (v : Value) (m : Mt) : Prop := ∃ (o f sig : ByteArray) (A : Option Addr) (c : Nat) (rs : List ByteArray) (B : Option Addr) (d : Nat) (ws : List ByteArray) (V : Option Addr) (cv : Nat) (vs : List ByteArray) (K : Option Addr) (ck : Nat) (ks : List (ByteArray × ByteArray)),
  v = .agg #[.string o, .string f, .int .i64 m.r.ep, .slice A rs.length c, .slice B ws.length d, .int .u64 (m.ver : Int), .slice V vs.length cv, .slice K ks.length ck, .string sig] ∧
  m = ⟨⟨o.data.toList, f.data.toList, m.r.ep, bl rs, bl ws⟩, m.ver, bl vs, pl ks, sig.data.toList⟩ ∧
  SReads w A rs ∧ SReads w B ws ∧ SReads w V vs ∧ PReads w K ks ∧ (rs.length ≤ c ∧ (A = none → c = 0)) ∧ (ws.length ≤ d ∧ (B = none → d = 0)) ∧ (vs.length ≤ cv ∧ (V = none → cv = 0)) ∧ (ks.length ≤ ck ∧ (K = none → ck = 0)) ∧
  (∀ b off, A = some ⟨b, off, none⟩ → 0 < rs.length → ok b) ∧ (∀ b off, B = some ⟨b, off, none⟩ → 0 < ws.length → ok b) ∧ (∀ b off, V = some ⟨b, off, none⟩ → 0 < vs.length → ok b) ∧ (∀ b off, K = some ⟨b, off, none⟩ → 0 < ks.length → ok b)
theorem IsM.mono {ok ok' : Nat → Prop} {w : World} {v : Value} {m : Mt} (h : IsM ok w v m) (hk : ∀ b, b < w.heap.size → ok b → ok' b) : IsM ok' w v m := by
  obtain ⟨o, f, sig, A, c, rs, B', d, ws, V, cv, vs, K, ck, ks, h1, h2, h3, h4, h5, h6, h7, h8, h9, h10, k1, k2, k3, k4⟩ := h
  exact ⟨o, f, sig, A, c, rs, B', d, ws, V, cv, vs, K, ck, ks, h1, h2, h3, h4, h5, h6, h7, h8, h9, h10, fun b off e h0 => hk b (sreads_lt h3 e h0) (k1 b off e h0), fun b off e h0 => hk b (sreads_lt h4 e h0) (k2 b off e h0), fun b off e h0 => hk b (sreads_lt h5 e h0) (k3 b off e h0), fun b off e h0 => hk b (preads_lt h6 e h0) (k4 b off e h0)⟩
theorem isM_zero (ok : Nat → Prop) (w : World) : IsM ok w (.agg #[.string ⟨#[]⟩, .string ⟨#[]⟩, .int .i64 0, .slice none 0 0, .slice none 0 0, .int .u64 0, .slice none 0 0, .slice none 0 0, .string ⟨#[]⟩]) mzero :=
  ⟨⟨#[]⟩, ⟨#[]⟩, ⟨#[]⟩, none, 0, [], none, 0, [], none, 0, [], none, 0, [], rfl, rfl, SReads.nil _ _, SReads.nil _ _, SReads.nil _ _, PReads.nil _ _, ⟨Nat.le_refl _, fun _ => rfl⟩, ⟨Nat.le_refl _, fun _ => rfl⟩, ⟨Nat.le_refl _, fun _ => rfl⟩, ⟨Nat.le_refl _, fun _ => rfl⟩,
    (fun _ _ h => by cases h), (fun _ _ h => by cases h), (fun _ _ h => by cases h), fun _ _ h => by cases h⟩
def FewM (m : Mt) : Prop := Few m.r ∧ m.vf.length ≤ 40 ∧ m.bs.length ≤ 40 ∧ (∀ t ∈ m.vf, t.length ≤ 10000) ∧ (∀ b ∈ m.bs, b.1.length ≤ 10000 ∧ b.2.length ≤ 10000) ∧ m.sig.length ≤ 10000 ∧ m.ver < 18446744073709551616
end Go.Proofs.YtbdealddjonobaaGreat.Mta

namespace Go.Proofs.YtbdealddjonobaaGreat.Rig
open Go.RowKit Wire

end Go.Proofs.YtbdealddjonobaaGreat.Rig

namespace Go.Proofs.YtbdealddjonobaaGreat.Mta
open Go.RowKit Wire Rig

set_option linter.unusedSimpArgs false
def Rise (l : List Tm) : Prop := l.Pairwise (fun a b => lt a b = true)
theorem bl_app (a b : List ByteArray) : bl (a ++ b) = bl a ++ bl b := by unfold bl; rw [List.map_append]
end Go.Proofs.YtbdealddjonobaaGreat.Mta

namespace Go.Proofs.YtbdealddjonobaaGreat.Mta
open Go.RowKit Wire Term Rig

set_option linter.unusedSimpArgs false
def Mx (g : Nat) (w : World) (o f : ByteArray) (ep : Int) (A : Option Addr) (n c : Nat) (B : Option Addr) (m d : Nat) (ver : Nat) (V : Option Addr) (nv cv : Nat) (K : Option Addr) (nk ck : Nat) (sig : ByteArray) : Prop :=
  (w.cell? ⟨g, 0, none⟩ = some (.string o) ∧ w.cell? ⟨g, 1, none⟩ = some (.string f) ∧ w.cell? ⟨g, 2, none⟩ = some (.int .i64 ep) ∧ w.cell? ⟨g, 3, none⟩ = some (.slice A n c) ∧ w.cell? ⟨g, 4, none⟩ = some (.slice B m d) ∧
  w.cell? ⟨g, 5, none⟩ = some (.int .u64 (ver : Int)) ∧ w.cell? ⟨g, 6, none⟩ = some (.slice V nv cv) ∧ w.cell? ⟨g, 7, none⟩ = some (.slice K nk ck) ∧ w.cell? ⟨g, 8, none⟩ = some (.string sig)) ∧ g < w.heap.size
theorem mx_alloc (w : World) (o f : ByteArray) (ep : Int) (A : Option Addr) (n c : Nat) (B : Option Addr) (m d : Nat) (ver : Nat) (V : Option Addr) (nv cv : Nat) (K : Option Addr) (nk ck : Nat) (sig : ByteArray) (t : TypeId) :
    Mx w.heap.size (w.alloc (.cells #[.string o, .string f, .int .i64 ep, .slice A n c, .slice B m d, .int .u64 (ver : Int), .slice V nv cv, .slice K nk ck, .string sig] t)) o f ep A n c B m d ver V nv cv K nk ck sig := by
  have h : ∀ j, (w.alloc (.cells #[.string o, .string f, .int .i64 ep, .slice A n c, .slice B m d, .int .u64 (ver : Int), .slice V nv cv, .slice K nk ck, .string sig] t)).cell? ⟨w.heap.size, j, none⟩ = (#[.string o, .string f, .int .i64 ep, .slice A n c, .slice B m d, .int .u64 (ver : Int), .slice V nv cv, .slice K nk ck, .string sig] : Array Value)[j]? := fun j => cell_of_row _ _ _ _ _ (0, 0) (heap_alloc_new w _)
  exact ⟨⟨h 0, h 1, h 2, h 3, h 4, h 5, h 6, h 7, h 8⟩, by simp⟩
theorem Mx.below {g : Nat} {w w' : World} {o f : ByteArray} {ep : Int} {A : Option Addr} {n c : Nat} {B : Option Addr} {m d : Nat} {ver : Nat} {V : Option Addr} {nv cv : Nat} {K : Option Addr} {nk ck : Nat} {sig : ByteArray} {M : Nat} (h : Mx g w o f ep A n c B m d ver V nv cv K nk ck sig) (hb : Below M w w') (hg : g < M) : Mx g w' o f ep A n c B m d ver V nv cv K nk ck sig := by
  obtain ⟨⟨h0, h1, h2, h3, h4, h5, h6, h7, h8⟩, h9⟩ := h
  have e := fun j => hb.cell (p := ⟨g, j, none⟩) hg
  exact ⟨⟨(e 0).trans h0, (e 1).trans h1, (e 2).trans h2, (e 3).trans h3, (e 4).trans h4, (e 5).trans h5, (e 6).trans h6, (e 7).trans h7, (e 8).trans h8⟩, Nat.lt_of_lt_of_le h9 hb.size⟩
theorem Mx.call {g : Nat} {w w' : World} {o f : ByteArray} {ep : Int} {A : Option Addr} {n c : Nat} {B : Option Addr} {m d : Nat} {ver : Nat} {V : Option Addr} {nv cv : Nat} {K : Option Addr} {nk ck : Nat} {sig : ByteArray} (h : Mx g w o f ep A n c B m d ver V nv cv K nk ck sig) (hb : Below w.heap.size w w') : Mx g w' o f ep A n c B m d ver V nv cv K nk ck sig := h.below hb h.2
def Blk (l : List Tm) (b : List (Tm × Tm)) : Prop := b.map (·.1) = l ∧ Kds 98 (b.map (·.2))
theorem blk_take {ys : List ByteArray} {ks : List (ByteArray × ByteArray)} {j : Nat} (hj : j < ys.length) (hk : j < ks.length) :
    Blk ((bl ys).take (j + 1)) ((pl ks).take (j + 1)) ↔ Blk ((bl ys).take j) ((pl ks).take j) ∧ (ks.getD j default).1.data.toList = (ys.getD j ByteArray.empty).data.toList ∧ kind (ks.getD j default).2.data.toList = 98 := by
  have hl : ((pl ks).take j).length = ((bl ys).take j).length := by rw [List.length_take, List.length_take, pl_len, bl_len]; omega
  unfold Blk
  rw [bl_get hj, pl_get hk, List.map_append, List.map_append]
  constructor
  · rintro ⟨h1, h2⟩
    obtain ⟨e1, e2⟩ := List.append_inj h1 (by rw [List.length_map]; exact hl)
    exact ⟨⟨e1, fun t ht => h2 t (List.mem_append_left _ ht)⟩, by simpa using e2, h2 _ (List.mem_append_right _ (by simp))⟩
  · rintro ⟨⟨h1, h2⟩, h3, h4⟩
    refine ⟨by rw [h1, List.map_cons, List.map_nil, h3], fun t ht => ?_⟩
    rcases List.mem_append.1 ht with ht | ht
    · exact h2 t ht
    · rw [show t = (ks.getD j default).2.data.toList by simpa using ht]; exact h4
theorem kind_lt (l : Tm) : kind l < 256 := by
  unfold kind
  split
  · exact (l.headD 0).toNat_lt
  · decide
end Go.Proofs.YtbdealddjonobaaGreat.Mta

namespace Go.Proofs.YtbdealddjonobaaGreat.Mta
open Go.RowKit Wire Term Rig

set_option linter.unusedSimpArgs false
theorem find_at {α : Type} {p : α → Bool} {l : List α} {j : Nat} (hno : ∀ k ∈ l.take j, p k = false) {x : α} (hx : l[j]? = some x) (hp : p x = true) : l.find? p = some x := by
  induction l generalizing j with
  | nil => simp at hx
  | cons y ys ih =>
    cases j with
    | zero =>
      obtain rfl : y = x := by simpa using hx
      rw [List.find?_cons, hp]
    | succ j =>
      rw [List.find?_cons, hno y (by simp)]
      exact ih (fun k hk => hno k (by rw [List.take_succ_cons]; exact List.mem_cons_of_mem _ hk)) (by simpa using hx)
theorem pl_at {ks : List (ByteArray × ByteArray)} {k : Nat} (hk : k < ks.length) : (pl ks)[k]? = some ((ks.getD k default).1.data.toList, (ks.getD k default).2.data.toList) := by
  unfold pl
  rw [List.getElem?_map, List.getElem?_eq_getElem hk]
  simp [List.getD, hk]
end Go.Proofs.YtbdealddjonobaaGreat.Mta

namespace Go.Proofs.YtbdealddjonobaaGreat.Mta
open Wire Term Rig

theorem flat_most {k : Nat} (hk : k ≤ 1000000) : ∀ (l : List Tm), (∀ t ∈ l, t.length ≤ k) → (l.flatMap putText).length ≤ l.length * (k + 9)
  | [], _ => by simp
  | t :: l, h => by
    have h1 := h t (by simp)
    have h2 := (put_le (n := t.length) (by omega)).2
    have h3 := flat_most hk l fun x hx => h x (by simp [hx])
    rw [List.flatMap_cons, List.length_append, putText_len, List.length_cons, Nat.add_mul]
    omega
theorem putAll_most {k n : Nat} (hk : k ≤ 1000000) {l : List Tm} (hn : l.length ≤ n) (hn2 : n ≤ 1000) (h : ∀ t ∈ l, t.length ≤ k) : (putAll l).length ≤ n * (k + 9) + 9 := by
  have h1 := flat_most hk l h
  have h2 := (put_le (n := l.length) (by omega)).2
  have h3 := Nat.mul_le_mul_right (k + 9) hn
  unfold putAll
  rw [List.length_append]; omega
theorem kd_len {t : Tm} {k : Nat} (h : kind t = k) (hk : k ≠ 0) : t.length ≤ 4000 := by
  cases hr : right t with
  | true => exact (right_len hr).2
  | false => rw [kind_wrong hr] at h; exact absurd h.symm hk
theorem oth_small {r : Rt} (h : RR r) : ∀ t ∈ oth r, t.length ≤ 128 := lsd_small (lsd_oth h)
theorem bs_small {m : Mt} (h : MR m) : m.bs.length ≤ 5 ∧ ∀ b ∈ m.bs, b.1.length ≤ 128 ∧ b.2.length ≤ 4000 := by
  obtain ⟨h1, _, _, _, h5, h6⟩ := h
  refine ⟨?_, fun b hb => ⟨?_, kd_len (h6 _ (List.mem_map.2 ⟨b, hb, rfl⟩)) (by decide)⟩⟩
  · have e := congrArg List.length h5
    rw [List.length_map, oth_len] at e
    have := h1.2.2.2.1
    omega
  · exact oth_small h1 _ (by rw [← h5]; exact List.mem_map.2 ⟨b, hb, rfl⟩)
theorem vf_small {m : Mt} (h : MR m) : m.vf.length ≤ 8 ∧ ∀ t ∈ m.vf, t.length ≤ 4000 := by
  obtain ⟨h1, h2, _, h4, _, _⟩ := h
  have := h1.2.2.1
  exact ⟨by omega, fun t ht => kd_len (h4 t ht) (by decide)⟩
theorem row_small {r : Rt} (h : RR r) : (rowR r).length ≤ 3600 := by
  obtain ⟨a1, a2, a3, a4, a5, a6, a7⟩ := h
  have := putAll_most (k := 700) (n := 5) (by omega) (l := [r.o, r.f, put r.ep.toNat, putAll r.rs, putAll r.ws]) (by simp) (by omega) fun t ht => by
    have : t = r.o ∨ t = r.f ∨ t = put r.ep.toNat ∨ t = putAll r.rs ∨ t = putAll r.ws := by simpa using ht
    rcases this with rfl | rfl | rfl | rfl | rfl
    · have := (Txt.right_len a1).2; omega
    · have := (Txt.right_len a2).2; omega
    · have := (put_le (n := r.ep.toNat) (by omega)).2; omega
    · exact putAll_small (by omega) (lsd_small a5)
    · exact putAll_small (by omega) (lsd_small a6)
  show (putAll [r.o, r.f, put r.ep.toNat, putAll r.rs, putAll r.ws]).length ≤ 3600
  omega
theorem pair_small {b : Tm × Tm} (h : b.1.length ≤ 128 ∧ b.2.length ≤ 4000) : (putAll [b.1, b.2]).length ≤ 8100 := by
  have := putAll_most (k := 4000) (n := 2) (by omega) (l := [b.1, b.2]) (by simp) (by omega) fun t ht => by
    have : t = b.1 ∨ t = b.2 := by simpa using ht
    rcases this with rfl | rfl <;> omega
  omega
theorem rows_small {m : Mt} (h : MR m) (hv : m.ver < 18446744073709551616) : (rowR m.r).length ≤ 3600 ∧ (put m.ver).length ≤ 9 ∧ (putAll m.vf).length ≤ 32100 ∧ (putAll (m.bs.map fun b => putAll [b.1, b.2])).length ≤ 41000 := by
  obtain ⟨v1, v2⟩ := vf_small h
  obtain ⟨b1, b2⟩ := bs_small h
  refine ⟨row_small h.1, (put_le hv).2, ?_, ?_⟩
  · have := putAll_most (k := 4000) (n := 8) (by omega) v1 (by omega) v2
    omega
  · have := putAll_most (k := 8100) (n := 5) (by omega) (l := m.bs.map fun b => putAll [b.1, b.2]) (by rw [List.length_map]; exact b1) (by omega) fun t ht => by
      obtain ⟨b, hb, rfl⟩ := List.mem_map.1 ht
      exact pair_small (b2 b hb)
    omega
theorem body_small {m : Mt} (h : MR m) (hv : m.ver < 18446744073709551616) : (bodyB m).length ≤ 80000 := by
  obtain ⟨h1, h2, h3, h4⟩ := rows_small h hv
  unfold bodyB
  generalize putAll (m.bs.map fun b => putAll [b.1, b.2]) = y at h4 ⊢
  generalize putAll m.vf = z at h3 ⊢
  generalize put m.ver = u at h2 ⊢
  have p1 := (put_le (n := (rowR m.r).length) (by omega)).2
  have p2 := (put_le (n := u.length) (by omega)).2
  have p3 := (put_le (n := z.length) (by omega)).2
  have p4 := (put_le (n := y.length) (by omega)).2
  have p5 := (put_le (n := 0 + 1 + 1 + 1 + 1) (by omega)).2
  simp only [putAll, List.length_append, List.flatMap_cons, List.flatMap_nil, putText_len, List.length_cons, List.length_nil]
  omega
end Go.Proofs.YtbdealddjonobaaGreat.Mta

namespace Go.Proofs.YtbdealddjonobaaGreat.Mta
open Go.RowKit Wire Term Rig

set_option linter.unusedSimpArgs false
theorem lit2_reads8 (W : World) (a0 a1 : ByteArray) (g : Nat) (hg : g = W.heap.size) : SReads (W.alloc (.cells #[.string a0, .string a1] 9)) (some ⟨g, 0, none⟩) [a0, a1] := by
  subst hg
  intro j hj
  refine ⟨_, 0, rfl, by simp, ?_⟩
  have h : ∀ i, (W.alloc (.cells #[.string a0, .string a1] 9)).cell? ⟨W.heap.size, i, none⟩ = (#[.string a0, .string a1] : Array Value)[i]? := fun i => cell_of_row _ _ _ _ _ (0, 0) (heap_alloc_new W _)
  rw [h, Nat.zero_add]
  have : j = 0 ∨ j = 1 := by simp at hj; omega
  rcases this with rfl | rfl <;> rfl
theorem lit4_reads8 (W : World) (a0 a1 a2 a3 : ByteArray) (g : Nat) (hg : g = W.heap.size) : SReads (W.alloc (.cells #[.string a0, .string a1, .string a2, .string a3] 9)) (some ⟨g, 0, none⟩) [a0, a1, a2, a3] := by
  subst hg
  intro j hj
  refine ⟨_, 0, rfl, by simp, ?_⟩
  have h : ∀ i, (W.alloc (.cells #[.string a0, .string a1, .string a2, .string a3] 9)).cell? ⟨W.heap.size, i, none⟩ = (#[.string a0, .string a1, .string a2, .string a3] : Array Value)[i]? := fun i => cell_of_row _ _ _ _ _ (0, 0) (heap_alloc_new W _)
  rw [h, Nat.zero_add]
  have : j = 0 ∨ j = 1 ∨ j = 2 ∨ j = 3 := by simp at hj; omega
  rcases this with rfl | rfl | rfl | rfl <;> rfl
theorem flat_k {k : Nat} : ∀ (l : List Tm), (∀ t ∈ l, t.length ≤ k) → l.flatten.length ≤ l.length * k
  | [], _ => by simp
  | t :: l, h => by
    have h1 := h t (by simp)
    have h2 := flat_k l fun x hx => h x (by simp [hx])
    rw [List.flatten_cons, List.length_append, List.length_cons, Nat.add_mul]; omega
end Go.Proofs.YtbdealddjonobaaGreat.Mta

namespace Go.Proofs.YtbdealddjonobaaGreat.Mta
open Go.RowKit Wire Term Rig

set_option linter.unusedSimpArgs false
end Go.Proofs.YtbdealddjonobaaGreat.Mta

namespace Go.Proofs.YtbdealddjonobaaGreat.Mta
open Go.RowKit Wire Term Rig

set_option linter.unusedSimpArgs false
theorem ofText_len {s x : Tm} {e : Int} (h : ofText s = (x, e)) : x.length ≤ 4000 := by
  unfold ofText made at h
  split at h
  case isTrue hr => injection h with h1 h2; rw [← h1]; exact (right_len hr).2
  case isFalse => injection h with h1 h2; rw [← h1]; simp
end Go.Proofs.YtbdealddjonobaaGreat.Mta

namespace Go.Proofs.YtbdealddjonobaaGreat.Mta
open Go.RowKit Wire Term Rig

set_option linter.unusedSimpArgs false
theorem pair_parts {t : Tm} (h : right t = true) (hk : t.headD 0 = 112) : ∃ p q, parts t = ([p, q], 0) ∧ right p = true ∧ right q = true := by
  cases t with
  | nil => simp at hk
  | cons b l =>
    obtain rfl : b = 112 := hk
    obtain ⟨x, y, _, h2, h3, h4, _⟩ := two_parts h rfl
    refine ⟨x, y, ?_, h3, h4⟩
    unfold parts
    rw [if_pos h]
    show (cuts 2 l, 0) = _
    rw [h2]
theorem unbox_right {a b x : Tm} (h : unbox a b = (x, 0)) : right x = true := by
  unfold unbox at h
  split at h
  case isFalse => injection h with h1 h2; cases h2
  case isTrue hr =>
    unfold opens at h
    split at h
    case isFalse => injection h with h1 h2; cases h2
    case isTrue hk =>
      split at h
      case isFalse => injection h with h1 h2; cases h2
      case isTrue =>
        injection h with h1 h2
        cases b with
        | nil => simp at hk
        | cons c l =>
          obtain rfl : c = 98 := hk
          obtain ⟨p, q, _, e2, _, e4, _⟩ := two_parts hr.2 rfl
          have e : parts (98 :: l) = ([p, q], 0) := by
            unfold parts
            rw [if_pos hr.2]
            show (cuts 2 l, 0) = _
            rw [e2]
          rw [e] at h1
          rw [← h1]; exact e4
theorem unbox_len (a b : Tm) : (unbox a b).1.length ≤ 4000 := by
  obtain ⟨x, e, h⟩ : ∃ x e, unbox a b = (x, e) := ⟨_, _, rfl⟩
  rw [h]
  by_cases he : e = 0
  · rw [he] at h; exact (right_len (unbox_right h)).2
  · unfold unbox opens at h
    split at h
    · split at h
      · split at h
        · injection h with _ h2; exact absurd h2.symm he
        · injection h with h1 _; rw [← h1]; simp
      · injection h with h1 _; rw [← h1]; simp
    · injection h with h1 _; rw [← h1]; simp
def So (x : Tm × Tm × Int) (e : Ending) : Prop := ∃ S T : ByteArray, S.data.toList = x.1 ∧ T.data.toList = x.2.1 ∧ e = .returned (.tuple #[.string S, .string T, .int .i64 x.2.2])
theorem so_nil (n : Int) : So ([], [], n) (.returned (.tuple #[.string ⟨#[]⟩, .string ⟨#[]⟩, .int .i64 n])) := ⟨⟨#[]⟩, ⟨#[]⟩, rfl, rfl, rfl⟩
end Go.Proofs.YtbdealddjonobaaGreat.Mta

