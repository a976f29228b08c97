/-
  U1. By an AI agent.
-/
import Derived.Test.YtbdealddjonobaaGreatYZ
import Derived.Test.YtbdealddjonobaaGreatYW0
import Derived.Test.YtbdealddjonobaaGreatYH1
import Derived.Test.YtbdealddjonobaaGreatYD1
import Derived.Test.YtbdealddjonobaaGreatYG1
import Derived.Test.YtbdealddjonobaaGreatYG3
import Derived.Test.YtbdealddjonobaaGreatYB1
namespace Go.Proofs.YtbdealddjonobaaGreat.Frm
open Go Go.RowKit

set_option linter.unusedVariables false
structure Fr (X : Nat → Prop) (w w' : World) : Prop where
  os : w'.os = w.os
  tape : w'.tape = w.tape
  output : w'.output = w.output
  size : w.heap.size ≤ w'.heap.size
  block : ∀ b, b < w.heap.size → ¬ X b → w'.heap[b]? = w.heap[b]?
theorem Fr.none {X : Nat → Prop} {w w' : World} (h : Below w.heap.size w w') : Fr X w w' := ⟨h.os, h.tape, h.output, h.size, fun b hb _ => h.block b hb⟩
theorem Fr.trans {X Y : Nat → Prop} {w w1 w2 : World} (h : Fr X w w1) (h2 : Fr Y w1 w2) (hY : ∀ b, Y b → X b ∨ w.heap.size ≤ b) : Fr X w w2 :=
  ⟨h2.os.trans h.os, h2.tape.trans h.tape, h2.output.trans h.output, Nat.le_trans h.size h2.size, fun b hb hx => (h2.block b (Nat.lt_of_lt_of_le hb h.size) fun hy => by
    rcases hY b hy with h3 | h3
    · exact hx h3
    · omega).trans (h.block b hb hx)⟩
structure Part where
  P : World → Prop
  S : Nat → Prop
  M : Nat → Prop
  dep : ∀ {w w' : World}, w.heap.size ≤ w'.heap.size → P w → (∀ b, S b → w'.heap[b]? = w.heap[b]?) → P w'
  old : ∀ {w : World}, P w → ∀ b, S b → b < w.heap.size
  sub : ∀ b, M b → S b
def Apart (p q : Part) : Prop := ∀ b, ¬ (p.M b ∧ q.S b) ∧ ¬ (p.S b ∧ q.M b)
theorem Apart.symm {p q : Part} (h : Apart p q) : Apart q p := fun b => ⟨fun h2 => (h b).2 ⟨h2.2, h2.1⟩, fun h2 => (h b).1 ⟨h2.2, h2.1⟩⟩
structure Fm (w0 w : World) (l : List Part) : Prop where
  bel : Below w0.heap.size w0 w
  all : ∀ p ∈ l, p.P w ∧ ∀ b, p.M b → w0.heap.size ≤ b
  dis : l.Pairwise Apart
section
variable {w0 w w' : World} {l : List Part} {p q : Part}
theorem fm_nil (h : Below w0.heap.size w0 w) : Fm w0 w [] := ⟨h, fun _ h => (List.not_mem_nil h).elim, List.Pairwise.nil⟩
theorem fm_refl (w : World) : Fm w w [] := fm_nil (Below.refl _ _)
theorem Fm.go (h : Fm w0 w l) (hb : Below w.heap.size w w') : Fm w0 w' l :=
  ⟨h.bel.trans (hb.mono h.bel.size), fun p hp => ⟨p.dep hb.size (h.all p hp).1 fun b hs => hb.block b (p.old (h.all p hp).1 b hs), (h.all p hp).2⟩, h.dis⟩
theorem Fm.add (h : Fm w0 w l) (hp : p.P w) (hm : ∀ b, p.M b → w0.heap.size ≤ b) (ha : ∀ q ∈ l, Apart p q) : Fm w0 w (p :: l) :=
  ⟨h.bel, fun q hq => by
    rcases List.mem_cons.1 hq with rfl | hq
    · exact ⟨hp, hm⟩
    · exact h.all q hq, List.pairwise_cons.2 ⟨ha, h.dis⟩⟩
theorem Fm.new (h : Fm w0 w l) (hb : Below w.heap.size w w') (hp : p.P w') (hS : ∀ b, p.S b → w.heap.size ≤ b) (hM : ∀ b, p.M b → w.heap.size ≤ b) : Fm w0 w' (p :: l) :=
  (h.go hb).add hp (fun b hb2 => Nat.le_trans h.bel.size (hM b hb2)) fun q hq b => by
    have ho := q.old (h.all q hq).1 b
    refine ⟨fun h2 => ?_, fun h2 => ?_⟩
    · have h3 := hM b h2.1; have h4 := ho h2.2; omega
    · have h3 := hS b h2.1; have h4 := p.old hp b h2.1
      by_cases h5 : q.S b
      · have := ho h5; omega
      · have h6 := (h.all q hq).2 b h2.2
        exact h5 (q.sub b h2.2)
theorem Fm.tail (h : Fm w0 w (p :: l)) : Fm w0 w l := ⟨h.bel, fun q hq => h.all q (List.mem_cons_of_mem _ hq), (List.pairwise_cons.1 h.dis).2⟩
theorem Fm.sub {m : List Part} (h : Fm w0 w l) (hs : m.Sublist l) : Fm w0 w m := ⟨h.bel, fun q hq => h.all q (hs.subset hq), h.dis.sublist hs⟩
theorem Fm.hide (h : Fm w0 w l) (i : Nat) : Fm w0 w (l.eraseIdx i) := h.sub (List.eraseIdx_sublist l i)
theorem Fm.at (h : Fm w0 w l) (i : Nat) {p : Part} (hi : l[i]? = some p) : p.P w := (h.all p (List.mem_of_getElem? hi)).1
theorem Fm.lo (h : Fm w0 w l) (i : Nat) {p : Part} (hi : l[i]? = some p) : ∀ b, p.M b → w0.heap.size ≤ b := (h.all p (List.mem_of_getElem? hi)).2
theorem pair_lt {R : Part → Part → Prop} : ∀ {l : List Part}, l.Pairwise R → ∀ (i j : Nat), i < j → ∀ {p q : Part}, l[i]? = some p → l[j]? = some q → R p q
  | [], _, i, j, _, _, _, h1, _ => by simp at h1
  | x :: l, h, 0, j + 1, _, p, q, h1, h2 => by
    rw [List.getElem?_cons_zero] at h1
    obtain rfl := Option.some.inj h1
    rw [List.getElem?_cons_succ] at h2
    exact (List.pairwise_cons.1 h).1 _ (List.mem_of_getElem? h2)
  | x :: l, h, i + 1, j + 1, hij, p, q, h1, h2 => by
    rw [List.getElem?_cons_succ] at h1 h2
    exact pair_lt (List.pairwise_cons.1 h).2 i j (by omega) h1 h2
  | _ :: _, _, _, 0, hij, _, _, _, _ => absurd hij (Nat.not_lt_zero _)
theorem Fm.apart (h : Fm w0 w l) (i j : Nat) (hij : i ≠ j) {p q : Part} (h1 : l[i]? = some p) (h2 : l[j]? = some q) : Apart p q := by
  rcases Nat.lt_or_gt_of_ne hij with h3 | h3
  · exact pair_lt h.dis i j h3 h1 h2
  · exact (pair_lt h.dis j i h3 h2 h1).symm
theorem Fm.turn (h : Fm w0 w l) (i : Nat) (hi : l[i]? = some p) (hf : Fr p.M w w') (hq : q.P w') (hS : ∀ b, q.S b → p.S b ∨ w.heap.size ≤ b) (hM : ∀ b, q.M b → p.M b ∨ w.heap.size ≤ b) : Fm w0 w' (l.set i q) := by
  have hil := (List.getElem?_eq_some_iff.1 hi).1
  have hold : ∀ j, j ≠ i → ∀ {r : Part}, l[j]? = some r → r.P w' ∧ (∀ b, r.M b → w0.heap.size ≤ b) ∧ Apart r q := fun j hj r hr => by
    have hm := List.mem_of_getElem? hr
    have ha := h.apart j i hj hr hi
    have ho := r.old (h.all r hm).1
    refine ⟨r.dep hf.size (h.all r hm).1 fun b hs => hf.block b (ho b hs) fun h2 => (ha b).2 ⟨hs, h2⟩, (h.all r hm).2, fun b => ⟨fun h2 => ?_, fun h2 => ?_⟩⟩
    · rcases hS b h2.2 with h3 | h3
      · exact (ha b).1 ⟨h2.1, h3⟩
      · have := ho b (r.sub b h2.1); omega
    · rcases hM b h2.2 with h3 | h3
      · exact (ha b).2 ⟨h2.1, h3⟩
      · have := ho b h2.1; omega
  refine ⟨⟨hf.os.trans h.bel.os, hf.tape.trans h.bel.tape, hf.output.trans h.bel.output, Nat.le_trans h.bel.size hf.size, fun b hlt => (hf.block b (Nat.lt_of_lt_of_le hlt h.bel.size) fun hx => by have := h.lo i hi b hx; omega).trans (h.bel.block b hlt)⟩, fun r hr => ?_, ?_⟩
  · obtain ⟨j, hj⟩ := List.mem_iff_getElem?.1 hr
    by_cases e : j = i
    · subst e
      rw [List.getElem?_set_self hil] at hj
      obtain rfl := Option.some.inj hj
      refine ⟨hq, fun b hs => ?_⟩
      rcases hM b hs with h3 | h3
      · exact h.lo j hi b h3
      · exact Nat.le_trans h.bel.size h3
    · rw [List.getElem?_set_ne (fun e2 => e e2.symm)] at hj
      exact ⟨(hold j e hj).1, (hold j e hj).2.1⟩
  · rw [List.pairwise_iff_getElem]
    intro j k hj hk hjk
    have hj2 : j < l.length := by rw [List.length_set] at hj; exact hj
    have hk2 : k < l.length := by rw [List.length_set] at hk; exact hk
    by_cases e1 : j = i
    · subst e1
      rw [List.getElem_set_self, List.getElem_set_ne (by omega)]
      exact (hold k (by omega) (List.getElem?_eq_getElem hk2)).2.2.symm
    · rw [List.getElem_set_ne (fun e2 => e1 e2.symm)]
      by_cases e2 : k = i
      · subst e2
        rw [List.getElem_set_self]
        exact (hold j e1 (List.getElem?_eq_getElem hj2)).2.2
      · rw [List.getElem_set_ne (fun e3 => e2 e3.symm)]
        exact h.apart j k (by omega) (List.getElem?_eq_getElem hj2) (List.getElem?_eq_getElem hk2)
theorem Fm.told (h : Fm w0 w l) (i : Nat) (hi : l[i]? = some p) (hb : Below w.heap.size w w') (hq : q.P w') (hM : ∀ b, ¬ q.M b) (hS : ∀ b, q.S b → (p.S b ∧ ¬ p.M b) ∨ w.heap.size ≤ b) : Fm w0 w' (q :: l) :=
  (h.go hb).add hq (fun b h2 => absurd h2 (hM b)) fun r hr b => by
    refine ⟨fun h2 => hM b h2.1, fun h2 => ?_⟩
    have ho := r.old (h.all r hr).1
    rcases hS b h2.1 with ⟨h3, h4⟩ | h3
    · obtain ⟨j, hj⟩ := List.mem_iff_getElem?.1 hr
      by_cases e : j = i
      · subst e
        rw [hi] at hj
        obtain rfl := Option.some.inj hj
        exact h4 h2.2
      · exact (h.apart j i e hj hi b).1 ⟨h2.2, h3⟩
    · have := ho b (r.sub b h2.2); omega
theorem Fm.copy (h : Fm w0 w l) (i : Nat) (hi : l[i]? = some p) (hb : Below w.heap.size w w') (hq : q.P w') (hM : ∀ b, q.M b → w.heap.size ≤ b) (hS : ∀ b, q.S b → (p.S b ∧ ¬ p.M b) ∨ w.heap.size ≤ b) : Fm w0 w' (q :: l) :=
  (h.go hb).add hq (fun b h2 => Nat.le_trans h.bel.size (hM b h2)) fun r hr b => by
    have ho := r.old (h.all r hr).1
    refine ⟨fun h2 => ?_, fun h2 => ?_⟩
    · have h3 := hM b h2.1; have h4 := ho b h2.2; omega
    rcases hS b h2.1 with ⟨h3, h4⟩ | h3
    · obtain ⟨j, hj⟩ := List.mem_iff_getElem?.1 hr
      by_cases e : j = i
      · subst e
        rw [hi] at hj
        obtain rfl := Option.some.inj hj
        exact h4 h2.2
      · exact (h.apart j i e hj hi b).1 ⟨h2.2, h3⟩
    · have := ho b (r.sub b h2.2); omega
theorem Fm.came (h : Fm w0 w l) (hq : q.P w) (hM : ∀ b, ¬ q.M b) (hS : ∀ b, q.S b → b < w0.heap.size) : Fm w0 w (q :: l) :=
  h.add hq (fun b h2 => absurd h2 (hM b)) fun r hr b => ⟨fun h2 => hM b h2.1, fun h2 => by
    have h3 := hS b h2.1; have h4 := (h.all r hr).2 b h2.2; omega⟩
end
def box (g : Nat) (V : Array Value) (t : TypeId) : Part where
  P w := w.heap[g]? = some (.cells V t)
  S b := b = g
  M b := b = g
  sub _ h := h
  dep _ h hs := (hs g rfl).trans h
  old h b e := by subst e; exact (Array.getElem?_eq_some_iff.1 h).1
theorem Fm.box {w0 w : World} {l : List Part} (h : Fm w0 w l) (V : Array Value) (t : TypeId) : Fm w0 (w.alloc (.cells V t)) (box w.heap.size V t :: l) :=
  h.new ((Below.refl _ _).alloc zl _) (heap_alloc_new w _) (fun b e => by rw [show b = w.heap.size from e]; exact Nat.le_refl _) (fun b e => by rw [show b = w.heap.size from e]; exact Nat.le_refl _)
theorem box_at {w : World} {g : Nat} {V : Array Value} {t : TypeId} (h : (box g V t).P w) : ∀ j, w.cell? ⟨g, j, none⟩ = V[j]? := fun j => cell_of_row _ _ _ _ _ _ h
theorem box_sf {w : World} {g : Nat} {V : Array Value} {t : TypeId} (h : (box g V t).P w) : ∀ j, w.frozen? ⟨g, j, none⟩ = false := fun j => by
  have h2 : w.heap[g]? = some (.cells V t) := h
  unfold World.frozen?
  rw [h2]; simp
theorem box_lt {w : World} {g : Nat} {V : Array Value} {t : TypeId} (h : (box g V t).P w) : g < w.heap.size := (Array.getElem?_eq_some_iff.1 h).1
theorem Fm.put {w0 w : World} {l : List Part} {g : Nat} {V : Array Value} {t : TypeId} (h : Fm w0 w l) (i : Nat) (hi : l[i]? = some (Frm.box g V t)) (j : Nat) (v : Value) (U : Array Value) (hU : V.setIfInBounds j v = U) : Fm w0 (w.setCell ⟨g, j, none⟩ v) (l.set i (Frm.box g U t)) := by
  have hb : w.heap[g]? = some (.cells V t) := h.at i hi
  have hlt := (Array.getElem?_eq_some_iff.1 hb).1
  refine h.turn i hi ⟨rfl, rfl, rfl, by simp [World.setCell], fun b _ hn => Below.heap_setCell w ⟨g, j, none⟩ v b (fun e => hn e)⟩ ?_ (fun b e => .inl e) (fun b e => .inl e)
  show (w.setCell ⟨g, j, none⟩ v).heap[g]? = some (.cells U t)
  have h' : w.heap[g] = .cells V t := by simpa [Array.getElem?_eq_getElem hlt] using hb
  show (w.heap.modify g _)[g]? = _
  rw [Array.getElem?_eq_getElem (by simpa using hlt), Array.getElem_modify_self, h', ← hU]
  simp
end Go.Proofs.YtbdealddjonobaaGreat.Frm

namespace Go.Proofs.YtbdealddjonobaaGreat.Usr
open Wire Rig Draw

set_option linter.unusedVariables false
structure Ow where
  r : Rt
  ver : Nat
  root : Tm
  sg : List Tm
  gone : Bool
def ow0 : Ow := ⟨zero, 0, [], [], false⟩
structure Us where
  nm : Tm
  sd : Nat
  dr : Nat
  ns : List Tm
  of : Tm → Ow
def us0 (n : Tm) (sd : Nat) : Us := ⟨n, sd, 1, [], fun _ => ow0⟩
def Us.sec (u : Us) : Tm := (secret [117, 115, 101, 114] u.nm (draw u.sd 0)).1
def Us.live (u : Us) (f : Tm) : Bool := decide (f ∈ u.ns) && !(u.of f).gone
def Us.lives (u : Us) : List Tm := u.ns.filter u.live
def Us.path (u : Us) (f : Tm) : Tm := u.nm ++ 47 :: f
def Us.sc (u : Us) (use f : Tm) (k : Nat) : Tm := (secret use (u.path f) (draw u.sd k)).1
def uRoot : Tm := [114, 111, 111, 116]
def uSign : Tm := [115, 105, 103, 110]
def updO (of : Tm → Ow) (f : Tm) (o : Ow) : Tm → Ow := fun x => if x = f then o else of x
def Us.set (u : Us) (f : Tm) (o : Ow) : Us := { u with of := updO u.of f o }
def Us.made (u : Us) (f : Tm) : Ow := ⟨⟨u.nm, f, 0, [], []⟩, (if f ∈ u.ns then (u.of f).ver else 0) + 1, u.sc uRoot f u.dr, [u.sc uSign f (u.dr + 1)], false⟩
def create (u : Us) (f : Tm) : Us × Int :=
  if nm f = false then (u, 3) else if u.live f = true then (u, 5) else if 8 ≤ u.lives.length then (u, 10)
  else (⟨u.nm, u.sd, u.dr + 2, if f ∈ u.ns then u.ns else u.ns ++ [f], updO u.of f (u.made f)⟩, 0)
def grant (u : Us) (f who : Tm) (wr : Bool) : Us × Int :=
  if u.live f = false then (u, 4) else if (gr (u.of f).r who wr).2 ≠ 0 then (u, (gr (u.of f).r who wr).2)
  else (u.set f ⟨(gr (u.of f).r who wr).1, (u.of f).ver + 1, (u.of f).root, (u.of f).sg, false⟩, 0)
def revoke (u : Us) (f who : Tm) : Us × Int :=
  if u.live f = false then (u, 4) else if (rv (u.of f).r who).2 ≠ 0 then (u, (rv (u.of f).r who).2)
  else (⟨u.nm, u.sd, u.dr + 1, u.ns, updO u.of f ⟨(rv (u.of f).r who).1, (u.of f).ver + 1, (u.of f).root, (u.of f).sg ++ [u.sc uSign f u.dr], false⟩⟩, 0)
def remove (u : Us) (f : Tm) : Us × Int :=
  if u.live f = false then (u, 4) else (u.set f { u.of f with gone := true }, 0)
def own (u : Us) (f : Tm) : Ow × Int := if u.live f = false then (ow0, 4) else (u.of f, 0)
structure Fine (n : Nat) (u : Us) : Prop where
  nm : nm u.nm = true
  sd : u.sd < 18446744073709551616
  dr : 1 ≤ u.dr ∧ u.dr ≤ 1 + 2 * n
  few : u.ns.length ≤ n
  one : u.ns.Nodup
  each : ∀ f ∈ u.ns, RR (u.of f).r ∧ (u.of f).r.o = u.nm ∧ (u.of f).r.f = f ∧ 1 ≤ (u.of f).ver ∧ (u.of f).ver ≤ n ∧ ((u.of f).sg.length : Int) = (u.of f).r.ep + 1
  none : ∀ f, f ∉ u.ns → u.of f = ow0
  eight : u.lives.length ≤ 8
theorem fine0 {n : Tm} {sd : Nat} (h : Rig.nm n = true) (hs : sd < 18446744073709551616) : Fine 0 (us0 n sd) :=
  ⟨h, hs, ⟨Nat.le_refl _, Nat.le_refl _⟩, Nat.le_refl _, List.nodup_nil, fun f hf => (List.not_mem_nil hf).elim, fun _ _ => rfl, Nat.zero_le _⟩
theorem Fine.up {n : Nat} {u : Us} (h : Fine n u) : Fine (n + 1) u :=
  ⟨h.nm, h.sd, ⟨h.dr.1, by have := h.dr.2; omega⟩, by have := h.few; omega, h.one, fun f hf => by obtain ⟨a, b, c, d, e, g⟩ := h.each f hf; exact ⟨a, b, c, d, by omega, g⟩, h.none, h.eight⟩
theorem live_in {u : Us} {f : Tm} (h : u.live f = true) : f ∈ u.ns ∧ (u.of f).gone = false := by
  unfold Us.live at h
  simpa using h
theorem rr_new {o f : Tm} (h : nm o = true) (h2 : nm f = true) : RR ⟨o, f, 0, [], []⟩ := ⟨h, h2, ⟨by simp, by simp⟩, by simp, lsd_nil _, lsd_nil _, fun x hx => (List.not_mem_nil hx).elim⟩
theorem updO_self (of : Tm → Ow) (f : Tm) (o : Ow) : updO of f o f = o := by unfold updO; rw [if_pos rfl]
theorem updO_ne {of : Tm → Ow} {f x : Tm} {o : Ow} (h : x ≠ f) : updO of f o x = of x := by unfold updO; rw [if_neg h]
theorem filter_le {p q : Tm → Bool} {l : List Tm} (h : ∀ x ∈ l, p x = true → q x = true) : (l.filter p).length ≤ (l.filter q).length := by
  rw [← List.countP_eq_length_filter, ← List.countP_eq_length_filter]
  exact List.countP_mono_left h
theorem filter_one {p q : Tm → Bool} {f : Tm} : ∀ {l : List Tm}, l.Nodup → (∀ x, x ≠ f → p x = true → q x = true) → (l.filter p).length ≤ (l.filter q).length + 1
  | [], _, _ => Nat.zero_le _
  | x :: l, hn, h => by
    obtain ⟨h1, h2⟩ := List.nodup_cons.1 hn
    by_cases e : x = f
    · have h3 : (l.filter p).length ≤ (l.filter q).length := filter_le fun y hy => h y fun e2 => h1 (by rw [e, ← e2]; exact hy)
      rw [List.filter_cons, List.filter_cons]
      split <;> split <;> (try simp only [List.length_cons]) <;> omega
    · have h3 := filter_one h2 h
      rw [List.filter_cons, List.filter_cons]
      have h4 := h x e
      by_cases hp : p x = true
      · rw [if_pos hp, if_pos (h4 hp)]; (try simp only [List.length_cons]); omega
      · rw [if_neg hp]; split <;> (try simp only [List.length_cons]) <;> omega
theorem fine_set {n : Nat} {u : Us} (h : Fine n u) {f : Tm} (hf : f ∈ u.ns) {o : Ow} {dr : Nat} (hd : u.dr ≤ dr ∧ dr ≤ u.dr + 2) (hr : RR o.r) (h1 : o.r.o = u.nm) (h2 : o.r.f = f) (h3 : 1 ≤ o.ver ∧ o.ver ≤ n + 1) (h4 : (o.sg.length : Int) = o.r.ep + 1) (h5 : (o.gone = false → (u.of f).gone = false) ∨ u.lives.length < 8) : Fine (n + 1) ⟨u.nm, u.sd, dr, u.ns, updO u.of f o⟩ where
  nm := h.nm
  sd := h.sd
  dr := ⟨by have := h.dr.1; show 1 ≤ dr; omega, by have := h.dr.2; show dr ≤ _; omega⟩
  few := by have := h.few; show u.ns.length ≤ n + 1; omega
  one := h.one
  each x hx := by
    show RR (updO u.of f o x).r ∧ (updO u.of f o x).r.o = u.nm ∧ (updO u.of f o x).r.f = x ∧ 1 ≤ (updO u.of f o x).ver ∧ (updO u.of f o x).ver ≤ n + 1 ∧ ((updO u.of f o x).sg.length : Int) = (updO u.of f o x).r.ep + 1
    by_cases e : x = f
    · subst e
      rw [updO_self]
      exact ⟨hr, h1, h2, h3.1, h3.2, h4⟩
    · rw [updO_ne e]
      obtain ⟨a, b, c, d, e, g⟩ := h.each x hx
      exact ⟨a, b, c, d, by omega, g⟩
  none x hx := by
    show updO u.of f o x = ow0
    rw [updO_ne (fun e => hx (by rw [e]; exact hf))]
    exact h.none x hx
  eight := by
    show (u.ns.filter _).length ≤ 8
    have hl : ∀ x, x ≠ f → (⟨u.nm, u.sd, dr, u.ns, updO u.of f o⟩ : Us).live x = true → u.live x = true := fun x hx h => by
      unfold Us.live at h ⊢
      rw [show (⟨u.nm, u.sd, dr, u.ns, updO u.of f o⟩ : Us).of x = u.of x from updO_ne hx] at h
      exact h
    rcases h5 with h5 | h5
    · refine Nat.le_trans (filter_le fun x hx h => ?_) h.eight
      by_cases e : x = f
      · subst e
        obtain ⟨h6, h7⟩ := live_in h
        rw [show (⟨u.nm, u.sd, dr, u.ns, updO u.of x o⟩ : Us).of x = o from updO_self _ _ _] at h7
        unfold Us.live
        simp [hf, h5 h7]
      · exact hl x e h
    · have := filter_one (p := (⟨u.nm, u.sd, dr, u.ns, updO u.of f o⟩ : Us).live) (q := u.live) h.one hl
      unfold Us.lives at h5
      omega
theorem fine_more {n : Nat} {u : Us} (h : Fine n u) {f : Tm} (hf : f ∉ u.ns) {o : Ow} {dr : Nat} (hd : u.dr ≤ dr ∧ dr ≤ u.dr + 2) (hr : RR o.r) (h1 : o.r.o = u.nm) (h2 : o.r.f = f) (h3 : o.ver = 1) (h4 : (o.sg.length : Int) = o.r.ep + 1) (h5 : u.lives.length < 8) : Fine (n + 1) ⟨u.nm, u.sd, dr, u.ns ++ [f], updO u.of f o⟩ where
  nm := h.nm
  sd := h.sd
  dr := ⟨by have := h.dr.1; show 1 ≤ dr; omega, by have := h.dr.2; show dr ≤ _; omega⟩
  few := by have := h.few; show (u.ns ++ [f]).length ≤ n + 1; rw [List.length_append]; simp; omega
  one := by
    show (u.ns ++ [f]).Nodup
    rw [List.nodup_append]
    exact ⟨h.one, by simp, fun a ha b hb e => hf (by rw [List.mem_singleton] at hb; rw [← hb, ← e]; exact ha)⟩
  each x hx := by
    show RR (updO u.of f o x).r ∧ (updO u.of f o x).r.o = u.nm ∧ (updO u.of f o x).r.f = x ∧ 1 ≤ (updO u.of f o x).ver ∧ (updO u.of f o x).ver ≤ n + 1 ∧ ((updO u.of f o x).sg.length : Int) = (updO u.of f o x).r.ep + 1
    by_cases e : x = f
    · subst e
      rw [updO_self]
      exact ⟨hr, h1, h2, by omega, by omega, h4⟩
    · rw [updO_ne e]
      obtain ⟨a, b, c, d, e, g⟩ := h.each x (by
        rcases List.mem_append.1 hx with h6 | h6
        · exact h6
        · exact absurd (List.mem_singleton.1 h6) e)
      exact ⟨a, b, c, d, by omega, g⟩
  none x hx := by
    have hx' : x ∉ u.ns ++ [f] := hx
    rw [List.mem_append, List.mem_singleton] at hx'
    show updO u.of f o x = ow0
    rw [updO_ne (fun e => hx' (.inr e))]
    exact h.none x fun h6 => hx' (.inl h6)
  eight := by
    have hl : ∀ x ∈ u.ns, (⟨u.nm, u.sd, dr, u.ns ++ [f], updO u.of f o⟩ : Us).live x = true → u.live x = true := fun x hx h => by
      unfold Us.live at h ⊢
      rw [show (⟨u.nm, u.sd, dr, u.ns ++ [f], updO u.of f o⟩ : Us).of x = u.of x from updO_ne (fun e => hf (by rw [← e]; exact hx))] at h
      simp only [Bool.and_eq_true, decide_eq_true_eq] at h ⊢
      exact ⟨hx, h.2⟩
    show ((u.ns ++ [f]).filter _).length ≤ 8
    rw [List.filter_append, List.length_append]
    have h6 := filter_le hl
    have h7 : ([f].filter (⟨u.nm, u.sd, dr, u.ns ++ [f], updO u.of f o⟩ : Us).live).length ≤ 1 := List.length_filter_le _ _
    unfold Us.lives at h5
    omega
theorem create_err {u : Us} {f : Tm} (h : (create u f).2 ≠ 0) : (create u f).1 = u := by
  unfold create at h ⊢
  split
  · rfl
  · split
    · rfl
    · split
      · rfl
      · rename_i h1 h2 h3; rw [if_neg h1, if_neg h2, if_neg h3] at h; exact absurd rfl h
theorem grant_err {u : Us} {f x : Tm} {b : Bool} (h : (grant u f x b).2 ≠ 0) : (grant u f x b).1 = u := by
  unfold grant at h ⊢
  split
  · rfl
  · split
    · rfl
    · rename_i h1 h2; rw [if_neg h1, if_neg h2] at h; exact absurd rfl h
theorem revoke_err {u : Us} {f x : Tm} (h : (revoke u f x).2 ≠ 0) : (revoke u f x).1 = u := by
  unfold revoke at h ⊢
  split
  · rfl
  · split
    · rfl
    · rename_i h1 h2; rw [if_neg h1, if_neg h2] at h; exact absurd rfl h
theorem remove_err {u : Us} {f : Tm} (h : (remove u f).2 ≠ 0) : (remove u f).1 = u := by
  unfold remove at h ⊢
  split
  · rfl
  · rename_i h1; rw [if_neg h1] at h; exact absurd rfl h
theorem fine_create {n : Nat} {u : Us} (h : Fine n u) (f : Tm) : Fine (n + 1) (create u f).1 := by
  by_cases he : (create u f).2 = 0
  case neg => rw [create_err he]; exact h.up
  unfold create at he ⊢
  by_cases h1 : nm f = false
  · rw [if_pos h1] at he; exact absurd (show (3 : Int) = 0 from he) (by decide)
  rw [if_neg h1] at he ⊢
  by_cases h2 : u.live f = true
  · rw [if_pos h2] at he; exact absurd (show (5 : Int) = 0 from he) (by decide)
  rw [if_neg h2] at he ⊢
  by_cases h3 : 8 ≤ u.lives.length
  · rw [if_pos h3] at he; exact absurd (show (10 : Int) = 0 from he) (by decide)
  rw [if_neg h3]
  have hr : RR ⟨u.nm, f, 0, [], []⟩ := rr_new h.nm (by simpa using h1)
  by_cases hf : f ∈ u.ns
  · simp only [if_pos hf]
    have hv := (h.each f hf).2.2.2
    exact fine_set h hf ⟨by omega, by omega⟩ hr rfl rfl ⟨by show 1 ≤ (if f ∈ u.ns then _ else _) + 1; omega, by show (if f ∈ u.ns then _ else _) + 1 ≤ n + 1; rw [if_pos hf]; omega⟩ rfl (.inr (by omega))
  · simp only [if_neg hf]
    exact fine_more h hf ⟨by omega, by omega⟩ hr rfl rfl (by show (if f ∈ u.ns then _ else _) + 1 = 1; rw [if_neg hf]) rfl (by omega)
theorem fine_grant {n : Nat} {u : Us} (h : Fine n u) (f x : Tm) (b : Bool) : Fine (n + 1) (grant u f x b).1 := by
  by_cases he : (grant u f x b).2 = 0
  case neg => rw [grant_err he]; exact h.up
  unfold grant at he ⊢
  by_cases h1 : u.live f = false
  · rw [if_pos h1] at he; exact absurd (show (4 : Int) = 0 from he) (by decide)
  rw [if_neg h1] at he ⊢
  obtain ⟨hf, hg⟩ := live_in (by simpa using h1)
  by_cases h2 : (gr (u.of f).r x b).2 ≠ 0
  · rw [if_pos h2] at he; exact absurd he h2
  rw [if_neg h2]
  obtain ⟨a1, a2, a3, a4, a5, a6⟩ := h.each f hf
  obtain ⟨s, e, hs⟩ : ∃ s e, gr (u.of f).r x b = (s, e) := ⟨_, _, rfl⟩
  have he0 : e = 0 := by rw [hs] at h2; simpa using h2
  subst he0
  rcases gr_right hs with ⟨_, b2, b3, _⟩ | ⟨_, b2⟩
  case inr => exact absurd rfl b2
  have hgr := gr_ok a1 b2 hs
  simp only [hs]
  exact fine_set h hf ⟨by omega, by omega⟩ b3 (by show s.o = _; rw [hgr.owner]; exact a2) (by show s.f = _; rw [hgr.file]; exact a3) ⟨by show 1 ≤ (u.of f).ver + 1; omega, by show (u.of f).ver + 1 ≤ n + 1; omega⟩ (by show (_ : Int) = s.ep + 1; rw [hgr.epoch]; exact a6) (.inl fun _ => hg)
theorem fine_revoke {n : Nat} {u : Us} (h : Fine n u) (f x : Tm) : Fine (n + 1) (revoke u f x).1 := by
  by_cases he : (revoke u f x).2 = 0
  case neg => rw [revoke_err he]; exact h.up
  unfold revoke at he ⊢
  by_cases h1 : u.live f = false
  · rw [if_pos h1] at he; exact absurd (show (4 : Int) = 0 from he) (by decide)
  rw [if_neg h1] at he ⊢
  obtain ⟨hf, hg⟩ := live_in (by simpa using h1)
  by_cases h2 : (rv (u.of f).r x).2 ≠ 0
  · rw [if_pos h2] at he; exact absurd he h2
  rw [if_neg h2]
  obtain ⟨a1, a2, a3, a4, a5, a6⟩ := h.each f hf
  obtain ⟨s, e, hs⟩ : ∃ s e, rv (u.of f).r x = (s, e) := ⟨_, _, rfl⟩
  have he0 : e = 0 := by rw [hs] at h2; simpa using h2
  subst he0
  rcases rv_right hs with ⟨_, b2, b3, _⟩ | ⟨_, b2⟩
  case inr => exact absurd rfl b2
  have hrv := rv_ok a1 b2 hs
  simp only [hs]
  exact fine_set h hf ⟨by omega, by omega⟩ b3 (by show s.o = _; rw [hrv.is]; exact a2) (by show s.f = _; rw [hrv.is]; exact a3) ⟨by show 1 ≤ (u.of f).ver + 1; omega, by show (u.of f).ver + 1 ≤ n + 1; omega⟩ (by show ((((u.of f).sg ++ [_]).length : Nat) : Int) = s.ep + 1; rw [hrv.epoch, List.length_append, List.length_singleton]; omega) (.inl fun _ => hg)
theorem fine_remove {n : Nat} {u : Us} (h : Fine n u) (f : Tm) : Fine (n + 1) (remove u f).1 := by
  by_cases he : (remove u f).2 = 0
  case neg => rw [remove_err he]; exact h.up
  unfold remove at he ⊢
  by_cases h1 : u.live f = false
  · rw [if_pos h1] at he; exact absurd (show (4 : Int) = 0 from he) (by decide)
  rw [if_neg h1]
  obtain ⟨hf, hg⟩ := live_in (by simpa using h1)
  obtain ⟨a1, a2, a3, a4, a5, a6⟩ := h.each f hf
  exact fine_set h hf ⟨Nat.le_refl _, by omega⟩ a1 a2 a3 ⟨a4, by show (u.of f).ver ≤ n + 1; omega⟩ a6 (.inl fun e => absurd e (by simp))
theorem create_who (u : Us) (f : Tm) : (create u f).1.nm = u.nm ∧ (create u f).1.sd = u.sd := by
  unfold create; split
  · exact ⟨rfl, rfl⟩
  · split
    · exact ⟨rfl, rfl⟩
    · split <;> exact ⟨rfl, rfl⟩
theorem grant_who (u : Us) (f x : Tm) (b : Bool) : (grant u f x b).1.nm = u.nm ∧ (grant u f x b).1.sd = u.sd := by
  unfold grant; split
  · exact ⟨rfl, rfl⟩
  · split <;> exact ⟨rfl, rfl⟩
theorem revoke_who (u : Us) (f x : Tm) : (revoke u f x).1.nm = u.nm ∧ (revoke u f x).1.sd = u.sd := by
  unfold revoke; split
  · exact ⟨rfl, rfl⟩
  · split <;> exact ⟨rfl, rfl⟩
theorem remove_who (u : Us) (f : Tm) : (remove u f).1.nm = u.nm ∧ (remove u f).1.sd = u.sd := by
  unfold remove; split <;> exact ⟨rfl, rfl⟩
end Go.Proofs.YtbdealddjonobaaGreat.Usr

namespace Go.Proofs.YtbdealddjonobaaGreat.Usr
open Go Go.RowKit Wire Rig Draw Frm

set_option linter.unusedVariables false
def Bk (vs : List Value) (b : Nat) : Prop := ∃ off n c, Value.slice (some ⟨b, off, none⟩) n c ∈ vs ∧ 0 < n
def rowP (A : Option Addr) (ys : List ByteArray) : Part where
  P w := SReads w A ys
  S b := 0 < ys.length ∧ ∃ off, A = some ⟨b, off, none⟩
  M _ := False
  sub _ h := h.elim
  dep hs h hb := fun j hj => by
    obtain ⟨b, off, e, hlt, hc⟩ := h j hj
    exact ⟨b, off, e, Nat.lt_of_lt_of_le hlt hs, (World.cell?_of_block (a := ⟨b, off + j, none⟩) (hb b ⟨by omega, off, e⟩)).trans hc⟩
  old h b hb := by
    obtain ⟨h0, off, e⟩ := hb
    exact sreads_lt h e h0
def OV (o f : ByteArray) (ep : Int) (A : Option Addr) (n c : Nat) (B : Option Addr) (m d : Nat) (ver : Int) (R : ByteArray) (S : Option Addr) (k e : Nat) (g : Bool) : List Value := [.string o, .string f, .int .i64 ep, .slice A n c, .slice B m d, .int .u64 ver, .string R, .slice S k e, .bool g]
def IsO (w : World) (vs : List Value) (x : Ow) : Prop := ∃ (o f : ByteArray) (A : Option Addr) (c : Nat) (rs : List ByteArray) (B : Option Addr) (d : Nat) (ws : List ByteArray) (R : ByteArray) (S : Option Addr) (e : Nat) (ss : List ByteArray),
  vs = OV o f x.r.ep A rs.length c B ws.length d (x.ver : Int) R S ss.length e x.gone ∧ x = ⟨⟨o.data.toList, f.data.toList, x.r.ep, bl rs, bl ws⟩, x.ver, R.data.toList, bl ss, x.gone⟩ ∧ SReads w A rs ∧ SReads w B ws ∧ SReads w S ss ∧ rs.length ≤ c ∧ ws.length ≤ d ∧ ss.length ≤ e
theorem isO_zero (w : World) : IsO w (OV ⟨#[]⟩ ⟨#[]⟩ 0 none 0 0 none 0 0 0 ⟨#[]⟩ none 0 0 false) ow0 := ⟨⟨#[]⟩, ⟨#[]⟩, none, 0, [], none, 0, [], ⟨#[]⟩, none, 0, [], rfl, rfl, SReads.nil _ _, SReads.nil _ _, SReads.nil _ _, Nat.le_refl _, Nat.le_refl _, Nat.le_refl _⟩
def ownP (vs : List Value) (x : Ow) : Part where
  P w := IsO w vs x
  S b := Bk vs b
  M _ := False
  sub _ h := h.elim
  dep hs h hb := by
    obtain ⟨o, f, A, c, rs, B, d, ws, R, S, e, ss, rfl, h2, h3, h4, h5, h6⟩ := h
    refine ⟨o, f, A, c, rs, B, d, ws, R, S, e, ss, rfl, h2, (rowP A rs).dep hs h3 fun b h => ?_, (rowP B ws).dep hs h4 fun b h => ?_, (rowP S ss).dep hs h5 fun b h => ?_, h6⟩
    · obtain ⟨h0, off, rfl⟩ := h
      exact hb b ⟨off, rs.length, c, by simp [OV], h0⟩
    · obtain ⟨h0, off, rfl⟩ := h
      exact hb b ⟨off, ws.length, d, by simp [OV], h0⟩
    · obtain ⟨h0, off, rfl⟩ := h
      exact hb b ⟨off, ss.length, e, by simp [OV], h0⟩
  old h b hb := by
    obtain ⟨o, f, A, c, rs, B, d, ws, R, S, e, ss, rfl, h2, h3, h4, h5, h6⟩ := h
    obtain ⟨off, n, c2, hm, h0⟩ := hb
    simp only [OV, List.mem_cons, reduceCtorEq, Value.slice.injEq, List.not_mem_nil, or_false, false_or] at hm
    rcases hm with ⟨e1, e2, _⟩ | ⟨e1, e2, _⟩ | ⟨e1, e2, _⟩
    · exact sreads_lt h3 e1.symm (by omega)
    · exact sreads_lt h4 e1.symm (by omega)
    · exact sreads_lt h5 e1.symm (by omega)
abbrev UPred := World → Addr → (Nat → Prop) → (Nat → Prop) → Us → Prop
def Shy (w : World) (S M : Nat → Prop) (b : Nat) : Prop := (S b ∧ ¬ M b) ∨ w.heap.size ≤ b
def More (w : World) (S S' : Nat → Prop) : Prop := ∀ b, S' b → S b ∨ w.heap.size ≤ b
def Turn (D : UPred) (a : Addr) (S M : Nat → Prop) (x : Us × Int) (w : World) (e : Ending) (w' : World) : Prop :=
  e = .returned (.int .i64 x.2) ∧ (∃ S' M', D w' a S' M' x.1 ∧ More w S S' ∧ More w M M') ∧ Fr M w w'
def Told (w : World) (S M : Nat → Prop) (l : List Tm) (e : Ending) (w' : World) : Prop :=
  ∃ (A : Option Addr) (c : Nat) (ys : List ByteArray), bl ys = l ∧ (ys.length ≤ c ∧ c ≤ 9223372036854775807) ∧ SReads w' A ys ∧ (∀ b, (rowP A ys).S b → Shy w S M b) ∧ e = .returned (.slice A ys.length c)
structure UserOK (D : UPred) : Prop where
  old : ∀ {w : World} {a : Addr} {S M : Nat → Prop} {u : Us}, D w a S M u → ∀ b, S b → b < w.heap.size
  sub : ∀ {w : World} {a : Addr} {S M : Nat → Prop} {u : Us}, D w a S M u → ∀ b, M b → S b
  keep : ∀ {w w' : World} {a : Addr} {S M : Nat → Prop} {u : Us}, w.heap.size ≤ w'.heap.size → D w a S M u → (∀ b, S b → w'.heap[b]? = w.heap[b]?) → D w' a S M u
  no : ∀ (N : ByteArray) (sd : Nat) (w : World), N.size ≤ 10000 → sd < 18446744073709551616 → nm N.data.toList = false → Calls Tryz.prog 9 #[.string N, .int .u64 (sd : Int)] w fun e w' => e = .returned (.tuple #[.pointer none, .int .i64 3]) ∧ Below w.heap.size w w'
  new : ∀ (N : ByteArray) (sd : Nat) (w : World), N.size ≤ 10000 → sd < 18446744073709551616 → nm N.data.toList = true → Calls Tryz.prog 9 #[.string N, .int .u64 (sd : Int)] w fun e w' => ∃ a S M, e = .returned (.tuple #[.pointer (some a), .int .i64 0]) ∧ D w' a S M (us0 N.data.toList sd) ∧ (∀ b, S b → w.heap.size ≤ b) ∧ Below w.heap.size w w'
  name : ∀ (n : Nat) (a : Addr) (S M : Nat → Prop) (u : Us) (w : World), D w a S M u → Fine n u → n ≤ 200 → Calls Tryz.prog 11 #[.pointer (some a)] w fun e w' => St u.nm e ∧ Below w.heap.size w w'
  secret : ∀ (n : Nat) (a : Addr) (S M : Nat → Prop) (u : Us) (w : World), D w a S M u → Fine n u → n ≤ 200 → Calls Tryz.prog 12 #[.pointer (some a)] w fun e w' => St u.sec e ∧ Below w.heap.size w w'
  pub : ∀ (n : Nat) (a : Addr) (S M : Nat → Prop) (u : Us) (w : World), D w a S M u → Fine n u → n ≤ 200 → Calls Tryz.prog 13 #[.pointer (some a)] w fun e w' => St (Term.one 117 u.sec).1 e ∧ Below w.heap.size w w'
  create : ∀ (n : Nat) (a : Addr) (S M : Nat → Prop) (u : Us) (F : ByteArray) (w : World), D w a S M u → Fine n u → n ≤ 200 → F.size ≤ 10000 → Calls Tryz.prog 17 #[.pointer (some a), .string F] w (Turn D a S M (create u F.data.toList) w)
  grant : ∀ (n : Nat) (a : Addr) (S M : Nat → Prop) (u : Us) (F W : ByteArray) (b : Bool) (w : World), D w a S M u → Fine n u → n ≤ 200 → F.size ≤ 10000 → W.size ≤ 10000 → Calls Tryz.prog 58 #[.pointer (some a), .string F, .string W, .bool b] w (Turn D a S M (grant u F.data.toList W.data.toList b) w)
  revoke : ∀ (n : Nat) (a : Addr) (S M : Nat → Prop) (u : Us) (F W : ByteArray) (w : World), D w a S M u → Fine n u → n ≤ 200 → F.size ≤ 10000 → W.size ≤ 10000 → Calls Tryz.prog 59 #[.pointer (some a), .string F, .string W] w (Turn D a S M (revoke u F.data.toList W.data.toList) w)
  remove : ∀ (n : Nat) (a : Addr) (S M : Nat → Prop) (u : Us) (F : ByteArray) (w : World), D w a S M u → Fine n u → n ≤ 200 → F.size ≤ 10000 → Calls Tryz.prog 18 #[.pointer (some a), .string F] w (Turn D a S M (remove u F.data.toList) w)
  own : ∀ (n : Nat) (a : Addr) (S M : Nat → Prop) (u : Us) (F : ByteArray) (w : World), D w a S M u → Fine n u → n ≤ 200 → F.size ≤ 10000 → Calls Tryz.prog 25 #[.pointer (some a), .string F] w fun e w' => (∃ vs, IsO w' vs (own u F.data.toList).1 ∧ (∀ b, Bk vs b → Shy w S M b) ∧ e = .returned (.tuple #[.agg vs.toArray, .int .i64 (own u F.data.toList).2])) ∧ Below w.heap.size w w'
  files : ∀ (n : Nat) (a : Addr) (S M : Nat → Prop) (u : Us) (w : World), D w a S M u → Fine n u → n ≤ 200 → Calls Tryz.prog 22 #[.pointer (some a)] w fun e w' => (∃ l, (Lsd [] l ∧ ∀ x, x ∈ l ↔ u.live x = true) ∧ Told w S M l e w') ∧ Below w.heap.size w w'
  copy : ∀ (n : Nat) (a : Addr) (S M : Nat → Prop) (u : Us) (w : World), D w a S M u → Fine n u → n ≤ 200 → Calls Tryz.prog 16 #[.pointer (some a)] w fun e w' => (∃ a' S' M', e = .returned (.pointer (some a')) ∧ D w' a' S' M' u ∧ (∀ b, M' b → w.heap.size ≤ b) ∧ ∀ b, S' b → Shy w S M b) ∧ Below w.heap.size w w'
def usP {D : UPred} (k : UserOK D) (a : Addr) (S M : Nat → Prop) (u : Us) : Part where
  P w := D w a S M u
  S := S
  M b := M b ∧ S b
  sub _ h := h.2
  dep := k.keep
  old := k.old
section
variable {D : UPred} {w0 w : World} {l : List Part} {a : Addr} {S M : Nat → Prop} {u : Us} {n : Nat}
theorem turn_fm (k : UserOK D) (i : Nat) (hi : l[i]? = some (usP k a S M u)) (h : Fm w0 w l) {x : Us × Int} {e : Ending} {w' : World} (t : Turn D a S M x w e w') : e = .returned (.int .i64 x.2) ∧ ∃ S' M', Fm w0 w' (l.set i (usP k a S' M' x.1)) := by
  obtain ⟨h1, ⟨S', M', h2, h3, h4⟩, h5⟩ := t
  have hd := h.at i hi
  refine ⟨h1, S', M', h.turn i hi ⟨h5.os, h5.tape, h5.output, h5.size, fun b hb hn => h5.block b hb fun hm => hn ⟨hm, k.sub hd b hm⟩⟩ h2 h3 fun b hb => ?_⟩
  rcases h4 b hb.1 with h6 | h6
  · exact .inl ⟨h6, k.sub hd b h6⟩
  · exact .inr h6
theorem u_new (k : UserOK D) (h : Fm w0 w l) (N : ByteArray) (sd : Nat) (hN : N.size ≤ 10000) (hs : sd < 18446744073709551616) (hn : nm N.data.toList = true) : Calls Tryz.prog 9 #[.string N, .int .u64 (sd : Int)] w fun e w' => ∃ a S M, e = .returned (.tuple #[.pointer (some a), .int .i64 0]) ∧ Fm w0 w' (usP k a S M (us0 N.data.toList sd) :: l) :=
  (k.new N sd w hN hs hn).mono fun e w' t => by
    obtain ⟨a, S, M, h1, h2, h3, h4⟩ := t
    exact ⟨a, S, M, h1, h.new h4 h2 h3 fun b hb => h3 b hb.2⟩
def TurnF (k : UserOK D) (w0 : World) (l : List Part) (i : Nat) (a : Addr) (x : Us × Int) (e : Ending) (w' : World) : Prop := e = .returned (.int .i64 x.2) ∧ ∃ S' M', Fm w0 w' (l.set i (usP k a S' M' x.1))
theorem u_create (k : UserOK D) (i : Nat) (hi : l[i]? = some (usP k a S M u)) (h : Fm w0 w l) (f : Fine n u) (hn : n ≤ 200) (F : ByteArray) (hF : F.size ≤ 10000) : Calls Tryz.prog 17 #[.pointer (some a), .string F] w (TurnF k w0 l i a (create u F.data.toList)) := (k.create n a S M u F w (h.at i hi) f hn hF).mono fun e w' t => turn_fm k i hi h t
theorem u_grant (k : UserOK D) (i : Nat) (hi : l[i]? = some (usP k a S M u)) (h : Fm w0 w l) (f : Fine n u) (hn : n ≤ 200) (F W : ByteArray) (b : Bool) (hF : F.size ≤ 10000) (hW : W.size ≤ 10000) : Calls Tryz.prog 58 #[.pointer (some a), .string F, .string W, .bool b] w (TurnF k w0 l i a (grant u F.data.toList W.data.toList b)) := (k.grant n a S M u F W b w (h.at i hi) f hn hF hW).mono fun e w' t => turn_fm k i hi h t
theorem u_revoke (k : UserOK D) (i : Nat) (hi : l[i]? = some (usP k a S M u)) (h : Fm w0 w l) (f : Fine n u) (hn : n ≤ 200) (F W : ByteArray) (hF : F.size ≤ 10000) (hW : W.size ≤ 10000) : Calls Tryz.prog 59 #[.pointer (some a), .string F, .string W] w (TurnF k w0 l i a (revoke u F.data.toList W.data.toList)) := (k.revoke n a S M u F W w (h.at i hi) f hn hF hW).mono fun e w' t => turn_fm k i hi h t
theorem u_remove (k : UserOK D) (i : Nat) (hi : l[i]? = some (usP k a S M u)) (h : Fm w0 w l) (f : Fine n u) (hn : n ≤ 200) (F : ByteArray) (hF : F.size ≤ 10000) : Calls Tryz.prog 18 #[.pointer (some a), .string F] w (TurnF k w0 l i a (remove u F.data.toList)) := (k.remove n a S M u F w (h.at i hi) f hn hF).mono fun e w' t => turn_fm k i hi h t
theorem shut_fm {k : UserOK D} {b : Nat} (h : Shy w S M b) : ((usP k a S M u).S b ∧ ¬ (usP k a S M u).M b) ∨ w.heap.size ≤ b := h.imp_left fun h2 => ⟨h2.1, fun h3 => h2.2 h3.1⟩
theorem isO_lit {vs : List Value} {x : Ow} (h : IsO w vs x) : ∃ o f A c B d R S e, vs = OV o f x.r.ep A x.r.rs.length c B x.r.ws.length d (x.ver : Int) R S x.sg.length e x.gone ∧ o.data.toList = x.r.o ∧ f.data.toList = x.r.f ∧ R.data.toList = x.root := by
  obtain ⟨o, f, A, c, rs, B, d, ws, R, S, e, ss, h1, h2, _⟩ := h
  have p1 := congrArg (fun z : Ow => z.r.rs) h2
  have p2 := congrArg (fun z : Ow => z.r.ws) h2
  have p3 := congrArg Ow.sg h2
  have p4 := congrArg (fun z : Ow => z.r.o) h2
  have p5 := congrArg (fun z : Ow => z.r.f) h2
  have p6 := congrArg Ow.root h2
  simp only at p1 p2 p3 p4 p5 p6
  exact ⟨o, f, A, c, B, d, R, S, e, by rw [p1, p2, p3, bl_len, bl_len, bl_len]; exact h1, p4.symm, p5.symm, p6.symm⟩
theorem u_own (k : UserOK D) (i : Nat) (hi : l[i]? = some (usP k a S M u)) (h : Fm w0 w l) (f : Fine n u) (hn : n ≤ 200) (F : ByteArray) (hF : F.size ≤ 10000) : Calls Tryz.prog 25 #[.pointer (some a), .string F] w fun e w' => ∃ vs, Fm w0 w' (ownP vs (own u F.data.toList).1 :: l) ∧ e = .returned (.tuple #[.agg vs.toArray, .int .i64 (own u F.data.toList).2]) :=
  (k.own n a S M u F w (h.at i hi) f hn hF).mono fun e w' t => by
    obtain ⟨⟨vs, h1, h2, h3⟩, h4⟩ := t
    exact ⟨vs, h.told i hi h4 h1 (fun b hb => hb) fun b hb => shut_fm (h2 b hb), h3⟩
end
end Go.Proofs.YtbdealddjonobaaGreat.Usr

namespace Go.Proofs.YtbdealddjonobaaGreat.Usr
open Go Go.RowKit Wire Rig Draw Frm

set_option linter.unusedSimpArgs false
set_option linter.unusedVariables false
theorem bx3 {w : World} {g : Nat} {v0 v1 v2 : Value} {t : TypeId} (h : (box g #[v0, v1, v2] t).P w) : w.cell? ⟨g, 0, none⟩ = some v0 ∧ w.cell? ⟨g, 1, none⟩ = some v1 ∧ w.cell? ⟨g, 2, none⟩ = some v2 ∧ g < w.heap.size := ⟨box_at h 0, box_at h 1, box_at h 2, box_lt h⟩
theorem bx9 {w : World} {g : Nat} {v0 v1 v2 v3 v4 v5 v6 v7 v8 : Value} {t : TypeId} (h : (box g #[v0, v1, v2, v3, v4, v5, v6, v7, v8] t).P w) : w.cell? ⟨g, 0, none⟩ = some v0 ∧ w.cell? ⟨g, 1, none⟩ = some v1 ∧ w.cell? ⟨g, 2, none⟩ = some v2 ∧ w.cell? ⟨g, 3, none⟩ = some v3 ∧ w.cell? ⟨g, 4, none⟩ = some v4 ∧ w.cell? ⟨g, 5, none⟩ = some v5 ∧ w.cell? ⟨g, 6, none⟩ = some v6 ∧ w.cell? ⟨g, 7, none⟩ = some v7 ∧ w.cell? ⟨g, 8, none⟩ = some v8 ∧ g < w.heap.size :=
  ⟨box_at h 0, box_at h 1, box_at h 2, box_at h 3, box_at h 4, box_at h 5, box_at h 6, box_at h 7, box_at h 8, box_lt h⟩
def fileK : List ByteArray := [⟨#[110, 111, 116, 101, 115]⟩, ⟨#[97]⟩, ⟨#[98]⟩, ⟨#[99]⟩, ⟨#[100]⟩, ⟨#[101]⟩, ⟨#[102]⟩, ⟨#[103]⟩, ⟨#[104]⟩, ⟨#[88]⟩]
def fileN (c : Int) : ByteArray := fileK.getD (Rig.pk c 10) ByteArray.empty
theorem fileN_size (c : Int) : (fileN c).size ≤ 5 := by
  have h := Rig.pk_lt c (n := 10) (by decide)
  unfold fileN
  generalize Rig.pk c 10 = m at h
  have : ∀ a : Fin 10, (fileK.getD a.1 ByteArray.empty).size ≤ 5 := by decide +kernel
  exact this ⟨m, h⟩
set_option maxHeartbeats 4000000 in
set_option maxRecDepth 1000000 in
theorem file_any (k : Int) (hk : -9223372036854775808 ≤ k ∧ k ≤ 9223372036854775807) (w : World) : Calls Tryz.prog 24 #[.int .i64 k] w fun e w' => e = .returned (.string (fileN k)) ∧ Below w.heap.size w w' := by
  have HP : Hid (∀ w, Calls Tryz.prog 15 #[.int .i64 k, .int .i64 10] w fun e w' => e = .returned (.int .i64 ((Rig.pk k 10 : Nat) : Int)) ∧ w' = w) := zh fun w => pick7_any k 10 w hk (by decide) (by decide)
  have hlt := Rig.pk_lt k (n := 10) (by decide)
  obtain ⟨s, hs⟩ : ∃ s, fileN k = s := ⟨_, rfl⟩
  rw [hs]
  unfold fileN at hs
  generalize Rig.pk k 10 = m at HP hlt hs
  have hm0 : (0 : Int) ≤ (m : Int) := Int.natCast_nonneg m
  have hm5 : (m : Int) < 10 := by omega
  obtain ⟨W, hW⟩ : ∃ W, (w.alloc (.cells #[.string ⟨#[110, 111, 116, 101, 115]⟩, .string ⟨#[97]⟩, .string ⟨#[98]⟩, .string ⟨#[99]⟩, .string ⟨#[100]⟩, .string ⟨#[101]⟩, .string ⟨#[102]⟩, .string ⟨#[103]⟩, .string ⟨#[104]⟩, .string ⟨#[88]⟩] 9)) = W := ⟨_, rfl⟩
  have hbW : Below w.heap.size w W := by rw [← hW]; exact (Below.refl _ w).alloc zl _
  have hcell : W.cell? ⟨w.heap.size, m, none⟩ = some (.string (fileK.getD m ByteArray.empty)) := by
    rw [← hW]
    have h5 : m = 0 ∨ m = 1 ∨ m = 2 ∨ m = 3 ∨ m = 4 ∨ m = 5 ∨ m = 6 ∨ m = 7 ∨ m = 8 ∨ m = 9 := by omega
    rcases h5 with rfl | rfl | rfl | rfl | rfl | rfl | rfl | rfl | rfl | rfl <;> simp [go_sem, fileK]
  rw [hs] at hcell
  go_enter Tryz.func24, Tryz.ntmps24
  go_wp2_with fail
  clear hW
  with_reducible refine (HP.out _).mono ?_
  rintro e v1 ⟨rfl, rfl⟩
  dsimp only
  go_wp2
  go_ret
  exact ⟨rfl, hbW⟩
theorem isO_two {w : World} {vs us : List Value} {x : Ow} (h : IsO w vs x) (h' : IsO w us x) : ∃ (o f : ByteArray) (A : Option Addr) (c : Nat) (rs : List ByteArray) (B : Option Addr) (d : Nat) (ws : List ByteArray) (R : ByteArray) (S : Option Addr) (e : Nat) (ss : List ByteArray) (A' : Option Addr) (c' : Nat) (B' : Option Addr) (d' : Nat) (S' : Option Addr) (e' : Nat),
    vs = OV o f x.r.ep A rs.length c B ws.length d (x.ver : Int) R S ss.length e x.gone ∧ us = OV o f x.r.ep A' rs.length c' B' ws.length d' (x.ver : Int) R S' ss.length e' x.gone ∧ SReads w A rs ∧ SReads w B ws ∧ SReads w S ss ∧ SReads w A' rs ∧ SReads w B' ws ∧ SReads w S' ss ∧ rs.length = x.r.rs.length ∧ ws.length = x.r.ws.length ∧ ss.length = x.sg.length := by
  obtain ⟨o, f, A, c, rs, B, d, ws, R, S, e, ss, h1, h2, h3, h4, h5, _⟩ := h
  obtain ⟨o', f', A', c', rs', B', d', ws', R', S', e', ss', h1', h2', h3', h4', h5', _⟩ := h'
  have q := h2.symm.trans h2'
  simp only [Ow.mk.injEq, Rt.mk.injEq] at q
  obtain ⟨⟨q1, q2, _, q4, q5⟩, _, q6, q7, _⟩ := q
  obtain rfl := str_eq q1
  obtain rfl := str_eq q2
  obtain rfl := bl_inj q4
  obtain rfl := bl_inj q5
  obtain rfl := str_eq q6
  obtain rfl := bl_inj q7
  have p1 := congrArg (fun z : Ow => z.r.rs) h2
  have p2 := congrArg (fun z : Ow => z.r.ws) h2
  have p3 := congrArg Ow.sg h2
  simp only at p1 p2 p3
  exact ⟨o, f, A, c, rs, B, d, ws, R, S, e, ss, A', c', B', d', S', e', h1, h1', h3, h4, h5, h3', h4', h5', by rw [p1, bl_len], by rw [p2, bl_len], by rw [p3, bl_len]⟩
set_option maxHeartbeats 4000000 in
set_option maxRecDepth 1000000 in
theorem same14_any (vs us : List Value) (x : Ow) (w : World) (h : IsO w vs x) (h' : IsO w us x) (hn : x.r.rs.length ≤ 1000000 ∧ x.r.ws.length ≤ 1000000) (hs : x.sg.length ≤ 1000000) : Calls Tryz.prog 27 #[.agg vs.toArray, .agg us.toArray] w fun z w' => z = .returned (.bool true) ∧ Below w.heap.size w w' := by
  obtain ⟨o, f, A, c, rs, B, d, ws, R, S, e, ss, A', c', B', d', S', e', rfl, rfl, h1, h2, h3, h4, h5, h6, l1, l2, l3⟩ := isO_two h h'
  rw [← l1, ← l2] at hn
  rw [← l3] at hs
  generalize x.r.ep = ep
  generalize ((x.ver : Nat) : Int) = ver
  generalize x.gone = g
  clear l1 l2 l3 h h'
  have HSM : Hid (∀ w1, Below w.heap.size w w1 → Calls Tryz.prog 36 #[.agg #[.string o, .string f, .int .i64 ep, .slice A rs.length c, .slice B ws.length d], .agg #[.string o, .string f, .int .i64 ep, .slice A' rs.length c', .slice B' ws.length d']] w1 fun e w' => e = .returned (.bool true) ∧ Below w1.heap.size w1 w') := zh fun w1 hb => rsame_any o f ep A c rs B d ws A' c' B' d' w1 (h1.below hb zl) (h2.below hb zl) (h4.below hb zl) (h5.below hb zl) (by omega) (by omega)
  have HS1 := zh h3
  have HS2 := zh h6
  clear h1 h2 h3 h4 h5 h6
  obtain ⟨m, hm⟩ : ∃ m, rs.length = m := ⟨_, rfl⟩
  obtain ⟨p, hp⟩ : ∃ p, ws.length = p := ⟨_, rfl⟩
  rw [hm, hp] at HSM ⊢
  rw [hm, hp] at hn
  obtain ⟨q, hq⟩ : ∃ q, ss.length = q := ⟨_, rfl⟩
  have HQ := zh hq
  rw [hq] at hs ⊢
  clear hm hp hq
  unfold OV
  have HF := zh (fm_refl w)
  go_enter Tryz.func27, Tryz.ntmps27
  go_wp2_with fail
  have hF := (HF.out.box #[.string o, .string f, .int .i64 ep, .slice A m c, .slice B p d, .int .u64 ver, .string R, .slice S q e, .bool g] 53).box #[.string o, .string f, .int .i64 ep, .slice A' m c', .slice B' p d', .int .u64 ver, .string R, .slice S' q e', .bool g] 53
  rw [show (w.alloc (.cells #[.string o, .string f, .int .i64 ep, .slice A m c, .slice B p d, .int .u64 ver, .string R, .slice S q e, .bool g] 53)).heap.size = w.heap.size + 1 by simp] at hF
  generalize (w.alloc (.cells #[.string o, .string f, .int .i64 ep, .slice A m c, .slice B p d, .int .u64 ver, .string R, .slice S q e, .bool g] 53)).alloc (.cells #[.string o, .string f, .int .i64 ep, .slice A' m c', .slice B' p d', .int .u64 ver, .string R, .slice S' q e', .bool g] 53) = w1 at hF ⊢
  replace HF := zh hF
  clear hF
  obtain ⟨c0, c1, c2, c3, c4, c5, c6, c7, c8, c9⟩ := bx9 (HF.out.at 1 rfl)
  obtain ⟨d0, d1, d2, d3, d4, d5, d6, d7, d8, d9⟩ := bx9 (HF.out.at 0 rfl)
  go_wp2_with fail
  clear c0 c1 c2 c3 c4 c5 c6 c7 c8 c9
  clear d0 d1 d2 d3 d4 d5 d6 d7 d8 d9
  with_reducible refine (HSM.out _ HF.out.bel).mono ?_
  rintro e w1 ⟨rfl, hb⟩
  replace HF := zh (HF.out.go hb)
  clear hb
  try dsimp only
  obtain ⟨c0, c1, c2, c3, c4, c5, c6, c7, c8, c9⟩ := bx9 (HF.out.at 1 rfl)
  obtain ⟨d0, d1, d2, d3, d4, d5, d6, d7, d8, d9⟩ := bx9 (HF.out.at 0 rfl)
  go_wp2_with fail
  clear c0 c1 c2 c3 c4 c5 c6 c7 c8 c9
  clear d0 d1 d2 d3 d4 d5 d6 d7 d8 d9
  go_loopw [5] (fun i wr => ∃ k : Nat, k ≤ q ∧ i = .int .i64 (k : Int) ∧ Hid (Below w1.heap.size w1 wr)) (fun i _ => q - (intOf i).toNat)
  case atStart => exact ⟨0, Nat.zero_le _, rfl, zh (Below.refl _ _)⟩
  case round =>
    obtain ⟨k, hk, rfl, HW⟩ := hrel
    have HFR := zh (HF.out.go HW.out)
    obtain ⟨c0, c1, c2, c3, c4, c5, c6, c7, c8, c9⟩ := bx9 (HFR.out.at 1 rfl)
    obtain ⟨d0, d1, d2, d3, d4, d5, d6, d7, d8, d9⟩ := bx9 (HFR.out.at 0 rfl)
    by_cases hlt : (k : Int) < (q : Int)
    · obtain ⟨b1, o1, rfl, hb1, e1⟩ := (HS1.out.below HFR.out.bel zl) k (by rw [HQ.out]; omega)
      obtain ⟨b2, o2, rfl, hb2, e2⟩ := (HS2.out.below HFR.out.bel zl) k (by rw [HQ.out]; omega)
      obtain ⟨y, hy⟩ : ∃ y, ss.getD k ByteArray.empty = y := ⟨_, rfl⟩
      rw [hy] at e1 e2
      have hk0 : (0 : Int) ≤ (k : Int) := by omega
      clear hy hb1 hb2
      go_wp2
      go_quiet (fail)
      go_wp2
      go_roundw
      case rel => exact ⟨k + 1, by omega, by go_num, zh (Below.drewN' HW.out _)⟩
      case measure => simp [intOf]; omega
    · go_wp2
      go_ret
      exact ⟨rfl, HFR.out.bel⟩
end Go.Proofs.YtbdealddjonobaaGreat.Usr

namespace Go.Proofs.YtbdealddjonobaaGreat.Usr
open Go Go.RowKit Wire Rig Draw Frm

set_option linter.unusedSimpArgs false
set_option linter.unusedVariables false
def doU (u : Us) (z0 z1 z2 : Int) : Us × Int :=
  if Rig.pk z0 9 < 2 then create u (fileN z1).data.toList
  else if Rig.pk z0 9 < 5 then grant u (fileN z1).data.toList (whoN (Rig.pk z2 8)).data.toList (decide (Rig.pk z0 9 = 4))
  else if Rig.pk z0 9 < 8 then revoke u (fileN z1).data.toList (whoN (Rig.pk z2 8)).data.toList
  else remove u (fileN z1).data.toList
theorem fine_do {n : Nat} {u : Us} (h : Fine n u) (z0 z1 z2 : Int) : Fine (n + 1) (doU u z0 z1 z2).1 := by
  unfold doU
  split
  · exact fine_create h _
  · split
    · exact fine_grant h _ _ _
    · split
      · exact fine_revoke h _ _
      · exact fine_remove h _
theorem do_who (u : Us) (z0 z1 z2 : Int) : (doU u z0 z1 z2).1.nm = u.nm ∧ (doU u z0 z1 z2).1.sd = u.sd := by
  unfold doU; split
  · exact create_who _ _
  · split
    · exact grant_who _ _ _ _
    · split
      · exact revoke_who _ _ _
      · exact remove_who _ _
section
variable {D : UPred} {w0 w : World} {l : List Part} {a : Addr} {S M : Nat → Prop} {u : Us} {n : Nat}
theorem act_at {A : Option Addr} {m i : Nat} {Z : Nat → Nat → Int} (h : Acts.AReads 3 w A m Z) (hi : (i : Int) < (m : Int)) : ∃ (b off : Nat) (z0 z1 z2 : Int), A = some ⟨b, off, none⟩ ∧ (∀ wr, Below w.heap.size w wr → wr.cell? ⟨b, off + i * 3, none⟩ = some (.int .i64 z0) ∧ wr.cell? ⟨b, off + i * 3 + 1, none⟩ = some (.int .i64 z1) ∧ wr.cell? ⟨b, off + i * 3 + 2, none⟩ = some (.int .i64 z2)) ∧
    (-9223372036854775808 ≤ z0 ∧ z0 ≤ 9223372036854775807) ∧ (-9223372036854775808 ≤ z1 ∧ z1 ≤ 9223372036854775807) ∧ (-9223372036854775808 ≤ z2 ∧ z2 ≤ 9223372036854775807) ∧ Hid (z0 = Z i 0 ∧ z1 = Z i 1 ∧ z2 = Z i 2) := by
  obtain ⟨b, off, e, hlt, hc⟩ := h i (by omega)
  have k : ∀ wr, Below w.heap.size w wr → ∀ j, j < 3 → wr.cell? ⟨b, off + i * 3 + j, none⟩ = some (.int .i64 (Z i j)) := fun wr hb j hj => (hb.cell (p := ⟨b, off + i * 3 + j, none⟩) hlt).trans (hc j hj).1
  exact ⟨b, off, _, _, _, e, fun wr hb => ⟨k wr hb 0 (by decide), k wr hb 1 (by decide), k wr hb 2 (by decide)⟩, (hc 0 (by decide)).2, (hc 1 (by decide)).2, (hc 2 (by decide)).2, rfl, rfl, rfl⟩
theorem turnF_tail {k : UserOK D} {p : Part} {i : Nat} {x : Us × Int} {e : Ending} {w' : World} (h : TurnF k w0 (p :: l) (i + 1) a x e w') : TurnF k w0 l i a x e w' := by
  obtain ⟨h1, S', M', h2⟩ := h
  exact ⟨h1, S', M', (show Fm w0 w' (p :: l.set i (usP k a S' M' x.1)) from h2).tail⟩
set_option maxHeartbeats 8000000 in
set_option maxRecDepth 1000000 in
theorem does_any (k : UserOK D) (i : Nat) (hi : l[i]? = some (usP k a S M u)) (h : Fm w0 w l) (f : Fine n u) (hn : n ≤ 200) (z0 z1 z2 : Int) (h0 : -9223372036854775808 ≤ z0 ∧ z0 ≤ 9223372036854775807) (h1 : -9223372036854775808 ≤ z1 ∧ z1 ≤ 9223372036854775807) (h2 : -9223372036854775808 ≤ z2 ∧ z2 ≤ 9223372036854775807) : Calls Tryz.prog 19 #[.pointer (some a), .agg #[.int .i64 z0, .int .i64 z1, .int .i64 z2]] w (TurnF k w0 l i a (doU u z0 z1 z2)) := by
  have HK := zh k
  have HI : Hid (∀ p : Part, (p :: l)[i + 1]? = some (usP k a S M u)) := zh fun p => by simpa using hi
  have HFI := zh f
  have HF := zh h
  have HP : Hid (∀ w, Calls Tryz.prog 15 #[.int .i64 z0, .int .i64 9] w fun e w' => e = .returned (.int .i64 ((Rig.pk z0 9 : Nat) : Int)) ∧ w' = w) := zh fun w => pick7_any z0 9 w h0 (by decide) (by decide)
  have HFN := zh fun w => file_any z1 h1 w
  have HWN := zh fun w => who_any z2 w h2
  have hfs := fileN_size z1
  have hws := who_size (Rig.pk z2 8)
  have hlt := Rig.pk_lt z0 (n := 9) (by decide)
  obtain ⟨xd, hxd⟩ : ∃ xd, doU u z0 z1 z2 = xd := ⟨_, rfl⟩
  rw [hxd]
  unfold doU at hxd
  have HD := zh hxd
  clear hxd
  generalize fileN z1 = F at *
  generalize whoN (Rig.pk z2 8) = W at *
  generalize Rig.pk z0 9 = m at *
  have hF5 : F.size ≤ 10000 := by omega
  have hW5 : W.size ≤ 10000 := by omega
  clear hfs hws h0 h1 h2 h hi f
  by_cases g0 : m < 2
  · have HX := HD.out
    rw [if_pos g0] at HX
    have i0 : (m : Int) < 2 := by omega
    have HX2 := zh HX
    clear HX HD g0
    go_enter Tryz.func19, Tryz.ntmps19
    go_wp2_with fail
    have hF := HF.out.box #[.int .i64 z0, .int .i64 z1, .int .i64 z2] 41
    generalize w.alloc (.cells #[.int .i64 z0, .int .i64 z1, .int .i64 z2] 41) = w1 at hF ⊢
    replace HF := zh hF
    clear hF
    obtain ⟨c0, c1, c2, c3⟩ := bx3 (HF.out.at 0 rfl)
    go_wp2_with fail
    clear c0 c1 c2 c3
    with_reducible refine (HFN.out _).mono ?_
    rintro e w1 ⟨rfl, hb⟩
    replace HF := zh (HF.out.go hb)
    clear hb
    try dsimp only
    obtain ⟨c0, c1, c2, c3⟩ := bx3 (HF.out.at 0 rfl)
    go_wp2_with fail
    clear c0 c1 c2 c3
    with_reducible refine (HP.out _).mono ?_
    rintro e w2 ⟨rfl, hw⟩
    obtain rfl : w1 = w2 := hw.symm
    try dsimp only
    obtain ⟨c0, c1, c2, c3⟩ := bx3 (HF.out.at 0 rfl)
    go_wp2_with fail
    clear c0 c1 c2 c3
    with_reducible refine (u_create HK.out _ (HI.out _) HF.out HFI.out hn F hF5).mono ?_
    rintro e w1 hT
    rw [HX2.out] at hT
    have HT := zh (turnF_tail hT)
    obtain ⟨rfl, _⟩ := hT
    dsimp only
    go_wp2
    go_ret
    exact HT.out
  by_cases g1 : m < 5
  · by_cases g4 : m = 4
    · have HX := HD.out
      rw [if_neg g0] at HX
      rw [if_pos g1] at HX
      have i0 : ¬ (m : Int) < 2 := by omega
      have i1 : (m : Int) < 5 := by omega
      subst g4
      rw [show decide (4 = 4) = true from rfl] at HX
      have HX2 := zh HX
      clear HX HD g0 g1
      go_enter Tryz.func19, Tryz.ntmps19
      go_wp2_with fail
      have hF := HF.out.box #[.int .i64 z0, .int .i64 z1, .int .i64 z2] 41
      generalize w.alloc (.cells #[.int .i64 z0, .int .i64 z1, .int .i64 z2] 41) = w1 at hF ⊢
      replace HF := zh hF
      clear hF
      obtain ⟨c0, c1, c2, c3⟩ := bx3 (HF.out.at 0 rfl)
      go_wp2_with fail
      clear c0 c1 c2 c3
      with_reducible refine (HFN.out _).mono ?_
      rintro e w1 ⟨rfl, hb⟩
      replace HF := zh (HF.out.go hb)
      clear hb
      try dsimp only
      obtain ⟨c0, c1, c2, c3⟩ := bx3 (HF.out.at 0 rfl)
      go_wp2_with fail
      clear c0 c1 c2 c3
      with_reducible refine (HP.out _).mono ?_
      rintro e w2 ⟨rfl, hw⟩
      obtain rfl : w1 = w2 := hw.symm
      try dsimp only
      obtain ⟨c0, c1, c2, c3⟩ := bx3 (HF.out.at 0 rfl)
      go_wp2_with fail
      clear c0 c1 c2 c3
      with_reducible refine (HWN.out _).mono ?_
      rintro e w1 ⟨rfl, hb⟩
      replace HF := zh (HF.out.go hb)
      clear hb
      try dsimp only
      go_wp2_with fail
      with_reducible refine (u_grant HK.out _ (HI.out _) HF.out HFI.out hn F W true hF5 hW5).mono ?_
      rintro e w1 hT
      rw [HX2.out] at hT
      have HT := zh (turnF_tail hT)
      obtain ⟨rfl, _⟩ := hT
      dsimp only
      go_wp2
      go_ret
      exact HT.out
    · have HX := HD.out
      rw [if_neg g0] at HX
      rw [if_pos g1] at HX
      have i0 : ¬ (m : Int) < 2 := by omega
      have i1 : (m : Int) < 5 := by omega
      have i4 : ((m : Int) == 4) = false := by simpa using (by omega : ¬ (m : Int) = 4)
      rw [decide_eq_false g4] at HX
      have HX2 := zh HX
      clear HX HD g0 g1
      go_enter Tryz.func19, Tryz.ntmps19
      go_wp2_with fail
      have hF := HF.out.box #[.int .i64 z0, .int .i64 z1, .int .i64 z2] 41
      generalize w.alloc (.cells #[.int .i64 z0, .int .i64 z1, .int .i64 z2] 41) = w1 at hF ⊢
      replace HF := zh hF
      clear hF
      obtain ⟨c0, c1, c2, c3⟩ := bx3 (HF.out.at 0 rfl)
      go_wp2_with fail
      clear c0 c1 c2 c3
      with_reducible refine (HFN.out _).mono ?_
      rintro e w1 ⟨rfl, hb⟩
      replace HF := zh (HF.out.go hb)
      clear hb
      try dsimp only
      obtain ⟨c0, c1, c2, c3⟩ := bx3 (HF.out.at 0 rfl)
      go_wp2_with fail
      clear c0 c1 c2 c3
      with_reducible refine (HP.out _).mono ?_
      rintro e w2 ⟨rfl, hw⟩
      obtain rfl : w1 = w2 := hw.symm
      try dsimp only
      obtain ⟨c0, c1, c2, c3⟩ := bx3 (HF.out.at 0 rfl)
      go_wp2_with fail
      clear c0 c1 c2 c3
      with_reducible refine (HWN.out _).mono ?_
      rintro e w1 ⟨rfl, hb⟩
      replace HF := zh (HF.out.go hb)
      clear hb
      try dsimp only
      go_wp2_with fail
      with_reducible refine (u_grant HK.out _ (HI.out _) HF.out HFI.out hn F W false hF5 hW5).mono ?_
      rintro e w1 hT
      rw [HX2.out] at hT
      have HT := zh (turnF_tail hT)
      obtain ⟨rfl, _⟩ := hT
      dsimp only
      go_wp2
      go_ret
      exact HT.out
  by_cases g2 : m < 8
  · have HX := HD.out
    rw [if_neg g0] at HX
    rw [if_neg g1] at HX
    rw [if_pos g2] at HX
    have i0 : ¬ (m : Int) < 2 := by omega
    have i1 : ¬ (m : Int) < 5 := by omega
    have i2 : (m : Int) < 8 := by omega
    have HX2 := zh HX
    clear HX HD g0 g1 g2
    go_enter Tryz.func19, Tryz.ntmps19
    go_wp2_with fail
    have hF := HF.out.box #[.int .i64 z0, .int .i64 z1, .int .i64 z2] 41
    generalize w.alloc (.cells #[.int .i64 z0, .int .i64 z1, .int .i64 z2] 41) = w1 at hF ⊢
    replace HF := zh hF
    clear hF
    obtain ⟨c0, c1, c2, c3⟩ := bx3 (HF.out.at 0 rfl)
    go_wp2_with fail
    clear c0 c1 c2 c3
    with_reducible refine (HFN.out _).mono ?_
    rintro e w1 ⟨rfl, hb⟩
    replace HF := zh (HF.out.go hb)
    clear hb
    try dsimp only
    obtain ⟨c0, c1, c2, c3⟩ := bx3 (HF.out.at 0 rfl)
    go_wp2_with fail
    clear c0 c1 c2 c3
    with_reducible refine (HP.out _).mono ?_
    rintro e w2 ⟨rfl, hw⟩
    obtain rfl : w1 = w2 := hw.symm
    try dsimp only
    obtain ⟨c0, c1, c2, c3⟩ := bx3 (HF.out.at 0 rfl)
    go_wp2_with fail
    clear c0 c1 c2 c3
    with_reducible refine (HWN.out _).mono ?_
    rintro e w1 ⟨rfl, hb⟩
    replace HF := zh (HF.out.go hb)
    clear hb
    try dsimp only
    go_wp2_with fail
    with_reducible refine (u_revoke HK.out _ (HI.out _) HF.out HFI.out hn F W hF5 hW5).mono ?_
    rintro e w1 hT
    rw [HX2.out] at hT
    have HT := zh (turnF_tail hT)
    obtain ⟨rfl, _⟩ := hT
    dsimp only
    go_wp2
    go_ret
    exact HT.out
  have HX := HD.out
  rw [if_neg g0] at HX
  rw [if_neg g1] at HX
  rw [if_neg g2] at HX
  have i0 : ¬ (m : Int) < 2 := by omega
  have i1 : ¬ (m : Int) < 5 := by omega
  have i2 : ¬ (m : Int) < 8 := by omega
  have HX2 := zh HX
  clear HX HD g0 g1 g2
  go_enter Tryz.func19, Tryz.ntmps19
  go_wp2_with fail
  have hF := HF.out.box #[.int .i64 z0, .int .i64 z1, .int .i64 z2] 41
  generalize w.alloc (.cells #[.int .i64 z0, .int .i64 z1, .int .i64 z2] 41) = w1 at hF ⊢
  replace HF := zh hF
  clear hF
  obtain ⟨c0, c1, c2, c3⟩ := bx3 (HF.out.at 0 rfl)
  go_wp2_with fail
  clear c0 c1 c2 c3
  with_reducible refine (HFN.out _).mono ?_
  rintro e w1 ⟨rfl, hb⟩
  replace HF := zh (HF.out.go hb)
  clear hb
  try dsimp only
  obtain ⟨c0, c1, c2, c3⟩ := bx3 (HF.out.at 0 rfl)
  go_wp2_with fail
  clear c0 c1 c2 c3
  with_reducible refine (HP.out _).mono ?_
  rintro e w2 ⟨rfl, hw⟩
  obtain rfl : w1 = w2 := hw.symm
  try dsimp only
  obtain ⟨c0, c1, c2, c3⟩ := bx3 (HF.out.at 0 rfl)
  go_wp2_with fail
  clear c0 c1 c2 c3
  with_reducible refine (u_remove HK.out _ (HI.out _) HF.out HFI.out hn F hF5).mono ?_
  rintro e w1 hT
  rw [HX2.out] at hT
  have HT := zh (turnF_tail hT)
  obtain ⟨rfl, _⟩ := hT
  dsimp only
  go_wp2
  go_ret
  exact HT.out
end
theorem create_first {n f : Tm} {sd : Nat} (h : nm f = true) : create (us0 n sd) f = ((create (us0 n sd) f).1, 0) ∧ own (create (us0 n sd) f).1 f = ((us0 n sd).made f, 0) := by
  have e : create (us0 n sd) f = (⟨n, sd, 3, [f], updO (fun _ => ow0) f ((us0 n sd).made f)⟩, 0) := by
    unfold create
    rw [if_neg (by rw [h]; decide), if_neg (by simp [Us.live, us0]), if_neg (by simp [Us.lives, us0]), if_neg (by simp [us0])]
    rfl
  refine ⟨by rw [e], ?_⟩
  rw [e]
  unfold own
  rw [if_neg (by simp [Us.live, updO, Us.made])]
  simp [updO]
theorem made_ver {n f : Tm} {sd : Nat} : ((us0 n sd).made f).ver = 1 := by simp [Us.made, us0]
theorem nm_anna : nm (⟨#[97, 110, 110, 97]⟩ : ByteArray).data.toList = true := by decide +kernel
theorem nm_notes : nm (⟨#[110, 111, 116, 101, 115]⟩ : ByteArray).data.toList = true := by decide +kernel
set_option maxHeartbeats 8000000 in
set_option maxRecDepth 1000000 in
theorem shown14_any {D : UPred} (k : UserOK D) (w : World) : Calls Tryz.prog 8 #[] w fun e w' => e = .returned (.bool true) ∧ Below w.heap.size w w' := by
  have HK := zh k
  have HC := zh (create_first (n := (⟨#[97, 110, 110, 97]⟩ : ByteArray).data.toList) (sd := 1) nm_notes).1
  have HO := zh (create_first (n := (⟨#[97, 110, 110, 97]⟩ : ByteArray).data.toList) (sd := 1) nm_notes).2
  have HFI := zh (fine0 (sd := 1) nm_anna (by decide))
  have HFJ := zh (fine_create HFI.out (⟨#[110, 111, 116, 101, 115]⟩ : ByteArray).data.toList)
  generalize (create (us0 (⟨#[97, 110, 110, 97]⟩ : ByteArray).data.toList 1) (⟨#[110, 111, 116, 101, 115]⟩ : ByteArray).data.toList).1 = u1 at HC HO HFJ
  have HF := zh (fm_refl w)
  go_enter Tryz.func8, Tryz.ntmps8
  have HN := u_new HK.out HF.out ⟨#[97, 110, 110, 97]⟩ 1 (by decide) (by decide) nm_anna
  rw [show ((1 : Nat) : Int) = 1 from rfl] at HN
  replace HN := zh HN
  go_wp2_with fail
  with_reducible refine (HN.out).mono ?_
  rintro e w1 ⟨a, S, M, rfl, hF⟩
  replace HF := zh hF
  clear hF
  try dsimp only
  go_wp2_with fail
  with_reducible refine (u_create HK.out 0 rfl HF.out HFI.out (by decide) ⟨#[110, 111, 116, 101, 115]⟩ (by decide)).mono ?_
  rintro e w1 hT
  rw [HC.out] at hT
  obtain ⟨rfl, S1, M1, hF⟩ := hT
  dsimp only at hF
  replace HF := zh hF
  clear hF
  try dsimp only
  have HV : Hid (((us0 (⟨#[97, 110, 110, 97]⟩ : ByteArray).data.toList 1).made (⟨#[110, 111, 116, 101, 115]⟩ : ByteArray).data.toList).ver = 1) := zh made_ver
  generalize (us0 (⟨#[97, 110, 110, 97]⟩ : ByteArray).data.toList 1).made (⟨#[110, 111, 116, 101, 115]⟩ : ByteArray).data.toList = o1 at HO HV
  go_wp2_with fail
  with_reducible refine (u_own HK.out 0 rfl HF.out HFJ.out (by decide) ⟨#[110, 111, 116, 101, 115]⟩ (by decide)).mono ?_
  rintro e w1 ⟨vs, hF, rfl⟩
  rw [HO.out] at hF ⊢
  obtain ⟨o1, f1, A1, c1, B1, d1, R1, T1, e1, rfl, ho, hf, hr⟩ := isO_lit (hF.at 0 rfl)
  have HO1 := zh ho
  have HP1 := zh hf
  have HR1 := zh hr
  clear ho hf hr
  unfold OV at hF ⊢
  replace HF := zh hF
  clear hF
  dsimp only
  rw [HV.out]
  go_wp2_with fail
  go_ret
  exact ⟨rfl, (HF.out.box _ _).bel⟩
end Go.Proofs.YtbdealddjonobaaGreat.Usr

