/-
  One text of several, in their order: GLsd, GWith, GRight, GNew, GCan, GPut. By an AI agent; no person has read it.
-/
import Derived.Test.YtbdealddjonobaaG1
import Derived.Test.YtbdealddjonobaaN5
import Derived.Deep.QuietTactic
import Derived.BigQuiet
import Derived.Test.YtbdealddjonobaaW1
/-
  CONTRACT of the document's listed (letterlockref7) at this program. By an AI agent; no person has read it.
-/
namespace Go.Proofs.Ytbdealddjonobaa.Rig
open Go.RowKit Wire

set_option linter.unusedSimpArgs false
theorem lsd_step {o : Tm} {ys : List ByteArray} {k : Nat} (hk : k < ys.length) (h : Lsd o ((bl ys).take k)) :
    Lsd o ((bl ys).take (k + 1)) ↔ nm (ys.getD k ByteArray.empty).data.toList = true ∧ (ys.getD k ByteArray.empty).data.toList ≠ o ∧ (0 < k → lt (ys.getD (k - 1) ByteArray.empty).data.toList (ys.getD k ByteArray.empty).data.toList = true) := by
  rw [bl_get hk]
  cases k with
  | zero =>
    rw [List.take_zero, List.nil_append, lsd_one]
    exact ⟨fun h => ⟨h.1, h.2, fun h => absurd h (Nat.lt_irrefl 0)⟩, fun h => ⟨h.1, h.2.1⟩⟩
  | succ j =>
    rw [bl_get (ys := ys) (k := j) (by omega)] at h ⊢
    rw [lsd_more h]
    exact ⟨fun h => ⟨h.1, h.2.1, fun _ => h.2.2⟩, fun h => ⟨h.1, h.2.1, h.2.2 (Nat.succ_pos j)⟩⟩
theorem lsd_part {o : Tm} {ys : List ByteArray} (k : Nat) (h : Lsd o (bl ys)) : Lsd o ((bl ys).take k) := lsd_sub (List.take_sublist _ _) h
section
variable {P : Program} {md : Region.Mode} {ops : Array Oper} {Q : Exit → Act → World → Prop} {S : World → Prop}
/-- An operation of a drawn region whose guard does not want it. -/
theorem wpAnyH_skip {i : Nat} {oi : Oper} {fuel : Nat} {listed : Array Bool} {a : Act} {w : World} (hi : ops[i]? = some oi)
    (hs : Region.noSelect ops = true) (hf : Region.free md ops listed i = true) (hr : (Region.ready md ops listed).contains i = true)
    (hQ : ∀ c a w, Q (.panic c) (a.put oi.dst undef) w → Q (.panic c) a w) (hw : Region.wanted oi (yielded ops a.tmps) = false) (hS : S w)
    (h : wpAnyH P md ops Q S fuel (listed.setIfInBounds i true) (a.put oi.dst undef) w) : wpAnyH P md ops Q S (fuel + 1) listed a w :=
  wpAnyH_take hi hs hf hr hQ (Or.inr ⟨hw, rfl⟩) hS h
end
end Go.Proofs.Ytbdealddjonobaa.Rig

/-
  CONTRACT of the document's with (letterlockref7) at this program: a list with one text more, in its place. By an AI agent; no person has read it.
-/
namespace Go.Proofs.Ytbdealddjonobaa.Rig
open Go.RowKit Wire

theorem own_grown {w0 w w' : World} {e : TypeId} {v : Value} {n : Nat} {xs : List Value} (hb : Below w0.heap.size w0 w) (ho : w.ownsRow w0.heap.size e 1 v n xs) (o : Obj) (hg : (w.alloc o).grownBy w' v.ownBlock) : Below w0.heap.size w0 w' :=
  (hb.alloc hb.size o).grown hg (by
    have := hb.size
    simp only [World.alloc, Array.size_push]
    omega) fun g hg => (ho.lt g hg).1
theorem ins_end (u : Tm) : ins u [] = [u] := rfl
theorem ins_here {u x : Tm} {l : List Tm} (h : lt u x = true) : ins u (x :: l) = u :: x :: l := by unfold ins; rw [if_pos h]
theorem ins_on {u x : Tm} {l : List Tm} (h : lt u x = false) : ins u (x :: l) = x :: ins u l := by
  show (if lt u x = true then _ else x :: ins u l) = _
  rw [if_neg (by rw [h]; decide)]
/-- What is left to come. -/
def rst (u : Tm) (p : Bool) (l : List Tm) : List Tm := if p = true then l else ins u l
end Go.Proofs.Ytbdealddjonobaa.Rig

/-
  CONTRACT of the document's Right (letterlockref7) at this program. By an AI agent; no person has read it.
-/
namespace Go.Proofs.Ytbdealddjonobaa.Rig
open Go.RowKit Wire

end Go.Proofs.Ytbdealddjonobaa.Rig

/-
  CONTRACT of the document's New (letterlockref7) at this program. By an AI agent; no person has read it.
-/
namespace Go.Proofs.Ytbdealddjonobaa.Rig
open Go.RowKit Wire

end Go.Proofs.Ytbdealddjonobaa.Rig

/-
  CONTRACT of the document's Can (letterlockref7) at this program. By an AI agent; no person has read it.
-/
namespace Go.Proofs.Ytbdealddjonobaa.Rig
open Go.RowKit Wire

theorem al (w : World) (o : Obj) : Below w.heap.size w (w.alloc o) := (Below.refl _ w).alloc (Nat.le_refl _) o
end Go.Proofs.Ytbdealddjonobaa.Rig

/-
  CONTRACT of the document's Put (letterlockref7) at this program. By an AI agent; no person has read it.
-/
namespace Go.Proofs.Ytbdealddjonobaa.Rig
open Go.RowKit Wire

set_option linter.unusedSimpArgs false
/-- A text and an error, as an ending. -/
def Srt (x : Tm × Int) (e : Ending) : Prop := ∃ T : ByteArray, T.data.toList = x.1 ∧ e = .returned (.tuple #[.string T, .int .i64 x.2])
theorem lit5_reads (W : World) (a b c d e : ByteArray) (g : Nat) (hg : g = W.heap.size) : SReads (W.alloc (.cells #[.string a, .string b, .string c, .string d, .string e] 9)) (some ⟨g, 0, none⟩) [a, b, c, d, e] := by
  subst hg
  intro j hj
  refine ⟨_, 0, rfl, by simp, ?_⟩
  have h : ∀ i, (W.alloc (.cells #[.string a, .string b, .string c, .string d, .string e] 9)).cell? ⟨W.heap.size, i, none⟩ = (#[.string a, .string b, .string c, .string d, .string e] : Array Value)[i]? := fun i => cell_of_row _ _ _ _ _ (0, 0) (heap_alloc_new W _)
  rw [h, Nat.zero_add]
  have : j = 0 ∨ j = 1 ∨ j = 2 ∨ j = 3 ∨ j = 4 := by simp at hj; omega
  rcases this with rfl | rfl | rfl | rfl | rfl <;> rfl
theorem flat_small : ∀ (l : List Tm), (∀ t ∈ l, t.length ≤ 4000) → l.flatten.length ≤ l.length * 4000
  | [], _ => by simp
  | t :: l, h => by
    have h1 := h t (by simp)
    have h2 := flat_small l fun x hx => h x (by simp [hx])
    rw [List.flatten_cons, List.length_append, List.length_cons]; omega
end Go.Proofs.Ytbdealddjonobaa.Rig
