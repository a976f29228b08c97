/-
  ROWS THAT A STORE TOLD, AND ROWS OF ONE'S OWN: beside a store that changes, beside one another, written into. By an AI agent; no person has read it.
-/
import Derived.Test.YtfeochpjjbnckaaSBytes
import Derived.Laws.AppendOwnNone
import Derived.Laws.OwnMore
import Derived.OneCell
namespace Go.Proofs.Ytfeochpjjbnckaa.Sto
open Go Go.RowKit Wire

set_option linter.unusedVariables false
/-- A row of one's own, whose block lies at base or behind, beside a store. -/
structure OwnR (base : Nat) (w : World) (X : Nat → Prop) (A : Option Addr) (c : Nat) (ys : List ByteArray) : Prop where
  own : w.ownsRow base 9 1 (.slice A ys.length c) ys.length (sv ys)
  off : ∀ g o, A = some ⟨g, o, none⟩ → ¬ X g
section
variable {base : Nat} {w w' : World} {X X' : Nat → Prop} {A : Option Addr} {c : Nat} {ys : List ByteArray}
theorem OwnR.reads (h : OwnR base w X A c ys) : SReads w A ys := (sreads_own h.own).1
theorem OwnR.cap (h : OwnR base w X A c ys) : ys.length ≤ c ∧ c ≤ 9223372036854775807 := by
  refine ⟨(sreads_own h.own).2.2, ?_⟩
  rcases h.own.2 with ⟨hv, _⟩ | ⟨g, cap, cur, hv, _, _, _, hm, _⟩
  · injection hv with _ _ e3; rw [e3]; omega
  · injection hv with _ _ e3; rw [e3]; exact hm
theorem OwnR.nil (h : OwnR base w X A c ys) : A = none → c = 0 := by
  rintro rfl
  rcases h.own.2 with ⟨hv, _⟩ | ⟨g, cap, _, hv, _⟩
  · injection hv
  · injection hv with h1; cases h1
theorem OwnR.at (h : OwnR base w X A c ys) : A = none ∨ ∃ g, A = some ⟨g, 0, none⟩ ∧ base ≤ g ∧ g < w.heap.size := by
  rcases h.own.2 with ⟨hv, _⟩ | ⟨g, cap, cur, hv, hb, hg, _⟩
  · injection hv with h1; exact .inl h1
  · injection hv with h1
    exact .inr ⟨g, h1, hb, (Array.getElem?_eq_some_iff.1 hg).1⟩
theorem OwnR.below (h : OwnR base w X A c ys) (hb : Below w.heap.size w w') : OwnR base w' X A c ys := ⟨own_below h.own hb (Nat.le_refl _), h.off⟩
theorem OwnR.weakTo (h : OwnR base w X A c ys) {b' : Nat} (hb : b' ≤ base) : OwnR b' w X A c ys := by
  refine ⟨⟨h.own.1, ?_⟩, h.off⟩
  rcases h.own.2 with h1 | ⟨g, cap, cur, hv, h2, rest⟩
  · exact .inl h1
  · exact .inr ⟨g, cap, cur, hv, Nat.le_trans hb h2, rest⟩
theorem OwnR.weak (h : OwnR base w X A c ys) : OwnR 0 w X A c ys := h.weakTo (Nat.zero_le _)
theorem OwnR.lt (h : OwnR base w X A c ys) : ∀ g o, A = some ⟨g, o, none⟩ → base ≤ g ∧ g < w.heap.size := fun g o e => by
  rcases h.at with h1 | ⟨g', h1, h2, h3⟩
  · rw [h1] at e; cases e
  · rw [h1] at e; injection e with e; injection e with e1 e2; subst e1; exact ⟨h2, h3⟩
theorem OwnR.next (h : OwnR base w X A c ys) (hn : Nx X X' w w') : OwnR base w' X' A c ys := by
  refine ⟨⟨h.own.1, ?_⟩, fun g o e => hn.off (h.lt g o e).2 (h.off g o e)⟩
  rcases h.own.2 with h1 | ⟨g, cap, cur, hv, hb, hg, rest⟩
  · exact .inl h1
  · refine .inr ⟨g, cap, cur, hv, hb, ?_, rest⟩
    injection hv with hv
    rw [hn.fr.block g (Array.getElem?_eq_some_iff.1 hg).1 (h.off g 0 hv)]
    exact hg
theorem OwnR.other (h : OwnR base w X A c ys) {g j : Nat} {v : Value} (hne : ∀ o, A ≠ some ⟨g, o, Option.none⟩) : OwnR base (w.setCell ⟨g, j, Option.none⟩ v) X A c ys := by
  refine ⟨ownsRow_setCell_other h.own ?_ v, h.off⟩
  rcases h.at with h1 | ⟨g', h1, _⟩
  · rw [h1]; simp [Value.ownBlock]
  · rw [h1]
    intro e
    simp only [Value.ownBlock, Option.some.injEq] at e
    subst e
    exact hne 0 h1
theorem OwnR.same {g j : Nat} (h : OwnR base w X (some ⟨g, 0, Option.none⟩) c ys) {y : ByteArray} : OwnR base (w.setCell ⟨g, j, Option.none⟩ (.string y)) X (some ⟨g, 0, Option.none⟩) c (ys.set j y) := by
  have h1 := (World.ownsRow.stored h.own j (.string y)).1
  have e : (sv ys).set j (.string y) = sv (ys.set j y) := by simp [sv, List.map_set]
  rw [e] at h1
  refine ⟨?_, h.off⟩
  rw [List.length_set]
  exact h1
end
/-- Two rows of which one was made behind the other. -/
theorem own_apart {b1 b2 : Nat} {w w1 : World} {X Y : Nat → Prop} {A B : Option Addr} {c d : Nat} {ys zs : List ByteArray} (h1 : OwnR b1 w X A c ys) (h2 : OwnR b2 w1 Y B d zs) (hb : w.heap.size ≤ b2) : ∀ g o o', A = some ⟨g, o, none⟩ → B ≠ some ⟨g, o', none⟩ := fun g o o' e1 e2 => by
  have := (h1.lt g o e1).2
  have := (h2.lt g o' e2).1
  omega
theorem own_cell {b1 : Nat} {w : World} {X : Nat → Prop} {A : Option Addr} {c j : Nat} {ys : List ByteArray} (h : OwnR b1 w X A c ys) (hj : j < ys.length) : ∃ g, A = some ⟨g, 0, none⟩ ∧ g < w.heap.size ∧ ¬ X g ∧ b1 ≤ g ∧ w.cell? ⟨g, j, none⟩ = some (.string (ys.getD j ByteArray.empty)) ∧ w.frozen? ⟨g, j, none⟩ = false := by
  obtain ⟨b, o, e, hlt, hc⟩ := h.reads j hj
  rcases h.at with h1 | ⟨g, h1, hb, hl⟩
  · rw [h1] at e; cases e
  · rw [h1] at e
    injection e with e
    injection e with e1 e2
    subst e1
    subst e2
    rw [Nat.zero_add] at hc
    subst h1
    exact ⟨g, rfl, hl, h.off g 0 rfl, hb, hc, h.own.frozenAt j⟩
theorem Sts.set {D : DPred} (d : StoreOK D) {w0 w : World} {a : Addr} {X : Nat → Prop} {s : Stt} (h : Sts D w0 w a X s) {g j : Nat} {v : Value} (hx : ¬ X g) (hg : w0.heap.size ≤ g) : Sts D w0 (w.setCell ⟨g, j, none⟩ v) a X s :=
  ⟨d.keep h.d (by simp) fun b hb => Below.heap_setCell _ _ _ _ (fun e => hx (by have e2 : b = g := e; rw [← e2]; exact hb)), h.x, h.f, h.b.setCell (p := ⟨g, j, none⟩) hg v⟩
/-- A row told by a store, as one's own. -/
def ToldO (w w' : World) (X : Nat → Prop) (x : List Tm) (e : Ending) : Prop := ∃ (A : Option Addr) (c : Nat) (ys : List ByteArray), bl ys = x ∧ OwnR w.heap.size w' X A c ys ∧ e = .returned (.slice A ys.length c)
section
variable {D : DPred} {w0 w : World} {a : Addr} {X : Nat → Prop} {s : Stt}
theorem toldo_of {w1 w' : World} (d : StoreOK D) (h : Sts D w0 w1 a X s) {x : List Tm} {e : Ending} (hr : Row w1 w' x e) : ToldO w1 w' X x e := by
  obtain ⟨A, c, ys, h1, h2, h3, h4, h5, rfl⟩ := row_open hr
  exact ⟨A, c, ys, h1, ⟨h5, fun b off e hx => by have := d.old h.d b hx; have := (h4 b off e).1; omega⟩, rfl⟩
theorem so_vers (d : StoreOK D) (h : Sts D w0 w a X s) {K : ByteArray} {k : Tm} (hk : K.data.toList = k) (h1 : K.size ≤ 140737488351232) : Calls Try.prog 13 #[.pointer (some a), .string K] w fun e w' => ToldO w w' X (s.ver k) e ∧ Below w.heap.size w w' := by
  have := d.vers a X s K w h.d h.f h1
  rw [hk] at this
  exact this.mono fun e w' hh => ⟨toldo_of d h hh.1, hh.2⟩
theorem so_list (d : StoreOK D) (h : Sts D w0 w a X s) {K : ByteArray} {k : Tm} (hk : K.data.toList = k) (h1 : K.size ≤ 140737488351232) : Calls Try.prog 18 #[.pointer (some a), .string K] w fun e w' => (∃ l, Lists s k l ∧ ToldO w w' X l e) ∧ Below w.heap.size w w' := by
  have := d.list a X s K w h.d h.f h1
  rw [hk] at this
  exact this.mono fun e w' hh => by
    obtain ⟨⟨l, h2, h3⟩, h4⟩ := hh
    exact ⟨⟨l, h2, toldo_of d h h3⟩, h4⟩
theorem so_ever (d : StoreOK D) (h : Sts D w0 w a X s) : Calls Try.prog 20 #[.pointer (some a)] w fun e w' => (∃ l, Evers s l ∧ ToldO w w' X l e) ∧ Below w.heap.size w w' :=
  (d.ever a X s w h.d h.f).mono fun e w' hh => by
    obtain ⟨⟨l, h2, h3⟩, h4⟩ := hh
    exact ⟨⟨l, h2, toldo_of d h h3⟩, h4⟩
end
theorem own_empty (w : World) : (w.alloc (.cells #[] 9)).ownsRow w.heap.size 9 1 (.slice (some ⟨w.heap.size, 0, none⟩) 0 0) 0 (sv []) := by
  have := World.ownsRow_lit (base := w.heap.size) (e := 9) (size := 1) w #[] 0 (Nat.le_refl _) (by decide) (by decide)
  simpa [sv] using this
/-- 'append(own, others...)' of texts. -/
theorem append_strs {w : World} {ops : Array Oper} {rest : List Oper} {o : Oper} {a : Act} {Q : Exit → Act → World → Prop} (hgd : o.guard = none) (s x : Operand)
    (ho : o.op = .call { callee := .builtin .append, args := #[s, x], argTypes := #[33, 33] }) (base : Nat)
    (v : Value) (k : Nat) (xs zs : List ByteArray) (hs : a.eval s = v) (hown : w.ownsRow base 9 1 v k (sv xs)) (hk : k = xs.length)
    (b : Option Addr) (n c : Nat) (hx : a.eval x = .slice b n c) (hn : n = zs.length) (hnil : b = none → c = 0) (hr : SReads w b zs)
    (hlen : k + zs.length ≤ 1000) (hbase : base ≤ w.heap.size)
    (h : ∀ v' w', w'.ownsRow base 9 1 v' (k + n) (sv (xs ++ zs)) → Below base w w' → wpList Try.prog ops Q rest (a.put o.dst v') w') : wpList Try.prog ops Q (o :: rest) a w := by
  obtain ⟨i0, hi0, hz0, hz1, hz2⟩ := info_parts str_info
  subst hn
  cases b with
  | none =>
    have hz : zs = [] := by
      cases zs with
      | nil => rfl
      | cons z t => obtain ⟨_, _, he, _⟩ := hr 0 (by simp); cases he
    subst hz
    rw [hnil rfl] at hx
    refine wpList_append_own_none hgd s x 33 ho base 9 i0 1 Try.underlying33 hi0 v k (sv xs) hs hown hx ?_
    exact h v w (by simpa [sv] using hown) (Below.refl _ _)
  | some ad =>
    refine wpList_append_own _ hgd s x 33 ho base 9 i0 _ 1 16 Try.underlying33 hi0 hz0 hz1 hz2 rfl (by decide) v k (sv xs) hs hown ad zs.length c (sv zs) hx (by simp [sv]) ?_ (sv_one zs) (by simp only [maxLen]; omega) (by omega) hbase ?_
    · intro j u hj
      have hjl : j < zs.length := by have := (List.getElem?_eq_some_iff.1 hj).1; simpa [sv] using this
      obtain ⟨b', o', he, _, hc⟩ := hr j hjl
      obtain rfl := Option.some.inj he
      have hu : u = .string (zs.getD j ByteArray.empty) := by
        simp [sv, hjl] at hj
        rw [← hj]; simp [List.getD, hjl]
      rw [hu, show ((⟨b', o', none⟩ : Addr).add j) = ⟨b', o' + j, none⟩ from by unfold Addr.add; split <;> simp_all]
      exact hc
    · intro v' w' hown' hgrow _
      exact h v' w' (by simpa [sv] using hown') (Below.grown (Below.refl _ _) hgrow hbase fun q hq => (hown.lt q hq).1)
/-- A copy of a row of texts, made by an append to an empty one. -/
theorem copy_row {D : DPred} (d : StoreOK D) {w0 w w' : World} {a : Addr} {X : Nat → Prop} {s : Stt} (h : Sts D w0 w a X s) {v : Value} {n : Nat} {zs : List ByteArray} (ho : w'.ownsRow w.heap.size 9 1 v n (sv zs)) (hn : n = zs.length) : ∃ (A : Option Addr) (c : Nat), v = .slice A zs.length c ∧ OwnR w.heap.size w' X A c zs := by
  subst hn
  obtain ⟨A, c, rfl⟩ := own_value ho
  refine ⟨A, c, rfl, ho, fun g o e hx => ?_⟩
  have := d.old h.d g hx
  have h2 : (Value.slice A zs.length c).ownBlock = some g := by rw [e]; rfl
  have := (ho.lt g h2).1
  omega
end Go.Proofs.Ytfeochpjjbnckaa.Sto
