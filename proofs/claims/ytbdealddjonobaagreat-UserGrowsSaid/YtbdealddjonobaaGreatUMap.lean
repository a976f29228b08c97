/-
  MAPS FROM TEXTS IN MEMORY: what they have, where they have it, how many; a look, a put, a drop. By an AI agent; no person has read it.
-/
import Derived.Test.YtbdealddjonobaaGreatW0
import Derived.Maps.RangeWalk
import Derived.Maps.OwnSet
import Derived.Sort.KeysCollected
import Derived.StillTailTactics
namespace Go.Proofs.YtbdealddjonobaaGreat.Usr
open Go Go.RowKit

set_option linter.unusedVariables false
abbrev Tk := List UInt8
/-- An element of a map, read as itself. -/
def Rv (v : Value) : Option (DataW Value × List MemPlace) := some (.held v, [])
theorem lawS : Go.Maps.Keyed Tryz.prog 9 := Go.Maps.string_keyed Tryz.underlying9
theorem zero_str (w : World) : (zeroValue 9).run Tryz.prog w = .ok (.string ⟨#[]⟩) w := by kernel_rfl
theorem key_mk {s : ByteArray} (h : s.size ≤ 140737488351232) : keyOf Tryz.prog 9 (.string s) = some (.string s.data.toList) :=
  Go.WideMaps.keyOf_string_mk Tryz.underlying9 (Nat.le_trans h (by decide))
theorem own_tight {w : World} {k : TypeId} {b n : Nat} {R : Value → Option (DataW Value × List MemPlace)} {D : DataW Value} (h : w.ownsMap Tryz.prog k R b n D) : w.ownsMap Tryz.prog k R b (Maps.size D) D := by
  obtain ⟨es, clock, hb, F, hs, rfl⟩ := h
  exact ⟨es, clock, hb, F, by simp [Maps.size, length_sorted], rfl⟩
/-- A map of this world: what it has, and where it has it. -/
def MapIs (w : World) (mb : Nat) (H : Tk → Bool) (V : Tk → Value) : Prop :=
  ∃ D, w.ownsMap Tryz.prog 9 Rv mb (Maps.size D) D ∧ (∀ t, Maps.has D (.string t) = H t) ∧ ∀ t, H t = true → ∀ z, D.atKey (.string t) z = .held (V t)
theorem MapIs.lt {w : World} {mb : Nat} {H : Tk → Bool} {V : Tk → Value} (h : MapIs w mb H V) : mb < w.heap.size := by
  obtain ⟨D, h, _⟩ := h
  exact h.lt
theorem MapIs.block {w w' : World} {mb : Nat} {H : Tk → Bool} {V : Tk → Value} (h : MapIs w mb H V) (hb : w'.heap[mb]? = w.heap[mb]?) : MapIs w' mb H V := by
  obtain ⟨D, ⟨es, clock, h1, h2⟩, h3⟩ := h
  exact ⟨D, ⟨es, clock, hb.trans h1, h2⟩, h3⟩
theorem MapIs.congr {w : World} {mb : Nat} {H H' : Tk → Bool} {V V' : Tk → Value} (h : MapIs w mb H V) (hh : ∀ t, H' t = H t) (hv : ∀ t, H t = true → V t = V' t) : MapIs w mb H' V' := by
  obtain ⟨D, h1, h2, h3⟩ := h
  exact ⟨D, h1, fun t => (h2 t).trans (hh t).symm, fun t ht z => by rw [h3 t ((hh t).symm.trans ht) z, hv t ((hh t).symm.trans ht)]⟩
theorem mapIs_made (w : World) (V : Tk → Value) : MapIs (w.alloc (.map #[] 0)) w.heap.size (fun _ => false) V :=
  ⟨.map [], World.ownsMap_made _ _ _ _, fun t => by simp [Maps.has], fun _ h => by cases h⟩
theorem str_ne {t y : Tk} (h : y ≠ t) : (Lit.string y) ≠ .string t := fun e => h (Lit.string.inj e)
def updH (H : Tk → Bool) (t : Tk) (b : Bool) : Tk → Bool := fun y => if y = t then b else H y
def updV (V : Tk → Value) (t : Tk) (v : Value) : Tk → Value := fun y => if y = t then v else V y
/-- How many a map has: as many as any list of its keys, each once. -/
theorem own_count {w : World} {mb n : Nat} {D : DataW Value} {H : Tk → Bool} (h : w.ownsMap Tryz.prog 9 Rv mb n D) (hh : ∀ t, Maps.has D (.string t) = H t) {L : List Tk} (hn : L.Nodup) (hL : ∀ x, x ∈ L ↔ H x = true) : Maps.size D = L.length := by
  have ht := h.tidy lawS
  obtain ⟨es, clock, hb, F, hs, rfl⟩ := h
  obtain ⟨E, hE, hp⟩ := ht
  have hkeys : ∀ p ∈ E, ∃ t, p.1 = .string t := fun p hpE => by
    have hE2 : E = (es.toList.map (Go.WideElems.rg Tryz.prog 9 Rv)).foldr DataW.insert [] := (DataW.map.inj hE).symm
    rw [hE2] at hpE
    obtain ⟨v, hv⟩ := Go.Maps.fit_keys F p ((Go.WideShapes.sorted_perm _).mem_iff.1 hpE)
    obtain ⟨x, _, hx, _⟩ := Maps.keyOf_str Tryz.underlying9 hv
    exact ⟨_, hx⟩
  rw [hE] at hh ⊢
  have hK : (E.map Prod.fst).Nodup := List.pairwise_map.2 hp
  have hperm : (E.map Prod.fst).Perm (L.map Lit.string) := by
    refine (List.perm_ext_iff_of_nodup hK (List.Pairwise.map _ (fun a b hab e => hab (Lit.string.inj e)) hn)).2 fun a => ⟨fun ha => ?_, fun ha => ?_⟩
    · obtain ⟨p, hpE, rfl⟩ := List.mem_map.1 ha
      obtain ⟨t, et⟩ := hkeys p hpE
      refine List.mem_map.2 ⟨t, (hL t).2 ((hh t).symm.trans ?_), et.symm⟩
      exact List.any_eq_true.2 ⟨p, hpE, by rw [et]; simp [Lit.sameKey]⟩
    · obtain ⟨t, htL, rfl⟩ := List.mem_map.1 ha
      have h1 := (hh t).trans ((hL t).1 htL)
      obtain ⟨p, hpE, h2⟩ := List.any_eq_true.1 h1
      obtain ⟨t2, et⟩ := hkeys p hpE
      refine List.mem_map.2 ⟨p, hpE, ?_⟩
      rw [et] at h2 ⊢
      have : t2 = t := by simpa [Lit.sameKey] using h2
      rw [this]
  have := hperm.length_eq
  rw [List.length_map, List.length_map] at this
  exact this
section
variable {w : World} {mb : Nat} {H : Tk → Bool} {V : Tk → Value} {T e : TypeId} {z : Value}
theorem MapIs.len (h : MapIs w mb H V) (hT : Tryz.prog.underlying T = some (.map 9 e)) {L : List Tk} (hn : L.Nodup) (hL : ∀ x, x ∈ L ↔ H x = true) (ty : TypeId) : (Builtin.len_ #[T] ty #[.map (some mb)]).run Tryz.prog w = .ok (.int .i64 (L.length : Int)) w := by
  obtain ⟨D, h1, h3, h4⟩ := h
  rw [← own_count h1 h3 hn hL]
  exact h1.len hT ty
theorem MapIs.look_ok (h : MapIs w mb H V) (hT : Tryz.prog.underlying T = some (.map 9 e)) (hz : (zeroValue e).run Tryz.prog w = .ok z w) {s : ByteArray} (hs : s.size ≤ 140737488351232) : (Instr.lookup T (.map (some mb)) (.string s) true).run Tryz.prog w = .ok (.tuple #[if H s.data.toList then V s.data.toList else z, .bool (H s.data.toList)]) w := by
  obtain ⟨D, h1, h3, h4⟩ := h
  obtain ⟨v, ps, hrun, hv⟩ := h1.look_ok lawS hT hz rfl (key_mk hs)
  rw [h3] at hrun
  rw [hrun]
  cases hb : H s.data.toList with
  | false =>
    rw [Maps.atKey_of_not_has ((h3 _).trans hb)] at hv
    obtain rfl : v = _ := (DataW.held.inj (congrArg Prod.fst (Option.some.inj hv)))
    rfl
  | true =>
    rw [h4 _ hb] at hv
    obtain rfl : v = _ := (DataW.held.inj (congrArg Prod.fst (Option.some.inj hv)))
    rfl
theorem MapIs.look (h : MapIs w mb H V) (hT : Tryz.prog.underlying T = some (.map 9 e)) (hz : (zeroValue e).run Tryz.prog w = .ok z w) {s : ByteArray} (hs : s.size ≤ 140737488351232) : (Instr.lookup T (.map (some mb)) (.string s) false).run Tryz.prog w = .ok (if H s.data.toList then V s.data.toList else z) w := by
  obtain ⟨D, h1, h3, h4⟩ := h
  obtain ⟨v, ps, hrun, hv⟩ := h1.lookup lawS hT hz rfl (key_mk hs)
  rw [hrun]
  cases hb : H s.data.toList with
  | false =>
    rw [Maps.atKey_of_not_has ((h3 _).trans hb)] at hv
    obtain rfl : v = _ := (DataW.held.inj (congrArg Prod.fst (Option.some.inj hv)))
    rfl
  | true =>
    rw [h4 _ hb] at hv
    obtain rfl : v = _ := (DataW.held.inj (congrArg Prod.fst (Option.some.inj hv)))
    rfl
theorem MapIs.put (h : MapIs w mb H V) (hT : Tryz.prog.underlying T = some (.map 9 e)) {s : ByteArray} (hs : s.size ≤ 140737488351232) {L : List Tk} (hn : L.Nodup) (hL : ∀ x, x ∈ L ↔ H x = true) (hl : L.length ≤ 1000000) (v : Value) :
    ∃ w', (Instr.mapUpdate T (.map (some mb)) (.string s) v).run Tryz.prog w = .ok () w' ∧ MapIs w' mb (updH H s.data.toList true) (updV V s.data.toList v) ∧ w.grownBy w' (some mb) ∧ w'.heap.size = w.heap.size := by
  obtain ⟨D, h1, h3, h4⟩ := h
  have hc := own_count h1 h3 hn hL
  obtain ⟨w', hrun, hown, hg⟩ := h1.store (d := .held v) (ps := []) lawS hT (by rw [hc]; simp only [maxLen]; omega) (key_mk hs) rfl
  refine ⟨w', hrun, ⟨_, own_tight hown, fun t => ?_, fun t ht z => ?_⟩, hg.grown, ?_⟩
  · unfold updH
    by_cases e : t = s.data.toList
    · rw [if_pos e, e, Maps.has_put_same h1.isMap (lawS.key (key_mk hs))]
    · rw [if_neg e, Maps.has_put_other (str_ne e)]; exact h3 t
  · unfold updH at ht
    unfold updV
    by_cases e : t = s.data.toList
    · rw [if_pos e, e, Maps.atKey_put_same h1.isMap (lawS.key (key_mk hs))]
    · rw [if_neg e, Maps.atKey_put_other (str_ne e)]
      rw [if_neg e] at ht
      exact h4 t ht z
  · obtain ⟨es, clock, es', clock', hb, rfl⟩ := hg
    simp [ChangeMaps.setBlock]
theorem MapIs.drop (h : MapIs w mb H V) (hT : Tryz.prog.underlying T = some (.map 9 e)) {s : ByteArray} (hs : s.size ≤ 140737488351232) (ty : TypeId) :
    ∃ w', (Builtin.delete_ #[T, 9] ty #[.map (some mb), .string s]).run Tryz.prog w = .ok (.tuple #[]) w' ∧ MapIs w' mb (updH H s.data.toList false) V ∧ w.grownBy w' (some mb) ∧ w'.heap.size = w.heap.size := by
  obtain ⟨D, h1, h3, h4⟩ := h
  obtain ⟨w', hrun, hown, hg⟩ := h1.drop lawS hT (key_mk hs) ty
  refine ⟨w', hrun, ⟨_, own_tight hown, fun t => ?_, fun t ht z => ?_⟩, hg.grown, ?_⟩
  · unfold updH
    by_cases e : t = s.data.toList
    · rw [if_pos e, e, Maps.has_del_same]
    · rw [if_neg e, Maps.has_del_other (str_ne e)]; exact h3 t
  · unfold updH at ht
    by_cases e : t = s.data.toList
    · rw [if_pos e] at ht; cases ht
    · rw [if_neg e] at ht
      rw [Maps.atKey_del_other (str_ne e)]
      exact h4 t ht z
  · obtain ⟨es, clock, es', clock', hb, rfl⟩ := hg
    simp [ChangeMaps.setBlock]
end
section
variable {w : World} {mb : Nat} {H : Tk → Bool} {V : Tk → Value} {T e : TypeId} {ops : Array Oper} {rest : List Oper} {o : Oper} {a : Act} {Q : Exit → Act → World → Prop}
theorem wpList_put (hg : o.guard = none) (m x v : Operand) (hop : o.op = Op.mapUpdate T m x v) (hm : a.eval m = .map (some mb)) (h : MapIs w mb H V) (hT : Tryz.prog.underlying T = some (.map 9 e)) {s : ByteArray} (hx : a.eval x = .string s) (hs : s.size ≤ 140737488351232)
    {L : List Tk} (hn : L.Nodup) (hL : ∀ x, x ∈ L ↔ H x = true) (hl : L.length ≤ 1000000) {val : Value} (hv : a.eval v = val) (hC : ∀ w', MapIs w' mb (updH H s.data.toList true) (updV V s.data.toList val) → w.grownBy w' (some mb) → w'.heap.size = w.heap.size → wpList Tryz.prog ops Q rest (a.put o.dst undef) w') : wpList Tryz.prog ops Q (o :: rest) a w := by
  refine wpList_plain hg fun K' hK' => ?_
  obtain ⟨w', hrun, r1, r2, r3⟩ := h.put hT hs hn hL hl val
  unfold Oper.wp
  simp [execOp, hop, hm, hx, hv, hrun, Result.andThen]
  exact hK' _ _ (hC w' r1 r2 r3)
theorem wpList_drop (hg : o.guard = none) (m x : Operand) (hop : o.op = Op.call { callee := Callee.builtin Builtin.delete, args := #[m, x], argTypes := #[T, 9] }) (hm : a.eval m = .map (some mb)) (h : MapIs w mb H V) (hT : Tryz.prog.underlying T = some (.map 9 e)) {s : ByteArray} (hx : a.eval x = .string s) (hs : s.size ≤ 140737488351232)
    (hC : ∀ w', MapIs w' mb (updH H s.data.toList false) V → w.grownBy w' (some mb) → w'.heap.size = w.heap.size → wpList Tryz.prog ops Q rest (a.put o.dst (.tuple #[])) w') : wpList Tryz.prog ops Q (o :: rest) a w := by
  refine wpList_plain hg fun K' hK' => ?_
  obtain ⟨w', hrun, r1, r2, r3⟩ := h.drop hT hs o.type
  unfold Oper.wp
  simp [execOp, hop, resolve, invoke, builtin, hm, hx, hrun, Result.andThen]
  exact hK' _ _ (hC w' r1 r2 r3)
/-- A map is written, at a step of a region that draws its order. -/
theorem step_put {E : Prop} {K : Act → World → Prop} (hg : o.guard = none) (m x v : Operand) (hop : o.op = Op.mapUpdate T m x v) (hm : a.eval m = .map (some mb)) (h : MapIs w mb H V) (hT : Tryz.prog.underlying T = some (.map 9 e)) {s : ByteArray} (hx : a.eval x = .string s) (hs : s.size ≤ 140737488351232)
    {L : List Tk} (hn : L.Nodup) (hL : ∀ x, x ∈ L ↔ H x = true) (hl : L.length ≤ 1000000) {val : Value} (hv : a.eval v = val) (hC : ∀ w', MapIs w' mb (updH H s.data.toList true) (updV V s.data.toList val) → w.grownBy w' (some mb) → w'.heap.size = w.heap.size → K (a.put o.dst undef) w') : if Region.wanted o (yielded ops a.tmps) = true then Oper.wp Tryz.prog o a w K Q else E := by
  have hw : Region.wanted o (yielded ops a.tmps) = true := by simp [Region.wanted, hg]
  rw [if_pos hw]
  obtain ⟨w', hrun, r1, r2, r3⟩ := h.put hT hs hn hL hl val
  unfold Oper.wp
  simp [execOp, hop, hm, hx, hv, hrun, Result.andThen]
  exact hC w' r1 r2 r3
end
end Go.Proofs.YtbdealddjonobaaGreat.Usr
