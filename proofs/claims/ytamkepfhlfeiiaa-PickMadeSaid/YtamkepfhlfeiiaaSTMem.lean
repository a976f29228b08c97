/-
  WHAT THE LANDED CODE's STORE IS IN MEMORY: three cells; a map of rows of blobs, a map of blobs; whose block is whose. By an AI agent; no person has read it.
-/
import Derived.Test.YtamkepfhlfeiiaaSSpec
import Derived.Maps.RangeWalk
import Derived.Maps.OwnSet
import Derived.Sort.KeysCollected
import Derived.Deep.AppendLies
import Derived.StillTailTactics
namespace Go.Proofs.Ytamkepfhlfeiiaa.Sto
open Go Go.RowKit Wire

set_option linter.unusedVariables false
/-- An element of a map, read as itself. -/
def Rv (v : Value) : Option (DataW Value × List MemPlace) := some (.held v, [])
theorem lawS : Go.Maps.Keyed Try.prog 9 := Go.Maps.string_keyed Try.underlying9
theorem zero_str (w : World) : (zeroValue 9).run Try.prog w = .ok (.string ⟨#[]⟩) w := by kernel_rfl
theorem zero_row (w : World) : (zeroValue 37).run Try.prog w = .ok (.slice none 0 0) w := by kernel_rfl
theorem key_mk {s : ByteArray} (h : s.size ≤ 140737488351232) : keyOf Try.prog 9 (.string s) = some (.string s.data.toList) :=
  Go.WideMaps.keyOf_string_mk Try.underlying9 (Nat.le_trans h (by decide))
/-- A map of this world: what it has, and where it has it. -/
def MapIs (w : World) (mb n : Nat) (H : Tm → Bool) (V : Tm → Value) : Prop :=
  ∃ D, w.ownsMap Try.prog 9 Rv mb n D ∧ (∀ t, Maps.has D (.string t) = H t) ∧ ∀ t, H t = true → ∀ z, D.atKey (.string t) z = .held (V t)
theorem MapIs.lt {w : World} {mb n : Nat} {H : Tm → Bool} {V : Tm → Value} (h : MapIs w mb n H V) : mb < w.heap.size := by
  obtain ⟨D, h, _⟩ := h
  exact h.lt
theorem MapIs.block {w w' : World} {mb n : Nat} {H : Tm → Bool} {V : Tm → Value} (h : MapIs w mb n H V) (hb : w'.heap[mb]? = w.heap[mb]?) : MapIs w' mb n H V := by
  obtain ⟨D, ⟨es, clock, h1, h2⟩, h3⟩ := h
  exact ⟨D, ⟨es, clock, hb.trans h1, h2⟩, h3⟩
theorem MapIs.congr {w : World} {mb n : Nat} {H H' : Tm → Bool} {V V' : Tm → Value} (h : MapIs w mb n H V) (hh : ∀ t, H' t = H t) (hv : ∀ t, H t = true → V t = V' t) : MapIs w mb n H' V' := by
  obtain ⟨D, h1, h2, h3⟩ := h
  exact ⟨D, h1, fun t => (h2 t).trans (hh t).symm, fun t ht z => by rw [h3 t ((hh t).symm.trans ht) z, hv t ((hh t).symm.trans ht)]⟩
theorem mapIs_made (w : World) (V : Tm → Value) : MapIs (w.alloc (.map #[] 0)) w.heap.size 0 (fun _ => false) V :=
  ⟨.map [], World.ownsMap_made _ _ _ _, fun t => by simp [Maps.has], fun _ h => by cases h⟩
theorem str_ne {t y : Tm} (h : y ≠ t) : (Lit.string y) ≠ .string t := fun e => h (Lit.string.inj e)
def updH (H : Tm → Bool) (t : Tm) (b : Bool) : Tm → Bool := fun y => if y = t then b else H y
def updV (V : Tm → Value) (t : Tm) (v : Value) : Tm → Value := fun y => if y = t then v else V y
section
variable {w : World} {mb n : Nat} {H : Tm → Bool} {V : Tm → Value} {T e : TypeId} {z : Value}
theorem MapIs.look_ok (h : MapIs w mb n H V) (hT : Try.prog.underlying T = some (.map 9 e)) (hz : (zeroValue e).run Try.prog w = .ok z w) {s : ByteArray} (hs : s.size ≤ 140737488351232) : (Instr.lookup T (.map (some mb)) (.string s) true).run Try.prog w = .ok (.tuple #[if H s.data.toList then V s.data.toList else z, .bool (H s.data.toList)]) w := by
  obtain ⟨D, h1, h3, h4⟩ := h
  obtain ⟨v, ps, hrun, hv⟩ := h1.look_ok lawS hT hz rfl (key_mk hs)
  rw [h3] at hrun
  rw [hrun]
  cases hb : H s.data.toList with
  | false =>
    rw [Maps.atKey_of_not_has ((h3 _).trans hb)] at hv
    obtain rfl : v = _ := (DataW.held.inj (congrArg Prod.fst (Option.some.inj hv)))
    rfl
  | true =>
    rw [h4 _ hb] at hv
    obtain rfl : v = _ := (DataW.held.inj (congrArg Prod.fst (Option.some.inj hv)))
    rfl
theorem MapIs.look (h : MapIs w mb n H V) (hT : Try.prog.underlying T = some (.map 9 e)) (hz : (zeroValue e).run Try.prog w = .ok z w) {s : ByteArray} (hs : s.size ≤ 140737488351232) : (Instr.lookup T (.map (some mb)) (.string s) false).run Try.prog w = .ok (if H s.data.toList then V s.data.toList else z) w := by
  obtain ⟨D, h1, h3, h4⟩ := h
  obtain ⟨v, ps, hrun, hv⟩ := h1.lookup lawS hT hz rfl (key_mk hs)
  rw [hrun]
  cases hb : H s.data.toList with
  | false =>
    rw [Maps.atKey_of_not_has ((h3 _).trans hb)] at hv
    obtain rfl : v = _ := (DataW.held.inj (congrArg Prod.fst (Option.some.inj hv)))
    rfl
  | true =>
    rw [h4 _ hb] at hv
    obtain rfl : v = _ := (DataW.held.inj (congrArg Prod.fst (Option.some.inj hv)))
    rfl
theorem MapIs.put (h : MapIs w mb n H V) (hT : Try.prog.underlying T = some (.map 9 e)) {s : ByteArray} (hs : s.size ≤ 140737488351232) (hn : n < maxLen) (v : Value) :
    ∃ w', (Instr.mapUpdate T (.map (some mb)) (.string s) v).run Try.prog w = .ok () w' ∧ MapIs w' mb (n + 1) (updH H s.data.toList true) (updV V s.data.toList v) ∧ w.grownBy w' (some mb) := by
  obtain ⟨D, h1, h3, h4⟩ := h
  obtain ⟨w', hrun, hown, hg⟩ := h1.update (d := .held v) (ps := []) lawS hT hn (key_mk hs) rfl
  refine ⟨w', hrun, ⟨_, hown, fun t => ?_, fun t ht z => ?_⟩, hg⟩
  · unfold updH
    by_cases e : t = s.data.toList
    · rw [if_pos e, e, Maps.has_put_same h1.isMap (lawS.key (key_mk hs))]
    · rw [if_neg e, Maps.has_put_other (str_ne e)]; exact h3 t
  · unfold updH at ht
    unfold updV
    by_cases e : t = s.data.toList
    · rw [if_pos e, e, Maps.atKey_put_same h1.isMap (lawS.key (key_mk hs))]
    · rw [if_neg e, Maps.atKey_put_other (str_ne e)]
      rw [if_neg e] at ht
      exact h4 t ht z
theorem MapIs.drop (h : MapIs w mb n H V) (hT : Try.prog.underlying T = some (.map 9 e)) {s : ByteArray} (hs : s.size ≤ 140737488351232) (ty : TypeId) :
    ∃ w', (Builtin.delete_ #[T, 9] ty #[.map (some mb), .string s]).run Try.prog w = .ok (.tuple #[]) w' ∧ MapIs w' mb n (updH H s.data.toList false) V ∧ w.grownBy w' (some mb) := by
  obtain ⟨D, h1, h3, h4⟩ := h
  obtain ⟨w', hrun, hown, hg⟩ := h1.drop lawS hT (key_mk hs) ty
  refine ⟨w', hrun, ⟨_, hown, fun t => ?_, fun t ht z => ?_⟩, hg.grown⟩
  · unfold updH
    by_cases e : t = s.data.toList
    · rw [if_pos e, e, Maps.has_del_same]
    · rw [if_neg e, Maps.has_del_other (str_ne e)]; exact h3 t
  · unfold updH at ht
    by_cases e : t = s.data.toList
    · rw [if_pos e] at ht; cases ht
    · rw [if_neg e] at ht
      rw [Maps.atKey_del_other (str_ne e)]
      exact h4 t ht z
end
section
variable {w : World} {mb n : Nat} {H : Tm → Bool} {V : Tm → Value} {T e : TypeId} {ops : Array Oper} {rest : List Oper} {o : Oper} {a : Act} {Q : Exit → Act → World → Prop}
theorem wpList_put (hg : o.guard = none) (m x v : Operand) (hop : o.op = Op.mapUpdate T m x v) (hm : a.eval m = .map (some mb)) (h : MapIs w mb n H V) (hT : Try.prog.underlying T = some (.map 9 e)) {s : ByteArray} (hx : a.eval x = .string s) (hs : s.size ≤ 140737488351232)
    (hn : n < maxLen) {val : Value} (hv : a.eval v = val) (hC : ∀ w', MapIs w' mb (n + 1) (updH H s.data.toList true) (updV V s.data.toList val) → w.grownBy w' (some mb) → wpList Try.prog ops Q rest (a.put o.dst undef) w') : wpList Try.prog ops Q (o :: rest) a w := by
  refine wpList_plain hg fun K' hK' => ?_
  obtain ⟨w', hrun, r1, r2⟩ := h.put hT hs hn val
  unfold Oper.wp
  simp [execOp, hop, hm, hx, hv, hrun, Result.andThen]
  exact hK' _ _ (hC w' r1 r2)
theorem wpList_drop (hg : o.guard = none) (m x : Operand) (hop : o.op = Op.call { callee := Callee.builtin Builtin.delete, args := #[m, x], argTypes := #[T, 9] }) (hm : a.eval m = .map (some mb)) (h : MapIs w mb n H V) (hT : Try.prog.underlying T = some (.map 9 e)) {s : ByteArray} (hx : a.eval x = .string s) (hs : s.size ≤ 140737488351232)
    (hC : ∀ w', MapIs w' mb n (updH H s.data.toList false) V → w.grownBy w' (some mb) → wpList Try.prog ops Q rest (a.put o.dst (.tuple #[])) w') : wpList Try.prog ops Q (o :: rest) a w := by
  refine wpList_plain hg fun K' hK' => ?_
  obtain ⟨w', hrun, r1, r2⟩ := h.drop hT hs o.type
  unfold Oper.wp
  simp [execOp, hop, resolve, invoke, builtin, hm, hx, hrun, Result.andThen]
  exact hK' _ _ (hC w' r1 r2)
end
/-! ### a store -/
def eStr (t : Tm) : Value := .string ⟨t.toArray⟩
theorem eStr_of (B : ByteArray) : eStr B.data.toList = .string B := by simp [eStr]
def isEver (s : Stt) (t : Tm) : Bool := decide (s.ver t ≠ [])
def lastV (s : Stt) (t : Tm) : Value := eStr ((s.ver t).getLastD [])
/-- A row of one key. -/
def RowAt (w : World) (v : Value) (b : Nat) (l : List Tm) : Prop := ∃ ys : List ByteArray, bl ys = l ∧ w.ownsRow 0 9 1 v ys.length (sv ys) ∧ v.ownBlock = some b
theorem RowAt.lt {w : World} {v : Value} {b : Nat} {l : List Tm} (h : RowAt w v b l) : b < w.heap.size := by
  obtain ⟨ys, _, h2, h3⟩ := h
  exact (h2.lt b h3).2
theorem RowAt.move {w w' : World} {v : Value} {b : Nat} {l : List Tm} (h : RowAt w v b l) (hb : w'.heap[b]? = w.heap[b]?) : RowAt w' v b l := by
  obtain ⟨ys, h1, h2, h3⟩ := h
  refine ⟨ys, h1, ⟨h2.1, ?_⟩, h3⟩
  rcases h2.2 with ⟨rfl, _⟩ | ⟨x, cap, cur, rfl, a1, a2, a3⟩
  · cases h3
  · have : x = b := Option.some.inj h3
    subst this
    exact .inr ⟨x, cap, cur, rfl, a1, hb.trans a2, a3⟩
structure StoreAt (g me mt : Nat) (V : Tm → Value) (rb : Tm → Nat) (w : World) (s : Stt) : Prop where
  c0 : w.cell? ⟨g, 0, none⟩ = some (.map (some me))
  c1 : w.cell? ⟨g, 1, none⟩ = some (.map (some mt))
  c2 : w.cell? ⟨g, 2, none⟩ = some (.int .i64 (s.n : Int))
  f2 : w.frozen? ⟨g, 2, none⟩ = false
  em : MapIs w me s.n (isEver s) V
  tm : MapIs w mt s.n s.is (lastV s)
  rows : ∀ t, s.ver t ≠ [] → RowAt w (V t) (rb t) (s.ver t)
  n1 : g ≠ me
  n2 : g ≠ mt
  n3 : me ≠ mt
  off : ∀ t, s.ver t ≠ [] → rb t ≠ g ∧ rb t ≠ me ∧ rb t ≠ mt
  inj : ∀ t u, s.ver t ≠ [] → s.ver u ≠ [] → rb t = rb u → t = u
def Xs (g me mt : Nat) (rb : Tm → Nat) (s : Stt) (b : Nat) : Prop := b = g ∨ b = me ∨ b = mt ∨ ∃ t, s.ver t ≠ [] ∧ rb t = b
/-- The landed code's store. -/
def DS : DPred := fun w a X s => ∃ g me mt V rb, a = ⟨g, 0, none⟩ ∧ StoreAt g me mt V rb w s ∧ ∀ b, X b ↔ Xs g me mt rb s b
section
variable {g me mt : Nat} {V : Tm → Value} {rb : Tm → Nat} {w : World} {s : Stt}
theorem StoreAt.g_lt (h : StoreAt g me mt V rb w s) : g < w.heap.size := World.block_lt_of_cell? w _ h.c0
theorem StoreAt.old (h : StoreAt g me mt V rb w s) {b : Nat} (hb : Xs g me mt rb s b) : b < w.heap.size := by
  rcases hb with rfl | rfl | rfl | ⟨t, ht, rfl⟩
  · exact h.g_lt
  · exact h.em.lt
  · exact h.tm.lt
  · exact (h.rows t ht).lt
theorem StoreAt.keep (h : StoreAt g me mt V rb w s) {w' : World} (hb : ∀ b, Xs g me mt rb s b → w'.heap[b]? = w.heap[b]?) : StoreAt g me mt V rb w' s := by
  have hg := hb g (.inl rfl)
  exact ⟨(World.cell?_of_block (a := ⟨g, 0, none⟩) hg).trans h.c0, (World.cell?_of_block (a := ⟨g, 1, none⟩) hg).trans h.c1, (World.cell?_of_block (a := ⟨g, 2, none⟩) hg).trans h.c2, (World.frozen?_of_block (a := ⟨g, 2, none⟩) hg).trans h.f2,
    h.em.block (hb me (.inr (.inl rfl))), h.tm.block (hb mt (.inr (.inr (.inl rfl)))), fun t ht => (h.rows t ht).move (hb _ (.inr (.inr (.inr ⟨t, ht, rfl⟩)))), h.n1, h.n2, h.n3, h.off, h.inj⟩
theorem StoreAt.below (h : StoreAt g me mt V rb w s) {w' : World} (hb : Below w.heap.size w w') : StoreAt g me mt V rb w' s := h.keep fun b hx => hb.block b (h.old hx)
end
theorem ds_old : ∀ {w : World} {a : Addr} {X : Nat → Prop} {s : Stt}, DS w a X s → ∀ b, X b → b < w.heap.size := fun {w a X s} h b hb => by
  obtain ⟨g, me, mt, V, rb, _, h, hx⟩ := h
  exact h.old ((hx b).1 hb)
theorem ds_keep : ∀ {w w' : World} {a : Addr} {X : Nat → Prop} {s : Stt}, DS w a X s → w.heap.size ≤ w'.heap.size → (∀ b, X b → w'.heap[b]? = w.heap[b]?) → DS w' a X s := fun {w w' a X s} h _ hk => by
  obtain ⟨g, me, mt, V, rb, e, h, hx⟩ := h
  exact ⟨g, me, mt, V, rb, e, h.keep fun b hb => hk b ((hx b).2 hb), hx⟩
/-- The row at a key, or none. -/
def rowV (V : Tm → Value) (s : Stt) (k : Tm) : Value := if isEver s k then V k else .slice none 0 0
theorem StoreAt.row {g me mt : Nat} {V : Tm → Value} {rb : Tm → Nat} {w : World} {s : Stt} (h : StoreAt g me mt V rb w s) (k : Tm) : ∃ (A : Option Addr) (c : Nat) (ys : List ByteArray), bl ys = s.ver k ∧ rowV V s k = .slice A ys.length c ∧ w.ownsRow 0 9 1 (.slice A ys.length c) ys.length (sv ys) ∧ ∀ b, (Value.slice A ys.length c).ownBlock = some b → s.ver k ≠ [] ∧ rb k = b := by
  by_cases hk : s.ver k = []
  · refine ⟨none, 0, [], by rw [hk]; rfl, by unfold rowV isEver; simp [hk], World.ownsRow_nil _ _ _ _, fun b h => by cases h⟩
  · obtain ⟨ys, h1, h2, h3⟩ := h.rows k hk
    obtain ⟨A, c, e⟩ := own_value h2
    rw [e] at h2 h3
    refine ⟨A, c, ys, h1, by unfold rowV isEver; simp [hk, e], h2, fun b hb => ⟨hk, Option.some.inj (h3.symm.trans hb)⟩⟩
end Go.Proofs.Ytamkepfhlfeiiaa.Sto
