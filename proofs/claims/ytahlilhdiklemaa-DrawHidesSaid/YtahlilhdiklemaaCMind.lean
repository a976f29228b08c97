/-
  WHAT THE CODE'S mind IS IN MEMORY: a struct of a map and a slice; the map's values are structs with slices; whose block is whose is told by a tag. By an AI agent; no person has read it.
-/
import Derived.Test.YtahlilhdiklemaaCMPure
import Derived.Test.YtahlilhdiklemaaWStrs
import Derived.Maps.RangeWalk
import Derived.Sort.KeysCollected
import Derived.Deep.AppendLies
import Derived.StillTailTactics
import Derived.BigQuiet
import Derived.Deep.QuietTactic
namespace Go.Proofs.Ytahlilhdiklemaa.Clo
open Go.RowKit Wire Term

/-- An element of the map, read as itself. -/
def Rv (v : Value) : Option (DataW Value × List MemPlace) := some (.held v, [])
theorem lawS : Go.Maps.Keyed Try.prog 9 := Go.Maps.string_keyed Try.underlying9
/-- A fact as the map holds it. -/
def fv (t : Tm) (x : Fa) (pv iv ov : Value) : Value := .agg #[.int .u8 ((t.headD 0).toNat : Int), pv, .bool x.1, .bool x.2.1, iv, ov]
theorem zero_fact (w : World) : (zeroValue 56).run Try.prog w = .ok (.agg #[.int .u8 0, .slice none 0 0, .bool false, .bool false, .slice none 0 0, .slice none 0 0]) w := by kernel_rfl
/-- The fields of a fact that is no variable. -/
theorem field_parts (kb : Int) (b1 b2 : Bool) (a ia oa : Option Addr) (n c il ic ol oc : Nat) (w : World) : (Instr.field 56 (.agg #[.int .u8 kb, .slice a n c, .bool b1, .bool b2, .slice ia il ic, .slice oa ol oc]) 1).run Try.prog w = .ok (.slice a n c) w := by kernel_rfl
theorem field_made (kb : Int) (b1 b2 : Bool) (a ia oa : Option Addr) (n c il ic ol oc : Nat) (w : World) : (Instr.field 56 (.agg #[.int .u8 kb, .slice a n c, .bool b1, .bool b2, .slice ia il ic, .slice oa ol oc]) 3).run Try.prog w = .ok (.bool b2) w := by kernel_rfl

/-! ### the map -/
def MapIs (w : World) (mb : Nat) (K : List Tm) (V : Tm → Value) : Prop :=
  ∃ D, w.ownsMap Try.prog 9 Rv mb K.length D ∧ Maps.size D = K.length ∧ (∀ t, Maps.has D (.string t) = true ↔ t ∈ K) ∧ ∀ t ∈ K, ∀ z, D.atKey (.string t) z = .held (V t)
theorem MapIs.lt {w : World} {mb : Nat} {K : List Tm} {V : Tm → Value} (h : MapIs w mb K V) : mb < w.heap.size := by
  obtain ⟨D, h, _⟩ := h
  exact h.lt
theorem MapIs.block {w w' : World} {mb : Nat} {K : List Tm} {V : Tm → Value} (h : MapIs w mb K V) (hb : w'.heap[mb]? = w.heap[mb]?) : MapIs w' mb K V := by
  obtain ⟨D, ⟨es, clock, h1, h2⟩, h3⟩ := h
  exact ⟨D, ⟨es, clock, hb.trans h1, h2⟩, h3⟩
theorem MapIs.congr {w : World} {mb : Nat} {K : List Tm} {V V' : Tm → Value} (h : MapIs w mb K V) (hv : ∀ t ∈ K, V t = V' t) : MapIs w mb K V' := by
  obtain ⟨D, h1, h2, h3, h4⟩ := h
  exact ⟨D, h1, h2, h3, fun t ht z => by rw [h4 t ht z, hv t ht]⟩
theorem mapIs_made (w : World) (V : Tm → Value) : MapIs (w.alloc (.map #[] 0)) w.heap.size [] V :=
  ⟨.map [], World.ownsMap_made _ _ _ _, rfl, fun t => ⟨fun h => by simp [Maps.has] at h, fun h => (List.not_mem_nil h).elim⟩, fun _ h => (List.not_mem_nil h).elim⟩
/-- How many there are, as the bound. -/
theorem World.ownsMap.exact {P : Program} {k : TypeId} {w : World} {b n : Nat} {D : DataW Value} (h : w.ownsMap P k Rv b n D) : w.ownsMap P k Rv b (Maps.size D) D := by
  obtain ⟨es, clock, hb, F, _, hD⟩ := h
  refine ⟨es, clock, hb, F, ?_, hD⟩
  rw [hD]
  simp [Maps.size, length_sorted]
theorem key_mk {s : ByteArray} (h : s.size ≤ 4000) : keyOf Try.prog 9 (.string s) = some (.string s.data.toList) :=
  Go.WideMaps.keyOf_string_mk Try.underlying9 (Nat.le_trans h (by decide))
section
variable {w : World} {mb : Nat} {K : List Tm} {V : Tm → Value}
theorem MapIs.look (h : MapIs w mb K V) {s : ByteArray} (hs : s.size ≤ 4000) (ht : s.data.toList ∈ K) : (Instr.lookup 57 (.map (some mb)) (.string s) false).run Try.prog w = .ok (V s.data.toList) w := by
  obtain ⟨D, h1, _, _, h4⟩ := h
  obtain ⟨v, ps, hrun, hv⟩ := h1.lookup lawS Try.underlying57 (zero_fact w) rfl (key_mk hs)
  rw [h4 _ ht] at hv
  obtain rfl : v = V s.data.toList := by
    have := congrArg Prod.fst (Option.some.inj hv)
    exact DataW.held.inj this
  exact hrun
theorem MapIs.look_in (h : MapIs w mb K V) {s : ByteArray} (hs : s.size ≤ 4000) (ht : s.data.toList ∈ K) : (Instr.lookup 57 (.map (some mb)) (.string s) true).run Try.prog w = .ok (.tuple #[V s.data.toList, .bool true]) w := by
  obtain ⟨D, h1, _, h3, h4⟩ := h
  obtain ⟨v, ps, hrun, hv⟩ := h1.look_ok lawS Try.underlying57 (zero_fact w) rfl (key_mk hs)
  rw [h4 _ ht] at hv
  obtain rfl : v = V s.data.toList := by
    have := congrArg Prod.fst (Option.some.inj hv)
    exact DataW.held.inj this
  rw [(h3 _).2 ht] at hrun
  exact hrun
theorem MapIs.look_out (h : MapIs w mb K V) {s : ByteArray} (hs : s.size ≤ 4000) (ht : s.data.toList ∉ K) : (Instr.lookup 57 (.map (some mb)) (.string s) true).run Try.prog w = .ok (.tuple #[.agg #[.int .u8 0, .slice none 0 0, .bool false, .bool false, .slice none 0 0, .slice none 0 0], .bool false]) w := by
  obtain ⟨D, h1, _, h3, h4⟩ := h
  have hf : Maps.has D (.string s.data.toList) = false := by
    rw [← Bool.not_eq_true]; exact fun e => ht ((h3 _).1 e)
  obtain ⟨v, ps, hrun, hv⟩ := h1.look_ok lawS Try.underlying57 (zero_fact w) rfl (key_mk hs)
  rw [Maps.atKey_of_not_has hf] at hv
  obtain rfl : v = _ := (DataW.held.inj (congrArg Prod.fst (Option.some.inj hv)))
  rw [hf] at hrun
  exact hrun
def updV (V : Tm → Value) (t : Tm) (v : Value) : Tm → Value := fun y => if y = t then v else V y
theorem updV_same (V : Tm → Value) (t : Tm) (v : Value) : updV V t v t = v := by unfold updV; rw [if_pos rfl]
theorem updV_other (V : Tm → Value) {t y : Tm} (v : Value) (h : y ≠ t) : updV V t v y = V y := by unfold updV; rw [if_neg h]
theorem str_ne {t y : Tm} (h : y ≠ t) : (Lit.string y) ≠ .string t := fun e => h (Lit.string.inj e)
theorem MapIs.put_old (h : MapIs w mb K V) {s : ByteArray} (hs : s.size ≤ 4000) (ht : s.data.toList ∈ K) (hK : K.length < maxLen) (v : Value) :
    ∃ w', (Instr.mapUpdate 57 (.map (some mb)) (.string s) v).run Try.prog w = .ok () w' ∧ MapIs w' mb K (updV V s.data.toList v) ∧ w.grownBy w' (some mb) := by
  obtain ⟨D, h1, h2, h3, h4⟩ := h
  obtain ⟨w', hrun, hown, hg⟩ := h1.update (d := .held v) (ps := []) lawS Try.underlying57 hK (key_mk hs) rfl
  have hsz : Maps.size (D.put (.string s.data.toList) (.held v)) = K.length := by
    rw [Maps.size_put (h1.tidy lawS), (h3 _).2 ht, if_pos rfl, h2]
  refine ⟨w', hrun, ⟨_, ?_, hsz, fun t => ?_, fun t ht2 z => ?_⟩, hg⟩
  · have := World.ownsMap.exact hown
    rw [hsz] at this; exact this
  · by_cases e : t = s.data.toList
    · rw [e, Maps.has_put_same h1.isMap (lawS.key (key_mk hs))]; exact ⟨fun _ => ht, fun _ => rfl⟩
    · rw [Maps.has_put_other (str_ne e)]; exact h3 t
  · by_cases e : t = s.data.toList
    · rw [e, Maps.atKey_put_same h1.isMap (lawS.key (key_mk hs)), updV_same]
    · rw [Maps.atKey_put_other (str_ne e), updV_other _ _ e]; exact h4 t ht2 z
theorem MapIs.put_new (h : MapIs w mb K V) {s : ByteArray} (hs : s.size ≤ 4000) (ht : s.data.toList ∉ K) (hK : K.length < maxLen) (v : Value) :
    ∃ w', (Instr.mapUpdate 57 (.map (some mb)) (.string s) v).run Try.prog w = .ok () w' ∧ MapIs w' mb (K ++ [s.data.toList]) (updV V s.data.toList v) ∧ w.grownBy w' (some mb) := by
  obtain ⟨D, h1, h2, h3, h4⟩ := h
  have hf : Maps.has D (.string s.data.toList) = false := by
    rw [← Bool.not_eq_true]; exact fun e => ht ((h3 _).1 e)
  obtain ⟨w', hrun, hown, hg⟩ := h1.update (d := .held v) (ps := []) lawS Try.underlying57 hK (key_mk hs) rfl
  have hsz : Maps.size (D.put (.string s.data.toList) (.held v)) = (K ++ [s.data.toList]).length := by
    rw [Maps.size_put (h1.tidy lawS), hf, h2]; simp
  refine ⟨w', hrun, ⟨_, ?_, hsz, fun t => ?_, fun t ht2 z => ?_⟩, hg⟩
  · have := World.ownsMap.exact hown
    rw [hsz] at this; exact this
  · by_cases e : t = s.data.toList
    · rw [e, Maps.has_put_same h1.isMap (lawS.key (key_mk hs))]; simp
    · rw [Maps.has_put_other (str_ne e), h3 t]; simp [e]
  · by_cases e : t = s.data.toList
    · rw [e, Maps.atKey_put_same h1.isMap (lawS.key (key_mk hs)), updV_same]
    · rw [Maps.atKey_put_other (str_ne e), updV_other _ _ e]
      rcases List.mem_append.1 ht2 with h | h
      · exact h4 t h z
      · exact absurd (List.mem_singleton.1 h) e
end

/-- A region that only reads ahead of its tail (the kit's law, the draw written as such). -/
theorem wp_still_drew {P : Program} {id : Nat} {Q : Exit → Act → World → Prop} {a : Act} {w : World} {l : List Oper} (n : Nat) (hm : P.follows .mixedOrders = true) (hB : Region.lexTailB .any l.toArray n = true)
    (h : wpStill P l.toArray w.drew (fun a' => wpList P l.toArray Q (l.drop n) a' w.drew) (l.take n) a) : (Code.region id l.toArray true).wp P Q a w :=
  wp_region_still_tail n hm hB h

/-! ### the map's operations, for a walk -/
section
variable {w : World} {mb : Nat} {K : List Tm} {V : Tm → Value} {ops : Array Oper} {rest : List Oper} {o : Oper} {a : Act} {Q : Exit → Act → World → Prop}
theorem wpList_put_old (hg : o.guard = none) (m x v : Operand) (hop : o.op = Op.mapUpdate 57 m x v) (hm : a.eval m = .map (some mb)) (h : MapIs w mb K V) {s : ByteArray} (hx : a.eval x = .string s) (hs : s.size ≤ 4000) (ht : s.data.toList ∈ K)
    (hK : K.length < maxLen) {val : Value} (hv : a.eval v = val) (hC : ∀ w', MapIs w' mb K (updV V s.data.toList val) → w.grownBy w' (some mb) → wpList Try.prog ops Q rest (a.put o.dst undef) w') : wpList Try.prog ops Q (o :: rest) a w := by
  refine wpList_plain hg fun K' hK' => ?_
  obtain ⟨w', hrun, r1, r2⟩ := h.put_old hs ht hK val
  unfold Oper.wp
  simp [execOp, hop, hm, hx, hv, hrun, Result.andThen]
  exact hK' _ _ (hC w' r1 r2)
theorem wpList_put_new (hg : o.guard = none) (m x v : Operand) (hop : o.op = Op.mapUpdate 57 m x v) (hm : a.eval m = .map (some mb)) (h : MapIs w mb K V) {s : ByteArray} (hx : a.eval x = .string s) (hs : s.size ≤ 4000) (ht : s.data.toList ∉ K)
    (hK : K.length < maxLen) {val : Value} (hv : a.eval v = val) (hC : ∀ w', MapIs w' mb (K ++ [s.data.toList]) (updV V s.data.toList val) → w.grownBy w' (some mb) → wpList Try.prog ops Q rest (a.put o.dst undef) w') : wpList Try.prog ops Q (o :: rest) a w := by
  refine wpList_plain hg fun K' hK' => ?_
  obtain ⟨w', hrun, r1, r2⟩ := h.put_new hs ht hK val
  unfold Oper.wp
  simp [execOp, hop, hm, hx, hv, hrun, Result.andThen]
  exact hK' _ _ (hC w' r1 r2)
end

/-! ### whose block is whose -/
abbrev Tag := Nat × Tm
/-- The world moves on; nothing turns but blocks of one tag; no old block changes its tag. -/
def Mv (g : Tag) (own own' : Nat → Tag) (w w' : World) : Prop := w.heap.size ≤ w'.heap.size ∧ ∀ b, b < w.heap.size → own b ≠ g → own' b = own b ∧ w'.heap[b]? = w.heap[b]?
theorem mv_alloc (g : Tag) (own : Nat → Tag) (w : World) (o : Obj) : Mv g own own w (w.alloc o) :=
  ⟨(World.grownBy_alloc w o none).size, fun b hb _ => ⟨rfl, (MapKept.heap_alloc w o).2 b hb⟩⟩
theorem mv_grown {own : Nat → Tag} {w w' : World} {r : Nat} (h : w.grownBy w' (some r)) : Mv (own r) own own w w' :=
  ⟨h.size, fun b hb hne => ⟨rfl, h.block b hb fun e => hne (by rw [Option.some.inj e])⟩⟩
theorem mv_below {g : Tag} {own : Nat → Tag} {w w' : World} (h : Below w.heap.size w w') : Mv g own own w w' := ⟨h.size, fun b hb _ => ⟨rfl, h.block b hb⟩⟩
theorem lit_cells_at (W : World) (cs : Array Value) (t : TypeId) (g : Nat) (hg : g = W.heap.size) : ∀ j u, cs.toList[j]? = some u → (W.alloc (.cells cs t)).cell? ((⟨g, 0, none⟩ : Addr).add j) = some u := by
  subst hg
  exact lit_cells W cs t
theorem cell_off (w : World) (b : Nat) {j k : Nat} (v : Value) (h : j ≠ k) : (w.setCell ⟨b, k, none⟩ v).cell? ⟨b, j, none⟩ = w.cell? ⟨b, j, none⟩ :=
  World.cell?_setCell_other _ _ _ _ (fun e => h (by injection e with _ e _; exact e.symm))
theorem cell_block (w : World) {b b' : Nat} (j k : Nat) (v : Value) (h : b' ≠ b) : (w.setCell ⟨b, k, none⟩ v).cell? ⟨b', j, none⟩ = w.cell? ⟨b', j, none⟩ :=
  World.cell?_setCell_other _ _ _ _ (fun e => h (by injection e with e _ _; exact e.symm))
theorem cell_same (w : World) (b k : Nat) {u : Value} (v : Value) (h : w.cell? ⟨b, k, none⟩ = some u) : (w.setCell ⟨b, k, none⟩ v).cell? ⟨b, k, none⟩ = some v :=
  World.cell?_setCell_same _ _ _ h
theorem two_new (w : World) (o1 o2 : Obj) : Below w.heap.size w ((w.alloc o1).alloc o2) := by
  have h1 := (Below.refl w.heap.size w).alloc (Nat.le_refl _) o1
  exact h1.alloc h1.size o2
/-- A row is appended to: where the new one lies bears the tag. -/
def setT (own : Nat → Tag) (b : Nat) (g : Tag) : Nat → Tag := fun x => if x = b then g else own x
theorem setT_same (own : Nat → Tag) (b : Nat) (g : Tag) : setT own b g b = g := by unfold setT; rw [if_pos rfl]
theorem mv_row {own : Nat → Tag} {w w' : World} {v : Value} {g : Nat} {tag : Tag} (h : w.grownBy w' v.ownBlock) (ht : ∀ b, v.ownBlock = some b → own b = tag) (hat : v.ownBlock = some g ∨ g = w.heap.size) : Mv tag own (setT own g tag) w w' := by
  refine ⟨h.size, fun b hb hne => ⟨?_, h.block b hb fun e => hne (ht b e.symm)⟩⟩
  unfold setT
  rw [if_neg]
  rintro rfl
  rcases hat with e | e
  · exact hne (ht _ e)
  · omega
theorem bl_app' (xs : List ByteArray) (y : ByteArray) : bl (xs ++ [y]) = bl xs ++ [y.data.toList] := by simp [bl]
/-- A slice of strings that only its owner writes. -/
def IsRow (w : World) (base : Nat) (own : Nat → Tag) (v : Value) (g : Tag) (l : List Tm) : Prop :=
  ∃ ys : List ByteArray, bl ys = l ∧ w.ownsRow base 9 1 v ys.length (sv ys) ∧ ∀ b, v.ownBlock = some b → own b = g
theorem IsRow.nil (w : World) (base : Nat) (own : Nat → Tag) (g : Tag) : IsRow w base own (.slice none 0 0) g [] := ⟨[], rfl, World.ownsRow_nil _ _ _ _, fun b h => by cases h⟩
theorem IsRow.move {w w' : World} {base : Nat} {own own' : Nat → Tag} {v : Value} {g tag : Tag} {l : List Tm} (h : IsRow w base own v g l) (m : Mv tag own own' w w') (hne : g ≠ tag) : IsRow w' base own' v g l := by
  obtain ⟨ys, h1, h2, h3⟩ := h
  have hb : ∀ b, v.ownBlock = some b → own' b = g ∧ w'.heap[b]? = w.heap[b]? := fun b e => by
    obtain ⟨_, hlt⟩ := h2.lt b e
    obtain ⟨m1, m2⟩ := m.2 b hlt (by rw [h3 b e]; exact hne)
    exact ⟨m1.trans (h3 b e), m2⟩
  refine ⟨ys, h1, ⟨h2.1, ?_⟩, fun b e => (hb b e).1⟩
  rcases h2.2 with h | ⟨x, cap, cur, rfl, a1, a2, a3⟩
  · exact .inl h
  · exact .inr ⟨x, cap, cur, rfl, a1, (hb x rfl).2.trans a2, a3⟩
/-- A slice of strings that nobody writes any more. -/
def IsParts (w : World) (own : Nat → Tag) (v : Value) (l : List Tm) : Prop :=
  ∃ (a : Option Addr) (c : Nat) (ys : List ByteArray), v = .slice a ys.length c ∧ ys.length ≤ c ∧ bl ys = l ∧ SReads w a ys ∧ ∀ b off, 0 < ys.length → a = some ⟨b, off, none⟩ → own b = (6, [])
theorem IsParts.move {w w' : World} {own own' : Nat → Tag} {v : Value} {tag : Tag} {l : List Tm} (h : IsParts w own v l) (m : Mv tag own own' w w') (hne : ((6, []) : Tag) ≠ tag) : IsParts w' own' v l := by
  obtain ⟨a, c, ys, rfl, h1, h2, h3, h4⟩ := h
  have hb : ∀ b off, 0 < ys.length → a = some ⟨b, off, none⟩ → b < w.heap.size ∧ own' b = (6, []) ∧ w'.heap[b]? = w.heap[b]? := fun b off h0 e => by
    obtain ⟨b', off', e', hlt, _⟩ := h3 0 h0
    rw [e] at e'
    injection e' with e'
    injection e' with e1 _ _
    subst e1
    obtain ⟨m1, m2⟩ := m.2 b hlt (by rw [h4 b off h0 e]; exact hne)
    exact ⟨hlt, m1.trans (h4 b off h0 e), m2⟩
  refine ⟨a, c, ys, rfl, h1, h2, fun j hj => ?_, fun b off h0 e => (hb b off h0 e).2.1⟩
  obtain ⟨b, off, e, hlt, hc⟩ := h3 j hj
  refine ⟨b, off, e, Nat.lt_of_lt_of_le hlt m.1, ?_⟩
  rw [World.cell?_of_block (a := ⟨b, off + j, none⟩) (w := w) (hb b off (by omega) e).2.2]; exact hc
theorem IsRow.form {w : World} {base : Nat} {own : Nat → Tag} {v : Value} {g : Tag} {l : List Tm} (h : IsRow w base own v g l) : ∃ A c, v = .slice A l.length c := by
  obtain ⟨ys, rfl, h2, _⟩ := h
  rw [bl_len]
  exact own_value h2
theorem IsParts.form {w : World} {own : Nat → Tag} {v : Value} {l : List Tm} (h : IsParts w own v l) : ∃ A c, v = .slice A l.length c := by
  obtain ⟨a, c, ys, rfl, _, rfl, _⟩ := h
  rw [bl_len]
  exact ⟨a, c, rfl⟩
def Rows (w : World) (base : Nat) (own : Nat → Tag) (K : List Tm) (F : Tm → Fa) (V : Tm → Value) : Prop :=
  ∀ t ∈ K, ∃ pv iv ov, V t = fv t (F t) pv iv ov ∧ IsParts w own pv (pts t) ∧ IsRow w base own iv (4, t) (F t).2.2.1 ∧ IsRow w base own ov (5, t) (F t).2.2.2
theorem Rows.move {w w' : World} {base : Nat} {own own' : Nat → Tag} {K : List Tm} {F : Tm → Fa} {V : Tm → Value} {n : Nat} {x : Tm} (h : Rows w base own K F V) (m : Mv (n, x) own own' w w') (hn : n < 4 ∨ 6 < n) : Rows w' base own' K F V := fun t ht => by
  obtain ⟨pv, iv, ov, h1, h2, h3, h4⟩ := h t ht
  have ne : ∀ (k : Nat) (y : Tm), 4 ≤ k → k ≤ 6 → ((k, y) : Tag) ≠ (n, x) := fun k y a b e => by
    have := congrArg Prod.fst e
    simp only at this
    omega
  exact ⟨pv, iv, ov, h1, h2.move m (ne 6 [] (by omega) (by omega)), h3.move m (ne 4 t (by omega) (by omega)), h4.move m (ne 5 t (by omega) (by omega))⟩
/-- The mind in memory. -/
structure Mind (base pb mb : Nat) (own : Nat → Tag) (nv : Value) (K : List Tm) (F : Tm → Fa) (N : List Tm) (V : Tm → Value) (w : World) : Prop where
  here : w.heap[pb]? = some (.cells #[.map (some mb), nv] 59 (0, 0))
  pbT : own pb = (1, []) ∧ base ≤ pb
  mbT : own mb = (2, []) ∧ base ≤ mb
  map : MapIs w mb K V
  next : IsRow w base own nv (3, []) N
  rows : Rows w base own K F V
theorem Mind.pb_lt {base pb mb : Nat} {own : Nat → Tag} {nv : Value} {K : List Tm} {F : Tm → Fa} {N : List Tm} {V : Tm → Value} {w : World} (h : Mind base pb mb own nv K F N V w) : pb < w.heap.size := (Array.getElem?_eq_some_iff.1 h.here).1
/-- New blocks, or blocks of a tag that is none of the mind's. -/
theorem Mind.move {base pb mb : Nat} {own own' : Nat → Tag} {nv : Value} {K : List Tm} {F : Tm → Fa} {N : List Tm} {V : Tm → Value} {w w' : World} {n : Nat} {x : Tm} (h : Mind base pb mb own nv K F N V w) (m : Mv (n, x) own own' w w') (hn : 6 < n) : Mind base pb mb own' nv K F N V w' := by
  have ne : ∀ (k : Nat) (y : Tm), k ≤ 6 → ((k, y) : Tag) ≠ (n, x) := fun k y a e => by
    have := congrArg Prod.fst e
    simp only at this
    omega
  have h1 := m.2 pb h.pb_lt (by rw [h.pbT.1]; exact ne _ _ (by omega))
  have h2 := m.2 mb h.map.lt (by rw [h.mbT.1]; exact ne _ _ (by omega))
  exact ⟨h1.2.trans h.here, ⟨h1.1.trans h.pbT.1, h.pbT.2⟩, ⟨h2.1.trans h.mbT.1, h.mbT.2⟩, h.map.block h2.2, h.next.move m (ne _ _ (by omega)), h.rows.move m (.inr hn)⟩
/-- The mind, whatever its blocks. -/
def MindE (base pb : Nat) (K : List Tm) (F : Tm → Fa) (N : List Tm) (w : World) : Prop := ∃ mb own nv V, Mind base pb mb own nv K F N V w
theorem MindE.below {base pb : Nat} {K : List Tm} {F : Tm → Fa} {N : List Tm} {w w' : World} (h : MindE base pb K F N w) (hb : Below w.heap.size w w') : MindE base pb K F N w' := by
  obtain ⟨mb, own, nv, V, h⟩ := h
  exact ⟨mb, own, nv, V, h.move (mv_below (g := (7, [])) hb) (by omega)⟩
theorem tag6 {t : Tag} {lv k : Nat} {x : Tm} (h : lv ≤ t.1) (hk : k < lv) (e : t = (k, x)) : False := by
  rw [e] at h
  simp only at h
  omega
/-- The mind, beside blocks X that it does not write. -/
def MindX (lv base pb : Nat) (X : Nat → Prop) (K : List Tm) (F : Tm → Fa) (N : List Tm) (w : World) : Prop := ∃ mb own nv V, Mind base pb mb own nv K F N V w ∧ ∀ b, X b → b < w.heap.size ∧ lv ≤ (own b).1
/-- These blocks stay as they were. -/
def Kp (X : Nat → Prop) (w w' : World) : Prop := ∀ b, X b → w'.heap[b]? = w.heap[b]?
theorem Kp.trans {X : Nat → Prop} {w w1 w2 : World} (h : Kp X w w1) (k : Kp X w1 w2) : Kp X w w2 := fun b hb => (k b hb).trans (h b hb)
theorem Kp.less {X Y : Nat → Prop} {w w' : World} (h : Kp X w w') (hs : ∀ b, Y b → X b) : Kp Y w w' := fun b hb => h b (hs b hb)
theorem MindX.toE {lv base pb : Nat} {X : Nat → Prop} {K : List Tm} {F : Tm → Fa} {N : List Tm} {w : World} (h : MindX lv base pb X K F N w) : MindE base pb K F N w := by
  obtain ⟨mb, own, nv, V, h, _⟩ := h
  exact ⟨mb, own, nv, V, h⟩
theorem MindX.less {lv base pb : Nat} {X Y : Nat → Prop} {K : List Tm} {F : Tm → Fa} {N : List Tm} {w : World} (h : MindX lv base pb X K F N w) (hs : ∀ b, Y b → X b) : MindX lv base pb Y K F N w := by
  obtain ⟨mb, own, nv, V, h, hx⟩ := h
  exact ⟨mb, own, nv, V, h, fun b hb => hx b (hs b hb)⟩
theorem MindX.below {lv base pb : Nat} {X : Nat → Prop} {K : List Tm} {F : Tm → Fa} {N : List Tm} {w w' : World} (h : MindX lv base pb X K F N w) (hb : Below w.heap.size w w') : MindX lv base pb X K F N w' ∧ Kp X w w' := by
  obtain ⟨mb, own, nv, V, h, hx⟩ := h
  exact ⟨⟨mb, own, nv, V, h.move (mv_below (g := (7, [])) hb) (by omega), fun b hxb => ⟨Nat.lt_of_lt_of_le (hx b hxb).1 hb.size, (hx b hxb).2⟩⟩, fun b hxb => hb.block b (hx b hxb).1⟩
/-- A new block, which is not the mind's. -/
theorem MindX.new {lv base pb : Nat} {X : Nat → Prop} {K : List Tm} {F : Tm → Fa} {N : List Tm} {w : World} (h : MindX lv base pb X K F N w) (hlv : lv ≤ 6) (o : Obj) : MindX lv base pb (fun b => X b ∨ b = w.heap.size) K F N (w.alloc o) := by
  obtain ⟨mb, own, nv, V, h, hx⟩ := h
  have hb : Below w.heap.size w (w.alloc o) := (Below.refl _ _).alloc (Nat.le_refl _) o
  refine ⟨mb, setT own w.heap.size (7, []), nv, V, h.move (n := 7) (x := []) ⟨hb.size, fun b hlt _ => ⟨by unfold setT; rw [if_neg (by omega)], hb.block b hlt⟩⟩ (by omega), fun b hxb => ?_⟩
  have hs : (w.alloc o).heap.size = w.heap.size + 1 := by simp
  rcases hxb with h1 | rfl
  · have := hx b h1
    refine ⟨by omega, ?_⟩
    unfold setT; rw [if_neg (by omega)]; exact this.2
  · exact ⟨by omega, by rw [setT_same]; show lv ≤ 7; omega⟩
/-- What is found of a known term. -/
theorem MindX.look {lv base pb : Nat} {X : Nat → Prop} {K : List Tm} {F : Tm → Fa} {N : List Tm} {w : World} (h : MindX lv base pb X K F N w) (hlv : lv ≤ 6) {s : ByteArray} (hs : s.size ≤ 4000) (ht : s.data.toList ∈ K) :
    ∃ (mb : Nat) (kb : Int) (a : Option Addr) (c : Nat) (ys : List ByteArray) (ia oa : Option Addr) (ic oc : Nat), w.cell? ⟨pb, 0, none⟩ = some (.map (some mb)) ∧ pb < w.heap.size ∧ base ≤ w.heap.size ∧ kb = (((s.data.toList).headD 0).toNat : Int) ∧ bl ys = pts s.data.toList ∧ SReads w a ys ∧ ys.length ≤ c ∧
      (∀ b off, 0 < ys.length → a = some ⟨b, off, none⟩ → MindX lv base pb (fun x => X x ∨ x = b) K F N w) ∧
      (Instr.lookup 57 (.map (some mb)) (.string s) false).run Try.prog w = .ok (.agg #[.int .u8 kb, .slice a ys.length c, .bool (F s.data.toList).1, .bool (F s.data.toList).2.1, .slice ia (F s.data.toList).2.2.1.length ic, .slice oa (F s.data.toList).2.2.2.length oc]) w := by
  obtain ⟨mb, own, nv, V, hm, hx⟩ := h
  obtain ⟨pv, iv, ov, hv, hp, hi, ho⟩ := hm.rows _ ht
  have hrun := hm.map.look hs ht
  rw [hv] at hrun
  unfold fv at hrun
  obtain ⟨ia, ic, rfl⟩ := hi.form
  obtain ⟨oa, oc, rfl⟩ := ho.form
  obtain ⟨a, c, ys, rfl, h1, h2, h3, h4⟩ := hp
  refine ⟨mb, _, a, c, ys, ia, oa, ic, oc, cell_of_row w pb 0 _ _ (0, 0) hm.here, hm.pb_lt, Nat.le_trans hm.pbT.2 (Nat.le_of_lt hm.pb_lt), rfl, h2, h3, h1, fun b off h0 e => ⟨mb, own, nv, V, hm, fun x hxx => ?_⟩, hrun⟩
  rcases hxx with h | rfl
  · exact hx x h
  · obtain ⟨b', off', e', hlt, _⟩ := h3 0 h0
    rw [e] at e'
    injection e' with e'
    injection e' with e1 _ _
    subst e1
    exact ⟨hlt, by rw [h4 _ _ h0 e]; exact hlv⟩
section
variable {base pb mb : Nat} {own : Nat → Tag} {nv : Value} {K : List Tm} {F : Tm → Fa} {N : List Tm} {V : Tm → Value} {w : World} {t : Tm}
theorem Mind.cell0 (h : Mind base pb mb own nv K F N V w) : w.cell? ⟨pb, 0, none⟩ = some (.map (some mb)) := cell_of_row w pb 0 _ _ (0, 0) h.here
theorem Mind.cell1 (h : Mind base pb mb own nv K F N V w) : w.cell? ⟨pb, 1, none⟩ = some nv := cell_of_row w pb 1 _ _ (0, 0) h.here
theorem Mind.soft (h : Mind base pb mb own nv K F N V w) (j : Nat) : w.frozen? ⟨pb, j, none⟩ = false := by simp [World.frozen?, h.here]
theorem Mind.size (h : Mind base pb mb own nv K F N V w) : base ≤ w.heap.size := Nat.le_trans h.pbT.2 (Nat.le_of_lt h.pb_lt)
theorem tag_ne {k n : Nat} {x y : Tm} (h : k ≠ n) : ((k, x) : Tag) ≠ (n, y) := fun e => h (congrArg Prod.fst e)
/-- The map is written. -/
theorem Mind.put (h : Mind base pb mb own nv K F N V w) {w' : World} {K' : List Tm} {F' : Tm → Fa} {V' : Tm → Value} (hg : w.grownBy w' (some mb)) (hmap : MapIs w' mb K' V') (hrows : Rows w base own K' F' V') : Mind base pb mb own nv K' F' N V' w' := by
  have m : Mv (2, []) own own w w' := by
    have := mv_grown (own := own) hg
    rw [h.mbT.1] at this; exact this
  exact ⟨(m.2 pb h.pb_lt (by rw [h.pbT.1]; exact tag_ne (by decide))).2.trans h.here, h.pbT, h.mbT, hmap, h.next.move m (tag_ne (by decide)), hrows.move m (.inl (by decide))⟩
/-- The marks of one term are turned. -/
theorem Rows.mark (h : Rows w base own K F V) {t : Tm} {b1 b2 : Bool} {pv iv ov : Value} (hv : V t = fv t (F t) pv iv ov) (ht : t ∈ K) {v' : Value} (hv' : v' = fv t (b1, b2, (F t).2.2) pv iv ov) : Rows w base own K (upd F t (b1, b2, (F t).2.2)) (updV V t v') := fun y hy => by
  by_cases e : y = t
  · subst e
    obtain ⟨pv', iv', ov', h1, h2, h3, h4⟩ := h y ht
    rw [h1] at hv
    unfold fv at hv
    injection hv with hv
    injection hv with hv
    simp only [List.cons.injEq, and_true, true_and] at hv
    obtain ⟨rfl, rfl, rfl⟩ := hv
    rw [updV_same, upd_same]
    exact ⟨_, _, _, hv', h2, h3, h4⟩
  · obtain ⟨pv', iv', ov', h1, h2, h3, h4⟩ := h y hy
    rw [updV_other _ _ e, upd_other _ _ e]
    exact ⟨_, _, _, h1, h2, h3, h4⟩
/-- The list is appended to, and stored. -/
theorem Mind.push (h : Mind base pb mb own nv K F N V w) {g cap : Nat} {w' : World} {ys : List ByteArray} {s : ByteArray} (hy : bl ys = N) (hown : w'.ownsRow base 9 1 (.slice (some ⟨g, 0, none⟩) (ys.length + 1) cap) (ys.length + 1) (sv ys ++ [.string s]))
    (hgrow : w.grownBy w' nv.ownBlock) (hat : nv.ownBlock = some g ∨ g = w.heap.size) : Mind base pb mb (setT own g (3, [])) (.slice (some ⟨g, 0, none⟩) (ys.length + 1) cap) K F (N ++ [s.data.toList]) V (w'.setCell ⟨pb, 1, none⟩ (.slice (some ⟨g, 0, none⟩) (ys.length + 1) cap)) := by
  obtain ⟨_, _, _, hT⟩ := h.next
  have m : Mv (3, []) own (setT own g (3, [])) w w' := mv_row hgrow hT hat
  have p1 := m.2 pb h.pb_lt (by rw [h.pbT.1]; exact tag_ne (by decide))
  have p2 := m.2 mb h.map.lt (by rw [h.mbT.1]; exact tag_ne (by decide))
  have m2 : Mv (1, []) (setT own g (3, [])) (setT own g (3, [])) w' (w'.setCell ⟨pb, 1, none⟩ (.slice (some ⟨g, 0, none⟩) (ys.length + 1) cap)) :=
    ⟨by simp [World.setCell], fun b hb hne => ⟨rfl, Below.heap_setCell _ _ _ _ (by rintro rfl; exact hne (p1.1.trans h.pbT.1))⟩⟩
  refine ⟨?_, ⟨p1.1.trans h.pbT.1, h.pbT.2⟩, ⟨p2.1.trans h.mbT.1, h.mbT.2⟩, ?_, ?_, (h.rows.move m (.inl (by decide))).move m2 (.inl (by decide))⟩
  · rw [heap_setCell_same _ _ _ _ _ _ (p1.2.trans h.here)]; rfl
  · exact h.map.block ((m2.2 mb (Nat.lt_of_lt_of_le h.map.lt m.1) (by rw [p2.1, h.mbT.1]; exact tag_ne (by decide))).2.trans p2.2)
  · refine IsRow.move (w := w') ⟨ys ++ [s], by rw [bl_app', hy], ?_, fun b hb => ?_⟩ m2 (tag_ne (by decide))
    · rw [List.length_append, List.length_singleton]
      simpa [sv] using hown
    · have : g = b := Option.some.inj hb
      rw [← this, setT_same]
/-- The list's last one. -/
theorem Mind.last (h : Mind base pb mb own nv K F (N ++ [t]) V w) : ∃ (g cap : Nat) (Y : ByteArray), nv = .slice (some ⟨g, 0, none⟩) (N.length + 1) cap ∧ N.length + 1 ≤ cap ∧ Y.data.toList = t ∧ g < w.heap.size ∧ w.cell? ⟨g, N.length, none⟩ = some (.string Y) ∧
    Mind base pb mb own (.slice (some ⟨g, 0, none⟩) N.length cap) K F N V (w.setCell ⟨pb, 1, none⟩ (.slice (some ⟨g, 0, none⟩) N.length cap)) := by
  obtain ⟨ys, hy, hown, hT⟩ := h.next
  rcases List.eq_nil_or_concat ys with rfl | ⟨ys0, Y, rfl⟩
  · simp [bl] at hy
  rw [List.concat_eq_append] at hy hown
  rw [bl_app'] at hy
  obtain ⟨hy0, hY⟩ := List.append_inj' hy rfl
  have hY : Y.data.toList = t := by simpa using hY
  have hl : ys0.length = N.length := by rw [← bl_len, hy0]
  have hown' := hown
  obtain ⟨hlen, hr⟩ := hown
  rcases hr with ⟨_, h0⟩ | ⟨g, cap, cur, hv, hbase, hheap, hn, hcap, hsz, htake⟩
  · simp at h0
  subst hv
  have hs := (sreads_own hown').1
  rw [List.length_append, List.length_singleton] at hn htake
  have hlt := (Array.getElem?_eq_some_iff.1 hheap).1
  have hgp : own g = (3, []) := hT g rfl
  refine ⟨g, cap, Y, by rw [List.length_append, List.length_singleton, hl], by omega, hY, hlt, ?_, ?_⟩
  · obtain ⟨b, off, e, _, hc⟩ := hs ys0.length (by simp)
    injection e with e
    injection e with e1 e2 _
    subst e1 e2
    rw [Nat.zero_add, hl] at hc
    rw [hc]
    simp [List.getD, ← hl]
  · have m : Mv (1, []) own own w (w.setCell ⟨pb, 1, none⟩ (.slice (some ⟨g, 0, none⟩) N.length cap)) :=
      ⟨by simp [World.setCell], fun b hb hne => ⟨rfl, Below.heap_setCell _ _ _ _ (by rintro rfl; exact hne h.pbT.1)⟩⟩
    refine ⟨?_, h.pbT, h.mbT, h.map.block (m.2 mb h.map.lt (by rw [h.mbT.1]; exact tag_ne (by decide))).2, ?_, h.rows.move m (.inl (by decide))⟩
    · rw [heap_setCell_same _ _ _ _ _ _ h.here]; rfl
    · refine IsRow.move (w := w) ⟨ys0, hy0, ⟨by simp [sv], .inr ⟨g, cap, cur, by rw [hl], hbase, hheap, by omega, hcap, hsz, ?_⟩⟩, fun b e => by rw [← Option.some.inj e]; exact hgp⟩ m (tag_ne (by decide))
      have e2 := congrArg (List.take ys0.length) htake
      rw [List.take_take, Nat.min_eq_left (by omega)] at e2
      rw [Nat.mul_one, e2]
      simp [sv]
/-- What a row of the mind's lies in is not the struct. -/
theorem Mind.off (h : Mind base pb mb own nv K F N V w) {v : Value} {k : Nat} {x : Tm} {l : List Tm} (hr : IsRow w base own v (k, x) l) (hk : k ≠ 1) : some pb ≠ v.ownBlock := fun e => by
  obtain ⟨_, _, _, hT⟩ := hr
  exact hk (congrArg Prod.fst ((hT pb e.symm).symm.trans h.pbT.1))
end
theorem row_len {w : World} {base : Nat} {e : TypeId} {v : Value} {n : Nat} {xs : List Value} (h : w.ownsRow base e 1 v n xs) : n ≤ maxLen := by
  rcases h.2 with ⟨_, rfl⟩ | ⟨g, cap, cur, _, _, _, h1, h2, _⟩
  · exact Nat.zero_le _
  · exact Nat.le_trans h1 h2
/-- What is found of a known term, with what it stands in and what it opens. -/
theorem MindX.look2 {base pb : Nat} {X : Nat → Prop} {K : List Tm} {F : Tm → Fa} {N : List Tm} {w : World} (h : MindX 4 base pb X K F N w) {s : ByteArray} (hs : s.size ≤ 4000) (ht : s.data.toList ∈ K) :
    ∃ (mb : Nat) (kb : Int) (a : Option Addr) (n c : Nat) (ia oa : Option Addr) (zs us : List ByteArray) (ic oc : Nat), w.cell? ⟨pb, 0, none⟩ = some (.map (some mb)) ∧ bl zs = (F s.data.toList).2.2.1 ∧ SReads w ia zs ∧ bl us = (F s.data.toList).2.2.2 ∧ SReads w oa us ∧ zs.length ≤ maxLen ∧ us.length ≤ maxLen ∧
      MindX 4 base pb (fun b => X b ∨ (∃ off, ia = some ⟨b, off, none⟩) ∨ ∃ off, oa = some ⟨b, off, none⟩) K F N w ∧
      (Instr.lookup 57 (.map (some mb)) (.string s) false).run Try.prog w = .ok (.agg #[.int .u8 kb, .slice a n c, .bool (F s.data.toList).1, .bool (F s.data.toList).2.1, .slice ia zs.length ic, .slice oa us.length oc]) w := by
  obtain ⟨mb, own, nv, V, hm, hx⟩ := h
  obtain ⟨pv, iv, ov, hv, hp, hi, ho⟩ := hm.rows _ ht
  have hrun := hm.map.look hs ht
  rw [hv] at hrun
  unfold fv at hrun
  obtain ⟨a, c, ys, rfl, h1, h2, h3, h4⟩ := hp
  obtain ⟨zs, hz, hzo, hzt⟩ := hi
  obtain ⟨us, hu, huo, hut⟩ := ho
  obtain ⟨ia, ic, rfl⟩ := own_value hzo
  obtain ⟨oa, oc, rfl⟩ := own_value huo
  refine ⟨mb, _, a, _, c, ia, oa, zs, us, ic, oc, cell_of_row w pb 0 _ _ (0, 0) hm.here, hz, (sreads_own hzo).1, hu, (sreads_own huo).1, row_len hzo, row_len huo, ⟨mb, own, nv, V, hm, fun b hb => ?_⟩, hrun⟩
  rcases hb with h | ⟨off, rfl⟩ | ⟨off, rfl⟩
  · exact hx b h
  · exact ⟨(hzo.lt b rfl).2, by rw [hzt b rfl]; exact Nat.le_refl 4⟩
  · exact ⟨(huo.lt b rfl).2, by rw [hut b rfl]; exact (by decide : 4 ≤ 5)⟩
theorem sreads_kp {X : Nat → Prop} {w w' : World} {a : Option Addr} {ys : List ByteArray} (h : SReads w a ys) (hk : Kp X w w') (hs : w.heap.size ≤ w'.heap.size) (hX : ∀ b off, 0 < ys.length → a = some ⟨b, off, none⟩ → X b) : SReads w' a ys := fun j hj => by
  obtain ⟨b, off, e, hlt, hc⟩ := h j hj
  exact ⟨b, off, e, Nat.lt_of_lt_of_le hlt hs, by rw [World.cell?_of_block (a := ⟨b, off + j, none⟩) (w := w) (hk b (hX b off (by omega) e))]; exact hc⟩
/-- The list, and its last one taken off. -/
theorem MindX.last {lv base pb : Nat} (hlv : 4 ≤ lv) {X : Nat → Prop} {K : List Tm} {F : Tm → Fa} {N : List Tm} {t : Tm} {w : World} (h : MindX lv base pb X K F (N ++ [t]) w) : ∃ (g cap : Nat) (Y : ByteArray), w.cell? ⟨pb, 1, none⟩ = some (.slice (some ⟨g, 0, none⟩) (N.length + 1) cap) ∧ w.frozen? ⟨pb, 1, none⟩ = false ∧ N.length + 1 ≤ cap ∧ Y.data.toList = t ∧ g < w.heap.size ∧ w.cell? ⟨g, N.length, none⟩ = some (.string Y) ∧
    base ≤ pb ∧ pb < w.heap.size ∧ MindX lv base pb X K F N (w.setCell ⟨pb, 1, none⟩ (.slice (some ⟨g, 0, none⟩) N.length cap)) ∧ Kp X w (w.setCell ⟨pb, 1, none⟩ (.slice (some ⟨g, 0, none⟩) N.length cap)) := by
  obtain ⟨mb, own, nv, V, hm, hx⟩ := h
  obtain ⟨g, cap, Y, rfl, h1, h2, h3, h4, h5⟩ := hm.last
  exact ⟨g, cap, Y, cell_of_row w pb 1 _ _ (0, 0) hm.here, by simp [World.frozen?, hm.here], h1, h2, h3, h4, hm.pbT.2, hm.pb_lt, ⟨mb, own, _, V, h5, fun b hb => ⟨by simpa [World.setCell] using (hx b hb).1, (hx b hb).2⟩⟩,
    fun b hb => Below.heap_setCell _ _ _ _ (fun e => tag6 (hx b hb).2 (by omega) ((congrArg own e).trans hm.pbT.1))⟩
theorem MindX.bare {lv base pb : Nat} {X : Nat → Prop} {K : List Tm} {F : Tm → Fa} {w : World} (h : MindX lv base pb X K F [] w) : ∃ a c, w.cell? ⟨pb, 1, none⟩ = some (.slice a 0 c) := by
  obtain ⟨mb, own, nv, V, hm, hx⟩ := h
  obtain ⟨a, c, rfl⟩ := hm.next.form
  exact ⟨a, c, cell_of_row w pb 1 _ _ (0, 0) hm.here⟩
/-- A new term is written down. -/
theorem Mind.add {base pb mb : Nat} {own : Nat → Tag} {nv : Value} {K : List Tm} {F : Tm → Fa} {N : List Tm} {V : Tm → Value} {w : World} (hm : Mind base pb mb own nv K F N V w) {t : Tm} (ht : t ∉ K) (hF : F t = fa0) {wD wE : World} {A : Option Addr} {c fb : Nat} {ys : List ByteArray} (hb : Below w.heap.size w wD)
    (hsr : SReads wD A ys) (hys : bl ys = pts t) (hc : ys.length ≤ c) (hfresh : ∀ b off, A = some ⟨b, off, none⟩ → w.heap.size ≤ b) (hfb : w.heap.size ≤ fb) (hfA : ∀ b off, 0 < ys.length → A = some ⟨b, off, none⟩ → b ≠ fb) (hg : wD.grownBy wE (some mb))
    (hmap : MapIs wE mb (K ++ [t]) (updV V t (fv t fa0 (.slice A ys.length c) (.slice none 0 0) (.slice none 0 0)))) :
    ∃ own', Mind base pb mb own' nv (K ++ [t]) F N (updV V t (fv t fa0 (.slice A ys.length c) (.slice none 0 0) (.slice none 0 0))) wE ∧ (∀ b, b < w.heap.size → own' b = own b) ∧ own' fb = (7, []) ∧ ∀ b off, 0 < ys.length → A = some ⟨b, off, none⟩ → own' b = (6, []) := by
  obtain ⟨own', hown⟩ : ∃ own' : Nat → Tag, own' = fun b => if b < w.heap.size then own b else if b = fb then (7, []) else (6, []) := ⟨_, rfl⟩
  have h1 : ∀ b, b < w.heap.size → own' b = own b := fun b hb => by rw [hown]; simp only; rw [if_pos hb]
  have h2 : own' fb = (7, []) := by rw [hown]; show (if fb < w.heap.size then own fb else if fb = fb then ((7, []) : Tag) else (6, [])) = _; rw [if_neg (by omega), if_pos rfl]
  have h3 : ∀ b off, 0 < ys.length → A = some ⟨b, off, none⟩ → own' b = (6, []) := fun b off h0 e => by
    rw [hown]; simp only
    rw [if_neg (by have := hfresh b off e; omega), if_neg (hfA b off h0 e)]
  have m : Mv (7, []) own own' w wD := ⟨hb.size, fun b hlt _ => ⟨h1 b hlt, hb.block b hlt⟩⟩
  have hD := hm.move m (by omega)
  refine ⟨own', hD.put hg hmap (fun y hy => ?_), h1, h2, h3⟩
  by_cases e : y = t
  · subst e
    rw [updV_same, hF]
    exact ⟨_, _, _, rfl, ⟨A, c, ys, rfl, hc, hys, hsr, h3⟩, IsRow.nil _ _ _ _, IsRow.nil _ _ _ _⟩
  · have hyK : y ∈ K := by
      rcases List.mem_append.1 hy with h | h
      · exact h
      · exact absurd (List.mem_singleton.1 h) e
    obtain ⟨pv, iv, ov, r1, r2, r3, r4⟩ := hD.rows y hyK
    rw [updV_other _ _ e]
    exact ⟨pv, iv, ov, r1, r2, r3, r4⟩
end Go.Proofs.Ytahlilhdiklemaa.Clo
