/-
  U2. By an AI agent.
-/
import Derived.Test.YtbdealddjonobaaGreatYZ
import Derived.Maps.RangeWalk
import Derived.Maps.OwnSet
import Derived.Sort.KeysCollected
import Derived.StillTailTactics
import Derived.Laws.CopyRow
import Derived.Laws.IdiomCopy
import Derived.Laws.CopyOwn
import Derived.Test.YtbdealddjonobaaGreatYW0
import Derived.Test.YtbdealddjonobaaGreatYN1
import Derived.Test.YtbdealddjonobaaGreatYU1
import Derived.Test.YtbdealddjonobaaGreatYD2
import Derived.Test.YtbdealddjonobaaGreatYH1
namespace Go.Proofs.YtbdealddjonobaaGreat.Usr
open Go Go.RowKit

set_option linter.unusedVariables false
abbrev Tk := List UInt8
def Rv (v : Value) : Option (DataW Value × List MemPlace) := some (.held v, [])
theorem lawS : Go.Maps.Keyed Tryz.prog 9 := Go.Maps.string_keyed Tryz.underlying9
theorem key_mk {s : ByteArray} (h : s.size ≤ 140737488351232) : keyOf Tryz.prog 9 (.string s) = some (.string s.data.toList) :=
 Go.WideMaps.keyOf_string_mk Tryz.underlying9 (Nat.le_trans h (by decide))
theorem own_tight {w : World} {k : TypeId} {b n : Nat} {R : Value → Option (DataW Value × List MemPlace)} {D : DataW Value} (h : w.ownsMap Tryz.prog k R b n D) : w.ownsMap Tryz.prog k R b (Maps.size D) D := by
 obtain ⟨es, clock, hb, F, hs, rfl⟩ := h
 exact ⟨es, clock, hb, F, by simp [Maps.size, length_sorted], rfl⟩
def MapIs (w : World) (mb : Nat) (H : Tk → Bool) (V : Tk → Value) : Prop :=
  ∃ D, w.ownsMap Tryz.prog 9 Rv mb (Maps.size D) D ∧ (∀ t, Maps.has D (.string t) = H t) ∧ ∀ t, H t = true → ∀ z, D.atKey (.string t) z = .held (V t)
theorem MapIs.lt {w : World} {mb : Nat} {H : Tk → Bool} {V : Tk → Value} (h : MapIs w mb H V) : mb < w.heap.size := by
 obtain ⟨D, h, _⟩ := h
 exact h.lt
theorem MapIs.block {w w' : World} {mb : Nat} {H : Tk → Bool} {V : Tk → Value} (h : MapIs w mb H V) (hb : w'.heap[mb]? = w.heap[mb]?) : MapIs w' mb H V := by
 obtain ⟨D, ⟨es, clock, h1, h2⟩, h3⟩ := h
 exact ⟨D, ⟨es, clock, hb.trans h1, h2⟩, h3⟩
theorem MapIs.congr {w : World} {mb : Nat} {H H' : Tk → Bool} {V V' : Tk → Value} (h : MapIs w mb H V) (hh : ∀ t, H' t = H t) (hv : ∀ t, H t = true → V t = V' t) : MapIs w mb H' V' := by
 obtain ⟨D, h1, h2, h3⟩ := h
 exact ⟨D, h1, fun t => (h2 t).trans (hh t).symm, fun t ht z => by rw [h3 t ((hh t).symm.trans ht) z, hv t ((hh t).symm.trans ht)]⟩
theorem mapIs_made (w : World) (V : Tk → Value) : MapIs (w.alloc (.map #[] 0)) w.heap.size (fun _ => false) V :=
 ⟨.map [], World.ownsMap_made _ _ _ _, fun t => by simp [Maps.has], fun _ h => by cases h⟩
theorem str_ne {t y : Tk} (h : y ≠ t) : (Lit.string y) ≠ .string t := fun e => h (Lit.string.inj e)
def updH (H : Tk → Bool) (t : Tk) (b : Bool) : Tk → Bool := fun y => if y = t then b else H y
def updV (V : Tk → Value) (t : Tk) (v : Value) : Tk → Value := fun y => if y = t then v else V y
theorem own_count {w : World} {mb n : Nat} {D : DataW Value} {H : Tk → Bool} (h : w.ownsMap Tryz.prog 9 Rv mb n D) (hh : ∀ t, Maps.has D (.string t) = H t) {L : List Tk} (hn : L.Nodup) (hL : ∀ x, x ∈ L ↔ H x = true) : Maps.size D = L.length := by
 have ht := h.tidy lawS
 obtain ⟨es, clock, hb, F, hs, rfl⟩ := h
 obtain ⟨E, hE, hp⟩ := ht
 have hkeys : ∀ p ∈ E, ∃ t, p.1 = .string t := fun p hpE => by
  have hE2 : E = (es.toList.map (Go.WideElems.rg Tryz.prog 9 Rv)).foldr DataW.insert [] := (DataW.map.inj hE).symm
  rw [hE2] at hpE
  obtain ⟨v, hv⟩ := Go.Maps.fit_keys F p ((Go.WideShapes.sorted_perm _).mem_iff.1 hpE)
  obtain ⟨x, _, hx, _⟩ := Maps.keyOf_str Tryz.underlying9 hv
  exact ⟨_, hx⟩
 rw [hE] at hh ⊢
 have hK : (E.map Prod.fst).Nodup := List.pairwise_map.2 hp
 have hperm : (E.map Prod.fst).Perm (L.map Lit.string) := by
  refine (List.perm_ext_iff_of_nodup hK (List.Pairwise.map _ (fun a b hab e => hab (Lit.string.inj e)) hn)).2 fun a => ⟨fun ha => ?_, fun ha => ?_⟩
  ·
   obtain ⟨p, hpE, rfl⟩ := List.mem_map.1 ha
   obtain ⟨t, et⟩ := hkeys p hpE
   refine List.mem_map.2 ⟨t, (hL t).2 ((hh t).symm.trans ?_), et.symm⟩
   exact List.any_eq_true.2 ⟨p, hpE, by rw [et]; simp [Lit.sameKey]⟩
  ·
   obtain ⟨t, htL, rfl⟩ := List.mem_map.1 ha
   have h1 := (hh t).trans ((hL t).1 htL)
   obtain ⟨p, hpE, h2⟩ := List.any_eq_true.1 h1
   obtain ⟨t2, et⟩ := hkeys p hpE
   refine List.mem_map.2 ⟨p, hpE, ?_⟩
   rw [et] at h2 ⊢
   have : t2 = t := by simpa [Lit.sameKey] using h2
   rw [this]
 have := hperm.length_eq
 rw [List.length_map, List.length_map] at this
 exact this
section
variable {w : World} {mb : Nat} {H : Tk → Bool} {V : Tk → Value} {T e : TypeId} {z : Value}
theorem MapIs.len (h : MapIs w mb H V) (hT : Tryz.prog.underlying T = some (.map 9 e)) {L : List Tk} (hn : L.Nodup) (hL : ∀ x, x ∈ L ↔ H x = true) (ty : TypeId) : (Builtin.len_ #[T] ty #[.map (some mb)]).run Tryz.prog w = .ok (.int .i64 (L.length : Int)) w := by
 obtain ⟨D, h1, h3, h4⟩ := h
 rw [← own_count h1 h3 hn hL]
 exact h1.len hT ty
theorem MapIs.look_ok (h : MapIs w mb H V) (hT : Tryz.prog.underlying T = some (.map 9 e)) (hz : (zeroValue e).run Tryz.prog w = .ok z w) {s : ByteArray} (hs : s.size ≤ 140737488351232) : (Instr.lookup T (.map (some mb)) (.string s) true).run Tryz.prog w = .ok (.tuple #[if H s.data.toList then V s.data.toList else z, .bool (H s.data.toList)]) w := by
 obtain ⟨D, h1, h3, h4⟩ := h
 obtain ⟨v, ps, hrun, hv⟩ := h1.look_ok lawS hT hz rfl (key_mk hs)
 rw [h3] at hrun
 rw [hrun]
 cases hb : H s.data.toList with
 | false =>
  rw [Maps.atKey_of_not_has ((h3 _).trans hb)] at hv
  obtain rfl : v = _ := (DataW.held.inj (congrArg Prod.fst (Option.some.inj hv)))
  rfl
 | true =>
  rw [h4 _ hb] at hv
  obtain rfl : v = _ := (DataW.held.inj (congrArg Prod.fst (Option.some.inj hv)))
  rfl
theorem MapIs.look (h : MapIs w mb H V) (hT : Tryz.prog.underlying T = some (.map 9 e)) (hz : (zeroValue e).run Tryz.prog w = .ok z w) {s : ByteArray} (hs : s.size ≤ 140737488351232) : (Instr.lookup T (.map (some mb)) (.string s) false).run Tryz.prog w = .ok (if H s.data.toList then V s.data.toList else z) w := by
 obtain ⟨D, h1, h3, h4⟩ := h
 obtain ⟨v, ps, hrun, hv⟩ := h1.lookup lawS hT hz rfl (key_mk hs)
 rw [hrun]
 cases hb : H s.data.toList with
 | false =>
  rw [Maps.atKey_of_not_has ((h3 _).trans hb)] at hv
  obtain rfl : v = _ := (DataW.held.inj (congrArg Prod.fst (Option.some.inj hv)))
  rfl
 | true =>
  rw [h4 _ hb] at hv
  obtain rfl : v = _ := (DataW.held.inj (congrArg Prod.fst (Option.some.inj hv)))
  rfl
theorem MapIs.put (h : MapIs w mb H V) (hT : Tryz.prog.underlying T = some (.map 9 e)) {s : ByteArray} (hs : s.size ≤ 140737488351232) {L : List Tk} (hn : L.Nodup) (hL : ∀ x, x ∈ L ↔ H x = true) (hl : L.length ≤ 1000000) (v : Value) :
  ∃ w', (Instr.mapUpdate T (.map (some mb)) (.string s) v).run Tryz.prog w = .ok () w' ∧ MapIs w' mb (updH H s.data.toList true) (updV V s.data.toList v) ∧ w.grownBy w' (some mb) ∧ w'.heap.size = w.heap.size := by
 obtain ⟨D, h1, h3, h4⟩ := h
 have hc := own_count h1 h3 hn hL
 obtain ⟨w', hrun, hown, hg⟩ := h1.store (d := .held v) (ps := []) lawS hT (by rw [hc]; simp only [maxLen]; omega) (key_mk hs) rfl
 refine ⟨w', hrun, ⟨_, own_tight hown, fun t => ?_, fun t ht z => ?_⟩, hg.grown, ?_⟩
 ·
  unfold updH
  by_cases e : t = s.data.toList
  · rw [if_pos e, e, Maps.has_put_same h1.isMap (lawS.key (key_mk hs))]
  · rw [if_neg e, Maps.has_put_other (str_ne e)]; exact h3 t
 ·
  unfold updH at ht
  unfold updV
  by_cases e : t = s.data.toList
  · rw [if_pos e, e, Maps.atKey_put_same h1.isMap (lawS.key (key_mk hs))]
  ·
   rw [if_neg e, Maps.atKey_put_other (str_ne e)]
   rw [if_neg e] at ht
   exact h4 t ht z
 ·
  obtain ⟨es, clock, es', clock', hb, rfl⟩ := hg
  simp [ChangeMaps.setBlock]
theorem MapIs.drop (h : MapIs w mb H V) (hT : Tryz.prog.underlying T = some (.map 9 e)) {s : ByteArray} (hs : s.size ≤ 140737488351232) (ty : TypeId) :
  ∃ w', (Builtin.delete_ #[T, 9] ty #[.map (some mb), .string s]).run Tryz.prog w = .ok (.tuple #[]) w' ∧ MapIs w' mb (updH H s.data.toList false) V ∧ w.grownBy w' (some mb) ∧ w'.heap.size = w.heap.size := by
 obtain ⟨D, h1, h3, h4⟩ := h
 obtain ⟨w', hrun, hown, hg⟩ := h1.drop lawS hT (key_mk hs) ty
 refine ⟨w', hrun, ⟨_, own_tight hown, fun t => ?_, fun t ht z => ?_⟩, hg.grown, ?_⟩
 ·
  unfold updH
  by_cases e : t = s.data.toList
  · rw [if_pos e, e, Maps.has_del_same]
  · rw [if_neg e, Maps.has_del_other (str_ne e)]; exact h3 t
 ·
  unfold updH at ht
  by_cases e : t = s.data.toList
  · rw [if_pos e] at ht; cases ht
  ·
   rw [if_neg e] at ht
   rw [Maps.atKey_del_other (str_ne e)]
   exact h4 t ht z
 ·
  obtain ⟨es, clock, es', clock', hb, rfl⟩ := hg
  simp [ChangeMaps.setBlock]
end
section
variable {w : World} {mb : Nat} {H : Tk → Bool} {V : Tk → Value} {T e : TypeId} {ops : Array Oper} {rest : List Oper} {o : Oper} {a : Act} {Q : Exit → Act → World → Prop}
theorem wpList_put (hg : o.guard = none) (m x v : Operand) (hop : o.op = Op.mapUpdate T m x v) (hm : a.eval m = .map (some mb)) (h : MapIs w mb H V) (hT : Tryz.prog.underlying T = some (.map 9 e)) {s : ByteArray} (hx : a.eval x = .string s) (hs : s.size ≤ 140737488351232)
  {L : List Tk} (hn : L.Nodup) (hL : ∀ x, x ∈ L ↔ H x = true) (hl : L.length ≤ 1000000) {val : Value} (hv : a.eval v = val) (hC : ∀ w', MapIs w' mb (updH H s.data.toList true) (updV V s.data.toList val) → w.grownBy w' (some mb) → w'.heap.size = w.heap.size → wpList Tryz.prog ops Q rest (a.put o.dst undef) w') : wpList Tryz.prog ops Q (o :: rest) a w := by
 refine wpList_plain hg fun K' hK' => ?_
 obtain ⟨w', hrun, r1, r2, r3⟩ := h.put hT hs hn hL hl val
 unfold Oper.wp
 simp [execOp, hop, hm, hx, hv, hrun, Result.andThen]
 exact hK' _ _ (hC w' r1 r2 r3)
theorem wpList_drop (hg : o.guard = none) (m x : Operand) (hop : o.op = Op.call { callee := Callee.builtin Builtin.delete, args := #[m, x], argTypes := #[T, 9] }) (hm : a.eval m = .map (some mb)) (h : MapIs w mb H V) (hT : Tryz.prog.underlying T = some (.map 9 e)) {s : ByteArray} (hx : a.eval x = .string s) (hs : s.size ≤ 140737488351232)
  (hC : ∀ w', MapIs w' mb (updH H s.data.toList false) V → w.grownBy w' (some mb) → w'.heap.size = w.heap.size → wpList Tryz.prog ops Q rest (a.put o.dst (.tuple #[])) w') : wpList Tryz.prog ops Q (o :: rest) a w := by
 refine wpList_plain hg fun K' hK' => ?_
 obtain ⟨w', hrun, r1, r2, r3⟩ := h.drop hT hs o.type
 unfold Oper.wp
 simp [execOp, hop, resolve, invoke, builtin, hm, hx, hrun, Result.andThen]
 exact hK' _ _ (hC w' r1 r2 r3)
theorem step_put {E : Prop} {K : Act → World → Prop} (hg : o.guard = none) (m x v : Operand) (hop : o.op = Op.mapUpdate T m x v) (hm : a.eval m = .map (some mb)) (h : MapIs w mb H V) (hT : Tryz.prog.underlying T = some (.map 9 e)) {s : ByteArray} (hx : a.eval x = .string s) (hs : s.size ≤ 140737488351232)
  {L : List Tk} (hn : L.Nodup) (hL : ∀ x, x ∈ L ↔ H x = true) (hl : L.length ≤ 1000000) {val : Value} (hv : a.eval v = val) (hC : ∀ w', MapIs w' mb (updH H s.data.toList true) (updV V s.data.toList val) → w.grownBy w' (some mb) → w'.heap.size = w.heap.size → K (a.put o.dst undef) w') : if Region.wanted o (yielded ops a.tmps) = true then Oper.wp Tryz.prog o a w K Q else E := by
 have hw : Region.wanted o (yielded ops a.tmps) = true := by simp [Region.wanted, hg]
 rw [if_pos hw]
 obtain ⟨w', hrun, r1, r2, r3⟩ := h.put hT hs hn hL hl val
 unfold Oper.wp
 simp [execOp, hop, hm, hx, hv, hrun, Result.andThen]
 exact hC w' r1 r2 r3
end
end Go.Proofs.YtbdealddjonobaaGreat.Usr

namespace Go.Proofs.YtbdealddjonobaaGreat.Usr
open Go Go.RowKit Txt

theorem right_is (s : ByteArray) (v : Bool) (h : right s.data.toList = v) (w : World) : Calls Tryz.prog 85 #[.string s] w fun e w' => e = .returned (.bool v) ∧ Below w.heap.size w w' := by
 have := right_any s w
 rw [h] at this
 exact this
theorem right_size {s : ByteArray} (h : right s.data.toList = true) : s.size ≤ 128 := by rw [Lib.size_eq]; exact (right_len h).2
set_option maxHeartbeats 2000000 in
set_option maxRecDepth 100000 in
theorem path_yes (a b : ByteArray) (w : World) (ha : right a.data.toList = true) (hb : right b.data.toList = true) :
  Calls Tryz.prog 102 #[.string a, .string b] w fun e w' => ∃ Q : ByteArray, e = .returned (.tuple #[.string Q, .int .i64 0]) ∧ Q.data.toList = a.data.toList ++ 47 :: b.data.toList ∧ Q.size ≤ 300 ∧ Below w.heap.size w w' := by
 have s1 := right_size ha
 have s2 := right_size hb
 have HA := zh ha
 have HB := zh hb
 clear ha hb
 go_enter Tryz.func102, Tryz.ntmps102
 go_wp2_with fail
 refine (right_is a true HA.out _).mono ?_
 rintro e w1 ⟨rfl, b1⟩
 go_wp2_with fail
 refine (right_is b true HB.out _).mono ?_
 rintro e w2 ⟨rfl, b2⟩
 go_wp2_with fail
 go_ret2
 refine ⟨_, rfl, ?_, ?_, b1.trans (b2.mono b1.size)⟩
 · rw [app_data, app_data]; simp
 ·
  rw [Lib.size_eq, app_data, app_data]
  simp only [List.length_append, ← Lib.size_eq]
  show a.size + 1 + b.size ≤ 300
  omega
end Go.Proofs.YtbdealddjonobaaGreat.Usr

namespace Go.Proofs.YtbdealddjonobaaGreat.Usr
open Go Go.RowKit Wire Rig Draw Frm

set_option linter.unusedVariables false
def HeldAt (w : World) (v : Value) (b : Nat) (x : Ow) (ok : Nat → Prop) : Prop :=
  ∃ (o f : ByteArray) (ep : Int) (A : Option Addr) (n c : Nat) (B : Option Addr) (m d : Nat) (R : ByteArray) (S : Option Addr) (e : Nat) (ss : List ByteArray),
    v = .agg (OV o f ep A n c B m d (x.ver : Int) R S ss.length e false).toArray ∧ IsX ok w (RV o f ep A n c B m d) x.r ∧ R.data.toList = x.root ∧ bl ss = x.sg ∧ x.gone = false ∧ w.ownsRow 0 9 1 (.slice S ss.length e) ss.length (sv ss) ∧ (Value.slice S ss.length e).ownBlock = some b
theorem HeldAt.lt {w : World} {v : Value} {b : Nat} {x : Ow} {ok : Nat → Prop} (h : HeldAt w v b x ok) : b < w.heap.size := by
 obtain ⟨o, f, ep, A, n, c, B, m, d, R, S, e, ss, _, _, _, _, _, h6, h7⟩ := h
 exact (h6.lt b h7).2
def Bv (v : Value) (b : Nat) : Prop := ∃ vs : List Value, v = .agg vs.toArray ∧ Bk vs b
theorem sreads_move {w w' : World} {A : Option Addr} {ys : List ByteArray} (h : SReads w A ys) (hb : ∀ b off, A = some ⟨b, off, none⟩ → 0 < ys.length → w'.heap[b]? = w.heap[b]?) : SReads w' A ys := fun j hj => by
 obtain ⟨b, off, e, hlt, hc⟩ := h j hj
 have hk := hb b off e (by omega)
 refine ⟨b, off, e, ?_, (World.cell?_of_block (a := ⟨b, off + j, none⟩) hk).trans hc⟩
 have h1 : w'.heap[b]? ≠ none := by rw [hk, Array.getElem?_eq_getElem hlt]; simp
 exact Classical.byContradiction fun h2 => h1 (Array.getElem?_eq_none (by omega))
theorem isX_move {ok : Nat → Prop} {w w' : World} {o f : ByteArray} {ep : Int} {A : Option Addr} {n c : Nat} {B : Option Addr} {m d : Nat} {r : Rt} (h : IsX ok w (RV o f ep A n c B m d) r)
  (hA : ∀ b off, A = some ⟨b, off, none⟩ → 0 < n → w'.heap[b]? = w.heap[b]?) (hB : ∀ b off, B = some ⟨b, off, none⟩ → 0 < m → w'.heap[b]? = w.heap[b]?) : IsX ok w' (RV o f ep A n c B m d) r := by
 obtain ⟨o', f', A', c', rs, B', d', ws, h1, h2, h3, h4, h5, h6, h7, h8⟩ := h
 unfold RV at h1
 injection h1 with h1
 simp only [Array.mk.injEq, List.cons.injEq, Value.string.injEq, Value.int.injEq, Value.slice.injEq, and_true, true_and] at h1
 obtain ⟨rfl, rfl, rfl, ⟨rfl, rfl, rfl⟩, rfl, rfl, rfl⟩ := h1
 exact ⟨o, f, A, c, rs, B, d, ws, rfl, h2, sreads_move h3 hA, sreads_move h4 hB, h5, h6, h7, h8⟩
theorem ownsRow_move {w w' : World} {base n : Nat} {T : TypeId} {v : Value} {zs : List Value} (h : w.ownsRow base T 1 v n zs) (hb : ∀ b, v.ownBlock = some b → w'.heap[b]? = w.heap[b]?) : w'.ownsRow base T 1 v n zs := by
 refine ⟨h.1, ?_⟩
 rcases h.2 with h1 | ⟨x, cap, cur, rfl, a1, a2, a3⟩
 · exact .inl h1
 · exact .inr ⟨x, cap, cur, rfl, a1, (hb x rfl).trans a2, a3⟩
theorem HeldAt.move {w w' : World} {v : Value} {b : Nat} {x : Ow} {ok : Nat → Prop} (h : HeldAt w v b x ok) (hb : ∀ j, Bv v j → w'.heap[j]? = w.heap[j]?) (hs : w'.heap[b]? = w.heap[b]?) : HeldAt w' v b x ok := by
 obtain ⟨o, f, ep, A, n, c, B, m, d, R, S, e, ss, rfl, h2, h3, h4, h5, h6, h7⟩ := h
 refine ⟨o, f, ep, A, n, c, B, m, d, R, S, e, ss, rfl, isX_move h2 (fun b off e h0 => hb b ⟨_, rfl, off, n, c, by simp [OV, e], h0⟩) (fun b off e h0 => hb b ⟨_, rfl, off, m, d, by simp [OV, e], h0⟩), h3, h4, h5, ownsRow_move h6 fun j hj => ?_, h7⟩
 obtain rfl : b = j := Option.some.inj (h7.symm.trans hj)
 exact hs
theorem HeldAt.mono {w : World} {v : Value} {b : Nat} {x : Ow} {ok ok' : Nat → Prop} (h : HeldAt w v b x ok) (hk : ∀ j, j < w.heap.size → ok j → ok' j) : HeldAt w v b x ok' := by
 obtain ⟨o, f, ep, A, n, c, B, m, d, R, S, e, ss, h1, h2, h3⟩ := h
 exact ⟨o, f, ep, A, n, c, B, m, d, R, S, e, ss, h1, h2.mono hk, h3⟩
structure DrawAt (db dc : Nat) (w : World) (s k : Nat) : Prop where
  ne : db ≠ dc
  b : w.heap[db]? = some (.cells #[.func (.func 86) #[] #[.pointer (some ⟨dc, 0, none⟩)], .int .i64 (k : Int)] 133)
  c : w.heap[dc]? = some (.cells #[.int .u64 (s : Int)] 22)
def Us.gn (u : Us) (t : Tm) : Bool := decide (t ∈ u.ns) && (u.of t).gone
def Us.gns (u : Us) : List Tm := u.ns.filter u.gn
def verV (u : Us) (t : Tm) : Value := .int .u64 ((u.of t).ver : Int)
def Mb (u : Us) (me mg db dc : Nat) (sb : Tm → Nat) (b : Nat) : Prop := b = me ∨ b = mg ∨ b = db ∨ b = dc ∨ ∃ t, u.live t = true ∧ sb t = b
structure UserAt (g me mg db dc : Nat) (N C : ByteArray) (V : Tm → Value) (sb : Tm → Nat) (w : World) (u : Us) : Prop where
  c0 : w.cell? ⟨g, 0, none⟩ = some (.string N)
  c1 : w.cell? ⟨g, 1, none⟩ = some (.string C)
  c2 : w.cell? ⟨g, 2, none⟩ = some (.int .u64 (u.sd : Int))
  c3 : w.cell? ⟨g, 3, none⟩ = some (.pointer (some ⟨db, 0, none⟩))
  c4 : w.cell? ⟨g, 4, none⟩ = some (.map (some me))
  c5 : w.cell? ⟨g, 5, none⟩ = some (.map (some mg))
  hN : N.data.toList = u.nm
  hC : C.data.toList = u.sec
  dr : DrawAt db dc w u.sd u.dr
  hm : MapIs w me u.live V
  gm : MapIs w mg u.gn (verV u)
  rows : ∀ t, u.live t = true → HeldAt w (V t) (sb t) (u.of t) (fun b => ¬ Mb u me mg db dc sb b)
  nd : [g, me, mg, db, dc].Nodup
  off : ∀ t, u.live t = true → sb t ∉ [g, me, mg, db, dc]
  inj : ∀ t x, u.live t = true → u.live x = true → sb t = sb x → t = x
def Sb (u : Us) (g me mg db dc : Nat) (V : Tm → Value) (sb : Tm → Nat) (b : Nat) : Prop := b = g ∨ Mb u me mg db dc sb b ∨ ∃ t, u.live t = true ∧ Bv (V t) b
def DU : UPred := fun w a S M u => ∃ g me mg db dc N C V sb, a = ⟨g, 0, none⟩ ∧ UserAt g me mg db dc N C V sb w u ∧ (∀ b, S b ↔ Sb u g me mg db dc V sb b) ∧ ∀ b, M b ↔ Mb u me mg db dc sb b
theorem HeldAt.old {w : World} {v : Value} {b : Nat} {x : Ow} {ok : Nat → Prop} (h : HeldAt w v b x ok) {j : Nat} (hj : Bv v j) : j < w.heap.size := by
 obtain ⟨o, f, ep, A, n, c, B, m, d, R, S, e, ss, rfl, h2, h3, h4, h5, h6, h7⟩ := h
 obtain ⟨o', f', A', c', rs, B', d', ws, h1, _, h8, h9, _⟩ := h2
 unfold RV at h1
 injection h1 with h1
 simp only [Array.mk.injEq, List.cons.injEq, Value.string.injEq, Value.int.injEq, Value.slice.injEq, and_true, true_and] at h1
 obtain ⟨rfl, rfl, rfl, ⟨rfl, rfl, rfl⟩, rfl, rfl, rfl⟩ := h1
 obtain ⟨vs, e1, off, q, cc, hm, h0⟩ := hj
 have e2 : vs = OV o f x.r.ep A rs.length c B ws.length d (x.ver : Int) R S ss.length e false := by
  injection e1 with e1
  exact (Array.mk.inj e1).symm
 subst e2
 simp only [OV, List.mem_cons, reduceCtorEq, Value.slice.injEq, List.not_mem_nil, or_false, false_or] at hm
 rcases hm with ⟨e1, e2, _⟩ | ⟨e1, e2, _⟩ | ⟨e1, e2, _⟩
 · exact sreads_lt h8 e1.symm (by omega)
 · exact sreads_lt h9 e1.symm (by omega)
 ·
  have h10 := h7
  rw [← e1, ← e2] at h7
  refine (h6.lt j ?_).2
  have := h6.2
  rcases this with ⟨h11, h12⟩ | ⟨x', cap, cur, h11, _⟩
  · rw [h11] at h10; cases h10
  ·
   rw [← e1, ← e2] at h11 ⊢
   injection h11 with h11
   injection h11 with h11
   injection h11 with h11 h12
   subst h11 h12
   rfl
section
variable {g me mg db dc : Nat} {N C : ByteArray} {V : Tm → Value} {sb : Tm → Nat} {w : World} {u : Us}
theorem UserAt.g_lt (h : UserAt g me mg db dc N C V sb w u) : g < w.heap.size := World.block_lt_of_cell? w _ h.c0
theorem UserAt.m_lt (h : UserAt g me mg db dc N C V sb w u) {b : Nat} (hb : Mb u me mg db dc sb b) : b < w.heap.size := by
 rcases hb with rfl | rfl | rfl | rfl | ⟨t, ht, rfl⟩
 · exact h.hm.lt
 · exact h.gm.lt
 · exact (Array.getElem?_eq_some_iff.1 h.dr.b).1
 · exact (Array.getElem?_eq_some_iff.1 h.dr.c).1
 · exact (h.rows t ht).lt
theorem UserAt.old (h : UserAt g me mg db dc N C V sb w u) {b : Nat} (hb : Sb u g me mg db dc V sb b) : b < w.heap.size := by
 rcases hb with rfl | hb | ⟨t, ht, hb⟩
 · exact h.g_lt
 · exact h.m_lt hb
 · exact (h.rows t ht).old hb
theorem UserAt.keep (h : UserAt g me mg db dc N C V sb w u) {w' : World} (hb : ∀ b, Sb u g me mg db dc V sb b → w'.heap[b]? = w.heap[b]?) : UserAt g me mg db dc N C V sb w' u := by
 have hg := hb g (.inl rfl)
 exact ⟨(World.cell?_of_block (a := ⟨g, 0, none⟩) hg).trans h.c0, (World.cell?_of_block (a := ⟨g, 1, none⟩) hg).trans h.c1, (World.cell?_of_block (a := ⟨g, 2, none⟩) hg).trans h.c2, (World.cell?_of_block (a := ⟨g, 3, none⟩) hg).trans h.c3, (World.cell?_of_block (a := ⟨g, 4, none⟩) hg).trans h.c4, (World.cell?_of_block (a := ⟨g, 5, none⟩) hg).trans h.c5, h.hN, h.hC,
  ⟨h.dr.ne, (hb db (.inr (.inl (.inr (.inr (.inl rfl)))))).trans h.dr.b, (hb dc (.inr (.inl (.inr (.inr (.inr (.inl rfl))))))).trans h.dr.c⟩, h.hm.block (hb me (.inr (.inl (.inl rfl)))), h.gm.block (hb mg (.inr (.inl (.inr (.inl rfl))))),
  fun t ht => (h.rows t ht).move (fun j hj => hb j (.inr (.inr ⟨t, ht, hj⟩))) (hb _ (.inr (.inl (.inr (.inr (.inr (.inr ⟨t, ht, rfl⟩))))))), h.nd, h.off, h.inj⟩
theorem UserAt.below (h : UserAt g me mg db dc N C V sb w u) {w' : World} (hb : Below w.heap.size w w') : UserAt g me mg db dc N C V sb w' u := h.keep fun b hx => hb.block b (h.old hx)
theorem mem_lives {u : Us} {t : Tm} : t ∈ u.lives ↔ u.live t = true := by
 unfold Us.lives Us.live
 rw [List.mem_filter]
 constructor
 · intro h; exact h.2
 · intro h; exact ⟨(live_in h).1, h⟩
theorem lives_nodup {n : Nat} (f : Fine n u) : u.lives.Nodup := f.one.filter _
theorem mem_gns {t : Tm} : t ∈ u.gns ↔ u.gn t = true := by
 unfold Us.gns Us.gn
 rw [List.mem_filter]
 constructor
 · intro h; exact h.2
 · intro h; exact ⟨by simp at h; exact h.1, h⟩
theorem gns_nodup {n : Nat} (f : Fine n u) : u.gns.Nodup := f.one.filter _
theorem gns_len {n : Nat} (f : Fine n u) : u.gns.length ≤ n := Nat.le_trans (List.length_filter_le _ _) f.few
end
theorem du_old : ∀ {w : World} {a : Addr} {S M : Nat → Prop} {u : Us}, DU w a S M u → ∀ b, S b → b < w.heap.size := fun {w a S M u} h b hb => by
 obtain ⟨g, me, mg, db, dc, N, C, V, sb, _, h, hS, _⟩ := h
 exact h.old ((hS b).1 hb)
theorem du_sub : ∀ {w : World} {a : Addr} {S M : Nat → Prop} {u : Us}, DU w a S M u → ∀ b, M b → S b := fun {w a S M u} h b hb => by
 obtain ⟨g, me, mg, db, dc, N, C, V, sb, _, h, hS, hM⟩ := h
 exact (hS b).2 (.inr (.inl ((hM b).1 hb)))
theorem du_keep : ∀ {w w' : World} {a : Addr} {S M : Nat → Prop} {u : Us}, w.heap.size ≤ w'.heap.size → DU w a S M u → (∀ b, S b → w'.heap[b]? = w.heap[b]?) → DU w' a S M u := fun {w w' a S M u} _ h hk => by
 obtain ⟨g, me, mg, db, dc, N, C, V, sb, e, h, hS, hM⟩ := h
 exact ⟨g, me, mg, db, dc, N, C, V, sb, e, h.keep fun b hb => hk b ((hS b).2 hb), hS, hM⟩
end Go.Proofs.YtbdealddjonobaaGreat.Usr

namespace Go.Proofs.YtbdealddjonobaaGreat.Usr
open Go Go.RowKit Wire Rig Frm

set_option linter.unusedVariables false
set_option linter.unusedSimpArgs false
set_option maxHeartbeats 2000000 in
set_option maxRecDepth 1000000 in
theorem isName_c (N : ByteArray) (w : World) : Calls Tryz.prog 43 #[.string N] w fun e w' => e = .returned (.bool (nm N.data.toList)) ∧ Below w.heap.size w w' := by
 have HR := zh (right_any N w)
 go_enter Tryz.func43, Tryz.ntmps43
 go_wp2_with fail
 refine HR.out.mono ?_
 rintro e w1 ⟨rfl, hb1⟩
 have HB1 := zh hb1
 clear hb1
 dsimp only
 go_wp2
 go_ret
 exact ⟨rfl, HB1.out⟩
def mkw (w : World) (n : Nat) : World := w.alloc (.cells (madeCells #[.string ⟨#[]⟩] n) 9)
theorem mkw_size (w : World) (n : Nat) : (mkw w n).heap.size = w.heap.size + 1 := by simp [mkw]
theorem mkw_below (w : World) (n : Nat) : Below w.heap.size w (mkw w n) := (Below.refl _ w).alloc zl _
theorem run_mk (n : Nat) (hn : n ≤ 1000) (w : World) : (Instr.makeSlice 44 (.int .i64 (n : Int)) (.int .i64 (n : Int))).run Tryz.prog w = .ok (.slice (some ⟨w.heap.size, 0, none⟩) n n) (mkw w n) := by
 obtain ⟨i, hi, hz, hs, hb⟩ := info_parts str_info
 have hr := run_make (P := Tryz.prog) w 44 9 i _ Tryz.underlying44 hi hz .i64 .i64 n n (by omega) (by omega) (by rw [hb]; omega) (by omega)
 simp only [Int.toNat_natCast, hs, Nat.mul_one] at hr
 exact hr
theorem sv_at {ys : List ByteArray} {j : Nat} {v : Value} (h : (sv ys)[j]? = some v) : j < ys.length ∧ v = .string (ys.getD j ByteArray.empty) := by
 unfold sv at h
 rw [List.getElem?_map] at h
 cases hy : ys[j]? with
 | none => rw [hy] at h; cases h
 | some y =>
  rw [hy] at h
  refine ⟨(List.getElem?_eq_some_iff.1 hy).1, ?_⟩
  rw [List.getD_eq_getElem?_getD, hy]
  exact (Option.some.inj h).symm
theorem run_cp (a : Option Addr) (c : Nat) (ys : List ByteArray) (w : World) (hr : SReads w a ys) (hl : ys.length ≤ 1000) (ty : TypeId) :
    ∃ W, (Builtin.copy_ #[44, 44] ty #[.slice (some ⟨w.heap.size, 0, none⟩) ys.length ys.length, .slice a ys.length c]).run Tryz.prog (mkw w ys.length) = .ok (goInt ys.length) W ∧
      W.ownsRow w.heap.size 9 1 (.slice (some ⟨w.heap.size, 0, none⟩) ys.length ys.length) ys.length (sv ys) ∧ Below w.heap.size w W ∧ W.heap.size = w.heap.size + 1 := by
  have hg : (mkw w ys.length).heap[w.heap.size]? = some (.cells (madeCells #[.string ⟨#[]⟩] ys.length) 9 (0, 0)) := heap_alloc_new w _
  have hsz : (madeCells #[.string ⟨#[]⟩] ys.length : Array Value).size = ys.length := by have := size_madeCells #[(.string ⟨#[]⟩ : Value)] ys.length; simpa using this
  have hm : (ys.length : Nat) ≤ maxLen := by simp only [maxLen]; omega
  by_cases h0 : ys.length = 0
  · refine ⟨mkw w ys.length, ?_, ⟨by simp [sv, h0], .inr ⟨_, _, _, rfl, Nat.le_refl _, hg, Nat.le_refl _, hm, by rw [hsz]; simp, ?_⟩⟩, mkw_below _ _, mkw_size _ _⟩
    · have := run_copy_none (P := Tryz.prog) (mkw w ys.length) 44 44 ty 9 (some ⟨w.heap.size, 0, none⟩) a ys.length ys.length ys.length c Tryz.underlying44 (by kernel_rfl) (by rw [h0]; rfl)
      rw [h0] at this ⊢
      exact this
    · have : ys = [] := List.length_eq_zero_iff.1 h0
      subst this
      rfl
  · obtain ⟨b, off, ha, hlt, _⟩ := hr 0 (by omega)
    subst ha
    have := run_copy_row Tryz.prog (mkw w ys.length) 44 44 ty 9 w.heap.size 0 ys.length ys.length ⟨b, off, none⟩ ys.length c _ 9 (sv ys) Tryz.underlying44 (by kernel_rfl) hg
      (by simp [sv]) (fun j v hv => by
        obtain ⟨hj, rfl⟩ := sv_at hv
        obtain ⟨b', off', e, _, hc⟩ := (hr.below (mkw_below w ys.length) zl) j hj
        injection e with e
        injection e with e1 e2 _
        subst e1 e2
        rw [show ((⟨b, off, none⟩ : Addr).add j) = ⟨b, off + j, none⟩ from by unfold Addr.add; split <;> simp_all]
        exact hc) (by rw [hsz]; simp [sv]) (fun v hv => by
        unfold sv at hv
        obtain ⟨y, _, rfl⟩ := List.mem_map.1 hv
        rfl)
    have hsl : (sv ys).length = ys.length := by simp [sv]
    rw [hsl] at this
    refine ⟨_, this, ⟨by simp [sv], .inr ⟨_, _, _, rfl, Nat.le_refl _, setRow_heap _ _ _ _ _ _ hg, Nat.le_refl _, hm, ?_, ?_⟩⟩, below_setRow (mkw_below w _) zl _, by rw [size_setRow]; exact mkw_size _ _⟩
    · simp [hsl, hsz]
    · have hdrop : (madeCells #[(.string ⟨#[]⟩ : Value)] ys.length).toList.drop (0 + ys.length) = [] := List.drop_of_length_le (by rw [Array.length_toList, hsz]; omega)
      rw [hdrop, List.take_zero, List.nil_append, List.append_nil, Nat.mul_one]
      exact List.take_of_length_le (by rw [hsl]; exact Nat.le_refl _)
set_option maxHeartbeats 2000000 in
set_option maxRecDepth 1000000 in
theorem copied_c (a : Option Addr) (n c : Nat) (ys : List ByteArray) (w : World) (hr : SReads w a ys) (hl : ys.length ≤ 1000) (hn : n = ys.length) :
  Calls Tryz.prog 101 #[.slice a n c] w fun e w' => e = .returned (.slice (some ⟨w.heap.size, 0, none⟩) n n) ∧ w'.ownsRow w.heap.size 9 1 (.slice (some ⟨w.heap.size, 0, none⟩) n n) n (sv ys) ∧ Below w.heap.size w w' ∧ w'.heap.size = w.heap.size + 1 := by
 subst hn
 have hmk := run_mk ys.length hl w
 obtain ⟨W, hcp, h1, h2, h3⟩ := run_cp a c ys w hr hl 3
 have HR := zh (And.intro h1 (And.intro h2 h3))
 clear h1 h2 h3
 go_enter Tryz.func101, Tryz.ntmps101
 go_wp2
 go_ret
 exact ⟨rfl, HR.out⟩
end Go.Proofs.YtbdealddjonobaaGreat.Usr

namespace Go.Proofs.YtbdealddjonobaaGreat.Usr
open Go Go.RowKit Wire Term Clo Rig Draw

set_option linter.unusedVariables false
set_option linter.unusedSimpArgs false
set_option maxHeartbeats 2000000 in
set_option maxRecDepth 1000000 in
theorem next_c (b c s k : Nat) (w : World) (h : DrawAt b c w s k) (hk : k ≤ 1000000) : Calls Tryz.prog 46 #[.pointer (some ⟨b, 0, none⟩)] w fun e w' => e = .returned (.int .u64 ((draw s k : Nat) : Int)) ∧ DrawAt b c w' s (k + 1) ∧ Frm.Fr (fun x => x = b) w w' ∧ w'.heap.size = w.heap.size := by
 obtain ⟨hne, hb, hc⟩ := h
 have c0 : w.cell? ⟨b, 0, none⟩ = some (.func (.func 86) #[] #[.pointer (some ⟨c, 0, none⟩)]) := by unfold World.cell?; simp only [hb]; rfl
 have c1 : w.cell? ⟨b, 1, none⟩ = some (.int .i64 (k : Int)) := by unfold World.cell?; simp only [hb]; rfl
 have hcs : w.cell? ⟨c, 0, none⟩ = some (.int .u64 (s : Int)) := by unfold World.cell?; simp only [hc]; rfl
 have fz : w.frozen? ⟨b, 1, none⟩ = false := by simp [World.frozen?, hb]
 have h0 : IntKind.u64.wrap (k : Int) = (k : Int) := by rw [IntKind.wrap_u64]; omega
 have h1 : IntKind.i64.wrap ((k : Int) + 1) = ((k : Int) + 1) := by rw [IntKind.wrap_i64]; omega
 have HCS := zh hcs
 have HB := zh hb
 have HC := zh hc
 obtain ⟨dr, hdr⟩ : ∃ dr, draw s k = dr := ⟨_, rfl⟩
 have HD := zh hdr
 clear hb hc hcs hdr
 go_enter Tryz.func46, Tryz.ntmps46
 go_wp2
 go_quiet (first | (go_at_call 86; exact Calls.quiet_of_same (clo_any s k c _ (by simpa using HCS.out))))
 go_wp2
 go_ret
 have hf := fr_setCell (w := w) (X := fun x => x = b) (b := b) (j := 1) (u := .int .i64 ((k : Int) + 1)) nq rfl
 refine ⟨rfl, ⟨hne, ?_, ?_⟩, ⟨hf.os, hf.tape, hf.output, hf.size, hf.block⟩, by simp [World.setCell]⟩
 ·
  have := two_setCell (w := w.drewN nq) (u := .int .i64 ((k : Int) + 1)) HB.out
  rw [this]
  rfl
 ·
  rw [Below.heap_setCell (w.drewN nq) ⟨b, 1, none⟩ _ c (fun e => hne e.symm)]
  exact HC.out
theorem DrawAt.block {b c s k : Nat} {w w' : World} (h : DrawAt b c w s k) (hb : w'.heap[b]? = w.heap[b]?) (hc : w'.heap[c]? = w.heap[c]?) : DrawAt b c w' s k := ⟨h.ne, hb.trans h.b, hc.trans h.c⟩
theorem DrawAt.below {b c s k : Nat} {w w' : World} (h : DrawAt b c w s k) (hb : Below w.heap.size w w') : DrawAt b c w' s k :=
 h.block (hb.block b (Array.getElem?_eq_some_iff.1 h.b).1) (hb.block c (Array.getElem?_eq_some_iff.1 h.c).1)
set_option maxHeartbeats 2000000 in
set_option maxRecDepth 1000000 in
theorem secretFor_c (g db dc s k : Nat) (N U F : ByteArray) (w : World) (c0 : w.cell? ⟨g, 0, none⟩ = some (.string N)) (c3 : w.cell? ⟨g, 3, none⟩ = some (.pointer (some ⟨db, 0, none⟩))) (hd : DrawAt db dc w s k) (hk : k ≤ 1000000) (hN : nm N.data.toList = true) (hF : nm F.data.toList = true) (hU : U.size ≤ 1000) :
  Calls Tryz.prog 57 #[.pointer (some ⟨g, 0, none⟩), .string U, .string F] w fun e w' => (∃ T : ByteArray, T.data.toList = (secret U.data.toList (N.data.toList ++ 47 :: F.data.toList) (draw s k)).1 ∧ e = .returned (.string T)) ∧ DrawAt db dc w' s (k + 1) ∧ Frm.Fr (fun x => x = db) w w' := by
 have HP := zh (path_yes N F w hN hF)
 have HD := zh hd
 have glt : g < w.heap.size := World.block_lt_of_cell? w _ c0
 clear hd hN hF
 go_enter Tryz.func57, Tryz.ntmps57
 go_wp2_with fail
 refine HP.out.mono ?_
 rintro e w1 ⟨Q, rfl, hq, hqs, hb1⟩
 have HQ := zh hq
 have c3' : w1.cell? ⟨g, 3, none⟩ = some (.pointer (some ⟨db, 0, none⟩)) := (hb1.cell (p := ⟨g, 3, none⟩) glt).trans c3
 have HB1 := zh hb1
 clear hq hb1 c0 c3
 dsimp only
 go_wp2_with fail
 refine (next_c db dc s k w1 (HD.out.below HB1.out) hk).mono ?_
 rintro e w2 ⟨rfl, hd2, hf2, hz2⟩
 have HD2 := zh hd2
 have HF2 := zh hf2
 clear hd2 hf2 hz2 c3'
 dsimp only
 go_wp2_with fail
 refine (secretok U Q (draw s k) w2 (by omega) (by omega) (by omega) (mix_lt _)).mono ?_
 rintro e w3 ⟨⟨T, hT, rfl⟩, hb3⟩
 have HT := zh hT
 have HB3 := zh hb3
 clear hT hb3
 dsimp only
 go_wp2_with fail
 go_ret
 refine ⟨⟨T, by rw [HT.out, HQ.out], rfl⟩, HD2.out.below HB3.out, ⟨HB3.out.os.trans (HF2.out.os.trans HB1.out.os), HB3.out.tape.trans (HF2.out.tape.trans HB1.out.tape), HB3.out.output.trans (HF2.out.output.trans HB1.out.output), Nat.le_trans HB1.out.size (Nat.le_trans HF2.out.size HB3.out.size), fun b hb hn => ?_⟩⟩
 have h1 := Nat.lt_of_lt_of_le hb HB1.out.size
 exact (HB3.out.block b (Nat.lt_of_lt_of_le h1 HF2.out.size)).trans ((HF2.out.block b h1 hn).trans (HB1.out.block b hb))
end Go.Proofs.YtbdealddjonobaaGreat.Usr

namespace Go.Proofs.YtbdealddjonobaaGreat.Usr
open Go Go.RowKit Wire Rig Draw

set_option linter.unusedVariables false
set_option linter.unusedSimpArgs false
theorem fr_below {w w' : World} {X : Nat → Prop} (h : Below w.heap.size w w') : Frm.Fr X w w' := Frm.Fr.none h
theorem fr_cons {X Y : Nat → Prop} {w w1 w2 : World} (h : Frm.Fr X w w1) (h2 : Frm.Fr Y w1 w2) (hY : ∀ b, Y b → b < w.heap.size → X b) : Frm.Fr X w w2 :=
 ⟨h2.os.trans h.os, h2.tape.trans h.tape, h2.output.trans h.output, Nat.le_trans h.size h2.size, fun b hb hx => (h2.block b (Nat.lt_of_lt_of_le hb h.size) fun hy => hx (hY b hy hb)).trans (h.block b hb hx)⟩
theorem Grown.fr {w w' : World} {m : Nat} (h : w.grownBy w' (some m)) : Frm.Fr (fun b => b = m) w w' := ⟨h.os, h.tape, h.output, h.size, fun b hb hn => h.block b hb fun e => hn (Option.some.inj e)⟩
theorem zero_owned (w : World) : (zeroValue 50).run Tryz.prog w = .ok (.agg (OV ⟨#[]⟩ ⟨#[]⟩ 0 none 0 0 none 0 0 0 ⟨#[]⟩ none 0 0 false).toArray) w := by kernel_rfl
theorem zero_u64 (w : World) : (zeroValue 22).run Tryz.prog w = .ok (.int .u64 0) w := by kernel_rfl
theorem new_at (w : World) (N C : ByteArray) (sd db dc : Nat) (T : TypeId) (hd : DrawAt db dc w sd 1) (hC : C.data.toList = (us0 N.data.toList sd).sec) (w2 : World) (hb : Below w.heap.size w w2) (g me mg : Nat) (hn : [g, me, mg].Nodup) (hlo : ∀ b ∈ [g, me, mg], w.heap.size ≤ b)
  (hg : w2.heap[g]? = some (.cells #[.string N, .string C, .int .u64 (sd : Int), .pointer (some ⟨db, 0, none⟩), .map (some me), .map (some mg)] T)) (hm : MapIs w2 me (fun _ => false) (fun _ => undef)) (hq : MapIs w2 mg (fun _ => false) (fun _ => undef)) :
  UserAt g me mg db dc N C (fun _ => undef) (fun _ => 0) w2 (us0 N.data.toList sd) := by
 have hc : ∀ j, w2.cell? ⟨g, j, none⟩ = (#[.string N, .string C, .int .u64 (sd : Int), .pointer (some ⟨db, 0, none⟩), .map (some me), .map (some mg)] : Array Value)[j]? := fun j => cell_of_row _ _ _ _ _ _ hg
 have hdb := (Array.getElem?_eq_some_iff.1 hd.b).1
 have hdc := (Array.getElem?_eq_some_iff.1 hd.c).1
 have hne := hd.ne
 have h0 := hlo g (by simp)
 have h1 := hlo me (by simp)
 have h2 := hlo mg (by simp)
 refine ⟨(hc 0).trans rfl, (hc 1).trans rfl, (hc 2).trans rfl, (hc 3).trans rfl, (hc 4).trans rfl, (hc 5).trans rfl, rfl, hC, hd.below hb, hm.congr (fun t => by simp [Us.live, us0]) (fun t h => by cases h), hq.congr (fun t => by simp [Us.gn, us0]) (fun t h => by cases h), fun t ht => ?_, ?_, fun t ht => ?_, fun t x ht => ?_⟩
 · simp [Us.live, us0] at ht
 · simp at hn ⊢; omega
 · simp [Us.live, us0] at ht
 · simp [Us.live, us0] at ht
set_option maxHeartbeats 4000000 in
set_option maxRecDepth 1000000 in
theorem new_no (N : ByteArray) (sd : Nat) (w : World) (hn : nm N.data.toList = false) : Calls Tryz.prog 9 #[.string N, .int .u64 (sd : Int)] w fun e w' => e = .returned (.tuple #[.pointer none, .int .i64 3]) ∧ Below w.heap.size w w' := by
 have HR := zh (isName_c N w)
 rw [hn] at HR
 clear hn
 go_enter Tryz.func9, Tryz.ntmps9
 go_wp2_with fail
 refine HR.out.mono ?_
 rintro e w1 ⟨rfl, hb1⟩
 have HB1 := zh hb1
 clear hb1
 dsimp only
 go_wp2_with fail
 go_ret2
 exact ⟨rfl, HB1.out⟩
theorem three_new (w : World) (V : Array Value) (T : TypeId) : MapIs (((w.alloc (.map #[] 0)).alloc (.map #[] 0)).alloc (.cells V T)) w.heap.size (fun _ => false) (fun _ => undef) ∧ MapIs (((w.alloc (.map #[] 0)).alloc (.map #[] 0)).alloc (.cells V T)) (w.heap.size + 1) (fun _ => false) (fun _ => undef) ∧
  (((w.alloc (.map #[] 0)).alloc (.map #[] 0)).alloc (.cells V T)).heap[w.heap.size + 1 + 1]? = some (.cells V T) ∧ Below w.heap.size w (((w.alloc (.map #[] 0)).alloc (.map #[] 0)).alloc (.cells V T)) := by
 have h1 : (w.alloc (.map #[] 0)).heap.size = w.heap.size + 1 := by simp
 have h2 : ((w.alloc (.map #[] 0)).alloc (.map #[] 0)).heap.size = w.heap.size + 2 := by simp
 have b1 := (Below.refl w.heap.size w).alloc zl (.map #[] 0)
 have b2 := b1.alloc b1.size (.map #[] 0)
 have b3 := b2.alloc b2.size (.cells V T)
 have e1 := mapIs_made w (fun _ => undef)
 have e2 := mapIs_made (w.alloc (.map #[] 0)) (fun _ => undef)
 rw [h1] at e2
 have hg := heap_alloc_new ((w.alloc (.map #[] 0)).alloc (.map #[] 0)) (.cells V T)
 rw [h2] at hg
 refine ⟨(e1.block ((MapKept.heap_alloc _ _).2 _ (by omega))).block ((MapKept.heap_alloc _ _).2 _ (by omega)), e2.block ((MapKept.heap_alloc _ _).2 _ (by omega)), hg, b3⟩
set_option maxHeartbeats 4000000 in
set_option maxRecDepth 1000000 in
theorem new_yes (N : ByteArray) (sd : Nat) (w : World) (hs : sd < 18446744073709551616) (hn : nm N.data.toList = true) : Calls Tryz.prog 9 #[.string N, .int .u64 (sd : Int)] w fun e w' => ∃ a S M, e = .returned (.tuple #[.pointer (some a), .int .i64 0]) ∧ DU w' a S M (us0 N.data.toList sd) ∧ (∀ b, S b → w.heap.size ≤ b) ∧ Below w.heap.size w w' := by
 have HR := zh (isName_c N w)
 rw [hn] at HR
 have hsz := right_size hn
 have hmm := @run_makeMap Tryz.prog
 have hmm2 := zh hn
 clear hn
 go_enter Tryz.func9, Tryz.ntmps9
 go_wp2_with fail
 refine HR.out.mono ?_
 rintro e w1 ⟨rfl, hb1⟩
 have HB1 := zh hb1
 clear hb1
 dsimp only
 go_wp2_with fail
 refine (new_ok sd w1).mono ?_
 rintro e w2 ⟨a, X, rfl, ⟨db, dc, rfl, rfl, hne, hdb, hdc⟩, hX, hb2⟩
 have HD2 : Hid (DrawAt db dc w2 sd 0) := ⟨hne, hdb, hdc⟩
 have HB2 := zh hb2
 have HX := zh hX
 clear hne hdb hdc hX hb2
 dsimp only
 go_wp2_with fail
 refine (next_c db dc sd 0 w2 HD2.out (by decide)).mono ?_
 rintro e w3 ⟨rfl, hd3, hf3, hz3⟩
 have HD3 := zh hd3
 have HF3 := zh hf3
 have HZ3 := zh hz3
 clear hd3 hf3 hz3
 dsimp only
 go_wp2_with fail
 refine (secretok ⟨#[117, 115, 101, 114]⟩ N (draw sd 0) w3 (by decide) (by omega) (by show 4 + N.size ≤ _; omega) (mix_lt _)).mono ?_
 rintro e w4 ⟨⟨C, hC, rfl⟩, hb4⟩
 have HC := zh hC
 have HB4 := zh hb4
 clear hC hb4
 dsimp only
 have H3 := fun V T => zh (three_new w4 V T)
 go_wp2_with fail
 go_ret2
 have hs4 : w.heap.size ≤ w4.heap.size := Nat.le_trans HB1.out.size (Nat.le_trans HB2.out.size (by rw [← HZ3.out]; exact HB4.out.size))
 have hlo : ∀ b, b = db ∨ b = dc → w.heap.size ≤ b := fun b hb => Nat.le_trans HB1.out.size (HX.out b hb)
 obtain ⟨e1, e2, e3, e4⟩ := (H3 _ _).out
 refine ⟨_, rfl, _, ⟨_, ⟨w4.heap.size + 1 + 1, w4.heap.size, w4.heap.size + 1, db, dc, N, C, fun _ => undef, fun _ => 0, rfl, new_at w4 N C sd db dc _ (HD3.out.below HB4.out) HC.out _ e4 _ _ _ (by simp; omega) (by simp; omega) e3 e1 e2, fun b => Iff.rfl, fun b => Iff.rfl⟩⟩, fun b hb => ?_, ?_⟩
 ·
  rcases hb with rfl | (rfl | rfl | rfl | rfl | ⟨t, ht, _⟩) | ⟨t, ht, _⟩
  · omega
  · omega
  · omega
  · exact hlo _ (.inl rfl)
  · exact hlo _ (.inr rfl)
  · simp [Us.live, us0] at ht
  · simp [Us.live, us0] at ht
 ·
  have hb3 : Below w.heap.size w w3 := ⟨HF3.out.os.trans (HB2.out.os.trans HB1.out.os), HF3.out.tape.trans (HB2.out.tape.trans HB1.out.tape), HF3.out.output.trans (HB2.out.output.trans HB1.out.output), Nat.le_trans HB1.out.size (Nat.le_trans HB2.out.size HF3.out.size), fun b hb => by
   have h1 := Nat.lt_of_lt_of_le hb HB1.out.size
   exact (HF3.out.block b (Nat.lt_of_lt_of_le h1 HB2.out.size) fun e => by have := hlo b (.inl e); omega).trans ((HB2.out.block b h1).trans (HB1.out.block b hb))⟩
  exact (hb3.trans (HB4.out.mono hb3.size)).trans (e4.mono hs4)
end Go.Proofs.YtbdealddjonobaaGreat.Usr

namespace Go.Proofs.YtbdealddjonobaaGreat.Usr
open Go Go.RowKit Wire Rig Draw

set_option linter.unusedVariables false
set_option linter.unusedSimpArgs false
theorem HeldAt.bv {w : World} {v : Value} {b : Nat} {x : Ow} {ok : Nat → Prop} (h : HeldAt w v b x ok) {j : Nat} (hj : Bv v j) : ok j ∨ j = b := by
 obtain ⟨o, f, ep, A, n, c, B, m, d, R, S, e, ss, rfl, h2, h3, h4, h5, h6, h7⟩ := h
 obtain ⟨o', f', A', c', rs, B', d', ws, h1, _, h8, h9, _, _, hA, hB⟩ := h2
 unfold RV at h1
 injection h1 with h1
 simp only [Array.mk.injEq, List.cons.injEq, Value.string.injEq, Value.int.injEq, Value.slice.injEq, and_true, true_and] at h1
 obtain ⟨rfl, rfl, rfl, ⟨rfl, rfl, rfl⟩, rfl, rfl, rfl⟩ := h1
 obtain ⟨vs, e1, off, q, cc, hm, h0⟩ := hj
 have e2 : vs = OV o f x.r.ep A rs.length c B ws.length d (x.ver : Int) R S ss.length e false := by
  injection e1 with e1
  exact (Array.mk.inj e1).symm
 subst e2
 simp only [OV, List.mem_cons, reduceCtorEq, Value.slice.injEq, List.not_mem_nil, or_false, false_or] at hm
 rcases hm with ⟨e1, e2, _⟩ | ⟨e1, e2, _⟩ | ⟨e1, e2, _⟩
 · exact .inl (hA j off e1.symm (by omega))
 · exact .inl (hB j off e1.symm (by omega))
 ·
  rw [← e1] at h7
  exact .inr (Option.some.inj h7)
section
variable {g me mg db dc : Nat} {N C : ByteArray} {V V' : Tm → Value} {sb sb' : Tm → Nat} {w w' : World} {u u' : Us} {X : Nat → Prop}
theorem UserAt.row (h : UserAt g me mg db dc N C V sb w u) {t : Tm} (ht : u.live t = true) (hf : Frm.Fr X w w') (hX : ∀ b, X b → Mb u me mg db dc sb b) (hs : ¬ X (sb t)) (hM : ∀ b, Mb u' me mg db dc sb' b → Mb u me mg db dc sb b ∨ w.heap.size ≤ b) : HeldAt w' (V t) (sb t) (u.of t) (fun b => ¬ Mb u' me mg db dc sb' b) := by
 have hr := h.rows t ht
 refine (hr.mono (ok' := fun b => ¬ Mb u' me mg db dc sb' b) fun j hj hn hm => ?_).move (fun j hj => hf.block j (hr.old hj) fun hx => ?_) (hf.block _ hr.lt hs)
 ·
  rcases hM j hm with h1 | h1
  · exact hn h1
  · omega
 ·
  rcases hr.bv hj with h1 | h1
  · exact h1 (hX j hx)
  · rw [h1] at hx; exact hs hx
theorem UserAt.g_no (h : UserAt g me mg db dc N C V sb w u) : ¬ Mb u me mg db dc sb g := by
 rintro (e | e | e | e | ⟨t, ht, e⟩)
 · have := h.nd; simp [e] at this
 · have := h.nd; simp [e] at this
 · have := h.nd; simp [e] at this
 · have := h.nd; simp [e] at this
 · exact h.off t ht (by simp [e])
theorem UserAt.turn (h : UserAt g me mg db dc N C V sb w u) (hf : Frm.Fr X w w') (hX : ∀ b, X b → Mb u me mg db dc sb b) (hn : u'.nm = u.nm) (hs : u'.sd = u.sd) (hd : DrawAt db dc w' u'.sd u'.dr) (hm : MapIs w' me u'.live V') (hg : MapIs w' mg u'.gn (verV u'))
  (hr : ∀ t, u'.live t = true → HeldAt w' (V' t) (sb' t) (u'.of t) (fun b => ¬ Mb u' me mg db dc sb' b)) (ho : ∀ t, u'.live t = true → sb' t ∉ [g, me, mg, db, dc]) (hi : ∀ t x, u'.live t = true → u'.live x = true → sb' t = sb' x → t = x) : UserAt g me mg db dc N C V' sb' w' u' := by
 have hg0 : w'.heap[g]? = w.heap[g]? := hf.block g h.g_lt fun hx => h.g_no (hX g hx)
 exact ⟨(World.cell?_of_block (a := ⟨g, 0, none⟩) hg0).trans h.c0, (World.cell?_of_block (a := ⟨g, 1, none⟩) hg0).trans h.c1, by rw [hs]; exact (World.cell?_of_block (a := ⟨g, 2, none⟩) hg0).trans h.c2, (World.cell?_of_block (a := ⟨g, 3, none⟩) hg0).trans h.c3, (World.cell?_of_block (a := ⟨g, 4, none⟩) hg0).trans h.c4, (World.cell?_of_block (a := ⟨g, 5, none⟩) hg0).trans h.c5, h.hN.trans hn.symm, by
  rw [h.hC]; unfold Us.sec; rw [hn, hs], hd, hm, hg, hr, h.nd, ho, hi⟩
theorem turned {S M : Nat → Prop} (hS : ∀ b, S b ↔ Sb u g me mg db dc V sb b) (hMi : ∀ b, M b ↔ Mb u me mg db dc sb b) (h : UserAt g me mg db dc N C V' sb' w' u') (hM : ∀ b, Mb u' me mg db dc sb' b → Mb u me mg db dc sb b ∨ w.heap.size ≤ b) (hB : ∀ t b, u'.live t = true → Bv (V' t) b → Sb u g me mg db dc V sb b ∨ w.heap.size ≤ b)
  (hf : Frm.Fr X w w') (hX : ∀ b, X b → Mb u me mg db dc sb b) {x : Int} {r : Us × Int} (hr : r = (u', x)) : Turn DU ⟨g, 0, none⟩ S M r w (.returned (.int .i64 x)) w' := by
 subst hr
 refine ⟨rfl, ⟨_, _, ⟨g, me, mg, db, dc, N, C, V', sb', rfl, h, fun b => Iff.rfl, fun b => Iff.rfl⟩, fun b hb => ?_, fun b hb => ?_⟩, ⟨hf.os, hf.tape, hf.output, hf.size, fun b hb hn => hf.block b hb fun hx => hn ((hMi b).2 (hX b hx))⟩⟩
 ·
  rcases hb with rfl | hb | ⟨t, ht, hb⟩
  · exact .inl ((hS _).2 (.inl rfl))
  · exact (hM b hb).imp_left fun h => (hS b).2 (.inr (.inl h))
  · exact (hB t b ht hb).imp_left (hS b).2
 · exact (hM b hb).imp_left (hMi b).2
theorem stayed {S M : Nat → Prop} (hS : ∀ b, S b ↔ Sb u g me mg db dc V sb b) (hMi : ∀ b, M b ↔ Mb u me mg db dc sb b) (h : UserAt g me mg db dc N C V sb w u) (hb : Below w.heap.size w w') {x : Int} {r : Us × Int} (hr : r = (u, x)) : Turn DU ⟨g, 0, none⟩ S M r w (.returned (.int .i64 x)) w' :=
 turned hS hMi (h.below hb) (fun b => .inl) (fun t b ht hb => .inl (.inr (.inr ⟨t, ht, hb⟩))) (X := fun _ => False) (fr_below hb) (fun b h => h.elim) hr
end
theorem held_look {g me mg db dc : Nat} {N C : ByteArray} {V : Tm → Value} {sb : Tm → Nat} {w : World} {u : Us} (h : UserAt g me mg db dc N C V sb w u) {F : ByteArray} (hF : F.size ≤ 10000) : (Instr.lookup 94 (.map (some me)) (.string F) true).run Tryz.prog w = .ok (.tuple #[if u.live F.data.toList then V F.data.toList else .agg (OV ⟨#[]⟩ ⟨#[]⟩ 0 none 0 0 none 0 0 0 ⟨#[]⟩ none 0 0 false).toArray, .bool (u.live F.data.toList)]) w :=
 h.hm.look_ok Tryz.underlying94 (zero_owned w) (by omega)
theorem fr_maps {me mg : Nat} {w w1 w2 w3 : World} {X : Nat → Prop} (hb1 : Below w.heap.size w w1) (hg2 : w1.grownBy w2 (some mg)) (hg3 : w2.grownBy w3 (some me)) (h1 : X mg) (h2 : X me) : Frm.Fr X w w3 :=
 fr_cons (fr_cons (fr_below hb1) (Grown.fr hg2) (fun b e _ => by rw [e]; exact h1)) (Grown.fr hg3) (fun b e _ => by rw [e]; exact h2)
section
variable {g me mg db dc n : Nat} {N C : ByteArray} {V : Tm → Value} {sb : Tm → Nat} {w : World} {u : Us} {S M : Nat → Prop}
theorem live_set {u : Us} {f : Tm} (hf : f ∈ u.ns) (o : Ow) (dr : Nat) (t : Tm) : (⟨u.nm, u.sd, dr, u.ns, updO u.of f o⟩ : Us).live t = updH u.live f (!o.gone) t := by
 unfold Us.live updH updO
 by_cases e : t = f
 · subst e; simp [hf]
 · simp [e]
theorem gn_set {u : Us} {f : Tm} (hf : f ∈ u.ns) (o : Ow) (dr : Nat) (t : Tm) : (⟨u.nm, u.sd, dr, u.ns, updO u.of f o⟩ : Us).gn t = updH u.gn f o.gone t := by
 unfold Us.gn updH updO
 by_cases e : t = f
 · subst e; simp [hf]
 · simp [e]
theorem removed (h : UserAt g me mg db dc N C V sb w u) (hS : ∀ b, S b ↔ Sb u g me mg db dc V sb b) (hMi : ∀ b, M b ↔ Mb u me mg db dc sb b) {f : Tm} (hl : u.live f = true) {w1 w2 w3 : World} (hb1 : Below w.heap.size w w1) (hg2 : w1.grownBy w2 (some mg)) (hg3 : w2.grownBy w3 (some me))
    (hm2 : MapIs w2 mg (updH u.gn f true) (updV (verV u) f (.int .u64 ((u.of f).ver : Int)))) (hm3 : MapIs w3 me (updH u.live f false) V) {r : Us × Int} (hr : r = (u.set f { u.of f with gone := true }, 0)) : Turn DU ⟨g, 0, none⟩ S M r w (.returned (.int .i64 0)) w3 := by
  have hfr : Frm.Fr (fun b => b = mg ∨ b = me) w w3 := fr_maps hb1 hg2 hg3 (.inl rfl) (.inr rfl)
  have hX : ∀ b, (b = mg ∨ b = me) → Mb u me mg db dc sb b := fun b hb => hb.elim (fun e => .inr (.inl e)) .inl
  have hin := (live_in hl).1
  have hlv := live_set hin { u.of f with gone := true } u.dr
  have hgv := gn_set hin { u.of f with gone := true } u.dr
  have hnd := h.nd
  have hneg : ∀ t, u.live t = true → ¬ (sb t = mg ∨ sb t = me) := fun t ht e => h.off t ht (by rcases e with e | e <;> simp [e])
  have hold : ∀ t, (u.set f { u.of f with gone := true }).live t = true → t ≠ f ∧ u.live t = true := fun t ht => by
    have e := (hlv t).symm.trans ht
    unfold updH at e
    by_cases e2 : t = f
    · rw [if_pos e2] at e; cases e
    · rw [if_neg e2] at e; exact ⟨e2, e⟩
  have hM : ∀ b, Mb (u.set f { u.of f with gone := true }) me mg db dc sb b → Mb u me mg db dc sb b ∨ w.heap.size ≤ b := fun b hb => .inl (by
    rcases hb with e | e | e | e | ⟨t, ht, e⟩
    · exact .inl e
    · exact .inr (.inl e)
    · exact .inr (.inr (.inl e))
    · exact .inr (.inr (.inr (.inl e)))
    · exact .inr (.inr (.inr (.inr ⟨t, (hold t ht).2, e⟩))))
  have hdb : db ≠ mg ∧ db ≠ me ∧ dc ≠ mg ∧ dc ≠ me := by simp at hnd; omega
  have hdl := (Array.getElem?_eq_some_iff.1 h.dr.b).1
  have hdl2 := (Array.getElem?_eq_some_iff.1 h.dr.c).1
  refine turned hS hMi (h.turn (u' := u.set f { u.of f with gone := true }) (V' := V) (sb' := sb) hfr hX rfl rfl (h.dr.block (hfr.block db hdl (by omega)) (hfr.block dc hdl2 (by omega))) (hm3.congr hlv (fun t _ => rfl)) ?_ (fun t ht => ?_) (fun t ht => h.off t (hold t ht).2) (fun t x ht hx => h.inj t x (hold t ht).2 (hold x hx).2)) hM (fun t b ht hb => .inl (.inr (.inr ⟨t, (hold t ht).2, hb⟩))) hfr hX hr
  · refine (hm2.block (hg3.block mg hm2.lt fun e => ?_)).congr hgv fun t ht => ?_
    · have := Option.some.inj e; simp [this] at hnd
    · unfold updV verV Us.set updO
      by_cases e : t = f
      · subst e; simp
      · simp [e]
  · obtain ⟨e, h2⟩ := hold t ht
    have h3 := h.row (u' := u.set f { u.of f with gone := true }) (sb' := sb) h2 hfr hX (hneg t h2) hM
    rw [show (u.set f { u.of f with gone := true }).of t = u.of t from updO_ne e]
    exact h3
end
theorem remove_no {u : Us} {f : Tm} (h : u.live f = false) : remove u f = (u, 4) := by unfold remove; rw [if_pos h]
theorem remove_yes {u : Us} {f : Tm} (h : u.live f = true) : remove u f = (u.set f { u.of f with gone := true }, 0) := by unfold remove; rw [if_neg (by rw [h]; decide)]
set_option maxHeartbeats 4000000 in
set_option maxRecDepth 1000000 in
theorem remove_c (n : Nat) (a : Addr) (S M : Nat → Prop) (u : Us) (F : ByteArray) (w : World) (h : DU w a S M u) (f : Fine n u) (hn : n ≤ 200) (hF : F.size ≤ 10000) : Calls Tryz.prog 18 #[.pointer (some a), .string F] w (Turn DU a S M (remove u F.data.toList) w) := by
  obtain ⟨g, me, mg, db, dc, N, C, V, sb, rfl, h, hS, hM⟩ := h
  have c4 := h.c4
  have c5 := h.c5
  have hl := held_look h hF
  have HH := zh h
  have HS := zh (And.intro hS hM)
  have HFI := zh f
  clear h hS hM f
  cases hb : u.live F.data.toList with
  | false =>
    have HR := zh (remove_no hb)
    rw [hb] at hl
    simp only [Bool.false_eq_true, if_false, OV] at hl
    clear hb
    go_enter Tryz.func18, Tryz.ntmps18
    go_wp2_with fail
    go_ret
    exact stayed HS.out.1 HS.out.2 HH.out ((Below.refl _ w).alloc zl _) HR.out
  | true =>
    have HR := zh (remove_yes hb)
    have HB := zh hb
    rw [hb] at hl
    simp only [if_true] at hl
    obtain ⟨o, f, ep, A, m, c, B, p, d, R, T, e, ss, hv, hrest⟩ := HH.out.rows _ hb
    rw [hv] at hl
    have HV := zh hv
    have glt := HH.out.g_lt
    simp only [OV] at hl
    clear hb hv hrest
    have HGN := zh (gns_nodup HFI.out)
    have HGL : Hid (u.gns.length ≤ 1000000) := Nat.le_trans (gns_len HFI.out) (by omega)
    have HAL : ∀ V T, Hid (Below w.heap.size w (w.alloc (.cells V T))) := fun V T => (Below.refl _ w).alloc zl _
    go_enter Tryz.func18, Tryz.ntmps18
    go_wp2_with fail
    have HB1 := HAL #[.string o, .string f, .int .i64 ep, .slice A m c, .slice B p d, .int .u64 ((u.of F.data.toList).ver : Int), .string R, .slice T ss.length e, .bool false] 50
    have hx := heap_alloc_new w (.cells #[.string o, .string f, .int .i64 ep, .slice A m c, .slice B p d, .int .u64 ((u.of F.data.toList).ver : Int), .string R, .slice T ss.length e, .bool false] 50)
    generalize w.alloc (.cells #[.string o, .string f, .int .i64 ep, .slice A m c, .slice B p d, .int .u64 ((u.of F.data.toList).ver : Int), .string R, .slice T ss.length e, .bool false] 50) = w1 at HB1 hx ⊢
    have HU1 := zh (HH.out.below HB1.out)
    obtain ⟨x0, x1, x2, x3, x4, x5, x6, x7, x8, x9⟩ := bx9 (show (Frm.box _ #[_, _, _, _, _, _, _, _, _] _).P w1 from hx)
    have c4' := HU1.out.c4
    have c5' := HU1.out.c5
    clear c4 c5
    go_still_tail 7, (by kernel_rfl)
    have hnd := HU1.out.nd
    have hn4 : g ≠ mg ∧ me ≠ mg := by simp at hnd; omega
    have HN4 := zh hn4
    clear hnd hn4
    go_wp2_with (first
      | (at_mapUpdate
         refine wpList_put rfl _ _ _ rfl rfl (HU1.out.gm.block rfl) Tryz.underlying95 rfl (by omega) HGN.out (fun x => mem_gns) HGL.out rfl ?_
         intro w2 hm2 hg2 hz2
         have c4'' : w2.cell? ⟨g, 4, none⟩ = some (.map (some me)) := (World.cell?_of_block (w := w1) (w' := w2) (a := ⟨g, 4, none⟩) (hg2.block g HU1.out.g_lt fun e => HN4.out.1 (Option.some.inj e))).trans c4'
         have HME : Hid (MapIs w2 me u.live V) := HU1.out.hm.block (hg2.block me HU1.out.hm.lt fun e => HN4.out.2 (Option.some.inj e))
         have HM2 := zh hm2
         have HG2 := zh hg2
         have HZ2 := zh hz2
         clear hm2 hg2 hz2 c4' c5' x0 x1 x2 x3 x4 x5 x6 x7 x8 x9 hx)
      | (at_delete
         refine wpList_drop rfl _ _ rfl rfl HME.out Tryz.underlying94 rfl (by omega) ?_
         intro w3 hm3 hg3 hz3
         have HM3 := zh hm3
         have HG3 := zh hg3
         have HZ3 := zh hz3
         clear hm3 hg3 hz3))
    go_ret
    exact removed HH.out HS.out.1 HS.out.2 HB.out HB1.out ⟨HG2.out.os, HG2.out.tape, HG2.out.output, HG2.out.size, HG2.out.block⟩ HG3.out HM2.out HM3.out HR.out
end Go.Proofs.YtbdealddjonobaaGreat.Usr

