/-
  GENERAL FACTS: strings, memory, numbers, wire's answers as endings; of no type of the program. By an AI agent; no person has read it.
-/
import Derived.Test.YtahlilhdiklemaaWire
import Derived.WalkKit
import Derived.BigCall
import Derived.BigQuiet
import Derived.Deep.QuietTactic
import Derived.Lib.OthersKept
import Derived.Lib.Hide
import Derived.Lib.Strings
import Derived.Laws.Bits64b
import Derived.Laws.Strings
import Derived.Deep.Draws
import Derived.Maps.AppendAt
import Derived.Deep.AppendLies
import Derived.RegionTactic
import Derived.OwnWalk
import Derived.Lib.Join
import Derived.DataShut
namespace Go.Proofs.Ytahlilhdiklemaa.Wire
open Go.RowKit

theorem eq_bool {s t : ByteArray} (h : s.data.toList = t.data.toList) : (s.toList == t.toList) = true := by
  rw [Lib.toList_data, Lib.toList_data, h]; simp
theorem ne_bool {s t : ByteArray} (h : s.data.toList ≠ t.data.toList) : (s.toList == t.toList) = false := by
  rw [Lib.toList_data, Lib.toList_data]; simpa using h
theorem extract_drop (s : ByteArray) (pos : Nat) : (s.extract pos s.size).data.toList = s.data.toList.drop pos := by
  rw [Lib.extract_data, List.take_of_length_le (by rw [List.length_drop, ← Lib.size_eq]; exact Nat.le_refl _)]
theorem extract_take (s : ByteArray) (k : Nat) : (s.extract 0 k).data.toList = s.data.toList.take k := by
  rw [Lib.extract_data, List.drop_zero, Nat.sub_zero]
/-- Take's answer as an ending. -/
def Tk (x : Nat × List UInt8 × Int) (e : Ending) : Prop := ∃ R : ByteArray, R.data.toList = x.2.1 ∧ e = .returned (.tuple #[.int .u64 x.1, .string R, .int .i64 x.2.2])
theorem take_hd {s : ByteArray} (h0 : 0 < s.size) : s.data.toList = s[0] :: (s.extract 1 s.size).data.toList := by
  rw [extract_drop]
  have h1 : 0 < s.data.toList.length := by rw [← Lib.size_eq]; exact h0
  have h2 := List.drop_eq_getElem_cons h1
  rw [List.drop_zero] at h2
  exact h2
theorem head_get {s : ByteArray} (h0 : 0 < s.size) : s.data.toList.head? = some s[0] := by
  rw [take_hd h0]; rfl
theorem tk_ok {x : UInt8} {t : List UInt8} {b : Nat} (hb : x.toNat = b) (h1 : b ≤ 8) (h2 : b ≤ t.length) (h3 : b = 0 ∨ t.head? ≠ some 0) : tk (x :: t) = (val (t.take b), t.drop b, 0) := by
  subst hb
  refine tk_some ?_
  unfold take
  simp only
  rw [if_neg]
  rintro (h | h | ⟨h, h'⟩)
  · omega
  · omega
  · rcases h3 with h3 | h3
    · omega
    · exact h3 h'
theorem tk_no {x : UInt8} {t : List UInt8} {b : Nat} (hb : x.toNat = b) (h : 8 < b ∨ t.length < b ∨ (0 < b ∧ t.head? = some 0)) : tk (x :: t) = (0, [], 2) := by
  subst hb
  refine tk_none ?_
  unfold take
  simp only
  rw [if_pos h]
theorem or_add (v c : Nat) (hc : c < 256) (hv : v < 72057594037927936) : bits .or .u64 ((v : Int) * 256) (c : Int) = (v : Int) * 256 + (c : Int) := by
  have h := bits_or_u64_nat (v * 256) c (by omega) (by omega)
  have h2 : v * 256 ||| c = v * 256 + c := by
    have := Nat.two_pow_add_eq_or_of_lt (i := 8) (b := c) (by simpa using hc) v
    rw [show (2 : Nat) ^ 8 = 256 from rfl, Nat.mul_comm] at this
    exact this.symm
  rw [h2] at h
  simpa using h
theorem take_tk {l : List UInt8} : (take l = none ∧ tk l = (0, [], 2)) ∨ ∃ n r, take l = some (n, r) ∧ tk l = (n, r, 0) ∧ n < 18446744073709551616 := by
  cases h : take l with
  | none => exact .inl ⟨rfl, tk_none h⟩
  | some p => exact .inr ⟨p.1, p.2, rfl, tk_some h, (take_some h).2⟩
theorem upTo_none {l : List UInt8} {m : Int} (h : take l = none) : upTo l m = (0, [], 2) := by unfold upTo; rw [h]
theorem upTo_big {l : List UInt8} {m : Int} {n : Nat} {r : List UInt8} (h : take l = some (n, r)) (hb : max m 0 < (n : Int)) : upTo l m = (0, [], 10) := by unfold upTo; rw [h]; simp only; rw [if_pos hb]
theorem upTo_ok {l : List UInt8} {m : Int} {n : Nat} {r : List UInt8} (h : take l = some (n, r)) (hb : ¬ max m 0 < (n : Int)) : upTo l m = (n, r, 0) := by unfold upTo; rw [h]; simp only; rw [if_neg hb]
/-- TakeText's answer as an ending. -/
def Tx (x : List UInt8 × List UInt8 × Int) (e : Ending) : Prop := ∃ T R : ByteArray, T.data.toList = x.1 ∧ R.data.toList = x.2.1 ∧ e = .returned (.tuple #[.string T, .string R, .int .i64 x.2.2])
theorem text_upTo {l : List UInt8} {m : Int} {n : Nat} {r : List UInt8} {e : Int} (h : upTo l m = (n, r, e)) : (e ≠ 0 ∧ text l m = ([], [], e)) ∨ (e = 0 ∧ text l m = if r.length < n then ([], [], 2) else (r.take n, r.drop n, 0)) := by
  unfold upTo at h
  unfold text
  cases ht : take l with
  | none =>
    rw [ht] at h
    simp only [Prod.mk.injEq] at h
    exact .inl ⟨by omega, by simp [h.2.2]⟩
  | some p =>
    obtain ⟨a, b⟩ := p
    rw [ht] at h
    simp only at h ⊢
    by_cases hb : max m 0 < (a : Int)
    · rw [if_pos hb] at h ⊢
      simp only [Prod.mk.injEq] at h
      exact .inl ⟨by omega, by simp [h.2.2]⟩
    · rw [if_neg hb] at h ⊢
      simp only [Prod.mk.injEq] at h
      obtain ⟨rfl, rfl, rfl⟩ := h
      exact .inr ⟨rfl, rfl⟩
theorem upTo_err {l : List UInt8} {m : Int} {n : Nat} {r : List UInt8} {e : Int} (h : upTo l m = (n, r, e)) : e = 0 ∨ e = 2 ∨ e = 10 := by
  unfold upTo at h
  cases ht : take l with
  | none => rw [ht] at h; simp only [Prod.mk.injEq] at h; omega
  | some p =>
    rw [ht] at h
    simp only at h
    split at h <;> simp only [Prod.mk.injEq] at h <;> omega
theorem upTo_len {l : List UInt8} {m : Int} {n : Nat} {r : List UInt8} {e : Int} (h : upTo l m = (n, r, e)) : r.length ≤ l.length := by
  unfold upTo at h
  cases ht : take l with
  | none => rw [ht] at h; simp only [Prod.mk.injEq] at h; rw [← h.2.1]; simp
  | some p =>
    obtain ⟨a, b⟩ := p
    have := take_len ht
    rw [ht] at h
    simp only at h
    split at h <;> simp only [Prod.mk.injEq] at h <;> rw [← h.2.1] <;> simp
    omega
/-- A slice's elements: at each place below the length the address is one of a block that lies, and its cell holds the string. -/
def SReads (w : World) (a : Option Addr) (ys : List ByteArray) : Prop :=
  ∀ j, j < ys.length → ∃ b off, a = some ⟨b, off, none⟩ ∧ b < w.heap.size ∧ w.cell? ⟨b, off + j, none⟩ = some (.string (ys.getD j ByteArray.empty))
theorem SReads.below {w w' : World} {B : Nat} {a : Option Addr} {ys : List ByteArray} (h : SReads w a ys) (hb : Below B w w') (hB : w.heap.size ≤ B) : SReads w' a ys := fun j hj => by
  obtain ⟨b, off, e, hlt, hc⟩ := h j hj
  exact ⟨b, off, e, Nat.lt_of_lt_of_le hlt hb.size, by rw [hb.cell (p := ⟨b, off + j, none⟩) (Nat.lt_of_lt_of_le hlt hB)]; exact hc⟩
theorem SReads.nil (w : World) (a : Option Addr) : SReads w a [] := fun j hj => by simp at hj
/-- What the frame tells of a slice of strings that came in. -/
theorem sreads_of {w : World} {a : Option Addr} {len cap : Nat} {zs : List ByteArray}
    (h : (a = none ∧ len = 0 ∧ cap = 0 ∧ zs = []) ∨ ∃ x, a = some x ∧ len ≤ cap ∧ cap ≤ maxLen ∧ zs.length = cap ∧ (∀ i, i < zs.length → w.cell? (x.add i) = some (.string (zs.getD i ByteArray.empty))) ∧ ∀ s ∈ zs, s.size ≤ maxLen) :
    ∃ ys : List ByteArray, ys.length = len ∧ len ≤ cap ∧ cap ≤ maxLen ∧ SReads w a ys ∧ ∀ s ∈ ys, s.size ≤ maxLen := by
  rcases h with ⟨rfl, rfl, rfl, rfl⟩ | ⟨x, rfl, h1, h2, h3, h4, h5⟩
  · exact ⟨[], rfl, Nat.le_refl _, Nat.zero_le _, fun j hj => by simp at hj, fun n hn => by simp at hn⟩
  · refine ⟨zs.take len, by rw [List.length_take]; omega, h1, h2, fun j hj => ?_, fun n hn => h5 n (List.mem_of_mem_take hn)⟩
    rw [List.length_take] at hj
    have c0 := h4 0 (by omega)
    have cj := h4 j (by omega)
    obtain ⟨b, off, sp⟩ := x
    have hb : sp = none ∧ b < w.heap.size := by
      have e0 : (⟨b, off, sp⟩ : Addr).add 0 = ⟨b, off, sp⟩ := by simp [Addr.add]
      rw [e0] at c0
      unfold World.cell? at c0
      simp only at c0
      split at c0
      · rename_i h0
        refine ⟨?_, (Array.getElem?_eq_some_iff.1 h0).1⟩
        cases sp with
        | none => rfl
        | some q => simp at c0
      · cases c0
    obtain ⟨rfl, hlt⟩ := hb
    refine ⟨b, off, rfl, hlt, ?_⟩
    have e : (⟨b, off, none⟩ : Addr).add j = ⟨b, off + j, none⟩ := by
      unfold Addr.add
      split
      · rename_i h0; rw [h0]; rfl
      · rfl
    rw [e] at cj
    rw [cj]
    simp only [List.getD, List.getElem?_take_of_lt (show j < len by omega)]
/-- A row of the call's own, read. -/
theorem sreads_own {w : World} {base : Nat} {e : TypeId} {a : Option Addr} {n c : Nat} {ys : List ByteArray} (h : w.ownsRow base e 1 (.slice a n c) n (ys.map Value.string)) : SReads w a ys ∧ ys.length = n ∧ n ≤ c := by
  obtain ⟨h1, h2⟩ := h
  rw [List.length_map, Nat.mul_one] at h1
  rcases h2 with ⟨hv, rfl⟩ | ⟨g, cap, cur, hv, hg, hh, hn, hm, hs, ht⟩
  · injection hv with e1 e2 e3
    subst e1 e3
    obtain rfl := List.eq_nil_of_length_eq_zero h1
    exact ⟨SReads.nil _ _, rfl, Nat.le_refl _⟩
  · injection hv with e1 e2 e3
    subst e1 e3
    refine ⟨fun j hj => ⟨g, 0, rfl, (Array.getElem?_eq_some_iff.1 hh).1, ?_⟩, h1, hn⟩
    have hc : w.cell? ⟨g, 0 + j, none⟩ = cur[0 + j]? := cell_of_row w g (0 + j) cur e (0, 0) hh
    rw [hc, Nat.zero_add, ← Array.getElem?_toList]
    have hjn : j < n := by omega
    have : (cur.toList.take (n * 1))[j]? = cur.toList[j]? := List.getElem?_take_of_lt (by omega)
    rw [← this, ht]
    simp [List.getD, hj]
theorem bcell {W w1 : World} {B : Nat} (hb : Below B W w1) : (∀ b o, b < B → w1.cell? ⟨b, o, none⟩ = W.cell? ⟨b, o, none⟩) ∧ (∀ b o, b < B → w1.frozen? ⟨b, o, none⟩ = W.frozen? ⟨b, o, none⟩) :=
  ⟨fun b o h => hb.cell (p := ⟨b, o, none⟩) h, fun b o h => hb.frozen (p := ⟨b, o, none⟩) h⟩
theorem bdrew {B : Nat} (w : World) (n : Nat) : Below B w (w.drewN n) := ⟨rfl, rfl, rfl, Nat.le_refl _, fun _ _ => rfl⟩
theorem Below.drewN' {B : Nat} {a w : World} (h : Below B a w) (n : Nat) : Below B a (w.drewN n) := ⟨h.os, h.tape, h.output, h.size, h.block⟩
def cat (ys : List ByteArray) : List UInt8 := ys.flatMap (·.data.toList)
theorem join_cat (ys : List ByteArray) : Lib.join (ys.map (·.data.toList)) [] = cat ys := by
  cases ys with
  | nil => rfl
  | cons y r =>
    rw [List.map_cons, Lib.join_cons]
    simp [Lib.joinTail, cat, List.flatMap]
    rfl
/-- A string as an ending, by its bytes. -/
def St (l : List UInt8) (e : Ending) : Prop := ∃ T : ByteArray, T.data.toList = l ∧ e = .returned (.string T)
/-- A byte in a cell. -/
def by8 (b : UInt8) : Value := .int .u8 (b.toNat : Int)
theorem add_none (b o j : Nat) : (⟨b, o, none⟩ : Addr).add j = ⟨b, o + j, none⟩ := by
  unfold Addr.add
  split
  · rename_i h0; rw [h0]; rfl
  · rfl
theorem put_size {n : Nat} {T : ByteArray} (h : T.data.toList = put n) (hn : n < 18446744073709551616) : T.size ≤ 9 := by
  rw [Lib.size_eq, h]; exact (put_le hn).2
def sv (ys : List ByteArray) : List Value := ys.map Value.string
theorem sv_one (ys : List ByteArray) : ∀ u ∈ sv ys, u.oneCell' = true := fun u hu => by
  obtain ⟨y, _, rfl⟩ := List.mem_map.1 hu
  rfl
/-- The texts of a row, as bytes. -/
def bl (ys : List ByteArray) : List (List UInt8) := ys.map (·.data.toList)
theorem own_below {w w' : World} {base : Nat} {e : TypeId} {size n : Nat} {v : Value} {xs : List Value} {B : Nat} (h : w.ownsRow base e size v n xs) (hb : Below B w w') (hB : w.heap.size ≤ B) : w'.ownsRow base e size v n xs :=
  h.kept (row := none) ⟨hb.os, hb.tape, hb.output, hb.size, fun k hk _ => hb.block k (by omega)⟩ (by
    cases hv : v.ownBlock with
    | none => exact .inl rfl
    | some k => exact .inr (by simp))
/-- A new one-element (or more) row, read at its cells. -/
theorem lit_cells (W : World) (cs : Array Value) (t : TypeId) : ∀ j u, cs.toList[j]? = some u → (W.alloc (.cells cs t)).cell? ((⟨W.heap.size, 0, none⟩ : Addr).add j) = some u := fun j u hu => by
  rw [add_none, Nat.zero_add]
  have h : (W.alloc (.cells cs t)).cell? ⟨W.heap.size, j, none⟩ = cs[j]? := cell_of_row _ _ _ _ _ (0, 0) (heap_alloc_new W _)
  rw [h, ← Array.getElem?_toList]; exact hu
theorem flat_len (ls : List (List UInt8)) (h : ∀ l ∈ ls, l.length ≤ 140737488355328) : (ls.flatMap putText).length ≤ 9 * ls.length + ls.flatten.length := by
  induction ls with
  | nil => simp
  | cons l ls ih =>
    have h1 := h l (by simp)
    have h2 := (put_le (n := l.length) (by omega)).2
    have := ih fun x hx => h x (by simp [hx])
    simp only [List.flatMap_cons, List.length_append, List.length_cons, List.flatten_cons, putText_len]
    omega
theorem bl_at {ys : List ByteArray} {k : Nat} {y : ByteArray} (hk : k < ys.length) (hy : ys.getD k ByteArray.empty = y) : y.size ≤ (bl ys).flatten.length := by
  have e : ys[k] = y := by rw [← hy]; simp [List.getD, hk]
  rw [Lib.size_eq]
  have hm : y.data.toList ∈ bl ys := List.mem_map.2 ⟨y, by rw [← e]; exact List.getElem_mem hk, rfl⟩
  have key : ∀ (ls : List (List UInt8)) (x : List UInt8), x ∈ ls → x.length ≤ ls.flatten.length := by
    intro ls x hx
    induction ls with
    | nil => cases hx
    | cons l ls ih =>
      rw [List.flatten_cons, List.length_append]
      rcases List.mem_cons.1 hx with rfl | hx
      · omega
      · have := ih hx; omega
  exact key _ _ hm
theorem bl_each {ys : List ByteArray} : ∀ l ∈ bl ys, l.length ≤ (bl ys).flatten.length := fun l hl => by
  obtain ⟨y, hy, rfl⟩ := List.mem_map.1 hl
  obtain ⟨k, hk, rfl⟩ := List.mem_iff_getElem.1 hy
  have := bl_at (y := ys[k]) hk (by simp [List.getD, hk])
  rw [Lib.size_eq] at this
  exact this
theorem bl_len (ys : List ByteArray) : (bl ys).length = ys.length := by simp [bl]
/-- TakeAll's answer as an ending: a list that can be read, and the error. -/
def Ta (x : List (List UInt8) × Int) (e : Ending) (w' : World) : Prop := ∃ (A : Option Addr) (c : Nat) (ys : List ByteArray), bl ys = x.1 ∧ ys.length ≤ c ∧ SReads w' A ys ∧ e = .returned (.tuple #[.slice A ys.length c, .int .i64 x.2])
theorem ta_nil (f : Int) (w' : World) : Ta ([], f) (.returned (.tuple #[.slice none 0 0, .int .i64 f])) w' := ⟨none, 0, [], rfl, Nat.le_refl _, SReads.nil _ _, rfl⟩
theorem all_upTo {l : List UInt8} {a b : Int} {n : Nat} {r : List UInt8} {f : Int} (h : upTo l a = (n, r, f)) :
    (f ≠ 0 ∧ all l a b = ([], f)) ∨ (f = 0 ∧ take l = some (n, r) ∧ (n : Int) ≤ max a 0 ∧ n < 18446744073709551616 ∧ r.length < l.length) := by
  rcases take_tk (l := l) with ⟨h1, _⟩ | ⟨x, y, h1, _, h2⟩
  · rw [upTo_none h1] at h
    simp only [Prod.mk.injEq] at h
    obtain ⟨_, _, rfl⟩ := h
    exact .inl ⟨by decide, all_none h1⟩
  · by_cases hb : max a 0 < (x : Int)
    · rw [upTo_big h1 hb] at h
      simp only [Prod.mk.injEq] at h
      obtain ⟨_, _, rfl⟩ := h
      exact .inl ⟨by decide, all_big h1 hb⟩
    · rw [upTo_ok h1 hb] at h
      simp only [Prod.mk.injEq] at h
      obtain ⟨rfl, rfl, rfl⟩ := h
      exact .inr ⟨rfl, h1, by omega, h2, (take_len h1).1⟩
theorem own_value {w : World} {base : Nat} {e : TypeId} {size n : Nat} {v : Value} {xs : List Value} (h : w.ownsRow base e size v n xs) : ∃ A c, v = .slice A n c := by
  rcases h.2 with ⟨rfl, rfl⟩ | ⟨g, cap, _, rfl, _⟩
  · exact ⟨none, 0, rfl⟩
  · exact ⟨_, cap, rfl⟩
theorem nat_u64 {a : Int} (h : (Lit.int .u64 a).wf = true) : ∃ n : Nat, a = (n : Int) ∧ n < 18446744073709551616 := by
  rw [Lit.wf_int_iff] at h
  have e1 : IntKind.u64.min = 0 := by decide
  have e2 : IntKind.u64.max = 18446744073709551615 := by decide
  rw [e1, e2] at h
  exact ⟨a.toNat, by omega, by omega⟩
theorem int_i64 {a : Int} (h : (Lit.int .i64 a).wf = true) : -9223372036854775808 ≤ a ∧ a ≤ 9223372036854775807 := by
  rw [Lit.wf_int_iff] at h
  have e1 : IntKind.i64.min = -9223372036854775808 := by decide
  have e2 : IntKind.i64.max = 9223372036854775807 := by decide
  rw [e1, e2] at h
  exact h
theorem ret_bool {a b : Bool} (h : a = b) : Ending.returned (.bool a) = .returned (.bool b) := by rw [h]
theorem take_mem_step {ys : List ByteArray} {k : Nat} {y : ByteArray} {p : ByteArray → Prop} (hk : k < ys.length) (hy : ys.getD k ByteArray.empty = y) (h : ∀ x ∈ ys.take k, p x) (hp : p y) : ∀ x ∈ ys.take (k + 1), p x := by
  have e : ys[k] = y := by rw [← hy]; simp [List.getD, hk]
  rw [List.take_succ_eq_append_getElem hk, e]
  intro x hx
  rcases List.mem_append.1 hx with hx | hx
  · exact h x hx
  · rw [List.mem_singleton.1 hx]; exact hp
theorem getD_mem {ys : List ByteArray} {k : Nat} {y : ByteArray} (hk : k < ys.length) (hy : ys.getD k ByteArray.empty = y) : y ∈ ys := by
  have e : ys[k] = y := by rw [← hy]; simp [List.getD, hk]
  rw [← e]; exact List.getElem_mem hk
theorem bl_take_step {xs ys : List ByteArray} {k : Nat} {x y : ByteArray} (hx : k < xs.length) (hy : k < ys.length) (ex : xs.getD k ByteArray.empty = x) (ey : ys.getD k ByteArray.empty = y)
    (h : bl (xs.take k) = bl (ys.take k)) (he : x.data.toList = y.data.toList) : bl (xs.take (k + 1)) = bl (ys.take (k + 1)) := by
  have e1 : xs[k] = x := by rw [← ex]; simp [List.getD, hx]
  have e2 : ys[k] = y := by rw [← ey]; simp [List.getD, hy]
  rw [List.take_succ_eq_append_getElem hx, List.take_succ_eq_append_getElem hy, e1, e2]
  simp only [bl, List.map_append] at h ⊢
  rw [h]
  simp [he]
theorem bl_differ {xs ys : List ByteArray} {k : Nat} {x y : ByteArray} (hx : k < xs.length) (hy : k < ys.length) (ex : xs.getD k ByteArray.empty = x) (ey : ys.getD k ByteArray.empty = y)
    (he : x.data.toList ≠ y.data.toList) : bl xs ≠ bl ys := fun h => by
  have e1 : xs[k] = x := by rw [← ex]; simp [List.getD, hx]
  have e2 : ys[k] = y := by rw [← ey]; simp [List.getD, hy]
  have h1 := congrArg (·[k]?) h
  simp only [bl, List.getElem?_map, List.getElem?_eq_getElem hx, List.getElem?_eq_getElem hy, Option.map_some, e1, e2] at h1
  exact he (Option.some.inj h1)
theorem app_data (a b : ByteArray) : (a ++ b).data.toList = a.data.toList ++ b.data.toList := by
  show (a.append b).data.toList = _
  simp
theorem flat_le (ls : List (List UInt8)) : ls.flatten.length ≤ (ls.flatMap putText).length := by
  induction ls with
  | nil => simp
  | cons l ls ih =>
    simp only [List.flatMap_cons, List.length_append, List.flatten_cons, putText_len]
    omega
theorem len_le (ls : List (List UInt8)) : ls.length ≤ (ls.flatMap putText).length := by
  induction ls with
  | nil => simp
  | cons l ls ih =>
    simp only [List.flatMap_cons, List.length_append, List.length_cons, putText_len, put_len]
    omega
theorem empty_str {s : ByteArray} (h : s.data.toList = []) : s.toList.isEmpty = true := by rw [Lib.toList_data, h]; rfl
theorem nonempty_str {s : ByteArray} (h : s.data.toList ≠ []) : s.toList.isEmpty = false := by
  rw [Lib.toList_data]
  cases h2 : s.data.toList with
  | nil => exact absurd h2 h
  | cons x t => rfl
theorem by8_one (D : List UInt8) : ∀ u ∈ D.map by8, u.oneCell' = true := fun u hu => by
  obtain ⟨y, _, rfl⟩ := List.mem_map.1 hu
  rfl
theorem by8_nat (k : Nat) : by8 (k % 256).toUInt8 = .int .u8 ((k : Int) % 256) := by rw [by8, u8_nat _ (by omega)]; simp
theorem bl_drop {ys : List ByteArray} {k : Nat} {y : ByteArray} (hk : k < ys.length) (hy : ys.getD k ByteArray.empty = y) : bl (ys.drop k) = y.data.toList :: bl (ys.drop (k + 1)) := by
  have e : ys[k] = y := by rw [← hy]; simp [List.getD, hk]
  rw [List.drop_eq_getElem_cons hk, e]; rfl
theorem all_put {ls : List (List UInt8)} {a m : Int} {q : List UInt8} (hn : (ls.length : Int) ≤ max a 0) (hn2 : ls.length < 18446744073709551616) (hm : ∀ t ∈ ls, t.length < 18446744073709551616 ∧ (t.length : Int) ≤ max m 0) :
    all (putAll ls ++ q) a m = if q = [] then (ls, 0) else ([], 2) := by
  have ht : take (putAll ls ++ q) = some (ls.length, ls.flatMap putText ++ q) := by
    rw [putAll, List.append_assoc, take_put hn2]
  have hx := texts_put ls q m [] hm
  rw [List.nil_append] at hx
  by_cases hq : q = []
  · rw [if_pos hq]
    subst hq
    exact all_ok ht hn hx
  · rw [if_neg hq]
    exact all_left ht hn hx hq
end Go.Proofs.Ytahlilhdiklemaa.Wire
