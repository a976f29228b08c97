/-
  T2. By an AI agent.
-/
import Derived.Test.YtbdealddjonobaaGreatYZ
import Derived.Test.YtbdealddjonobaaGreatYT1
import Derived.Test.YtbdealddjonobaaGreatYW1
import Derived.Test.YtbdealddjonobaaGreatYW0
namespace Go.Proofs.YtbdealddjonobaaGreat.Term
open Go.RowKit Wire

end Go.Proofs.YtbdealddjonobaaGreat.Term

namespace Go.Proofs.YtbdealddjonobaaGreat.Term
open Go.RowKit Wire

def Shp (l : List UInt8) (v : Value) : Prop :=
  (∃ n : Nat, n < 18446744073709551616 ∧ l = 97 :: put n ∧ v = .iface 237 (.agg #[.int .u64 n])) ∨
  (∃ W : ByteArray, W.size ≤ 4000 ∧ l = 116 :: putText W.data.toList ∧ v = .iface 239 (.agg #[.string W])) ∨
  (∃ P : ByteArray, right P.data.toList = true ∧ l = 104 :: P.data.toList ∧ v = .iface 241 (.agg #[.string P])) ∨
  (∃ P : ByteArray, right P.data.toList = true ∧ l = 117 :: P.data.toList ∧ v = .iface 168 (.agg #[.string P])) ∨
  (∃ P Q : ByteArray, (right P.data.toList = true ∧ right Q.data.toList = true) ∧ l = 112 :: (P.data.toList ++ Q.data.toList) ∧ v = .iface 243 (.agg #[.string P, .string Q])) ∨
  (∃ P Q : ByteArray, (right P.data.toList = true ∧ right Q.data.toList = true) ∧ l = 115 :: (P.data.toList ++ Q.data.toList) ∧ v = .iface 245 (.agg #[.string P, .string Q])) ∨
  (∃ P Q : ByteArray, (right P.data.toList = true ∧ right Q.data.toList = true) ∧ l = 103 :: (P.data.toList ++ Q.data.toList) ∧ v = .iface 171 (.agg #[.string P, .string Q])) ∨
  (∃ P Q : ByteArray, (right P.data.toList = true ∧ right Q.data.toList = true ∧ P.data.toList.head? = some 117) ∧ l = 98 :: (P.data.toList ++ Q.data.toList) ∧ v = .iface 175 (.agg #[.string P, .string Q]))
theorem Shp.atom (n : Nat) (hn : n < 18446744073709551616) : Shp (97 :: put n) (.iface 237 (.agg #[.int .u64 n])) := .inl ⟨n, hn, rfl, rfl⟩
theorem Shp.text (W : ByteArray) (h : W.size ≤ 4000) : Shp (116 :: putText W.data.toList) (.iface 239 (.agg #[.string W])) := .inr (.inl ⟨W, h, rfl, rfl⟩)
theorem Shp.hash (P : ByteArray) (h : right P.data.toList = true) : Shp (104 :: P.data.toList) (.iface 241 (.agg #[.string P])) := .inr (.inr (.inl ⟨P, h, rfl, rfl⟩))
theorem Shp.pub (P : ByteArray) (h : right P.data.toList = true) : Shp (117 :: P.data.toList) (.iface 168 (.agg #[.string P])) := .inr (.inr (.inr (.inl ⟨P, h, rfl, rfl⟩)))
theorem Shp.pair (P Q : ByteArray) (h : right P.data.toList = true) (h2 : right Q.data.toList = true) : Shp (112 :: (P.data.toList ++ Q.data.toList)) (.iface 243 (.agg #[.string P, .string Q])) := .inr (.inr (.inr (.inr (.inl ⟨P, Q, ⟨h, h2⟩, rfl, rfl⟩))))
theorem Shp.sealed (P Q : ByteArray) (h : right P.data.toList = true) (h2 : right Q.data.toList = true) : Shp (115 :: (P.data.toList ++ Q.data.toList)) (.iface 245 (.agg #[.string P, .string Q])) := .inr (.inr (.inr (.inr (.inr (.inl ⟨P, Q, ⟨h, h2⟩, rfl, rfl⟩)))))
theorem Shp.signed (P Q : ByteArray) (h : right P.data.toList = true) (h2 : right Q.data.toList = true) : Shp (103 :: (P.data.toList ++ Q.data.toList)) (.iface 171 (.agg #[.string P, .string Q])) := .inr (.inr (.inr (.inr (.inr (.inr (.inl ⟨P, Q, ⟨h, h2⟩, rfl, rfl⟩))))))
theorem Shp.boxed (P Q : ByteArray) (h : right P.data.toList = true) (h2 : right Q.data.toList = true) (h3 : P.data.toList.head? = some 117) : Shp (98 :: (P.data.toList ++ Q.data.toList)) (.iface 175 (.agg #[.string P, .string Q])) := .inr (.inr (.inr (.inr (.inr (.inr (.inr ⟨P, Q, ⟨h, h2, h3⟩, rfl, rfl⟩))))))
theorem Shp.head {l : List UInt8} {T : TypeId} {a : Value} (h : Shp l (.iface T a)) : (T = 168 ∧ l.head? = some 117) ∨ (T ≠ 168 ∧ l.head? ≠ some 117) := by
 rcases h with ⟨_, _, hl, h⟩ | ⟨_, _, hl, h⟩ | ⟨_, _, hl, h⟩ | ⟨_, _, hl, h⟩ | ⟨_, _, _, hl, h⟩ | ⟨_, _, _, hl, h⟩ | ⟨_, _, _, hl, h⟩ | ⟨_, _, _, hl, h⟩
 case inr.inr.inr.inl => injection h with h1 _; exact .inl ⟨h1, by rw [hl]; rfl⟩
 all_goals (injection h with h1 _; exact .inr ⟨by rw [h1]; decide, by rw [hl]; simp⟩)

theorem nil_no (w : World) (T : TypeId) (a : Value) : (binOp .eql 163 (.iface T a) .nilIface).run Tryz.prog w = .ok (.bool false) w := by kernel_rfl
theorem nil_yes (w : World) : (binOp .eql 163 .nilIface .nilIface).run Tryz.prog w = .ok (.bool true) w := by kernel_rfl
theorem zero_publicOne (w : World) : (do pure (Value.tuple #[← zeroValue 168, .bool false]) : Sem Value).run Tryz.prog w = .ok (.tuple #[.agg #[.string ⟨#[]⟩], .bool false]) w := by kernel_rfl
theorem is_publicOne (v : Value) (w : World) : (Instr.typeAssert (.iface 168 v) 163 168 true).run Tryz.prog w = .ok (.tuple #[v, .bool true]) w := by kernel_rfl
theorem no_publicOne (u : TypeId) (v : Value) (w : World) (h : u ≠ 168) : (Instr.typeAssert (.iface u v) 163 168 true).run Tryz.prog w = .ok (.tuple #[.agg #[.string ⟨#[]⟩], .bool false]) w := by
 have e : (Instr.typeAssert (.iface u v) 163 168 true).run Tryz.prog w = (if u = 168 then (pure (Value.tuple #[v, .bool true]) : Sem Value) else (do pure (Value.tuple #[← zeroValue 168, .bool false]))).run Tryz.prog w := by kernel_rfl
 rw [e, if_neg h]
 exact zero_publicOne w
theorem nil_publicOne (w : World) : (Instr.typeAssert .nilIface 163 168 true).run Tryz.prog w = .ok (.tuple #[.agg #[.string ⟨#[]⟩], .bool false]) w := by kernel_rfl
theorem zero_boxed (w : World) : (do pure (Value.tuple #[← zeroValue 175, .bool false]) : Sem Value).run Tryz.prog w = .ok (.tuple #[.agg #[.string ⟨#[]⟩, .string ⟨#[]⟩], .bool false]) w := by kernel_rfl
theorem is_boxed (v : Value) (w : World) : (Instr.typeAssert (.iface 175 v) 163 175 true).run Tryz.prog w = .ok (.tuple #[v, .bool true]) w := by kernel_rfl
theorem no_boxed (u : TypeId) (v : Value) (w : World) (h : u ≠ 175) : (Instr.typeAssert (.iface u v) 163 175 true).run Tryz.prog w = .ok (.tuple #[.agg #[.string ⟨#[]⟩, .string ⟨#[]⟩], .bool false]) w := by
 have e : (Instr.typeAssert (.iface u v) 163 175 true).run Tryz.prog w = (if u = 175 then (pure (Value.tuple #[v, .bool true]) : Sem Value) else (do pure (Value.tuple #[← zeroValue 175, .bool false]))).run Tryz.prog w := by kernel_rfl
 rw [e, if_neg h]
 exact zero_boxed w
theorem zero_signed (w : World) : (do pure (Value.tuple #[← zeroValue 171, .bool false]) : Sem Value).run Tryz.prog w = .ok (.tuple #[.agg #[.string ⟨#[]⟩, .string ⟨#[]⟩], .bool false]) w := by kernel_rfl
theorem is_signed (v : Value) (w : World) : (Instr.typeAssert (.iface 171 v) 163 171 true).run Tryz.prog w = .ok (.tuple #[v, .bool true]) w := by kernel_rfl
theorem no_signed (u : TypeId) (v : Value) (w : World) (h : u ≠ 171) : (Instr.typeAssert (.iface u v) 163 171 true).run Tryz.prog w = .ok (.tuple #[.agg #[.string ⟨#[]⟩, .string ⟨#[]⟩], .bool false]) w := by
 have e : (Instr.typeAssert (.iface u v) 163 171 true).run Tryz.prog w = (if u = 171 then (pure (Value.tuple #[v, .bool true]) : Sem Value) else (do pure (Value.tuple #[← zeroValue 171, .bool false]))).run Tryz.prog w := by kernel_rfl
 rw [e, if_neg h]
 exact zero_signed w
end Go.Proofs.YtbdealddjonobaaGreat.Term

namespace Go.Proofs.YtbdealddjonobaaGreat.Term
open Go.RowKit Wire

def Ans (k : UInt8) (t : List UInt8) : Option Nat → Ending → Prop
  | none, e => e = .returned (.tuple #[.nilIface, .string ⟨#[]⟩])
  | some n, e => ∃ (T : TypeId) (a : Value) (R : ByteArray), Shp (k :: t.take n) (.iface T a) ∧ R.data.toList = t.drop n ∧ e = .returned (.tuple #[.iface T a, .string R])
def Tks (l : List UInt8) (n : Nat) (e : Ending) : Prop :=
  (n = 0 ∧ e = .returned (.tuple #[.nilIface, .string ⟨#[]⟩])) ∨
  (n ≠ 0 ∧ ∃ (T : TypeId) (a : Value) (R : ByteArray), Shp (l.take n) (.iface T a) ∧ R.data.toList = l.drop n ∧ e = .returned (.tuple #[.iface T a, .string R]))
theorem Ans.tks {k : UInt8} {t : List UInt8} {o : Option Nat} {e : Ending} (h : Ans k t o e) : Tks (k :: t) (up o) e := by
 cases o with
 | none => exact .inl ⟨rfl, h⟩
 | some n =>
  obtain ⟨T, a, R, h1, h2, h3⟩ := h
  refine .inr ⟨by simp [up], T, a, R, ?_, ?_, h3⟩
  · rw [show up (some n) = n + 1 by simp [up]; omega, List.take_succ_cons]; exact h1
  · rw [show up (some n) = n + 1 by simp [up]; omega, List.drop_succ_cons]; exact h2

set_option maxHeartbeats 1000000 in
theorem takeAtom_any (s : ByteArray) (w : World) (hs : s.size ≤ 4000) :
  Calls Tryz.prog 193 #[.string s] w fun e w' => Ans 97 s.data.toList (leaf 97 s.data.toList) e ∧ Below w.heap.size w w' := by
 have hl : leaf 97 s.data.toList = (take s.data.toList).map fun p => s.data.toList.length - p.2.length := by unfold leaf; rw [if_pos rfl]
 rcases take_tk (l := s.data.toList) with ⟨h1, h2⟩ | ⟨n, r, h1, h2, hn⟩
 ·
  have H2 := zh h2
  have hm : leaf 97 s.data.toList = none := by rw [hl, h1]; rfl
  rw [hm]
  clear hl h1 h2 hm
  go_enter Tryz.func193, Tryz.ntmps193
  go_wp2_with (go_at_call 209; refine (take_bel s _ (by omega)).mono ?_; rw [H2.out]; rintro e w1 ⟨⟨R, hR, rfl⟩, hb1⟩; have HB1 := zh hb1; clear hb1 hR; dsimp only)
  go_ret2
  exact ⟨rfl, HB1.out⟩
 ·
  have H2 := zh h2
  obtain ⟨hp, _⟩ := take_some h1
  have hm : leaf 97 s.data.toList = some (put n).length := by rw [hl, h1, hp]; simp
  rw [hm, hp]
  clear hl h1 h2 hm hp
  go_enter Tryz.func193, Tryz.ntmps193
  go_wp2_with (go_at_call 209; refine (take_bel s _ (by omega)).mono ?_; rw [H2.out]; rintro e w1 ⟨⟨R, hR, rfl⟩, hb1⟩; have HB1 := zh hb1; have HR := zh hR; clear hb1 hR; dsimp only)
  go_ret2
  refine ⟨⟨_, _, R, ?_, by rw [List.drop_left]; exact HR.out, rfl⟩, HB1.out⟩
  rw [List.take_left]; exact .atom n hn
set_option maxHeartbeats 1000000 in
theorem takeText_any (s : ByteArray) (w : World) (hs : s.size ≤ 4000) :
  Calls Tryz.prog 194 #[.string s] w fun e w' => Ans 116 s.data.toList (leaf 116 s.data.toList) e ∧ Below w.heap.size w w' := by
 have hl : leaf 116 s.data.toList = if (text s.data.toList 4000).2.2 = 0 then some (s.data.toList.length - (text s.data.toList 4000).2.1.length) else none := by unfold leaf; rw [if_neg (by decide)]
 rcases text_cases s.data.toList 4000 with h | h | ⟨t, r, h, hp, ht, hm4⟩
 ·
  have H2 := zh h
  have hm : leaf 116 s.data.toList = none := by rw [hl, h]; rfl
  rw [hm]
  clear hl h hm
  go_enter Tryz.func194, Tryz.ntmps194
  go_wp2_with (go_at_call 210; refine (text_bel s 4000 _ (by omega) (by omega)).mono ?_; rw [H2.out]; rintro e w1 ⟨⟨X, R, hX, hR, rfl⟩, hb1⟩; have HB1 := zh hb1; clear hb1 hR hX; dsimp only)
  go_ret2
  exact ⟨rfl, HB1.out⟩
 ·
  have H2 := zh h
  have hm : leaf 116 s.data.toList = none := by rw [hl, h]; rfl
  rw [hm]
  clear hl h hm
  go_enter Tryz.func194, Tryz.ntmps194
  go_wp2_with (go_at_call 210; refine (text_bel s 4000 _ (by omega) (by omega)).mono ?_; rw [H2.out]; rintro e w1 ⟨⟨X, R, hX, hR, rfl⟩, hb1⟩; have HB1 := zh hb1; clear hb1 hR hX; dsimp only)
  go_ret2
  exact ⟨rfl, HB1.out⟩
 ·
  have H2 := zh h
  have hm : leaf 116 s.data.toList = some (putText t).length := by rw [hl, h, hp]; simp
  rw [hm, hp]
  have HM := zh hm4
  clear hl h hm hp hm4 ht
  go_enter Tryz.func194, Tryz.ntmps194
  go_wp2_with (go_at_call 210; refine (text_bel s 4000 _ (by omega) (by omega)).mono ?_; rw [H2.out]; rintro e w1 ⟨⟨X, R, hX, hR, rfl⟩, hb1⟩; have HB1 := zh hb1; have HR := zh hR; have HX := zh hX; clear hb1 hR hX; dsimp only)
  go_ret2
  refine ⟨⟨_, _, R, ?_, by rw [List.drop_left]; exact HR.out, rfl⟩, HB1.out⟩
  rw [List.take_left]
  have e : t = X.data.toList := HX.out.symm
  rw [e]
  exact .text X (by have := HM.out; rw [e, ← Lib.size_eq] at this; omega)
theorem Tks.zero {l : List UInt8} {n : Nat} {e : Ending} (h : Tks l n e) (h0 : n = 0) : e = .returned (.tuple #[.nilIface, .string ⟨#[]⟩]) := by
 rcases h with ⟨_, h⟩ | ⟨h, _⟩
 · exact h
 · exact absurd h0 h
theorem Tks.pos {l : List UInt8} {n : Nat} {e : Ending} (h : Tks l n e) (h0 : n ≠ 0) : ∃ (T : TypeId) (a : Value) (R : ByteArray), Shp (l.take n) (.iface T a) ∧ R.data.toList = l.drop n ∧ e = .returned (.tuple #[.iface T a, .string R]) := by
 rcases h with ⟨h, _⟩ | ⟨_, h⟩
 · exact absurd h h0
 · exact h
def TakeAt (d : Nat) : Prop := ∀ (s : ByteArray) (w : World), s.size ≤ 4000 → Calls Tryz.prog 175 #[.string s, .int .i64 (d : Int)] w fun e w' => Tks s.data.toList (size d s.data.toList) e ∧ Below w.heap.size w w'
theorem rest_size {s R : ByteArray} {n : Nat} (hR : R.data.toList = s.data.toList.drop n) : R.size = s.size - n := by
 rw [Lib.size_eq, hR, List.length_drop, ← Lib.size_eq]
theorem part_right {d n : Nat} {s : ByteArray} (hd : d ≤ 40) (hs : s.size ≤ 4000) (hn : size d s.data.toList = n) (h0 : n ≠ 0) : right (s.extract 0 n).data.toList = true := by
 have h1 := size_mono hd (l := s.data.toList) (by rw [hn]; exact h0)
 rw [extract_take, ← hn, ← h1]
 exact right_take (by rw [h1, hn]; exact h0) (by have := size_le 40 s.data.toList; rw [← Lib.size_eq] at this; omega)

set_option maxHeartbeats 1000000 in
theorem takeOneHash (d : Nat) (ih : TakeAt d) (s : ByteArray) (w : World) (hd : d ≤ 40) (hs : s.size ≤ 4000) :
  Calls Tryz.prog 195 #[.int .u8 104, .string s, .int .i64 (d : Int)] w fun e w' => Ans 104 s.data.toList (sizes (size d) 1 s.data.toList) e ∧ Below w.heap.size w w' := by
 have IH := zh ih
 have q0 := nil_no
 have q1 := nil_yes
 obtain ⟨n, hn⟩ : ∃ n, size d s.data.toList = n := ⟨_, rfl⟩
 have HN := zh hn
 by_cases h0 : n = 0
 ·
  have hm : sizes (size d) 1 s.data.toList = none := by unfold sizes; rw [if_pos (by rw [hn]; exact h0)]
  rw [hm]
  have H0 := zh h0
  clear hm ih hn h0
  go_enter Tryz.func195, Tryz.ntmps195
  go_wp2_with (go_at_call 175; refine (IH.out s _ hs).mono ?_; rw [HN.out]; rintro e w1 ⟨ht, hb1⟩; obtain rfl := ht.zero H0.out; have HB1 := zh hb1; clear hb1 ht; dsimp only)
  go_ret2
  exact ⟨rfl, HB1.out⟩
 ·
  have hm : sizes (size d) 1 s.data.toList = some n := by unfold sizes; rw [if_neg (by rw [hn]; exact h0), hn]; rfl
  rw [hm]
  have hr := part_right hd hs hn h0
  have hle := size_le d s.data.toList
  rw [hn, ← Lib.size_eq] at hle
  have H0 := zh h0
  have HR := zh hr
  clear hm ih hn h0 hr
  go_enter Tryz.func195, Tryz.ntmps195
  go_wp2_with (go_at_call 175; refine (IH.out s _ hs).mono ?_; rw [HN.out]; rintro e w1 ⟨ht, hb1⟩; obtain ⟨T, a, R, _, hR, rfl⟩ := ht.pos H0.out; have hRz := rest_size hR; have hk : (s.size : Int) - (R.size : Int) = (n : Int) := (by omega); have HB1 := zh hb1; have HRR := zh hR; clear hb1 ht hR hRz; dsimp only)
  go_ret2
  refine ⟨⟨_, _, R, ?_, HRR.out, rfl⟩, HB1.out⟩
  rw [← extract_take]
  exact .hash _ HR.out

set_option maxHeartbeats 1000000 in
theorem takeOnePub (d : Nat) (ih : TakeAt d) (s : ByteArray) (w : World) (hd : d ≤ 40) (hs : s.size ≤ 4000) :
  Calls Tryz.prog 195 #[.int .u8 117, .string s, .int .i64 (d : Int)] w fun e w' => Ans 117 s.data.toList (sizes (size d) 1 s.data.toList) e ∧ Below w.heap.size w w' := by
 have IH := zh ih
 have q0 := nil_no
 have q1 := nil_yes
 obtain ⟨n, hn⟩ : ∃ n, size d s.data.toList = n := ⟨_, rfl⟩
 have HN := zh hn
 by_cases h0 : n = 0
 ·
  have hm : sizes (size d) 1 s.data.toList = none := by unfold sizes; rw [if_pos (by rw [hn]; exact h0)]
  rw [hm]
  have H0 := zh h0
  clear hm ih hn h0
  go_enter Tryz.func195, Tryz.ntmps195
  go_wp2_with (go_at_call 175; refine (IH.out s _ hs).mono ?_; rw [HN.out]; rintro e w1 ⟨ht, hb1⟩; obtain rfl := ht.zero H0.out; have HB1 := zh hb1; clear hb1 ht; dsimp only)
  go_ret2
  exact ⟨rfl, HB1.out⟩
 ·
  have hm : sizes (size d) 1 s.data.toList = some n := by unfold sizes; rw [if_neg (by rw [hn]; exact h0), hn]; rfl
  rw [hm]
  have hr := part_right hd hs hn h0
  have hle := size_le d s.data.toList
  rw [hn, ← Lib.size_eq] at hle
  have H0 := zh h0
  have HR := zh hr
  clear hm ih hn h0 hr
  go_enter Tryz.func195, Tryz.ntmps195
  go_wp2_with (go_at_call 175; refine (IH.out s _ hs).mono ?_; rw [HN.out]; rintro e w1 ⟨ht, hb1⟩; obtain ⟨T, a, R, _, hR, rfl⟩ := ht.pos H0.out; have hRz := rest_size hR; have hk : (s.size : Int) - (R.size : Int) = (n : Int) := (by omega); have HB1 := zh hb1; have HRR := zh hR; clear hb1 ht hR hRz; dsimp only)
  go_ret2
  refine ⟨⟨_, _, R, ?_, HRR.out, rfl⟩, HB1.out⟩
  rw [← extract_take]
  exact .pub _ HR.out
end Go.Proofs.YtbdealddjonobaaGreat.Term

namespace Go.Proofs.YtbdealddjonobaaGreat.Term
open Go.RowKit Wire

theorem drew_cell (w : World) (nq : Nat) (v : Value) (t : TypeId) : ((w.drewN nq).alloc (.cells #[v] t)).cell? ⟨w.heap.size, 0, none⟩ = some v := by
 rw [cell_of_row ((w.drewN nq).alloc (.cells #[v] t)) w.heap.size 0 #[v] t (0, 0) (heap_alloc_new (w.drewN nq) _)]
 rfl
theorem drew_frozen (w : World) (nq : Nat) (v : Value) (t : TypeId) : ((w.drewN nq).alloc (.cells #[v] t)).frozen? ⟨w.heap.size, 0, none⟩ = false := by
 have h : ((w.drewN nq).alloc (.cells #[v] t)).heap[w.heap.size]? = some (.cells #[v] t (0, 0)) := heap_alloc_new (w.drewN nq) _
 unfold World.frozen?
 simp only [h]
 rfl
theorem Shp.pub_agg {l : List UInt8} {a : Value} (h : Shp l (.iface 168 a)) : ∃ X : ByteArray, a = .agg #[.string X] := by
 rcases h with ⟨_, _, hl, h⟩ | ⟨_, _, hl, h⟩ | ⟨_, _, hl, h⟩ | ⟨_, _, hl, h⟩ | ⟨_, _, _, hl, h⟩ | ⟨_, _, _, hl, h⟩ | ⟨_, _, _, hl, h⟩ | ⟨_, _, _, hl, h⟩
 case inr.inr.inr.inl => injection h with _ h2; exact ⟨_, h2⟩
 all_goals (injection h with h1 _; exact absurd h1 (by decide))
theorem head_take {l : List UInt8} {n : Nat} (h : n ≠ 0) : (l.take n).head? = l.head? := by
 cases l with
 | nil => simp
 | cons x y =>
  obtain ⟨k, rfl⟩ : ∃ k, n = k + 1 := ⟨n - 1, by omega⟩
  rfl

set_option maxHeartbeats 2000000 in
theorem takeTwoPair (d : Nat) (ih : TakeAt d) (s : ByteArray) (w : World) (hd : d ≤ 40) (hs : s.size ≤ 4000) :
    Calls Tryz.prog 196 #[.int .u8 112, .string s, .int .i64 (d : Int)] w fun e w' => Ans 112 s.data.toList (sizes (size d) 2 s.data.toList) e ∧ Below w.heap.size w w' := by
  have IH : Hid (∀ (s : ByteArray) (w : World), s.size ≤ 4000 → Calls Tryz.prog 175 #[.string s, .int .i64 (d : Int)] w fun e w' => Tks s.data.toList (size d s.data.toList) e ∧ Below w.heap.size w w') := ih
  have q0 := nil_no
  have q1 := nil_yes
  obtain ⟨n, hn⟩ : ∃ n, size d s.data.toList = n := ⟨_, rfl⟩
  have HN := zh hn
  by_cases h0 : n = 0
  · have hm : (sizes (size d) 2 s.data.toList) = none := by
      have hq : sizes (size d) 2 s.data.toList = none := by unfold sizes; rw [if_pos (by rw [hn]; exact h0)]
      exact hq
    rw [hm]
    have H0 := zh h0
    clear hm ih hn h0
    go_enter Tryz.func196, Tryz.ntmps196
    go_wp2_with (go_at_call 175; with_reducible refine (IH.out s _ hs).mono ?_; rw [HN.out]; rintro e w1 ⟨ht, hb1⟩; obtain rfl := ht.zero H0.out; have HB1 := zh hb1; clear hb1 ht; dsimp only)
    go_ret2
    exact ⟨rfl, HB1.out⟩
  · obtain ⟨m, hmm⟩ : ∃ m, size d (s.data.toList.drop n) = m := ⟨_, rfl⟩
    have HM := zh hmm
    have hle := size_le d s.data.toList
    rw [hn, ← Lib.size_eq] at hle
    have H0 := zh h0
    by_cases h1 : m = 0
    · have hm : (sizes (size d) 2 s.data.toList) = none := by
        have hq : sizes (size d) 2 s.data.toList = none := by
          unfold sizes; rw [if_neg (by rw [hn]; exact h0), hn]
          unfold sizes; rw [if_pos (by rw [hmm]; exact h1)]; rfl
        exact hq
      rw [hm]
      have H1 := zh h1
      clear hm ih hn h0 h1 hmm
      go_enter Tryz.func196, Tryz.ntmps196
      go_wp2_with (first
        | (go_at_call 175; with_reducible refine (IH.out R _ hRs).mono ?_; rw [HRR.out, HM.out]; rintro e w2 ⟨ht, hb2⟩; obtain rfl := ht.zero H1.out; have HB2 := zh (HB1.out.trans (hb2.mono HB1.out.size)); clear hb2 ht; dsimp only)
        | (go_at_call 175; with_reducible refine (IH.out s _ hs).mono ?_; rw [HN.out]; rintro e w1 ⟨ht, hb1⟩; obtain ⟨T, a, R, hsh, hR, rfl⟩ := ht.pos H0.out; have hRz := rest_size hR; have hRs : R.size ≤ 4000 := (by omega); have hk : (s.size : Int) - (R.size : Int) = (n : Int) := (by omega); have HRR := zh hR; have HSH := zh hsh; clear hR hsh; have HB1 := zh hb1; clear hb1 ht; dsimp only))
      go_ret2
      exact ⟨rfl, HB2.out⟩
    · have hq : sizes (size d) 2 s.data.toList = some (n + m) := by
        unfold sizes; rw [if_neg (by rw [hn]; exact h0), hn]
        unfold sizes; rw [if_neg (by rw [hmm]; exact h1), hmm]; rfl
      have hr := part_right hd hs hn h0
      have hlm := size_le d (s.data.toList.drop n)
      rw [hmm, List.length_drop, ← Lib.size_eq] at hlm
      have H1 := zh h1
      have HRP := zh hr
      have HR2 : Hid (∀ R : ByteArray, R.data.toList = s.data.toList.drop n → right (R.extract 0 m).data.toList = true) := fun R hR => part_right hd (by rw [Lib.size_eq, hR, List.length_drop, ← Lib.size_eq]; omega) (by rw [hR]; exact hmm) h1
      have n1 : (0 : Int) ≤ (n : Int) := by omega
      have n2 : (n : Int) ≤ (s.size : Int) := by omega
      have n3 : (0 : Int) ≤ (m : Int) := by omega
      have n4 : (m : Int) ≤ (s.size : Int) - (n : Int) := by omega
      rw [hq]
      clear ih hn h0 h1 hmm hr hq
      go_enter Tryz.func196, Tryz.ntmps196
      go_wp2_with (first
        | (go_at_call 175; with_reducible refine (IH.out R _ hRs).mono ?_; rw [HRR.out, HM.out]; rintro e w2 ⟨ht, hb2⟩; obtain ⟨T2, a2, R2, _, hR2, rfl⟩ := ht.pos H1.out; have hRz2 : R2.size = R.size - m := (by rw [Lib.size_eq, hR2, List.length_drop, ← HRR.out, ← Lib.size_eq]); have hk2 : (R.size : Int) - (R2.size : Int) = (m : Int) := (by omega); have HRR2 := zh hR2; clear hR2 hRz2 hRz; have HB2 := zh (HB1.out.trans (hb2.mono HB1.out.size)); clear hb2 ht; dsimp only)
        | (go_at_call 175; with_reducible refine (IH.out s _ hs).mono ?_; rw [HN.out]; rintro e w1 ⟨ht, hb1⟩; obtain ⟨T, a, R, hsh, hR, rfl⟩ := ht.pos H0.out; have hRz := rest_size hR; have hRs : R.size ≤ 4000 := (by omega); have hk : (s.size : Int) - (R.size : Int) = (n : Int) := (by omega); have HRR := zh hR; have HSH := zh hsh; clear hR hsh; have HB1 := zh hb1; clear hb1 ht; dsimp only))
      go_quiet (fail)
      go_wp2
      go_ret2
      refine ⟨⟨_, _, R2, ?_, ?_, rfl⟩, ?_⟩
      · have e : 112 :: s.data.toList.take (n + m) = 112 :: ((s.extract 0 n).data.toList ++ (R.extract 0 m).data.toList) := by rw [extract_take, extract_take, HRR.out, List.take_add]
        rw [e]
        exact .pair _ _ HRP.out (HR2.out R HRR.out)
      · rw [HRR2.out, List.drop_drop]
      · exact HB2.out.trans (bdrew _ _)

set_option maxHeartbeats 2000000 in
theorem takeTwoSealed (d : Nat) (ih : TakeAt d) (s : ByteArray) (w : World) (hd : d ≤ 40) (hs : s.size ≤ 4000) :
    Calls Tryz.prog 196 #[.int .u8 115, .string s, .int .i64 (d : Int)] w fun e w' => Ans 115 s.data.toList (sizes (size d) 2 s.data.toList) e ∧ Below w.heap.size w w' := by
  have IH : Hid (∀ (s : ByteArray) (w : World), s.size ≤ 4000 → Calls Tryz.prog 175 #[.string s, .int .i64 (d : Int)] w fun e w' => Tks s.data.toList (size d s.data.toList) e ∧ Below w.heap.size w w') := ih
  have q0 := nil_no
  have q1 := nil_yes
  obtain ⟨n, hn⟩ : ∃ n, size d s.data.toList = n := ⟨_, rfl⟩
  have HN := zh hn
  by_cases h0 : n = 0
  · have hm : (sizes (size d) 2 s.data.toList) = none := by
      have hq : sizes (size d) 2 s.data.toList = none := by unfold sizes; rw [if_pos (by rw [hn]; exact h0)]
      exact hq
    rw [hm]
    have H0 := zh h0
    clear hm ih hn h0
    go_enter Tryz.func196, Tryz.ntmps196
    go_wp2_with (go_at_call 175; with_reducible refine (IH.out s _ hs).mono ?_; rw [HN.out]; rintro e w1 ⟨ht, hb1⟩; obtain rfl := ht.zero H0.out; have HB1 := zh hb1; clear hb1 ht; dsimp only)
    go_ret2
    exact ⟨rfl, HB1.out⟩
  · obtain ⟨m, hmm⟩ : ∃ m, size d (s.data.toList.drop n) = m := ⟨_, rfl⟩
    have HM := zh hmm
    have hle := size_le d s.data.toList
    rw [hn, ← Lib.size_eq] at hle
    have H0 := zh h0
    by_cases h1 : m = 0
    · have hm : (sizes (size d) 2 s.data.toList) = none := by
        have hq : sizes (size d) 2 s.data.toList = none := by
          unfold sizes; rw [if_neg (by rw [hn]; exact h0), hn]
          unfold sizes; rw [if_pos (by rw [hmm]; exact h1)]; rfl
        exact hq
      rw [hm]
      have H1 := zh h1
      clear hm ih hn h0 h1 hmm
      go_enter Tryz.func196, Tryz.ntmps196
      go_wp2_with (first
        | (go_at_call 175; with_reducible refine (IH.out R _ hRs).mono ?_; rw [HRR.out, HM.out]; rintro e w2 ⟨ht, hb2⟩; obtain rfl := ht.zero H1.out; have HB2 := zh (HB1.out.trans (hb2.mono HB1.out.size)); clear hb2 ht; dsimp only)
        | (go_at_call 175; with_reducible refine (IH.out s _ hs).mono ?_; rw [HN.out]; rintro e w1 ⟨ht, hb1⟩; obtain ⟨T, a, R, hsh, hR, rfl⟩ := ht.pos H0.out; have hRz := rest_size hR; have hRs : R.size ≤ 4000 := (by omega); have hk : (s.size : Int) - (R.size : Int) = (n : Int) := (by omega); have HRR := zh hR; have HSH := zh hsh; clear hR hsh; have HB1 := zh hb1; clear hb1 ht; dsimp only))
      go_ret2
      exact ⟨rfl, HB2.out⟩
    · have hq : sizes (size d) 2 s.data.toList = some (n + m) := by
        unfold sizes; rw [if_neg (by rw [hn]; exact h0), hn]
        unfold sizes; rw [if_neg (by rw [hmm]; exact h1), hmm]; rfl
      have hr := part_right hd hs hn h0
      have hlm := size_le d (s.data.toList.drop n)
      rw [hmm, List.length_drop, ← Lib.size_eq] at hlm
      have H1 := zh h1
      have HRP := zh hr
      have HR2 : Hid (∀ R : ByteArray, R.data.toList = s.data.toList.drop n → right (R.extract 0 m).data.toList = true) := fun R hR => part_right hd (by rw [Lib.size_eq, hR, List.length_drop, ← Lib.size_eq]; omega) (by rw [hR]; exact hmm) h1
      have n1 : (0 : Int) ≤ (n : Int) := by omega
      have n2 : (n : Int) ≤ (s.size : Int) := by omega
      have n3 : (0 : Int) ≤ (m : Int) := by omega
      have n4 : (m : Int) ≤ (s.size : Int) - (n : Int) := by omega
      rw [hq]
      clear ih hn h0 h1 hmm hr hq
      go_enter Tryz.func196, Tryz.ntmps196
      go_wp2_with (first
        | (go_at_call 175; with_reducible refine (IH.out R _ hRs).mono ?_; rw [HRR.out, HM.out]; rintro e w2 ⟨ht, hb2⟩; obtain ⟨T2, a2, R2, _, hR2, rfl⟩ := ht.pos H1.out; have hRz2 : R2.size = R.size - m := (by rw [Lib.size_eq, hR2, List.length_drop, ← HRR.out, ← Lib.size_eq]); have hk2 : (R.size : Int) - (R2.size : Int) = (m : Int) := (by omega); have HRR2 := zh hR2; clear hR2 hRz2 hRz; have HB2 := zh (HB1.out.trans (hb2.mono HB1.out.size)); clear hb2 ht; dsimp only)
        | (go_at_call 175; with_reducible refine (IH.out s _ hs).mono ?_; rw [HN.out]; rintro e w1 ⟨ht, hb1⟩; obtain ⟨T, a, R, hsh, hR, rfl⟩ := ht.pos H0.out; have hRz := rest_size hR; have hRs : R.size ≤ 4000 := (by omega); have hk : (s.size : Int) - (R.size : Int) = (n : Int) := (by omega); have HRR := zh hR; have HSH := zh hsh; clear hR hsh; have HB1 := zh hb1; clear hb1 ht; dsimp only))
      go_quiet (fail)
      go_wp2
      go_ret2
      refine ⟨⟨_, _, R2, ?_, ?_, rfl⟩, ?_⟩
      · have e : 115 :: s.data.toList.take (n + m) = 115 :: ((s.extract 0 n).data.toList ++ (R.extract 0 m).data.toList) := by rw [extract_take, extract_take, HRR.out, List.take_add]
        rw [e]
        exact .sealed _ _ HRP.out (HR2.out R HRR.out)
      · rw [HRR2.out, List.drop_drop]
      · exact HB2.out.trans (bdrew _ _)

set_option maxHeartbeats 2000000 in
theorem takeTwoSigned (d : Nat) (ih : TakeAt d) (s : ByteArray) (w : World) (hd : d ≤ 40) (hs : s.size ≤ 4000) :
    Calls Tryz.prog 196 #[.int .u8 103, .string s, .int .i64 (d : Int)] w fun e w' => Ans 103 s.data.toList (sizes (size d) 2 s.data.toList) e ∧ Below w.heap.size w w' := by
  have IH : Hid (∀ (s : ByteArray) (w : World), s.size ≤ 4000 → Calls Tryz.prog 175 #[.string s, .int .i64 (d : Int)] w fun e w' => Tks s.data.toList (size d s.data.toList) e ∧ Below w.heap.size w w') := ih
  have q0 := nil_no
  have q1 := nil_yes
  obtain ⟨n, hn⟩ : ∃ n, size d s.data.toList = n := ⟨_, rfl⟩
  have HN := zh hn
  by_cases h0 : n = 0
  · have hm : (sizes (size d) 2 s.data.toList) = none := by
      have hq : sizes (size d) 2 s.data.toList = none := by unfold sizes; rw [if_pos (by rw [hn]; exact h0)]
      exact hq
    rw [hm]
    have H0 := zh h0
    clear hm ih hn h0
    go_enter Tryz.func196, Tryz.ntmps196
    go_wp2_with (go_at_call 175; with_reducible refine (IH.out s _ hs).mono ?_; rw [HN.out]; rintro e w1 ⟨ht, hb1⟩; obtain rfl := ht.zero H0.out; have HB1 := zh hb1; clear hb1 ht; dsimp only)
    go_ret2
    exact ⟨rfl, HB1.out⟩
  · obtain ⟨m, hmm⟩ : ∃ m, size d (s.data.toList.drop n) = m := ⟨_, rfl⟩
    have HM := zh hmm
    have hle := size_le d s.data.toList
    rw [hn, ← Lib.size_eq] at hle
    have H0 := zh h0
    by_cases h1 : m = 0
    · have hm : (sizes (size d) 2 s.data.toList) = none := by
        have hq : sizes (size d) 2 s.data.toList = none := by
          unfold sizes; rw [if_neg (by rw [hn]; exact h0), hn]
          unfold sizes; rw [if_pos (by rw [hmm]; exact h1)]; rfl
        exact hq
      rw [hm]
      have H1 := zh h1
      clear hm ih hn h0 h1 hmm
      go_enter Tryz.func196, Tryz.ntmps196
      go_wp2_with (first
        | (go_at_call 175; with_reducible refine (IH.out R _ hRs).mono ?_; rw [HRR.out, HM.out]; rintro e w2 ⟨ht, hb2⟩; obtain rfl := ht.zero H1.out; have HB2 := zh (HB1.out.trans (hb2.mono HB1.out.size)); clear hb2 ht; dsimp only)
        | (go_at_call 175; with_reducible refine (IH.out s _ hs).mono ?_; rw [HN.out]; rintro e w1 ⟨ht, hb1⟩; obtain ⟨T, a, R, hsh, hR, rfl⟩ := ht.pos H0.out; have hRz := rest_size hR; have hRs : R.size ≤ 4000 := (by omega); have hk : (s.size : Int) - (R.size : Int) = (n : Int) := (by omega); have HRR := zh hR; have HSH := zh hsh; clear hR hsh; have HB1 := zh hb1; clear hb1 ht; dsimp only))
      go_ret2
      exact ⟨rfl, HB2.out⟩
    · have hq : sizes (size d) 2 s.data.toList = some (n + m) := by
        unfold sizes; rw [if_neg (by rw [hn]; exact h0), hn]
        unfold sizes; rw [if_neg (by rw [hmm]; exact h1), hmm]; rfl
      have hr := part_right hd hs hn h0
      have hlm := size_le d (s.data.toList.drop n)
      rw [hmm, List.length_drop, ← Lib.size_eq] at hlm
      have H1 := zh h1
      have HRP := zh hr
      have HR2 : Hid (∀ R : ByteArray, R.data.toList = s.data.toList.drop n → right (R.extract 0 m).data.toList = true) := fun R hR => part_right hd (by rw [Lib.size_eq, hR, List.length_drop, ← Lib.size_eq]; omega) (by rw [hR]; exact hmm) h1
      have n1 : (0 : Int) ≤ (n : Int) := by omega
      have n2 : (n : Int) ≤ (s.size : Int) := by omega
      have n3 : (0 : Int) ≤ (m : Int) := by omega
      have n4 : (m : Int) ≤ (s.size : Int) - (n : Int) := by omega
      rw [hq]
      clear ih hn h0 h1 hmm hr hq
      go_enter Tryz.func196, Tryz.ntmps196
      go_wp2_with (first
        | (go_at_call 175; with_reducible refine (IH.out R _ hRs).mono ?_; rw [HRR.out, HM.out]; rintro e w2 ⟨ht, hb2⟩; obtain ⟨T2, a2, R2, _, hR2, rfl⟩ := ht.pos H1.out; have hRz2 : R2.size = R.size - m := (by rw [Lib.size_eq, hR2, List.length_drop, ← HRR.out, ← Lib.size_eq]); have hk2 : (R.size : Int) - (R2.size : Int) = (m : Int) := (by omega); have HRR2 := zh hR2; clear hR2 hRz2 hRz; have HB2 := zh (HB1.out.trans (hb2.mono HB1.out.size)); clear hb2 ht; dsimp only)
        | (go_at_call 175; with_reducible refine (IH.out s _ hs).mono ?_; rw [HN.out]; rintro e w1 ⟨ht, hb1⟩; obtain ⟨T, a, R, hsh, hR, rfl⟩ := ht.pos H0.out; have hRz := rest_size hR; have hRs : R.size ≤ 4000 := (by omega); have hk : (s.size : Int) - (R.size : Int) = (n : Int) := (by omega); have HRR := zh hR; have HSH := zh hsh; clear hR hsh; have HB1 := zh hb1; clear hb1 ht; dsimp only))
      go_quiet (fail)
      go_wp2
      go_ret2
      refine ⟨⟨_, _, R2, ?_, ?_, rfl⟩, ?_⟩
      · have e : 103 :: s.data.toList.take (n + m) = 103 :: ((s.extract 0 n).data.toList ++ (R.extract 0 m).data.toList) := by rw [extract_take, extract_take, HRR.out, List.take_add]
        rw [e]
        exact .signed _ _ HRP.out (HR2.out R HRR.out)
      · rw [HRR2.out, List.drop_drop]
      · exact HB2.out.trans (bdrew _ _)

set_option maxHeartbeats 2000000 in
theorem takeTwoBoxed (d : Nat) (ih : TakeAt d) (s : ByteArray) (w : World) (hd : d ≤ 40) (hs : s.size ≤ 4000) :
    Calls Tryz.prog 196 #[.int .u8 98, .string s, .int .i64 (d : Int)] w fun e w' => Ans 98 s.data.toList (if s.data.toList.head? ≠ some 117 then none else sizes (size d) 2 s.data.toList) e ∧ Below w.heap.size w w' := by
  have IH : Hid (∀ (s : ByteArray) (w : World), s.size ≤ 4000 → Calls Tryz.prog 175 #[.string s, .int .i64 (d : Int)] w fun e w' => Tks s.data.toList (size d s.data.toList) e ∧ Below w.heap.size w w') := ih
  have q0 := nil_no
  have q1 := nil_yes
  obtain ⟨n, hn⟩ : ∃ n, size d s.data.toList = n := ⟨_, rfl⟩
  have HN := zh hn
  by_cases h0 : n = 0
  · have hm : (if s.data.toList.head? ≠ some 117 then none else sizes (size d) 2 s.data.toList) = none := by
      have hq : sizes (size d) 2 s.data.toList = none := by unfold sizes; rw [if_pos (by rw [hn]; exact h0)]
      split <;> first | rfl | exact hq
    rw [hm]
    have H0 := zh h0
    clear hm ih hn h0
    go_enter Tryz.func196, Tryz.ntmps196
    go_wp2_with (go_at_call 175; with_reducible refine (IH.out s _ hs).mono ?_; rw [HN.out]; rintro e w1 ⟨ht, hb1⟩; obtain rfl := ht.zero H0.out; have HB1 := zh hb1; clear hb1 ht; dsimp only)
    go_ret2
    exact ⟨rfl, HB1.out⟩
  · obtain ⟨m, hmm⟩ : ∃ m, size d (s.data.toList.drop n) = m := ⟨_, rfl⟩
    have HM := zh hmm
    have hle := size_le d s.data.toList
    rw [hn, ← Lib.size_eq] at hle
    have H0 := zh h0
    by_cases h1 : m = 0
    · have hm : (if s.data.toList.head? ≠ some 117 then none else sizes (size d) 2 s.data.toList) = none := by
        have hq : sizes (size d) 2 s.data.toList = none := by
          unfold sizes; rw [if_neg (by rw [hn]; exact h0), hn]
          unfold sizes; rw [if_pos (by rw [hmm]; exact h1)]; rfl
        split <;> first | rfl | exact hq
      rw [hm]
      have H1 := zh h1
      clear hm ih hn h0 h1 hmm
      go_enter Tryz.func196, Tryz.ntmps196
      go_wp2_with (first
        | (go_at_call 175; with_reducible refine (IH.out R _ hRs).mono ?_; rw [HRR.out, HM.out]; rintro e w2 ⟨ht, hb2⟩; obtain rfl := ht.zero H1.out; have HB2 := zh (HB1.out.trans (hb2.mono HB1.out.size)); clear hb2 ht; dsimp only)
        | (go_at_call 175; with_reducible refine (IH.out s _ hs).mono ?_; rw [HN.out]; rintro e w1 ⟨ht, hb1⟩; obtain ⟨T, a, R, hsh, hR, rfl⟩ := ht.pos H0.out; have hRz := rest_size hR; have hRs : R.size ≤ 4000 := (by omega); have hk : (s.size : Int) - (R.size : Int) = (n : Int) := (by omega); have HRR := zh hR; have HSH := zh hsh; clear hR hsh; have HB1 := zh hb1; clear hb1 ht; dsimp only))
      go_ret2
      exact ⟨rfl, HB2.out⟩
    · have hq : sizes (size d) 2 s.data.toList = some (n + m) := by
        unfold sizes; rw [if_neg (by rw [hn]; exact h0), hn]
        unfold sizes; rw [if_neg (by rw [hmm]; exact h1), hmm]; rfl
      have hr := part_right hd hs hn h0
      have hlm := size_le d (s.data.toList.drop n)
      rw [hmm, List.length_drop, ← Lib.size_eq] at hlm
      have H1 := zh h1
      have HRP := zh hr
      have HR2 : Hid (∀ R : ByteArray, R.data.toList = s.data.toList.drop n → right (R.extract 0 m).data.toList = true) := fun R hR => part_right hd (by rw [Lib.size_eq, hR, List.length_drop, ← Lib.size_eq]; omega) (by rw [hR]; exact hmm) h1
      have n1 : (0 : Int) ≤ (n : Int) := by omega
      have n2 : (n : Int) ≤ (s.size : Int) := by omega
      have n3 : (0 : Int) ≤ (m : Int) := by omega
      have n4 : (m : Int) ≤ (s.size : Int) - (n : Int) := by omega
      by_cases hu : s.data.toList.head? = some 117
      · rw [if_neg (by simp [hu]), hq]
        have HH : Hid (∀ (T : TypeId) (a : Value), Shp (s.data.toList.take n) (.iface T a) → T = 168 ∧ ∃ X : ByteArray, a = .agg #[.string X]) := fun T a h => by
          rcases h.head with ⟨h1, _⟩ | ⟨_, h⟩
          · subst h1; exact ⟨rfl, h.pub_agg⟩
          · exact absurd (by rw [head_take h0]; exact hu) h
        have HU := zh hu
        have HZ := zh h0
        have q2 := is_publicOne
        clear ih hn h0 h1 hmm hr hq hu
        go_enter Tryz.func196, Tryz.ntmps196
        go_wp2_with (first
          | (go_at_call 175; with_reducible refine (IH.out R _ hRs).mono ?_; rw [HRR.out, HM.out]; rintro e w2 ⟨ht, hb2⟩; obtain ⟨T2, a2, R2, _, hR2, rfl⟩ := ht.pos H1.out; have hRz2 : R2.size = R.size - m := (by rw [Lib.size_eq, hR2, List.length_drop, ← HRR.out, ← Lib.size_eq]); have hk2 : (R.size : Int) - (R2.size : Int) = (m : Int) := (by omega); have HRR2 := zh hR2; clear hR2 hRz2 hRz; have HB2 := zh (HB1.out.trans (hb2.mono HB1.out.size)); clear hb2 ht; dsimp only)
          | (go_at_call 175; with_reducible refine (IH.out s _ hs).mono ?_; rw [HN.out]; rintro e w1 ⟨ht, hb1⟩; obtain ⟨T, a, R, hsh, hR, rfl⟩ := ht.pos H0.out; have hRz := rest_size hR; have hRs : R.size ≤ 4000 := (by omega); have hk : (s.size : Int) - (R.size : Int) = (n : Int) := (by omega); have HRR := zh hR; have HSH := zh hsh; clear hR hsh; have HB1 := zh hb1; clear hb1 ht; dsimp only))
        go_quiet (fail)
        have q5 := drew_cell
        have q6 := drew_frozen
        obtain ⟨rfl, X, rfl⟩ := HH.out _ _ HSH.out
        go_wp2
        go_ret2
        refine ⟨⟨_, _, R2, ?_, ?_, rfl⟩, ?_⟩
        · have e : 98 :: s.data.toList.take (n + m) = 98 :: ((s.extract 0 n).data.toList ++ (R.extract 0 m).data.toList) := by rw [extract_take, extract_take, HRR.out, List.take_add]
          rw [e]
          exact .boxed _ _ HRP.out (HR2.out R HRR.out) (by rw [extract_take, head_take HZ.out]; exact HU.out)
        · rw [HRR2.out, List.drop_drop]
        · exact (((HB2.out.trans (bdrew _ _)).alloc HB2.out.size _).setCell HB2.out.size _)
      · rw [if_pos (by simpa using hu)]
        have HH : Hid (∀ (T : TypeId) (a : Value), Shp (s.data.toList.take n) (.iface T a) → T ≠ 168) := fun T a h => by
          rcases h.head with ⟨_, h⟩ | ⟨h, _⟩
          · rw [head_take h0] at h; exact absurd h hu
          · exact h
        clear ih hn h0 h1 hmm hr hq hu
        go_enter Tryz.func196, Tryz.ntmps196
        go_wp2_with (first
          | (go_at_call 175; with_reducible refine (IH.out R _ hRs).mono ?_; rw [HRR.out, HM.out]; rintro e w2 ⟨ht, hb2⟩; obtain ⟨T2, a2, R2, _, hR2, rfl⟩ := ht.pos H1.out; have hRz2 : R2.size = R.size - m := (by rw [Lib.size_eq, hR2, List.length_drop, ← HRR.out, ← Lib.size_eq]); have hk2 : (R.size : Int) - (R2.size : Int) = (m : Int) := (by omega); have HRR2 := zh hR2; clear hR2 hRz2 hRz; have HB2 := zh (HB1.out.trans (hb2.mono HB1.out.size)); clear hb2 ht; dsimp only)
          | (go_at_call 175; with_reducible refine (IH.out s _ hs).mono ?_; rw [HN.out]; rintro e w1 ⟨ht, hb1⟩; obtain ⟨T, a, R, hsh, hR, rfl⟩ := ht.pos H0.out; have hRz := rest_size hR; have hRs : R.size ≤ 4000 := (by omega); have hk : (s.size : Int) - (R.size : Int) = (n : Int) := (by omega); have HRR := zh hR; have HSH := zh hsh; clear hR hsh; have HB1 := zh hb1; clear hb1 ht; dsimp only))
        go_quiet (fail)
        have q5 := drew_cell
        have q6 := drew_frozen
        have q2 := fun w => no_publicOne _ a w (HH.out _ _ HSH.out)
        go_wp2
        go_ret2
        exact ⟨rfl, (((HB2.out.trans (bdrew _ _)).alloc HB2.out.size _).setCell HB2.out.size _)⟩
end Go.Proofs.YtbdealddjonobaaGreat.Term

namespace Go.Proofs.YtbdealddjonobaaGreat.Term
open Go.RowKit Wire

theorem Tks.form {l : List UInt8} {n : Nat} {e : Ending} (h : Tks l n e) : ∃ v R, e = .returned (.tuple #[v, .string R]) := by
 rcases h with ⟨_, h⟩ | ⟨_, T, a, R, _, _, h⟩ <;> exact ⟨_, _, h⟩
set_option maxHeartbeats 1000000 in
theorem take_zero : TakeAt 0 := by
 intro s w hs
 rw [size_zero]
 by_cases h : s.data.toList = []
 ·
  have he := empty_str h
  clear h
  go_enter Tryz.func175, Tryz.ntmps175
  go_wp2_with fail
  go_ret2
  exact ⟨.inl ⟨rfl, rfl⟩, Below.refl _ _⟩
 ·
  have he := nonempty_str h
  clear h
  go_enter Tryz.func175, Tryz.ntmps175
  go_wp2_with fail
  go_ret2
  exact ⟨.inl ⟨rfl, rfl⟩, Below.refl _ _⟩
set_option maxHeartbeats 1000000 in
theorem take_empty (d : Nat) (s : ByteArray) (w : World) (h : s.data.toList = []) : Calls Tryz.prog 175 #[.string s, .int .i64 (d : Int)] w fun e w' => Tks s.data.toList (size d s.data.toList) e ∧ Below w.heap.size w w' := by
 have h1 : size d s.data.toList = 0 := by rw [h]; exact size_nil d
 rw [h1]
 have he := empty_str h
 clear h h1
 go_enter Tryz.func175, Tryz.ntmps175
 go_wp2_with fail
 go_ret2
 exact ⟨.inl ⟨rfl, rfl⟩, Below.refl _ _⟩
set_option maxHeartbeats 2000000 in
theorem takeAtom (d : Nat) (ih : TakeAt d) (s : ByteArray) (w : World) (hd : d + 1 ≤ 40) (hs : s.size ≤ 4000) (h0 : 0 < s.size) (t : List UInt8) (hh : Head s h0 97 t) :
  Calls Tryz.prog 175 #[.string s, .int .i64 ((d + 1 : Nat) : Int)] w fun e w' => Tks s.data.toList (size (d + 1) s.data.toList) e ∧ Below w.heap.size w w' := by
 have IH := zh ih
 have hd2 : d ≤ 40 := by omega
 have hdd : (((d : Int) + 1) == 0) = false := by rw [beq_eq_false_iff_ne]; omega
 have he := nonempty_str (s := s) (by rw [hh.all]; simp)
 have hb := hh.first
 have hbn : ((97 : UInt8).toNat : Int) = 97 := rfl
 have hx0 : (0 : Int) < (s.size : Int) := by omega
 have hx1 : (1 : Int) ≤ (s.size : Int) := by omega
 have hez : (s.extract 1 s.size).size ≤ 4000 := by
  have h1 := hh.len
  rw [Lib.size_eq, hh.rest]; omega
 have HG : Hid (∀ e, Ans 97 (s.extract 1 s.size).data.toList (leaf 97 (s.extract 1 s.size).data.toList) e → Tks s.data.toList (size (d + 1) s.data.toList) e) := fun e h => by
  have h2 := h.tks
  have hbody : body (size d) 97 t = leaf 97 t := by
   exact rfl
  rw [hh.all, size_cons, hbody]
  rw [hh.rest] at h2
  exact h2
 clear ih hh
 go_enter Tryz.func175, Tryz.ntmps175
 go_wp2_with fail
 go_quiet (fail)
 go_wp2_with (go_at_call 193; refine (takeAtom_any _ _ hez).mono ?_; rintro e w1 ⟨ha, hb1⟩; have ht := HG.out _ ha; obtain ⟨v, R, rfl⟩ := ht.form; have HT := zh ht; have HB1 := zh ((bdrew _ _).trans (hb1.mono zl)); clear ha hb1 ht; dsimp only)
 go_ret2
 exact ⟨HT.out, HB1.out⟩
set_option maxHeartbeats 2000000 in
theorem takeText (d : Nat) (ih : TakeAt d) (s : ByteArray) (w : World) (hd : d + 1 ≤ 40) (hs : s.size ≤ 4000) (h0 : 0 < s.size) (t : List UInt8) (hh : Head s h0 116 t) :
  Calls Tryz.prog 175 #[.string s, .int .i64 ((d + 1 : Nat) : Int)] w fun e w' => Tks s.data.toList (size (d + 1) s.data.toList) e ∧ Below w.heap.size w w' := by
 have IH := zh ih
 have hd2 : d ≤ 40 := by omega
 have hdd : (((d : Int) + 1) == 0) = false := by rw [beq_eq_false_iff_ne]; omega
 have he := nonempty_str (s := s) (by rw [hh.all]; simp)
 have hb := hh.first
 have hbn : ((116 : UInt8).toNat : Int) = 116 := rfl
 have hx0 : (0 : Int) < (s.size : Int) := by omega
 have hx1 : (1 : Int) ≤ (s.size : Int) := by omega
 have hez : (s.extract 1 s.size).size ≤ 4000 := by
  have h1 := hh.len
  rw [Lib.size_eq, hh.rest]; omega
 have HG : Hid (∀ e, Ans 116 (s.extract 1 s.size).data.toList (leaf 116 (s.extract 1 s.size).data.toList) e → Tks s.data.toList (size (d + 1) s.data.toList) e) := fun e h => by
  have h2 := h.tks
  have hbody : body (size d) 116 t = leaf 116 t := by
   exact rfl
  rw [hh.all, size_cons, hbody]
  rw [hh.rest] at h2
  exact h2
 clear ih hh
 go_enter Tryz.func175, Tryz.ntmps175
 go_wp2_with fail
 go_quiet (fail)
 go_wp2_with (go_at_call 194; refine (takeText_any _ _ hez).mono ?_; rintro e w1 ⟨ha, hb1⟩; have ht := HG.out _ ha; obtain ⟨v, R, rfl⟩ := ht.form; have HT := zh ht; have HB1 := zh ((bdrew _ _).trans (hb1.mono zl)); clear ha hb1 ht; dsimp only)
 go_ret2
 exact ⟨HT.out, HB1.out⟩
set_option maxHeartbeats 2000000 in
theorem takeHash (d : Nat) (ih : TakeAt d) (s : ByteArray) (w : World) (hd : d + 1 ≤ 40) (hs : s.size ≤ 4000) (h0 : 0 < s.size) (t : List UInt8) (hh : Head s h0 104 t) :
  Calls Tryz.prog 175 #[.string s, .int .i64 ((d + 1 : Nat) : Int)] w fun e w' => Tks s.data.toList (size (d + 1) s.data.toList) e ∧ Below w.heap.size w w' := by
 have IH := zh ih
 have hd2 : d ≤ 40 := by omega
 have hdd : (((d : Int) + 1) == 0) = false := by rw [beq_eq_false_iff_ne]; omega
 have he := nonempty_str (s := s) (by rw [hh.all]; simp)
 have hb := hh.first
 have hbn : ((104 : UInt8).toNat : Int) = 104 := rfl
 have hx0 : (0 : Int) < (s.size : Int) := by omega
 have hx1 : (1 : Int) ≤ (s.size : Int) := by omega
 have hez : (s.extract 1 s.size).size ≤ 4000 := by
  have h1 := hh.len
  rw [Lib.size_eq, hh.rest]; omega
 have HG : Hid (∀ e, Ans 104 (s.extract 1 s.size).data.toList (sizes (size d) 1 (s.extract 1 s.size).data.toList) e → Tks s.data.toList (size (d + 1) s.data.toList) e) := fun e h => by
  have h2 := h.tks
  have hbody : body (size d) 104 t = sizes (size d) 1 t := by
   show (if (104 : UInt8) = 98 ∧ t.head? ≠ some 117 then none else _) = _; exact if_neg (fun h => absurd h.1 (by decide))
  rw [hh.all, size_cons, hbody]
  rw [hh.rest] at h2
  exact h2
 clear ih hh
 go_enter Tryz.func175, Tryz.ntmps175
 go_wp2_with fail
 go_quiet (fail)
 go_wp2_with (go_at_call 195; refine (takeOneHash d IH.out _ _ hd2 hez).mono ?_; rintro e w1 ⟨ha, hb1⟩; have ht := HG.out _ ha; obtain ⟨v, R, rfl⟩ := ht.form; have HT := zh ht; have HB1 := zh ((bdrew _ _).trans (hb1.mono zl)); clear ha hb1 ht; dsimp only)
 go_ret2
 exact ⟨HT.out, HB1.out⟩
set_option maxHeartbeats 2000000 in
theorem takePub (d : Nat) (ih : TakeAt d) (s : ByteArray) (w : World) (hd : d + 1 ≤ 40) (hs : s.size ≤ 4000) (h0 : 0 < s.size) (t : List UInt8) (hh : Head s h0 117 t) :
  Calls Tryz.prog 175 #[.string s, .int .i64 ((d + 1 : Nat) : Int)] w fun e w' => Tks s.data.toList (size (d + 1) s.data.toList) e ∧ Below w.heap.size w w' := by
 have IH := zh ih
 have hd2 : d ≤ 40 := by omega
 have hdd : (((d : Int) + 1) == 0) = false := by rw [beq_eq_false_iff_ne]; omega
 have he := nonempty_str (s := s) (by rw [hh.all]; simp)
 have hb := hh.first
 have hbn : ((117 : UInt8).toNat : Int) = 117 := rfl
 have hx0 : (0 : Int) < (s.size : Int) := by omega
 have hx1 : (1 : Int) ≤ (s.size : Int) := by omega
 have hez : (s.extract 1 s.size).size ≤ 4000 := by
  have h1 := hh.len
  rw [Lib.size_eq, hh.rest]; omega
 have HG : Hid (∀ e, Ans 117 (s.extract 1 s.size).data.toList (sizes (size d) 1 (s.extract 1 s.size).data.toList) e → Tks s.data.toList (size (d + 1) s.data.toList) e) := fun e h => by
  have h2 := h.tks
  have hbody : body (size d) 117 t = sizes (size d) 1 t := by
   show (if (117 : UInt8) = 98 ∧ t.head? ≠ some 117 then none else _) = _; exact if_neg (fun h => absurd h.1 (by decide))
  rw [hh.all, size_cons, hbody]
  rw [hh.rest] at h2
  exact h2
 clear ih hh
 go_enter Tryz.func175, Tryz.ntmps175
 go_wp2_with fail
 go_quiet (fail)
 go_wp2_with (go_at_call 195; refine (takeOnePub d IH.out _ _ hd2 hez).mono ?_; rintro e w1 ⟨ha, hb1⟩; have ht := HG.out _ ha; obtain ⟨v, R, rfl⟩ := ht.form; have HT := zh ht; have HB1 := zh ((bdrew _ _).trans (hb1.mono zl)); clear ha hb1 ht; dsimp only)
 go_ret2
 exact ⟨HT.out, HB1.out⟩
set_option maxHeartbeats 2000000 in
theorem takePair (d : Nat) (ih : TakeAt d) (s : ByteArray) (w : World) (hd : d + 1 ≤ 40) (hs : s.size ≤ 4000) (h0 : 0 < s.size) (t : List UInt8) (hh : Head s h0 112 t) :
  Calls Tryz.prog 175 #[.string s, .int .i64 ((d + 1 : Nat) : Int)] w fun e w' => Tks s.data.toList (size (d + 1) s.data.toList) e ∧ Below w.heap.size w w' := by
 have IH := zh ih
 have hd2 : d ≤ 40 := by omega
 have hdd : (((d : Int) + 1) == 0) = false := by rw [beq_eq_false_iff_ne]; omega
 have he := nonempty_str (s := s) (by rw [hh.all]; simp)
 have hb := hh.first
 have hbn : ((112 : UInt8).toNat : Int) = 112 := rfl
 have hx0 : (0 : Int) < (s.size : Int) := by omega
 have hx1 : (1 : Int) ≤ (s.size : Int) := by omega
 have hez : (s.extract 1 s.size).size ≤ 4000 := by
  have h1 := hh.len
  rw [Lib.size_eq, hh.rest]; omega
 have HG : Hid (∀ e, Ans 112 (s.extract 1 s.size).data.toList (sizes (size d) 2 (s.extract 1 s.size).data.toList) e → Tks s.data.toList (size (d + 1) s.data.toList) e) := fun e h => by
  have h2 := h.tks
  have hbody : body (size d) 112 t = sizes (size d) 2 t := by
   show (if (112 : UInt8) = 98 ∧ t.head? ≠ some 117 then none else _) = _; exact if_neg (fun h => absurd h.1 (by decide))
  rw [hh.all, size_cons, hbody]
  rw [hh.rest] at h2
  exact h2
 clear ih hh
 go_enter Tryz.func175, Tryz.ntmps175
 go_wp2_with fail
 go_quiet (fail)
 go_wp2_with (go_at_call 196; refine (takeTwoPair d IH.out _ _ hd2 hez).mono ?_; rintro e w1 ⟨ha, hb1⟩; have ht := HG.out _ ha; obtain ⟨v, R, rfl⟩ := ht.form; have HT := zh ht; have HB1 := zh ((bdrew _ _).trans (hb1.mono zl)); clear ha hb1 ht; dsimp only)
 go_ret2
 exact ⟨HT.out, HB1.out⟩
set_option maxHeartbeats 2000000 in
theorem takeSealed (d : Nat) (ih : TakeAt d) (s : ByteArray) (w : World) (hd : d + 1 ≤ 40) (hs : s.size ≤ 4000) (h0 : 0 < s.size) (t : List UInt8) (hh : Head s h0 115 t) :
  Calls Tryz.prog 175 #[.string s, .int .i64 ((d + 1 : Nat) : Int)] w fun e w' => Tks s.data.toList (size (d + 1) s.data.toList) e ∧ Below w.heap.size w w' := by
 have IH := zh ih
 have hd2 : d ≤ 40 := by omega
 have hdd : (((d : Int) + 1) == 0) = false := by rw [beq_eq_false_iff_ne]; omega
 have he := nonempty_str (s := s) (by rw [hh.all]; simp)
 have hb := hh.first
 have hbn : ((115 : UInt8).toNat : Int) = 115 := rfl
 have hx0 : (0 : Int) < (s.size : Int) := by omega
 have hx1 : (1 : Int) ≤ (s.size : Int) := by omega
 have hez : (s.extract 1 s.size).size ≤ 4000 := by
  have h1 := hh.len
  rw [Lib.size_eq, hh.rest]; omega
 have HG : Hid (∀ e, Ans 115 (s.extract 1 s.size).data.toList (sizes (size d) 2 (s.extract 1 s.size).data.toList) e → Tks s.data.toList (size (d + 1) s.data.toList) e) := fun e h => by
  have h2 := h.tks
  have hbody : body (size d) 115 t = sizes (size d) 2 t := by
   show (if (115 : UInt8) = 98 ∧ t.head? ≠ some 117 then none else _) = _; exact if_neg (fun h => absurd h.1 (by decide))
  rw [hh.all, size_cons, hbody]
  rw [hh.rest] at h2
  exact h2
 clear ih hh
 go_enter Tryz.func175, Tryz.ntmps175
 go_wp2_with fail
 go_quiet (fail)
 go_wp2_with (go_at_call 196; refine (takeTwoSealed d IH.out _ _ hd2 hez).mono ?_; rintro e w1 ⟨ha, hb1⟩; have ht := HG.out _ ha; obtain ⟨v, R, rfl⟩ := ht.form; have HT := zh ht; have HB1 := zh ((bdrew _ _).trans (hb1.mono zl)); clear ha hb1 ht; dsimp only)
 go_ret2
 exact ⟨HT.out, HB1.out⟩
set_option maxHeartbeats 2000000 in
theorem takeBoxed (d : Nat) (ih : TakeAt d) (s : ByteArray) (w : World) (hd : d + 1 ≤ 40) (hs : s.size ≤ 4000) (h0 : 0 < s.size) (t : List UInt8) (hh : Head s h0 98 t) :
  Calls Tryz.prog 175 #[.string s, .int .i64 ((d + 1 : Nat) : Int)] w fun e w' => Tks s.data.toList (size (d + 1) s.data.toList) e ∧ Below w.heap.size w w' := by
 have IH := zh ih
 have hd2 : d ≤ 40 := by omega
 have hdd : (((d : Int) + 1) == 0) = false := by rw [beq_eq_false_iff_ne]; omega
 have he := nonempty_str (s := s) (by rw [hh.all]; simp)
 have hb := hh.first
 have hbn : ((98 : UInt8).toNat : Int) = 98 := rfl
 have hx0 : (0 : Int) < (s.size : Int) := by omega
 have hx1 : (1 : Int) ≤ (s.size : Int) := by omega
 have hez : (s.extract 1 s.size).size ≤ 4000 := by
  have h1 := hh.len
  rw [Lib.size_eq, hh.rest]; omega
 have HG : Hid (∀ e, Ans 98 (s.extract 1 s.size).data.toList (if (s.extract 1 s.size).data.toList.head? ≠ some 117 then none else sizes (size d) 2 (s.extract 1 s.size).data.toList) e → Tks s.data.toList (size (d + 1) s.data.toList) e) := fun e h => by
  have h2 := h.tks
  have hbody : body (size d) 98 t = if t.head? ≠ some 117 then none else sizes (size d) 2 t := by
   show (if (98 : UInt8) = 98 ∧ t.head? ≠ some 117 then none else _) = _; simp only [true_and]
  rw [hh.all, size_cons, hbody]
  rw [hh.rest] at h2
  exact h2
 clear ih hh
 go_enter Tryz.func175, Tryz.ntmps175
 go_wp2_with fail
 go_quiet (fail)
 go_wp2_with (go_at_call 196; refine (takeTwoBoxed d IH.out _ _ hd2 hez).mono ?_; rintro e w1 ⟨ha, hb1⟩; have ht := HG.out _ ha; obtain ⟨v, R, rfl⟩ := ht.form; have HT := zh ht; have HB1 := zh ((bdrew _ _).trans (hb1.mono zl)); clear ha hb1 ht; dsimp only)
 go_ret2
 exact ⟨HT.out, HB1.out⟩
set_option maxHeartbeats 2000000 in
theorem takeSigned (d : Nat) (ih : TakeAt d) (s : ByteArray) (w : World) (hd : d + 1 ≤ 40) (hs : s.size ≤ 4000) (h0 : 0 < s.size) (t : List UInt8) (hh : Head s h0 103 t) :
  Calls Tryz.prog 175 #[.string s, .int .i64 ((d + 1 : Nat) : Int)] w fun e w' => Tks s.data.toList (size (d + 1) s.data.toList) e ∧ Below w.heap.size w w' := by
 have IH := zh ih
 have hd2 : d ≤ 40 := by omega
 have hdd : (((d : Int) + 1) == 0) = false := by rw [beq_eq_false_iff_ne]; omega
 have he := nonempty_str (s := s) (by rw [hh.all]; simp)
 have hb := hh.first
 have hbn : ((103 : UInt8).toNat : Int) = 103 := rfl
 have hx0 : (0 : Int) < (s.size : Int) := by omega
 have hx1 : (1 : Int) ≤ (s.size : Int) := by omega
 have hez : (s.extract 1 s.size).size ≤ 4000 := by
  have h1 := hh.len
  rw [Lib.size_eq, hh.rest]; omega
 have HG : Hid (∀ e, Ans 103 (s.extract 1 s.size).data.toList (sizes (size d) 2 (s.extract 1 s.size).data.toList) e → Tks s.data.toList (size (d + 1) s.data.toList) e) := fun e h => by
  have h2 := h.tks
  have hbody : body (size d) 103 t = sizes (size d) 2 t := by
   show (if (103 : UInt8) = 98 ∧ t.head? ≠ some 117 then none else _) = _; exact if_neg (fun h => absurd h.1 (by decide))
  rw [hh.all, size_cons, hbody]
  rw [hh.rest] at h2
  exact h2
 clear ih hh
 go_enter Tryz.func175, Tryz.ntmps175
 go_wp2_with fail
 go_quiet (fail)
 go_wp2_with (go_at_call 196; refine (takeTwoSigned d IH.out _ _ hd2 hez).mono ?_; rintro e w1 ⟨ha, hb1⟩; have ht := HG.out _ ha; obtain ⟨v, R, rfl⟩ := ht.form; have HT := zh ht; have HB1 := zh ((bdrew _ _).trans (hb1.mono zl)); clear ha hb1 ht; dsimp only)
 go_ret2
 exact ⟨HT.out, HB1.out⟩
set_option maxHeartbeats 2000000 in
theorem takeOther (d : Nat) (s : ByteArray) (w : World) (hd : d + 1 ≤ 40) (hs : s.size ≤ 4000) (h0 : 0 < s.size) (b : UInt8) (t : List UInt8) (hh : Head s h0 b t) (ha : arity b = none) :
  Calls Tryz.prog 175 #[.string s, .int .i64 ((d + 1 : Nat) : Int)] w fun e w' => Tks s.data.toList (size (d + 1) s.data.toList) e ∧ Below w.heap.size w w' := by
 have hz : size (d + 1) s.data.toList = 0 := by
  rw [hh.all, size_cons]; unfold body; rw [ha]; rfl
 rw [hz]
 have hdd : (((d : Int) + 1) == 0) = false := by rw [beq_eq_false_iff_ne]; omega
 have he := nonempty_str (s := s) (by rw [hh.all]; simp)
 have hb := hh.first
 have hx0 : (0 : Int) < (s.size : Int) := by omega
 have hx1 : (1 : Int) ≤ (s.size : Int) := by omega
 have hk : ∀ k : UInt8, arity k ≠ none → ((b.toNat : Int) == (k.toNat : Int)) = false := fun k hk => by
  rw [beq_eq_false_iff_ne]; intro h; exact hk (by rw [← UInt8.toNat_inj.1 (show b.toNat = k.toNat by omega)]; exact ha)
 have c97 : ((b.toNat : Int) == 97) = false := hk 97 (by decide)
 have c116 : ((b.toNat : Int) == 116) = false := hk 116 (by decide)
 have c104 : ((b.toNat : Int) == 104) = false := hk 104 (by decide)
 have c117 : ((b.toNat : Int) == 117) = false := hk 117 (by decide)
 have c112 : ((b.toNat : Int) == 112) = false := hk 112 (by decide)
 have c115 : ((b.toNat : Int) == 115) = false := hk 115 (by decide)
 have c98 : ((b.toNat : Int) == 98) = false := hk 98 (by decide)
 have c103 : ((b.toNat : Int) == 103) = false := hk 103 (by decide)
 clear hh ha hz hk
 go_enter Tryz.func175, Tryz.ntmps175
 go_wp2_with fail
 go_quiet (fail)
 go_wp2
 go_ret2
 exact ⟨.inl ⟨rfl, rfl⟩, bdrew _ _⟩
theorem take_at : ∀ d, d ≤ 40 → TakeAt d
 | 0, _ => take_zero
 | d + 1, hd => fun s w hs => by
  by_cases h : s.data.toList = []
  · exact take_empty (d + 1) s w h
  ·
   have h0 : 0 < s.size := by rw [Lib.size_eq]; exact List.length_pos_iff.2 h
   obtain ⟨b, t, hh⟩ := head_of h0
   have ih := take_at d (by omega)
   by_cases k1 : b = 97
   · subst k1; exact takeAtom d ih s w hd hs h0 t hh
   by_cases k2 : b = 116
   · subst k2; exact takeText d ih s w hd hs h0 t hh
   by_cases k3 : b = 104
   · subst k3; exact takeHash d ih s w hd hs h0 t hh
   by_cases k4 : b = 117
   · subst k4; exact takePub d ih s w hd hs h0 t hh
   by_cases k5 : b = 112
   · subst k5; exact takePair d ih s w hd hs h0 t hh
   by_cases k6 : b = 115
   · subst k6; exact takeSealed d ih s w hd hs h0 t hh
   by_cases k7 : b = 98
   · subst k7; exact takeBoxed d ih s w hd hs h0 t hh
   by_cases k8 : b = 103
   · subst k8; exact takeSigned d ih s w hd hs h0 t hh
   exact takeOther d s w hd hs h0 b t hh (by unfold arity; rw [if_neg (by simp [k1, k2]), if_neg (by simp [k3, k4]), if_neg (by simp [k5, k6, k7, k8])])

def Wh (l : List UInt8) (e : Ending) : Prop := (right l = false ∧ e = .returned .nilIface) ∨ (right l = true ∧ ∃ (T : TypeId) (a : Value), Shp l (.iface T a) ∧ e = .returned (.iface T a))
set_option maxHeartbeats 2000000 in
theorem whole_any (s : ByteArray) (w : World) :
  Calls Tryz.prog 130 #[.string s] w fun e w' => Wh s.data.toList e ∧ Below w.heap.size w w' := by
 by_cases hs : (s.size : Int) ≤ 4000
 ·
  obtain ⟨n, hn⟩ : ∃ n, size 40 s.data.toList = n := ⟨_, rfl⟩
  have HN := zh hn
  have hle := size_le 40 s.data.toList
  rw [hn, ← Lib.size_eq] at hle
  have HC : Hid (∀ w, Calls Tryz.prog 175 #[.string s, .int .i64 40] w fun e w' => Tks s.data.toList (size 40 s.data.toList) e ∧ Below w.heap.size w w') := fun w => take_at 40 zl s w (by omega)
  by_cases h0 : n = 0
  ·
   have hr : right s.data.toList = false := by
    rw [← Bool.not_eq_true]; intro h
    obtain ⟨h1, _, h3⟩ := right_iff.1 h
    exact h1 (List.eq_nil_of_length_eq_zero (by omega))
   have HR := zh hr
   have H0 := zh h0
   clear hn h0 hr
   go_enter Tryz.func130, Tryz.ntmps130
   go_wp2_with (go_at_call 175; refine (HC.out _).mono ?_; rw [HN.out]; rintro e w1 ⟨ht, hb1⟩; obtain rfl := ht.zero H0.out; have HB1 := zh hb1; clear hb1 ht; dsimp only)
   go_ret
   exact ⟨.inl ⟨HR.out, rfl⟩, HB1.out⟩
  ·
   by_cases hf : n = s.size
   ·
    have hr : right s.data.toList = true := right_iff.2 ⟨fun h => h0 (by rw [← hn, h]; exact size_nil 40), by rw [← Lib.size_eq]; omega, by rw [hn, hf, Lib.size_eq]⟩
    have HR := zh hr
    have H0 := zh h0
    have HF := zh hf
    clear hn h0 hr hf
    go_enter Tryz.func130, Tryz.ntmps130
    go_wp2_with (go_at_call 175; refine (HC.out _).mono ?_; rw [HN.out]; rintro e w1 ⟨ht, hb1⟩; obtain ⟨T, a, R, hsh, hR, rfl⟩ := ht.pos H0.out; have hRe := empty_str (s := R) (by rw [hR, HF.out, Lib.size_eq, List.drop_length]); have HSH := zh hsh; have HB1 := zh hb1; clear hb1 ht hsh hR; dsimp only)
    go_ret
    refine ⟨.inr ⟨HR.out, T, a, ?_, rfl⟩, HB1.out⟩
    have h := HSH.out
    rw [HF.out, Lib.size_eq, List.take_length] at h
    exact h
   ·
    have hr : right s.data.toList = false := by
     rw [← Bool.not_eq_true]; intro h
     obtain ⟨_, _, h3⟩ := right_iff.1 h
     exact hf (by rw [← hn, h3, Lib.size_eq])
    have HR := zh hr
    have H0 := zh h0
    have HF : Hid (n < s.size) := by show n < s.size; omega
    clear hn h0 hr hf
    go_enter Tryz.func130, Tryz.ntmps130
    go_wp2_with (go_at_call 175; refine (HC.out _).mono ?_; rw [HN.out]; rintro e w1 ⟨ht, hb1⟩; obtain ⟨T, a, R, hsh, hR, rfl⟩ := ht.pos H0.out; have hRe := nonempty_str (s := R) (by rw [hR]; intro h; have h2 := congrArg List.length h; rw [List.length_drop, ← Lib.size_eq, List.length_nil] at h2; have := HF.out; omega); have HB1 := zh hb1; clear hb1 ht hsh hR; dsimp only)
    go_ret
    exact ⟨.inl ⟨HR.out, rfl⟩, HB1.out⟩
 ·
  have hr : right s.data.toList = false := by
   rw [← Bool.not_eq_true]; intro h
   have := (right_iff.1 h).2.1
   rw [← Lib.size_eq] at this; omega
  have HR := zh hr
  clear hr
  go_enter Tryz.func130, Tryz.ntmps130
  go_wp2_with fail
  go_ret
  exact ⟨.inl ⟨HR.out, rfl⟩, Below.refl _ _⟩
end Go.Proofs.YtbdealddjonobaaGreat.Term

namespace Go.Proofs.YtbdealddjonobaaGreat.Term
open Go.RowKit Wire

theorem cuts_one {P : List UInt8} (h : right P = true) : cuts 1 P = [P] := by
 have h1 := right_size h []
 rw [List.append_nil] at h1
 show P.take (size 40 P) :: [] = _
 rw [h1, List.take_length]
theorem cuts_two {P Q : List UInt8} (h : right P = true) (h2 : right Q = true) : cuts 2 (P ++ Q) = [P, Q] := by
 have h1 := right_size h Q
 show (P ++ Q).take (size 40 (P ++ Q)) :: cuts 1 ((P ++ Q).drop (size 40 (P ++ Q))) = _
 rw [h1, List.take_left, List.drop_left, cuts_one h2]
theorem Wh.zero {l : List UInt8} {e : Ending} (h : Wh l e) (h0 : right l = false) : e = .returned .nilIface := by
 rcases h with ⟨_, h⟩ | ⟨h, _⟩
 · exact h
 · rw [h0] at h; cases h
theorem Wh.pos {l : List UInt8} {e : Ending} (h : Wh l e) (h0 : right l = true) : ∃ (T : TypeId) (a : Value), Shp l (.iface T a) ∧ e = .returned (.iface T a) := by
 rcases h with ⟨h, _⟩ | ⟨_, h⟩
 · rw [h0] at h; cases h
 · exact h
theorem Shp.of_atom {l : List UInt8} {T : TypeId} {a : Value} (h : Shp l (.iface T a)) (hx : l.headD 0 = 97) : T = 237 ∧ ∃ n : Nat, a = .agg #[.int .u64 n] ∧ n < 18446744073709551616 ∧ l = 97 :: put n := by
 rcases h with ⟨_, hp, hl, h⟩ | ⟨_, hp, hl, h⟩ | ⟨_, hp, hl, h⟩ | ⟨_, hp, hl, h⟩ | ⟨_, _, hp, hl, h⟩ | ⟨_, _, hp, hl, h⟩ | ⟨_, _, hp, hl, h⟩ | ⟨_, _, hp, hl, h⟩
 case inl => injection h with h1 h2; exact ⟨h1, _, h2, hp, hl⟩
 all_goals (rw [hl] at hx; simp at hx)
theorem Shp.of_text {l : List UInt8} {T : TypeId} {a : Value} (h : Shp l (.iface T a)) (hx : l.headD 0 = 116) : T = 239 ∧ ∃ W : ByteArray, a = .agg #[.string W] ∧ W.size ≤ 4000 ∧ l = 116 :: putText W.data.toList := by
 rcases h with ⟨_, hp, hl, h⟩ | ⟨_, hp, hl, h⟩ | ⟨_, hp, hl, h⟩ | ⟨_, hp, hl, h⟩ | ⟨_, _, hp, hl, h⟩ | ⟨_, _, hp, hl, h⟩ | ⟨_, _, hp, hl, h⟩ | ⟨_, _, hp, hl, h⟩
 case inr.inl => injection h with h1 h2; exact ⟨h1, _, h2, hp, hl⟩
 all_goals (rw [hl] at hx; simp at hx)
theorem Shp.of_publicOne {l : List UInt8} {T : TypeId} {a : Value} (h : Shp l (.iface T a)) (hx : l.headD 0 = 117) : T = 168 ∧ ∃ P : ByteArray, a = .agg #[.string P] ∧ right P.data.toList = true ∧ l = 117 :: P.data.toList := by
 rcases h with ⟨_, hp, hl, h⟩ | ⟨_, hp, hl, h⟩ | ⟨_, hp, hl, h⟩ | ⟨_, hp, hl, h⟩ | ⟨_, _, hp, hl, h⟩ | ⟨_, _, hp, hl, h⟩ | ⟨_, _, hp, hl, h⟩ | ⟨_, _, hp, hl, h⟩
 case inr.inr.inr.inl => injection h with h1 h2; exact ⟨h1, _, h2, hp, hl⟩
 all_goals (rw [hl] at hx; simp at hx)
theorem Shp.no_publicOne {l : List UInt8} {T : TypeId} {a : Value} (h : Shp l (.iface T a)) (hx : l.headD 0 ≠ 117) : T ≠ 168 := by
 rcases h with ⟨_, hp, hl, h⟩ | ⟨_, hp, hl, h⟩ | ⟨_, hp, hl, h⟩ | ⟨_, hp, hl, h⟩ | ⟨_, _, hp, hl, h⟩ | ⟨_, _, hp, hl, h⟩ | ⟨_, _, hp, hl, h⟩ | ⟨_, _, hp, hl, h⟩
 case inr.inr.inr.inl => exact absurd (by rw [hl]; rfl) hx
 all_goals (injection h with h1 _; rw [h1]; decide)
theorem Shp.of_sealed {l : List UInt8} {T : TypeId} {a : Value} (h : Shp l (.iface T a)) (hx : l.headD 0 = 115) : T = 245 ∧ ∃ P Q : ByteArray, a = .agg #[.string P, .string Q] ∧ right P.data.toList = true ∧ right Q.data.toList = true ∧ l = 115 :: (P.data.toList ++ Q.data.toList) := by
 rcases h with ⟨_, hp, hl, h⟩ | ⟨_, hp, hl, h⟩ | ⟨_, hp, hl, h⟩ | ⟨_, hp, hl, h⟩ | ⟨_, _, hp, hl, h⟩ | ⟨_, _, hp, hl, h⟩ | ⟨_, _, hp, hl, h⟩ | ⟨_, _, hp, hl, h⟩
 case inr.inr.inr.inr.inr.inl => injection h with h1 h2; exact ⟨h1, _, _, h2, hp.1, hp.2, hl⟩
 all_goals (rw [hl] at hx; simp at hx)
theorem Shp.of_boxed {l : List UInt8} {T : TypeId} {a : Value} (h : Shp l (.iface T a)) (hx : l.headD 0 = 98) : T = 175 ∧ ∃ P Q : ByteArray, a = .agg #[.string P, .string Q] ∧ right P.data.toList = true ∧ right Q.data.toList = true ∧ l = 98 :: (P.data.toList ++ Q.data.toList) := by
 rcases h with ⟨_, hp, hl, h⟩ | ⟨_, hp, hl, h⟩ | ⟨_, hp, hl, h⟩ | ⟨_, hp, hl, h⟩ | ⟨_, _, hp, hl, h⟩ | ⟨_, _, hp, hl, h⟩ | ⟨_, _, hp, hl, h⟩ | ⟨_, _, hp, hl, h⟩
 case inr.inr.inr.inr.inr.inr.inr => injection h with h1 h2; exact ⟨h1, _, _, h2, hp.1, hp.2.1, hl⟩
 all_goals (rw [hl] at hx; simp at hx)
theorem Shp.no_boxed {l : List UInt8} {T : TypeId} {a : Value} (h : Shp l (.iface T a)) (hx : l.headD 0 ≠ 98) : T ≠ 175 := by
 rcases h with ⟨_, hp, hl, h⟩ | ⟨_, hp, hl, h⟩ | ⟨_, hp, hl, h⟩ | ⟨_, hp, hl, h⟩ | ⟨_, _, hp, hl, h⟩ | ⟨_, _, hp, hl, h⟩ | ⟨_, _, hp, hl, h⟩ | ⟨_, _, hp, hl, h⟩
 case inr.inr.inr.inr.inr.inr.inr => exact absurd (by rw [hl]; rfl) hx
 all_goals (injection h with h1 _; rw [h1]; decide)
theorem Shp.of_signed {l : List UInt8} {T : TypeId} {a : Value} (h : Shp l (.iface T a)) (hx : l.headD 0 = 103) : T = 171 ∧ ∃ P Q : ByteArray, a = .agg #[.string P, .string Q] ∧ right P.data.toList = true ∧ right Q.data.toList = true ∧ l = 103 :: (P.data.toList ++ Q.data.toList) := by
 rcases h with ⟨_, hp, hl, h⟩ | ⟨_, hp, hl, h⟩ | ⟨_, hp, hl, h⟩ | ⟨_, hp, hl, h⟩ | ⟨_, _, hp, hl, h⟩ | ⟨_, _, hp, hl, h⟩ | ⟨_, _, hp, hl, h⟩ | ⟨_, _, hp, hl, h⟩
 case inr.inr.inr.inr.inr.inr.inl => injection h with h1 h2; exact ⟨h1, _, _, h2, hp.1, hp.2, hl⟩
 all_goals (rw [hl] at hx; simp at hx)
theorem Shp.no_signed {l : List UInt8} {T : TypeId} {a : Value} (h : Shp l (.iface T a)) (hx : l.headD 0 ≠ 103) : T ≠ 171 := by
 rcases h with ⟨_, hp, hl, h⟩ | ⟨_, hp, hl, h⟩ | ⟨_, hp, hl, h⟩ | ⟨_, hp, hl, h⟩ | ⟨_, _, hp, hl, h⟩ | ⟨_, _, hp, hl, h⟩ | ⟨_, _, hp, hl, h⟩ | ⟨_, _, hp, hl, h⟩
 case inr.inr.inr.inr.inr.inr.inl => exact absurd (by rw [hl]; rfl) hx
 all_goals (injection h with h1 _; rw [h1]; decide)
theorem Shp.of_hash {l : List UInt8} {T : TypeId} {a : Value} (h : Shp l (.iface T a)) (hx : l.headD 0 = 104) : T = 241 ∧ ∃ P : ByteArray, a = .agg #[.string P] ∧ right P.data.toList = true ∧ l = 104 :: P.data.toList := by
 rcases h with ⟨_, hp, hl, h⟩ | ⟨_, hp, hl, h⟩ | ⟨_, hp, hl, h⟩ | ⟨_, hp, hl, h⟩ | ⟨_, _, hp, hl, h⟩ | ⟨_, _, hp, hl, h⟩ | ⟨_, _, hp, hl, h⟩ | ⟨_, _, hp, hl, h⟩
 case inr.inr.inl => injection h with h1 h2; exact ⟨h1, _, h2, hp, hl⟩
 all_goals (rw [hl] at hx; simp at hx)
theorem Shp.of_pair {l : List UInt8} {T : TypeId} {a : Value} (h : Shp l (.iface T a)) (hx : l.headD 0 = 112) : T = 243 ∧ ∃ P Q : ByteArray, a = .agg #[.string P, .string Q] ∧ right P.data.toList = true ∧ right Q.data.toList = true ∧ l = 112 :: (P.data.toList ++ Q.data.toList) := by
 rcases h with ⟨_, hp, hl, h⟩ | ⟨_, hp, hl, h⟩ | ⟨_, hp, hl, h⟩ | ⟨_, hp, hl, h⟩ | ⟨_, _, hp, hl, h⟩ | ⟨_, _, hp, hl, h⟩ | ⟨_, _, hp, hl, h⟩ | ⟨_, _, hp, hl, h⟩
 case inr.inr.inr.inr.inl => injection h with h1 h2; exact ⟨h1, _, _, h2, hp.1, hp.2, hl⟩
 all_goals (rw [hl] at hx; simp at hx)
theorem opens_of {k : UInt8} {key P Q : List UInt8} (hr : right (k :: (P ++ Q)) = true) (hk : arity k = some 2) (h : right P = true) (h2 : right Q = true) : opens k key (k :: (P ++ Q)) = if P = key then (Q, 0) else ([], 6) := by
 have hp : parts (k :: (P ++ Q)) = ([P, Q], 0) := by
  unfold parts
  rw [if_pos hr]
  show (cuts ((arity k).getD 0) (P ++ Q), 0) = _
  rw [hk]
  show (cuts 2 (P ++ Q), 0) = _
  rw [cuts_two h h2]
 unfold opens
 rw [if_pos (show (k :: (P ++ Q)).headD 0 = k from rfl), hp]
 rfl
theorem opens_not {k : UInt8} {key c : List UInt8} (h : c.headD 0 ≠ k) : opens k key c = ([], 2) := by unfold opens; rw [if_neg h]

set_option maxHeartbeats 1000000 in
theorem t_Kind (a : ByteArray) (w : World) (_ : a.size ≤ 140737488355328) :
  Calls Tryz.prog 83 #[.string a] w fun e w' => e = .returned (.int .u8 (kind a.data.toList : Nat)) ∧ Below w.heap.size w w' := by
 have q0 := nil_no
 have q1 := nil_yes
 cases hr : right a.data.toList with
 | true =>
  have HR := zh hr
  have hz := (right_sz hr).1
  have hz1 : (0 : Int) < (a.size : Int) := by omega
  have hh := head_get hz
  have hm : kind a.data.toList = (a[0]'hz).toNat := by
   unfold kind; rw [if_pos hr]
   cases hl : a.data.toList with
   | nil => rw [hl] at hh; cases hh
   | cons x y => rw [hl] at hh; rw [← Option.some.inj hh]; rfl
  rw [hm]
  clear hr hm hh
  go_enter Tryz.func83, Tryz.ntmps83
  go_wp2_with (go_at_call 130; refine (whole_any a _).mono ?_; rintro e w1 ⟨ht, hb1⟩; obtain ⟨T, v, hsh, rfl⟩ := ht.pos HR.out; have HB1 := zh hb1; clear hb1 ht hsh)
  go_ret
  exact ⟨rfl, HB1.out⟩
 | false =>
  have HR := zh hr
  have hm : kind a.data.toList = 0 := by unfold kind; rw [if_neg (by rw [hr]; decide)]
  rw [hm]
  clear hr hm
  go_enter Tryz.func83, Tryz.ntmps83
  go_wp2_with (go_at_call 130; refine (whole_any a _).mono ?_; rintro e w1 ⟨ht, hb1⟩; obtain rfl := ht.zero HR.out; have HB1 := zh hb1; clear hb1 ht)
  go_ret
  exact ⟨rfl, HB1.out⟩
end Go.Proofs.YtbdealddjonobaaGreat.Term

namespace Go.Proofs.YtbdealddjonobaaGreat.Term
open Go.RowKit Wire

theorem boxed_form {l : List UInt8} (h : right l = true) (hx : l.headD 0 = 98) : ∃ P Q : List UInt8, right P = true ∧ right Q = true ∧ l = 98 :: (P ++ Q) := by
 obtain ⟨b, t, m, rfl, ha, _⟩ := right_parts h
 obtain rfl : b = 98 := hx
 obtain ⟨x, y, rfl, _, h1, h2, _⟩ := two_parts h rfl
 exact ⟨x, y, h1, h2, rfl⟩
theorem signed_form {l : List UInt8} (h : right l = true) (hx : l.headD 0 = 103) : ∃ P Q : List UInt8, right P = true ∧ right Q = true ∧ l = 103 :: (P ++ Q) := by
 obtain ⟨b, t, m, rfl, ha, _⟩ := right_parts h
 obtain rfl : b = 103 := hx
 obtain ⟨x, y, rfl, _, h1, h2, _⟩ := two_parts h rfl
 exact ⟨x, y, h1, h2, rfl⟩
theorem pub_form {l : List UInt8} (h : right l = true) (hx : l.headD 0 = 117) : ∃ P : List UInt8, right P = true ∧ l = 117 :: P := by
 obtain ⟨b, t, m, rfl, ha, _⟩ := right_parts h
 obtain rfl : b = 117 := hx
 exact ⟨t, (one_part h rfl (by decide)).1, rfl⟩
theorem two_same {k : UInt8} {P Q X Y : List UInt8} (hP : right P = true) (hX : right X = true) (h : k :: (P ++ Q) = k :: (X ++ Y)) : P = X ∧ Q = Y := right_cut hP hX (List.cons.inj h).2
theorem verify_wrong {p a s : List UInt8} (h : right p = false ∨ right s = false ∨ right a = false) : verify p a s = 1 := by
 unfold verify; rw [if_neg]; rintro ⟨h1, h2, h3⟩
 rcases h with h | h | h
 · rw [h1] at h; cases h
 · rw [h3] at h; cases h
 · rw [h2] at h; cases h
theorem verify_eq {p a s : List UInt8} (h : right p = true) (h2 : right a = true) (h3 : right s = true) : verify p a s = if p.headD 0 = 117 ∧ s = 103 :: (p.tail ++ a) then 0 else 7 := by unfold verify; rw [if_pos ⟨h, h2, h3⟩]
end Go.Proofs.YtbdealddjonobaaGreat.Term

namespace Go.Proofs.YtbdealddjonobaaGreat.Term
open Go.RowKit Wire

theorem one_reads (W : World) (X : ByteArray) (g : Nat) (hg : g = W.heap.size) : SReads (W.alloc (.cells #[.string X] 9)) (some ⟨g, 0, none⟩) [X] := by
 subst hg
 intro j hj
 refine ⟨_, 0, rfl, by simp, ?_⟩
 have h : (W.alloc (.cells #[.string X] 9)).cell? ⟨W.heap.size, 0 + j, none⟩ = (#[.string X] : Array Value)[0 + j]? := cell_of_row _ _ _ _ _ (0, 0) (heap_alloc_new W _)
 refine Eq.trans h ?_
 match j, hj with
 | 0, _ => rfl
def Sl (ys : List ByteArray) (e : Ending) (w' : World) : Prop := ∃ (A : Option Addr) (c : Nat), ys.length ≤ c ∧ SReads w' A ys ∧ e = .returned (.slice A ys.length c)
theorem below2 {w w1 : World} (h : Below w.heap.size w w1) (o1 o2 : Obj) : Below w.heap.size w ((w1.alloc o1).alloc o2) := by
 have h1 := h.alloc h.size o1
 exact h1.alloc h1.size o2
theorem parts_atom (n : Int) (w : World) : Calls Tryz.prog 239 #[.agg #[.int .u64 n]] w fun e w' => Sl [] e w' ∧ Below w.heap.size w w' := by
 go_enter Tryz.func239, Tryz.ntmps239
 go_wp2
 go_ret
 exact ⟨⟨none, 0, Nat.le_refl _, SReads.nil _ _, rfl⟩, (Below.refl _ _).alloc zl _⟩
theorem parts_text (n : ByteArray) (w : World) : Calls Tryz.prog 240 #[.agg #[.string n]] w fun e w' => Sl [] e w' ∧ Below w.heap.size w w' := by
 go_enter Tryz.func240, Tryz.ntmps240
 go_wp2
 go_ret
 exact ⟨⟨none, 0, Nat.le_refl _, SReads.nil _ _, rfl⟩, (Below.refl _ _).alloc zl _⟩
theorem parts_hash (P : ByteArray) (w : World) : Calls Tryz.prog 241 #[.agg #[.string P]] w fun e w' => Sl [P] e w' ∧ Below w.heap.size w w' := by
 go_enter Tryz.func241, Tryz.ntmps241
 go_wp2
 go_ret
 exact ⟨⟨_, 1, Nat.le_refl _, one_reads _ P _ (by simp), rfl⟩, below2 (Below.refl _ _) _ _⟩
theorem parts_publicOne (P : ByteArray) (w : World) : Calls Tryz.prog 235 #[.agg #[.string P]] w fun e w' => Sl [P] e w' ∧ Below w.heap.size w w' := by
 go_enter Tryz.func235, Tryz.ntmps235
 go_wp2
 go_ret
 exact ⟨⟨_, 1, Nat.le_refl _, one_reads _ P _ (by simp), rfl⟩, below2 (Below.refl _ _) _ _⟩
theorem parts_pair (P Q : ByteArray) (w : World) : Calls Tryz.prog 242 #[.agg #[.string P, .string Q]] w fun e w' => Sl [P, Q] e w' ∧ Below w.heap.size w w' := by
 go_enter Tryz.func242, Tryz.ntmps242
 go_wp2
 go_ret
 exact ⟨⟨_, 2, Nat.le_refl _, pair_reads' _ P Q _ (by simp), rfl⟩, below2 (Below.refl _ _) _ _⟩
theorem parts_sealed (P Q : ByteArray) (w : World) : Calls Tryz.prog 243 #[.agg #[.string P, .string Q]] w fun e w' => Sl [P, Q] e w' ∧ Below w.heap.size w w' := by
 go_enter Tryz.func243, Tryz.ntmps243
 go_wp2
 go_ret
 exact ⟨⟨_, 2, Nat.le_refl _, pair_reads' _ P Q _ (by simp), rfl⟩, below2 (Below.refl _ _) _ _⟩
theorem parts_boxed (P Q : ByteArray) (w : World) : Calls Tryz.prog 237 #[.agg #[.string P, .string Q]] w fun e w' => Sl [P, Q] e w' ∧ Below w.heap.size w w' := by
 go_enter Tryz.func237, Tryz.ntmps237
 go_wp2
 go_ret
 exact ⟨⟨_, 2, Nat.le_refl _, pair_reads' _ P Q _ (by simp), rfl⟩, below2 (Below.refl _ _) _ _⟩
theorem parts_signed (P Q : ByteArray) (w : World) : Calls Tryz.prog 236 #[.agg #[.string P, .string Q]] w fun e w' => Sl [P, Q] e w' ∧ Below w.heap.size w w' := by
 go_enter Tryz.func236, Tryz.ntmps236
 go_wp2
 go_ret
 exact ⟨⟨_, 2, Nat.le_refl _, pair_reads' _ P Q _ (by simp), rfl⟩, below2 (Below.refl _ _) _ _⟩
theorem method_atom (n : Nat) (v : Value) (w : World) (nm : String) (h : (Tryz.prog.info? 237).map (fun i => (i.methods.toList.map (fun m => m.name)).head?) = some (some nm)) : (method (n + 1) 237 v nm).run Tryz.prog w = .ok (239, v) w := by
 have e : nm = (((Tryz.prog.info? 237).map (fun i => (i.methods.toList.map (fun m => m.name)).head?)).getD none).getD default := by rw [h]; rfl
 have aux : (method (n + 1) 237 v ((((Tryz.prog.info? 237).map (fun i => (i.methods.toList.map (fun m => m.name)).head?)).getD none).getD default)).run Tryz.prog w = .ok (239, v) w := by kernel_rfl
 rw [e]
 exact aux
theorem method_text (n : Nat) (v : Value) (w : World) (nm : String) (h : (Tryz.prog.info? 239).map (fun i => (i.methods.toList.map (fun m => m.name)).head?) = some (some nm)) : (method (n + 1) 239 v nm).run Tryz.prog w = .ok (240, v) w := by
 have e : nm = (((Tryz.prog.info? 239).map (fun i => (i.methods.toList.map (fun m => m.name)).head?)).getD none).getD default := by rw [h]; rfl
 have aux : (method (n + 1) 239 v ((((Tryz.prog.info? 239).map (fun i => (i.methods.toList.map (fun m => m.name)).head?)).getD none).getD default)).run Tryz.prog w = .ok (240, v) w := by kernel_rfl
 rw [e]
 exact aux
theorem method_hash (n : Nat) (v : Value) (w : World) (nm : String) (h : (Tryz.prog.info? 241).map (fun i => (i.methods.toList.map (fun m => m.name)).head?) = some (some nm)) : (method (n + 1) 241 v nm).run Tryz.prog w = .ok (241, v) w := by
 have e : nm = (((Tryz.prog.info? 241).map (fun i => (i.methods.toList.map (fun m => m.name)).head?)).getD none).getD default := by rw [h]; rfl
 have aux : (method (n + 1) 241 v ((((Tryz.prog.info? 241).map (fun i => (i.methods.toList.map (fun m => m.name)).head?)).getD none).getD default)).run Tryz.prog w = .ok (241, v) w := by kernel_rfl
 rw [e]
 exact aux
theorem method_publicOne (n : Nat) (v : Value) (w : World) (nm : String) (h : (Tryz.prog.info? 168).map (fun i => (i.methods.toList.map (fun m => m.name)).head?) = some (some nm)) : (method (n + 1) 168 v nm).run Tryz.prog w = .ok (235, v) w := by
 have e : nm = (((Tryz.prog.info? 168).map (fun i => (i.methods.toList.map (fun m => m.name)).head?)).getD none).getD default := by rw [h]; rfl
 have aux : (method (n + 1) 168 v ((((Tryz.prog.info? 168).map (fun i => (i.methods.toList.map (fun m => m.name)).head?)).getD none).getD default)).run Tryz.prog w = .ok (235, v) w := by kernel_rfl
 rw [e]
 exact aux
theorem method_pair (n : Nat) (v : Value) (w : World) (nm : String) (h : (Tryz.prog.info? 243).map (fun i => (i.methods.toList.map (fun m => m.name)).head?) = some (some nm)) : (method (n + 1) 243 v nm).run Tryz.prog w = .ok (242, v) w := by
 have e : nm = (((Tryz.prog.info? 243).map (fun i => (i.methods.toList.map (fun m => m.name)).head?)).getD none).getD default := by rw [h]; rfl
 have aux : (method (n + 1) 243 v ((((Tryz.prog.info? 243).map (fun i => (i.methods.toList.map (fun m => m.name)).head?)).getD none).getD default)).run Tryz.prog w = .ok (242, v) w := by kernel_rfl
 rw [e]
 exact aux
theorem method_sealed (n : Nat) (v : Value) (w : World) (nm : String) (h : (Tryz.prog.info? 245).map (fun i => (i.methods.toList.map (fun m => m.name)).head?) = some (some nm)) : (method (n + 1) 245 v nm).run Tryz.prog w = .ok (243, v) w := by
 have e : nm = (((Tryz.prog.info? 245).map (fun i => (i.methods.toList.map (fun m => m.name)).head?)).getD none).getD default := by rw [h]; rfl
 have aux : (method (n + 1) 245 v ((((Tryz.prog.info? 245).map (fun i => (i.methods.toList.map (fun m => m.name)).head?)).getD none).getD default)).run Tryz.prog w = .ok (243, v) w := by kernel_rfl
 rw [e]
 exact aux
theorem method_boxed (n : Nat) (v : Value) (w : World) (nm : String) (h : (Tryz.prog.info? 175).map (fun i => (i.methods.toList.map (fun m => m.name)).head?) = some (some nm)) : (method (n + 1) 175 v nm).run Tryz.prog w = .ok (237, v) w := by
 have e : nm = (((Tryz.prog.info? 175).map (fun i => (i.methods.toList.map (fun m => m.name)).head?)).getD none).getD default := by rw [h]; rfl
 have aux : (method (n + 1) 175 v ((((Tryz.prog.info? 175).map (fun i => (i.methods.toList.map (fun m => m.name)).head?)).getD none).getD default)).run Tryz.prog w = .ok (237, v) w := by kernel_rfl
 rw [e]
 exact aux
theorem method_signed (n : Nat) (v : Value) (w : World) (nm : String) (h : (Tryz.prog.info? 171).map (fun i => (i.methods.toList.map (fun m => m.name)).head?) = some (some nm)) : (method (n + 1) 171 v nm).run Tryz.prog w = .ok (236, v) w := by
 have e : nm = (((Tryz.prog.info? 171).map (fun i => (i.methods.toList.map (fun m => m.name)).head?)).getD none).getD default := by rw [h]; rfl
 have aux : (method (n + 1) 171 v ((((Tryz.prog.info? 171).map (fun i => (i.methods.toList.map (fun m => m.name)).head?)).getD none).getD default)).run Tryz.prog w = .ok (236, v) w := by kernel_rfl
 rw [e]
 exact aux
theorem heads {l : List UInt8} (h : right l = true) : l.headD 0 = 97 ∨ l.headD 0 = 116 ∨ l.headD 0 = 104 ∨ l.headD 0 = 117 ∨ l.headD 0 = 112 ∨ l.headD 0 = 115 ∨ l.headD 0 = 98 ∨ l.headD 0 = 103 := by
 obtain ⟨b, t, m, rfl, ha, _⟩ := right_parts h
 show b = 97 ∨ b = 116 ∨ b = 104 ∨ b = 117 ∨ b = 112 ∨ b = 115 ∨ b = 98 ∨ b = 103
 unfold arity at ha
 split at ha
 · rename_i h; rcases h with h | h <;> simp [h]
 ·
  split at ha
  · rename_i h; rcases h with h | h <;> simp [h]
  ·
   split at ha
   · rename_i h; rcases h with h | h | h | h <;> simp [h]
   · cases ha
theorem parts_leaf {l : List UInt8} (hr : right l = true) (h : l.headD 0 = 97 ∨ l.headD 0 = 116) : parts l = ([], 0) := by
 unfold parts
 rw [if_pos hr]
 have : arity (l.headD 0) = some 0 := by unfold arity; rw [if_pos h]
 rw [this]; rfl
theorem parts_un {k : UInt8} {P : List UInt8} (hr : right (k :: P) = true) (hk : arity k = some 1) (h : right P = true) : parts (k :: P) = ([P], 0) := by
 unfold parts
 rw [if_pos hr]
 show (cuts ((arity k).getD 0) P, 0) = _
 rw [hk]
 show (cuts 1 P, 0) = _
 rw [cuts_one h]
theorem parts_bi {k : UInt8} {P Q : List UInt8} (hr : right (k :: (P ++ Q)) = true) (hk : arity k = some 2) (h : right P = true) (h2 : right Q = true) : parts (k :: (P ++ Q)) = ([P, Q], 0) := by
 unfold parts
 rw [if_pos hr]
 show (cuts ((arity k).getD 0) (P ++ Q), 0) = _
 rw [hk]
 show (cuts 2 (P ++ Q), 0) = _
 rw [cuts_two h h2]
theorem parts_wrong {l : List UInt8} (hr : right l = false) : parts l = ([], 1) := by unfold parts; rw [if_neg (by rw [hr]; decide)]
theorem ta_of {ys : List ByteArray} {x : List (List UInt8) × Int} {w' : World} {A : Option Addr} {c : Nat} (hx : x = (bl ys, 0)) (hc : ys.length ≤ c) (hs : SReads w' A ys) : Ta x (.returned (.tuple #[.slice A ys.length c, .int .i64 0])) w' := by
 subst hx
 exact ⟨A, c, ys, rfl, hc, hs, rfl⟩
set_option maxHeartbeats 2000000 in
set_option maxRecDepth 1000000 in
theorem partsOf_atom (a : ByteArray) (w : World) (hr : right a.data.toList = true) (hx : a.data.toList.headD 0 = 97) :
  Calls Tryz.prog 84 #[.string a] w fun e w' => Ta (parts a.data.toList) e w' ∧ Below w.heap.size w w' := by
 have q0 := nil_no
 have q1 := nil_yes
 have HR := zh hr
 have HX := zh hx
 clear hr hx
 go_enter Tryz.func84, Tryz.ntmps84
 go_wp2_with (go_at_call 130; refine (whole_any a _).mono ?_; rintro e w1 ⟨ht, hb1⟩; obtain ⟨T, v, hsh, rfl⟩ := ht.pos HR.out; obtain ⟨rfl, n, rfl, _, hl⟩ := hsh.of_atom HX.out; have HL := zh hl; clear hl; have HB1 := zh hb1; clear hb1 ht hsh; dsimp only)
 rw [method_atom _ _ _ _ (by kernel_rfl)]
 go_wp2_with fail
 refine (parts_atom n _).mono ?_
 rintro e w2 ⟨⟨A, c, hc, hs, rfl⟩, hb2⟩
 have HB2 := zh (HB1.out.trans (hb2.mono HB1.out.size))
 have HS := zh hs
 have HC := zh hc
 clear hb2 hs hc
 dsimp only
 go_wp2
 go_ret2
 exact ⟨ta_of (ys := []) (parts_leaf HR.out (.inl HX.out)) HC.out HS.out, HB2.out⟩
set_option maxHeartbeats 2000000 in
set_option maxRecDepth 1000000 in
theorem partsOf_text (a : ByteArray) (w : World) (hr : right a.data.toList = true) (hx : a.data.toList.headD 0 = 116) :
  Calls Tryz.prog 84 #[.string a] w fun e w' => Ta (parts a.data.toList) e w' ∧ Below w.heap.size w w' := by
 have q0 := nil_no
 have q1 := nil_yes
 have HR := zh hr
 have HX := zh hx
 clear hr hx
 go_enter Tryz.func84, Tryz.ntmps84
 go_wp2_with (go_at_call 130; refine (whole_any a _).mono ?_; rintro e w1 ⟨ht, hb1⟩; obtain ⟨T, v, hsh, rfl⟩ := ht.pos HR.out; obtain ⟨rfl, n, rfl, _, hl⟩ := hsh.of_text HX.out; have HL := zh hl; clear hl; have HB1 := zh hb1; clear hb1 ht hsh; dsimp only)
 rw [method_text _ _ _ _ (by kernel_rfl)]
 go_wp2_with fail
 refine (parts_text n _).mono ?_
 rintro e w2 ⟨⟨A, c, hc, hs, rfl⟩, hb2⟩
 have HB2 := zh (HB1.out.trans (hb2.mono HB1.out.size))
 have HS := zh hs
 have HC := zh hc
 clear hb2 hs hc
 dsimp only
 go_wp2
 go_ret2
 exact ⟨ta_of (ys := []) (parts_leaf HR.out (.inr HX.out)) HC.out HS.out, HB2.out⟩
set_option maxHeartbeats 2000000 in
set_option maxRecDepth 1000000 in
theorem partsOf_hash (a : ByteArray) (w : World) (hr : right a.data.toList = true) (hx : a.data.toList.headD 0 = 104) :
  Calls Tryz.prog 84 #[.string a] w fun e w' => Ta (parts a.data.toList) e w' ∧ Below w.heap.size w w' := by
 have q0 := nil_no
 have q1 := nil_yes
 have HR := zh hr
 have HX := zh hx
 clear hr hx
 go_enter Tryz.func84, Tryz.ntmps84
 go_wp2_with (go_at_call 130; refine (whole_any a _).mono ?_; rintro e w1 ⟨ht, hb1⟩; obtain ⟨T, v, hsh, rfl⟩ := ht.pos HR.out; obtain ⟨rfl, X, rfl, hX, hl⟩ := hsh.of_hash HX.out; have HL := zh hl; have HXX := zh hX; clear hl hX; have HB1 := zh hb1; clear hb1 ht hsh; dsimp only)
 rw [method_hash _ _ _ _ (by kernel_rfl)]
 go_wp2_with fail
 refine (parts_hash X _).mono ?_
 rintro e w2 ⟨⟨A, c, hc, hs, rfl⟩, hb2⟩
 have HB2 := zh (HB1.out.trans (hb2.mono HB1.out.size))
 have HS := zh hs
 have HC := zh hc
 clear hb2 hs hc
 dsimp only
 go_wp2
 go_ret2
 exact ⟨ta_of (ys := [X]) (by rw [HL.out]; exact parts_un (by rw [← HL.out]; exact HR.out) rfl HXX.out) HC.out HS.out, HB2.out⟩
set_option maxHeartbeats 2000000 in
set_option maxRecDepth 1000000 in
theorem partsOf_publicOne (a : ByteArray) (w : World) (hr : right a.data.toList = true) (hx : a.data.toList.headD 0 = 117) :
  Calls Tryz.prog 84 #[.string a] w fun e w' => Ta (parts a.data.toList) e w' ∧ Below w.heap.size w w' := by
 have q0 := nil_no
 have q1 := nil_yes
 have HR := zh hr
 have HX := zh hx
 clear hr hx
 go_enter Tryz.func84, Tryz.ntmps84
 go_wp2_with (go_at_call 130; refine (whole_any a _).mono ?_; rintro e w1 ⟨ht, hb1⟩; obtain ⟨T, v, hsh, rfl⟩ := ht.pos HR.out; obtain ⟨rfl, X, rfl, hX, hl⟩ := hsh.of_publicOne HX.out; have HL := zh hl; have HXX := zh hX; clear hl hX; have HB1 := zh hb1; clear hb1 ht hsh; dsimp only)
 rw [method_publicOne _ _ _ _ (by kernel_rfl)]
 go_wp2_with fail
 refine (parts_publicOne X _).mono ?_
 rintro e w2 ⟨⟨A, c, hc, hs, rfl⟩, hb2⟩
 have HB2 := zh (HB1.out.trans (hb2.mono HB1.out.size))
 have HS := zh hs
 have HC := zh hc
 clear hb2 hs hc
 dsimp only
 go_wp2
 go_ret2
 exact ⟨ta_of (ys := [X]) (by rw [HL.out]; exact parts_un (by rw [← HL.out]; exact HR.out) rfl HXX.out) HC.out HS.out, HB2.out⟩
set_option maxHeartbeats 2000000 in
set_option maxRecDepth 1000000 in
theorem partsOf_pair (a : ByteArray) (w : World) (hr : right a.data.toList = true) (hx : a.data.toList.headD 0 = 112) :
  Calls Tryz.prog 84 #[.string a] w fun e w' => Ta (parts a.data.toList) e w' ∧ Below w.heap.size w w' := by
 have q0 := nil_no
 have q1 := nil_yes
 have HR := zh hr
 have HX := zh hx
 clear hr hx
 go_enter Tryz.func84, Tryz.ntmps84
 go_wp2_with (go_at_call 130; refine (whole_any a _).mono ?_; rintro e w1 ⟨ht, hb1⟩; obtain ⟨T, v, hsh, rfl⟩ := ht.pos HR.out; obtain ⟨rfl, X, Y, rfl, hX, hY, hl⟩ := hsh.of_pair HX.out; have HL := zh hl; have HXX := zh hX; have HYY := zh hY; clear hl hX hY; have HB1 := zh hb1; clear hb1 ht hsh; dsimp only)
 rw [method_pair _ _ _ _ (by kernel_rfl)]
 go_wp2_with fail
 refine (parts_pair X Y _).mono ?_
 rintro e w2 ⟨⟨A, c, hc, hs, rfl⟩, hb2⟩
 have HB2 := zh (HB1.out.trans (hb2.mono HB1.out.size))
 have HS := zh hs
 have HC := zh hc
 clear hb2 hs hc
 dsimp only
 go_wp2
 go_ret2
 exact ⟨ta_of (ys := [X, Y]) (by rw [HL.out]; exact parts_bi (by rw [← HL.out]; exact HR.out) rfl HXX.out HYY.out) HC.out HS.out, HB2.out⟩
set_option maxHeartbeats 2000000 in
set_option maxRecDepth 1000000 in
theorem partsOf_sealed (a : ByteArray) (w : World) (hr : right a.data.toList = true) (hx : a.data.toList.headD 0 = 115) :
  Calls Tryz.prog 84 #[.string a] w fun e w' => Ta (parts a.data.toList) e w' ∧ Below w.heap.size w w' := by
 have q0 := nil_no
 have q1 := nil_yes
 have HR := zh hr
 have HX := zh hx
 clear hr hx
 go_enter Tryz.func84, Tryz.ntmps84
 go_wp2_with (go_at_call 130; refine (whole_any a _).mono ?_; rintro e w1 ⟨ht, hb1⟩; obtain ⟨T, v, hsh, rfl⟩ := ht.pos HR.out; obtain ⟨rfl, X, Y, rfl, hX, hY, hl⟩ := hsh.of_sealed HX.out; have HL := zh hl; have HXX := zh hX; have HYY := zh hY; clear hl hX hY; have HB1 := zh hb1; clear hb1 ht hsh; dsimp only)
 rw [method_sealed _ _ _ _ (by kernel_rfl)]
 go_wp2_with fail
 refine (parts_sealed X Y _).mono ?_
 rintro e w2 ⟨⟨A, c, hc, hs, rfl⟩, hb2⟩
 have HB2 := zh (HB1.out.trans (hb2.mono HB1.out.size))
 have HS := zh hs
 have HC := zh hc
 clear hb2 hs hc
 dsimp only
 go_wp2
 go_ret2
 exact ⟨ta_of (ys := [X, Y]) (by rw [HL.out]; exact parts_bi (by rw [← HL.out]; exact HR.out) rfl HXX.out HYY.out) HC.out HS.out, HB2.out⟩
set_option maxHeartbeats 2000000 in
set_option maxRecDepth 1000000 in
theorem partsOf_boxed (a : ByteArray) (w : World) (hr : right a.data.toList = true) (hx : a.data.toList.headD 0 = 98) :
  Calls Tryz.prog 84 #[.string a] w fun e w' => Ta (parts a.data.toList) e w' ∧ Below w.heap.size w w' := by
 have q0 := nil_no
 have q1 := nil_yes
 have HR := zh hr
 have HX := zh hx
 clear hr hx
 go_enter Tryz.func84, Tryz.ntmps84
 go_wp2_with (go_at_call 130; refine (whole_any a _).mono ?_; rintro e w1 ⟨ht, hb1⟩; obtain ⟨T, v, hsh, rfl⟩ := ht.pos HR.out; obtain ⟨rfl, X, Y, rfl, hX, hY, hl⟩ := hsh.of_boxed HX.out; have HL := zh hl; have HXX := zh hX; have HYY := zh hY; clear hl hX hY; have HB1 := zh hb1; clear hb1 ht hsh; dsimp only)
 rw [method_boxed _ _ _ _ (by kernel_rfl)]
 go_wp2_with fail
 refine (parts_boxed X Y _).mono ?_
 rintro e w2 ⟨⟨A, c, hc, hs, rfl⟩, hb2⟩
 have HB2 := zh (HB1.out.trans (hb2.mono HB1.out.size))
 have HS := zh hs
 have HC := zh hc
 clear hb2 hs hc
 dsimp only
 go_wp2
 go_ret2
 exact ⟨ta_of (ys := [X, Y]) (by rw [HL.out]; exact parts_bi (by rw [← HL.out]; exact HR.out) rfl HXX.out HYY.out) HC.out HS.out, HB2.out⟩
set_option maxHeartbeats 2000000 in
set_option maxRecDepth 1000000 in
theorem partsOf_signed (a : ByteArray) (w : World) (hr : right a.data.toList = true) (hx : a.data.toList.headD 0 = 103) :
  Calls Tryz.prog 84 #[.string a] w fun e w' => Ta (parts a.data.toList) e w' ∧ Below w.heap.size w w' := by
 have q0 := nil_no
 have q1 := nil_yes
 have HR := zh hr
 have HX := zh hx
 clear hr hx
 go_enter Tryz.func84, Tryz.ntmps84
 go_wp2_with (go_at_call 130; refine (whole_any a _).mono ?_; rintro e w1 ⟨ht, hb1⟩; obtain ⟨T, v, hsh, rfl⟩ := ht.pos HR.out; obtain ⟨rfl, X, Y, rfl, hX, hY, hl⟩ := hsh.of_signed HX.out; have HL := zh hl; have HXX := zh hX; have HYY := zh hY; clear hl hX hY; have HB1 := zh hb1; clear hb1 ht hsh; dsimp only)
 rw [method_signed _ _ _ _ (by kernel_rfl)]
 go_wp2_with fail
 refine (parts_signed X Y _).mono ?_
 rintro e w2 ⟨⟨A, c, hc, hs, rfl⟩, hb2⟩
 have HB2 := zh (HB1.out.trans (hb2.mono HB1.out.size))
 have HS := zh hs
 have HC := zh hc
 clear hb2 hs hc
 dsimp only
 go_wp2
 go_ret2
 exact ⟨ta_of (ys := [X, Y]) (by rw [HL.out]; exact parts_bi (by rw [← HL.out]; exact HR.out) rfl HXX.out HYY.out) HC.out HS.out, HB2.out⟩
set_option maxHeartbeats 1000000 in
theorem t_Parts (a : ByteArray) (w : World) (_ : a.size ≤ 140737488355328) :
  Calls Tryz.prog 84 #[.string a] w fun e w' => Ta (parts a.data.toList) e w' ∧ Below w.heap.size w w' := by
 cases hr : right a.data.toList with
 | true =>
  rcases heads hr with h | h | h | h | h | h | h | h
  · exact partsOf_atom a w hr h
  · exact partsOf_text a w hr h
  · exact partsOf_hash a w hr h
  · exact partsOf_publicOne a w hr h
  · exact partsOf_pair a w hr h
  · exact partsOf_sealed a w hr h
  · exact partsOf_boxed a w hr h
  · exact partsOf_signed a w hr h
 | false =>
  have q1 := nil_yes
  have HR := zh hr
  rw [parts_wrong hr]
  clear hr
  go_enter Tryz.func84, Tryz.ntmps84
  go_wp2_with (go_at_call 130; refine (whole_any a _).mono ?_; rintro e w1 ⟨ht, hb1⟩; obtain rfl := ht.zero HR.out; have HB1 := zh hb1; clear hb1 ht)
  go_ret2
  exact ⟨ta_nil _ _, HB1.out⟩
end Go.Proofs.YtbdealddjonobaaGreat.Term

namespace Go.Proofs.YtbdealddjonobaaGreat.Term
open Go.RowKit Wire

theorem strJoin_any (a : Option Addr) (c : Nat) (ys : List ByteArray) (w : World) (hr : SReads w a ys) (hN : ys.length ≤ 140737488355328) (hcap : ys.length ≤ c) (hlen : (cat ys).length ≤ 140737488355328) :
  Calls Tryz.prog 143 #[.slice a ys.length c, .string ⟨#[]⟩] w fun e w' => St (cat ys) e ∧ Below w.heap.size w w' := by
 cases ys with
 | nil => exact (Tryz.strings_Join_none a c ⟨#[]⟩ w).mono fun e w' ⟨he, hw⟩ => ⟨⟨_, rfl, he⟩, hw ▸ Below.refl _ _⟩
 | cons y r =>
  obtain ⟨b, off, rfl, hb, _⟩ := hr 0 (by simp)
  refine (Tryz.strings_Join b off c (y :: r) ⟨#[]⟩ w (fun j x hx => ?_) hb hN hcap (by rw [join_cat]; exact hlen)).mono fun e w' ⟨he, hw⟩ => ⟨⟨_, ?_, he⟩, hw⟩
  ·
   have hj := (List.getElem?_eq_some_iff.1 hx).1
   obtain ⟨b', off', e, _, hc⟩ := hr j hj
   injection e with e
   injection e with e1 e2
   subst e1 e2
   rw [hc]
   simp [List.getD, hx]
  · rw [join_cat]
theorem bdrew1 {B : Nat} {a w : World} (h : Below B a w) : Below B a w.drew := ⟨h.os, h.tape, h.output, h.size, h.block⟩
theorem after_alloc {w w1 w2 : World} {o : Obj} (h : Below w.heap.size w w1) (h2 : Below (w1.alloc o).heap.size (w1.alloc o) w2) : Below w.heap.size w w2 := by
 have h1 := h.alloc h.size o
 exact h1.trans (h2.mono h1.size)
theorem kept_cell {wr w1 : World} {v : Value} {t : TypeId} (h : Below ((wr.alloc (.cells #[v] t)).drew).heap.size ((wr.alloc (.cells #[v] t)).drew) w1) : w1.cell? ⟨wr.heap.size, 0, none⟩ = some v := by
 rw [h.cell (p := ⟨wr.heap.size, 0, none⟩) (by show wr.heap.size < (wr.heap.push _).size; simp)]
 have h2 : ((wr.alloc (.cells #[v] t)).drew).cell? ⟨wr.heap.size, 0, none⟩ = (#[v] : Array Value)[0]? := cell_of_row _ _ _ _ _ (0, 0) (heap_alloc_new wr _)
 rw [h2]; rfl
def glued (k : UInt8) (ys : List ByteArray) : List UInt8 × Int := if ∀ y ∈ ys, right y.data.toList = true then made (k :: cat ys) else ([], 1)
theorem glued_eq {k : UInt8} {ys : List ByteArray} (h : ∀ y ∈ ys, right y.data.toList = true) : glued k ys = made (k :: cat ys) := by unfold glued; rw [if_pos h]
theorem cat_len {ys : List ByteArray} (h : ∀ y ∈ ys, right y.data.toList = true) : (cat ys).length ≤ 4000 * ys.length := by
 induction ys with
 | nil => simp [cat]
 | cons y r ih =>
  have h1 := (right_len (h y (by simp))).2
  have h2 := ih (fun x hx => h x (by simp [hx]))
  have e : cat (y :: r) = y.data.toList ++ cat r := by simp [cat]
  rw [e, List.length_append, List.length_cons]
  omega
set_option maxHeartbeats 2000000 in
set_option maxRecDepth 1000000 in
theorem join_any (k : UInt8) (a : Option Addr) (c : Nat) (ys : List ByteArray) (w : World) (hr : SReads w a ys) (hN : ys.length ≤ 2) (hcap : ys.length ≤ c) :
    Calls Tryz.prog 98 #[.int .u8 (k.toNat : Int), .slice a ys.length c] w fun e w' => Sr (glued k ys) e ∧ Below w.heap.size w w' := by
  have HR := zh hr
  have q0 := nil_no
  have q1 := nil_yes
  clear hr
  go_enter Tryz.func98, Tryz.ntmps98
  go_wp2_with fail
  go_loopw [11] (fun i wr => ∃ n : Nat, n ≤ ys.length ∧ i = .int .i64 n ∧ Hid (∀ y ∈ ys.take n, right y.data.toList = true) ∧ Hid (Below w.heap.size w wr)) (fun i _ => ys.length - (intOf i).toNat)
  case atStart => exact ⟨0, Nat.zero_le _, rfl, by show ∀ y ∈ ys.take 0, _; simp, Below.refl _ _⟩
  case round =>
    obtain ⟨n, hn, rfl, HA, HW⟩ := hrel
    by_cases hlt : n < ys.length
    · obtain ⟨b, off, rfl, hblt, hcell⟩ := HR.out n hlt
      obtain ⟨y, hy⟩ : ∃ y, ys.getD n ByteArray.empty = y := ⟨_, rfl⟩
      rw [hy] at hcell
      rw [← HW.out.cell (p := ⟨b, off + n, none⟩) hblt] at hcell
      have HY := zh hy
      clear hy
      cases hry : right y.data.toList with
      | true =>
        have HRY := zh hry
        clear hry
        go_wp2_with (go_at_call 130; refine (whole_any y _).mono ?_; rintro e w1 ⟨ht, hb1⟩; obtain ⟨T, v, hsh, rfl⟩ := ht.pos HRY.out; have HB1 := zh (HW.out.trans (hb1.mono HW.out.size)); clear hb1 ht hsh)
        refine ⟨⟨n + 1, by omega, by go_num, ?_, HB1⟩, by simp [intOf]; omega⟩
        exact take_mem_step hlt HY.out HA.out HRY.out
      | false =>
        have HRY := zh hry
        clear hry
        go_wp2_with (go_at_call 130; refine (whole_any y _).mono ?_; rintro e w1 ⟨ht, hb1⟩; obtain rfl := ht.zero HRY.out; have HB1 := zh (HW.out.trans (hb1.mono HW.out.size)); clear hb1 ht)
        go_ret2
        have hg : glued k ys = ([], 1) := by
          unfold glued; rw [if_neg]; intro h
          have := h y (getD_mem hlt HY.out)
          rw [HRY.out] at this; cases this
        rw [hg]
        exact ⟨sr_nil _, HB1.out⟩
    · obtain rfl : n = ys.length := by omega
      have hall : ∀ y ∈ ys, right y.data.toList = true := by
        have h := HA.out
        rw [List.take_length] at h
        exact h
      have hlen := cat_len hall
      have HJ : Hid (∀ w', Below w.heap.size w w' → Calls Tryz.prog 143 #[.slice a ys.length c, .string ⟨#[]⟩] w' fun e w'' => St (cat ys) e ∧ Below w.heap.size w w'' ∧ Below w'.heap.size w' w'') := fun w' hb => (strJoin_any a c ys w' (HR.out.below hb zl) (by omega) hcap (by omega)).mono fun e w'' ⟨h1, h2⟩ => ⟨h1, hb.trans (h2.mono hb.size), h2⟩
      have HALL := zh hall
      have HLEN := zh hlen
      obtain ⟨K, hK⟩ : ∃ K : ByteArray, (⟨#[k]⟩ : ByteArray) = K := ⟨_, rfl⟩
      have hK1 : K.data.toList = [k] := by rw [← hK]
      have hK2 : K.size = 1 := by rw [Lib.size_eq, hK1]; rfl
      have cv : ∀ (W : World) (A : Addr), W.cell? A = some (.int .u8 (k.toNat : Int)) → (convert 181 9 (.slice (some A) 1 1)).run Tryz.prog W = .ok (.string K) W := fun W A h => by
        have h2 := conv_one W A k.toNat (UInt8.toNat_lt k) h
        rw [show k.toNat.toUInt8 = k by simp, hK] at h2
        exact h2
      have HK := zh hK1
      have HK2 := zh hK2
      clear hall hlen HA hK hK1 hK2
      go_wp2_with fail
      go_region_with (go_at_call 143; refine (HJ.out _ ?_).mono ?_; (first | exact HW.out | exact bdrew1 HW.out | exact bdrew1 (HW.out.alloc HW.out.size _) | exact HW.out.alloc HW.out.size _); rintro e w1 ⟨⟨T, hT, rfl⟩, hb1, hb2⟩; (first | have hcc := kept_cell hb2 | skip); have hTz : T.size ≤ 8000 := (by rw [Lib.size_eq, hT]; exact Nat.le_trans HLEN.out (by omega)); have hbig : ¬ (9223372036854775807 < K.size + T.size) := (by rw [HK2.out]; omega); have HT := zh hT; have HB1 := zh hb1; clear hT hb1 hb2; dsimp only)
      all_goals go_wp2_with fail
      all_goals (
        obtain ⟨S, hS⟩ : ∃ S, K ++ T = S := ⟨_, rfl⟩
        have hSl : S.data.toList = k :: cat ys := by rw [← hS, app_data, HK.out, HT.out]; rfl
        have HS := zh hSl
        rw [hS]
        clear hS hSl
        cases hrs : right S.data.toList with
        | true =>
          have HRS := zh hrs
          clear hrs
          go_wp2_with (go_at_call 130; refine (whole_any S _).mono ?_; rintro e w2 ⟨ht, hb2⟩; obtain ⟨T2, v, hsh, rfl⟩ := ht.pos HRS.out; have HB2 : Hid (Below w.heap.size w w2) := (by first | exact HB1.out.trans (hb2.mono HB1.out.size) | exact after_alloc HB1.out hb2); clear hb2 ht hsh)
          go_ret2
          rw [glued_eq HALL.out, ← HS.out]
          unfold made
          rw [if_pos HRS.out]
          exact ⟨⟨S, rfl, rfl⟩, HB2.out⟩
        | false =>
          have HRS := zh hrs
          clear hrs
          go_wp2_with (go_at_call 130; refine (whole_any S _).mono ?_; rintro e w2 ⟨ht, hb2⟩; obtain rfl := ht.zero HRS.out; have HB2 : Hid (Below w.heap.size w w2) := (by first | exact HB1.out.trans (hb2.mono HB1.out.size) | exact after_alloc HB1.out hb2); clear hb2 ht)
          go_ret2
          rw [glued_eq HALL.out, ← HS.out]
          unfold made
          rw [if_neg (by rw [HRS.out]; decide)]
          exact ⟨sr_nil _, HB2.out⟩)
end Go.Proofs.YtbdealddjonobaaGreat.Term

namespace Go.Proofs.YtbdealddjonobaaGreat.Term
open Go.RowKit Wire

theorem glued_two (k : UInt8) (a b : ByteArray) : glued k [a, b] = two k a.data.toList b.data.toList := by
 unfold glued two
 have e : cat [a, b] = a.data.toList ++ b.data.toList := by simp [cat]
 rw [e]
 simp
theorem glued_one (k : UInt8) (a : ByteArray) : glued k [a] = one k a.data.toList := by
 unfold glued one
 have e : cat [a] = a.data.toList := by simp [cat]
 rw [e]
 simp
theorem join_two (k : UInt8) (W w : World) (a b : ByteArray) (g : Nat) (hg : g = W.heap.size) (hb : Below w.heap.size w W) :
  Calls Tryz.prog 98 #[.int .u8 (k.toNat : Int), .slice (some ⟨g, 0, none⟩) 2 2] (W.alloc (.cells #[.string a, .string b] 9)) fun e w' => Sr (two k a.data.toList b.data.toList) e ∧ Below w.heap.size w w' := by
 refine (join_any k (some ⟨g, 0, none⟩) 2 [a, b] _ (pair_reads' W a b g hg) zl zl).mono fun e w' ⟨h1, h2⟩ => ⟨by rw [← glued_two]; exact h1, after_alloc hb h2⟩
theorem join_one (k : UInt8) (W w : World) (a : ByteArray) (g : Nat) (hg : g = W.heap.size) (hb : Below w.heap.size w W) :
  Calls Tryz.prog 98 #[.int .u8 (k.toNat : Int), .slice (some ⟨g, 0, none⟩) 1 1] (W.alloc (.cells #[.string a] 9)) fun e w' => Sr (one k a.data.toList) e ∧ Below w.heap.size w w' := by
 refine (join_any k (some ⟨g, 0, none⟩) 1 [a] _ (one_reads W a g hg) (by simp) zl).mono fun e w' ⟨h1, h2⟩ => ⟨by rw [← glued_one]; exact h1, after_alloc hb h2⟩
set_option maxHeartbeats 1000000 in
theorem t_OfPair (a b : ByteArray) (w : World) (_ : a.size ≤ 140737488355328) (_ : b.size ≤ 140737488355328) :
  Calls Tryz.prog 88 #[.string a, .string b] w fun e w' => Sr (two 112 a.data.toList b.data.toList) e ∧ Below w.heap.size w w' := by
 have HC := zh (join_two 112 w w a b w.heap.size rfl (Below.refl _ _))
 obtain ⟨x, f, hx⟩ : ∃ x f, two 112 a.data.toList b.data.toList = (x, f) := ⟨_, _, rfl⟩
 rw [hx] at HC ⊢
 clear hx
 go_enter Tryz.func88, Tryz.ntmps88
 go_wp2_with (go_at_call 98; refine HC.out.mono ?_; rintro e w1 ⟨⟨T, hT, rfl⟩, hb1⟩; have HB1 := zh hb1; have HT := zh hT; clear hb1 hT; dsimp only)
 go_ret2
 exact ⟨⟨T, HT.out, rfl⟩, HB1.out⟩
set_option maxHeartbeats 1000000 in
theorem t_Sign (a b : ByteArray) (w : World) (_ : a.size ≤ 140737488355328) (_ : b.size ≤ 140737488355328) :
  Calls Tryz.prog 169 #[.string a, .string b] w fun e w' => Sr (two 103 a.data.toList b.data.toList) e ∧ Below w.heap.size w w' := by
 have HC := zh (join_two 103 w w a b w.heap.size rfl (Below.refl _ _))
 obtain ⟨x, f, hx⟩ : ∃ x f, two 103 a.data.toList b.data.toList = (x, f) := ⟨_, _, rfl⟩
 rw [hx] at HC ⊢
 clear hx
 go_enter Tryz.func169, Tryz.ntmps169
 go_wp2_with (go_at_call 98; refine HC.out.mono ?_; rintro e w1 ⟨⟨T, hT, rfl⟩, hb1⟩; have HB1 := zh hb1; have HT := zh hT; clear hb1 hT; dsimp only)
 go_ret2
 exact ⟨⟨T, HT.out, rfl⟩, HB1.out⟩
set_option maxHeartbeats 1000000 in
theorem t_OfHash (a : ByteArray) (w : World) (_ : a.size ≤ 140737488355328) :
  Calls Tryz.prog 90 #[.string a] w fun e w' => Sr (one 104 a.data.toList) e ∧ Below w.heap.size w w' := by
 have HC := zh (join_one 104 w w a w.heap.size rfl (Below.refl _ _))
 obtain ⟨x, f, hx⟩ : ∃ x f, one 104 a.data.toList = (x, f) := ⟨_, _, rfl⟩
 rw [hx] at HC ⊢
 clear hx
 go_enter Tryz.func90, Tryz.ntmps90
 go_wp2_with (go_at_call 98; refine HC.out.mono ?_; rintro e w1 ⟨⟨T, hT, rfl⟩, hb1⟩; have HB1 := zh hb1; have HT := zh hT; clear hb1 hT; dsimp only)
 go_ret2
 exact ⟨⟨T, HT.out, rfl⟩, HB1.out⟩
set_option maxHeartbeats 1000000 in
theorem t_OfPublic (a : ByteArray) (w : World) (_ : a.size ≤ 140737488355328) :
  Calls Tryz.prog 50 #[.string a] w fun e w' => Sr (one 117 a.data.toList) e ∧ Below w.heap.size w w' := by
 have HC := zh (join_one 117 w w a w.heap.size rfl (Below.refl _ _))
 obtain ⟨x, f, hx⟩ : ∃ x f, one 117 a.data.toList = (x, f) := ⟨_, _, rfl⟩
 rw [hx] at HC ⊢
 clear hx
 go_enter Tryz.func50, Tryz.ntmps50
 go_wp2_with (go_at_call 98; refine HC.out.mono ?_; rintro e w1 ⟨⟨T, hT, rfl⟩, hb1⟩; have HB1 := zh hb1; have HT := zh hT; clear hb1 hT; dsimp only)
 go_ret2
 exact ⟨⟨T, HT.out, rfl⟩, HB1.out⟩
set_option maxHeartbeats 2000000 in
theorem t_Box (a b : ByteArray) (w : World) (_ : a.size ≤ 140737488355328) (_ : b.size ≤ 140737488355328) :
    Calls Tryz.prog 192 #[.string a, .string b] w fun e w' => Sr (box a.data.toList b.data.toList) e ∧ Below w.heap.size w w' := by
  have q0 := nil_no
  have q1 := nil_yes
  cases hr : right a.data.toList with
  | false =>
    have hm : box a.data.toList b.data.toList = ([], 1) := by unfold box; rw [if_neg (by rw [hr]; simp)]
    rw [hm]
    have HR := zh hr
    have q2 := nil_publicOne
    clear hr hm
    go_enter Tryz.func192, Tryz.ntmps192
    go_wp2_with (go_at_call 130; with_reducible refine (whole_any a _).mono ?_; rintro e w1 ⟨ht, hb⟩; obtain rfl := ht.zero HR.out; have HB1 := zh hb; clear hb ht; dsimp only)
    go_ret2
    exact ⟨sr_nil _, HB1.out.alloc HB1.out.size _⟩
  | true =>
    have HR := zh hr
    by_cases hx : a.data.toList.headD 0 = 117
    · have hm : box a.data.toList b.data.toList = two 98 a.data.toList b.data.toList := by
        have hu : a.data.toList.head? = some 117 := by
          cases hl : a.data.toList with
          | nil => rw [hl] at hr; cases hr
          | cons x y => rw [hl] at hx; rw [← hx]; rfl
        unfold box; rw [if_pos ⟨hr, hu⟩]
      have HX := zh hx
      have q2 := is_publicOne
      have HC : Hid (∀ (w1 : World) (o : Obj) (g : Nat), g = (w1.alloc o).heap.size → Below w.heap.size w w1 → Calls Tryz.prog 98 #[.int .u8 98, .slice (some ⟨g, 0, none⟩) 2 2] ((w1.alloc o).alloc (.cells #[.string a, .string b] 9)) fun e w' => Sr (two 98 a.data.toList b.data.toList) e ∧ Below w.heap.size w w') := fun w1 o g hg hb => join_two 98 (w1.alloc o) w a b g hg (hb.alloc hb.size o)
      rw [hm]
      obtain ⟨x, f, hx2⟩ : ∃ x f, two 98 a.data.toList b.data.toList = (x, f) := ⟨_, _, rfl⟩
      rw [hx2] at HC ⊢
      clear hr hm hx hx2
      go_enter Tryz.func192, Tryz.ntmps192
      go_wp2_with (first
        | (go_at_call 98; refine (HC.out w1 _ _ (by simp) HB1.out).mono ?_; rintro e w2 ⟨⟨T2, hT, rfl⟩, hb2⟩; have HB2 := zh hb2; have HT := zh hT; clear hb2 hT; dsimp only)
        | (go_at_call 130; with_reducible refine (whole_any a _).mono ?_; rintro e w1 ⟨ht, hb⟩; obtain ⟨T, v, hsh, rfl⟩ := ht.pos HR.out; obtain ⟨rfl, X, rfl, _, _⟩ := hsh.of_publicOne HX.out; clear hsh; have HB1 := zh hb; clear hb ht; dsimp only))
      go_ret2
      exact ⟨⟨T2, HT.out, rfl⟩, HB2.out⟩
    · have hm : box a.data.toList b.data.toList = ([], 1) := by
        unfold box; rw [if_neg]; rintro ⟨_, h⟩
        cases hl : a.data.toList with
        | nil => rw [hl] at h; cases h
        | cons x y => rw [hl] at h hx; exact hx (Option.some.inj h)
      have HX := zh hx
      rw [hm]
      clear hr hm hx
      go_enter Tryz.func192, Tryz.ntmps192
      go_wp2_with (go_at_call 130; with_reducible refine (whole_any a _).mono ?_; rintro e w1 ⟨ht, hb⟩; obtain ⟨T, v, hsh, rfl⟩ := ht.pos HR.out; have q2 := fun w => no_publicOne T v w (hsh.no_publicOne HX.out); clear hsh; have HB1 := zh hb; clear hb ht; dsimp only)
      go_ret2
      exact ⟨sr_nil _, HB1.out.alloc HB1.out.size _⟩
set_option maxHeartbeats 1000000 in
theorem t_OfAtom (n : Nat) (w : World) (hn : n < 18446744073709551616) :
  Calls Tryz.prog 89 #[.int .u64 n] w fun e w' => St (ofAtom n) e ∧ Below w.heap.size w w' := by
 have HN := zh hn
 clear hn
 go_enter Tryz.func89, Tryz.ntmps89
 go_wp2_with (go_at_call 133; refine (put_any n _ HN.out).mono ?_; rintro e w1 ⟨⟨T, hT, rfl⟩, hb1⟩; have hz : T.size ≤ 9 := (put_size hT HN.out); have HB1 := zh hb1; have HT := zh hT; clear hb1 hT)
 go_ret
 exact ⟨⟨_, by rw [app_data, HT.out]; rfl, rfl⟩, HB1.out⟩
set_option maxHeartbeats 1000000 in
theorem t_OfText (a : ByteArray) (w : World) (_ : a.size ≤ 140737488355000) :
  Calls Tryz.prog 74 #[.string a] w fun e w' => Sr (ofText a.data.toList) e ∧ Below w.heap.size w w' := by
 have q0 := nil_no
 have q1 := nil_yes
 by_cases hl : (a.size : Int) ≤ 4000
 ·
  go_enter Tryz.func74, Tryz.ntmps74
  go_wp2_with fail
  refine (putText_any a _ (by omega)).mono ?_
  rintro e w1 ⟨⟨P, hP, rfl⟩, hb1⟩
  have HB1 := zh hb1
  have hPz : P.size ≤ 5000 := by
   have h1 := (put_le (n := a.data.toList.length) (by rw [← Lib.size_eq]; omega)).2
   have h2 := Lib.size_eq a
   rw [Lib.size_eq, hP, putText_len]; omega
  have htp : ((ByteArray.mk #[116]) ++ P).data.toList = 116 :: putText a.data.toList := by rw [app_data, hP]; rfl
  have HTP := zh htp
  clear hb1 hP htp
  go_wp2_with fail
  obtain ⟨S, hS⟩ : ∃ S, (ByteArray.mk #[116]) ++ P = S := ⟨_, rfl⟩
  rw [hS] at HTP ⊢
  clear hS
  have e : ofText a.data.toList = made S.data.toList := by unfold ofText; rw [HTP.out]
  have HE := zh e
  clear e
  refine (whole_any S _).mono ?_
  rintro e w2 ⟨ht, hb2⟩
  have HB2 := zh (HB1.out.trans (hb2.mono HB1.out.size))
  cases hrs : right S.data.toList with
  | true =>
   obtain ⟨T2, v, hsh, rfl⟩ := ht.pos hrs
   have HRS := zh hrs
   clear hrs ht hb2 hsh
   dsimp only
   go_wp2
   go_ret2
   rw [HE.out]
   unfold made
   rw [if_pos HRS.out]
   exact ⟨⟨S, rfl, rfl⟩, HB2.out⟩
  | false =>
   obtain rfl := ht.zero hrs
   have HRS := zh hrs
   clear hrs ht hb2
   dsimp only
   go_wp2
   go_ret2
   rw [HE.out]
   unfold made
   rw [if_neg (by rw [HRS.out]; decide)]
   exact ⟨sr_nil _, HB2.out⟩
 ·
  have hm : ofText a.data.toList = ([], 10) := by
   unfold ofText made
   rw [if_neg]
   intro h
   have h1 := (right_len h).2
   rw [List.length_cons, putText_len, ← Lib.size_eq] at h1
   omega
  rw [hm]
  clear hm
  go_enter Tryz.func74, Tryz.ntmps74
  go_wp2_with fail
  go_ret2
  exact ⟨sr_nil _, Below.refl _ _⟩
theorem unbox_wrong {key c : List UInt8} (h : right key = false ∨ right c = false) : unbox key c = ([], 1) := by
 unfold unbox; rw [if_neg]; rintro ⟨h1, h2⟩
 rcases h with h | h
 · rw [h1] at h; cases h
 · rw [h2] at h; cases h
theorem unbox_eq {key c : List UInt8} (h : right key = true) (h2 : right c = true) : unbox key c = opens 98 (117 :: key) c := by unfold unbox; rw [if_pos ⟨h, h2⟩]
set_option maxHeartbeats 2000000 in
theorem t_Unbox (a b : ByteArray) (w : World) (ha : a.size ≤ 140737488355328) (_ : b.size ≤ 140737488355328) :
    Calls Tryz.prog 82 #[.string a, .string b] w fun e w' => Sr (unbox a.data.toList b.data.toList) e ∧ Below w.heap.size w w' := by
  have q0 := nil_no
  have q1 := nil_yes
  cases hr : right b.data.toList with
  | false =>
    rw [unbox_wrong (.inr hr)]
    have HR := zh hr
    clear hr
    go_enter Tryz.func82, Tryz.ntmps82
    go_wp2_with (go_at_call 130; with_reducible refine (whole_any b _).mono ?_; rintro e w1 ⟨ht, hb⟩; obtain rfl := ht.zero HR.out; have HB1 := zh hb; clear hb ht; dsimp only)
    go_ret2
    exact ⟨sr_nil _, HB1.out⟩
  | true =>
    have HR := zh hr
    cases hq : right a.data.toList with
    | false =>
      rw [unbox_wrong (.inl hq)]
      have HQ := zh hq
      clear hr hq
      go_enter Tryz.func82, Tryz.ntmps82
      go_wp2_with (first
        | (go_at_call 130; with_reducible refine (whole_any a _).mono ?_; rintro e w2 ⟨ht, hb⟩; obtain rfl := ht.zero HQ.out; have HB2 := zh (HB1.out.trans (hb.mono HB1.out.size)); clear hb ht; dsimp only)
        | (go_at_call 130; with_reducible refine (whole_any b _).mono ?_; rintro e w1 ⟨ht, hb⟩; obtain ⟨T, v, hsh, rfl⟩ := ht.pos HR.out; clear hsh; have HB1 := zh hb; clear hb ht; dsimp only))
      go_ret2
      exact ⟨sr_nil _, HB2.out⟩
    | true =>
      have HQ := zh hq
      rw [unbox_eq hq hr]
      by_cases hx : b.data.toList.headD 0 = 98
      · have HX := zh hx
        have q2 := is_boxed
        obtain ⟨P, Q, hP, hQ, hl⟩ := boxed_form hr hx
        have hop : opens 98 (117 :: a.data.toList) b.data.toList = if P = 117 :: a.data.toList then (Q, 0) else ([], 6) := by
          rw [hl]; exact opens_of (by rw [← hl]; exact hr) rfl hP hQ
        rw [hop]
        have ho : one 117 a.data.toList = made (117 :: a.data.toList) := by unfold one; rw [if_pos hq]
        have HL := zh hl
        have HP := zh hP
        by_cases hk : P = 117 :: a.data.toList
        · rw [if_pos hk]
          have ho2 : one 117 a.data.toList = (117 :: a.data.toList, 0) := by rw [ho]; unfold made; rw [if_pos (by rw [← hk]; exact hP)]
          have HO := zh ho2
          have HK := zh hk
          clear hr hq hx hP hQ hl hk hop ho ho2
          go_enter Tryz.func82, Tryz.ntmps82
          go_wp2_with (first
            | (go_at_call 50; refine (t_OfPublic a _ (by assumption)).mono ?_; rw [HO.out]; rintro e w3 ⟨⟨U, hU, rfl⟩, hb⟩; have HB3 := zh (after_alloc HB2.out hb); have hkk := eq_bool (s := X) (t := U) (HXP.out.trans (HK.out.trans hU.symm)); have hc0 : w3.cell? ⟨w2.heap.size, 0, none⟩ = some (.string X) := (hb.cell (p := ⟨w2.heap.size, 0, none⟩) (by simp)).trans (by simp); have hc1 : w3.cell? ⟨w2.heap.size, 1, none⟩ = some (.string Y) := (hb.cell (p := ⟨w2.heap.size, 1, none⟩) (by simp)).trans (by simp); clear hb hU; dsimp only)
            | (go_at_call 130; with_reducible refine (whole_any a _).mono ?_; rintro e w2 ⟨ht, hb⟩; obtain ⟨T2, v2, _, rfl⟩ := ht.pos HQ.out; have HB2 := zh (HB1.out.trans (hb.mono HB1.out.size)); clear hb ht; dsimp only)
            | (go_at_call 130; with_reducible refine (whole_any b _).mono ?_; rintro e w1 ⟨ht, hb⟩; obtain ⟨T, v, hsh, rfl⟩ := ht.pos HR.out; obtain ⟨rfl, X, Y, rfl, hX, hY, hl⟩ := hsh.of_boxed HX.out; have hxy := two_same HP.out hX (HL.out.symm.trans hl); have HXP := zh hxy.1.symm; have HQX := zh hxy.2.symm; clear hX hY hl hxy hsh; have HB1 := zh hb; clear hb ht; dsimp only))
          go_ret2
          exact ⟨⟨_, HQX.out, rfl⟩, HB3.out⟩
        · rw [if_neg hk]
          have HK := zh hk
          cases hz : right (117 :: a.data.toList) with
          | true =>
            have ho2 : one 117 a.data.toList = (117 :: a.data.toList, 0) := by rw [ho]; unfold made; rw [if_pos hz]
            have HO := zh ho2
            clear hr hq hx hP hQ hl hk hop ho ho2 hz
            go_enter Tryz.func82, Tryz.ntmps82
            go_wp2_with (first
              | (go_at_call 50; refine (t_OfPublic a _ (by assumption)).mono ?_; rw [HO.out]; rintro e w3 ⟨⟨U, hU, rfl⟩, hb⟩; have HB3 := zh (after_alloc HB2.out hb); have hkk := ne_bool (s := X) (t := U) (fun h => absurd (HXP.out.symm.trans (h.trans hU)) HK.out); have hc0 : w3.cell? ⟨w2.heap.size, 0, none⟩ = some (.string X) := (hb.cell (p := ⟨w2.heap.size, 0, none⟩) (by simp)).trans (by simp); have hc1 : w3.cell? ⟨w2.heap.size, 1, none⟩ = some (.string Y) := (hb.cell (p := ⟨w2.heap.size, 1, none⟩) (by simp)).trans (by simp); clear hb hU; dsimp only)
              | (go_at_call 130; with_reducible refine (whole_any a _).mono ?_; rintro e w2 ⟨ht, hb⟩; obtain ⟨T2, v2, _, rfl⟩ := ht.pos HQ.out; have HB2 := zh (HB1.out.trans (hb.mono HB1.out.size)); clear hb ht; dsimp only)
              | (go_at_call 130; with_reducible refine (whole_any b _).mono ?_; rintro e w1 ⟨ht, hb⟩; obtain ⟨T, v, hsh, rfl⟩ := ht.pos HR.out; obtain ⟨rfl, X, Y, rfl, hX, hY, hl⟩ := hsh.of_boxed HX.out; have hxy := two_same HP.out hX (HL.out.symm.trans hl); have HXP := zh hxy.1.symm; have HQX := zh hxy.2.symm; clear hX hY hl hxy hsh; have HB1 := zh hb; clear hb ht; dsimp only))
            go_ret2
            exact ⟨sr_nil _, HB3.out⟩
          | false =>
            have ho2 : one 117 a.data.toList = ([], 10) := by rw [ho]; unfold made; rw [if_neg (by rw [hz]; decide)]
            have HO := zh ho2
            clear hr hq hx hP hQ hl hk hop ho ho2 hz
            go_enter Tryz.func82, Tryz.ntmps82
            go_wp2_with (first
              | (go_at_call 50; refine (t_OfPublic a _ (by assumption)).mono ?_; rw [HO.out]; rintro e w3 ⟨⟨U, hU, rfl⟩, hb⟩; have HB3 := zh (after_alloc HB2.out hb); have hc0 : w3.cell? ⟨w2.heap.size, 0, none⟩ = some (.string X) := (hb.cell (p := ⟨w2.heap.size, 0, none⟩) (by simp)).trans (by simp); have hc1 : w3.cell? ⟨w2.heap.size, 1, none⟩ = some (.string Y) := (hb.cell (p := ⟨w2.heap.size, 1, none⟩) (by simp)).trans (by simp); clear hb hU; dsimp only)
              | (go_at_call 130; with_reducible refine (whole_any a _).mono ?_; rintro e w2 ⟨ht, hb⟩; obtain ⟨T2, v2, _, rfl⟩ := ht.pos HQ.out; have HB2 := zh (HB1.out.trans (hb.mono HB1.out.size)); clear hb ht; dsimp only)
              | (go_at_call 130; with_reducible refine (whole_any b _).mono ?_; rintro e w1 ⟨ht, hb⟩; obtain ⟨T, v, hsh, rfl⟩ := ht.pos HR.out; obtain ⟨rfl, X, Y, rfl, hX, hY, hl⟩ := hsh.of_boxed HX.out; have hxy := two_same HP.out hX (HL.out.symm.trans hl); have HXP := zh hxy.1.symm; have HQX := zh hxy.2.symm; clear hX hY hl hxy hsh; have HB1 := zh hb; clear hb ht; dsimp only))
            go_ret2
            exact ⟨sr_nil _, HB3.out⟩
      · rw [opens_not hx]
        have HX := zh hx
        clear hr hq hx
        go_enter Tryz.func82, Tryz.ntmps82
        go_wp2_with (first
          | (go_at_call 130; with_reducible refine (whole_any a _).mono ?_; rintro e w2 ⟨ht, hb⟩; obtain ⟨T2, v2, _, rfl⟩ := ht.pos HQ.out; have HB2 := zh (HB1.out.trans (hb.mono HB1.out.size)); clear hb ht; dsimp only)
          | (go_at_call 130; with_reducible refine (whole_any b _).mono ?_; rintro e w1 ⟨ht, hb⟩; obtain ⟨T, v, hsh, rfl⟩ := ht.pos HR.out; have q2 := fun w => no_boxed T v w (hsh.no_boxed HX.out); clear hsh; have HB1 := zh hb; clear hb ht; dsimp only))
        go_ret2
        exact ⟨sr_nil _, HB2.out.alloc HB2.out.size _⟩
set_option maxHeartbeats 4000000 in
set_option maxRecDepth 1000000 in
theorem t_Verify (p a s : ByteArray) (w : World) (_ : p.size ≤ 140737488355328) (_ : a.size ≤ 140737488355328) (_ : s.size ≤ 140737488355328) :
    Calls Tryz.prog 76 #[.string p, .string a, .string s] w fun e w' => e = .returned (.int .i64 (verify p.data.toList a.data.toList s.data.toList)) ∧ Below w.heap.size w w' := by
  have q0 := nil_no
  have q1 := nil_yes
  cases hp : right p.data.toList with
  | false =>
    rw [verify_wrong (.inl hp)]
    have HP := zh hp
    cases hs : right s.data.toList with
    | false =>
      have HS := zh hs
      clear hp hs
      go_enter Tryz.func76, Tryz.ntmps76
      go_wp2_with (first
        | (go_at_call 130; with_reducible refine (whole_any s _).mono ?_; rintro e w2 ⟨ht, hb⟩; obtain rfl := ht.zero HS.out; have HB2 := zh (HB1.out.trans (hb.mono HB1.out.size)); clear hb ht; dsimp only)
        | (go_at_call 130; with_reducible refine (whole_any p _).mono ?_; rintro e w1 ⟨ht, hb⟩; obtain rfl := ht.zero HP.out; have HB1 := zh hb; clear hb ht; dsimp only))
      go_ret
      exact ⟨rfl, HB2.out⟩
    | true =>
      have HS := zh hs
      clear hp hs
      go_enter Tryz.func76, Tryz.ntmps76
      go_wp2_with (first
        | (go_at_call 130; with_reducible refine (whole_any s _).mono ?_; rintro e w2 ⟨ht, hb⟩; obtain ⟨T2, v2, _, rfl⟩ := ht.pos HS.out; have HB2 := zh (HB1.out.trans (hb.mono HB1.out.size)); clear hb ht; dsimp only)
        | (go_at_call 130; with_reducible refine (whole_any p _).mono ?_; rintro e w1 ⟨ht, hb⟩; obtain rfl := ht.zero HP.out; have HB1 := zh hb; clear hb ht; dsimp only))
      go_ret
      exact ⟨rfl, HB2.out⟩
  | true =>
    have HP := zh hp
    cases hs : right s.data.toList with
    | false =>
      rw [verify_wrong (.inr (.inl hs))]
      have HS := zh hs
      clear hp hs
      go_enter Tryz.func76, Tryz.ntmps76
      go_wp2_with (first
        | (go_at_call 130; with_reducible refine (whole_any s _).mono ?_; rintro e w2 ⟨ht, hb⟩; obtain rfl := ht.zero HS.out; have HB2 := zh (HB1.out.trans (hb.mono HB1.out.size)); clear hb ht; dsimp only)
        | (go_at_call 130; with_reducible refine (whole_any p _).mono ?_; rintro e w1 ⟨ht, hb⟩; obtain ⟨T, v, _, rfl⟩ := ht.pos HP.out; have HB1 := zh hb; clear hb ht; dsimp only))
      go_ret
      exact ⟨rfl, HB2.out⟩
    | true =>
      have HS := zh hs
      cases hq : right a.data.toList with
      | false =>
        rw [verify_wrong (.inr (.inr hq))]
        have HQ := zh hq
        clear hp hs hq
        go_enter Tryz.func76, Tryz.ntmps76
        go_wp2_with (first
          | (go_at_call 130; with_reducible refine (whole_any a _).mono ?_; rintro e w3 ⟨ht, hb⟩; obtain rfl := ht.zero HQ.out; have HB3 := zh (HB2.out.trans (hb.mono HB2.out.size)); clear hb ht; dsimp only)
          | (go_at_call 130; with_reducible refine (whole_any s _).mono ?_; rintro e w2 ⟨ht, hb⟩; obtain ⟨T2, v2, _, rfl⟩ := ht.pos HS.out; have HB2 := zh (HB1.out.trans (hb.mono HB1.out.size)); clear hb ht; dsimp only)
          | (go_at_call 130; with_reducible refine (whole_any p _).mono ?_; rintro e w1 ⟨ht, hb⟩; obtain ⟨T, v, _, rfl⟩ := ht.pos HP.out; have HB1 := zh hb; clear hb ht; dsimp only))
        go_ret
        exact ⟨rfl, HB3.out⟩
      | true =>
        have HQ := zh hq
        rw [verify_eq hp hq hs]
        by_cases hx : p.data.toList.headD 0 = 117
        · have HX := zh hx
          have q2 := is_publicOne
          obtain ⟨P, hP, hpl⟩ := pub_form hp hx
          have HPL := zh hpl
          have htl : p.data.toList.tail = P := by rw [hpl]; rfl
          rw [htl]
          by_cases hy : s.data.toList.headD 0 = 103
          · have HY := zh hy
            have q3 := is_signed
            obtain ⟨G, I, hG, hI, hsl⟩ := signed_form hs hy
            have HSL := zh hsl
            have HG := zh hG
            by_cases hg : G = P
            · by_cases hi : I = a.data.toList
              · rw [if_pos ⟨hx, by rw [hsl, hg, hi]⟩]
                have HGP := zh hg
                have HIA := zh hi
                clear hp hs hq hx hy hP hpl htl hG hI hsl hg hi
                go_enter Tryz.func76, Tryz.ntmps76
                go_wp2_with (first
                  | (go_at_call 130; with_reducible refine (whole_any a _).mono ?_; rintro e w3 ⟨ht, hb⟩; obtain ⟨T3, v3, _, rfl⟩ := ht.pos HQ.out; have HB3 := zh (HB2.out.trans (hb.mono HB2.out.size)); clear hb ht; dsimp only)
                  | (go_at_call 130; with_reducible refine (whole_any s _).mono ?_; rintro e w2 ⟨ht, hb⟩; obtain ⟨T2, v2, hsh2, rfl⟩ := ht.pos HS.out; obtain ⟨rfl, X, Y, rfl, hX, hY, hl⟩ := hsh2.of_signed HY.out; have hxy := two_same HG.out hX (HSL.out.symm.trans hl); have hk1 := eq_bool (s := X) (t := Z) (hxy.1.symm.trans (HGP.out.trans HZ.out)); have hk2 := eq_bool (s := Y) (t := a) (hxy.2.symm.trans HIA.out); clear hX hY hl hxy hsh2; have HB2 := zh (HB1.out.trans (hb.mono HB1.out.size)); clear hb ht; dsimp only)
                  | (go_at_call 130; with_reducible refine (whole_any p _).mono ?_; rintro e w1 ⟨ht, hb⟩; obtain ⟨T, v, hsh, rfl⟩ := ht.pos HP.out; obtain ⟨rfl, Z, rfl, _, hl⟩ := hsh.of_publicOne HX.out; have hz : P = Z.data.toList := (List.cons.inj (HPL.out.symm.trans hl)).2; have HZ := zh hz; clear hl hz hsh; have HB1 := zh hb; clear hb ht; dsimp only))
                go_ret
                exact ⟨rfl, below2 HB3.out _ _⟩
              · rw [if_neg (fun h => hi (by have h2 := h.2; rw [hsl] at h2; exact (two_same hG hP h2).2))]
                have HGP := zh hg
                have HIA := zh hi
                clear hp hs hq hx hy hP hpl htl hG hI hsl hg hi
                go_enter Tryz.func76, Tryz.ntmps76
                go_wp2_with (first
                  | (go_at_call 130; with_reducible refine (whole_any a _).mono ?_; rintro e w3 ⟨ht, hb⟩; obtain ⟨T3, v3, _, rfl⟩ := ht.pos HQ.out; have HB3 := zh (HB2.out.trans (hb.mono HB2.out.size)); clear hb ht; dsimp only)
                  | (go_at_call 130; with_reducible refine (whole_any s _).mono ?_; rintro e w2 ⟨ht, hb⟩; obtain ⟨T2, v2, hsh2, rfl⟩ := ht.pos HS.out; obtain ⟨rfl, X, Y, rfl, hX, hY, hl⟩ := hsh2.of_signed HY.out; have hxy := two_same HG.out hX (HSL.out.symm.trans hl); have hk1 := eq_bool (s := X) (t := Z) (hxy.1.symm.trans (HGP.out.trans HZ.out)); have hk2 := ne_bool (s := Y) (t := a) (fun h => absurd (hxy.2.trans h) HIA.out); clear hX hY hl hxy hsh2; have HB2 := zh (HB1.out.trans (hb.mono HB1.out.size)); clear hb ht; dsimp only)
                  | (go_at_call 130; with_reducible refine (whole_any p _).mono ?_; rintro e w1 ⟨ht, hb⟩; obtain ⟨T, v, hsh, rfl⟩ := ht.pos HP.out; obtain ⟨rfl, Z, rfl, _, hl⟩ := hsh.of_publicOne HX.out; have hz : P = Z.data.toList := (List.cons.inj (HPL.out.symm.trans hl)).2; have HZ := zh hz; clear hl hz hsh; have HB1 := zh hb; clear hb ht; dsimp only))
                go_ret
                exact ⟨rfl, below2 HB3.out _ _⟩
            · rw [if_neg (fun h => hg (by have h2 := h.2; rw [hsl] at h2; exact (two_same hG hP h2).1))]
              have HGP := zh hg
              clear hp hs hq hx hy hP hpl htl hG hI hsl hg
              go_enter Tryz.func76, Tryz.ntmps76
              go_wp2_with (first
                | (go_at_call 130; with_reducible refine (whole_any a _).mono ?_; rintro e w3 ⟨ht, hb⟩; obtain ⟨T3, v3, _, rfl⟩ := ht.pos HQ.out; have HB3 := zh (HB2.out.trans (hb.mono HB2.out.size)); clear hb ht; dsimp only)
                | (go_at_call 130; with_reducible refine (whole_any s _).mono ?_; rintro e w2 ⟨ht, hb⟩; obtain ⟨T2, v2, hsh2, rfl⟩ := ht.pos HS.out; obtain ⟨rfl, X, Y, rfl, hX, hY, hl⟩ := hsh2.of_signed HY.out; have hxy := two_same HG.out hX (HSL.out.symm.trans hl); have hk1 := ne_bool (s := X) (t := Z) (fun h => absurd (hxy.1.trans (h.trans HZ.out.symm)) HGP.out); clear hX hY hl hxy hsh2; have HB2 := zh (HB1.out.trans (hb.mono HB1.out.size)); clear hb ht; dsimp only)
                | (go_at_call 130; with_reducible refine (whole_any p _).mono ?_; rintro e w1 ⟨ht, hb⟩; obtain ⟨T, v, hsh, rfl⟩ := ht.pos HP.out; obtain ⟨rfl, Z, rfl, _, hl⟩ := hsh.of_publicOne HX.out; have hz : P = Z.data.toList := (List.cons.inj (HPL.out.symm.trans hl)).2; have HZ := zh hz; clear hl hz hsh; have HB1 := zh hb; clear hb ht; dsimp only))
              go_ret
              exact ⟨rfl, below2 HB3.out _ _⟩
          · have HY := zh hy
            rw [if_neg (fun h => hy (by rw [h.2]; rfl))]
            clear hp hs hq hx hy hP hpl htl
            go_enter Tryz.func76, Tryz.ntmps76
            go_wp2_with (first
              | (go_at_call 130; with_reducible refine (whole_any a _).mono ?_; rintro e w3 ⟨ht, hb⟩; obtain ⟨T3, v3, _, rfl⟩ := ht.pos HQ.out; have HB3 := zh (HB2.out.trans (hb.mono HB2.out.size)); clear hb ht; dsimp only)
              | (go_at_call 130; with_reducible refine (whole_any s _).mono ?_; rintro e w2 ⟨ht, hb⟩; obtain ⟨T2, v2, hsh2, rfl⟩ := ht.pos HS.out; have q3 := fun w => no_signed T2 v2 w (hsh2.no_signed HY.out); clear hsh2; have HB2 := zh (HB1.out.trans (hb.mono HB1.out.size)); clear hb ht; dsimp only)
              | (go_at_call 130; with_reducible refine (whole_any p _).mono ?_; rintro e w1 ⟨ht, hb⟩; obtain ⟨T, v, hsh, rfl⟩ := ht.pos HP.out; obtain ⟨rfl, Z, rfl, _, hl⟩ := hsh.of_publicOne HX.out; have hz : P = Z.data.toList := (List.cons.inj (HPL.out.symm.trans hl)).2; have HZ := zh hz; clear hl hz hsh; have HB1 := zh hb; clear hb ht; dsimp only))
            go_ret
            exact ⟨rfl, below2 HB3.out _ _⟩
        · have HX := zh hx
          rw [if_neg (fun h => hx h.1)]
          clear hp hs hq hx
          go_enter Tryz.func76, Tryz.ntmps76
          go_wp2_with (first
            | (go_at_call 130; with_reducible refine (whole_any a _).mono ?_; rintro e w3 ⟨ht, hb⟩; obtain ⟨T3, v3, _, rfl⟩ := ht.pos HQ.out; have HB3 := zh (HB2.out.trans (hb.mono HB2.out.size)); clear hb ht; dsimp only)
            | (go_at_call 130; with_reducible refine (whole_any s _).mono ?_; rintro e w2 ⟨ht, hb⟩; obtain ⟨T2, v2, _, rfl⟩ := ht.pos HS.out; have HB2 := zh (HB1.out.trans (hb.mono HB1.out.size)); clear hb ht; dsimp only)
            | (go_at_call 130; with_reducible refine (whole_any p _).mono ?_; rintro e w1 ⟨ht, hb⟩; obtain ⟨T, v, hsh, rfl⟩ := ht.pos HP.out; have q2 := fun w => no_publicOne T v w (hsh.no_publicOne HX.out); clear hsh; have HB1 := zh hb; clear hb ht; dsimp only))
          go_ret
          exact ⟨rfl, HB3.out.alloc HB3.out.size _⟩
end Go.Proofs.YtbdealddjonobaaGreat.Term

