/-
  THE CODE's term.shape: what a right term is read into (an interface whose type tells the kind), and what its type assertions and comparisons with nil come to. By an AI agent; no person has read it.
-/
import Derived.Test.YtahlilhdiklemaaTMake
import Derived.Test.YtahlilhdiklemaaWTake
namespace Go.Proofs.Ytahlilhdiklemaa.Term
open Go.RowKit Wire

/-- The shape of a right term: the value that the code keeps of it. -/
def Shp (l : List UInt8) (v : Value) : Prop :=
  (∃ n : Nat, n < 18446744073709551616 ∧ l = 97 :: put n ∧ v = .iface 95 (.agg #[.int .u64 n])) ∨
  (∃ W : ByteArray, W.size ≤ 4000 ∧ l = 116 :: putText W.data.toList ∧ v = .iface 99 (.agg #[.string W])) ∨
  (∃ P : ByteArray, right P.data.toList = true ∧ l = 104 :: P.data.toList ∧ v = .iface 101 (.agg #[.string P])) ∨
  (∃ P : ByteArray, right P.data.toList = true ∧ l = 117 :: P.data.toList ∧ v = .iface 103 (.agg #[.string P])) ∨
  (∃ P Q : ByteArray, (right P.data.toList = true ∧ right Q.data.toList = true) ∧ l = 112 :: (P.data.toList ++ Q.data.toList) ∧ v = .iface 105 (.agg #[.string P, .string Q])) ∨
  (∃ P Q : ByteArray, (right P.data.toList = true ∧ right Q.data.toList = true) ∧ l = 115 :: (P.data.toList ++ Q.data.toList) ∧ v = .iface 107 (.agg #[.string P, .string Q])) ∨
  (∃ P Q : ByteArray, (right P.data.toList = true ∧ right Q.data.toList = true) ∧ l = 103 :: (P.data.toList ++ Q.data.toList) ∧ v = .iface 109 (.agg #[.string P, .string Q])) ∨
  (∃ P Q : ByteArray, (right P.data.toList = true ∧ right Q.data.toList = true ∧ P.data.toList.head? = some 117) ∧ l = 98 :: (P.data.toList ++ Q.data.toList) ∧ v = .iface 112 (.agg #[.string P, .string Q]))
theorem Shp.atom (n : Nat) (hn : n < 18446744073709551616) : Shp (97 :: put n) (.iface 95 (.agg #[.int .u64 n])) := .inl ⟨n, hn, rfl, rfl⟩
theorem Shp.text (W : ByteArray) (h : W.size ≤ 4000) : Shp (116 :: putText W.data.toList) (.iface 99 (.agg #[.string W])) := .inr (.inl ⟨W, h, rfl, rfl⟩)
theorem Shp.hash (P : ByteArray) (h : right P.data.toList = true) : Shp (104 :: P.data.toList) (.iface 101 (.agg #[.string P])) := .inr (.inr (.inl ⟨P, h, rfl, rfl⟩))
theorem Shp.pub (P : ByteArray) (h : right P.data.toList = true) : Shp (117 :: P.data.toList) (.iface 103 (.agg #[.string P])) := .inr (.inr (.inr (.inl ⟨P, h, rfl, rfl⟩)))
theorem Shp.pair (P Q : ByteArray) (h : right P.data.toList = true) (h2 : right Q.data.toList = true) : Shp (112 :: (P.data.toList ++ Q.data.toList)) (.iface 105 (.agg #[.string P, .string Q])) := .inr (.inr (.inr (.inr (.inl ⟨P, Q, ⟨h, h2⟩, rfl, rfl⟩))))
theorem Shp.sealed (P Q : ByteArray) (h : right P.data.toList = true) (h2 : right Q.data.toList = true) : Shp (115 :: (P.data.toList ++ Q.data.toList)) (.iface 107 (.agg #[.string P, .string Q])) := .inr (.inr (.inr (.inr (.inr (.inl ⟨P, Q, ⟨h, h2⟩, rfl, rfl⟩)))))
theorem Shp.signed (P Q : ByteArray) (h : right P.data.toList = true) (h2 : right Q.data.toList = true) : Shp (103 :: (P.data.toList ++ Q.data.toList)) (.iface 109 (.agg #[.string P, .string Q])) := .inr (.inr (.inr (.inr (.inr (.inr (.inl ⟨P, Q, ⟨h, h2⟩, rfl, rfl⟩))))))
theorem Shp.boxed (P Q : ByteArray) (h : right P.data.toList = true) (h2 : right Q.data.toList = true) (h3 : P.data.toList.head? = some 117) : Shp (98 :: (P.data.toList ++ Q.data.toList)) (.iface 112 (.agg #[.string P, .string Q])) := .inr (.inr (.inr (.inr (.inr (.inr (.inr ⟨P, Q, ⟨h, h2, h3⟩, rfl, rfl⟩))))))
theorem Shp.isIface {l : List UInt8} {v : Value} (h : Shp l v) : ∃ T a, v = .iface T a := by
  rcases h with ⟨_, _, _, h⟩ | ⟨_, _, _, h⟩ | ⟨_, _, _, h⟩ | ⟨_, _, _, h⟩ | ⟨_, _, _, _, h⟩ | ⟨_, _, _, _, h⟩ | ⟨_, _, _, _, h⟩ | ⟨_, _, _, _, h⟩ <;> exact ⟨_, _, h⟩
theorem Shp.head {l : List UInt8} {T : TypeId} {a : Value} (h : Shp l (.iface T a)) : (T = 103 ∧ l.head? = some 117) ∨ (T ≠ 103 ∧ l.head? ≠ some 117) := by
  rcases h with ⟨_, _, hl, h⟩ | ⟨_, _, hl, h⟩ | ⟨_, _, hl, h⟩ | ⟨_, _, hl, h⟩ | ⟨_, _, _, hl, h⟩ | ⟨_, _, _, hl, h⟩ | ⟨_, _, _, hl, h⟩ | ⟨_, _, _, hl, h⟩
  case inr.inr.inr.inl => injection h with h1 _; exact .inl ⟨h1, by rw [hl]; rfl⟩
  all_goals (injection h with h1 _; exact .inr ⟨by rw [h1]; decide, by rw [hl]; simp⟩)

theorem nil_no (w : World) (T : TypeId) (a : Value) : (binOp .eql 62 (.iface T a) .nilIface).run Try.prog w = .ok (.bool false) w := by kernel_rfl
theorem nil_yes (w : World) : (binOp .eql 62 .nilIface .nilIface).run Try.prog w = .ok (.bool true) w := by kernel_rfl
theorem zero_publicOne (w : World) : (do pure (Value.tuple #[← zeroValue 103, .bool false]) : Sem Value).run Try.prog w = .ok (.tuple #[.agg #[.string ⟨#[]⟩], .bool false]) w := by kernel_rfl
theorem is_publicOne (v : Value) (w : World) : (Instr.typeAssert (.iface 103 v) 62 103 true).run Try.prog w = .ok (.tuple #[v, .bool true]) w := by kernel_rfl
theorem no_publicOne (u : TypeId) (v : Value) (w : World) (h : u ≠ 103) : (Instr.typeAssert (.iface u v) 62 103 true).run Try.prog w = .ok (.tuple #[.agg #[.string ⟨#[]⟩], .bool false]) w := by
  have e : (Instr.typeAssert (.iface u v) 62 103 true).run Try.prog w = (if u = 103 then (pure (Value.tuple #[v, .bool true]) : Sem Value) else (do pure (Value.tuple #[← zeroValue 103, .bool false]))).run Try.prog w := by kernel_rfl
  rw [e, if_neg h]
  exact zero_publicOne w
theorem nil_publicOne (w : World) : (Instr.typeAssert .nilIface 62 103 true).run Try.prog w = .ok (.tuple #[.agg #[.string ⟨#[]⟩], .bool false]) w := by kernel_rfl
theorem zero_atom (w : World) : (do pure (Value.tuple #[← zeroValue 95, .bool false]) : Sem Value).run Try.prog w = .ok (.tuple #[.agg #[.int .u64 0], .bool false]) w := by kernel_rfl
theorem is_atom (v : Value) (w : World) : (Instr.typeAssert (.iface 95 v) 62 95 true).run Try.prog w = .ok (.tuple #[v, .bool true]) w := by kernel_rfl
theorem no_atom (u : TypeId) (v : Value) (w : World) (h : u ≠ 95) : (Instr.typeAssert (.iface u v) 62 95 true).run Try.prog w = .ok (.tuple #[.agg #[.int .u64 0], .bool false]) w := by
  have e : (Instr.typeAssert (.iface u v) 62 95 true).run Try.prog w = (if u = 95 then (pure (Value.tuple #[v, .bool true]) : Sem Value) else (do pure (Value.tuple #[← zeroValue 95, .bool false]))).run Try.prog w := by kernel_rfl
  rw [e, if_neg h]
  exact zero_atom w
theorem nil_atom (w : World) : (Instr.typeAssert .nilIface 62 95 true).run Try.prog w = .ok (.tuple #[.agg #[.int .u64 0], .bool false]) w := by kernel_rfl
theorem zero_text (w : World) : (do pure (Value.tuple #[← zeroValue 99, .bool false]) : Sem Value).run Try.prog w = .ok (.tuple #[.agg #[.string ⟨#[]⟩], .bool false]) w := by kernel_rfl
theorem is_text (v : Value) (w : World) : (Instr.typeAssert (.iface 99 v) 62 99 true).run Try.prog w = .ok (.tuple #[v, .bool true]) w := by kernel_rfl
theorem no_text (u : TypeId) (v : Value) (w : World) (h : u ≠ 99) : (Instr.typeAssert (.iface u v) 62 99 true).run Try.prog w = .ok (.tuple #[.agg #[.string ⟨#[]⟩], .bool false]) w := by
  have e : (Instr.typeAssert (.iface u v) 62 99 true).run Try.prog w = (if u = 99 then (pure (Value.tuple #[v, .bool true]) : Sem Value) else (do pure (Value.tuple #[← zeroValue 99, .bool false]))).run Try.prog w := by kernel_rfl
  rw [e, if_neg h]
  exact zero_text w
theorem nil_text (w : World) : (Instr.typeAssert .nilIface 62 99 true).run Try.prog w = .ok (.tuple #[.agg #[.string ⟨#[]⟩], .bool false]) w := by kernel_rfl
theorem zero_sealed (w : World) : (do pure (Value.tuple #[← zeroValue 107, .bool false]) : Sem Value).run Try.prog w = .ok (.tuple #[.agg #[.string ⟨#[]⟩, .string ⟨#[]⟩], .bool false]) w := by kernel_rfl
theorem is_sealed (v : Value) (w : World) : (Instr.typeAssert (.iface 107 v) 62 107 true).run Try.prog w = .ok (.tuple #[v, .bool true]) w := by kernel_rfl
theorem no_sealed (u : TypeId) (v : Value) (w : World) (h : u ≠ 107) : (Instr.typeAssert (.iface u v) 62 107 true).run Try.prog w = .ok (.tuple #[.agg #[.string ⟨#[]⟩, .string ⟨#[]⟩], .bool false]) w := by
  have e : (Instr.typeAssert (.iface u v) 62 107 true).run Try.prog w = (if u = 107 then (pure (Value.tuple #[v, .bool true]) : Sem Value) else (do pure (Value.tuple #[← zeroValue 107, .bool false]))).run Try.prog w := by kernel_rfl
  rw [e, if_neg h]
  exact zero_sealed w
theorem nil_sealed (w : World) : (Instr.typeAssert .nilIface 62 107 true).run Try.prog w = .ok (.tuple #[.agg #[.string ⟨#[]⟩, .string ⟨#[]⟩], .bool false]) w := by kernel_rfl
theorem zero_boxed (w : World) : (do pure (Value.tuple #[← zeroValue 112, .bool false]) : Sem Value).run Try.prog w = .ok (.tuple #[.agg #[.string ⟨#[]⟩, .string ⟨#[]⟩], .bool false]) w := by kernel_rfl
theorem is_boxed (v : Value) (w : World) : (Instr.typeAssert (.iface 112 v) 62 112 true).run Try.prog w = .ok (.tuple #[v, .bool true]) w := by kernel_rfl
theorem no_boxed (u : TypeId) (v : Value) (w : World) (h : u ≠ 112) : (Instr.typeAssert (.iface u v) 62 112 true).run Try.prog w = .ok (.tuple #[.agg #[.string ⟨#[]⟩, .string ⟨#[]⟩], .bool false]) w := by
  have e : (Instr.typeAssert (.iface u v) 62 112 true).run Try.prog w = (if u = 112 then (pure (Value.tuple #[v, .bool true]) : Sem Value) else (do pure (Value.tuple #[← zeroValue 112, .bool false]))).run Try.prog w := by kernel_rfl
  rw [e, if_neg h]
  exact zero_boxed w
theorem nil_boxed (w : World) : (Instr.typeAssert .nilIface 62 112 true).run Try.prog w = .ok (.tuple #[.agg #[.string ⟨#[]⟩, .string ⟨#[]⟩], .bool false]) w := by kernel_rfl
theorem zero_signed (w : World) : (do pure (Value.tuple #[← zeroValue 109, .bool false]) : Sem Value).run Try.prog w = .ok (.tuple #[.agg #[.string ⟨#[]⟩, .string ⟨#[]⟩], .bool false]) w := by kernel_rfl
theorem is_signed (v : Value) (w : World) : (Instr.typeAssert (.iface 109 v) 62 109 true).run Try.prog w = .ok (.tuple #[v, .bool true]) w := by kernel_rfl
theorem no_signed (u : TypeId) (v : Value) (w : World) (h : u ≠ 109) : (Instr.typeAssert (.iface u v) 62 109 true).run Try.prog w = .ok (.tuple #[.agg #[.string ⟨#[]⟩, .string ⟨#[]⟩], .bool false]) w := by
  have e : (Instr.typeAssert (.iface u v) 62 109 true).run Try.prog w = (if u = 109 then (pure (Value.tuple #[v, .bool true]) : Sem Value) else (do pure (Value.tuple #[← zeroValue 109, .bool false]))).run Try.prog w := by kernel_rfl
  rw [e, if_neg h]
  exact zero_signed w
theorem nil_signed (w : World) : (Instr.typeAssert .nilIface 62 109 true).run Try.prog w = .ok (.tuple #[.agg #[.string ⟨#[]⟩, .string ⟨#[]⟩], .bool false]) w := by kernel_rfl
end Go.Proofs.Ytahlilhdiklemaa.Term
