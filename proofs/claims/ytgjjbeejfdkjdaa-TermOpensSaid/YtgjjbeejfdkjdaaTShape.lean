/-
  THE CODE's term.shape: what a right term is read into (an interface whose type tells the kind), and what its type assertions and comparisons with nil come to. By an AI agent; no person has read it.
-/
import Derived.Test.YtgjjbeejfdkjdaaTMake
import Derived.Test.YtgjjbeejfdkjdaaWTake
namespace Go.Proofs.Ytgjjbeejfdkjdaa.Term
open Go.RowKit Wire

/-- The shape of a right term: the value that the code keeps of it. -/
def Shp (l : List UInt8) (v : Value) : Prop :=
  (∃ n : Nat, n < 18446744073709551616 ∧ l = 97 :: put n ∧ v = .iface 73 (.agg #[.int .u64 n])) ∨
  (∃ W : ByteArray, W.size ≤ 4000 ∧ l = 116 :: putText W.data.toList ∧ v = .iface 76 (.agg #[.string W])) ∨
  (∃ P : ByteArray, right P.data.toList = true ∧ l = 104 :: P.data.toList ∧ v = .iface 103 (.agg #[.string P])) ∨
  (∃ P : ByteArray, right P.data.toList = true ∧ l = 117 :: P.data.toList ∧ v = .iface 61 (.agg #[.string P])) ∨
  (∃ P Q : ByteArray, (right P.data.toList = true ∧ right Q.data.toList = true) ∧ l = 112 :: (P.data.toList ++ Q.data.toList) ∧ v = .iface 105 (.agg #[.string P, .string Q])) ∨
  (∃ P Q : ByteArray, (right P.data.toList = true ∧ right Q.data.toList = true) ∧ l = 115 :: (P.data.toList ++ Q.data.toList) ∧ v = .iface 58 (.agg #[.string P, .string Q])) ∨
  (∃ P Q : ByteArray, (right P.data.toList = true ∧ right Q.data.toList = true) ∧ l = 103 :: (P.data.toList ++ Q.data.toList) ∧ v = .iface 67 (.agg #[.string P, .string Q])) ∨
  (∃ P Q : ByteArray, (right P.data.toList = true ∧ right Q.data.toList = true ∧ P.data.toList.head? = some 117) ∧ l = 98 :: (P.data.toList ++ Q.data.toList) ∧ v = .iface 64 (.agg #[.string P, .string Q]))
theorem Shp.atom (n : Nat) (hn : n < 18446744073709551616) : Shp (97 :: put n) (.iface 73 (.agg #[.int .u64 n])) := .inl ⟨n, hn, rfl, rfl⟩
theorem Shp.text (W : ByteArray) (h : W.size ≤ 4000) : Shp (116 :: putText W.data.toList) (.iface 76 (.agg #[.string W])) := .inr (.inl ⟨W, h, rfl, rfl⟩)
theorem Shp.hash (P : ByteArray) (h : right P.data.toList = true) : Shp (104 :: P.data.toList) (.iface 103 (.agg #[.string P])) := .inr (.inr (.inl ⟨P, h, rfl, rfl⟩))
theorem Shp.pub (P : ByteArray) (h : right P.data.toList = true) : Shp (117 :: P.data.toList) (.iface 61 (.agg #[.string P])) := .inr (.inr (.inr (.inl ⟨P, h, rfl, rfl⟩)))
theorem Shp.pair (P Q : ByteArray) (h : right P.data.toList = true) (h2 : right Q.data.toList = true) : Shp (112 :: (P.data.toList ++ Q.data.toList)) (.iface 105 (.agg #[.string P, .string Q])) := .inr (.inr (.inr (.inr (.inl ⟨P, Q, ⟨h, h2⟩, rfl, rfl⟩))))
theorem Shp.sealed (P Q : ByteArray) (h : right P.data.toList = true) (h2 : right Q.data.toList = true) : Shp (115 :: (P.data.toList ++ Q.data.toList)) (.iface 58 (.agg #[.string P, .string Q])) := .inr (.inr (.inr (.inr (.inr (.inl ⟨P, Q, ⟨h, h2⟩, rfl, rfl⟩)))))
theorem Shp.signed (P Q : ByteArray) (h : right P.data.toList = true) (h2 : right Q.data.toList = true) : Shp (103 :: (P.data.toList ++ Q.data.toList)) (.iface 67 (.agg #[.string P, .string Q])) := .inr (.inr (.inr (.inr (.inr (.inr (.inl ⟨P, Q, ⟨h, h2⟩, rfl, rfl⟩))))))
theorem Shp.boxed (P Q : ByteArray) (h : right P.data.toList = true) (h2 : right Q.data.toList = true) (h3 : P.data.toList.head? = some 117) : Shp (98 :: (P.data.toList ++ Q.data.toList)) (.iface 64 (.agg #[.string P, .string Q])) := .inr (.inr (.inr (.inr (.inr (.inr (.inr ⟨P, Q, ⟨h, h2, h3⟩, rfl, rfl⟩))))))
theorem Shp.isIface {l : List UInt8} {v : Value} (h : Shp l v) : ∃ T a, v = .iface T a := by
  rcases h with ⟨_, _, _, h⟩ | ⟨_, _, _, h⟩ | ⟨_, _, _, h⟩ | ⟨_, _, _, h⟩ | ⟨_, _, _, _, h⟩ | ⟨_, _, _, _, h⟩ | ⟨_, _, _, _, h⟩ | ⟨_, _, _, _, h⟩ <;> exact ⟨_, _, h⟩
theorem Shp.head {l : List UInt8} {T : TypeId} {a : Value} (h : Shp l (.iface T a)) : (T = 61 ∧ l.head? = some 117) ∨ (T ≠ 61 ∧ l.head? ≠ some 117) := by
  rcases h with ⟨_, _, hl, h⟩ | ⟨_, _, hl, h⟩ | ⟨_, _, hl, h⟩ | ⟨_, _, hl, h⟩ | ⟨_, _, _, hl, h⟩ | ⟨_, _, _, hl, h⟩ | ⟨_, _, _, hl, h⟩ | ⟨_, _, _, hl, h⟩
  case inr.inr.inr.inl => injection h with h1 _; exact .inl ⟨h1, by rw [hl]; rfl⟩
  all_goals (injection h with h1 _; exact .inr ⟨by rw [h1]; decide, by rw [hl]; simp⟩)

theorem nil_no (w : World) (T : TypeId) (a : Value) : (binOp .eql 55 (.iface T a) .nilIface).run Try.prog w = .ok (.bool false) w := by kernel_rfl
theorem nil_yes (w : World) : (binOp .eql 55 .nilIface .nilIface).run Try.prog w = .ok (.bool true) w := by kernel_rfl
theorem zero_publicOne (w : World) : (do pure (Value.tuple #[← zeroValue 61, .bool false]) : Sem Value).run Try.prog w = .ok (.tuple #[.agg #[.string ⟨#[]⟩], .bool false]) w := by kernel_rfl
theorem is_publicOne (v : Value) (w : World) : (Instr.typeAssert (.iface 61 v) 55 61 true).run Try.prog w = .ok (.tuple #[v, .bool true]) w := by kernel_rfl
theorem no_publicOne (u : TypeId) (v : Value) (w : World) (h : u ≠ 61) : (Instr.typeAssert (.iface u v) 55 61 true).run Try.prog w = .ok (.tuple #[.agg #[.string ⟨#[]⟩], .bool false]) w := by
  have e : (Instr.typeAssert (.iface u v) 55 61 true).run Try.prog w = (if u = 61 then (pure (Value.tuple #[v, .bool true]) : Sem Value) else (do pure (Value.tuple #[← zeroValue 61, .bool false]))).run Try.prog w := by kernel_rfl
  rw [e, if_neg h]
  exact zero_publicOne w
theorem nil_publicOne (w : World) : (Instr.typeAssert .nilIface 55 61 true).run Try.prog w = .ok (.tuple #[.agg #[.string ⟨#[]⟩], .bool false]) w := by kernel_rfl
theorem zero_atom (w : World) : (do pure (Value.tuple #[← zeroValue 73, .bool false]) : Sem Value).run Try.prog w = .ok (.tuple #[.agg #[.int .u64 0], .bool false]) w := by kernel_rfl
theorem is_atom (v : Value) (w : World) : (Instr.typeAssert (.iface 73 v) 55 73 true).run Try.prog w = .ok (.tuple #[v, .bool true]) w := by kernel_rfl
theorem no_atom (u : TypeId) (v : Value) (w : World) (h : u ≠ 73) : (Instr.typeAssert (.iface u v) 55 73 true).run Try.prog w = .ok (.tuple #[.agg #[.int .u64 0], .bool false]) w := by
  have e : (Instr.typeAssert (.iface u v) 55 73 true).run Try.prog w = (if u = 73 then (pure (Value.tuple #[v, .bool true]) : Sem Value) else (do pure (Value.tuple #[← zeroValue 73, .bool false]))).run Try.prog w := by kernel_rfl
  rw [e, if_neg h]
  exact zero_atom w
theorem nil_atom (w : World) : (Instr.typeAssert .nilIface 55 73 true).run Try.prog w = .ok (.tuple #[.agg #[.int .u64 0], .bool false]) w := by kernel_rfl
theorem zero_text (w : World) : (do pure (Value.tuple #[← zeroValue 76, .bool false]) : Sem Value).run Try.prog w = .ok (.tuple #[.agg #[.string ⟨#[]⟩], .bool false]) w := by kernel_rfl
theorem is_text (v : Value) (w : World) : (Instr.typeAssert (.iface 76 v) 55 76 true).run Try.prog w = .ok (.tuple #[v, .bool true]) w := by kernel_rfl
theorem no_text (u : TypeId) (v : Value) (w : World) (h : u ≠ 76) : (Instr.typeAssert (.iface u v) 55 76 true).run Try.prog w = .ok (.tuple #[.agg #[.string ⟨#[]⟩], .bool false]) w := by
  have e : (Instr.typeAssert (.iface u v) 55 76 true).run Try.prog w = (if u = 76 then (pure (Value.tuple #[v, .bool true]) : Sem Value) else (do pure (Value.tuple #[← zeroValue 76, .bool false]))).run Try.prog w := by kernel_rfl
  rw [e, if_neg h]
  exact zero_text w
theorem nil_text (w : World) : (Instr.typeAssert .nilIface 55 76 true).run Try.prog w = .ok (.tuple #[.agg #[.string ⟨#[]⟩], .bool false]) w := by kernel_rfl
theorem zero_sealed (w : World) : (do pure (Value.tuple #[← zeroValue 58, .bool false]) : Sem Value).run Try.prog w = .ok (.tuple #[.agg #[.string ⟨#[]⟩, .string ⟨#[]⟩], .bool false]) w := by kernel_rfl
theorem is_sealed (v : Value) (w : World) : (Instr.typeAssert (.iface 58 v) 55 58 true).run Try.prog w = .ok (.tuple #[v, .bool true]) w := by kernel_rfl
theorem no_sealed (u : TypeId) (v : Value) (w : World) (h : u ≠ 58) : (Instr.typeAssert (.iface u v) 55 58 true).run Try.prog w = .ok (.tuple #[.agg #[.string ⟨#[]⟩, .string ⟨#[]⟩], .bool false]) w := by
  have e : (Instr.typeAssert (.iface u v) 55 58 true).run Try.prog w = (if u = 58 then (pure (Value.tuple #[v, .bool true]) : Sem Value) else (do pure (Value.tuple #[← zeroValue 58, .bool false]))).run Try.prog w := by kernel_rfl
  rw [e, if_neg h]
  exact zero_sealed w
theorem nil_sealed (w : World) : (Instr.typeAssert .nilIface 55 58 true).run Try.prog w = .ok (.tuple #[.agg #[.string ⟨#[]⟩, .string ⟨#[]⟩], .bool false]) w := by kernel_rfl
theorem zero_boxed (w : World) : (do pure (Value.tuple #[← zeroValue 64, .bool false]) : Sem Value).run Try.prog w = .ok (.tuple #[.agg #[.string ⟨#[]⟩, .string ⟨#[]⟩], .bool false]) w := by kernel_rfl
theorem is_boxed (v : Value) (w : World) : (Instr.typeAssert (.iface 64 v) 55 64 true).run Try.prog w = .ok (.tuple #[v, .bool true]) w := by kernel_rfl
theorem no_boxed (u : TypeId) (v : Value) (w : World) (h : u ≠ 64) : (Instr.typeAssert (.iface u v) 55 64 true).run Try.prog w = .ok (.tuple #[.agg #[.string ⟨#[]⟩, .string ⟨#[]⟩], .bool false]) w := by
  have e : (Instr.typeAssert (.iface u v) 55 64 true).run Try.prog w = (if u = 64 then (pure (Value.tuple #[v, .bool true]) : Sem Value) else (do pure (Value.tuple #[← zeroValue 64, .bool false]))).run Try.prog w := by kernel_rfl
  rw [e, if_neg h]
  exact zero_boxed w
theorem nil_boxed (w : World) : (Instr.typeAssert .nilIface 55 64 true).run Try.prog w = .ok (.tuple #[.agg #[.string ⟨#[]⟩, .string ⟨#[]⟩], .bool false]) w := by kernel_rfl
theorem zero_signed (w : World) : (do pure (Value.tuple #[← zeroValue 67, .bool false]) : Sem Value).run Try.prog w = .ok (.tuple #[.agg #[.string ⟨#[]⟩, .string ⟨#[]⟩], .bool false]) w := by kernel_rfl
theorem is_signed (v : Value) (w : World) : (Instr.typeAssert (.iface 67 v) 55 67 true).run Try.prog w = .ok (.tuple #[v, .bool true]) w := by kernel_rfl
theorem no_signed (u : TypeId) (v : Value) (w : World) (h : u ≠ 67) : (Instr.typeAssert (.iface u v) 55 67 true).run Try.prog w = .ok (.tuple #[.agg #[.string ⟨#[]⟩, .string ⟨#[]⟩], .bool false]) w := by
  have e : (Instr.typeAssert (.iface u v) 55 67 true).run Try.prog w = (if u = 67 then (pure (Value.tuple #[v, .bool true]) : Sem Value) else (do pure (Value.tuple #[← zeroValue 67, .bool false]))).run Try.prog w := by kernel_rfl
  rw [e, if_neg h]
  exact zero_signed w
theorem nil_signed (w : World) : (Instr.typeAssert .nilIface 55 67 true).run Try.prog w = .ok (.tuple #[.agg #[.string ⟨#[]⟩, .string ⟨#[]⟩], .bool false]) w := by kernel_rfl
end Go.Proofs.Ytgjjbeejfdkjdaa.Term
