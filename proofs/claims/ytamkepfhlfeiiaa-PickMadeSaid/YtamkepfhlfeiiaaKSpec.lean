/-
  WHAT THE CODE OF package pick IS HELD TO. By an AI agent; no person has read it.
-/
import Derived.Test.YtamkepfhlfeiiaaSSpec
namespace Go.Proofs.Ytamkepfhlfeiiaa.Sto
open Go Go.RowKit Wire

set_option linter.unusedVariables false
/-- What a choice says. -/
structure Ch where
  kind : Int
  back : Int
  key : ByteArray
  bytes : ByteArray
def Ch.v (c : Ch) : Value := .agg #[.int .u8 c.kind, .int .i64 c.back, .string c.key, .string c.bytes]
structure Ch.Ok (c : Ch) : Prop where
  kind : 0 ≤ c.kind ∧ c.kind ≤ 255
  back : -9223372036854775808 ≤ c.back ∧ c.back ≤ 9223372036854775807
  key : c.key.size ≤ 140737488351232
  bytes : c.bytes.size ≤ 140737488351232
theorem ch_ok {kd bk : Int} {Y Z : ByteArray} (h1 : 0 ≤ kd ∧ kd ≤ 255) (h2 : -9223372036854775808 ≤ bk ∧ bk ≤ 9223372036854775807) (h3 : Y.size ≤ 140737488351232) (h4 : Z.size ≤ 140737488351232) : Ch.Ok ⟨kd, bk, Y, Z⟩ := ⟨h1, h2, h3, h4⟩
def none4 : Tm × Int := ([], 4)
def pickG (s : Stt) (k : Tm) (c : Ch) : Tm × Int :=
  if c.kind = 115 then (if c.back < 0 ∨ ((s.ver k).length : Int) ≤ c.back then none4 else ((s.ver k).getD ((s.ver k).length - 1 - c.back.toNat) [], 0))
  else if c.kind = 100 then none4
  else if c.kind = 120 then getS s c.key.data.toList
  else if c.kind = 98 then (if 40000 < c.bytes.size then ([], 10) else (c.bytes.data.toList, 0))
  else getS s k
def pickLie (s : Stt) (k : Tm) (c : Ch) : Bool := decide (pickG s k c ≠ getS s k)
def PL (s : Stt) (k : Tm) (c : Ch) (l : List Tm) : Prop := if c.kind = 100 then l = [] else Lists s k l
structure PickOK (D : DPred) : Prop where
  get : ∀ (a : Addr) (X : Nat → Prop) (s : Stt) (K : ByteArray) (c : Ch) (w : World), D w a X s → Fine s → K.size ≤ 140737488351232 → c.Ok → Calls Try.prog 12 #[.pointer (some a), .string K, c.v] w fun e w' => Sr (pickG s K.data.toList c) e ∧ Below w.heap.size w w'
  list : ∀ (a : Addr) (X : Nat → Prop) (s : Stt) (K : ByteArray) (c : Ch) (w : World), D w a X s → Fine s → K.size ≤ 140737488351232 → c.Ok → Calls Try.prog 14 #[.pointer (some a), .string K, c.v] w fun e w' => (∃ l, PL s K.data.toList c l ∧ Row w w' l e) ∧ Below w.heap.size w w'
  lies : ∀ (a : Addr) (X : Nat → Prop) (s : Stt) (K : ByteArray) (c : Ch) (w : World), D w a X s → Fine s → K.size ≤ 140737488351232 → c.Ok → Calls Try.prog 17 #[.pointer (some a), .string K, c.v] w fun e w' => e = .returned (.bool (pickLie s K.data.toList c)) ∧ Below w.heap.size w w'
  getn : ∀ (K : ByteArray) (c : Ch) (w : World), K.size ≤ 140737488351232 → c.Ok → Calls Try.prog 12 #[.pointer none, .string K, c.v] w fun e w' => Sr (pickG s0 K.data.toList c) e ∧ Below w.heap.size w w'
  listn : ∀ (K : ByteArray) (c : Ch) (w : World), K.size ≤ 140737488351232 → c.Ok → Calls Try.prog 14 #[.pointer none, .string K, c.v] w fun e w' => Row w w' [] e ∧ Below w.heap.size w w'
  liesn : ∀ (K : ByteArray) (c : Ch) (w : World), K.size ≤ 140737488351232 → c.Ok → Calls Try.prog 17 #[.pointer none, .string K, c.v] w fun e w' => e = .returned (.bool (pickLie s0 K.data.toList c)) ∧ Below w.heap.size w w'
section
variable {D : DPred} {w0 w : World} {a : Addr} {X : Nat → Prop} {s : Stt}
theorem pk_get (p : PickOK D) (h : Sts D w0 w a X s) {K : ByteArray} {k : Tm} {kd bk : Int} {Y Z : ByteArray} (hk : K.data.toList = k) (h1 : K.size ≤ 140737488351232) (hc : Ch.Ok ⟨kd, bk, Y, Z⟩) : Calls Try.prog 12 #[.pointer (some a), .string K, .agg #[.int .u8 kd, .int .i64 bk, .string Y, .string Z]] w fun e w' => Sr (pickG s k ⟨kd, bk, Y, Z⟩) e ∧ Below w.heap.size w w' := by
  have := p.get a X s K ⟨kd, bk, Y, Z⟩ w h.d h.f h1 hc
  rw [hk] at this
  exact this
theorem pk_lies (p : PickOK D) (h : Sts D w0 w a X s) {K : ByteArray} {k : Tm} {kd bk : Int} {Y Z : ByteArray} (hk : K.data.toList = k) (h1 : K.size ≤ 140737488351232) (hc : Ch.Ok ⟨kd, bk, Y, Z⟩) : Calls Try.prog 17 #[.pointer (some a), .string K, .agg #[.int .u8 kd, .int .i64 bk, .string Y, .string Z]] w fun e w' => e = .returned (.bool (pickLie s k ⟨kd, bk, Y, Z⟩)) ∧ Below w.heap.size w w' := by
  have := p.lies a X s K ⟨kd, bk, Y, Z⟩ w h.d h.f h1 hc
  rw [hk] at this
  exact this
theorem pk_list (d : StoreOK D) (p : PickOK D) (h : Sts D w0 w a X s) {K : ByteArray} {k : Tm} {kd bk : Int} {Y Z : ByteArray} (hk : K.data.toList = k) (h1 : K.size ≤ 140737488351232) (hc : Ch.Ok ⟨kd, bk, Y, Z⟩) : Calls Try.prog 14 #[.pointer (some a), .string K, .agg #[.int .u8 kd, .int .i64 bk, .string Y, .string Z]] w fun e w' => (∃ l, PL s k ⟨kd, bk, Y, Z⟩ l ∧ Told w0 w' X l e) ∧ Below w.heap.size w w' := by
  have := p.list a X s K ⟨kd, bk, Y, Z⟩ w h.d h.f h1 hc
  rw [hk] at this
  exact this.mono fun e w' hh => by
    obtain ⟨⟨l, h2, h3⟩, h4⟩ := hh
    exact ⟨⟨l, h2, told_of d h h3⟩, h4⟩
end
end Go.Proofs.Ytamkepfhlfeiiaa.Sto
