/-
  A TEXT AS A ROW OF BYTES OF ONE'S OWN. By an AI agent; no person has read it.
-/
import Derived.Test.YtmmeklemaofmjaaP9
import Derived.Test.YtmmeklemaofmjaaP2
import Derived.Lib.ConvBytes
import Derived.Laws.IdiomStrings
namespace Go.Proofs.Ytmmeklemaofmjaa.Frs
open Go.RowKit Wire Term

set_option linter.unusedSimpArgs false
/-- A block holds these bytes, which may be written. -/
def Bq (g : Nat) (w : World) (l : Tm) : Prop := g < w.heap.size ∧ ∀ j, j < l.length → w.cell? ⟨g, j, none⟩ = some (.int .u8 ((l.getD j 0).toNat : Int)) ∧ w.frozen? ⟨g, j, none⟩ = false
theorem Bq.below {g : Nat} {w w1 : World} {l : Tm} (h : Bq g w l) (hb : Below w.heap.size w w1) : Bq g w1 l :=
  ⟨Nat.lt_of_lt_of_le h.1 hb.size, fun j hj => ⟨(hb.cell (p := ⟨g, j, none⟩) h.1).trans (h.2 j hj).1, (hb.frozen (p := ⟨g, j, none⟩) h.1).trans (h.2 j hj).2⟩⟩
theorem bq_new (w : World) (e : TypeId) (s : ByteArray) : Bq w.heap.size (Lib.bytesWorld w e s) s.data.toList := by
  refine ⟨by rw [Lib.bytesWorld_size]; omega, fun j hj => ⟨?_, ?_⟩⟩
  · rw [Lib.bytesWorld_cell w e s j (by rw [Lib.size_eq]; exact hj)]
  · unfold World.frozen?
    rw [Lib.bytesWorld_at_new]
    have : s.size ≤ (Lib.bytesCells w e s).size := by unfold Lib.bytesCells; simp
    have hj' : j < s.size := by rw [Lib.size_eq]; exact hj
    simp only [Bool.and_eq_false_iff, decide_eq_false_iff_not]
    left
    omega
theorem bel_bytes (w : World) (e : TypeId) (s : ByteArray) : Below w.heap.size w (Lib.bytesWorld w e s) := by
  refine ⟨?_, ?_, ?_, by rw [Lib.bytesWorld_size]; omega, fun j hj => Lib.bytesWorld_at_old w e s j hj⟩
  all_goals (unfold Lib.bytesWorld World.freeze; split <;> rfl)
theorem bq_set {g k : Nat} {w : World} {l : Tm} {v : UInt8} (h : Bq g w l) : Bq g (w.setCell ⟨g, k, none⟩ (.int .u8 (v.toNat : Int))) (l.set k v) := by
  refine ⟨by simp; exact h.1, fun j hj => ?_⟩
  rw [List.length_set] at hj
  obtain ⟨h1, h2⟩ := h.2 j hj
  refine ⟨?_, by simp; exact h2⟩
  by_cases e : k = j
  · subst e
    simp [World.cell?_setCell_same', h1, List.getD, hj]
  · rw [World.cell?_setCell_other _ _ _ _ (fun x => e (by injection x)), h1]
    simp [List.getD, List.getElem?_set_ne e]
theorem bq_text {g : Nat} {w : World} {l : Tm} (h : Bq g w l) (cap : Nat) (P : Program) (src dst e : TypeId) (hs : P.underlying src = some (.slice e)) (he : P.underlying e = some (.int .u8)) (hd : P.underlying dst = some .string) : (convert src dst (.slice (some ⟨g, 0, none⟩) l.length cap)).run P w = .ok (.string ⟨l.toArray⟩) w :=
  run_convert_bytes_back w src dst e ⟨g, 0, none⟩ cap l hs he hd fun j hj => by
    have := (h.2 j hj).1
    rw [show ((⟨g, 0, none⟩ : Addr).add j) = ⟨g, j, none⟩ from by unfold Addr.add; split <;> simp_all, this]
    simp [List.getD, hj]
theorem wrap_u8 (n : Int) : IntKind.u8.wrap n = n % 256 := by simp [IntKind.wrap, IntKind.bits, IntKind.signed]
theorem xor_u8 (b : UInt8) {m : Nat} (hm : m < 8) : bits .xor .u8 (b.toNat : Int) (IntKind.u8.wrap (2 ^ m)) = ((b.toNat ^^^ 2 ^ m : Nat) : Int) := by
  have hb := b.toNat_lt
  have hp : 2 ^ m < 256 := Nat.pow_lt_pow_right (by decide) hm
  have hw : IntKind.u8.wrap (2 ^ m) = ((2 ^ m : Nat) : Int) := by
    rw [wrap_u8, show ((2 : Int) ^ m) = ((2 ^ m : Nat) : Int) by simp]
    generalize 2 ^ m = q at hp
    omega
  rw [hw]
  have hx : b.toNat ^^^ 2 ^ m < 2 ^ 8 := Nat.xor_lt_two_pow hb hp
  have h1 : (BitVec.ofInt 8 (b.toNat : Int)).toNat = b.toNat := by
    rw [BitVec.ofInt_natCast, BitVec.toNat_ofNat]; exact Nat.mod_eq_of_lt hb
  have h2 : (BitVec.ofInt 8 ((2 ^ m : Nat) : Int)).toNat = 2 ^ m := by
    rw [BitVec.ofInt_natCast, BitVec.toNat_ofNat]; exact Nat.mod_eq_of_lt hp
  show IntKind.u8.wrap ((BitVec.ofInt 8 (b.toNat : Int) ^^^ BitVec.ofInt 8 ((2 ^ m : Nat) : Int)).toNat : Int) = _
  rw [BitVec.toNat_xor, h1, h2, wrap_u8]
  omega
/-- A bit turned makes another byte. -/
theorem flip_ne (b : UInt8) {m : Nat} (hm : m < 8) : b.toNat ^^^ (2 ^ m) < 256 ∧ b.toNat ^^^ (2 ^ m) ≠ b.toNat := by
  have hb := b.toNat_lt
  refine ⟨Nat.xor_lt_two_pow (n := 8) hb (Nat.pow_lt_pow_right (by decide) hm), fun h => ?_⟩
  have h2 : b.toNat ^^^ (b.toNat ^^^ 2 ^ m) = b.toNat ^^^ b.toNat := by rw [h]
  rw [← Nat.xor_assoc, Nat.xor_self, Nat.zero_xor] at h2
  exact absurd h2 (Nat.pos_iff_ne_zero.1 (Nat.two_pow_pos m))
theorem flip (b : UInt8) {m : Nat} (hm : m < 8) : ∃ v : UInt8, v ≠ b ∧ bits .xor .u8 (b.toNat : Int) (IntKind.u8.wrap (2 ^ m)) = (v.toNat : Int) := by
  obtain ⟨h1, h2⟩ := flip_ne b hm
  have e : ((b.toNat ^^^ 2 ^ m).toUInt8).toNat = b.toNat ^^^ 2 ^ m := u8_nat _ h1
  exact ⟨(b.toNat ^^^ 2 ^ m).toUInt8, fun h => h2 (by rw [← e, h]), by rw [xor_u8 b hm, e]⟩
end Go.Proofs.Ytmmeklemaofmjaa.Frs
