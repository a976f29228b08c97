/-
  MLate, MBytes. By an AI agent.
-/
import Derived.Test.YtlkgjceddbclpaaGreatBZ
import Derived.Test.YtlkgjceddbclpaaGreatBMReg
import Derived.Test.YtlkgjceddbclpaaGreatBLate
import Derived.Lib.ConvBytes
import Derived.Laws.IdiomStrings
import Derived.Test.YtlkgjceddbclpaaGreatBW0
namespace Go.Proofs.YtlkgjceddbclpaaGreat.Mta
open Go.RowKit Wire Term Rig

set_option linter.unusedSimpArgs false
set_option linter.unusedVariables false
theorem mx_at {W : World} {g : Nat} {o f : ByteArray} {ep : Int} {A : Option Addr} {n c : Nat} {B : Option Addr} {m d : Nat} {ver : Nat} {V : Option Addr} {nv cv : Nat} {K : Option Addr} {nk ck : Nat} {sig : ByteArray} {t : TypeId} (h : W.heap[g]? = some (.cells #[.string o, .string f, .int .i64 ep, .slice A n c, .slice B m d, .int .u64 (ver : Int), .slice V nv cv, .slice K nk ck, .string sig] t)) :
    Mx g W o f ep A n c B m d ver V nv cv K nk ck sig ∧ Sf9 g W := by
  have hc : ∀ j, W.cell? ⟨g, j, none⟩ = (#[.string o, .string f, .int .i64 ep, .slice A n c, .slice B m d, .int .u64 (ver : Int), .slice V nv cv, .slice K nk ck, .string sig] : Array Value)[j]? := fun j => cell_of_row _ _ _ _ _ (0, 0) h
  have hf : ∀ j, W.frozen? ⟨g, j, none⟩ = false := fun j => by
    unfold World.frozen?
    rw [h]; simp
  exact ⟨⟨⟨hc 0, hc 1, hc 2, hc 3, hc 4, hc 5, hc 6, hc 7, hc 8⟩, (Array.getElem?_eq_some_iff.1 h).1⟩, hf 0, hf 1, hf 2, hf 3, hf 4, hf 5, hf 6, hf 7, hf 8⟩
def Gs (w0 B lo : Nat) : List Nat := List.range w0 ++ List.range' B (lo - B)
theorem gs_lt {w0 B lo : Nat} (h0 : w0 ≤ lo) : ∀ g ∈ Gs w0 B lo, g < lo := fun g hg => by
  rcases List.mem_append.1 hg with h | h
  · have := List.mem_range.1 h; omega
  · rw [List.mem_range'_1] at h; omega
theorem gs_off {w0 B lo b : Nat} : Off (Gs w0 B lo) b ↔ w0 ≤ b ∧ (b < B ∨ lo ≤ b) := by
  unfold Off Gs
  rw [List.mem_append, List.mem_range, List.mem_range'_1]
  omega
theorem isX_in {w0 : Nat} {w : World} {v : Value} {r : Rt} (h : IsX (Off (List.range w0)) w v r) : IsX (fun b => w0 ≤ b ∧ b < w.heap.size) w v r := h.mono fun b hb hm => ⟨by
  unfold Off at hm; rw [List.mem_range] at hm; omega, hb⟩
theorem isX_gs {w0 B lo : Nat} {w : World} {v : Value} {r : Rt} (h : IsX (fun b => w0 ≤ b ∧ b < B) w v r) : IsX (Off (Gs w0 B lo)) w v r := h.mono fun b hb hm => gs_off.2 ⟨hm.1, .inl hm.2⟩
def Near (w0 B lo hi b : Nat) : Prop := w0 ≤ b ∧ (b < B ∨ (lo ≤ b ∧ b < hi))
theorem isM_near {w0 B lo : Nat} {w : World} {v : Value} {m : Mt} (h : IsM (Off (Gs w0 B lo)) w v m) : IsM (Near w0 B lo w.heap.size) w v m := h.mono fun b hb hm => by
  obtain ⟨h1, h2⟩ := gs_off.1 hm
  exact ⟨h1, h2.imp id fun h => ⟨h, hb⟩⟩
theorem isM_late {w0 B lo hi g : Nat} {w : World} {v : Value} {m : Mt} (h : IsM (Near w0 B lo hi) w v m) (hB : B ≤ g) (hg : g < lo ∨ hi ≤ g) : IsM (Off (g :: List.range w0)) w v m := h.mono fun b hb hm => by
  obtain ⟨h1, h2⟩ := hm
  unfold Off
  rw [List.mem_cons, List.mem_range]
  omega
end Go.Proofs.YtlkgjceddbclpaaGreat.Mta

namespace Go.Proofs.YtlkgjceddbclpaaGreat.Mta
open Go.RowKit Wire Term Rig

set_option linter.unusedSimpArgs false
def Bq (g : Nat) (w : World) (l : Tm) : Prop := g < w.heap.size ∧ ∀ j, j < l.length → w.cell? ⟨g, j, none⟩ = some (.int .u8 ((l.getD j 0).toNat : Int)) ∧ w.frozen? ⟨g, j, none⟩ = false
theorem bq_new (w : World) (e : TypeId) (s : ByteArray) : Bq w.heap.size (Lib.bytesWorld w e s) s.data.toList := by
  refine ⟨by rw [Lib.bytesWorld_size]; omega, fun j hj => ⟨?_, ?_⟩⟩
  · rw [Lib.bytesWorld_cell w e s j (by rw [Lib.size_eq]; exact hj)]
  · unfold World.frozen?
    rw [Lib.bytesWorld_at_new]
    have : s.size ≤ (Lib.bytesCells w e s).size := by unfold Lib.bytesCells; simp
    have hj' : j < s.size := by rw [Lib.size_eq]; exact hj
    simp only [Bool.and_eq_false_iff, decide_eq_false_iff_not]
    left
    omega
theorem bel_bytes (w : World) (e : TypeId) (s : ByteArray) : Below w.heap.size w (Lib.bytesWorld w e s) := by
  refine ⟨?_, ?_, ?_, by rw [Lib.bytesWorld_size]; omega, fun j hj => Lib.bytesWorld_at_old w e s j hj⟩
  all_goals (unfold Lib.bytesWorld World.freeze; split <;> rfl)
theorem bq_set {g k : Nat} {w : World} {l : Tm} {v : UInt8} (h : Bq g w l) : Bq g (w.setCell ⟨g, k, none⟩ (.int .u8 (v.toNat : Int))) (l.set k v) := by
  refine ⟨by simp; exact h.1, fun j hj => ?_⟩
  rw [List.length_set] at hj
  obtain ⟨h1, h2⟩ := h.2 j hj
  refine ⟨?_, by simp; exact h2⟩
  by_cases e : k = j
  · subst e
    simp [World.cell?_setCell_same', h1, List.getD, hj]
  · rw [World.cell?_setCell_other _ _ _ _ (fun x => e (by injection x)), h1]
    simp [List.getD, List.getElem?_set_ne e]
theorem bq_text {g : Nat} {w : World} {l : Tm} (h : Bq g w l) (cap : Nat) (P : Program) (src dst e : TypeId) (hs : P.underlying src = some (.slice e)) (he : P.underlying e = some (.int .u8)) (hd : P.underlying dst = some .string) : (convert src dst (.slice (some ⟨g, 0, none⟩) l.length cap)).run P w = .ok (.string ⟨l.toArray⟩) w :=
  run_convert_bytes_back w src dst e ⟨g, 0, none⟩ cap l hs he hd fun j hj => by
    have := (h.2 j hj).1
    rw [show ((⟨g, 0, none⟩ : Addr).add j) = ⟨g, j, none⟩ from by unfold Addr.add; split <;> simp_all, this]
    simp [List.getD, hj]
theorem wrap_u8 (n : Int) : IntKind.u8.wrap n = n % 256 := by simp [IntKind.wrap, IntKind.bits, IntKind.signed]
theorem xor_u8 (b : UInt8) {m : Nat} (hm : m < 8) : bits .xor .u8 (b.toNat : Int) (IntKind.u8.wrap (2 ^ m)) = ((b.toNat ^^^ 2 ^ m : Nat) : Int) := by
  have hb := b.toNat_lt
  have hp : 2 ^ m < 256 := Nat.pow_lt_pow_right (by decide) hm
  have hw : IntKind.u8.wrap (2 ^ m) = ((2 ^ m : Nat) : Int) := by
    rw [wrap_u8, show ((2 : Int) ^ m) = ((2 ^ m : Nat) : Int) by simp]
    generalize 2 ^ m = q at hp
    omega
  rw [hw]
  have hx : b.toNat ^^^ 2 ^ m < 2 ^ 8 := Nat.xor_lt_two_pow hb hp
  have h1 : (BitVec.ofInt 8 (b.toNat : Int)).toNat = b.toNat := by
    rw [BitVec.ofInt_natCast, BitVec.toNat_ofNat]; exact Nat.mod_eq_of_lt hb
  have h2 : (BitVec.ofInt 8 ((2 ^ m : Nat) : Int)).toNat = 2 ^ m := by
    rw [BitVec.ofInt_natCast, BitVec.toNat_ofNat]; exact Nat.mod_eq_of_lt hp
  show IntKind.u8.wrap ((BitVec.ofInt 8 (b.toNat : Int) ^^^ BitVec.ofInt 8 ((2 ^ m : Nat) : Int)).toNat : Int) = _
  rw [BitVec.toNat_xor, h1, h2, wrap_u8]
  omega
theorem xor_one (b : UInt8) : bits .xor .u8 (b.toNat : Int) 1 = ((b ^^^ 1 : UInt8).toNat : Int) := by
  have h := xor_u8 b (m := 0) (by decide)
  rw [show IntKind.u8.wrap (2 ^ 0) = 1 from by decide] at h
  rw [h, UInt8.toNat_xor]; rfl
end Go.Proofs.YtlkgjceddbclpaaGreat.Mta

