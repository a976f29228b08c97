/-
  PUTS, as they come in: a slice of structs of a number, a string, a flag (letterlocklaw13's Put). By an AI agent; no person has read it.
-/
import Derived.Test.YtamkepfhlfeiiaaKHelp
import Derived.Test.YtamkepfhlfeiiaaElm
import Derived.Deep.Slices
import Derived.Deep.Fields
import Derived.OpenShut
import Derived.ChangeSame
import Derived.SizedLaws
namespace Go.Proofs.Ytamkepfhlfeiiaa.Mip
open Go.RowKit Go.ChangeShapes

set_option maxRecDepth 1000000 in
theorem put_in {H : Type} {enc : TypeId × Value → H} {w : World} {base : Nat} {spare : Nat → Bool} {held : Bool} {fuel : Nat} {cs : List Value} {x : DataW H × List MemPlace} (h : DataW.trod enc Try.prog w base spare held fuel 55 cs = some x) :
    ∃ (k : Int) (B : ByteArray) (g : Bool) (d0 d2 : DataW H), cs = [.int .i64 k, .string B, .bool g] ∧ x.1 = .agg [d0, .lit (.string B.data.toList), d2] ∧ (Lit.int .i64 k).wf = true := by
  obtain ⟨xs, k, _, rfl, hl, hxl, hf⟩ := DataW.trod_struct Try.underlying55 h
  rw [show Try.prog.cellsOf 55 = 3 by kernel_rfl] at hl
  have c9 : Try.prog.cellsOf 9 = 1 := by kernel_rfl
  have c3 : Try.prog.cellsOf 3 = 1 := by kernel_rfl
  have c4 : Try.prog.cellsOf 4 = 1 := by kernel_rfl
  have hx3 : xs.length = 3 := hxl
  match cs, hl with
  | [v0, v1, v2], _ =>
    match xs, hx3 with
    | [y0, y1, y2], _ =>
      have h0 : DataW.trod enc Try.prog w base spare held k 3 [v0] = some y0 := by have := hf 0 _ rfl; simpa [c3] using this
      have h1 : DataW.trod enc Try.prog w base spare held k 9 [v1] = some y1 := by have := hf 1 _ rfl; simpa [c9, c3] using this
      have h2 : DataW.trod enc Try.prog w base spare held k 4 [v2] = some y2 := by have := hf 2 _ rfl; simpa [c9, c3, c4] using this
      obtain ⟨kk, e0, r0, hw0⟩ := DataW.trod_int Try.underlying3 h0
      obtain ⟨B, e1, r1, _⟩ := DataW.trod_string Try.underlying9 h1
      obtain ⟨g, e2, r2⟩ := DataW.trod_bool Try.underlying4 h2
      obtain rfl := (List.cons.inj e0).1
      obtain rfl := (List.cons.inj e1).1
      obtain rfl := (List.cons.inj e2).1
      subst r1
      exact ⟨kk, B, g, y0.1, y2.1, rfl, rfl, hw0⟩
/-- What the frame tells of acts that came in. -/
def IsPuts (w : World) (a : Option Addr) (len cap : Nat) (Z : Nat → Sto.Pu) : Prop := len ≤ cap ∧ cap ≤ 9223372036854775807 ∧ Sto.PReads w a len Z
theorem wf_le {z : Int} (h : (Lit.int .i64 z).wf = true) : -9223372036854775808 ≤ z ∧ z ≤ 9223372036854775807 := by simpa [Lit.wf, IntKind.min, IntKind.max, IntKind.bits, IntKind.signed] using h
theorem z0 (y : Addr) : y.add 0 = y := by simp [Addr.add]
theorem addr_none {w : World} {b off : Nat} {sp : _} {v : Value} (h : w.cell? ⟨b, off, sp⟩ = some v) : sp = none ∧ b < w.heap.size := by
  unfold World.cell? at h
  simp only at h
  split at h
  · rename_i h0
    refine ⟨?_, (Array.getElem?_eq_some_iff.1 h0).1⟩
    cases sp with
    | none => rfl
    | some q => simp at h
  · cases h
theorem addr_add (b off k : Nat) : (⟨b, off, none⟩ : Addr).add k = ⟨b, off + k, none⟩ := by
  unfold Addr.add
  split
  · rename_i h0; rw [h0]; rfl
  · rfl
set_option maxRecDepth 1000000 in
theorem puts_in {H : Type} {enc : TypeId × Value → H} {w : World} {base : Nat} {spare : Nat → Bool} {held : Bool} {fuel : Nat} {a : Option Addr} {len cap : Nat} {x : DataW H × List MemPlace} {ts : List TypeId} {ds : List (DataW H)} {j : Nat}
    (h : DataW.trod enc Try.prog w base spare held fuel 22 [.slice a len cap] = some x) (hsz : (DataW.weightsEach Try.prog ts ds).all (· ≤ reachBytes) = true) (ht : ts[j]? = some 22) (hd : ds[j]? = some x.1) : ∃ Z, IsPuts w a len cap Z := by
  rcases Go.Deep.open_slice Try.underlying22 h with ⟨h0, _⟩ | ⟨b, l, c, m, n, D, Pl, hcs, _, hl, hm, hmm, hx, hi⟩
  · simp only [List.cons.injEq, Value.slice.injEq, and_true] at h0
    obtain ⟨rfl, rfl, rfl⟩ := h0
    exact ⟨fun _ => ⟨0, ByteArray.empty, false⟩, Nat.le_refl _, Nat.zero_le _, fun i hi => absurd hi (Nat.not_lt_zero _)⟩
  simp only [List.cons.injEq, Value.slice.injEq, and_true] at hcs
  obtain ⟨rfl, rfl, rfl⟩ := hcs
  have hlm : len ≤ m := by rw [hmm]; split <;> omega
  have cA : Try.prog.cellsOf 55 = 3 := by kernel_rfl
  by_cases hl0 : len = 0
  · subst hl0
    exact ⟨fun _ => ⟨0, ByteArray.empty, false⟩, hl, hm, fun i hi => absurd hi (Nat.not_lt_zero _)⟩
  obtain ⟨bb, off, sp⟩ := b
  obtain ⟨rfl, hlt⟩ : sp = none ∧ bb < w.heap.size := by
    obtain ⟨cs', h1, h2⟩ := hi 0 (by omega)
    rw [cA] at h1
    obtain ⟨_, hlen, hcell⟩ := World.cells?_some h1
    obtain ⟨k, B, g, d0, d2, rfl, _⟩ := put_in h2
    have c0 := hcell 0 (by omega)
    rw [Nat.zero_mul, z0, z0] at c0
    exact addr_none (c0.trans rfl)
  have key : ∀ i, ∃ z : Sto.Pu, i < len → ∃ b' off', some (⟨bb, off, none⟩ : Addr) = some ⟨b', off', none⟩ ∧ b' < w.heap.size ∧
      (w.cell? ⟨b', off' + i * 3, none⟩ = some (.int .i64 z.k) ∧ w.cell? ⟨b', off' + i * 3 + 1, none⟩ = some (.string z.blob) ∧ w.cell? ⟨b', off' + i * 3 + 2, none⟩ = some (.bool z.gone)) ∧ z.Ok := by
    intro i
    by_cases hil : i < len
    · obtain ⟨cs', h1, h2⟩ := hi i (by omega)
      rw [cA] at h1
      obtain ⟨_, hlen, hcell⟩ := World.cells?_some h1
      obtain ⟨k, B, g, d0, d2, rfl, e2, w0⟩ := put_in h2
      have hDi : ∀ n ∈ (D i).weights Try.prog 55, n ≤ reachBytes := fun n hn => by
        have hmem : n ∈ DataW.weights Try.prog 22 x.1 := by
          rw [hx]
          simp only [DataW.weights, Try.underlying22, List.mem_cons, List.mem_append]
          exact .inr (.inl (Elm.weights_all (List.mem_map.2 ⟨i, List.mem_range.2 hil, rfl⟩) n hn))
        have := List.all_eq_true.1 hsz _ (DataW.weights_mem_each ht hd n hmem)
        simpa using this
      have hD : D i = .agg [d0, .lit (.string B.data.toList), d2] := e2
      have hr : reachBytes = 140737488351232 := by decide
      have hB : B.size ≤ 140737488351232 := by
        have := hDi B.data.toList.length (by
          rw [hD]
          simp only [DataW.weights, Try.underlying55]
          exact DataW.weights_mem_each (j := 1) (t := 9) (d := .lit (.string B.data.toList)) rfl rfl _ (by simp [DataW.weights]))
        rw [Lib.size_eq]; omega
      have c0 := hcell 0 (by omega)
      have c1 := hcell 1 (by omega)
      have c2 := hcell 2 (by omega)
      rw [addr_add, addr_add] at c0 c1 c2
      exact ⟨⟨k, B, g⟩, fun _ => ⟨bb, off, rfl, hlt, ⟨c0, c1, c2⟩, ⟨wf_le w0, hB⟩⟩⟩
    · exact ⟨⟨0, ByteArray.empty, false⟩, fun h => absurd h hil⟩
  exact ⟨fun i => Classical.choose (key i), hl, hm, fun i h1 => Classical.choose_spec (key i) h1⟩
end Go.Proofs.Ytamkepfhlfeiiaa.Mip
