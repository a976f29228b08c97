/-
  MLate, MLBackP. By an AI agent.
-/
import Derived.Test.YtlkgjceddbclpaaGreatEZ
import Derived.Test.YtlkgjceddbclpaaGreatEMReg
import Derived.Test.YtlkgjceddbclpaaGreatELate
namespace Go.Proofs.YtlkgjceddbclpaaGreat.Mta
open Go.RowKit Wire Term Rig

set_option linter.unusedSimpArgs false
set_option linter.unusedVariables false
theorem mx_at {W : World} {g : Nat} {o f : ByteArray} {ep : Int} {A : Option Addr} {n c : Nat} {B : Option Addr} {m d : Nat} {ver : Nat} {V : Option Addr} {nv cv : Nat} {K : Option Addr} {nk ck : Nat} {sig : ByteArray} {t : TypeId} (h : W.heap[g]? = some (.cells #[.string o, .string f, .int .i64 ep, .slice A n c, .slice B m d, .int .u64 (ver : Int), .slice V nv cv, .slice K nk ck, .string sig] t)) :
    Mx g W o f ep A n c B m d ver V nv cv K nk ck sig ∧ Sf9 g W := by
  have hc : ∀ j, W.cell? ⟨g, j, none⟩ = (#[.string o, .string f, .int .i64 ep, .slice A n c, .slice B m d, .int .u64 (ver : Int), .slice V nv cv, .slice K nk ck, .string sig] : Array Value)[j]? := fun j => cell_of_row _ _ _ _ _ (0, 0) h
  have hf : ∀ j, W.frozen? ⟨g, j, none⟩ = false := fun j => by
    unfold World.frozen?
    rw [h]; simp
  exact ⟨⟨⟨hc 0, hc 1, hc 2, hc 3, hc 4, hc 5, hc 6, hc 7, hc 8⟩, (Array.getElem?_eq_some_iff.1 h).1⟩, hf 0, hf 1, hf 2, hf 3, hf 4, hf 5, hf 6, hf 7, hf 8⟩
def Gs (w0 B lo : Nat) : List Nat := List.range w0 ++ List.range' B (lo - B)
theorem gs_lt {w0 B lo : Nat} (h0 : w0 ≤ lo) : ∀ g ∈ Gs w0 B lo, g < lo := fun g hg => by
  rcases List.mem_append.1 hg with h | h
  · have := List.mem_range.1 h; omega
  · rw [List.mem_range'_1] at h; omega
theorem gs_off {w0 B lo b : Nat} : Off (Gs w0 B lo) b ↔ w0 ≤ b ∧ (b < B ∨ lo ≤ b) := by
  unfold Off Gs
  rw [List.mem_append, List.mem_range, List.mem_range'_1]
  omega
theorem isX_in {w0 : Nat} {w : World} {v : Value} {r : Rt} (h : IsX (Off (List.range w0)) w v r) : IsX (fun b => w0 ≤ b ∧ b < w.heap.size) w v r := h.mono fun b hb hm => ⟨by
  unfold Off at hm; rw [List.mem_range] at hm; omega, hb⟩
theorem isX_gs {w0 B lo : Nat} {w : World} {v : Value} {r : Rt} (h : IsX (fun b => w0 ≤ b ∧ b < B) w v r) : IsX (Off (Gs w0 B lo)) w v r := h.mono fun b hb hm => gs_off.2 ⟨hm.1, .inl hm.2⟩
def Near (w0 B lo hi b : Nat) : Prop := w0 ≤ b ∧ (b < B ∨ (lo ≤ b ∧ b < hi))
theorem isM_near {w0 B lo : Nat} {w : World} {v : Value} {m : Mt} (h : IsM (Off (Gs w0 B lo)) w v m) : IsM (Near w0 B lo w.heap.size) w v m := h.mono fun b hb hm => by
  obtain ⟨h1, h2⟩ := gs_off.1 hm
  exact ⟨h1, h2.imp id fun h => ⟨h, hb⟩⟩
theorem isM_late {w0 B lo hi g : Nat} {w : World} {v : Value} {m : Mt} (h : IsM (Near w0 B lo hi) w v m) (hB : B ≤ g) (hg : g < lo ∨ hi ≤ g) : IsM (Off (g :: List.range w0)) w v m := h.mono fun b hb hm => by
  obtain ⟨h1, h2⟩ := hm
  unfold Off
  rw [List.mem_cons, List.mem_range]
  omega
end Go.Proofs.YtlkgjceddbclpaaGreat.Mta

namespace Go.Proofs.YtlkgjceddbclpaaGreat.Mta
open Go.RowKit Wire Term Rig Draw

set_option linter.unusedSimpArgs false
set_option linter.unusedVariables false
theorem bl_inj' : ∀ {xs ys : List ByteArray}, bl xs = bl ys → xs = ys
  | [], [], _ => rfl
  | [], _ :: _, h => by simp [bl] at h
  | _ :: _, [], h => by simp [bl] at h
  | x :: xs, y :: ys, h => by
    simp only [bl, List.map_cons, List.cons.injEq] at h
    rw [str_eq h.1, bl_inj' (xs := xs) (ys := ys) h.2]
theorem pl_inj' : ∀ {xs ys : List (ByteArray × ByteArray)}, pl xs = pl ys → xs = ys
  | [], [], _ => rfl
  | [], _ :: _, h => by simp [pl] at h
  | _ :: _, [], h => by simp [pl] at h
  | x :: xs, y :: ys, h => by
    simp only [pl, List.map_cons, List.cons.injEq, Prod.mk.injEq] at h
    obtain ⟨⟨h1, h2⟩, h3⟩ := h
    rw [pl_inj' (xs := xs) (ys := ys) h3, Prod.ext (str_eq h1) (str_eq h2)]
theorem mt_eq {M : Mt} {o f g o' f' g' : ByteArray} {p p' : Int} {rs ws vs rs' ws' vs' : List ByteArray} {ks ks' : List (ByteArray × ByteArray)} {u u' : Nat} (h : M = ⟨⟨o.data.toList, f.data.toList, p, bl rs, bl ws⟩, u, bl vs, pl ks, g.data.toList⟩) (h' : M = ⟨⟨o'.data.toList, f'.data.toList, p', bl rs', bl ws'⟩, u', bl vs', pl ks', g'.data.toList⟩) :
    o' = o ∧ f' = f ∧ g' = g ∧ p' = p ∧ rs' = rs ∧ ws' = ws ∧ u' = u ∧ vs' = vs ∧ ks' = ks := by
  rw [h] at h'
  simp only [Mt.mk.injEq, Rt.mk.injEq] at h'
  obtain ⟨⟨h1, h2, h3, h4, h5⟩, h6, h7, h8, h9⟩ := h'
  exact ⟨(str_eq h1).symm, (str_eq h2).symm, (str_eq h9).symm, h3.symm, (bl_inj' h4).symm, (bl_inj' h5).symm, h6.symm, (bl_inj' h7).symm, (pl_inj' h8).symm⟩
theorem isM_reads {ok : Nat → Prop} {w : World} {M : Mt} {o f g : ByteArray} {p : Int} {A B V K : Option Addr} {rs ws vs : List ByteArray} {ks : List (ByteArray × ByteArray)} {c d x y u : Nat} (h : IsM ok w (.agg #[.string o, .string f, .int .i64 p, .slice A rs.length c, .slice B ws.length d, .int .u64 (u : Int), .slice V vs.length x, .slice K ks.length y, .string g]) M) (hm : M = ⟨⟨o.data.toList, f.data.toList, p, bl rs, bl ws⟩, u, bl vs, pl ks, g.data.toList⟩) :
    SReads w A rs ∧ SReads w B ws ∧ SReads w V vs ∧ PReads w K ks := by
  obtain ⟨o', f', g', p', A', c', rs', B', d', ws', u', V', x', vs', K', y', ks', he, hm', hA, hB, hV, hK, _⟩ := isM_lit h
  obtain ⟨_, _, _, _, rfl, rfl, _, rfl, rfl⟩ := mt_eq hm hm'
  simp only [Value.agg.injEq, Array.mk.injEq, List.cons.injEq, Value.slice.injEq, and_true] at he
  obtain ⟨_, _, _, ⟨rfl, _, _⟩, ⟨rfl, _, _⟩, _, ⟨rfl, _, _⟩, ⟨rfl, _, _⟩, _⟩ := he
  exact ⟨hA, hB, hV, hK⟩
theorem mOf_many {r : Rt} (h : Ann r) {n ver : Nat} (hn : n < 18446744073709551616) (hv : ver < 18446744073709551616) {o f g : ByteArray} {p : Int} {rs ws vs : List ByteArray} {ks : List (ByteArray × ByteArray)} {u : Nat} (hm : mOf r n ver = ⟨⟨o.data.toList, f.data.toList, p, bl rs, bl ws⟩, u, bl vs, pl ks, g.data.toList⟩) :
    rs.length ≤ 1000 ∧ ws.length ≤ 1000 ∧ vs.length ≤ 1000 ∧ ks.length ≤ 1000 := by
  have hf := few_mOf h hn hv
  rw [hm] at hf
  obtain ⟨⟨_, _, h1, h2, _⟩, h3, h4, _⟩ := hf
  simp only [bl, pl, List.length_map] at h1 h2 h3 h4
  exact ⟨by omega, by omega, by omega, by omega⟩
end Go.Proofs.YtlkgjceddbclpaaGreat.Mta

