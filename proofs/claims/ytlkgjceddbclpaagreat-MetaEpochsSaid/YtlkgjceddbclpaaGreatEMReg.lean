/-
  MReg. By an AI agent.
-/
import Derived.Test.YtlkgjceddbclpaaGreatEZ
import Derived.Test.YtlkgjceddbclpaaGreatEMTo
import Derived.Test.YtlkgjceddbclpaaGreatEG1
namespace Go.Proofs.YtlkgjceddbclpaaGreat.Mta
open Go.RowKit Wire Term Rig

theorem region_join {P : Program} {c : Code} {Q : Exit → Act → World → Prop} {a : Act} {w : World} (R : Act → Exit → Act → World → Prop) (h1 : c.wp P (R a) a w) (h2 : ∀ ex a' w', R a ex a' w' → Q ex a' w') : c.wp P Q a w :=
  Code.wp_mono (fun e a' w' h => h2 e a' w' h) h1
theorem Mx.lt {g : Nat} {w : World} {o f : ByteArray} {ep : Int} {A : Option Addr} {n c : Nat} {B : Option Addr} {m d : Nat} {ver : Nat} {V : Option Addr} {nv cv : Nat} {K : Option Addr} {nk ck : Nat} {sig : ByteArray} (h : Mx g w o f ep A n c B m d ver V nv cv K nk ck sig) : g < w.heap.size := h.2
theorem bx_lt {g : Nat} {w : World} {o f : ByteArray} {ep : Int} {A : Option Addr} {n c : Nat} {B : Option Addr} {m d : Nat} (h : Bx g w o f ep A n c B m d) : g < w.heap.size := h.2.2.2.2.2
theorem fit_nil : Fit (pl []) := ⟨by decide, fun b hb => (List.not_mem_nil hb).elim⟩
theorem oth_nil : ∀ s ∈ oth r0, pub (pl []) s = (pubU s, 0) := fun s hs => (List.not_mem_nil (show s ∈ ([] : List Tm) from hs)).elim
theorem set9 {w0 w : World} {g B : Nat} {v0 v1 v2 v3 v4 v5 v6 v7 v8 : Value} (h : Below B w0 w) (hg : B ≤ g) : Below B w0 (((((((((w.setCell ⟨g, 0, none⟩ v0).setCell ⟨g, 1, none⟩ v1).setCell ⟨g, 2, none⟩ v2).setCell ⟨g, 3, none⟩ v3).setCell ⟨g, 4, none⟩ v4).setCell ⟨g, 5, none⟩ v5).setCell ⟨g, 6, none⟩ v6).setCell ⟨g, 7, none⟩ v7).setCell ⟨g, 8, none⟩ v8) :=
  (((((((((h.setCell hg v0).setCell hg v1).setCell hg v2).setCell hg v3).setCell hg v4).setCell hg v5).setCell hg v6).setCell hg v7).setCell hg v8)
theorem cell_set9 {w : World} {g b j : Nat} {v0 v1 v2 v3 v4 v5 v6 v7 v8 : Value} (h : b ≠ g) : (((((((((w.setCell ⟨g, 0, none⟩ v0).setCell ⟨g, 1, none⟩ v1).setCell ⟨g, 2, none⟩ v2).setCell ⟨g, 3, none⟩ v3).setCell ⟨g, 4, none⟩ v4).setCell ⟨g, 5, none⟩ v5).setCell ⟨g, 6, none⟩ v6).setCell ⟨g, 7, none⟩ v7).setCell ⟨g, 8, none⟩ v8).cell? ⟨b, j, none⟩ = w.cell? ⟨b, j, none⟩ := by
  have e : ∀ i, (⟨g, i, none⟩ : Addr) ≠ ⟨b, j, none⟩ := fun i e => h (by injection e with e1 _ _; exact e1.symm)
  rw [World.cell?_setCell_other _ _ _ _ (e 8), World.cell?_setCell_other _ _ _ _ (e 7), World.cell?_setCell_other _ _ _ _ (e 6), World.cell?_setCell_other _ _ _ _ (e 5), World.cell?_setCell_other _ _ _ _ (e 4), World.cell?_setCell_other _ _ _ _ (e 3), World.cell?_setCell_other _ _ _ _ (e 2), World.cell?_setCell_other _ _ _ _ (e 1), World.cell?_setCell_other _ _ _ _ (e 0)]
theorem size_set9 {w : World} {g : Nat} {v0 v1 v2 v3 v4 v5 v6 v7 v8 : Value} : (((((((((w.setCell ⟨g, 0, none⟩ v0).setCell ⟨g, 1, none⟩ v1).setCell ⟨g, 2, none⟩ v2).setCell ⟨g, 3, none⟩ v3).setCell ⟨g, 4, none⟩ v4).setCell ⟨g, 5, none⟩ v5).setCell ⟨g, 6, none⟩ v6).setCell ⟨g, 7, none⟩ v7).setCell ⟨g, 8, none⟩ v8).heap.size = w.heap.size := by simp [World.setCell]
theorem frozen_set9 {w : World} {g : Nat} {v0 v1 v2 v3 v4 v5 v6 v7 v8 : Value} {a : Addr} : (((((((((w.setCell ⟨g, 0, none⟩ v0).setCell ⟨g, 1, none⟩ v1).setCell ⟨g, 2, none⟩ v2).setCell ⟨g, 3, none⟩ v3).setCell ⟨g, 4, none⟩ v4).setCell ⟨g, 5, none⟩ v5).setCell ⟨g, 6, none⟩ v6).setCell ⟨g, 7, none⟩ v7).setCell ⟨g, 8, none⟩ v8).frozen? a = w.frozen? a := by simp
theorem sreads_set9 {w : World} {A : Option Addr} {ys : List ByteArray} (h : SReads w A ys) {g : Nat} {v0 v1 v2 v3 v4 v5 v6 v7 v8 : Value} (hR : ∀ b off, A = some ⟨b, off, none⟩ → 0 < ys.length → b ≠ g) : SReads (((((((((w.setCell ⟨g, 0, none⟩ v0).setCell ⟨g, 1, none⟩ v1).setCell ⟨g, 2, none⟩ v2).setCell ⟨g, 3, none⟩ v3).setCell ⟨g, 4, none⟩ v4).setCell ⟨g, 5, none⟩ v5).setCell ⟨g, 6, none⟩ v6).setCell ⟨g, 7, none⟩ v7).setCell ⟨g, 8, none⟩ v8) A ys := fun i hi => by
  obtain ⟨b, off, e, hb, hc⟩ := h i hi
  have hne := hR b off e (by omega)
  exact ⟨b, off, e, by rw [size_set9]; exact hb, by rw [cell_set9 hne]; exact hc⟩
theorem preads_set9 {w : World} {A : Option Addr} {ks : List (ByteArray × ByteArray)} (h : PReads w A ks) {g : Nat} {v0 v1 v2 v3 v4 v5 v6 v7 v8 : Value} (hR : ∀ b off, A = some ⟨b, off, none⟩ → 0 < ks.length → b ≠ g) : PReads (((((((((w.setCell ⟨g, 0, none⟩ v0).setCell ⟨g, 1, none⟩ v1).setCell ⟨g, 2, none⟩ v2).setCell ⟨g, 3, none⟩ v3).setCell ⟨g, 4, none⟩ v4).setCell ⟨g, 5, none⟩ v5).setCell ⟨g, 6, none⟩ v6).setCell ⟨g, 7, none⟩ v7).setCell ⟨g, 8, none⟩ v8) A ks := fun i hi => by
  obtain ⟨b, off, e, hb, h1, h2⟩ := h i hi
  have hne := hR b off e (by omega)
  exact ⟨b, off, e, by rw [size_set9]; exact hb, by rw [cell_set9 hne]; exact h1, by rw [cell_set9 hne]; exact h2⟩
theorem isM_set9 {gs : List Nat} {g : Nat} (hG : g ∈ gs) {w : World} {v : Value} {m : Mt} {v0 v1 v2 v3 v4 v5 v6 v7 v8 : Value} (h : IsM (Off gs) w v m) : IsM (Off gs) (((((((((w.setCell ⟨g, 0, none⟩ v0).setCell ⟨g, 1, none⟩ v1).setCell ⟨g, 2, none⟩ v2).setCell ⟨g, 3, none⟩ v3).setCell ⟨g, 4, none⟩ v4).setCell ⟨g, 5, none⟩ v5).setCell ⟨g, 6, none⟩ v6).setCell ⟨g, 7, none⟩ v7).setCell ⟨g, 8, none⟩ v8) v m := by
  obtain ⟨o, f, sig, A, c, rs, B', d, ws, V, cv, vs, K, ck, ks, h1, h2, h3, h4, h5, h6, h7, h8, h9, h10, k1, k2, k3, k4⟩ := h
  refine ⟨o, f, sig, A, c, rs, B', d, ws, V, cv, vs, K, ck, ks, h1, h2, sreads_set9 h3 fun b off e h0 e2 => ?_, sreads_set9 h4 fun b off e h0 e2 => ?_, sreads_set9 h5 fun b off e h0 e2 => ?_, preads_set9 h6 fun b off e h0 e2 => ?_, h7, h8, h9, h10, k1, k2, k3, k4⟩
  · subst e2; exact k1 b off e h0 hG
  · subst e2; exact k2 b off e h0 hG
  · subst e2; exact k3 b off e h0 hG
  · subst e2; exact k4 b off e h0 hG
theorem sepM_set9 {w : World} {g : Nat} {v : Value} {v0 v1 v2 v3 v4 v5 v6 v7 v8 : Value} (h : SepM w v) : SepM (((((((((w.setCell ⟨g, 0, none⟩ v0).setCell ⟨g, 1, none⟩ v1).setCell ⟨g, 2, none⟩ v2).setCell ⟨g, 3, none⟩ v3).setCell ⟨g, 4, none⟩ v4).setCell ⟨g, 5, none⟩ v5).setCell ⟨g, 6, none⟩ v6).setCell ⟨g, 7, none⟩ v7).setCell ⟨g, 8, none⟩ v8) v := by
  intro o f sig ep ver A n c B m d V nv cv K nk ck e
  obtain ⟨h1, h2⟩ := h o f sig ep ver A n c B m d V nv cv K nk ck e
  refine ⟨fun b off e h0 => ?_, fun b off e h0 => ?_⟩
  · obtain ⟨a1, a2, a3⟩ := h1 b off e h0
    exact ⟨by rw [size_set9]; exact a1, fun j => by rw [frozen_set9]; exact a2 j, a3⟩
  · obtain ⟨a1, a2, a3⟩ := h2 b off e h0
    exact ⟨by rw [size_set9]; exact a1, fun j => by rw [frozen_set9]; exact a2 j, a3⟩
theorem SepM.below {w w' : World} {v : Value} (h : SepM w v) (hb : Below w.heap.size w w') : SepM w' v := by
  intro o f sig ep ver A n c B m d V nv cv K nk ck e
  obtain ⟨h1, h2⟩ := h o f sig ep ver A n c B m d V nv cv K nk ck e
  refine ⟨fun b off e h0 => ?_, fun b off e h0 => ?_⟩
  · obtain ⟨a1, a2, a3⟩ := h1 b off e h0
    exact ⟨Nat.lt_of_lt_of_le a1 hb.size, fun j => (hb.frozen (p := ⟨b, j, none⟩) a1).trans (a2 j), a3⟩
  · obtain ⟨a1, a2, a3⟩ := h2 b off e h0
    exact ⟨Nat.lt_of_lt_of_le a1 hb.size, fun j => (hb.frozen (p := ⟨b, j, none⟩) a1).trans (a2 j), a3⟩
theorem mx_set9 {g : Nat} {w : World} {o' f' : ByteArray} {ep' : Int} {A' : Option Addr} {n' c' : Nat} {B' : Option Addr} {m' d' : Nat} {ver' : Nat} {V' : Option Addr} {nv' cv' : Nat} {K' : Option Addr} {nk' ck' : Nat} {sig' : ByteArray} {o f : ByteArray} {ep : Int} {A : Option Addr} {n c : Nat} {B : Option Addr} {m d : Nat} {ver : Nat} {V : Option Addr} {nv cv : Nat} {K : Option Addr} {nk ck : Nat} {sig : ByteArray} (h : Mx g w o' f' ep' A' n' c' B' m' d' ver' V' nv' cv' K' nk' ck' sig') :
    Mx g (((((((((w.setCell ⟨g, 0, none⟩ (.string o)).setCell ⟨g, 1, none⟩ (.string f)).setCell ⟨g, 2, none⟩ (.int .i64 ep)).setCell ⟨g, 3, none⟩ (.slice A n c)).setCell ⟨g, 4, none⟩ (.slice B m d)).setCell ⟨g, 5, none⟩ (.int .u64 (ver : Int))).setCell ⟨g, 6, none⟩ (.slice V nv cv)).setCell ⟨g, 7, none⟩ (.slice K nk ck)).setCell ⟨g, 8, none⟩ (.string sig)) o f ep A n c B m d ver V nv cv K nk ck sig := by
  obtain ⟨⟨h0, h1, h2, h3, h4, h5, h6, h7, h8⟩, h9⟩ := h
  refine ⟨⟨?_, ?_, ?_, ?_, ?_, ?_, ?_, ?_, ?_⟩, by rw [size_set9]; exact h9⟩ <;> simp [World.cell?_setCell_other, World.cell?_setCell_same', h0, h1, h2, h3, h4, h5, h6, h7, h8]
theorem bx_other9 {b g : Nat} {w : World} {o f : ByteArray} {ep : Int} {A : Option Addr} {n c : Nat} {B : Option Addr} {m d : Nat} {v0 v1 v2 v3 v4 v5 v6 v7 v8 : Value} (h : Bx b w o f ep A n c B m d) (hne : b ≠ g) : Bx b (((((((((w.setCell ⟨g, 0, none⟩ v0).setCell ⟨g, 1, none⟩ v1).setCell ⟨g, 2, none⟩ v2).setCell ⟨g, 3, none⟩ v3).setCell ⟨g, 4, none⟩ v4).setCell ⟨g, 5, none⟩ v5).setCell ⟨g, 6, none⟩ v6).setCell ⟨g, 7, none⟩ v7).setCell ⟨g, 8, none⟩ v8) o f ep A n c B m d := by
  obtain ⟨h0, h1, h2, h3, h4, h5⟩ := h
  exact ⟨(cell_set9 hne).trans h0, (cell_set9 hne).trans h1, (cell_set9 hne).trans h2, (cell_set9 hne).trans h3, (cell_set9 hne).trans h4, by rw [size_set9]; exact h5⟩
theorem off_new {gs : List Nat} {w : World} {v : Value} {m : Mt} {g : Nat} (h : IsM (Off gs) w v m) (hg : w.heap.size ≤ g) : IsM (Off (g :: gs)) w v m := h.mono fun b hb hm hx => by
  rcases List.mem_cons.1 hx with e | e
  · omega
  · exact hm e
theorem offX_new {gs : List Nat} {w : World} {v : Value} {r : Rt} {g : Nat} (h : IsX (Off gs) w v r) (hg : w.heap.size ≤ g) : IsX (Off (g :: gs)) w v r := h.mono fun b hb hm hx => by
  rcases List.mem_cons.1 hx with e | e
  · omega
  · exact hm e
def Sf9 (g : Nat) (w : World) : Prop := w.frozen? ⟨g, 0, none⟩ = false ∧ w.frozen? ⟨g, 1, none⟩ = false ∧ w.frozen? ⟨g, 2, none⟩ = false ∧ w.frozen? ⟨g, 3, none⟩ = false ∧ w.frozen? ⟨g, 4, none⟩ = false ∧ w.frozen? ⟨g, 5, none⟩ = false ∧ w.frozen? ⟨g, 6, none⟩ = false ∧ w.frozen? ⟨g, 7, none⟩ = false ∧ w.frozen? ⟨g, 8, none⟩ = false
theorem sf9_alloc (w : World) (cs : Array Value) (t : TypeId) : Sf9 w.heap.size (w.alloc (.cells cs t)) := by
  have h : ∀ j, (w.alloc (.cells cs t)).frozen? ⟨w.heap.size, j, none⟩ = false := fun j => by
    unfold World.frozen?
    rw [heap_alloc_new]
    simp
  exact ⟨h 0, h 1, h 2, h 3, h 4, h 5, h 6, h 7, h 8⟩
theorem Sf9.below {g : Nat} {w w' : World} {M : Nat} (h : Sf9 g w) (hb : Below M w w') (hg : g < M) : Sf9 g w' := by
  obtain ⟨h0, h1, h2, h3, h4, h5, h6, h7, h8⟩ := h
  have e := fun j => hb.frozen (p := ⟨g, j, none⟩) hg
  exact ⟨(e 0).trans h0, (e 1).trans h1, (e 2).trans h2, (e 3).trans h3, (e 4).trans h4, (e 5).trans h5, (e 6).trans h6, (e 7).trans h7, (e 8).trans h8⟩
end Go.Proofs.YtlkgjceddbclpaaGreat.Mta

