/-
  MCPureC. By an AI agent.
-/
import Derived.Test.YtlkgjceddbclpaaGreatEZ
import Derived.Test.YtlkgjceddbclpaaGreatEMCSign
import Derived.Test.YtlkgjceddbclpaaGreatEMSpec
import Derived.Test.YtlkgjceddbclpaaGreatEMCTk
namespace Go.Proofs.YtlkgjceddbclpaaGreat.Mta
open Go.RowKit Wire Term Rig

theorem one_most (k : UInt8) (a : Tm) : (Term.one k a).1.length ≤ 4000 := by
  unfold Term.one
  split
  · exact Draw.made_len _
  · simp
theorem boxd_most (p s t : Tm) : (boxd p s t).1.length ≤ 4000 := by
  unfold boxd
  split
  · simp
  · unfold box
    split
    · exact Draw.two_len _ _ _
    · simp
theorem vfs_small : ∀ l : List Tm, (vfs l).1.length ≤ l.length ∧ ∀ t ∈ (vfs l).1, t.length ≤ 4000
  | [] => ⟨Nat.le_refl _, fun t h => (List.not_mem_nil h).elim⟩
  | s :: l => by
    obtain ⟨h1, h2⟩ := vfs_small l
    rw [vfs]
    split
    · exact ⟨Nat.zero_le _, fun t h => (List.not_mem_nil h).elim⟩
    · split
      · exact ⟨Nat.zero_le _, fun t h => (List.not_mem_nil h).elim⟩
      · refine ⟨by simp only [List.length_cons]; omega, fun t h => ?_⟩
        rcases List.mem_cons.1 h with rfl | h
        · exact one_most _ _
        · exact h2 t h
theorem adr_small (known : List (Tm × Tm)) : ∀ l : List Tm, (adr known l).1.length ≤ l.length ∧ ∀ k ∈ (adr known l).1, k ∈ known
  | [] => ⟨Nat.le_refl _, fun t h => (List.not_mem_nil h).elim⟩
  | s :: l => by
    obtain ⟨h1, h2⟩ := adr_small known l
    rw [adr]
    cases hk : known.find? (fun k => k.1 == s) with
    | none => exact ⟨Nat.zero_le _, fun t h => (List.not_mem_nil h).elim⟩
    | some k =>
      simp only
      split
      · exact ⟨Nat.zero_le _, fun t h => (List.not_mem_nil h).elim⟩
      · split
        · exact ⟨Nat.zero_le _, fun t h => (List.not_mem_nil h).elim⟩
        · refine ⟨by simp only [List.length_cons]; omega, fun t h => ?_⟩
          rcases List.mem_cons.1 h with rfl | h
          · exact List.mem_of_find?_eq_some hk
          · exact h2 t h
theorem bls_small (r : Rt) (st sg : Tm) : ∀ l : List (Tm × Tm), (bls r st sg l).1.length ≤ l.length ∧ ∀ b ∈ (bls r st sg l).1, b.2.length ≤ 4000 ∧ ∃ k ∈ l, b.1 = k.1
  | [] => ⟨Nat.le_refl _, fun t h => (List.not_mem_nil h).elim⟩
  | s :: l => by
    obtain ⟨h1, h2⟩ := bls_small r st sg l
    rw [bls]
    obtain ⟨tt, htt⟩ : ∃ x, (if can r s.1 true = true then sg else emptyT) = x := ⟨_, rfl⟩
    rw [htt]
    split
    · exact ⟨Nat.zero_le _, fun t h => (List.not_mem_nil h).elim⟩
    · split
      · exact ⟨Nat.zero_le _, fun t h => (List.not_mem_nil h).elim⟩
      · refine ⟨by simp only [List.length_cons]; omega, fun t h => ?_⟩
        rcases List.mem_cons.1 h with rfl | h
        · exact ⟨boxd_most _ _ _, s, by simp, rfl⟩
        · obtain ⟨q1, k, q2, q3⟩ := h2 t h
          exact ⟨q1, k, by simp [q2], q3⟩
theorem blksC_small (r : Rt) (root sg : Tm) (l : List (Tm × Tm)) : (blksC r root sg l).1.length ≤ l.length ∧ ∀ b ∈ (blksC r root sg l).1, b.2.length ≤ 4000 ∧ ∃ k ∈ l, b.1 = k.1 := by
  unfold blksC
  split
  · exact ⟨Nat.zero_le _, fun t h => (List.not_mem_nil h).elim⟩
  · split
    · exact ⟨Nat.zero_le _, fun t h => (List.not_mem_nil h).elim⟩
    · exact bls_small r _ sg l
theorem built_sign (r : Rt) (ver : Nat) (v : List Tm) (b : List (Tm × Tm)) (secret : Tm) : built r ver v b secret = if (signC secret ⟨r, ver, v, b, []⟩).2 ≠ 0 then (mzero, (signC secret ⟨r, ver, v, b, []⟩).2) else (⟨r, ver, v, b, (signC secret ⟨r, ver, v, b, []⟩).1⟩, 0) := by
  unfold built signC
  by_cases h : (ofText (bodyB ⟨r, ver, v, b, []⟩)).2 ≠ 0
  · rw [if_pos h, if_pos h, if_pos h]
  · rw [if_neg h, if_neg h]
theorem sepM_zero (w : World) : SepM w (.agg #[.string ⟨#[]⟩, .string ⟨#[]⟩, .int .i64 0, .slice none 0 0, .slice none 0 0, .int .u64 0, .slice none 0 0, .slice none 0 0, .string ⟨#[]⟩]) := by
  intro o f sig ep ver A n c B m d V nv cv K nk ck h
  injection h with h
  have h6 := congrArg (fun a : Array Value => a[6]?) h
  have h7 := congrArg (fun a : Array Value => a[7]?) h
  simp at h6 h7
  obtain ⟨rfl, _, _⟩ := h6
  obtain ⟨rfl, _, _⟩ := h7
  exact ⟨fun b off e => (by cases e), fun b off e => (by cases e)⟩
theorem bl_getD {ss : List ByteArray} {k : Nat} : (bl ss).getD k [] = (ss.getD k ByteArray.empty).data.toList := by
  unfold bl
  rw [List.getD_eq_getElem?_getD, List.getD_eq_getElem?_getD, List.getElem?_map]
  cases ss[k]? <;> rfl
theorem mx_set6 {g : Nat} {w : World} {o f : ByteArray} {ep : Int} {A : Option Addr} {n c : Nat} {B : Option Addr} {m d : Nat} {ver : Nat} {V : Option Addr} {nv cv : Nat} {K : Option Addr} {nk ck : Nat} {sig : ByteArray} (h : Mx g w o f ep A n c B m d ver V nv cv K nk ck sig) (V' : Option Addr) (nv' cv' : Nat) : Mx g (w.setCell ⟨g, 6, none⟩ (.slice V' nv' cv')) o f ep A n c B m d ver V' nv' cv' K nk ck sig := by
  obtain ⟨⟨h0, h1, h2, h3, h4, h5, h6, h7, h8⟩, h9⟩ := h
  have e : ∀ j, j ≠ 6 → (w.setCell ⟨g, 6, none⟩ (.slice V' nv' cv')).cell? ⟨g, j, none⟩ = w.cell? ⟨g, j, none⟩ := fun j hj => World.cell?_setCell_other w _ _ _ (fun e => by injection e with _ e _; exact hj e.symm)
  exact ⟨⟨(e 0 (by decide)).trans h0, (e 1 (by decide)).trans h1, (e 2 (by decide)).trans h2, (e 3 (by decide)).trans h3, (e 4 (by decide)).trans h4, (e 5 (by decide)).trans h5, World.cell?_setCell_same w _ _ h6, (e 7 (by decide)).trans h7, (e 8 (by decide)).trans h8⟩, by simpa [World.setCell] using h9⟩
theorem mx_set7 {g : Nat} {w : World} {o f : ByteArray} {ep : Int} {A : Option Addr} {n c : Nat} {B : Option Addr} {m d : Nat} {ver : Nat} {V : Option Addr} {nv cv : Nat} {K : Option Addr} {nk ck : Nat} {sig : ByteArray} (h : Mx g w o f ep A n c B m d ver V nv cv K nk ck sig) (K' : Option Addr) (nk' ck' : Nat) : Mx g (w.setCell ⟨g, 7, none⟩ (.slice K' nk' ck')) o f ep A n c B m d ver V nv cv K' nk' ck' sig := by
  obtain ⟨⟨h0, h1, h2, h3, h4, h5, h6, h7, h8⟩, h9⟩ := h
  have e : ∀ j, j ≠ 7 → (w.setCell ⟨g, 7, none⟩ (.slice K' nk' ck')).cell? ⟨g, j, none⟩ = w.cell? ⟨g, j, none⟩ := fun j hj => World.cell?_setCell_other w _ _ _ (fun e => by injection e with _ e _; exact hj e.symm)
  exact ⟨⟨(e 0 (by decide)).trans h0, (e 1 (by decide)).trans h1, (e 2 (by decide)).trans h2, (e 3 (by decide)).trans h3, (e 4 (by decide)).trans h4, (e 5 (by decide)).trans h5, (e 6 (by decide)).trans h6, World.cell?_setCell_same w _ _ h7, (e 8 (by decide)).trans h8⟩, by simpa [World.setCell] using h9⟩
theorem mx_set8 {g : Nat} {w : World} {o f : ByteArray} {ep : Int} {A : Option Addr} {n c : Nat} {B : Option Addr} {m d : Nat} {ver : Nat} {V : Option Addr} {nv cv : Nat} {K : Option Addr} {nk ck : Nat} {sig : ByteArray} (h : Mx g w o f ep A n c B m d ver V nv cv K nk ck sig) (s : ByteArray) : Mx g (w.setCell ⟨g, 8, none⟩ (.string s)) o f ep A n c B m d ver V nv cv K nk ck s := by
  obtain ⟨⟨h0, h1, h2, h3, h4, h5, h6, h7, h8⟩, h9⟩ := h
  have e : ∀ j, j ≠ 8 → (w.setCell ⟨g, 8, none⟩ (.string s)).cell? ⟨g, j, none⟩ = w.cell? ⟨g, j, none⟩ := fun j hj => World.cell?_setCell_other w _ _ _ (fun e => by injection e with _ e _; exact hj e.symm)
  exact ⟨⟨(e 0 (by decide)).trans h0, (e 1 (by decide)).trans h1, (e 2 (by decide)).trans h2, (e 3 (by decide)).trans h3, (e 4 (by decide)).trans h4, (e 5 (by decide)).trans h5, (e 6 (by decide)).trans h6, (e 7 (by decide)).trans h7, World.cell?_setCell_same w _ _ h8⟩, by simpa [World.setCell] using h9⟩
theorem sf9_set {g G j : Nat} {w : World} {v : Value} (h : Sf9 g w) : Sf9 g (w.setCell ⟨G, j, none⟩ v) := by
  obtain ⟨h0, h1, h2, h3, h4, h5, h6, h7, h8⟩ := h
  exact ⟨by simpa using h0, by simpa using h1, by simpa using h2, by simpa using h3, by simpa using h4, by simpa using h5, by simpa using h6, by simpa using h7, by simpa using h8⟩
theorem rs_set {g G j : Nat} {w : World} {v : Value} (h : Rs g w) (hn : g ≠ G) : Rs g (w.setCell ⟨G, j, none⟩ v) := by
  obtain ⟨⟨⟨h0, h1, h2, h3, h4, h5, h6, h7, h8⟩, h9⟩, hs⟩ := h
  have e : ∀ i, (w.setCell ⟨G, j, none⟩ v).cell? ⟨g, i, none⟩ = w.cell? ⟨g, i, none⟩ := fun i => World.cell?_setCell_other w _ _ _ (fun e => by injection e with e _ _; exact hn e.symm)
  exact ⟨⟨⟨(e 0).trans h0, (e 1).trans h1, (e 2).trans h2, (e 3).trans h3, (e 4).trans h4, (e 5).trans h5, (e 6).trans h6, (e 7).trans h7, (e 8).trans h8⟩, by simpa [World.setCell] using h9⟩, sf9_set hs⟩
theorem bx_set {g G j : Nat} {w : World} {o f : ByteArray} {ep : Int} {A : Option Addr} {n c : Nat} {B : Option Addr} {m d : Nat} {v : Value} (h : Bx g w o f ep A n c B m d) (hn : g ≠ G) : Bx g (w.setCell ⟨G, j, none⟩ v) o f ep A n c B m d := by
  obtain ⟨h0, h1, h2, h3, h4, h9⟩ := h
  have e : ∀ i, (w.setCell ⟨G, j, none⟩ v).cell? ⟨g, i, none⟩ = w.cell? ⟨g, i, none⟩ := fun i => World.cell?_setCell_other w _ _ _ (fun e => by injection e with e _ _; exact hn e.symm)
  exact ⟨(e 0).trans h0, (e 1).trans h1, (e 2).trans h2, (e 3).trans h3, (e 4).trans h4, by simpa [World.setCell] using h9⟩
theorem preads_set {w : World} {A : Option Addr} {ks : List (ByteArray × ByteArray)} (h : PReads w A ks) {R j : Nat} {v : Value} (hR : ∀ b off, A = some ⟨b, off, none⟩ → b ≠ R) : PReads (w.setCell ⟨R, j, none⟩ v) A ks := preads_setL h fun b off e _ => hR b off e
theorem own1_set {B G j : Nat} {w : World} {A : Option Addr} {v : Value} (h : Own1 B w A) : Own1 B (w.setCell ⟨G, j, none⟩ v) A := fun b off e => by
  obtain ⟨h1, h2, h3⟩ := h b off e
  exact ⟨h1, by simpa [World.setCell] using h2, fun i => by simpa using h3 i⟩
end Go.Proofs.YtlkgjceddbclpaaGreat.Mta

