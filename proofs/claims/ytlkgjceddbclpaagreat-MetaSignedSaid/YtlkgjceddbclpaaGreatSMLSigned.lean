/-
  MLSigned. By an AI agent.
-/
import Derived.Test.YtlkgjceddbclpaaGreatSZ
import Derived.Test.YtlkgjceddbclpaaGreatSMLKnown
namespace Go.Proofs.YtlkgjceddbclpaaGreat.Mta
open Go.RowKit Wire Term Rig Draw

set_option linter.unusedSimpArgs false
set_option linter.unusedVariables false
theorem sreads_setN {w : World} {A : Option Addr} {ys : List ByteArray} (h : SReads w A ys) {R j : Nat} {v : Value} (hR : ∀ b off, A = some ⟨b, off, none⟩ → 0 < ys.length → b ≠ R) : SReads (w.setCell ⟨R, j, none⟩ v) A ys := fun i hi => by
 obtain ⟨b, off, e, hb, hc⟩ := h i hi
 exact ⟨b, off, e, by simpa [World.setCell] using hb, (World.cell?_setCell_other w _ _ v (fun e2 => hR b off e (by omega) (by injection e2 with e3 _ _; exact e3.symm))).trans hc⟩
theorem isM_parts {ok : Nat → Prop} {w : World} {m : Mt} {o f g : ByteArray} {p : Int} {A B V K : Option Addr} {n1 c n2 d n3 x n4 y u : Nat} (h : IsM ok w (.agg #[.string o, .string f, .int .i64 p, .slice A n1 c, .slice B n2 d, .int .u64 (u : Int), .slice V n3 x, .slice K n4 y, .string g]) m) :
  o.data.toList = m.r.o ∧ f.data.toList = m.r.f ∧ p = m.r.ep ∧ u = m.ver ∧ g.data.toList = m.sig ∧ ∃ vs ks, n3 = vs.length ∧ bl vs = m.vf ∧ SReads w V vs ∧ n4 = ks.length ∧ pl ks = m.bs ∧ PReads w K ks := by
 obtain ⟨o', f', g', p', A', c', rs, B', d', ws, u', V', x', vs, K', y', ks, he, hm, _, _, hV, hK, _⟩ := isM_lit h
 simp only [Value.agg.injEq, Array.mk.injEq, List.cons.injEq, Value.string.injEq, Value.int.injEq, Value.slice.injEq, true_and, and_true] at he
 obtain ⟨rfl, rfl, rfl, ⟨rfl, rfl, rfl⟩, ⟨rfl, rfl, rfl⟩, hu, ⟨rfl, rfl, rfl⟩, ⟨rfl, rfl, rfl⟩, rfl⟩ := he; rw [hm]
 exact ⟨rfl, rfl, rfl, by show u = u'; omega, rfl, vs, ks, rfl, rfl, hV, rfl, rfl, hK⟩
theorem body_to (MY : MBodyOK) {r : Rt} (h : Ann r) {n ver : Nat} (hn : n < 18446744073709551616) (hv : ver < 18446744073709551616) (v : Value) (w : World) (hm : IsM AnyB w v (mOf r n ver)) :
  Calls Tryz.prog 26 #[v] w fun e w' => e = .returned (.tuple #[.string ⟨⟨bodyB (mOf r n ver)⟩⟩, .int .i64 0]) ∧ Below w.heap.size w w' := by
 have h2 := MY v _ w hm (few_mOf h hn hv)
 rw [show bodyM (mOf r n ver) = (bodyB (mOf r n ver), 0) from by unfold bodyM; rw [if_pos (mOf_right h hn hv)]] at h2
 refine h2.mono fun e w' h => ?_
 obtain ⟨⟨⟨⟨l⟩⟩, hl, he⟩, hb⟩ := h
 have hl' : l = bodyB (mOf r n ver) := hl
 subst hl'
 exact ⟨he, hb⟩
theorem sf9_set9 {g : Nat} {w : World} {v0 v1 v2 v3 v4 v5 v6 v7 v8 : Value} (h : Sf9 g w) : Sf9 g (((((((((w.setCell ⟨g, 0, none⟩ v0).setCell ⟨g, 1, none⟩ v1).setCell ⟨g, 2, none⟩ v2).setCell ⟨g, 3, none⟩ v3).setCell ⟨g, 4, none⟩ v4).setCell ⟨g, 5, none⟩ v5).setCell ⟨g, 6, none⟩ v6).setCell ⟨g, 7, none⟩ v7).setCell ⟨g, 8, none⟩ v8) := by
 obtain ⟨h0, h1, h2, h3, h4, h5, h6, h7, h8⟩ := h
 exact ⟨by rw [frozen_set9]; exact h0, by rw [frozen_set9]; exact h1, by rw [frozen_set9]; exact h2, by rw [frozen_set9]; exact h3, by rw [frozen_set9]; exact h4, by rw [frozen_set9]; exact h5, by rw [frozen_set9]; exact h6, by rw [frozen_set9]; exact h7, by rw [frozen_set9]; exact h8⟩
theorem mx_file {g : Nat} {w : World} {o f : ByteArray} {ep : Int} {A : Option Addr} {n c : Nat} {B : Option Addr} {m d : Nat} {ver : Nat} {V : Option Addr} {nv cv : Nat} {K : Option Addr} {nk ck : Nat} {sig : ByteArray} (h : Mx g w o f ep A n c B m d ver V nv cv K nk ck sig) (s : ByteArray) : Mx g (w.setCell ⟨g, 1, none⟩ (.string s)) o s ep A n c B m d ver V nv cv K nk ck sig := by
 obtain ⟨⟨h0, h1, h2, h3, h4, h5, h6, h7, h8⟩, h9⟩ := h
 have e : ∀ j, j ≠ 1 → (w.setCell ⟨g, 1, none⟩ (.string s)).cell? ⟨g, j, none⟩ = w.cell? ⟨g, j, none⟩ := fun j hj => World.cell?_setCell_other w _ _ _ (fun e => by injection e with _ e _; exact hj e.symm)
 exact ⟨⟨(e 0 (by decide)).trans h0, World.cell?_setCell_same w _ _ h1, (e 2 (by decide)).trans h2, (e 3 (by decide)).trans h3, (e 4 (by decide)).trans h4, (e 5 (by decide)).trans h5, (e 6 (by decide)).trans h6, (e 7 (by decide)).trans h7, (e 8 (by decide)).trans h8⟩, by simpa [World.setCell] using h9⟩
theorem mx_sig {g : Nat} {w : World} {o f : ByteArray} {ep : Int} {A : Option Addr} {n c : Nat} {B : Option Addr} {m d : Nat} {ver : Nat} {V : Option Addr} {nv cv : Nat} {K : Option Addr} {nk ck : Nat} {sig : ByteArray} (h : Mx g w o f ep A n c B m d ver V nv cv K nk ck sig) (s : ByteArray) : Mx g (w.setCell ⟨g, 8, none⟩ (.string s)) o f ep A n c B m d ver V nv cv K nk ck s := by
 obtain ⟨⟨h0, h1, h2, h3, h4, h5, h6, h7, h8⟩, h9⟩ := h
 have e : ∀ j, j ≠ 8 → (w.setCell ⟨g, 8, none⟩ (.string s)).cell? ⟨g, j, none⟩ = w.cell? ⟨g, j, none⟩ := fun j hj => World.cell?_setCell_other w _ _ _ (fun e => by injection e with _ e _; exact hj e.symm)
 exact ⟨⟨(e 0 (by decide)).trans h0, (e 1 (by decide)).trans h1, (e 2 (by decide)).trans h2, (e 3 (by decide)).trans h3, (e 4 (by decide)).trans h4, (e 5 (by decide)).trans h5, (e 6 (by decide)).trans h6, (e 7 (by decide)).trans h7, World.cell?_setCell_same w _ _ h8⟩, by simpa [World.setCell] using h9⟩
theorem mx_ver {g : Nat} {w : World} {o f : ByteArray} {ep : Int} {A : Option Addr} {n c : Nat} {B : Option Addr} {m d : Nat} {ver : Nat} {V : Option Addr} {nv cv : Nat} {K : Option Addr} {nk ck : Nat} {sig : ByteArray} (h : Mx g w o f ep A n c B m d ver V nv cv K nk ck sig) (u : Nat) : Mx g (w.setCell ⟨g, 5, none⟩ (.int .u64 (u : Int))) o f ep A n c B m d u V nv cv K nk ck sig := by
 obtain ⟨⟨h0, h1, h2, h3, h4, h5, h6, h7, h8⟩, h9⟩ := h
 have e : ∀ j, j ≠ 5 → (w.setCell ⟨g, 5, none⟩ (.int .u64 (u : Int))).cell? ⟨g, j, none⟩ = w.cell? ⟨g, j, none⟩ := fun j hj => World.cell?_setCell_other w _ _ _ (fun e => by injection e with _ e _; exact hj e.symm)
 exact ⟨⟨(e 0 (by decide)).trans h0, (e 1 (by decide)).trans h1, (e 2 (by decide)).trans h2, (e 3 (by decide)).trans h3, (e 4 (by decide)).trans h4, World.cell?_setCell_same w _ _ h5, (e 6 (by decide)).trans h6, (e 7 (by decide)).trans h7, (e 8 (by decide)).trans h8⟩, by simpa [World.setCell] using h9⟩
theorem isM_cell {ok : Nat → Prop} {w : World} {o f g o' f' g' : ByteArray} {p p' : Int} {A B V K : Option Addr} {n1 c n2 d n3 x n4 y u u' : Nat} {m : Mt} {G i : Nat} {z : Value} (h : IsM ok w (.agg #[.string o, .string f, .int .i64 p, .slice A n1 c, .slice B n2 d, .int .u64 (u : Int), .slice V n3 x, .slice K n4 y, .string g]) m) (n : ∀ b, ok b → b ≠ G) (hp : p' = p) :
  IsM AnyB (w.setCell ⟨G, i, none⟩ z) (.agg #[.string o', .string f', .int .i64 p', .slice A n1 c, .slice B n2 d, .int .u64 (u' : Int), .slice V n3 x, .slice K n4 y, .string g']) ⟨⟨o'.data.toList, f'.data.toList, m.r.ep, m.r.rs, m.r.ws⟩, u', m.vf, m.bs, g'.data.toList⟩ := by
 subst hp
 obtain ⟨oo, ff, sg, A2, c2, rs, B2, d2, ws, V2, cv, vs, K2, ck, ks, h1, h2, h3, h4, h5, h6, h7, h8, h9, h10, k1, k2, k3, k4⟩ := h
 simp only [Value.agg.injEq, Array.mk.injEq, List.cons.injEq, Value.string.injEq, Value.int.injEq, Value.slice.injEq, true_and, and_true] at h1
 obtain ⟨rfl, rfl, he, ⟨rfl, rfl, rfl⟩, ⟨rfl, rfl, rfl⟩, hu, ⟨rfl, rfl, rfl⟩, ⟨rfl, rfl, rfl⟩, rfl⟩ := h1
 refine ⟨o', f', g', A, c, rs, B, d, ws, V, x, vs, K, y, ks, by rw [← he], ?_, sreads_setN h3 fun b off e h0 => n b (k1 b off e h0), sreads_setN h4 fun b off e h0 => n b (k2 b off e h0), sreads_setN h5 fun b off e h0 => n b (k3 b off e h0), preads_setL h6 fun b off e h0 => n b (k4 b off e h0), h7, h8, h9, h10, fun _ _ _ _ => trivial, fun _ _ _ _ => trivial, fun _ _ _ _ => trivial, fun _ _ _ _ => trivial⟩
 rw [h2]
theorem sreads_store {w : World} {b off j : Nat} {ys : List ByteArray} (h : SReads w (some ⟨b, off, none⟩) ys) (P : ByteArray) : SReads (w.setCell ⟨b, off + j, none⟩ (.string P)) (some ⟨b, off, none⟩) (ys.set j P) := fun i hi => by
 rw [List.length_set] at hi; obtain ⟨b', off', e, hb, hc⟩ := h i hi
 injection e with e
 injection e with e1 e2 _
 subst e1; subst e2
 refine ⟨b, off, rfl, by simpa [World.setCell] using hb, ?_⟩
 by_cases hij : i = j
 ·
  subst hij
  rw [World.cell?_setCell_same w _ _ hc]
  simp [List.getD, hi]
 ·
  rw [World.cell?_setCell_other w _ _ _ (fun e => by injection e with _ e _; omega), hc]
  simp [List.getD, List.getElem?_set, Ne.symm hij]
theorem mx_out {g G j : Nat} {w : World} {o f : ByteArray} {ep : Int} {A : Option Addr} {n c : Nat} {B : Option Addr} {m d : Nat} {ver : Nat} {V : Option Addr} {nv cv : Nat} {K : Option Addr} {nk ck : Nat} {sig : ByteArray} {v : Value} (h : Mx g w o f ep A n c B m d ver V nv cv K nk ck sig) (hn : g ≠ G) : Mx g (w.setCell ⟨G, j, none⟩ v) o f ep A n c B m d ver V nv cv K nk ck sig := by
 obtain ⟨⟨h0, h1, h2, h3, h4, h5, h6, h7, h8⟩, h9⟩ := h
 have e : ∀ i, (w.setCell ⟨G, j, none⟩ v).cell? ⟨g, i, none⟩ = w.cell? ⟨g, i, none⟩ := fun i => World.cell?_setCell_other w _ _ _ (fun e => by injection e with e _ _; exact hn e.symm)
 exact ⟨⟨(e 0).trans h0, (e 1).trans h1, (e 2).trans h2, (e 3).trans h3, (e 4).trans h4, (e 5).trans h5, (e 6).trans h6, (e 7).trans h7, (e 8).trans h8⟩, by simpa [World.setCell] using h9⟩
theorem isM_vf {w : World} {o f g : ByteArray} {p : Int} {A B K : Option Addr} {n1 c n2 d n3 x n4 y u b off j : Nat} {m : Mt} (P : ByteArray) (h : IsM AnyB w (.agg #[.string o, .string f, .int .i64 p, .slice A n1 c, .slice B n2 d, .int .u64 (u : Int), .slice (some ⟨b, off, none⟩) n3 x, .slice K n4 y, .string g]) m)
  (hs : SepM w (.agg #[.string o, .string f, .int .i64 p, .slice A n1 c, .slice B n2 d, .int .u64 (u : Int), .slice (some ⟨b, off, none⟩) n3 x, .slice K n4 y, .string g])) (hj : j < n3) :
  IsM AnyB (w.setCell ⟨b, off + j, none⟩ (.string P)) (.agg #[.string o, .string f, .int .i64 p, .slice A n1 c, .slice B n2 d, .int .u64 (u : Int), .slice (some ⟨b, off, none⟩) n3 x, .slice K n4 y, .string g]) { m with vf := m.vf.set j P.data.toList } := by
 obtain ⟨_, _, hA, hB, hK⟩ := (hs o f g p u A n1 c B n2 d (some ⟨b, off, none⟩) n3 x K n4 y rfl).1 b off rfl (by omega); obtain ⟨oo, ff, sg, A2, c2, rs, B2, d2, ws, V2, cv, vs, K2, ck, ks, h1, h2, h3, h4, h5, h6, h7, h8, h9, h10, k1, k2, k3, k4⟩ := h
 simp only [Value.agg.injEq, Array.mk.injEq, List.cons.injEq, Value.string.injEq, Value.int.injEq, Value.slice.injEq, true_and, and_true] at h1
 obtain ⟨rfl, rfl, he, ⟨rfl, rfl, rfl⟩, ⟨rfl, rfl, rfl⟩, hu, ⟨hV, rfl, rfl⟩, ⟨rfl, rfl, rfl⟩, rfl⟩ := h1
 subst hV
 refine ⟨o, f, g, A, c, rs, B, d, ws, some ⟨b, off, none⟩, x, vs.set j P, K, y, ks, by rw [← he, hu, List.length_set], ?_, sreads_setN h3 fun b' off' e _ => hA b' off' e, sreads_setN h4 fun b' off' e _ => hB b' off' e, sreads_store h5 P, preads_setL h6 fun b' off' e _ => hK b' off' e, h7, h8, by rw [List.length_set]; exact h9, h10, fun _ _ _ _ => trivial, fun _ _ _ _ => trivial, fun _ _ _ _ => trivial, fun _ _ _ _ => trivial⟩
 have hv : m.vf = bl vs := by rw [h2]
 rw [hv, show bl (vs.set j P) = (bl vs).set j P.data.toList by unfold bl; rw [List.map_set]]; rw [h2]
theorem preads_store {w : World} {b off j : Nat} {ks : List (ByteArray × ByteArray)} {u x : ByteArray} (h : PReads w (some ⟨b, off, none⟩) ks) (hu : ks.getD j default = (u, x)) (P : ByteArray) : PReads (w.setCell ⟨b, off + j * 2 + 1, none⟩ (.string P)) (some ⟨b, off, none⟩) (ks.set j (u, P)) := fun i hi => by
 rw [List.length_set] at hi; obtain ⟨b', off', e, hb, hc, hd⟩ := h i hi
 injection e with e
 injection e with e1 e2 _
 subst e1; subst e2
 have n1 : (w.setCell ⟨b, off + j * 2 + 1, none⟩ (.string P)).cell? ⟨b, off + i * 2, none⟩ = w.cell? ⟨b, off + i * 2, none⟩ := World.cell?_setCell_other w _ _ _ (fun e => by injection e with _ e _; omega)
 refine ⟨b, off, rfl, by simpa [World.setCell] using hb, ?_, ?_⟩
 ·
  rw [n1, hc]
  by_cases hij : i = j
  ·
   subst hij
   rw [hu]
   simp [List.getD, hi]
  · simp [List.getD, List.getElem?_set, Ne.symm hij]
 ·
  by_cases hij : i = j
  ·
   subst hij
   rw [World.cell?_setCell_same w _ _ hd]
   simp [List.getD, hi]
  ·
   rw [World.cell?_setCell_other w _ _ _ (fun e => by injection e with _ e _; omega), hd]
   simp [List.getD, List.getElem?_set, Ne.symm hij]
theorem isM_bs {w : World} {o f g : ByteArray} {p : Int} {A B V : Option Addr} {n1 c n2 d n3 x n4 y u b off j : Nat} {m : Mt} (U P : ByteArray) (h : IsM AnyB w (.agg #[.string o, .string f, .int .i64 p, .slice A n1 c, .slice B n2 d, .int .u64 (u : Int), .slice V n3 x, .slice (some ⟨b, off, none⟩) n4 y, .string g]) m)
  (hs : SepM w (.agg #[.string o, .string f, .int .i64 p, .slice A n1 c, .slice B n2 d, .int .u64 (u : Int), .slice V n3 x, .slice (some ⟨b, off, none⟩) n4 y, .string g])) (hj : j < n4) (hU : ∃ z, m.bs[j]? = some (U.data.toList, z)) :
  IsM AnyB (w.setCell ⟨b, off + j * 2 + 1, none⟩ (.string P)) (.agg #[.string o, .string f, .int .i64 p, .slice A n1 c, .slice B n2 d, .int .u64 (u : Int), .slice V n3 x, .slice (some ⟨b, off, none⟩) n4 y, .string g]) { m with bs := m.bs.set j (U.data.toList, P.data.toList) } := by
 obtain ⟨_, _, hA, hB, hV⟩ := (hs o f g p u A n1 c B n2 d V n3 x (some ⟨b, off, none⟩) n4 y rfl).2 b off rfl (by omega); obtain ⟨oo, ff, sg, A2, c2, rs, B2, d2, ws, V2, cv, vs, K2, ck, ks, h1, h2, h3, h4, h5, h6, h7, h8, h9, h10, k1, k2, k3, k4⟩ := h
 simp only [Value.agg.injEq, Array.mk.injEq, List.cons.injEq, Value.string.injEq, Value.int.injEq, Value.slice.injEq, true_and, and_true] at h1
 obtain ⟨rfl, rfl, he, ⟨rfl, rfl, rfl⟩, ⟨rfl, rfl, rfl⟩, hu, ⟨rfl, rfl, rfl⟩, ⟨hK, rfl, rfl⟩, rfl⟩ := h1
 subst hK
 have hv : m.bs = pl ks := by rw [h2]
 obtain ⟨z, hz⟩ := hU; rw [hv, pl_at hj] at hz
 have hz2 := Option.some.inj hz
 injection hz2 with hz3 hz4
 have hux : ks.getD j default = (U, (ks.getD j default).2) := Prod.ext (str_eq hz3) rfl
 refine ⟨o, f, g, A, c, rs, B, d, ws, V, x, vs, some ⟨b, off, none⟩, y, ks.set j (U, P), by rw [← he, hu, List.length_set], ?_, sreads_setN h3 fun b' off' e _ => hA b' off' e, sreads_setN h4 fun b' off' e _ => hB b' off' e, sreads_setN h5 fun b' off' e _ => hV b' off' e, preads_store h6 hux P, h7, h8, h9, by rw [List.length_set]; exact h10, fun _ _ _ _ => trivial, fun _ _ _ _ => trivial, fun _ _ _ _ => trivial, fun _ _ _ _ => trivial⟩
 rw [hv, show pl (ks.set j (U, P)) = (pl ks).set j (U.data.toList, P.data.toList) by unfold pl; rw [List.map_set]]; rw [h2]
set_option maxHeartbeats 8000000 in
set_option maxRecDepth 1000000 in
theorem signed_walk (MT : MTakeOK) (MB : MBuildOK) (MC : MCheckOK) (MY : MBodyOK) (MR : MRightOK) (a : Option Addr) (n c : Nat) (Z : Nat → Nat → Int) (what at0 : Int) (w : World) (ha : Acts.AReads 2 w a n Z)
  (hw0 : -9223372036854775808 ≤ what ∧ what ≤ 9223372036854775807) (ht0 : -9223372036854775808 ≤ at0 ∧ at0 ≤ 9223372036854775807) :
  Calls Tryz.prog 8 #[.slice a n c, .int .i64 what, .int .i64 at0] w fun e w' => e = .returned (.bool true) ∧ Below w.heap.size w w' := by
 have HSH := zh fun w => shown8_any MT MB MC w
 have HD := zh fun w' (hb : Below w.heap.size w w') => turned_any a n c Z (List.range w.heap.size) w' (ha.below hb zl) fun g hg => Nat.lt_of_lt_of_le (List.mem_range.1 hg) hb.size
 have HKN := zh fun w => known_any w
 have HSE : Hid (∀ w, Calls Tryz.prog 14 #[.string ⟨#[97, 110, 110, 97]⟩] w fun e w' => St (secU annaT) e ∧ Below w.heap.size w w') := fun w => secretOf_any annaB w (by decide)
 have HRO : Hid (∀ w, Calls Tryz.prog 15 #[.int .i64 1] w fun e w' => St (Reg.rootS 1) e ∧ Below w.heap.size w w') := fun w => rootOf_any 1 w (by decide)
 have HPW : Hid (∀ w, Calls Tryz.prog 12 #[.int .i64 what, .int .i64 5] w fun e w' => e = .returned (.int .i64 (Rig.pk what 5 : Int)) ∧ w' = w) := fun w => pick7_any what 5 w hw0 (by decide) (by decide)
 have hpl := Rig.pk_lt what (n := 5) (by decide)
 obtain ⟨q, hq⟩ : ∃ q, Rig.pk what 5 = q := ⟨_, rfl⟩; rw [hq] at HPW hpl; clear ha hq hw0
 go_enter Tryz.func8, Tryz.ntmps8
 have HB := zh (Below.refl w.heap.size w)
 go_wp2_with fail
 (with_reducible refine (HSH.out _).mono ?_); rintro e1 w1 ⟨rfl, hb1⟩; replace HB := zh (Bel.call HB.out hb1); clear hb1; dsimp only
 go_wp2_with fail
 (with_reducible refine (HD.out _ HB.out).mono ?_); rintro e2 w2 ⟨⟨v2, r, han, hx2, rfl⟩, hb2⟩; replace HB := zh (Bel.call HB.out hb2); clear hb2; obtain ⟨or, fr, pr, Ar, nr, cr, Br, mr, dr, rfl, hq1, hq2, hq3, hq4, hq5, hx2⟩ := isX_lit hx2; have HEr := zh hq1; have HNr := zh hq2; have HMr := zh hq3; clear hq1 hq2 hq3 hq4 hq5; have HIr := zh hx2; have HAN := zh han; clear hx2 han; dsimp only
 have hep := (ann_ep HAN.out).1
 have hep2 := (ann_ep HAN.out).2
 have hpr0 : 0 ≤ pr := by rw [HEr.out]; omega
 have hpr7 : pr ≤ 7 := by rw [HEr.out]; omega
 have HSG : Hid (∀ w, Calls Tryz.prog 13 #[.int .i64 (IntKind.i64.wrap (pr + 1))] w fun e w' => Lst w.heap.size (sgs (r.ep.toNat + 1)) e w' ∧ Below w.heap.size w w') := fun w => by
  have h := signersOf_any (r.ep.toNat + 1) w (by omega)
  rw [show (((r.ep.toNat + 1 : Nat)) : Int) = pr + 1 from by rw [HEr.out]; omega] at h; rw [show IntKind.i64.wrap (pr + 1) = pr + 1 from by rw [IntKind.wrap_i64]; omega]
  exact h
 clear hep hep2
 go_wp2_with fail
 have hal := al w2 (.cells #[.string or, .string fr, .int .i64 pr, .slice Ar nr cr, .slice Br mr dr] 27)
 have hXX := bx_alloc w2 or fr pr Ar nr cr Br mr dr 27
 obtain ⟨Gr, hG⟩ : ∃ g, w2.heap.size = g := ⟨_, rfl⟩
 generalize w2.alloc (.cells #[.string or, .string fr, .int .i64 pr, .slice Ar nr cr, .slice Br mr dr] 27) = v3 at hal hXX ⊢
 replace HB := zh (Bel.call HB.out hal); replace HIr := zh (HIr.out.below hal zl); rw [hG] at hXX ⊢; have HXr := zh hXX; clear hal hXX hG; obtain ⟨r_0, r_1, r_2, r_3, r_4, _⟩ := HXr.out
 refine region_join (R := fun a ex a' w' => ex = .normal ∧ ∃ (G : Nat) (t27 t28 t29 t30 t31 t32 t33 t34 t35 t26 t36 t37 : Value) (om fm gm : ByteArray) (pm : Int) (Am : Option Addr) (cm : Nat) (rsm : List ByteArray) (Bm : Option Addr) (dm : Nat) (wsm : List ByteArray) (um : Nat) (Vm : Option Addr) (xm : Nat) (vsm : List ByteArray) (Km : Option Addr) (ym : Nat) (ksm : List (ByteArray × ByteArray)), a' = ((((((((((((((a.put (some 27) t27).put (some 28) t28).put (some 29) t29).put (some 30) t30).put (some 31) t31).put (some 32) t32).put (some 33) t33).put (some 34) t34).put (some 35) t35).put (some 26) t26).put (some 36) t36).put (some 37) t37).put (some 9) (.pointer (some ⟨G, 0, none⟩))).put (some 10) (.int .i64 0)) ∧ Mx G w' om fm pm Am rsm.length cm Bm wsm.length dm um Vm vsm.length xm Km ksm.length ym gm ∧ IsM (Off (G :: List.range w.heap.size)) w' (.agg #[.string om, .string fm, .int .i64 pm, .slice Am rsm.length cm, .slice Bm wsm.length dm, .int .u64 (um : Int), .slice Vm vsm.length xm, .slice Km ksm.length ym, .string gm]) (mOf r 1 5) ∧ SepM w' (.agg #[.string om, .string fm, .int .i64 pm, .slice Am rsm.length cm, .slice Bm wsm.length dm, .int .u64 (um : Int), .slice Vm vsm.length xm, .slice Km ksm.length ym, .string gm]) ∧ Below v3.heap.size v3 w' ∧ Sf9 G w' ∧ w.heap.size ≤ G) ?_ ?_
 ·
  have ZHB := HB
  have ZHIr := HIr
  have ZHXr := HXr
  refine wp_region_held_drew (S := fun w' => (Bx Gr w' or fr pr Ar nr cr Br mr dr)) (by kernel_rfl) (HXr.out.below (Below.drewN' (Below.refl v3.heap.size v3) 1) HXr.out.2.2.2.2.2) (fun hHeld => ?_)
  clear r_0 r_1 r_2 r_3 r_4
  have hdr : Below v3.heap.size v3 v3.drew := Below.drewN' (Below.refl _ _) 1
  obtain ⟨d4, hwd⟩ : ∃ z, v3.drew = z := ⟨_, rfl⟩; rw [hwd] at hdr hHeld ⊢; replace HB := zh (Bel.call HB.out hdr); replace HIr := zh (HIr.out.below hdr zl); replace HXr := zh (HXr.out.below hdr HXr.out.2.2.2.2.2); have HA := zh hdr; clear hwd hdr hHeld; obtain ⟨r_0, r_1, r_2, r_3, r_4, _⟩ := HXr.out
  have hHeld : (Bx Gr d4 or fr pr Ar nr cr Br mr dr) := HXr.out
  refine zqU 1 ?_ ?_ ?_; rotate_left
  · intro w' hSw; obtain ⟨r_0, r_1, r_2, r_3, r_4, _⟩ := hSw; go_simp; try with_reducible rfl
  (try simp only [Act.put, zq1, zq2, zq3]); clear hHeld
  have hHeld : (Bx Gr d4 or fr pr Ar nr cr Br mr dr) := HXr.out
  refine zqU 3 ?_ ?_ ?_; rotate_left
  · intro w' hSw; obtain ⟨r_0, r_1, r_2, r_3, r_4, _⟩ := hSw; go_simp; try with_reducible rfl
  (try simp only [Act.put, zq1, zq2, zq3]); clear hHeld
  have hHeld : (Bx Gr d4 or fr pr Ar nr cr Br mr dr) := HXr.out
  refine zqU 4 ?_ ?_ ?_; rotate_left
  · intro w' hSw; obtain ⟨r_0, r_1, r_2, r_3, r_4, _⟩ := hSw; go_simp; try with_reducible rfl
  (try simp only [Act.put, zq1, zq2, zq3]); clear hHeld
  have hHeld : (Bx Gr d4 or fr pr Ar nr cr Br mr dr) := HXr.out
  refine zqU 5 ?_ ?_ ?_; rotate_left
  · intro w' hSw; obtain ⟨r_0, r_1, r_2, r_3, r_4, _⟩ := hSw; go_simp; try with_reducible rfl
  (try simp only [Act.put, zq1, zq2, zq3]); clear hHeld; refine zqR [0, 12] ?_; refine zqC (fun K hK => ?_) ?_
  ·
   go_simp; (with_reducible refine (HSE.out _).mono ?_); rintro e5 w5 ⟨⟨S, hTS, rfl⟩, hb5⟩; clear r_0 r_1 r_2 r_3 r_4; replace HB := zh (Bel.call HB.out hb5); replace HIr := zh (HIr.out.below hb5 zl); replace HXr := zh (HXr.out.below hb5 HXr.out.2.2.2.2.2); replace HA := zh (Bel.call HA.out hb5); clear hb5
   try dsimp only at hTS
   have HTS := zh hTS; clear hTS; obtain ⟨r_0, r_1, r_2, r_3, r_4, _⟩ := HXr.out; dsimp only; refine hK.out _ _ (HXr.out) (fun _ => ?_); (try simp only [Act.put, zq1, zq2, zq3]); refine zqR [2, 12] ?_; refine zqC (fun K hK => ?_) ?_
   ·
    go_simp; (with_reducible refine (HRO.out _).mono ?_); rintro e6 w6 ⟨⟨R, hTR, rfl⟩, hb6⟩; clear r_0 r_1 r_2 r_3 r_4; replace HB := zh (Bel.call HB.out hb6); replace HIr := zh (HIr.out.below hb6 zl); replace HXr := zh (HXr.out.below hb6 HXr.out.2.2.2.2.2); replace HA := zh (Bel.call HA.out hb6); clear hb6
    try dsimp only at hTR
    have HTR := zh hTR; clear hTR; obtain ⟨r_0, r_1, r_2, r_3, r_4, _⟩ := HXr.out; dsimp only; refine hK.out _ _ (HXr.out) (fun _ => ?_); (try simp only [Act.put, zq1, zq2, zq3]); refine zqR [6, 12] ?_; refine zqC (fun K hK => ?_) ?_
    ·
     go_simp; (with_reducible refine (HSG.out _).mono ?_); rintro e7 w7 ⟨⟨As, cs, ls, hls, hcs, hrs, _, rfl⟩, hb7⟩; clear r_0 r_1 r_2 r_3 r_4; replace HB := zh (Bel.call HB.out hb7); replace HIr := zh (HIr.out.below hb7 zl); replace HXr := zh (HXr.out.below hb7 HXr.out.2.2.2.2.2); replace HA := zh (Bel.call HA.out hb7); clear hb7; have HLs := zh hls; have HCs := zh hcs; have HSs := zh hrs; clear hls hcs hrs; obtain ⟨r_0, r_1, r_2, r_3, r_4, _⟩ := HXr.out; dsimp only; refine hK.out _ _ (HXr.out) (fun _ => ?_); (try simp only [Act.put, zq1, zq2, zq3]); refine zqR [7, 12] ?_; refine zqC (fun K hK => ?_) ?_
     ·
      go_simp; (with_reducible refine (HKN.out _).mono ?_); rintro e8 w8 ⟨⟨Al, cl, ll, hll, hcl, hrl, _, rfl⟩, hb8⟩; clear r_0 r_1 r_2 r_3 r_4; replace HB := zh (Bel.call HB.out hb8); replace HIr := zh (HIr.out.below hb8 zl); replace HXr := zh (HXr.out.below hb8 HXr.out.2.2.2.2.2); replace HA := zh (Bel.call HA.out hb8); replace HSs := zh (HSs.out.below hb8 zl); clear hb8; have HLl := zh hll; have HCl := zh hcl; have HSl := zh hrl; clear hll hcl hrl; obtain ⟨r_0, r_1, r_2, r_3, r_4, _⟩ := HXr.out; dsimp only; refine hK.out _ _ (HXr.out) (fun _ => ?_); (try simp only [Act.put, zq1, zq2, zq3]); refine zqR [8, 12] ?_; refine zqC (fun K hK => ?_) ?_
      ·
       go_simp; (with_reducible refine (build_to MB HAN.out (n := 1) (ver := 5) (by decide) (by decide) HTS.out HTR.out HLs.out (by rw [HLl.out]; exact knows_oth knows_all HAN.out) (by rw [HLl.out]; exact fit_known) (K := Al) (ck := cl) (ks := ll) (List.range w.heap.size) _ _ (fun g h => Nat.lt_of_lt_of_le (List.mem_range.1 h) HB.out.size) HIr.out HSs.out HCs.out HSl.out HCl.out (vz := 5) rfl (ns := ls.length) rfl (nk := ll.length) rfl).mono ?_); rintro e9 w9 ⟨⟨v9, hm9, hs9, rfl⟩, hb9⟩; clear r_0 r_1 r_2 r_3 r_4; replace HB := zh (Bel.call HB.out hb9); replace HIr := zh (HIr.out.below hb9 zl); replace HXr := zh (HXr.out.below hb9 HXr.out.2.2.2.2.2); replace HA := zh (Bel.call HA.out hb9); replace HSs := zh (HSs.out.below hb9 zl); replace HSl := zh (HSl.out.below hb9 zl); clear hb9; obtain ⟨om, fm, gm, pm, Am, cm, rsm, Bm, dm, wsm, um, Vm, xm, vsm, Km, ym, ksm, rfl, him, _, _, _, _, _⟩ := isM_lit hm9; have HEm := zh him; have HIm := zh hm9; clear hm9 him; have HPm := zh hs9; clear hs9; obtain ⟨r_0, r_1, r_2, r_3, r_4, _⟩ := HXr.out; dsimp only; refine hK.out _ _ (HXr.out) (fun _ => ?_); try simp only [Act.put, zq1, zq2, zq3]
       have hHeld : (Bx Gr w9 or fr pr Ar nr cr Br mr dr) := HXr.out
       refine zqU 9 ?_ ?_ ?_; rotate_left
       · intro w' hSw; obtain ⟨r_0, r_1, r_2, r_3, r_4, _⟩ := hSw; go_simp; try with_reducible rfl
       (try simp only [Act.put, zq1, zq2, zq3]); clear hHeld
       have hHeld : (Bx Gr w9 or fr pr Ar nr cr Br mr dr) := HXr.out
       refine zqU 10 ?_ ?_ ?_; rotate_left
       · intro w' hSw; obtain ⟨r_0, r_1, r_2, r_3, r_4, _⟩ := hSw; go_simp; try with_reducible rfl
       (try simp only [Act.put, zq1, zq2, zq3]); clear hHeld
       have hHeld : (Bx Gr w9 or fr pr Ar nr cr Br mr dr) := HXr.out
       refine zqU 11 ?_ ?_ ?_; rotate_left
       · intro w' hSw; obtain ⟨r_0, r_1, r_2, r_3, r_4, _⟩ := hSw; go_simp; try with_reducible rfl
       (try simp only [Act.put, zq1, zq2, zq3]); clear hHeld; refine zqR [12] ?_
       refine zqN fun K hK => ?_
       go_simp; clear r_0 r_1 r_2 r_3 r_4
       have hal := al w9 (.cells #[.string ⟨#[]⟩, .string ⟨#[]⟩, .int .i64 0, .slice none 0 0, .slice none 0 0, .int .u64 0, .slice none 0 0, .slice none 0 0, .string ⟨#[]⟩] 39)
       have hXX : Mx w9.heap.size (w9.alloc (.cells #[.string ⟨#[]⟩, .string ⟨#[]⟩, .int .i64 0, .slice none 0 0, .slice none 0 0, .int .u64 0, .slice none 0 0, .slice none 0 0, .string ⟨#[]⟩] 39)) ⟨#[]⟩ ⟨#[]⟩ 0 none 0 0 none 0 0 0 none 0 0 none 0 0 ⟨#[]⟩ := mx_alloc w9 ⟨#[]⟩ ⟨#[]⟩ 0 none 0 0 none 0 0 0 none 0 0 none 0 0 ⟨#[]⟩ 39
       have hFF := sf9_alloc w9 #[.string ⟨#[]⟩, .string ⟨#[]⟩, .int .i64 0, .slice none 0 0, .slice none 0 0, .int .u64 0, .slice none 0 0, .slice none 0 0, .string ⟨#[]⟩] 39
       have hGE : v3.heap.size ≤ w9.heap.size := HA.out.size
       have hGL : w9.heap.size ≤ w9.heap.size := Nat.le_refl _
       obtain ⟨Gm, hG⟩ : ∃ g, w9.heap.size = g := ⟨_, rfl⟩
       generalize w9.alloc (.cells #[.string ⟨#[]⟩, .string ⟨#[]⟩, .int .i64 0, .slice none 0 0, .slice none 0 0, .int .u64 0, .slice none 0 0, .slice none 0 0, .string ⟨#[]⟩] 39) = v10 at hal hXX hFF ⊢
       rw [hG] at hXX hFF hGE ⊢; replace HIr := zh (offX_new HIr.out (Nat.le_of_eq hG)); replace HIm := zh (off_new HIm.out (Nat.le_of_eq hG)); replace HB := zh (Bel.call HB.out hal); replace HIr := zh (HIr.out.below hal zl); replace HXr := zh (HXr.out.below hal HXr.out.2.2.2.2.2); replace HA := zh (Bel.call HA.out hal); replace HSs := zh (HSs.out.below hal zl); replace HSl := zh (HSl.out.below hal zl); replace HIm := zh (HIm.out.below hal zl); replace HPm := zh (HPm.out.below hal); have HXm := zh hXX; have HFm := zh hFF; have HGm := zh hGE; clear hal hXX hFF hGE hGL hG; obtain ⟨r_0, r_1, r_2, r_3, r_4, _⟩ := HXr.out; obtain ⟨⟨m_0, m_1, m_2, m_3, m_4, m_5, m_6, m_7, m_8⟩, _⟩ := HXm.out; refine hK.out _ _ (HXr.out) (fun _ => ?_); (try simp only [Act.put, zq1, zq2, zq3]); refine zqR [13] ?_
       refine zqN fun K hK => ?_
       obtain ⟨z0, z1, z2, z3, z4, z5, z6, z7, z8⟩ := HFm.out; go_simp
       have hXX : Mx Gm (((((((((v10.setCell ⟨Gm, 0, none⟩ (.string om)).setCell ⟨Gm, 1, none⟩ (.string fm)).setCell ⟨Gm, 2, none⟩ (.int .i64 pm)).setCell ⟨Gm, 3, none⟩ (.slice Am rsm.length cm)).setCell ⟨Gm, 4, none⟩ (.slice Bm wsm.length dm)).setCell ⟨Gm, 5, none⟩ (.int .u64 (um : Int))).setCell ⟨Gm, 6, none⟩ (.slice Vm vsm.length xm)).setCell ⟨Gm, 7, none⟩ (.slice Km ksm.length ym)).setCell ⟨Gm, 8, none⟩ (.string gm)) om fm pm Am rsm.length cm Bm wsm.length dm um Vm vsm.length xm Km ksm.length ym gm := mx_set9 HXm.out
       have hII : IsM (Off (Gm :: List.range w.heap.size)) (((((((((v10.setCell ⟨Gm, 0, none⟩ (.string om)).setCell ⟨Gm, 1, none⟩ (.string fm)).setCell ⟨Gm, 2, none⟩ (.int .i64 pm)).setCell ⟨Gm, 3, none⟩ (.slice Am rsm.length cm)).setCell ⟨Gm, 4, none⟩ (.slice Bm wsm.length dm)).setCell ⟨Gm, 5, none⟩ (.int .u64 (um : Int))).setCell ⟨Gm, 6, none⟩ (.slice Vm vsm.length xm)).setCell ⟨Gm, 7, none⟩ (.slice Km ksm.length ym)).setCell ⟨Gm, 8, none⟩ (.string gm)) (.agg #[.string om, .string fm, .int .i64 pm, .slice Am rsm.length cm, .slice Bm wsm.length dm, .int .u64 (um : Int), .slice Vm vsm.length xm, .slice Km ksm.length ym, .string gm]) (mOf r 1 5) := isM_set9 (List.mem_cons_self ..) HIm.out
       have hSP : SepM (((((((((v10.setCell ⟨Gm, 0, none⟩ (.string om)).setCell ⟨Gm, 1, none⟩ (.string fm)).setCell ⟨Gm, 2, none⟩ (.int .i64 pm)).setCell ⟨Gm, 3, none⟩ (.slice Am rsm.length cm)).setCell ⟨Gm, 4, none⟩ (.slice Bm wsm.length dm)).setCell ⟨Gm, 5, none⟩ (.int .u64 (um : Int))).setCell ⟨Gm, 6, none⟩ (.slice Vm vsm.length xm)).setCell ⟨Gm, 7, none⟩ (.slice Km ksm.length ym)).setCell ⟨Gm, 8, none⟩ (.string gm)) (.agg #[.string om, .string fm, .int .i64 pm, .slice Am rsm.length cm, .slice Bm wsm.length dm, .int .u64 (um : Int), .slice Vm vsm.length xm, .slice Km ksm.length ym, .string gm]) := sepM_set9 HPm.out
       have hBB : Below v3.heap.size v3 (((((((((v10.setCell ⟨Gm, 0, none⟩ (.string om)).setCell ⟨Gm, 1, none⟩ (.string fm)).setCell ⟨Gm, 2, none⟩ (.int .i64 pm)).setCell ⟨Gm, 3, none⟩ (.slice Am rsm.length cm)).setCell ⟨Gm, 4, none⟩ (.slice Bm wsm.length dm)).setCell ⟨Gm, 5, none⟩ (.int .u64 (um : Int))).setCell ⟨Gm, 6, none⟩ (.slice Vm vsm.length xm)).setCell ⟨Gm, 7, none⟩ (.slice Km ksm.length ym)).setCell ⟨Gm, 8, none⟩ (.string gm)) := set9 HA.out HGm.out
       have hKr : Bx Gr (((((((((v10.setCell ⟨Gm, 0, none⟩ (.string om)).setCell ⟨Gm, 1, none⟩ (.string fm)).setCell ⟨Gm, 2, none⟩ (.int .i64 pm)).setCell ⟨Gm, 3, none⟩ (.slice Am rsm.length cm)).setCell ⟨Gm, 4, none⟩ (.slice Bm wsm.length dm)).setCell ⟨Gm, 5, none⟩ (.int .u64 (um : Int))).setCell ⟨Gm, 6, none⟩ (.slice Vm vsm.length xm)).setCell ⟨Gm, 7, none⟩ (.slice Km ksm.length ym)).setCell ⟨Gm, 8, none⟩ (.string gm)) or fr pr Ar nr cr Br mr dr := bx_other9 HXr.out (fun e => by have h1 := ZHXr.out.2.2.2.2.2; have h2 := HGm.out; omega)
       clear r_0 r_1 r_2 r_3 r_4 m_0 m_1 m_2 m_3 m_4 m_5 m_6 m_7 m_8
       have hSF : Sf9 Gm (((((((((v10.setCell ⟨Gm, 0, none⟩ (.string om)).setCell ⟨Gm, 1, none⟩ (.string fm)).setCell ⟨Gm, 2, none⟩ (.int .i64 pm)).setCell ⟨Gm, 3, none⟩ (.slice Am rsm.length cm)).setCell ⟨Gm, 4, none⟩ (.slice Bm wsm.length dm)).setCell ⟨Gm, 5, none⟩ (.int .u64 (um : Int))).setCell ⟨Gm, 6, none⟩ (.slice Vm vsm.length xm)).setCell ⟨Gm, 7, none⟩ (.slice Km ksm.length ym)).setCell ⟨Gm, 8, none⟩ (.string gm)) := sf9_set9 HFm.out
       generalize (((((((((v10.setCell ⟨Gm, 0, none⟩ (.string om)).setCell ⟨Gm, 1, none⟩ (.string fm)).setCell ⟨Gm, 2, none⟩ (.int .i64 pm)).setCell ⟨Gm, 3, none⟩ (.slice Am rsm.length cm)).setCell ⟨Gm, 4, none⟩ (.slice Bm wsm.length dm)).setCell ⟨Gm, 5, none⟩ (.int .u64 (um : Int))).setCell ⟨Gm, 6, none⟩ (.slice Vm vsm.length xm)).setCell ⟨Gm, 7, none⟩ (.slice Km ksm.length ym)).setCell ⟨Gm, 8, none⟩ (.string gm)) = v11 at hXX hII hSP hBB hKr hSF ⊢
       have HSF := zh hSF; clear hSF; have HSX := zh hXX; have HSI := zh hII; have HSS := zh hSP; have HSB := zh hBB; clear hXX hII hSP hBB z0 z1 z2 z3 z4 z5 z6 z7 z8; refine hK.out _ _ (hKr) (fun _ => ?_); try simp only [Act.put, zq1, zq2, zq3]
       have hHeld : (Bx Gr v11 or fr pr Ar nr cr Br mr dr) := hKr
       refine zqU 14 ?_ ?_ ?_; rotate_left
       · intro w' hSw; obtain ⟨r_0, r_1, r_2, r_3, r_4, _⟩ := hSw; go_simp; try with_reducible rfl
       (try simp only [Act.put, zq1, zq2, zq3]); clear hHeld
       refine wpAnyH_done (by kernel_rfl) ?_ _
       exact ⟨rfl, Gm, _, _, _, _, _, _, _, _, _, _, _, _, om, fm, gm, pm, Am, cm, rsm, Bm, dm, wsm, um, Vm, xm, vsm, Km, ym, ksm, rfl, HSX.out, HSI.out, HSS.out, HSB.out, HSF.out, Nat.le_trans ZHB.out.size (HGm.out)⟩
      refine zqN fun K hK => ?_
      go_simp; clear r_0 r_1 r_2 r_3 r_4
      have hal := al w8 (.cells #[.string ⟨#[]⟩, .string ⟨#[]⟩, .int .i64 0, .slice none 0 0, .slice none 0 0, .int .u64 0, .slice none 0 0, .slice none 0 0, .string ⟨#[]⟩] 39)
      have hXX : Mx w8.heap.size (w8.alloc (.cells #[.string ⟨#[]⟩, .string ⟨#[]⟩, .int .i64 0, .slice none 0 0, .slice none 0 0, .int .u64 0, .slice none 0 0, .slice none 0 0, .string ⟨#[]⟩] 39)) ⟨#[]⟩ ⟨#[]⟩ 0 none 0 0 none 0 0 0 none 0 0 none 0 0 ⟨#[]⟩ := mx_alloc w8 ⟨#[]⟩ ⟨#[]⟩ 0 none 0 0 none 0 0 0 none 0 0 none 0 0 ⟨#[]⟩ 39
      have hFF := sf9_alloc w8 #[.string ⟨#[]⟩, .string ⟨#[]⟩, .int .i64 0, .slice none 0 0, .slice none 0 0, .int .u64 0, .slice none 0 0, .slice none 0 0, .string ⟨#[]⟩] 39
      have hGE : v3.heap.size ≤ w8.heap.size := HA.out.size
      have hGL : w8.heap.size ≤ w8.heap.size := Nat.le_refl _
      obtain ⟨Gm, hG⟩ : ∃ g, w8.heap.size = g := ⟨_, rfl⟩
      generalize w8.alloc (.cells #[.string ⟨#[]⟩, .string ⟨#[]⟩, .int .i64 0, .slice none 0 0, .slice none 0 0, .int .u64 0, .slice none 0 0, .slice none 0 0, .string ⟨#[]⟩] 39) = v9 at hal hXX hFF ⊢
      rw [hG] at hXX hFF hGE ⊢; replace HIr := zh (offX_new HIr.out (Nat.le_of_eq hG)); replace HB := zh (Bel.call HB.out hal); replace HIr := zh (HIr.out.below hal zl); replace HXr := zh (HXr.out.below hal HXr.out.2.2.2.2.2); replace HA := zh (Bel.call HA.out hal); replace HSs := zh (HSs.out.below hal zl); replace HSl := zh (HSl.out.below hal zl); have HXm := zh hXX; have HFm := zh hFF; have HGm := zh hGE; clear hal hXX hFF hGE hGL hG; obtain ⟨r_0, r_1, r_2, r_3, r_4, _⟩ := HXr.out; obtain ⟨⟨m_0, m_1, m_2, m_3, m_4, m_5, m_6, m_7, m_8⟩, _⟩ := HXm.out; refine hK.out _ _ (HXr.out) (fun _ => ?_); (try simp only [Act.put, zq1, zq2, zq3]); refine zqR [8] ?_
      refine zqN fun K hK => ?_
      go_simp; (with_reducible refine (build_to MB HAN.out (n := 1) (ver := 5) (by decide) (by decide) HTS.out HTR.out HLs.out (by rw [HLl.out]; exact knows_oth knows_all HAN.out) (by rw [HLl.out]; exact fit_known) (K := Al) (ck := cl) (ks := ll) (Gm :: List.range w.heap.size) _ _ (gs_cons (Mx.lt HXm.out) (fun g h => Nat.lt_of_lt_of_le (List.mem_range.1 h) HB.out.size)) HIr.out HSs.out HCs.out HSl.out HCl.out (vz := 5) rfl (ns := ls.length) rfl (nk := ll.length) rfl).mono ?_); rintro e10 w10 ⟨⟨v10, hm10, hs10, rfl⟩, hb10⟩; clear r_0 r_1 r_2 r_3 r_4 m_0 m_1 m_2 m_3 m_4 m_5 m_6 m_7 m_8; replace HB := zh (Bel.call HB.out hb10); replace HIr := zh (HIr.out.below hb10 zl); replace HXr := zh (HXr.out.below hb10 HXr.out.2.2.2.2.2); replace HA := zh (Bel.call HA.out hb10); replace HSs := zh (HSs.out.below hb10 zl); replace HSl := zh (HSl.out.below hb10 zl); replace HFm := zh (HFm.out.below hb10 HXm.out.2); replace HXm := zh (HXm.out.call hb10); clear hb10; obtain ⟨om, fm, gm, pm, Am, cm, rsm, Bm, dm, wsm, um, Vm, xm, vsm, Km, ym, ksm, rfl, him, _, _, _, _, _⟩ := isM_lit hm10; have HEm := zh him; have HIm := zh hm10; clear hm10 him; have HPm := zh hs10; clear hs10; obtain ⟨r_0, r_1, r_2, r_3, r_4, _⟩ := HXr.out; obtain ⟨⟨m_0, m_1, m_2, m_3, m_4, m_5, m_6, m_7, m_8⟩, _⟩ := HXm.out; dsimp only; refine hK.out _ _ (HXr.out) (fun _ => ?_); try simp only [Act.put, zq1, zq2, zq3]
      have hHeld : (Bx Gr w10 or fr pr Ar nr cr Br mr dr) := HXr.out
      refine zqU 9 ?_ ?_ ?_; rotate_left
      · intro w' hSw; obtain ⟨r_0, r_1, r_2, r_3, r_4, _⟩ := hSw; go_simp; try with_reducible rfl
      (try simp only [Act.put, zq1, zq2, zq3]); clear hHeld
      have hHeld : (Bx Gr w10 or fr pr Ar nr cr Br mr dr) := HXr.out
      refine zqU 10 ?_ ?_ ?_; rotate_left
      · intro w' hSw; obtain ⟨r_0, r_1, r_2, r_3, r_4, _⟩ := hSw; go_simp; try with_reducible rfl
      (try simp only [Act.put, zq1, zq2, zq3]); clear hHeld
      have hHeld : (Bx Gr w10 or fr pr Ar nr cr Br mr dr) := HXr.out
      refine zqU 11 ?_ ?_ ?_; rotate_left
      · intro w' hSw; obtain ⟨r_0, r_1, r_2, r_3, r_4, _⟩ := hSw; go_simp; try with_reducible rfl
      (try simp only [Act.put, zq1, zq2, zq3]); clear hHeld; refine zqR [13] ?_
      refine zqN fun K hK => ?_
      obtain ⟨z0, z1, z2, z3, z4, z5, z6, z7, z8⟩ := HFm.out; go_simp
      have hXX : Mx Gm (((((((((w10.setCell ⟨Gm, 0, none⟩ (.string om)).setCell ⟨Gm, 1, none⟩ (.string fm)).setCell ⟨Gm, 2, none⟩ (.int .i64 pm)).setCell ⟨Gm, 3, none⟩ (.slice Am rsm.length cm)).setCell ⟨Gm, 4, none⟩ (.slice Bm wsm.length dm)).setCell ⟨Gm, 5, none⟩ (.int .u64 (um : Int))).setCell ⟨Gm, 6, none⟩ (.slice Vm vsm.length xm)).setCell ⟨Gm, 7, none⟩ (.slice Km ksm.length ym)).setCell ⟨Gm, 8, none⟩ (.string gm)) om fm pm Am rsm.length cm Bm wsm.length dm um Vm vsm.length xm Km ksm.length ym gm := mx_set9 HXm.out
      have hII : IsM (Off (Gm :: List.range w.heap.size)) (((((((((w10.setCell ⟨Gm, 0, none⟩ (.string om)).setCell ⟨Gm, 1, none⟩ (.string fm)).setCell ⟨Gm, 2, none⟩ (.int .i64 pm)).setCell ⟨Gm, 3, none⟩ (.slice Am rsm.length cm)).setCell ⟨Gm, 4, none⟩ (.slice Bm wsm.length dm)).setCell ⟨Gm, 5, none⟩ (.int .u64 (um : Int))).setCell ⟨Gm, 6, none⟩ (.slice Vm vsm.length xm)).setCell ⟨Gm, 7, none⟩ (.slice Km ksm.length ym)).setCell ⟨Gm, 8, none⟩ (.string gm)) (.agg #[.string om, .string fm, .int .i64 pm, .slice Am rsm.length cm, .slice Bm wsm.length dm, .int .u64 (um : Int), .slice Vm vsm.length xm, .slice Km ksm.length ym, .string gm]) (mOf r 1 5) := isM_set9 (List.mem_cons_self ..) HIm.out
      have hSP : SepM (((((((((w10.setCell ⟨Gm, 0, none⟩ (.string om)).setCell ⟨Gm, 1, none⟩ (.string fm)).setCell ⟨Gm, 2, none⟩ (.int .i64 pm)).setCell ⟨Gm, 3, none⟩ (.slice Am rsm.length cm)).setCell ⟨Gm, 4, none⟩ (.slice Bm wsm.length dm)).setCell ⟨Gm, 5, none⟩ (.int .u64 (um : Int))).setCell ⟨Gm, 6, none⟩ (.slice Vm vsm.length xm)).setCell ⟨Gm, 7, none⟩ (.slice Km ksm.length ym)).setCell ⟨Gm, 8, none⟩ (.string gm)) (.agg #[.string om, .string fm, .int .i64 pm, .slice Am rsm.length cm, .slice Bm wsm.length dm, .int .u64 (um : Int), .slice Vm vsm.length xm, .slice Km ksm.length ym, .string gm]) := sepM_set9 HPm.out
      have hBB : Below v3.heap.size v3 (((((((((w10.setCell ⟨Gm, 0, none⟩ (.string om)).setCell ⟨Gm, 1, none⟩ (.string fm)).setCell ⟨Gm, 2, none⟩ (.int .i64 pm)).setCell ⟨Gm, 3, none⟩ (.slice Am rsm.length cm)).setCell ⟨Gm, 4, none⟩ (.slice Bm wsm.length dm)).setCell ⟨Gm, 5, none⟩ (.int .u64 (um : Int))).setCell ⟨Gm, 6, none⟩ (.slice Vm vsm.length xm)).setCell ⟨Gm, 7, none⟩ (.slice Km ksm.length ym)).setCell ⟨Gm, 8, none⟩ (.string gm)) := set9 HA.out HGm.out
      have hKr : Bx Gr (((((((((w10.setCell ⟨Gm, 0, none⟩ (.string om)).setCell ⟨Gm, 1, none⟩ (.string fm)).setCell ⟨Gm, 2, none⟩ (.int .i64 pm)).setCell ⟨Gm, 3, none⟩ (.slice Am rsm.length cm)).setCell ⟨Gm, 4, none⟩ (.slice Bm wsm.length dm)).setCell ⟨Gm, 5, none⟩ (.int .u64 (um : Int))).setCell ⟨Gm, 6, none⟩ (.slice Vm vsm.length xm)).setCell ⟨Gm, 7, none⟩ (.slice Km ksm.length ym)).setCell ⟨Gm, 8, none⟩ (.string gm)) or fr pr Ar nr cr Br mr dr := bx_other9 HXr.out (fun e => by have h1 := ZHXr.out.2.2.2.2.2; have h2 := HGm.out; omega)
      clear r_0 r_1 r_2 r_3 r_4 m_0 m_1 m_2 m_3 m_4 m_5 m_6 m_7 m_8
      have hSF : Sf9 Gm (((((((((w10.setCell ⟨Gm, 0, none⟩ (.string om)).setCell ⟨Gm, 1, none⟩ (.string fm)).setCell ⟨Gm, 2, none⟩ (.int .i64 pm)).setCell ⟨Gm, 3, none⟩ (.slice Am rsm.length cm)).setCell ⟨Gm, 4, none⟩ (.slice Bm wsm.length dm)).setCell ⟨Gm, 5, none⟩ (.int .u64 (um : Int))).setCell ⟨Gm, 6, none⟩ (.slice Vm vsm.length xm)).setCell ⟨Gm, 7, none⟩ (.slice Km ksm.length ym)).setCell ⟨Gm, 8, none⟩ (.string gm)) := sf9_set9 HFm.out
      generalize (((((((((w10.setCell ⟨Gm, 0, none⟩ (.string om)).setCell ⟨Gm, 1, none⟩ (.string fm)).setCell ⟨Gm, 2, none⟩ (.int .i64 pm)).setCell ⟨Gm, 3, none⟩ (.slice Am rsm.length cm)).setCell ⟨Gm, 4, none⟩ (.slice Bm wsm.length dm)).setCell ⟨Gm, 5, none⟩ (.int .u64 (um : Int))).setCell ⟨Gm, 6, none⟩ (.slice Vm vsm.length xm)).setCell ⟨Gm, 7, none⟩ (.slice Km ksm.length ym)).setCell ⟨Gm, 8, none⟩ (.string gm)) = v11 at hXX hII hSP hBB hKr hSF ⊢
      have HSF := zh hSF; clear hSF; have HSX := zh hXX; have HSI := zh hII; have HSS := zh hSP; have HSB := zh hBB; clear hXX hII hSP hBB z0 z1 z2 z3 z4 z5 z6 z7 z8; refine hK.out _ _ (hKr) (fun _ => ?_); try simp only [Act.put, zq1, zq2, zq3]
      have hHeld : (Bx Gr v11 or fr pr Ar nr cr Br mr dr) := hKr
      refine zqU 14 ?_ ?_ ?_; rotate_left
      · intro w' hSw; obtain ⟨r_0, r_1, r_2, r_3, r_4, _⟩ := hSw; go_simp; try with_reducible rfl
      (try simp only [Act.put, zq1, zq2, zq3]); clear hHeld
      refine wpAnyH_done (by kernel_rfl) ?_ _
      exact ⟨rfl, Gm, _, _, _, _, _, _, _, _, _, _, _, _, om, fm, gm, pm, Am, cm, rsm, Bm, dm, wsm, um, Vm, xm, vsm, Km, ym, ksm, rfl, HSX.out, HSI.out, HSS.out, HSB.out, HSF.out, Nat.le_trans ZHB.out.size (HGm.out)⟩
     refine zqN fun K hK => ?_
     go_simp; clear r_0 r_1 r_2 r_3 r_4
     have hal := al w7 (.cells #[.string ⟨#[]⟩, .string ⟨#[]⟩, .int .i64 0, .slice none 0 0, .slice none 0 0, .int .u64 0, .slice none 0 0, .slice none 0 0, .string ⟨#[]⟩] 39)
     have hXX : Mx w7.heap.size (w7.alloc (.cells #[.string ⟨#[]⟩, .string ⟨#[]⟩, .int .i64 0, .slice none 0 0, .slice none 0 0, .int .u64 0, .slice none 0 0, .slice none 0 0, .string ⟨#[]⟩] 39)) ⟨#[]⟩ ⟨#[]⟩ 0 none 0 0 none 0 0 0 none 0 0 none 0 0 ⟨#[]⟩ := mx_alloc w7 ⟨#[]⟩ ⟨#[]⟩ 0 none 0 0 none 0 0 0 none 0 0 none 0 0 ⟨#[]⟩ 39
     have hFF := sf9_alloc w7 #[.string ⟨#[]⟩, .string ⟨#[]⟩, .int .i64 0, .slice none 0 0, .slice none 0 0, .int .u64 0, .slice none 0 0, .slice none 0 0, .string ⟨#[]⟩] 39
     have hGE : v3.heap.size ≤ w7.heap.size := HA.out.size
     have hGL : w7.heap.size ≤ w7.heap.size := Nat.le_refl _
     obtain ⟨Gm, hG⟩ : ∃ g, w7.heap.size = g := ⟨_, rfl⟩
     generalize w7.alloc (.cells #[.string ⟨#[]⟩, .string ⟨#[]⟩, .int .i64 0, .slice none 0 0, .slice none 0 0, .int .u64 0, .slice none 0 0, .slice none 0 0, .string ⟨#[]⟩] 39) = v8 at hal hXX hFF ⊢
     rw [hG] at hXX hFF hGE ⊢; replace HIr := zh (offX_new HIr.out (Nat.le_of_eq hG)); replace HB := zh (Bel.call HB.out hal); replace HIr := zh (HIr.out.below hal zl); replace HXr := zh (HXr.out.below hal HXr.out.2.2.2.2.2); replace HA := zh (Bel.call HA.out hal); replace HSs := zh (HSs.out.below hal zl); have HXm := zh hXX; have HFm := zh hFF; have HGm := zh hGE; clear hal hXX hFF hGE hGL hG; obtain ⟨r_0, r_1, r_2, r_3, r_4, _⟩ := HXr.out; obtain ⟨⟨m_0, m_1, m_2, m_3, m_4, m_5, m_6, m_7, m_8⟩, _⟩ := HXm.out; refine hK.out _ _ (HXr.out) (fun _ => ?_); (try simp only [Act.put, zq1, zq2, zq3]); refine zqR [7] ?_
     refine zqN fun K hK => ?_
     go_simp; (with_reducible refine (HKN.out _).mono ?_); rintro e9 w9 ⟨⟨Al, cl, ll, hll, hcl, hrl, _, rfl⟩, hb9⟩; clear r_0 r_1 r_2 r_3 r_4 m_0 m_1 m_2 m_3 m_4 m_5 m_6 m_7 m_8; replace HB := zh (Bel.call HB.out hb9); replace HIr := zh (HIr.out.below hb9 zl); replace HXr := zh (HXr.out.below hb9 HXr.out.2.2.2.2.2); replace HA := zh (Bel.call HA.out hb9); replace HSs := zh (HSs.out.below hb9 zl); replace HFm := zh (HFm.out.below hb9 HXm.out.2); replace HXm := zh (HXm.out.call hb9); clear hb9; have HLl := zh hll; have HCl := zh hcl; have HSl := zh hrl; clear hll hcl hrl; obtain ⟨r_0, r_1, r_2, r_3, r_4, _⟩ := HXr.out; obtain ⟨⟨m_0, m_1, m_2, m_3, m_4, m_5, m_6, m_7, m_8⟩, _⟩ := HXm.out; dsimp only; refine hK.out _ _ (HXr.out) (fun _ => ?_); (try simp only [Act.put, zq1, zq2, zq3]); refine zqR [8] ?_
     refine zqN fun K hK => ?_
     go_simp; (with_reducible refine (build_to MB HAN.out (n := 1) (ver := 5) (by decide) (by decide) HTS.out HTR.out HLs.out (by rw [HLl.out]; exact knows_oth knows_all HAN.out) (by rw [HLl.out]; exact fit_known) (K := Al) (ck := cl) (ks := ll) (Gm :: List.range w.heap.size) _ _ (gs_cons (Mx.lt HXm.out) (fun g h => Nat.lt_of_lt_of_le (List.mem_range.1 h) HB.out.size)) HIr.out HSs.out HCs.out HSl.out HCl.out (vz := 5) rfl (ns := ls.length) rfl (nk := ll.length) rfl).mono ?_); rintro e10 w10 ⟨⟨v10, hm10, hs10, rfl⟩, hb10⟩; clear r_0 r_1 r_2 r_3 r_4 m_0 m_1 m_2 m_3 m_4 m_5 m_6 m_7 m_8; replace HB := zh (Bel.call HB.out hb10); replace HIr := zh (HIr.out.below hb10 zl); replace HXr := zh (HXr.out.below hb10 HXr.out.2.2.2.2.2); replace HA := zh (Bel.call HA.out hb10); replace HSs := zh (HSs.out.below hb10 zl); replace HFm := zh (HFm.out.below hb10 HXm.out.2); replace HXm := zh (HXm.out.call hb10); replace HSl := zh (HSl.out.below hb10 zl); clear hb10; obtain ⟨om, fm, gm, pm, Am, cm, rsm, Bm, dm, wsm, um, Vm, xm, vsm, Km, ym, ksm, rfl, him, _, _, _, _, _⟩ := isM_lit hm10; have HEm := zh him; have HIm := zh hm10; clear hm10 him; have HPm := zh hs10; clear hs10; obtain ⟨r_0, r_1, r_2, r_3, r_4, _⟩ := HXr.out; obtain ⟨⟨m_0, m_1, m_2, m_3, m_4, m_5, m_6, m_7, m_8⟩, _⟩ := HXm.out; dsimp only; refine hK.out _ _ (HXr.out) (fun _ => ?_); try simp only [Act.put, zq1, zq2, zq3]
     have hHeld : (Bx Gr w10 or fr pr Ar nr cr Br mr dr) := HXr.out
     refine zqU 9 ?_ ?_ ?_; rotate_left
     · intro w' hSw; obtain ⟨r_0, r_1, r_2, r_3, r_4, _⟩ := hSw; go_simp; try with_reducible rfl
     (try simp only [Act.put, zq1, zq2, zq3]); clear hHeld
     have hHeld : (Bx Gr w10 or fr pr Ar nr cr Br mr dr) := HXr.out
     refine zqU 10 ?_ ?_ ?_; rotate_left
     · intro w' hSw; obtain ⟨r_0, r_1, r_2, r_3, r_4, _⟩ := hSw; go_simp; try with_reducible rfl
     (try simp only [Act.put, zq1, zq2, zq3]); clear hHeld
     have hHeld : (Bx Gr w10 or fr pr Ar nr cr Br mr dr) := HXr.out
     refine zqU 11 ?_ ?_ ?_; rotate_left
     · intro w' hSw; obtain ⟨r_0, r_1, r_2, r_3, r_4, _⟩ := hSw; go_simp; try with_reducible rfl
     (try simp only [Act.put, zq1, zq2, zq3]); clear hHeld; refine zqR [13] ?_
     refine zqN fun K hK => ?_
     obtain ⟨z0, z1, z2, z3, z4, z5, z6, z7, z8⟩ := HFm.out; go_simp
     have hXX : Mx Gm (((((((((w10.setCell ⟨Gm, 0, none⟩ (.string om)).setCell ⟨Gm, 1, none⟩ (.string fm)).setCell ⟨Gm, 2, none⟩ (.int .i64 pm)).setCell ⟨Gm, 3, none⟩ (.slice Am rsm.length cm)).setCell ⟨Gm, 4, none⟩ (.slice Bm wsm.length dm)).setCell ⟨Gm, 5, none⟩ (.int .u64 (um : Int))).setCell ⟨Gm, 6, none⟩ (.slice Vm vsm.length xm)).setCell ⟨Gm, 7, none⟩ (.slice Km ksm.length ym)).setCell ⟨Gm, 8, none⟩ (.string gm)) om fm pm Am rsm.length cm Bm wsm.length dm um Vm vsm.length xm Km ksm.length ym gm := mx_set9 HXm.out
     have hII : IsM (Off (Gm :: List.range w.heap.size)) (((((((((w10.setCell ⟨Gm, 0, none⟩ (.string om)).setCell ⟨Gm, 1, none⟩ (.string fm)).setCell ⟨Gm, 2, none⟩ (.int .i64 pm)).setCell ⟨Gm, 3, none⟩ (.slice Am rsm.length cm)).setCell ⟨Gm, 4, none⟩ (.slice Bm wsm.length dm)).setCell ⟨Gm, 5, none⟩ (.int .u64 (um : Int))).setCell ⟨Gm, 6, none⟩ (.slice Vm vsm.length xm)).setCell ⟨Gm, 7, none⟩ (.slice Km ksm.length ym)).setCell ⟨Gm, 8, none⟩ (.string gm)) (.agg #[.string om, .string fm, .int .i64 pm, .slice Am rsm.length cm, .slice Bm wsm.length dm, .int .u64 (um : Int), .slice Vm vsm.length xm, .slice Km ksm.length ym, .string gm]) (mOf r 1 5) := isM_set9 (List.mem_cons_self ..) HIm.out
     have hSP : SepM (((((((((w10.setCell ⟨Gm, 0, none⟩ (.string om)).setCell ⟨Gm, 1, none⟩ (.string fm)).setCell ⟨Gm, 2, none⟩ (.int .i64 pm)).setCell ⟨Gm, 3, none⟩ (.slice Am rsm.length cm)).setCell ⟨Gm, 4, none⟩ (.slice Bm wsm.length dm)).setCell ⟨Gm, 5, none⟩ (.int .u64 (um : Int))).setCell ⟨Gm, 6, none⟩ (.slice Vm vsm.length xm)).setCell ⟨Gm, 7, none⟩ (.slice Km ksm.length ym)).setCell ⟨Gm, 8, none⟩ (.string gm)) (.agg #[.string om, .string fm, .int .i64 pm, .slice Am rsm.length cm, .slice Bm wsm.length dm, .int .u64 (um : Int), .slice Vm vsm.length xm, .slice Km ksm.length ym, .string gm]) := sepM_set9 HPm.out
     have hBB : Below v3.heap.size v3 (((((((((w10.setCell ⟨Gm, 0, none⟩ (.string om)).setCell ⟨Gm, 1, none⟩ (.string fm)).setCell ⟨Gm, 2, none⟩ (.int .i64 pm)).setCell ⟨Gm, 3, none⟩ (.slice Am rsm.length cm)).setCell ⟨Gm, 4, none⟩ (.slice Bm wsm.length dm)).setCell ⟨Gm, 5, none⟩ (.int .u64 (um : Int))).setCell ⟨Gm, 6, none⟩ (.slice Vm vsm.length xm)).setCell ⟨Gm, 7, none⟩ (.slice Km ksm.length ym)).setCell ⟨Gm, 8, none⟩ (.string gm)) := set9 HA.out HGm.out
     have hKr : Bx Gr (((((((((w10.setCell ⟨Gm, 0, none⟩ (.string om)).setCell ⟨Gm, 1, none⟩ (.string fm)).setCell ⟨Gm, 2, none⟩ (.int .i64 pm)).setCell ⟨Gm, 3, none⟩ (.slice Am rsm.length cm)).setCell ⟨Gm, 4, none⟩ (.slice Bm wsm.length dm)).setCell ⟨Gm, 5, none⟩ (.int .u64 (um : Int))).setCell ⟨Gm, 6, none⟩ (.slice Vm vsm.length xm)).setCell ⟨Gm, 7, none⟩ (.slice Km ksm.length ym)).setCell ⟨Gm, 8, none⟩ (.string gm)) or fr pr Ar nr cr Br mr dr := bx_other9 HXr.out (fun e => by have h1 := ZHXr.out.2.2.2.2.2; have h2 := HGm.out; omega)
     clear r_0 r_1 r_2 r_3 r_4 m_0 m_1 m_2 m_3 m_4 m_5 m_6 m_7 m_8
     have hSF : Sf9 Gm (((((((((w10.setCell ⟨Gm, 0, none⟩ (.string om)).setCell ⟨Gm, 1, none⟩ (.string fm)).setCell ⟨Gm, 2, none⟩ (.int .i64 pm)).setCell ⟨Gm, 3, none⟩ (.slice Am rsm.length cm)).setCell ⟨Gm, 4, none⟩ (.slice Bm wsm.length dm)).setCell ⟨Gm, 5, none⟩ (.int .u64 (um : Int))).setCell ⟨Gm, 6, none⟩ (.slice Vm vsm.length xm)).setCell ⟨Gm, 7, none⟩ (.slice Km ksm.length ym)).setCell ⟨Gm, 8, none⟩ (.string gm)) := sf9_set9 HFm.out
     generalize (((((((((w10.setCell ⟨Gm, 0, none⟩ (.string om)).setCell ⟨Gm, 1, none⟩ (.string fm)).setCell ⟨Gm, 2, none⟩ (.int .i64 pm)).setCell ⟨Gm, 3, none⟩ (.slice Am rsm.length cm)).setCell ⟨Gm, 4, none⟩ (.slice Bm wsm.length dm)).setCell ⟨Gm, 5, none⟩ (.int .u64 (um : Int))).setCell ⟨Gm, 6, none⟩ (.slice Vm vsm.length xm)).setCell ⟨Gm, 7, none⟩ (.slice Km ksm.length ym)).setCell ⟨Gm, 8, none⟩ (.string gm)) = v11 at hXX hII hSP hBB hKr hSF ⊢
     have HSF := zh hSF; clear hSF; have HSX := zh hXX; have HSI := zh hII; have HSS := zh hSP; have HSB := zh hBB; clear hXX hII hSP hBB z0 z1 z2 z3 z4 z5 z6 z7 z8; refine hK.out _ _ (hKr) (fun _ => ?_); try simp only [Act.put, zq1, zq2, zq3]
     have hHeld : (Bx Gr v11 or fr pr Ar nr cr Br mr dr) := hKr
     refine zqU 14 ?_ ?_ ?_; rotate_left
     · intro w' hSw; obtain ⟨r_0, r_1, r_2, r_3, r_4, _⟩ := hSw; go_simp; try with_reducible rfl
     (try simp only [Act.put, zq1, zq2, zq3]); clear hHeld
     refine wpAnyH_done (by kernel_rfl) ?_ _
     exact ⟨rfl, Gm, _, _, _, _, _, _, _, _, _, _, _, _, om, fm, gm, pm, Am, cm, rsm, Bm, dm, wsm, um, Vm, xm, vsm, Km, ym, ksm, rfl, HSX.out, HSI.out, HSS.out, HSB.out, HSF.out, Nat.le_trans ZHB.out.size (HGm.out)⟩
    refine zqN fun K hK => ?_
    go_simp; clear r_0 r_1 r_2 r_3 r_4
    have hal := al w6 (.cells #[.string ⟨#[]⟩, .string ⟨#[]⟩, .int .i64 0, .slice none 0 0, .slice none 0 0, .int .u64 0, .slice none 0 0, .slice none 0 0, .string ⟨#[]⟩] 39)
    have hXX : Mx w6.heap.size (w6.alloc (.cells #[.string ⟨#[]⟩, .string ⟨#[]⟩, .int .i64 0, .slice none 0 0, .slice none 0 0, .int .u64 0, .slice none 0 0, .slice none 0 0, .string ⟨#[]⟩] 39)) ⟨#[]⟩ ⟨#[]⟩ 0 none 0 0 none 0 0 0 none 0 0 none 0 0 ⟨#[]⟩ := mx_alloc w6 ⟨#[]⟩ ⟨#[]⟩ 0 none 0 0 none 0 0 0 none 0 0 none 0 0 ⟨#[]⟩ 39
    have hFF := sf9_alloc w6 #[.string ⟨#[]⟩, .string ⟨#[]⟩, .int .i64 0, .slice none 0 0, .slice none 0 0, .int .u64 0, .slice none 0 0, .slice none 0 0, .string ⟨#[]⟩] 39
    have hGE : v3.heap.size ≤ w6.heap.size := HA.out.size
    have hGL : w6.heap.size ≤ w6.heap.size := Nat.le_refl _
    obtain ⟨Gm, hG⟩ : ∃ g, w6.heap.size = g := ⟨_, rfl⟩
    generalize w6.alloc (.cells #[.string ⟨#[]⟩, .string ⟨#[]⟩, .int .i64 0, .slice none 0 0, .slice none 0 0, .int .u64 0, .slice none 0 0, .slice none 0 0, .string ⟨#[]⟩] 39) = v7 at hal hXX hFF ⊢
    rw [hG] at hXX hFF hGE ⊢; replace HIr := zh (offX_new HIr.out (Nat.le_of_eq hG)); replace HB := zh (Bel.call HB.out hal); replace HIr := zh (HIr.out.below hal zl); replace HXr := zh (HXr.out.below hal HXr.out.2.2.2.2.2); replace HA := zh (Bel.call HA.out hal); have HXm := zh hXX; have HFm := zh hFF; have HGm := zh hGE; clear hal hXX hFF hGE hGL hG; obtain ⟨r_0, r_1, r_2, r_3, r_4, _⟩ := HXr.out; obtain ⟨⟨m_0, m_1, m_2, m_3, m_4, m_5, m_6, m_7, m_8⟩, _⟩ := HXm.out; refine hK.out _ _ (HXr.out) (fun _ => ?_); (try simp only [Act.put, zq1, zq2, zq3]); refine zqR [6] ?_
    refine zqN fun K hK => ?_
    go_simp; (with_reducible refine (HSG.out _).mono ?_); rintro e8 w8 ⟨⟨As, cs, ls, hls, hcs, hrs, _, rfl⟩, hb8⟩; clear r_0 r_1 r_2 r_3 r_4 m_0 m_1 m_2 m_3 m_4 m_5 m_6 m_7 m_8; replace HB := zh (Bel.call HB.out hb8); replace HIr := zh (HIr.out.below hb8 zl); replace HXr := zh (HXr.out.below hb8 HXr.out.2.2.2.2.2); replace HA := zh (Bel.call HA.out hb8); replace HFm := zh (HFm.out.below hb8 HXm.out.2); replace HXm := zh (HXm.out.call hb8); clear hb8; have HLs := zh hls; have HCs := zh hcs; have HSs := zh hrs; clear hls hcs hrs; obtain ⟨r_0, r_1, r_2, r_3, r_4, _⟩ := HXr.out; obtain ⟨⟨m_0, m_1, m_2, m_3, m_4, m_5, m_6, m_7, m_8⟩, _⟩ := HXm.out; dsimp only; refine hK.out _ _ (HXr.out) (fun _ => ?_); (try simp only [Act.put, zq1, zq2, zq3]); refine zqR [7] ?_
    refine zqN fun K hK => ?_
    go_simp; (with_reducible refine (HKN.out _).mono ?_); rintro e9 w9 ⟨⟨Al, cl, ll, hll, hcl, hrl, _, rfl⟩, hb9⟩; clear r_0 r_1 r_2 r_3 r_4 m_0 m_1 m_2 m_3 m_4 m_5 m_6 m_7 m_8; replace HB := zh (Bel.call HB.out hb9); replace HIr := zh (HIr.out.below hb9 zl); replace HXr := zh (HXr.out.below hb9 HXr.out.2.2.2.2.2); replace HA := zh (Bel.call HA.out hb9); replace HFm := zh (HFm.out.below hb9 HXm.out.2); replace HXm := zh (HXm.out.call hb9); replace HSs := zh (HSs.out.below hb9 zl); clear hb9; have HLl := zh hll; have HCl := zh hcl; have HSl := zh hrl; clear hll hcl hrl; obtain ⟨r_0, r_1, r_2, r_3, r_4, _⟩ := HXr.out; obtain ⟨⟨m_0, m_1, m_2, m_3, m_4, m_5, m_6, m_7, m_8⟩, _⟩ := HXm.out; dsimp only; refine hK.out _ _ (HXr.out) (fun _ => ?_); (try simp only [Act.put, zq1, zq2, zq3]); refine zqR [8] ?_
    refine zqN fun K hK => ?_
    go_simp; (with_reducible refine (build_to MB HAN.out (n := 1) (ver := 5) (by decide) (by decide) HTS.out HTR.out HLs.out (by rw [HLl.out]; exact knows_oth knows_all HAN.out) (by rw [HLl.out]; exact fit_known) (K := Al) (ck := cl) (ks := ll) (Gm :: List.range w.heap.size) _ _ (gs_cons (Mx.lt HXm.out) (fun g h => Nat.lt_of_lt_of_le (List.mem_range.1 h) HB.out.size)) HIr.out HSs.out HCs.out HSl.out HCl.out (vz := 5) rfl (ns := ls.length) rfl (nk := ll.length) rfl).mono ?_); rintro e10 w10 ⟨⟨v10, hm10, hs10, rfl⟩, hb10⟩; clear r_0 r_1 r_2 r_3 r_4 m_0 m_1 m_2 m_3 m_4 m_5 m_6 m_7 m_8; replace HB := zh (Bel.call HB.out hb10); replace HIr := zh (HIr.out.below hb10 zl); replace HXr := zh (HXr.out.below hb10 HXr.out.2.2.2.2.2); replace HA := zh (Bel.call HA.out hb10); replace HFm := zh (HFm.out.below hb10 HXm.out.2); replace HXm := zh (HXm.out.call hb10); replace HSs := zh (HSs.out.below hb10 zl); replace HSl := zh (HSl.out.below hb10 zl); clear hb10; obtain ⟨om, fm, gm, pm, Am, cm, rsm, Bm, dm, wsm, um, Vm, xm, vsm, Km, ym, ksm, rfl, him, _, _, _, _, _⟩ := isM_lit hm10; have HEm := zh him; have HIm := zh hm10; clear hm10 him; have HPm := zh hs10; clear hs10; obtain ⟨r_0, r_1, r_2, r_3, r_4, _⟩ := HXr.out; obtain ⟨⟨m_0, m_1, m_2, m_3, m_4, m_5, m_6, m_7, m_8⟩, _⟩ := HXm.out; dsimp only; refine hK.out _ _ (HXr.out) (fun _ => ?_); try simp only [Act.put, zq1, zq2, zq3]
    have hHeld : (Bx Gr w10 or fr pr Ar nr cr Br mr dr) := HXr.out
    refine zqU 9 ?_ ?_ ?_; rotate_left
    · intro w' hSw; obtain ⟨r_0, r_1, r_2, r_3, r_4, _⟩ := hSw; go_simp; try with_reducible rfl
    (try simp only [Act.put, zq1, zq2, zq3]); clear hHeld
    have hHeld : (Bx Gr w10 or fr pr Ar nr cr Br mr dr) := HXr.out
    refine zqU 10 ?_ ?_ ?_; rotate_left
    · intro w' hSw; obtain ⟨r_0, r_1, r_2, r_3, r_4, _⟩ := hSw; go_simp; try with_reducible rfl
    (try simp only [Act.put, zq1, zq2, zq3]); clear hHeld
    have hHeld : (Bx Gr w10 or fr pr Ar nr cr Br mr dr) := HXr.out
    refine zqU 11 ?_ ?_ ?_; rotate_left
    · intro w' hSw; obtain ⟨r_0, r_1, r_2, r_3, r_4, _⟩ := hSw; go_simp; try with_reducible rfl
    (try simp only [Act.put, zq1, zq2, zq3]); clear hHeld; refine zqR [13] ?_
    refine zqN fun K hK => ?_
    obtain ⟨z0, z1, z2, z3, z4, z5, z6, z7, z8⟩ := HFm.out; go_simp
    have hXX : Mx Gm (((((((((w10.setCell ⟨Gm, 0, none⟩ (.string om)).setCell ⟨Gm, 1, none⟩ (.string fm)).setCell ⟨Gm, 2, none⟩ (.int .i64 pm)).setCell ⟨Gm, 3, none⟩ (.slice Am rsm.length cm)).setCell ⟨Gm, 4, none⟩ (.slice Bm wsm.length dm)).setCell ⟨Gm, 5, none⟩ (.int .u64 (um : Int))).setCell ⟨Gm, 6, none⟩ (.slice Vm vsm.length xm)).setCell ⟨Gm, 7, none⟩ (.slice Km ksm.length ym)).setCell ⟨Gm, 8, none⟩ (.string gm)) om fm pm Am rsm.length cm Bm wsm.length dm um Vm vsm.length xm Km ksm.length ym gm := mx_set9 HXm.out
    have hII : IsM (Off (Gm :: List.range w.heap.size)) (((((((((w10.setCell ⟨Gm, 0, none⟩ (.string om)).setCell ⟨Gm, 1, none⟩ (.string fm)).setCell ⟨Gm, 2, none⟩ (.int .i64 pm)).setCell ⟨Gm, 3, none⟩ (.slice Am rsm.length cm)).setCell ⟨Gm, 4, none⟩ (.slice Bm wsm.length dm)).setCell ⟨Gm, 5, none⟩ (.int .u64 (um : Int))).setCell ⟨Gm, 6, none⟩ (.slice Vm vsm.length xm)).setCell ⟨Gm, 7, none⟩ (.slice Km ksm.length ym)).setCell ⟨Gm, 8, none⟩ (.string gm)) (.agg #[.string om, .string fm, .int .i64 pm, .slice Am rsm.length cm, .slice Bm wsm.length dm, .int .u64 (um : Int), .slice Vm vsm.length xm, .slice Km ksm.length ym, .string gm]) (mOf r 1 5) := isM_set9 (List.mem_cons_self ..) HIm.out
    have hSP : SepM (((((((((w10.setCell ⟨Gm, 0, none⟩ (.string om)).setCell ⟨Gm, 1, none⟩ (.string fm)).setCell ⟨Gm, 2, none⟩ (.int .i64 pm)).setCell ⟨Gm, 3, none⟩ (.slice Am rsm.length cm)).setCell ⟨Gm, 4, none⟩ (.slice Bm wsm.length dm)).setCell ⟨Gm, 5, none⟩ (.int .u64 (um : Int))).setCell ⟨Gm, 6, none⟩ (.slice Vm vsm.length xm)).setCell ⟨Gm, 7, none⟩ (.slice Km ksm.length ym)).setCell ⟨Gm, 8, none⟩ (.string gm)) (.agg #[.string om, .string fm, .int .i64 pm, .slice Am rsm.length cm, .slice Bm wsm.length dm, .int .u64 (um : Int), .slice Vm vsm.length xm, .slice Km ksm.length ym, .string gm]) := sepM_set9 HPm.out
    have hBB : Below v3.heap.size v3 (((((((((w10.setCell ⟨Gm, 0, none⟩ (.string om)).setCell ⟨Gm, 1, none⟩ (.string fm)).setCell ⟨Gm, 2, none⟩ (.int .i64 pm)).setCell ⟨Gm, 3, none⟩ (.slice Am rsm.length cm)).setCell ⟨Gm, 4, none⟩ (.slice Bm wsm.length dm)).setCell ⟨Gm, 5, none⟩ (.int .u64 (um : Int))).setCell ⟨Gm, 6, none⟩ (.slice Vm vsm.length xm)).setCell ⟨Gm, 7, none⟩ (.slice Km ksm.length ym)).setCell ⟨Gm, 8, none⟩ (.string gm)) := set9 HA.out HGm.out
    have hKr : Bx Gr (((((((((w10.setCell ⟨Gm, 0, none⟩ (.string om)).setCell ⟨Gm, 1, none⟩ (.string fm)).setCell ⟨Gm, 2, none⟩ (.int .i64 pm)).setCell ⟨Gm, 3, none⟩ (.slice Am rsm.length cm)).setCell ⟨Gm, 4, none⟩ (.slice Bm wsm.length dm)).setCell ⟨Gm, 5, none⟩ (.int .u64 (um : Int))).setCell ⟨Gm, 6, none⟩ (.slice Vm vsm.length xm)).setCell ⟨Gm, 7, none⟩ (.slice Km ksm.length ym)).setCell ⟨Gm, 8, none⟩ (.string gm)) or fr pr Ar nr cr Br mr dr := bx_other9 HXr.out (fun e => by have h1 := ZHXr.out.2.2.2.2.2; have h2 := HGm.out; omega)
    clear r_0 r_1 r_2 r_3 r_4 m_0 m_1 m_2 m_3 m_4 m_5 m_6 m_7 m_8
    have hSF : Sf9 Gm (((((((((w10.setCell ⟨Gm, 0, none⟩ (.string om)).setCell ⟨Gm, 1, none⟩ (.string fm)).setCell ⟨Gm, 2, none⟩ (.int .i64 pm)).setCell ⟨Gm, 3, none⟩ (.slice Am rsm.length cm)).setCell ⟨Gm, 4, none⟩ (.slice Bm wsm.length dm)).setCell ⟨Gm, 5, none⟩ (.int .u64 (um : Int))).setCell ⟨Gm, 6, none⟩ (.slice Vm vsm.length xm)).setCell ⟨Gm, 7, none⟩ (.slice Km ksm.length ym)).setCell ⟨Gm, 8, none⟩ (.string gm)) := sf9_set9 HFm.out
    generalize (((((((((w10.setCell ⟨Gm, 0, none⟩ (.string om)).setCell ⟨Gm, 1, none⟩ (.string fm)).setCell ⟨Gm, 2, none⟩ (.int .i64 pm)).setCell ⟨Gm, 3, none⟩ (.slice Am rsm.length cm)).setCell ⟨Gm, 4, none⟩ (.slice Bm wsm.length dm)).setCell ⟨Gm, 5, none⟩ (.int .u64 (um : Int))).setCell ⟨Gm, 6, none⟩ (.slice Vm vsm.length xm)).setCell ⟨Gm, 7, none⟩ (.slice Km ksm.length ym)).setCell ⟨Gm, 8, none⟩ (.string gm)) = v11 at hXX hII hSP hBB hKr hSF ⊢
    have HSF := zh hSF; clear hSF; have HSX := zh hXX; have HSI := zh hII; have HSS := zh hSP; have HSB := zh hBB; clear hXX hII hSP hBB z0 z1 z2 z3 z4 z5 z6 z7 z8; refine hK.out _ _ (hKr) (fun _ => ?_); try simp only [Act.put, zq1, zq2, zq3]
    have hHeld : (Bx Gr v11 or fr pr Ar nr cr Br mr dr) := hKr
    refine zqU 14 ?_ ?_ ?_; rotate_left
    · intro w' hSw; obtain ⟨r_0, r_1, r_2, r_3, r_4, _⟩ := hSw; go_simp; try with_reducible rfl
    (try simp only [Act.put, zq1, zq2, zq3]); clear hHeld
    refine wpAnyH_done (by kernel_rfl) ?_ _
    exact ⟨rfl, Gm, _, _, _, _, _, _, _, _, _, _, _, _, om, fm, gm, pm, Am, cm, rsm, Bm, dm, wsm, um, Vm, xm, vsm, Km, ym, ksm, rfl, HSX.out, HSI.out, HSS.out, HSB.out, HSF.out, Nat.le_trans ZHB.out.size (HGm.out)⟩
   refine zqN fun K hK => ?_
   go_simp; clear r_0 r_1 r_2 r_3 r_4
   have hal := al w5 (.cells #[.string ⟨#[]⟩, .string ⟨#[]⟩, .int .i64 0, .slice none 0 0, .slice none 0 0, .int .u64 0, .slice none 0 0, .slice none 0 0, .string ⟨#[]⟩] 39)
   have hXX : Mx w5.heap.size (w5.alloc (.cells #[.string ⟨#[]⟩, .string ⟨#[]⟩, .int .i64 0, .slice none 0 0, .slice none 0 0, .int .u64 0, .slice none 0 0, .slice none 0 0, .string ⟨#[]⟩] 39)) ⟨#[]⟩ ⟨#[]⟩ 0 none 0 0 none 0 0 0 none 0 0 none 0 0 ⟨#[]⟩ := mx_alloc w5 ⟨#[]⟩ ⟨#[]⟩ 0 none 0 0 none 0 0 0 none 0 0 none 0 0 ⟨#[]⟩ 39
   have hFF := sf9_alloc w5 #[.string ⟨#[]⟩, .string ⟨#[]⟩, .int .i64 0, .slice none 0 0, .slice none 0 0, .int .u64 0, .slice none 0 0, .slice none 0 0, .string ⟨#[]⟩] 39
   have hGE : v3.heap.size ≤ w5.heap.size := HA.out.size
   have hGL : w5.heap.size ≤ w5.heap.size := Nat.le_refl _
   obtain ⟨Gm, hG⟩ : ∃ g, w5.heap.size = g := ⟨_, rfl⟩
   generalize w5.alloc (.cells #[.string ⟨#[]⟩, .string ⟨#[]⟩, .int .i64 0, .slice none 0 0, .slice none 0 0, .int .u64 0, .slice none 0 0, .slice none 0 0, .string ⟨#[]⟩] 39) = v6 at hal hXX hFF ⊢
   rw [hG] at hXX hFF hGE ⊢; replace HIr := zh (offX_new HIr.out (Nat.le_of_eq hG)); replace HB := zh (Bel.call HB.out hal); replace HIr := zh (HIr.out.below hal zl); replace HXr := zh (HXr.out.below hal HXr.out.2.2.2.2.2); replace HA := zh (Bel.call HA.out hal); have HXm := zh hXX; have HFm := zh hFF; have HGm := zh hGE; clear hal hXX hFF hGE hGL hG; obtain ⟨r_0, r_1, r_2, r_3, r_4, _⟩ := HXr.out; obtain ⟨⟨m_0, m_1, m_2, m_3, m_4, m_5, m_6, m_7, m_8⟩, _⟩ := HXm.out; refine hK.out _ _ (HXr.out) (fun _ => ?_); (try simp only [Act.put, zq1, zq2, zq3]); refine zqR [2] ?_
   refine zqN fun K hK => ?_
   go_simp; (with_reducible refine (HRO.out _).mono ?_); rintro e7 w7 ⟨⟨R, hTR, rfl⟩, hb7⟩; clear r_0 r_1 r_2 r_3 r_4 m_0 m_1 m_2 m_3 m_4 m_5 m_6 m_7 m_8; replace HB := zh (Bel.call HB.out hb7); replace HIr := zh (HIr.out.below hb7 zl); replace HXr := zh (HXr.out.below hb7 HXr.out.2.2.2.2.2); replace HA := zh (Bel.call HA.out hb7); replace HFm := zh (HFm.out.below hb7 HXm.out.2); replace HXm := zh (HXm.out.call hb7); clear hb7
   try dsimp only at hTR
   have HTR := zh hTR; clear hTR; obtain ⟨r_0, r_1, r_2, r_3, r_4, _⟩ := HXr.out; obtain ⟨⟨m_0, m_1, m_2, m_3, m_4, m_5, m_6, m_7, m_8⟩, _⟩ := HXm.out; dsimp only; refine hK.out _ _ (HXr.out) (fun _ => ?_); (try simp only [Act.put, zq1, zq2, zq3]); refine zqR [6] ?_
   refine zqN fun K hK => ?_
   go_simp; (with_reducible refine (HSG.out _).mono ?_); rintro e8 w8 ⟨⟨As, cs, ls, hls, hcs, hrs, _, rfl⟩, hb8⟩; clear r_0 r_1 r_2 r_3 r_4 m_0 m_1 m_2 m_3 m_4 m_5 m_6 m_7 m_8; replace HB := zh (Bel.call HB.out hb8); replace HIr := zh (HIr.out.below hb8 zl); replace HXr := zh (HXr.out.below hb8 HXr.out.2.2.2.2.2); replace HA := zh (Bel.call HA.out hb8); replace HFm := zh (HFm.out.below hb8 HXm.out.2); replace HXm := zh (HXm.out.call hb8); clear hb8; have HLs := zh hls; have HCs := zh hcs; have HSs := zh hrs; clear hls hcs hrs; obtain ⟨r_0, r_1, r_2, r_3, r_4, _⟩ := HXr.out; obtain ⟨⟨m_0, m_1, m_2, m_3, m_4, m_5, m_6, m_7, m_8⟩, _⟩ := HXm.out; dsimp only; refine hK.out _ _ (HXr.out) (fun _ => ?_); (try simp only [Act.put, zq1, zq2, zq3]); refine zqR [7] ?_
   refine zqN fun K hK => ?_
   go_simp; (with_reducible refine (HKN.out _).mono ?_); rintro e9 w9 ⟨⟨Al, cl, ll, hll, hcl, hrl, _, rfl⟩, hb9⟩; clear r_0 r_1 r_2 r_3 r_4 m_0 m_1 m_2 m_3 m_4 m_5 m_6 m_7 m_8; replace HB := zh (Bel.call HB.out hb9); replace HIr := zh (HIr.out.below hb9 zl); replace HXr := zh (HXr.out.below hb9 HXr.out.2.2.2.2.2); replace HA := zh (Bel.call HA.out hb9); replace HFm := zh (HFm.out.below hb9 HXm.out.2); replace HXm := zh (HXm.out.call hb9); replace HSs := zh (HSs.out.below hb9 zl); clear hb9; have HLl := zh hll; have HCl := zh hcl; have HSl := zh hrl; clear hll hcl hrl; obtain ⟨r_0, r_1, r_2, r_3, r_4, _⟩ := HXr.out; obtain ⟨⟨m_0, m_1, m_2, m_3, m_4, m_5, m_6, m_7, m_8⟩, _⟩ := HXm.out; dsimp only; refine hK.out _ _ (HXr.out) (fun _ => ?_); (try simp only [Act.put, zq1, zq2, zq3]); refine zqR [8] ?_
   refine zqN fun K hK => ?_
   go_simp; (with_reducible refine (build_to MB HAN.out (n := 1) (ver := 5) (by decide) (by decide) HTS.out HTR.out HLs.out (by rw [HLl.out]; exact knows_oth knows_all HAN.out) (by rw [HLl.out]; exact fit_known) (K := Al) (ck := cl) (ks := ll) (Gm :: List.range w.heap.size) _ _ (gs_cons (Mx.lt HXm.out) (fun g h => Nat.lt_of_lt_of_le (List.mem_range.1 h) HB.out.size)) HIr.out HSs.out HCs.out HSl.out HCl.out (vz := 5) rfl (ns := ls.length) rfl (nk := ll.length) rfl).mono ?_); rintro e10 w10 ⟨⟨v10, hm10, hs10, rfl⟩, hb10⟩; clear r_0 r_1 r_2 r_3 r_4 m_0 m_1 m_2 m_3 m_4 m_5 m_6 m_7 m_8; replace HB := zh (Bel.call HB.out hb10); replace HIr := zh (HIr.out.below hb10 zl); replace HXr := zh (HXr.out.below hb10 HXr.out.2.2.2.2.2); replace HA := zh (Bel.call HA.out hb10); replace HFm := zh (HFm.out.below hb10 HXm.out.2); replace HXm := zh (HXm.out.call hb10); replace HSs := zh (HSs.out.below hb10 zl); replace HSl := zh (HSl.out.below hb10 zl); clear hb10; obtain ⟨om, fm, gm, pm, Am, cm, rsm, Bm, dm, wsm, um, Vm, xm, vsm, Km, ym, ksm, rfl, him, _, _, _, _, _⟩ := isM_lit hm10; have HEm := zh him; have HIm := zh hm10; clear hm10 him; have HPm := zh hs10; clear hs10; obtain ⟨r_0, r_1, r_2, r_3, r_4, _⟩ := HXr.out; obtain ⟨⟨m_0, m_1, m_2, m_3, m_4, m_5, m_6, m_7, m_8⟩, _⟩ := HXm.out; dsimp only; refine hK.out _ _ (HXr.out) (fun _ => ?_); try simp only [Act.put, zq1, zq2, zq3]
   have hHeld : (Bx Gr w10 or fr pr Ar nr cr Br mr dr) := HXr.out
   refine zqU 9 ?_ ?_ ?_; rotate_left
   · intro w' hSw; obtain ⟨r_0, r_1, r_2, r_3, r_4, _⟩ := hSw; go_simp; try with_reducible rfl
   (try simp only [Act.put, zq1, zq2, zq3]); clear hHeld
   have hHeld : (Bx Gr w10 or fr pr Ar nr cr Br mr dr) := HXr.out
   refine zqU 10 ?_ ?_ ?_; rotate_left
   · intro w' hSw; obtain ⟨r_0, r_1, r_2, r_3, r_4, _⟩ := hSw; go_simp; try with_reducible rfl
   (try simp only [Act.put, zq1, zq2, zq3]); clear hHeld
   have hHeld : (Bx Gr w10 or fr pr Ar nr cr Br mr dr) := HXr.out
   refine zqU 11 ?_ ?_ ?_; rotate_left
   · intro w' hSw; obtain ⟨r_0, r_1, r_2, r_3, r_4, _⟩ := hSw; go_simp; try with_reducible rfl
   (try simp only [Act.put, zq1, zq2, zq3]); clear hHeld; refine zqR [13] ?_
   refine zqN fun K hK => ?_
   obtain ⟨z0, z1, z2, z3, z4, z5, z6, z7, z8⟩ := HFm.out; go_simp
   have hXX : Mx Gm (((((((((w10.setCell ⟨Gm, 0, none⟩ (.string om)).setCell ⟨Gm, 1, none⟩ (.string fm)).setCell ⟨Gm, 2, none⟩ (.int .i64 pm)).setCell ⟨Gm, 3, none⟩ (.slice Am rsm.length cm)).setCell ⟨Gm, 4, none⟩ (.slice Bm wsm.length dm)).setCell ⟨Gm, 5, none⟩ (.int .u64 (um : Int))).setCell ⟨Gm, 6, none⟩ (.slice Vm vsm.length xm)).setCell ⟨Gm, 7, none⟩ (.slice Km ksm.length ym)).setCell ⟨Gm, 8, none⟩ (.string gm)) om fm pm Am rsm.length cm Bm wsm.length dm um Vm vsm.length xm Km ksm.length ym gm := mx_set9 HXm.out
   have hII : IsM (Off (Gm :: List.range w.heap.size)) (((((((((w10.setCell ⟨Gm, 0, none⟩ (.string om)).setCell ⟨Gm, 1, none⟩ (.string fm)).setCell ⟨Gm, 2, none⟩ (.int .i64 pm)).setCell ⟨Gm, 3, none⟩ (.slice Am rsm.length cm)).setCell ⟨Gm, 4, none⟩ (.slice Bm wsm.length dm)).setCell ⟨Gm, 5, none⟩ (.int .u64 (um : Int))).setCell ⟨Gm, 6, none⟩ (.slice Vm vsm.length xm)).setCell ⟨Gm, 7, none⟩ (.slice Km ksm.length ym)).setCell ⟨Gm, 8, none⟩ (.string gm)) (.agg #[.string om, .string fm, .int .i64 pm, .slice Am rsm.length cm, .slice Bm wsm.length dm, .int .u64 (um : Int), .slice Vm vsm.length xm, .slice Km ksm.length ym, .string gm]) (mOf r 1 5) := isM_set9 (List.mem_cons_self ..) HIm.out
   have hSP : SepM (((((((((w10.setCell ⟨Gm, 0, none⟩ (.string om)).setCell ⟨Gm, 1, none⟩ (.string fm)).setCell ⟨Gm, 2, none⟩ (.int .i64 pm)).setCell ⟨Gm, 3, none⟩ (.slice Am rsm.length cm)).setCell ⟨Gm, 4, none⟩ (.slice Bm wsm.length dm)).setCell ⟨Gm, 5, none⟩ (.int .u64 (um : Int))).setCell ⟨Gm, 6, none⟩ (.slice Vm vsm.length xm)).setCell ⟨Gm, 7, none⟩ (.slice Km ksm.length ym)).setCell ⟨Gm, 8, none⟩ (.string gm)) (.agg #[.string om, .string fm, .int .i64 pm, .slice Am rsm.length cm, .slice Bm wsm.length dm, .int .u64 (um : Int), .slice Vm vsm.length xm, .slice Km ksm.length ym, .string gm]) := sepM_set9 HPm.out
   have hBB : Below v3.heap.size v3 (((((((((w10.setCell ⟨Gm, 0, none⟩ (.string om)).setCell ⟨Gm, 1, none⟩ (.string fm)).setCell ⟨Gm, 2, none⟩ (.int .i64 pm)).setCell ⟨Gm, 3, none⟩ (.slice Am rsm.length cm)).setCell ⟨Gm, 4, none⟩ (.slice Bm wsm.length dm)).setCell ⟨Gm, 5, none⟩ (.int .u64 (um : Int))).setCell ⟨Gm, 6, none⟩ (.slice Vm vsm.length xm)).setCell ⟨Gm, 7, none⟩ (.slice Km ksm.length ym)).setCell ⟨Gm, 8, none⟩ (.string gm)) := set9 HA.out HGm.out
   have hKr : Bx Gr (((((((((w10.setCell ⟨Gm, 0, none⟩ (.string om)).setCell ⟨Gm, 1, none⟩ (.string fm)).setCell ⟨Gm, 2, none⟩ (.int .i64 pm)).setCell ⟨Gm, 3, none⟩ (.slice Am rsm.length cm)).setCell ⟨Gm, 4, none⟩ (.slice Bm wsm.length dm)).setCell ⟨Gm, 5, none⟩ (.int .u64 (um : Int))).setCell ⟨Gm, 6, none⟩ (.slice Vm vsm.length xm)).setCell ⟨Gm, 7, none⟩ (.slice Km ksm.length ym)).setCell ⟨Gm, 8, none⟩ (.string gm)) or fr pr Ar nr cr Br mr dr := bx_other9 HXr.out (fun e => by have h1 := ZHXr.out.2.2.2.2.2; have h2 := HGm.out; omega)
   clear r_0 r_1 r_2 r_3 r_4 m_0 m_1 m_2 m_3 m_4 m_5 m_6 m_7 m_8
   have hSF : Sf9 Gm (((((((((w10.setCell ⟨Gm, 0, none⟩ (.string om)).setCell ⟨Gm, 1, none⟩ (.string fm)).setCell ⟨Gm, 2, none⟩ (.int .i64 pm)).setCell ⟨Gm, 3, none⟩ (.slice Am rsm.length cm)).setCell ⟨Gm, 4, none⟩ (.slice Bm wsm.length dm)).setCell ⟨Gm, 5, none⟩ (.int .u64 (um : Int))).setCell ⟨Gm, 6, none⟩ (.slice Vm vsm.length xm)).setCell ⟨Gm, 7, none⟩ (.slice Km ksm.length ym)).setCell ⟨Gm, 8, none⟩ (.string gm)) := sf9_set9 HFm.out
   generalize (((((((((w10.setCell ⟨Gm, 0, none⟩ (.string om)).setCell ⟨Gm, 1, none⟩ (.string fm)).setCell ⟨Gm, 2, none⟩ (.int .i64 pm)).setCell ⟨Gm, 3, none⟩ (.slice Am rsm.length cm)).setCell ⟨Gm, 4, none⟩ (.slice Bm wsm.length dm)).setCell ⟨Gm, 5, none⟩ (.int .u64 (um : Int))).setCell ⟨Gm, 6, none⟩ (.slice Vm vsm.length xm)).setCell ⟨Gm, 7, none⟩ (.slice Km ksm.length ym)).setCell ⟨Gm, 8, none⟩ (.string gm)) = v11 at hXX hII hSP hBB hKr hSF ⊢
   have HSF := zh hSF; clear hSF; have HSX := zh hXX; have HSI := zh hII; have HSS := zh hSP; have HSB := zh hBB; clear hXX hII hSP hBB z0 z1 z2 z3 z4 z5 z6 z7 z8; refine hK.out _ _ (hKr) (fun _ => ?_); try simp only [Act.put, zq1, zq2, zq3]
   have hHeld : (Bx Gr v11 or fr pr Ar nr cr Br mr dr) := hKr
   refine zqU 14 ?_ ?_ ?_; rotate_left
   · intro w' hSw; obtain ⟨r_0, r_1, r_2, r_3, r_4, _⟩ := hSw; go_simp; try with_reducible rfl
   (try simp only [Act.put, zq1, zq2, zq3]); clear hHeld
   refine wpAnyH_done (by kernel_rfl) ?_ _
   exact ⟨rfl, Gm, _, _, _, _, _, _, _, _, _, _, _, _, om, fm, gm, pm, Am, cm, rsm, Bm, dm, wsm, um, Vm, xm, vsm, Km, ym, ksm, rfl, HSX.out, HSI.out, HSS.out, HSB.out, HSF.out, Nat.le_trans ZHB.out.size (HGm.out)⟩
  refine zqN fun K hK => ?_
  go_simp; clear r_0 r_1 r_2 r_3 r_4
  have hal := al d4 (.cells #[.string ⟨#[]⟩, .string ⟨#[]⟩, .int .i64 0, .slice none 0 0, .slice none 0 0, .int .u64 0, .slice none 0 0, .slice none 0 0, .string ⟨#[]⟩] 39)
  have hXX : Mx d4.heap.size (d4.alloc (.cells #[.string ⟨#[]⟩, .string ⟨#[]⟩, .int .i64 0, .slice none 0 0, .slice none 0 0, .int .u64 0, .slice none 0 0, .slice none 0 0, .string ⟨#[]⟩] 39)) ⟨#[]⟩ ⟨#[]⟩ 0 none 0 0 none 0 0 0 none 0 0 none 0 0 ⟨#[]⟩ := mx_alloc d4 ⟨#[]⟩ ⟨#[]⟩ 0 none 0 0 none 0 0 0 none 0 0 none 0 0 ⟨#[]⟩ 39
  have hFF := sf9_alloc d4 #[.string ⟨#[]⟩, .string ⟨#[]⟩, .int .i64 0, .slice none 0 0, .slice none 0 0, .int .u64 0, .slice none 0 0, .slice none 0 0, .string ⟨#[]⟩] 39
  have hGE : v3.heap.size ≤ d4.heap.size := HA.out.size
  have hGL : d4.heap.size ≤ d4.heap.size := Nat.le_refl _
  obtain ⟨Gm, hG⟩ : ∃ g, d4.heap.size = g := ⟨_, rfl⟩
  generalize d4.alloc (.cells #[.string ⟨#[]⟩, .string ⟨#[]⟩, .int .i64 0, .slice none 0 0, .slice none 0 0, .int .u64 0, .slice none 0 0, .slice none 0 0, .string ⟨#[]⟩] 39) = v5 at hal hXX hFF ⊢
  rw [hG] at hXX hFF hGE ⊢; replace HIr := zh (offX_new HIr.out (Nat.le_of_eq hG)); replace HB := zh (Bel.call HB.out hal); replace HIr := zh (HIr.out.below hal zl); replace HXr := zh (HXr.out.below hal HXr.out.2.2.2.2.2); replace HA := zh (Bel.call HA.out hal); have HXm := zh hXX; have HFm := zh hFF; have HGm := zh hGE; clear hal hXX hFF hGE hGL hG; obtain ⟨r_0, r_1, r_2, r_3, r_4, _⟩ := HXr.out; obtain ⟨⟨m_0, m_1, m_2, m_3, m_4, m_5, m_6, m_7, m_8⟩, _⟩ := HXm.out; refine hK.out _ _ (HXr.out) (fun _ => ?_); (try simp only [Act.put, zq1, zq2, zq3]); refine zqR [0] ?_
  refine zqN fun K hK => ?_
  go_simp; (with_reducible refine (HSE.out _).mono ?_); rintro e6 w6 ⟨⟨S, hTS, rfl⟩, hb6⟩; clear r_0 r_1 r_2 r_3 r_4 m_0 m_1 m_2 m_3 m_4 m_5 m_6 m_7 m_8; replace HB := zh (Bel.call HB.out hb6); replace HIr := zh (HIr.out.below hb6 zl); replace HXr := zh (HXr.out.below hb6 HXr.out.2.2.2.2.2); replace HA := zh (Bel.call HA.out hb6); replace HFm := zh (HFm.out.below hb6 HXm.out.2); replace HXm := zh (HXm.out.call hb6); clear hb6
  try dsimp only at hTS
  have HTS := zh hTS; clear hTS; obtain ⟨r_0, r_1, r_2, r_3, r_4, _⟩ := HXr.out; obtain ⟨⟨m_0, m_1, m_2, m_3, m_4, m_5, m_6, m_7, m_8⟩, _⟩ := HXm.out; dsimp only; refine hK.out _ _ (HXr.out) (fun _ => ?_); (try simp only [Act.put, zq1, zq2, zq3]); refine zqR [2] ?_
  refine zqN fun K hK => ?_
  go_simp; (with_reducible refine (HRO.out _).mono ?_); rintro e7 w7 ⟨⟨R, hTR, rfl⟩, hb7⟩; clear r_0 r_1 r_2 r_3 r_4 m_0 m_1 m_2 m_3 m_4 m_5 m_6 m_7 m_8; replace HB := zh (Bel.call HB.out hb7); replace HIr := zh (HIr.out.below hb7 zl); replace HXr := zh (HXr.out.below hb7 HXr.out.2.2.2.2.2); replace HA := zh (Bel.call HA.out hb7); replace HFm := zh (HFm.out.below hb7 HXm.out.2); replace HXm := zh (HXm.out.call hb7); clear hb7
  try dsimp only at hTR
  have HTR := zh hTR; clear hTR; obtain ⟨r_0, r_1, r_2, r_3, r_4, _⟩ := HXr.out; obtain ⟨⟨m_0, m_1, m_2, m_3, m_4, m_5, m_6, m_7, m_8⟩, _⟩ := HXm.out; dsimp only; refine hK.out _ _ (HXr.out) (fun _ => ?_); (try simp only [Act.put, zq1, zq2, zq3]); refine zqR [6] ?_
  refine zqN fun K hK => ?_
  go_simp; (with_reducible refine (HSG.out _).mono ?_); rintro e8 w8 ⟨⟨As, cs, ls, hls, hcs, hrs, _, rfl⟩, hb8⟩; clear r_0 r_1 r_2 r_3 r_4 m_0 m_1 m_2 m_3 m_4 m_5 m_6 m_7 m_8; replace HB := zh (Bel.call HB.out hb8); replace HIr := zh (HIr.out.below hb8 zl); replace HXr := zh (HXr.out.below hb8 HXr.out.2.2.2.2.2); replace HA := zh (Bel.call HA.out hb8); replace HFm := zh (HFm.out.below hb8 HXm.out.2); replace HXm := zh (HXm.out.call hb8); clear hb8; have HLs := zh hls; have HCs := zh hcs; have HSs := zh hrs; clear hls hcs hrs; obtain ⟨r_0, r_1, r_2, r_3, r_4, _⟩ := HXr.out; obtain ⟨⟨m_0, m_1, m_2, m_3, m_4, m_5, m_6, m_7, m_8⟩, _⟩ := HXm.out; dsimp only; refine hK.out _ _ (HXr.out) (fun _ => ?_); (try simp only [Act.put, zq1, zq2, zq3]); refine zqR [7] ?_
  refine zqN fun K hK => ?_
  go_simp; (with_reducible refine (HKN.out _).mono ?_); rintro e9 w9 ⟨⟨Al, cl, ll, hll, hcl, hrl, _, rfl⟩, hb9⟩; clear r_0 r_1 r_2 r_3 r_4 m_0 m_1 m_2 m_3 m_4 m_5 m_6 m_7 m_8; replace HB := zh (Bel.call HB.out hb9); replace HIr := zh (HIr.out.below hb9 zl); replace HXr := zh (HXr.out.below hb9 HXr.out.2.2.2.2.2); replace HA := zh (Bel.call HA.out hb9); replace HFm := zh (HFm.out.below hb9 HXm.out.2); replace HXm := zh (HXm.out.call hb9); replace HSs := zh (HSs.out.below hb9 zl); clear hb9; have HLl := zh hll; have HCl := zh hcl; have HSl := zh hrl; clear hll hcl hrl; obtain ⟨r_0, r_1, r_2, r_3, r_4, _⟩ := HXr.out; obtain ⟨⟨m_0, m_1, m_2, m_3, m_4, m_5, m_6, m_7, m_8⟩, _⟩ := HXm.out; dsimp only; refine hK.out _ _ (HXr.out) (fun _ => ?_); (try simp only [Act.put, zq1, zq2, zq3]); refine zqR [8] ?_
  refine zqN fun K hK => ?_
  go_simp; (with_reducible refine (build_to MB HAN.out (n := 1) (ver := 5) (by decide) (by decide) HTS.out HTR.out HLs.out (by rw [HLl.out]; exact knows_oth knows_all HAN.out) (by rw [HLl.out]; exact fit_known) (K := Al) (ck := cl) (ks := ll) (Gm :: List.range w.heap.size) _ _ (gs_cons (Mx.lt HXm.out) (fun g h => Nat.lt_of_lt_of_le (List.mem_range.1 h) HB.out.size)) HIr.out HSs.out HCs.out HSl.out HCl.out (vz := 5) rfl (ns := ls.length) rfl (nk := ll.length) rfl).mono ?_); rintro e10 w10 ⟨⟨v10, hm10, hs10, rfl⟩, hb10⟩; clear r_0 r_1 r_2 r_3 r_4 m_0 m_1 m_2 m_3 m_4 m_5 m_6 m_7 m_8; replace HB := zh (Bel.call HB.out hb10); replace HIr := zh (HIr.out.below hb10 zl); replace HXr := zh (HXr.out.below hb10 HXr.out.2.2.2.2.2); replace HA := zh (Bel.call HA.out hb10); replace HFm := zh (HFm.out.below hb10 HXm.out.2); replace HXm := zh (HXm.out.call hb10); replace HSs := zh (HSs.out.below hb10 zl); replace HSl := zh (HSl.out.below hb10 zl); clear hb10; obtain ⟨om, fm, gm, pm, Am, cm, rsm, Bm, dm, wsm, um, Vm, xm, vsm, Km, ym, ksm, rfl, him, _, _, _, _, _⟩ := isM_lit hm10; have HEm := zh him; have HIm := zh hm10; clear hm10 him; have HPm := zh hs10; clear hs10; obtain ⟨r_0, r_1, r_2, r_3, r_4, _⟩ := HXr.out; obtain ⟨⟨m_0, m_1, m_2, m_3, m_4, m_5, m_6, m_7, m_8⟩, _⟩ := HXm.out; dsimp only; refine hK.out _ _ (HXr.out) (fun _ => ?_); try simp only [Act.put, zq1, zq2, zq3]
  have hHeld : (Bx Gr w10 or fr pr Ar nr cr Br mr dr) := HXr.out
  refine zqU 9 ?_ ?_ ?_; rotate_left
  · intro w' hSw; obtain ⟨r_0, r_1, r_2, r_3, r_4, _⟩ := hSw; go_simp; try with_reducible rfl
  (try simp only [Act.put, zq1, zq2, zq3]); clear hHeld
  have hHeld : (Bx Gr w10 or fr pr Ar nr cr Br mr dr) := HXr.out
  refine zqU 10 ?_ ?_ ?_; rotate_left
  · intro w' hSw; obtain ⟨r_0, r_1, r_2, r_3, r_4, _⟩ := hSw; go_simp; try with_reducible rfl
  (try simp only [Act.put, zq1, zq2, zq3]); clear hHeld
  have hHeld : (Bx Gr w10 or fr pr Ar nr cr Br mr dr) := HXr.out
  refine zqU 11 ?_ ?_ ?_; rotate_left
  · intro w' hSw; obtain ⟨r_0, r_1, r_2, r_3, r_4, _⟩ := hSw; go_simp; try with_reducible rfl
  (try simp only [Act.put, zq1, zq2, zq3]); clear hHeld; refine zqR [13] ?_
  refine zqN fun K hK => ?_
  obtain ⟨z0, z1, z2, z3, z4, z5, z6, z7, z8⟩ := HFm.out; go_simp
  have hXX : Mx Gm (((((((((w10.setCell ⟨Gm, 0, none⟩ (.string om)).setCell ⟨Gm, 1, none⟩ (.string fm)).setCell ⟨Gm, 2, none⟩ (.int .i64 pm)).setCell ⟨Gm, 3, none⟩ (.slice Am rsm.length cm)).setCell ⟨Gm, 4, none⟩ (.slice Bm wsm.length dm)).setCell ⟨Gm, 5, none⟩ (.int .u64 (um : Int))).setCell ⟨Gm, 6, none⟩ (.slice Vm vsm.length xm)).setCell ⟨Gm, 7, none⟩ (.slice Km ksm.length ym)).setCell ⟨Gm, 8, none⟩ (.string gm)) om fm pm Am rsm.length cm Bm wsm.length dm um Vm vsm.length xm Km ksm.length ym gm := mx_set9 HXm.out
  have hII : IsM (Off (Gm :: List.range w.heap.size)) (((((((((w10.setCell ⟨Gm, 0, none⟩ (.string om)).setCell ⟨Gm, 1, none⟩ (.string fm)).setCell ⟨Gm, 2, none⟩ (.int .i64 pm)).setCell ⟨Gm, 3, none⟩ (.slice Am rsm.length cm)).setCell ⟨Gm, 4, none⟩ (.slice Bm wsm.length dm)).setCell ⟨Gm, 5, none⟩ (.int .u64 (um : Int))).setCell ⟨Gm, 6, none⟩ (.slice Vm vsm.length xm)).setCell ⟨Gm, 7, none⟩ (.slice Km ksm.length ym)).setCell ⟨Gm, 8, none⟩ (.string gm)) (.agg #[.string om, .string fm, .int .i64 pm, .slice Am rsm.length cm, .slice Bm wsm.length dm, .int .u64 (um : Int), .slice Vm vsm.length xm, .slice Km ksm.length ym, .string gm]) (mOf r 1 5) := isM_set9 (List.mem_cons_self ..) HIm.out
  have hSP : SepM (((((((((w10.setCell ⟨Gm, 0, none⟩ (.string om)).setCell ⟨Gm, 1, none⟩ (.string fm)).setCell ⟨Gm, 2, none⟩ (.int .i64 pm)).setCell ⟨Gm, 3, none⟩ (.slice Am rsm.length cm)).setCell ⟨Gm, 4, none⟩ (.slice Bm wsm.length dm)).setCell ⟨Gm, 5, none⟩ (.int .u64 (um : Int))).setCell ⟨Gm, 6, none⟩ (.slice Vm vsm.length xm)).setCell ⟨Gm, 7, none⟩ (.slice Km ksm.length ym)).setCell ⟨Gm, 8, none⟩ (.string gm)) (.agg #[.string om, .string fm, .int .i64 pm, .slice Am rsm.length cm, .slice Bm wsm.length dm, .int .u64 (um : Int), .slice Vm vsm.length xm, .slice Km ksm.length ym, .string gm]) := sepM_set9 HPm.out
  have hBB : Below v3.heap.size v3 (((((((((w10.setCell ⟨Gm, 0, none⟩ (.string om)).setCell ⟨Gm, 1, none⟩ (.string fm)).setCell ⟨Gm, 2, none⟩ (.int .i64 pm)).setCell ⟨Gm, 3, none⟩ (.slice Am rsm.length cm)).setCell ⟨Gm, 4, none⟩ (.slice Bm wsm.length dm)).setCell ⟨Gm, 5, none⟩ (.int .u64 (um : Int))).setCell ⟨Gm, 6, none⟩ (.slice Vm vsm.length xm)).setCell ⟨Gm, 7, none⟩ (.slice Km ksm.length ym)).setCell ⟨Gm, 8, none⟩ (.string gm)) := set9 HA.out HGm.out
  have hKr : Bx Gr (((((((((w10.setCell ⟨Gm, 0, none⟩ (.string om)).setCell ⟨Gm, 1, none⟩ (.string fm)).setCell ⟨Gm, 2, none⟩ (.int .i64 pm)).setCell ⟨Gm, 3, none⟩ (.slice Am rsm.length cm)).setCell ⟨Gm, 4, none⟩ (.slice Bm wsm.length dm)).setCell ⟨Gm, 5, none⟩ (.int .u64 (um : Int))).setCell ⟨Gm, 6, none⟩ (.slice Vm vsm.length xm)).setCell ⟨Gm, 7, none⟩ (.slice Km ksm.length ym)).setCell ⟨Gm, 8, none⟩ (.string gm)) or fr pr Ar nr cr Br mr dr := bx_other9 HXr.out (fun e => by have h1 := ZHXr.out.2.2.2.2.2; have h2 := HGm.out; omega)
  clear r_0 r_1 r_2 r_3 r_4 m_0 m_1 m_2 m_3 m_4 m_5 m_6 m_7 m_8
  have hSF : Sf9 Gm (((((((((w10.setCell ⟨Gm, 0, none⟩ (.string om)).setCell ⟨Gm, 1, none⟩ (.string fm)).setCell ⟨Gm, 2, none⟩ (.int .i64 pm)).setCell ⟨Gm, 3, none⟩ (.slice Am rsm.length cm)).setCell ⟨Gm, 4, none⟩ (.slice Bm wsm.length dm)).setCell ⟨Gm, 5, none⟩ (.int .u64 (um : Int))).setCell ⟨Gm, 6, none⟩ (.slice Vm vsm.length xm)).setCell ⟨Gm, 7, none⟩ (.slice Km ksm.length ym)).setCell ⟨Gm, 8, none⟩ (.string gm)) := sf9_set9 HFm.out
  generalize (((((((((w10.setCell ⟨Gm, 0, none⟩ (.string om)).setCell ⟨Gm, 1, none⟩ (.string fm)).setCell ⟨Gm, 2, none⟩ (.int .i64 pm)).setCell ⟨Gm, 3, none⟩ (.slice Am rsm.length cm)).setCell ⟨Gm, 4, none⟩ (.slice Bm wsm.length dm)).setCell ⟨Gm, 5, none⟩ (.int .u64 (um : Int))).setCell ⟨Gm, 6, none⟩ (.slice Vm vsm.length xm)).setCell ⟨Gm, 7, none⟩ (.slice Km ksm.length ym)).setCell ⟨Gm, 8, none⟩ (.string gm)) = v11 at hXX hII hSP hBB hKr hSF ⊢
  have HSF := zh hSF; clear hSF; have HSX := zh hXX; have HSI := zh hII; have HSS := zh hSP; have HSB := zh hBB; clear hXX hII hSP hBB z0 z1 z2 z3 z4 z5 z6 z7 z8; refine hK.out _ _ (hKr) (fun _ => ?_); try simp only [Act.put, zq1, zq2, zq3]
  have hHeld : (Bx Gr v11 or fr pr Ar nr cr Br mr dr) := hKr
  refine zqU 14 ?_ ?_ ?_; rotate_left
  · intro w' hSw; obtain ⟨r_0, r_1, r_2, r_3, r_4, _⟩ := hSw; go_simp; try with_reducible rfl
  (try simp only [Act.put, zq1, zq2, zq3]); clear hHeld
  refine wpAnyH_done (by kernel_rfl) ?_ _
  exact ⟨rfl, Gm, _, _, _, _, _, _, _, _, _, _, _, _, om, fm, gm, pm, Am, cm, rsm, Bm, dm, wsm, um, Vm, xm, vsm, Km, ym, ksm, rfl, HSX.out, HSI.out, HSS.out, HSB.out, HSF.out, Nat.le_trans ZHB.out.size (HGm.out)⟩
 rintro _ _ wJm ⟨rfl, Gm, t27, t28, t29, t30, t31, t32, t33, t34, t35, t26, t36, t37, om, fm, gm, pm, Am, cm, rsm, Bm, dm, wsm, um, Vm, xm, vsm, Km, ym, ksm, rfl, hXX, hII, hSP, hbJ, hSF, hGN⟩; clear r_0 r_1 r_2 r_3 r_4; replace HB := zh (Bel.call HB.out hbJ); replace HIr := zh (HIr.out.below hbJ zl); replace HXr := zh (HXr.out.below hbJ HXr.out.2.2.2.2.2); clear hbJ; have HXm := zh hXX; have HIm := zh hII; have HPm := zh hSP; clear hXX hII hSP; have HFm := zh hSF; clear hSF; have HGN := zh hGN; clear hGN; obtain ⟨r_0, r_1, r_2, r_3, r_4, _⟩ := HXr.out; obtain ⟨⟨m_0, m_1, m_2, m_3, m_4, m_5, m_6, m_7, m_8⟩, _⟩ := HXm.out
 simp only [Act.put, List.setIfInBounds_toArray, List.set_cons_zero, List.set_cons_succ]
 obtain ⟨X, hX⟩ : ∃ X : ByteArray, X = ⟨⟨bodyB (mOf r 1 5)⟩⟩ := ⟨_, rfl⟩
 have HBD : Hid (∀ v w, IsM AnyB w v (mOf r 1 5) → Calls Tryz.prog 26 #[v] w fun e w' => e = .returned (.tuple #[.string X, .int .i64 0]) ∧ Below w.heap.size w w') := fun v w hm => by
  rw [hX]; exact body_to MY HAN.out (by decide) (by decide) v w hm
 have HXX := zh hX; clear hX
 have hvl : vsm.length = r.ep.toNat + 1 := by
  obtain ⟨_, _, _, _, _, vs, _, hvn, hv, _⟩ := isM_parts HIm.out
  have := congrArg List.length hv
  rw [bl_len] at this; rw [hvn, this]; simp [mOf, vfOf]
 have hv0 : ¬ ((vsm.length : Int) = 0) := by omega
 have HVL := zh hvl; clear hvl
 go_wp2_with fail
 (with_reducible refine (HBD.out _ _ HIm.out.any).mono ?_); rintro e4 w4 ⟨rfl, hb4⟩; clear r_0 r_1 r_2 r_3 r_4 m_0 m_1 m_2 m_3 m_4 m_5 m_6 m_7 m_8; replace HB := zh (Bel.call HB.out hb4); replace HIr := zh (HIr.out.below hb4 zl); replace HXr := zh (HXr.out.below hb4 HXr.out.2.2.2.2.2); replace HFm := zh (HFm.out.below hb4 HXm.out.2); replace HXm := zh (HXm.out.call hb4); replace HIm := zh (HIm.out.below hb4 zl); replace HPm := zh (HPm.out.below hb4); clear hb4; obtain ⟨r_0, r_1, r_2, r_3, r_4, _⟩ := HXr.out; obtain ⟨⟨m_0, m_1, m_2, m_3, m_4, m_5, m_6, m_7, m_8⟩, _⟩ := HXm.out; dsimp only
 go_wp2_with fail
 (with_reducible refine (HPW.out _).mono ?_); rintro _ wq ⟨rfl, rfl⟩; dsimp only
 have hq5 : q = 0 ∨ q = 1 ∨ q = 2 ∨ q = 3 ∨ q = 4 := by omega
 rcases hq5 with rfl | rfl | rfl | rfl | rfl
 ·
  obtain ⟨e1, e2, e3, e4, e5, _⟩ := isM_parts HIm.out.any
  have hum : um = 5 := e4
  have HPA : Hid (∀ W, Calls Tryz.prog 12 #[.int .i64 at0, .int .i64 9] W fun e w' => e = .returned (.int .i64 (Rig.pk at0 9 : Int)) ∧ w' = W) := zh fun W => pick7_any at0 9 W ht0 (by decide) (by decide)
  have hjl := Rig.pk_lt at0 (n := 9) (by decide)
  obtain ⟨j, hj⟩ : ∃ j, Rig.pk at0 9 = j := ⟨_, rfl⟩; rw [hj] at HPA hjl
  have hw1 : IntKind.u64.wrap ((um : Int) + 1) = (um : Int) + 1 := by rw [IntKind.wrap_u64]; omega
  have hw2 : IntKind.u64.wrap (j : Int) = (j : Int) := by rw [IntKind.wrap_u64]; omega
  have hw3 : IntKind.u64.wrap ((um : Int) + 1 + (j : Int)) = ((um + 1 + j : Nat) : Int) := by rw [IntKind.wrap_u64]; omega
  have HUM := zh hum; have HJL := zh hjl; have HE := zh (And.intro e1 (And.intro e2 e5)); clear hj e1 e2 e3 e4 e5 hum hjl
  go_wp2_with fail
  have hdr : Below wq.heap.size wq wq.drew := Below.drewN' (Below.refl wq.heap.size wq) 1
  have HBt := zh (Bel.call HB.out hdr); have HXt := zh (HXm.out.call hdr); have HIt := zh (HIm.out.below hdr zl)
  have hff := HFm.out.below hdr HXm.out.2
  refine wp_region_held_drew (S := fun _ => True) (by kernel_rfl) trivial (fun hHeld => ?_)
  clear hHeld hdr; obtain ⟨wd, hwd⟩ : ∃ W, wq.drew = W := ⟨_, rfl⟩; rw [hwd] at HBt HXt HIt hff ⊢; clear hwd; obtain ⟨z0, z1, z2, z3, z4, z5, z6, z7, z8⟩ := hff; obtain ⟨⟨y0, y1, y2, y3, y4, y5, y6, y7, y8⟩, _⟩ := HXt.out
  have hHeld : True := trivial
  refine zqT 0 ?_ ?_ ?_; rotate_left
  · intro w' hSw; go_simp; try with_reducible rfl
  (try simp only [Act.put, zq1, zq2, zq3]); clear hHeld
  have hHeld : True := trivial
  refine zqT 3 ?_ ?_ ?_; rotate_left
  · intro w' hSw; go_simp; try with_reducible rfl
  (try simp only [Act.put, zq1, zq2, zq3]); clear hHeld; refine zqR [1, 4] ?_; refine zqC (fun K hK => ?_) ?_
  ·
   go_simp; refine hK.out _ _ trivial (fun _ => ?_); try simp only [Act.put, zq1, zq2, zq3]
   have hHeld : True := trivial
   refine zqT 2 ?_ ?_ ?_; rotate_left
   · intro w' hSw; go_simp; try with_reducible rfl
   (try simp only [Act.put, zq1, zq2, zq3]); clear hHeld; refine zqR [4] ?_
   refine zqN fun K hK => ?_
   go_simp
   go_at_call 12
   (with_reducible refine (HPA.out _).mono ?_); rintro _ wd ⟨rfl, rfl⟩; dsimp only; refine hK.out _ _ trivial (fun _ => ?_); try simp only [Act.put, zq1, zq2, zq3]
   have hHeld : True := trivial
   refine zqT 5 ?_ ?_ ?_; rotate_left
   · intro w' hSw; go_simp; try with_reducible rfl
   (try simp only [Act.put, zq1, zq2, zq3]); clear hHeld
   have hHeld : True := trivial
   refine zqT 6 ?_ ?_ ?_; rotate_left
   · intro w' hSw; go_simp; try with_reducible rfl
   (try simp only [Act.put, zq1, zq2, zq3]); clear hHeld
   have hHeld : True := trivial
   refine zqT 7 ?_ ?_ ?_; rotate_left
   · intro w' hSw; go_simp; try with_reducible rfl
   (try simp only [Act.put, zq1, zq2, zq3]); clear hHeld; refine zqR [8] ?_
   refine zqN fun K hK => ?_
   go_simp; refine hK.out _ _ trivial (fun _ => ?_); try simp only [Act.put, zq1, zq2, zq3]
   refine wpAnyH_done (by kernel_rfl) ?_ _
   clear z0 z1 z2 z3 z4 z5 z6 z7 z8 y0 y1 y2 y3 y4 y5 y6 y7 y8 hw1 hw2 hw3
   go_wp2_with fail
   have HQ := zh (And.intro (other_ver HAN.out (n := 1) (ver := 5) (v2 := um + 1 + j) (by decide) (by decide) (by have := HUM.out; have := HJL.out; omega) (by have := HUM.out; omega) [] []).1 fun o f => (other_ver HAN.out (n := 1) (ver := 5) (v2 := um + 1 + j) (by decide) (by decide) (by have := HUM.out; have := HJL.out; omega) (by have := HUM.out; omega) o f).2)
   have HFS : Hid (fm.size ≤ 10000) := zh (by rw [Lib.size_eq, HE.out.2.1]; exact (few_MR (mOf_right HAN.out (n := 1) (ver := 5) (by decide) (by decide)) (by show (5 : Nat) < _; decide)).1.2.1)
   have hme : (⟨⟨om.data.toList, fm.data.toList, (mOf r 1 5).r.ep, (mOf r 1 5).r.rs, (mOf r 1 5).r.ws⟩, um + 1 + j, (mOf r 1 5).vf, (mOf r 1 5).bs, gm.data.toList⟩ : Mt) = { mOf r 1 5 with ver := um + 1 + j } := by rw [HE.out.1, HE.out.2.1, HE.out.2.2]
   have HFW : Hid (FewM { mOf r 1 5 with ver := um + 1 + j }) := zh (few_MR HQ.out.1 (by show um + 1 + j < _; have := HUM.out; have := HJL.out; omega))
   have hst := And.intro (mx_ver HXt.out (um + 1 + j)) (isM_cell (i := 5) (z := .int .u64 ((um + 1 + j : Nat) : Int)) (o' := om) (f' := fm) (g' := gm) (u' := um + 1 + j) HIt.out (fun b h e => h (by rw [e]; exact List.mem_cons_self ..)) rfl)
   rw [hme] at hst; have HSt := zh hst
   have hbt : Below w.heap.size w (wd.setCell ⟨Gm, 5, none⟩ (.int .u64 ((um + 1 + j : Nat) : Int))) := HBt.out.setCell HGN.out _
   have HBt := zh hbt; rw [show (um : Int) + 1 + (j : Int) = ((um + 1 + j : Nat) : Int) by omega]; clear hst hbt hme
   generalize wd.setCell ⟨Gm, 5, none⟩ (.int .u64 ((um + 1 + j : Nat) : Int)) = wt at HSt HBt ⊢
   have HRG : Hid (∀ W, IsM AnyB W (.agg #[.string om, .string fm, .int .i64 pm, .slice Am rsm.length cm, .slice Bm wsm.length dm, .int .u64 ((um + 1 + j : Nat) : Int), .slice Vm vsm.length xm, .slice Km ksm.length ym, .string gm]) { mOf r 1 5 with ver := um + 1 + j } → Calls Tryz.prog 32 #[.agg #[.string om, .string fm, .int .i64 pm, .slice Am rsm.length cm, .slice Bm wsm.length dm, .int .u64 ((um + 1 + j : Nat) : Int), .slice Vm vsm.length xm, .slice Km ksm.length ym, .string gm]] W fun e w' => e = .returned (.bool true) ∧ Below W.heap.size W w') := zh fun W h => by
    have h2 := MR _ _ W h HFW.out
    rw [decide_eq_true HQ.out.1] at h2
    exact h2
   obtain ⟨PA, hPA⟩ : ∃ p : ByteArray, p = ⟨⟨pubU annaT⟩⟩ := ⟨_, rfl⟩
   have HPB : Hid (∀ W, Calls Tryz.prog 36 #[.string ⟨#[97, 110, 110, 97]⟩] W fun e w' => e = .returned (.string PA) ∧ Below W.heap.size W w') := zh fun W => (publicOf_any annaB W (by decide)).mono fun e w' h => by
    obtain ⟨⟨T, hl, he⟩, hb⟩ := h
    exact ⟨by rw [he, hPA]; congr 2; exact str_eq hl, hb⟩
   have HCK : Hid (∀ W, IsM AnyB W (.agg #[.string om, .string fm, .int .i64 pm, .slice Am rsm.length cm, .slice Bm wsm.length dm, .int .u64 ((um + 1 + j : Nat) : Int), .slice Vm vsm.length xm, .slice Km ksm.length ym, .string gm]) { mOf r 1 5 with ver := um + 1 + j } → Calls Tryz.prog 34 #[.agg #[.string om, .string fm, .int .i64 pm, .slice Am rsm.length cm, .slice Bm wsm.length dm, .int .u64 ((um + 1 + j : Nat) : Int), .slice Vm vsm.length xm, .slice Km ksm.length ym, .string gm], .string PA, .string ⟨#[97, 110, 110, 97]⟩, .string fm] W fun e w' => e = .returned (.int .i64 7) ∧ Below W.heap.size W w') := zh fun W h => by
    have h3 : PA.size ≤ 10000 := by rw [hPA]; decide +kernel
    refine check_to MC ?_ HFW.out h3 (by decide) HFS.out W h
    rw [hPA]
    exact HQ.out.2 _ _
   clear hPA
   have hdr := HSt.out.2.below (Below.drewN' (Below.refl wt.heap.size wt) 1) zl
   refine Ord.region_lit (S := fun w' => Below wt.heap.size wt w' ∧ Mx Gm w' om fm pm Am rsm.length cm Bm wsm.length dm (um + 1 + j) Vm vsm.length xm Km ksm.length ym gm ∧ IsM AnyB w' (.agg #[.string om, .string fm, .int .i64 pm, .slice Am rsm.length cm, .slice Bm wsm.length dm, .int .u64 ((um + 1 + j : Nat) : Int), .slice Vm vsm.length xm, .slice Km ksm.length ym, .string gm]) { mOf r 1 5 with ver := um + 1 + j }) (by kernel_rfl) (by kernel_rfl) ⟨Below.drewN' (Below.refl wt.heap.size wt) 1, HSt.out.1.call (Below.drewN' (Below.refl wt.heap.size wt) 1), hdr⟩ ?_; clear hdr; refine Ord.stepR (v := ?_) (by rfl) ?_ ?_; rotate_left
   · intro w' hSw; obtain ⟨_, ⟨⟨q0, q1, q2, q3, q4, q5, q6, q7, q8⟩, _⟩, _⟩ := hSw; go_simp; try with_reducible rfl
   (try simp only [Act.put, zq1, zq2, zq3]); refine Ord.stepC (v := .bool true) (by rfl) ?_ (fun w1 hS => (HRG.out w1 hS.2.2).mono fun e w2 h => ⟨h.1, hS.1.trans (h.2.mono hS.1.size), hS.2.1.call h.2, hS.2.2.below h.2 zl⟩) ?_
   · intro w' hSw; go_simp; try with_reducible rfl
   (try simp only [Act.put, zq1, zq2, zq3]); refine Ord.stepR (v := ?_) (by rfl) ?_ ?_; rotate_left
   · intro w' hSw; obtain ⟨_, ⟨⟨q0, q1, q2, q3, q4, q5, q6, q7, q8⟩, _⟩, _⟩ := hSw; go_simp; try with_reducible rfl
   (try simp only [Act.put, zq1, zq2, zq3]); refine Ord.stepR (v := ?_) (by rfl) ?_ ?_; rotate_left
   · intro w' hSw; obtain ⟨_, ⟨⟨q0, q1, q2, q3, q4, q5, q6, q7, q8⟩, _⟩, _⟩ := hSw; go_simp; try with_reducible rfl
   (try simp only [Act.put, zq1, zq2, zq3]); refine Ord.stepC (v := .string PA) (by rfl) ?_ (fun w1 hS => (HPB.out w1).mono fun e w2 h => ⟨h.1, hS.1.trans (h.2.mono hS.1.size), hS.2.1.call h.2, hS.2.2.below h.2 zl⟩) ?_
   · intro w' hSw; go_simp; try with_reducible rfl
   (try simp only [Act.put, zq1, zq2, zq3]); refine Ord.stepR (v := ?_) (by rfl) ?_ ?_; rotate_left
   · intro w' hSw; obtain ⟨_, ⟨⟨q0, q1, q2, q3, q4, q5, q6, q7, q8⟩, _⟩, _⟩ := hSw; go_simp; try with_reducible rfl
   (try simp only [Act.put, zq1, zq2, zq3]); refine Ord.stepR (v := ?_) (by rfl) ?_ ?_; rotate_left
   · intro w' hSw; obtain ⟨_, ⟨⟨q0, q1, q2, q3, q4, q5, q6, q7, q8⟩, _⟩, _⟩ := hSw; go_simp; try with_reducible rfl
   (try simp only [Act.put, zq1, zq2, zq3]); refine Ord.stepR (v := ?_) (by rfl) ?_ ?_; rotate_left
   · intro w' hSw; obtain ⟨_, ⟨⟨q0, q1, q2, q3, q4, q5, q6, q7, q8⟩, _⟩, _⟩ := hSw; go_simp; try with_reducible rfl
   (try simp only [Act.put, zq1, zq2, zq3]); refine Ord.stepC (v := .int .i64 7) (by rfl) ?_ (fun w1 hS => (HCK.out w1 hS.2.2).mono fun e w2 h => ⟨h.1, hS.1.trans (h.2.mono hS.1.size), hS.2.1.call h.2, hS.2.2.below h.2 zl⟩) ?_
   · intro w' hSw; go_simp; try with_reducible rfl
   (try simp only [Act.put, zq1, zq2, zq3]); refine Ord.stepR (v := ?_) (by rfl) ?_ ?_; rotate_left
   · intro w' hSw; obtain ⟨_, ⟨⟨q0, q1, q2, q3, q4, q5, q6, q7, q8⟩, _⟩, _⟩ := hSw; go_simp; try with_reducible rfl
   (try simp only [Act.put, zq1, zq2, zq3]); refine Ord.stepR (v := ?_) (by rfl) ?_ ?_; rotate_left
   · intro w' hSw; obtain ⟨_, ⟨⟨q0, q1, q2, q3, q4, q5, q6, q7, q8⟩, _⟩, _⟩ := hSw; go_simp; try with_reducible rfl
   (try simp only [Act.put, zq1, zq2, zq3]); refine Ord.stepR (v := ?_) (by rfl) ?_ ?_; rotate_left
   · intro w' hSw; obtain ⟨_, ⟨⟨q0, q1, q2, q3, q4, q5, q6, q7, q8⟩, _⟩, _⟩ := hSw; go_simp; try with_reducible rfl
   (try simp only [Act.put, zq1, zq2, zq3]); refine Ord.stepD ?_; rintro w9 ⟨hb9, _, _⟩; have HB9 := zh (Bel.call HBt.out hb9); clear hb9
   go_wp2
   go_ret
   exact ⟨rfl, HB9.out⟩
  refine zqN fun K hK => ?_
  go_simp
  go_at_call 12
  (with_reducible refine (HPA.out _).mono ?_); rintro _ wd ⟨rfl, rfl⟩; dsimp only; refine hK.out _ _ trivial (fun _ => ?_); try simp only [Act.put, zq1, zq2, zq3]
  have hHeld : True := trivial
  refine zqT 5 ?_ ?_ ?_; rotate_left
  · intro w' hSw; go_simp; try with_reducible rfl
  (try simp only [Act.put, zq1, zq2, zq3]); clear hHeld; refine zqR [1] ?_
  refine zqN fun K hK => ?_
  go_simp; refine hK.out _ _ trivial (fun _ => ?_); try simp only [Act.put, zq1, zq2, zq3]
  have hHeld : True := trivial
  refine zqT 2 ?_ ?_ ?_; rotate_left
  · intro w' hSw; go_simp; try with_reducible rfl
  (try simp only [Act.put, zq1, zq2, zq3]); clear hHeld
  have hHeld : True := trivial
  refine zqT 6 ?_ ?_ ?_; rotate_left
  · intro w' hSw; go_simp; try with_reducible rfl
  (try simp only [Act.put, zq1, zq2, zq3]); clear hHeld
  have hHeld : True := trivial
  refine zqT 7 ?_ ?_ ?_; rotate_left
  · intro w' hSw; go_simp; try with_reducible rfl
  (try simp only [Act.put, zq1, zq2, zq3]); clear hHeld; refine zqR [8] ?_
  refine zqN fun K hK => ?_
  go_simp; refine hK.out _ _ trivial (fun _ => ?_); try simp only [Act.put, zq1, zq2, zq3]
  refine wpAnyH_done (by kernel_rfl) ?_ _
  clear z0 z1 z2 z3 z4 z5 z6 z7 z8 y0 y1 y2 y3 y4 y5 y6 y7 y8 hw1 hw2 hw3
  go_wp2_with fail
  have HQ := zh (And.intro (other_ver HAN.out (n := 1) (ver := 5) (v2 := um + 1 + j) (by decide) (by decide) (by have := HUM.out; have := HJL.out; omega) (by have := HUM.out; omega) [] []).1 fun o f => (other_ver HAN.out (n := 1) (ver := 5) (v2 := um + 1 + j) (by decide) (by decide) (by have := HUM.out; have := HJL.out; omega) (by have := HUM.out; omega) o f).2)
  have HFS : Hid (fm.size ≤ 10000) := zh (by rw [Lib.size_eq, HE.out.2.1]; exact (few_MR (mOf_right HAN.out (n := 1) (ver := 5) (by decide) (by decide)) (by show (5 : Nat) < _; decide)).1.2.1)
  have hme : (⟨⟨om.data.toList, fm.data.toList, (mOf r 1 5).r.ep, (mOf r 1 5).r.rs, (mOf r 1 5).r.ws⟩, um + 1 + j, (mOf r 1 5).vf, (mOf r 1 5).bs, gm.data.toList⟩ : Mt) = { mOf r 1 5 with ver := um + 1 + j } := by rw [HE.out.1, HE.out.2.1, HE.out.2.2]
  have HFW : Hid (FewM { mOf r 1 5 with ver := um + 1 + j }) := zh (few_MR HQ.out.1 (by show um + 1 + j < _; have := HUM.out; have := HJL.out; omega))
  have hst := And.intro (mx_ver HXt.out (um + 1 + j)) (isM_cell (i := 5) (z := .int .u64 ((um + 1 + j : Nat) : Int)) (o' := om) (f' := fm) (g' := gm) (u' := um + 1 + j) HIt.out (fun b h e => h (by rw [e]; exact List.mem_cons_self ..)) rfl)
  rw [hme] at hst; have HSt := zh hst
  have hbt : Below w.heap.size w (wd.setCell ⟨Gm, 5, none⟩ (.int .u64 ((um + 1 + j : Nat) : Int))) := HBt.out.setCell HGN.out _
  have HBt := zh hbt; rw [show (um : Int) + 1 + (j : Int) = ((um + 1 + j : Nat) : Int) by omega]; clear hst hbt hme
  generalize wd.setCell ⟨Gm, 5, none⟩ (.int .u64 ((um + 1 + j : Nat) : Int)) = wt at HSt HBt ⊢
  have HRG : Hid (∀ W, IsM AnyB W (.agg #[.string om, .string fm, .int .i64 pm, .slice Am rsm.length cm, .slice Bm wsm.length dm, .int .u64 ((um + 1 + j : Nat) : Int), .slice Vm vsm.length xm, .slice Km ksm.length ym, .string gm]) { mOf r 1 5 with ver := um + 1 + j } → Calls Tryz.prog 32 #[.agg #[.string om, .string fm, .int .i64 pm, .slice Am rsm.length cm, .slice Bm wsm.length dm, .int .u64 ((um + 1 + j : Nat) : Int), .slice Vm vsm.length xm, .slice Km ksm.length ym, .string gm]] W fun e w' => e = .returned (.bool true) ∧ Below W.heap.size W w') := zh fun W h => by
   have h2 := MR _ _ W h HFW.out
   rw [decide_eq_true HQ.out.1] at h2
   exact h2
  obtain ⟨PA, hPA⟩ : ∃ p : ByteArray, p = ⟨⟨pubU annaT⟩⟩ := ⟨_, rfl⟩
  have HPB : Hid (∀ W, Calls Tryz.prog 36 #[.string ⟨#[97, 110, 110, 97]⟩] W fun e w' => e = .returned (.string PA) ∧ Below W.heap.size W w') := zh fun W => (publicOf_any annaB W (by decide)).mono fun e w' h => by
   obtain ⟨⟨T, hl, he⟩, hb⟩ := h
   exact ⟨by rw [he, hPA]; congr 2; exact str_eq hl, hb⟩
  have HCK : Hid (∀ W, IsM AnyB W (.agg #[.string om, .string fm, .int .i64 pm, .slice Am rsm.length cm, .slice Bm wsm.length dm, .int .u64 ((um + 1 + j : Nat) : Int), .slice Vm vsm.length xm, .slice Km ksm.length ym, .string gm]) { mOf r 1 5 with ver := um + 1 + j } → Calls Tryz.prog 34 #[.agg #[.string om, .string fm, .int .i64 pm, .slice Am rsm.length cm, .slice Bm wsm.length dm, .int .u64 ((um + 1 + j : Nat) : Int), .slice Vm vsm.length xm, .slice Km ksm.length ym, .string gm], .string PA, .string ⟨#[97, 110, 110, 97]⟩, .string fm] W fun e w' => e = .returned (.int .i64 7) ∧ Below W.heap.size W w') := zh fun W h => by
   have h3 : PA.size ≤ 10000 := by rw [hPA]; decide +kernel
   refine check_to MC ?_ HFW.out h3 (by decide) HFS.out W h
   rw [hPA]
   exact HQ.out.2 _ _
  clear hPA
  have hdr := HSt.out.2.below (Below.drewN' (Below.refl wt.heap.size wt) 1) zl
  refine Ord.region_lit (S := fun w' => Below wt.heap.size wt w' ∧ Mx Gm w' om fm pm Am rsm.length cm Bm wsm.length dm (um + 1 + j) Vm vsm.length xm Km ksm.length ym gm ∧ IsM AnyB w' (.agg #[.string om, .string fm, .int .i64 pm, .slice Am rsm.length cm, .slice Bm wsm.length dm, .int .u64 ((um + 1 + j : Nat) : Int), .slice Vm vsm.length xm, .slice Km ksm.length ym, .string gm]) { mOf r 1 5 with ver := um + 1 + j }) (by kernel_rfl) (by kernel_rfl) ⟨Below.drewN' (Below.refl wt.heap.size wt) 1, HSt.out.1.call (Below.drewN' (Below.refl wt.heap.size wt) 1), hdr⟩ ?_; clear hdr; refine Ord.stepR (v := ?_) (by rfl) ?_ ?_; rotate_left
  · intro w' hSw; obtain ⟨_, ⟨⟨q0, q1, q2, q3, q4, q5, q6, q7, q8⟩, _⟩, _⟩ := hSw; go_simp; try with_reducible rfl
  (try simp only [Act.put, zq1, zq2, zq3]); refine Ord.stepC (v := .bool true) (by rfl) ?_ (fun w1 hS => (HRG.out w1 hS.2.2).mono fun e w2 h => ⟨h.1, hS.1.trans (h.2.mono hS.1.size), hS.2.1.call h.2, hS.2.2.below h.2 zl⟩) ?_
  · intro w' hSw; go_simp; try with_reducible rfl
  (try simp only [Act.put, zq1, zq2, zq3]); refine Ord.stepR (v := ?_) (by rfl) ?_ ?_; rotate_left
  · intro w' hSw; obtain ⟨_, ⟨⟨q0, q1, q2, q3, q4, q5, q6, q7, q8⟩, _⟩, _⟩ := hSw; go_simp; try with_reducible rfl
  (try simp only [Act.put, zq1, zq2, zq3]); refine Ord.stepR (v := ?_) (by rfl) ?_ ?_; rotate_left
  · intro w' hSw; obtain ⟨_, ⟨⟨q0, q1, q2, q3, q4, q5, q6, q7, q8⟩, _⟩, _⟩ := hSw; go_simp; try with_reducible rfl
  (try simp only [Act.put, zq1, zq2, zq3]); refine Ord.stepC (v := .string PA) (by rfl) ?_ (fun w1 hS => (HPB.out w1).mono fun e w2 h => ⟨h.1, hS.1.trans (h.2.mono hS.1.size), hS.2.1.call h.2, hS.2.2.below h.2 zl⟩) ?_
  · intro w' hSw; go_simp; try with_reducible rfl
  (try simp only [Act.put, zq1, zq2, zq3]); refine Ord.stepR (v := ?_) (by rfl) ?_ ?_; rotate_left
  · intro w' hSw; obtain ⟨_, ⟨⟨q0, q1, q2, q3, q4, q5, q6, q7, q8⟩, _⟩, _⟩ := hSw; go_simp; try with_reducible rfl
  (try simp only [Act.put, zq1, zq2, zq3]); refine Ord.stepR (v := ?_) (by rfl) ?_ ?_; rotate_left
  · intro w' hSw; obtain ⟨_, ⟨⟨q0, q1, q2, q3, q4, q5, q6, q7, q8⟩, _⟩, _⟩ := hSw; go_simp; try with_reducible rfl
  (try simp only [Act.put, zq1, zq2, zq3]); refine Ord.stepR (v := ?_) (by rfl) ?_ ?_; rotate_left
  · intro w' hSw; obtain ⟨_, ⟨⟨q0, q1, q2, q3, q4, q5, q6, q7, q8⟩, _⟩, _⟩ := hSw; go_simp; try with_reducible rfl
  (try simp only [Act.put, zq1, zq2, zq3]); refine Ord.stepC (v := .int .i64 7) (by rfl) ?_ (fun w1 hS => (HCK.out w1 hS.2.2).mono fun e w2 h => ⟨h.1, hS.1.trans (h.2.mono hS.1.size), hS.2.1.call h.2, hS.2.2.below h.2 zl⟩) ?_
  · intro w' hSw; go_simp; try with_reducible rfl
  (try simp only [Act.put, zq1, zq2, zq3]); refine Ord.stepR (v := ?_) (by rfl) ?_ ?_; rotate_left
  · intro w' hSw; obtain ⟨_, ⟨⟨q0, q1, q2, q3, q4, q5, q6, q7, q8⟩, _⟩, _⟩ := hSw; go_simp; try with_reducible rfl
  (try simp only [Act.put, zq1, zq2, zq3]); refine Ord.stepR (v := ?_) (by rfl) ?_ ?_; rotate_left
  · intro w' hSw; obtain ⟨_, ⟨⟨q0, q1, q2, q3, q4, q5, q6, q7, q8⟩, _⟩, _⟩ := hSw; go_simp; try with_reducible rfl
  (try simp only [Act.put, zq1, zq2, zq3]); refine Ord.stepR (v := ?_) (by rfl) ?_ ?_; rotate_left
  · intro w' hSw; obtain ⟨_, ⟨⟨q0, q1, q2, q3, q4, q5, q6, q7, q8⟩, _⟩, _⟩ := hSw; go_simp; try with_reducible rfl
  (try simp only [Act.put, zq1, zq2, zq3]); refine Ord.stepD ?_; rintro w9 ⟨hb9, _, _⟩; have HB9 := zh (Bel.call HBt.out hb9); clear hb9
  go_wp2
  go_ret
  exact ⟨rfl, HB9.out⟩
 ·
  have HWH := zh fun W => who_any at0 W ht0
  obtain ⟨j, hj⟩ : ∃ j, Rig.pk at0 8 = j := ⟨_, rfl⟩
  have hj8 := Rig.pk_lt at0 (n := 8) (by decide)
  rw [hj] at HWH hj8; have HJ8 := zh hj8; obtain ⟨U, hU⟩ : ∃ U, whoN j = U := ⟨_, rfl⟩; rw [hU] at HWH; have HU := zh hU; clear hj hj8 hU
  go_wp2_with fail
  (with_reducible refine (HWH.out _).mono ?_); rintro e5 w5 ⟨rfl, hb5⟩; have HBQ := zh hb5; have HBt := zh (Bel.call HB.out hb5); have HXt := zh (HXm.out.call hb5); have HIt := zh (HIm.out.below hb5 zl); have HPt := zh (HPm.out.below hb5); clear hb5; dsimp only; obtain ⟨z0, z1, z2, z3, z4, z5, z6, z7, z8⟩ := HFm.out.below HBQ.out HXm.out.2; obtain ⟨⟨y0, y1, y2, y3, y4, y5, y6, y7, y8⟩, _⟩ := HXt.out
  go_wp2_with fail
  clear z0 z1 z2 z3 z4 z5 z6 z7 z8 y0 y1 y2 y3 y4 y5 y6 y7 y8; obtain ⟨e1, e2, e3, e4, e5, _⟩ := isM_parts HIt.out.any; have HQ := zh (And.intro (other_file HAN.out (n := 1) (ver := 5) (by decide) (by decide) (who_right HJ8.out) (who_notes HJ8.out) [] []).1 fun o f => (other_file HAN.out (n := 1) (ver := 5) (by decide) (by decide) (who_right HJ8.out) (who_notes HJ8.out) o f).2); rw [HU.out] at HQ
  have HFS : Hid (U.size ≤ 10000) := zh (by have := who_size j; rw [HU.out] at this; omega)
  have hme : (⟨⟨om.data.toList, U.data.toList, (mOf r 1 5).r.ep, (mOf r 1 5).r.rs, (mOf r 1 5).r.ws⟩, um, (mOf r 1 5).vf, (mOf r 1 5).bs, gm.data.toList⟩ : Mt) = { mOf r 1 5 with r := { r with f := U.data.toList } } := by rw [e1, e4, e5]; rfl
  have HFW : Hid (FewM { mOf r 1 5 with r := { r with f := U.data.toList } }) := zh (few_MR HQ.out.1 (by show (5 : Nat) < _; decide))
  have hst := And.intro (mx_file HXt.out U) (isM_cell (i := 1) (z := .string U) (o' := om) (f' := U) (g' := gm) (u' := um) HIt.out (fun b h e => h (by rw [e]; exact List.mem_cons_self ..)) rfl)
  rw [hme] at hst; have HSt := zh hst
  have hbt : Below w.heap.size w (w5.setCell ⟨Gm, 1, none⟩ (.string U)) := HBt.out.setCell HGN.out _
  have HBt := zh hbt; clear hst hbt hme e1 e2 e3 e4 e5
  generalize w5.setCell ⟨Gm, 1, none⟩ (.string U) = wt at HSt HBt ⊢
  have HRG : Hid (∀ W, IsM AnyB W (.agg #[.string om, .string U, .int .i64 pm, .slice Am rsm.length cm, .slice Bm wsm.length dm, .int .u64 (um : Int), .slice Vm vsm.length xm, .slice Km ksm.length ym, .string gm]) { mOf r 1 5 with r := { r with f := U.data.toList } } → Calls Tryz.prog 32 #[.agg #[.string om, .string U, .int .i64 pm, .slice Am rsm.length cm, .slice Bm wsm.length dm, .int .u64 (um : Int), .slice Vm vsm.length xm, .slice Km ksm.length ym, .string gm]] W fun e w' => e = .returned (.bool true) ∧ Below W.heap.size W w') := zh fun W h => by
   have h2 := MR _ _ W h HFW.out
   rw [decide_eq_true HQ.out.1] at h2
   exact h2
  obtain ⟨PA, hPA⟩ : ∃ p : ByteArray, p = ⟨⟨pubU annaT⟩⟩ := ⟨_, rfl⟩
  have HPB : Hid (∀ W, Calls Tryz.prog 36 #[.string ⟨#[97, 110, 110, 97]⟩] W fun e w' => e = .returned (.string PA) ∧ Below W.heap.size W w') := zh fun W => (publicOf_any annaB W (by decide)).mono fun e w' h => by
   obtain ⟨⟨T, hl, he⟩, hb⟩ := h
   exact ⟨by rw [he, hPA]; congr 2; exact str_eq hl, hb⟩
  have HCK : Hid (∀ W, IsM AnyB W (.agg #[.string om, .string U, .int .i64 pm, .slice Am rsm.length cm, .slice Bm wsm.length dm, .int .u64 (um : Int), .slice Vm vsm.length xm, .slice Km ksm.length ym, .string gm]) { mOf r 1 5 with r := { r with f := U.data.toList } } → Calls Tryz.prog 34 #[.agg #[.string om, .string U, .int .i64 pm, .slice Am rsm.length cm, .slice Bm wsm.length dm, .int .u64 (um : Int), .slice Vm vsm.length xm, .slice Km ksm.length ym, .string gm], .string PA, .string ⟨#[97, 110, 110, 97]⟩, .string U] W fun e w' => e = .returned (.int .i64 7) ∧ Below W.heap.size W w') := zh fun W h => by
   have h3 : PA.size ≤ 10000 := by rw [hPA]; decide +kernel
   refine check_to MC ?_ HFW.out h3 (by decide) HFS.out W h
   rw [hPA]
   exact HQ.out.2 _ _
  clear hPA
  have hdr := HSt.out.2.below (Below.drewN' (Below.refl wt.heap.size wt) 1) zl
  refine Ord.region_lit (S := fun w' => Below wt.heap.size wt w' ∧ Mx Gm w' om U pm Am rsm.length cm Bm wsm.length dm um Vm vsm.length xm Km ksm.length ym gm ∧ IsM AnyB w' (.agg #[.string om, .string U, .int .i64 pm, .slice Am rsm.length cm, .slice Bm wsm.length dm, .int .u64 (um : Int), .slice Vm vsm.length xm, .slice Km ksm.length ym, .string gm]) { mOf r 1 5 with r := { r with f := U.data.toList } }) (by kernel_rfl) (by kernel_rfl) ⟨Below.drewN' (Below.refl wt.heap.size wt) 1, HSt.out.1.call (Below.drewN' (Below.refl wt.heap.size wt) 1), hdr⟩ ?_; clear hdr; refine Ord.stepR (v := ?_) (by rfl) ?_ ?_; rotate_left
  · intro w' hSw; obtain ⟨_, ⟨⟨q0, q1, q2, q3, q4, q5, q6, q7, q8⟩, _⟩, _⟩ := hSw; go_simp; try with_reducible rfl
  (try simp only [Act.put, zq1, zq2, zq3]); refine Ord.stepC (v := .bool true) (by rfl) ?_ (fun w1 hS => (HRG.out w1 hS.2.2).mono fun e w2 h => ⟨h.1, hS.1.trans (h.2.mono hS.1.size), hS.2.1.call h.2, hS.2.2.below h.2 zl⟩) ?_
  · intro w' hSw; go_simp; try with_reducible rfl
  (try simp only [Act.put, zq1, zq2, zq3]); refine Ord.stepR (v := ?_) (by rfl) ?_ ?_; rotate_left
  · intro w' hSw; obtain ⟨_, ⟨⟨q0, q1, q2, q3, q4, q5, q6, q7, q8⟩, _⟩, _⟩ := hSw; go_simp; try with_reducible rfl
  (try simp only [Act.put, zq1, zq2, zq3]); refine Ord.stepR (v := ?_) (by rfl) ?_ ?_; rotate_left
  · intro w' hSw; obtain ⟨_, ⟨⟨q0, q1, q2, q3, q4, q5, q6, q7, q8⟩, _⟩, _⟩ := hSw; go_simp; try with_reducible rfl
  (try simp only [Act.put, zq1, zq2, zq3]); refine Ord.stepC (v := .string PA) (by rfl) ?_ (fun w1 hS => (HPB.out w1).mono fun e w2 h => ⟨h.1, hS.1.trans (h.2.mono hS.1.size), hS.2.1.call h.2, hS.2.2.below h.2 zl⟩) ?_
  · intro w' hSw; go_simp; try with_reducible rfl
  (try simp only [Act.put, zq1, zq2, zq3]); refine Ord.stepR (v := ?_) (by rfl) ?_ ?_; rotate_left
  · intro w' hSw; obtain ⟨_, ⟨⟨q0, q1, q2, q3, q4, q5, q6, q7, q8⟩, _⟩, _⟩ := hSw; go_simp; try with_reducible rfl
  (try simp only [Act.put, zq1, zq2, zq3]); refine Ord.stepR (v := ?_) (by rfl) ?_ ?_; rotate_left
  · intro w' hSw; obtain ⟨_, ⟨⟨q0, q1, q2, q3, q4, q5, q6, q7, q8⟩, _⟩, _⟩ := hSw; go_simp; try with_reducible rfl
  (try simp only [Act.put, zq1, zq2, zq3]); refine Ord.stepR (v := ?_) (by rfl) ?_ ?_; rotate_left
  · intro w' hSw; obtain ⟨_, ⟨⟨q0, q1, q2, q3, q4, q5, q6, q7, q8⟩, _⟩, _⟩ := hSw; go_simp; try with_reducible rfl
  (try simp only [Act.put, zq1, zq2, zq3]); refine Ord.stepC (v := .int .i64 7) (by rfl) ?_ (fun w1 hS => (HCK.out w1 hS.2.2).mono fun e w2 h => ⟨h.1, hS.1.trans (h.2.mono hS.1.size), hS.2.1.call h.2, hS.2.2.below h.2 zl⟩) ?_
  · intro w' hSw; go_simp; try with_reducible rfl
  (try simp only [Act.put, zq1, zq2, zq3]); refine Ord.stepR (v := ?_) (by rfl) ?_ ?_; rotate_left
  · intro w' hSw; obtain ⟨_, ⟨⟨q0, q1, q2, q3, q4, q5, q6, q7, q8⟩, _⟩, _⟩ := hSw; go_simp; try with_reducible rfl
  (try simp only [Act.put, zq1, zq2, zq3]); refine Ord.stepR (v := ?_) (by rfl) ?_ ?_; rotate_left
  · intro w' hSw; obtain ⟨_, ⟨⟨q0, q1, q2, q3, q4, q5, q6, q7, q8⟩, _⟩, _⟩ := hSw; go_simp; try with_reducible rfl
  (try simp only [Act.put, zq1, zq2, zq3]); refine Ord.stepR (v := ?_) (by rfl) ?_ ?_; rotate_left
  · intro w' hSw; obtain ⟨_, ⟨⟨q0, q1, q2, q3, q4, q5, q6, q7, q8⟩, _⟩, _⟩ := hSw; go_simp; try with_reducible rfl
  (try simp only [Act.put, zq1, zq2, zq3]); refine Ord.stepD ?_; rintro w9 ⟨hb9, _, _⟩; have HB9 := zh (Bel.call HBt.out hb9); clear hb9
  go_wp2
  go_ret
  exact ⟨rfl, HB9.out⟩
 ·
  obtain ⟨e1, e2, e3, e4, e5, vv, _, hvv, hvb, hvr, _⟩ := isM_parts HIm.out.any
  have hep7 := (ann_ep HAN.out).1
  have hvp : 0 < vsm.length := by rw [HVL.out]; omega
  obtain ⟨bv, ov, hVe, hbv, _⟩ := hvr 0 (by omega)
  subst hVe
  have HE := zh (And.intro e1 (And.intro e2 e5)); have HVB := zh (And.intro hvv hvb)
  have hvm : vsm.length ≤ 9223372036854775807 := by rw [HVL.out]; omega
  clear hep7
  have HPA : Hid (∀ W, Calls Tryz.prog 12 #[.int .i64 at0, .int .i64 (vsm.length : Int)] W fun e w' => e = .returned (.int .i64 (Rig.pk at0 vsm.length : Int)) ∧ w' = W) := zh fun W => pick7_any at0 vsm.length W ht0 hvp hvm
  have hjl := Rig.pk_lt at0 (n := vsm.length) hvp
  obtain ⟨j, hj⟩ : ∃ j, Rig.pk at0 vsm.length = j := ⟨_, rfl⟩; rw [hj] at HPA hjl
  have hjI : (j : Int) < (vsm.length : Int) := by omega
  have hj0 : (0 : Int) ≤ (j : Int) := by omega
  have HPZ := zh fun W => publicOf_any ⟨#[122, 111, 101]⟩ W (by decide)
  clear hj e1 e2 e3 e4 e5 hvv hvb hvr hbv hvp hvm
  go_wp2_with fail
  have hdr : Below wq.heap.size wq wq.drew := Below.drewN' (Below.refl wq.heap.size wq) 1
  have HBt := zh (Bel.call HB.out hdr); have HXt := zh (HXm.out.call hdr); have HIt := zh (HIm.out.below hdr zl); have HPt := zh (HPm.out.below hdr)
  refine wp_region_held_drew (S := fun w' => Mx Gm w' om fm pm Am rsm.length cm Bm wsm.length dm um (some ⟨bv, ov, none⟩) vsm.length xm Km ksm.length ym gm) (by kernel_rfl) HXt.out (fun hHeld => ?_)
  clear hdr; obtain ⟨wd, hwd⟩ : ∃ W, wq.drew = W := ⟨_, rfl⟩; rw [hwd] at hHeld HBt HXt HIt HPt ⊢; clear hwd; refine zqT 0 ?_ ?_ ?_; rotate_left
  · intro w' hSw; obtain ⟨⟨y0, y1, y2, y3, y4, y5, y6, y7, y8⟩, _⟩ := hSw; go_simp; try with_reducible rfl
  (try simp only [Act.put, zq1, zq2, zq3]); refine zqT 1 ?_ ?_ ?_; rotate_left
  · intro w' hSw; obtain ⟨⟨y0, y1, y2, y3, y4, y5, y6, y7, y8⟩, _⟩ := hSw; go_simp; try with_reducible rfl
  (try simp only [Act.put, zq1, zq2, zq3]); refine zqT 2 ?_ ?_ ?_; rotate_left
  · intro w' hSw; obtain ⟨⟨y0, y1, y2, y3, y4, y5, y6, y7, y8⟩, _⟩ := hSw; go_simp; try with_reducible rfl
  (try simp only [Act.put, zq1, zq2, zq3]); refine zqT 3 ?_ ?_ ?_; rotate_left
  · intro w' hSw; obtain ⟨⟨y0, y1, y2, y3, y4, y5, y6, y7, y8⟩, _⟩ := hSw; go_simp; try with_reducible rfl
  (try simp only [Act.put, zq1, zq2, zq3]); refine zqT 4 ?_ ?_ ?_; rotate_left
  · intro w' hSw; obtain ⟨⟨y0, y1, y2, y3, y4, y5, y6, y7, y8⟩, _⟩ := hSw; go_simp; try with_reducible rfl
  (try simp only [Act.put, zq1, zq2, zq3]); refine zqT 5 ?_ ?_ ?_; rotate_left
  · intro w' hSw; obtain ⟨⟨y0, y1, y2, y3, y4, y5, y6, y7, y8⟩, _⟩ := hSw; go_simp; try with_reducible rfl
  (try simp only [Act.put, zq1, zq2, zq3]); clear hHeld; refine zqR [6] ?_
  refine zqN fun K hK => ?_
  go_simp
  go_at_call 12
  (with_reducible refine (HPA.out _).mono ?_); rintro _ wd ⟨rfl, rfl⟩; dsimp only; refine hK.out _ _ HXt.out (fun hHeld => ?_); (try simp only [Act.put, zq1, zq2, zq3]); clear hHeld; refine zqR [7] ?_
  refine zqN fun K hK => ?_
  go_simp
  go_at_call 36
  (with_reducible refine (HPZ.out _).mono ?_); rintro e5 w5 ⟨⟨P, hP, rfl⟩, hb5⟩; have HP := zh hP; have HBt := zh (Bel.call HBt.out hb5); have HXt := zh (HXt.out.call hb5); have HIt := zh (HIt.out.below hb5 zl); have HPt := zh (HPt.out.below hb5); clear hb5 hP; dsimp only; refine hK.out _ _ HXt.out (fun hHeld => ?_); (try simp only [Act.put, zq1, zq2, zq3]); refine zqT 8 ?_ ?_ ?_; rotate_left
  · intro w' hSw; obtain ⟨⟨y0, y1, y2, y3, y4, y5, y6, y7, y8⟩, _⟩ := hSw; go_simp; try with_reducible rfl
  (try simp only [Act.put, zq1, zq2, zq3]); obtain ⟨_, _, _, _, _, v2, _, hv2, hv3, hvr, _⟩ := isM_parts HIt.out.any; obtain ⟨bv2, ov2, hVe, hbv, hcv⟩ := hvr j (by omega)
  injection hVe with hVe
  injection hVe with hVa hVb _
  subst hVa; subst hVb
  obtain ⟨hq1, hq2, hqA, hqB, hqK⟩ := (HPt.out om fm gm pm um Am rsm.length cm Bm wsm.length dm (some ⟨bv, ov, none⟩) vsm.length xm Km ksm.length ym rfl).1 bv ov rfl (by omega)
  have hfz := hq2 (ov + j)
  have HGV : Hid (Gm ≠ bv) := zh fun e => by
   obtain ⟨oo, ff, sg, A2, c2, rs2, B2, d2, ws2, V2, cv2, vs2, K2, ck2, ks2, h1, h2, h3, h4, h5, h6, h7, h8, h9, h10, k1, k2, k3, k4⟩ := HIt.out
   simp only [Value.agg.injEq, Array.mk.injEq, List.cons.injEq, Value.string.injEq, Value.int.injEq, Value.slice.injEq, true_and, and_true] at h1
   obtain ⟨_, _, _, _, _, _, ⟨hV, hn, _⟩, _⟩ := h1
   exact k3 bv ov hV.symm (by omega) (by rw [e]; simp)
  have hbn : w.heap.size ≤ bv := by
   obtain ⟨oo, ff, sg, A2, c2, rs2, B2, d2, ws2, V2, cv2, vs2, K2, ck2, ks2, h1, h2, h3, h4, h5, h6, h7, h8, h9, h10, k1, k2, k3, k4⟩ := HIt.out
   simp only [Value.agg.injEq, Array.mk.injEq, List.cons.injEq, Value.string.injEq, Value.int.injEq, Value.slice.injEq, true_and, and_true] at h1
   obtain ⟨_, _, _, _, _, _, ⟨hV, hn, _⟩, _⟩ := h1
   have hk := k3 bv ov hV.symm (by omega)
   exact Nat.le_of_not_lt fun hlt => hk (List.mem_cons_of_mem _ (List.mem_range.2 hlt))
  have HBN := zh hbn; clear hbn; clear hHeld; refine zqR [9] ?_
  refine zqN fun K hK => ?_
  go_simp; refine hK.out _ _ (mx_out HXt.out HGV.out) (fun hHeld => ?_); (try simp only [Act.put, zq1, zq2, zq3]); clear hHeld
  refine wpAnyH_done (by kernel_rfl) ?_ _
  clear hcv hfz hq1 hq2 hqA hqB hqK hbv hvr hv2 hv3 hjI hj0
  go_wp2_with fail
  have HPZZ : Hid (P.data.toList = pubU zoeT) := zh HP.out
  have hvl : j < (vfOf r).length := by rw [show (vfOf r).length = vsm.length by rw [HVL.out]; simp [vfOf]]; exact hjl
  have HQ := zh (And.intro (other_vf HAN.out (n := 1) (ver := 5) (by decide) (by decide) hvl [] []).1 fun o f => (other_vf HAN.out (n := 1) (ver := 5) (by decide) (by decide) hvl o f).2)
  have HFS : Hid (fm.size ≤ 10000) := zh (by rw [Lib.size_eq, HE.out.2.1]; exact (few_MR (mOf_right HAN.out (n := 1) (ver := 5) (by decide) (by decide)) (by show (5 : Nat) < _; decide)).1.2.1)
  have HFW : Hid (FewM { mOf r 1 5 with vf := (vfOf r).set j (pubU zoeT) }) := zh (few_MR HQ.out.1 (by show (5 : Nat) < _; decide))
  have hst := And.intro (mx_out (G := bv) (j := ov + j) (v := .string P) HXt.out HGV.out) (isM_vf P HIt.out.any HPt.out hjl)
  rw [HPZZ.out] at hst
  have HSt : Hid (_ ∧ IsM AnyB _ _ { mOf r 1 5 with vf := (vfOf r).set j (pubU zoeT) }) := zh hst
  have hbt : Below w.heap.size w (w5.setCell ⟨bv, ov + j, none⟩ (.string P)) := HBt.out.setCell HBN.out _
  have HBt := zh hbt; clear hst hbt hvl
  generalize w5.setCell ⟨bv, ov + j, none⟩ (.string P) = wt at HSt HBt ⊢
  have HRG : Hid (∀ W, IsM AnyB W (.agg #[.string om, .string fm, .int .i64 pm, .slice Am rsm.length cm, .slice Bm wsm.length dm, .int .u64 (um : Int), .slice (some ⟨bv, ov, none⟩) vsm.length xm, .slice Km ksm.length ym, .string gm]) { mOf r 1 5 with vf := (vfOf r).set j (pubU zoeT) } → Calls Tryz.prog 32 #[.agg #[.string om, .string fm, .int .i64 pm, .slice Am rsm.length cm, .slice Bm wsm.length dm, .int .u64 (um : Int), .slice (some ⟨bv, ov, none⟩) vsm.length xm, .slice Km ksm.length ym, .string gm]] W fun e w' => e = .returned (.bool true) ∧ Below W.heap.size W w') := zh fun W h => by
   have h2 := MR _ _ W h HFW.out
   rw [decide_eq_true HQ.out.1] at h2
   exact h2
  obtain ⟨PA, hPA⟩ : ∃ p : ByteArray, p = ⟨⟨pubU annaT⟩⟩ := ⟨_, rfl⟩
  have HPB : Hid (∀ W, Calls Tryz.prog 36 #[.string ⟨#[97, 110, 110, 97]⟩] W fun e w' => e = .returned (.string PA) ∧ Below W.heap.size W w') := zh fun W => (publicOf_any annaB W (by decide)).mono fun e w' h => by
   obtain ⟨⟨T, hl, he⟩, hb⟩ := h
   exact ⟨by rw [he, hPA]; congr 2; exact str_eq hl, hb⟩
  have HCK : Hid (∀ W, IsM AnyB W (.agg #[.string om, .string fm, .int .i64 pm, .slice Am rsm.length cm, .slice Bm wsm.length dm, .int .u64 (um : Int), .slice (some ⟨bv, ov, none⟩) vsm.length xm, .slice Km ksm.length ym, .string gm]) { mOf r 1 5 with vf := (vfOf r).set j (pubU zoeT) } → Calls Tryz.prog 34 #[.agg #[.string om, .string fm, .int .i64 pm, .slice Am rsm.length cm, .slice Bm wsm.length dm, .int .u64 (um : Int), .slice (some ⟨bv, ov, none⟩) vsm.length xm, .slice Km ksm.length ym, .string gm], .string PA, .string ⟨#[97, 110, 110, 97]⟩, .string fm] W fun e w' => e = .returned (.int .i64 7) ∧ Below W.heap.size W w') := zh fun W h => by
   have h3 : PA.size ≤ 10000 := by rw [hPA]; decide +kernel
   refine check_to MC ?_ HFW.out h3 (by decide) HFS.out W h
   rw [hPA]
   exact HQ.out.2 _ _
  clear hPA
  have hdr := HSt.out.2.below (Below.drewN' (Below.refl wt.heap.size wt) 1) zl
  refine Ord.region_lit (S := fun w' => Below wt.heap.size wt w' ∧ Mx Gm w' om fm pm Am rsm.length cm Bm wsm.length dm um (some ⟨bv, ov, none⟩) vsm.length xm Km ksm.length ym gm ∧ IsM AnyB w' (.agg #[.string om, .string fm, .int .i64 pm, .slice Am rsm.length cm, .slice Bm wsm.length dm, .int .u64 (um : Int), .slice (some ⟨bv, ov, none⟩) vsm.length xm, .slice Km ksm.length ym, .string gm]) { mOf r 1 5 with vf := (vfOf r).set j (pubU zoeT) }) (by kernel_rfl) (by kernel_rfl) ⟨Below.drewN' (Below.refl wt.heap.size wt) 1, HSt.out.1.call (Below.drewN' (Below.refl wt.heap.size wt) 1), hdr⟩ ?_; clear hdr; refine Ord.stepR (v := ?_) (by rfl) ?_ ?_; rotate_left
  · intro w' hSw; obtain ⟨_, ⟨⟨q0, q1, q2, q3, q4, q5, q6, q7, q8⟩, _⟩, _⟩ := hSw; go_simp; try with_reducible rfl
  (try simp only [Act.put, zq1, zq2, zq3]); refine Ord.stepC (v := .bool true) (by rfl) ?_ (fun w1 hS => (HRG.out w1 hS.2.2).mono fun e w2 h => ⟨h.1, hS.1.trans (h.2.mono hS.1.size), hS.2.1.call h.2, hS.2.2.below h.2 zl⟩) ?_
  · intro w' hSw; go_simp; try with_reducible rfl
  (try simp only [Act.put, zq1, zq2, zq3]); refine Ord.stepR (v := ?_) (by rfl) ?_ ?_; rotate_left
  · intro w' hSw; obtain ⟨_, ⟨⟨q0, q1, q2, q3, q4, q5, q6, q7, q8⟩, _⟩, _⟩ := hSw; go_simp; try with_reducible rfl
  (try simp only [Act.put, zq1, zq2, zq3]); refine Ord.stepR (v := ?_) (by rfl) ?_ ?_; rotate_left
  · intro w' hSw; obtain ⟨_, ⟨⟨q0, q1, q2, q3, q4, q5, q6, q7, q8⟩, _⟩, _⟩ := hSw; go_simp; try with_reducible rfl
  (try simp only [Act.put, zq1, zq2, zq3]); refine Ord.stepC (v := .string PA) (by rfl) ?_ (fun w1 hS => (HPB.out w1).mono fun e w2 h => ⟨h.1, hS.1.trans (h.2.mono hS.1.size), hS.2.1.call h.2, hS.2.2.below h.2 zl⟩) ?_
  · intro w' hSw; go_simp; try with_reducible rfl
  (try simp only [Act.put, zq1, zq2, zq3]); refine Ord.stepR (v := ?_) (by rfl) ?_ ?_; rotate_left
  · intro w' hSw; obtain ⟨_, ⟨⟨q0, q1, q2, q3, q4, q5, q6, q7, q8⟩, _⟩, _⟩ := hSw; go_simp; try with_reducible rfl
  (try simp only [Act.put, zq1, zq2, zq3]); refine Ord.stepR (v := ?_) (by rfl) ?_ ?_; rotate_left
  · intro w' hSw; obtain ⟨_, ⟨⟨q0, q1, q2, q3, q4, q5, q6, q7, q8⟩, _⟩, _⟩ := hSw; go_simp; try with_reducible rfl
  (try simp only [Act.put, zq1, zq2, zq3]); refine Ord.stepR (v := ?_) (by rfl) ?_ ?_; rotate_left
  · intro w' hSw; obtain ⟨_, ⟨⟨q0, q1, q2, q3, q4, q5, q6, q7, q8⟩, _⟩, _⟩ := hSw; go_simp; try with_reducible rfl
  (try simp only [Act.put, zq1, zq2, zq3]); refine Ord.stepC (v := .int .i64 7) (by rfl) ?_ (fun w1 hS => (HCK.out w1 hS.2.2).mono fun e w2 h => ⟨h.1, hS.1.trans (h.2.mono hS.1.size), hS.2.1.call h.2, hS.2.2.below h.2 zl⟩) ?_
  · intro w' hSw; go_simp; try with_reducible rfl
  (try simp only [Act.put, zq1, zq2, zq3]); refine Ord.stepR (v := ?_) (by rfl) ?_ ?_; rotate_left
  · intro w' hSw; obtain ⟨_, ⟨⟨q0, q1, q2, q3, q4, q5, q6, q7, q8⟩, _⟩, _⟩ := hSw; go_simp; try with_reducible rfl
  (try simp only [Act.put, zq1, zq2, zq3]); refine Ord.stepR (v := ?_) (by rfl) ?_ ?_; rotate_left
  · intro w' hSw; obtain ⟨_, ⟨⟨q0, q1, q2, q3, q4, q5, q6, q7, q8⟩, _⟩, _⟩ := hSw; go_simp; try with_reducible rfl
  (try simp only [Act.put, zq1, zq2, zq3]); refine Ord.stepR (v := ?_) (by rfl) ?_ ?_; rotate_left
  · intro w' hSw; obtain ⟨_, ⟨⟨q0, q1, q2, q3, q4, q5, q6, q7, q8⟩, _⟩, _⟩ := hSw; go_simp; try with_reducible rfl
  (try simp only [Act.put, zq1, zq2, zq3]); refine Ord.stepD ?_; rintro w9 ⟨hb9, _, _⟩; have HB9 := zh (Bel.call HBt.out hb9); clear hb9
  go_wp2
  go_ret
  exact ⟨rfl, HB9.out⟩
 ·
  by_cases hk0 : ksm.length = 0
  case pos =>
   have q : ((ksm.length : Int) == 0) = true := by simp [hk0]
   go_wp2
   go_ret
   exact ⟨rfl, HB.out⟩
  have hkz : ¬ (ksm.length : Int) = 0 := by omega
  have q : ((ksm.length : Int) == 0) = false := by simpa using hkz
  obtain ⟨e1, e2, e3, e4, e5, _, kk, _, _, _, hkn, hkb, hkr⟩ := isM_parts HIm.out.any
  have hkp : 0 < ksm.length := by omega
  have hkl : kk.length ≤ 5 := by
   have h := bs_small (mOf_right HAN.out (n := 1) (ver := 5) (by decide) (by decide))
   rw [← hkb, pl_len] at h
   exact h.1
  have hkm : ksm.length ≤ 9223372036854775807 := by omega
  have HE := zh (And.intro e1 (And.intro e2 e5))
  have HPA : Hid (∀ W, Calls Tryz.prog 12 #[.int .i64 at0, .int .i64 (ksm.length : Int)] W fun e w' => e = .returned (.int .i64 (Rig.pk at0 ksm.length : Int)) ∧ w' = W) := zh fun W => pick7_any at0 ksm.length W ht0 hkp hkm
  have hjl := Rig.pk_lt at0 (n := ksm.length) hkp
  obtain ⟨j, hj⟩ : ∃ j, Rig.pk at0 ksm.length = j := ⟨_, rfl⟩; rw [hj] at HPA hjl
  have hjI : (j : Int) < (ksm.length : Int) := by omega
  have hj0 : (0 : Int) ≤ (j : Int) := by omega
  obtain ⟨bk, ok, hKe, hbk, hcu, _⟩ := hkr j (by omega)
  subst hKe
  obtain ⟨⟨us, xs⟩, hux⟩ : ∃ q, kk.getD j default = q := ⟨_, rfl⟩; rw [hux] at hcu
  simp only at hcu
  have hbj : (mOf r 1 5).bs[j]? = some (us.data.toList, xs.data.toList) := by rw [← hkb, pl_at (by omega), hux]
  have hoj : (oth r)[j]? = some us.data.toList := by
   have h := (mOf_right HAN.out (n := 1) (ver := 5) (by decide) (by decide)).2.2.2.2.1
   rw [show oth r = oth (mOf r 1 5).r from rfl, ← h, List.getElem?_map, hbj]
   rfl
  have husl : us.data.toList.length ≤ 12 := wn_len (oth_wn HAN.out _ (List.mem_of_getElem? hoj))
  have HOJ := zh hoj; have HBJ := zh hbj; have HBA := zh (boxA_is husl)
  have huz : us.size ≤ 12 := by rw [Lib.size_eq]; exact husl
  have HSO := zh fun W => secretOf_any us W huz
  have HPO : Hid (∀ (T : ByteArray) (w : World), T.data.toList = secU us.data.toList → Calls Tryz.prog 41 #[.string T] w fun e w' => Sr (pubU us.data.toList, 0) e ∧ Below w.heap.size w w') := zh fun T w hT => by
   have h := Term.ofPublic_any T w (by rw [Lib.size_eq, hT]; have := (secU_sz husl).2; omega)
   rw [hT, pubU_is husl] at h
   exact h
  have HAT : Hid (∀ w, Calls Tryz.prog 43 #[.int .u64 1] w fun e w' => St (ofAtom 1) e ∧ Below w.heap.size w w') := zh fun w => Term.ofAtom_any 1 w (by decide)
  have HBO : Hid (∀ (P T : ByteArray) (w : World), P.data.toList = pubU us.data.toList → T.data.toList = ofAtom 1 → Calls Tryz.prog 42 #[.string P, .string T] w fun e w' => Sr (boxA us.data.toList, 0) e ∧ Below w.heap.size w w') := zh fun P T w h1 h2 => by
   have h := Term.box_any P T w (by rw [Lib.size_eq, h1]; have := (pubU_sz husl).2; omega) (by rw [Lib.size_eq, h2]; decide +kernel)
   rw [h1, h2, (boxA_is husl).1] at h
   exact h
  have HCU := zh hcu; have HBK := zh hbk; clear hj e1 e2 e3 e4 e5 hkn hkb hkr hkl hkm hux hbj hoj hcu hbk husl huz hkz
  go_wp2_with fail
  have hdr : Below wq.heap.size wq wq.drew := Below.drewN' (Below.refl wq.heap.size wq) 1
  refine wp_region_held_drew (S := fun w' => Below wq.heap.size wq w') (by kernel_rfl) hdr (fun hHeld => ?_)
  clear hdr; obtain ⟨wd, hwd⟩ : ∃ W, wq.drew = W := ⟨_, rfl⟩; rw [hwd] at hHeld ⊢; clear hwd; refine zqT 0 ?_ ?_ ?_; rotate_left
  · intro w' hSw; obtain ⟨⟨y0, y1, y2, y3, y4, y5, y6, y7, y8⟩, _⟩ := HXm.out.call hSw; have k0 := (hSw.cell (p := ⟨bk, ok + j * 2, none⟩) HBK.out).trans HCU.out; go_simp; try with_reducible rfl
  (try simp only [Act.put, zq1, zq2, zq3]); refine zqT 1 ?_ ?_ ?_; rotate_left
  · intro w' hSw; obtain ⟨⟨y0, y1, y2, y3, y4, y5, y6, y7, y8⟩, _⟩ := HXm.out.call hSw; have k0 := (hSw.cell (p := ⟨bk, ok + j * 2, none⟩) HBK.out).trans HCU.out; go_simp; try with_reducible rfl
  (try simp only [Act.put, zq1, zq2, zq3]); refine zqT 2 ?_ ?_ ?_; rotate_left
  · intro w' hSw; obtain ⟨⟨y0, y1, y2, y3, y4, y5, y6, y7, y8⟩, _⟩ := HXm.out.call hSw; have k0 := (hSw.cell (p := ⟨bk, ok + j * 2, none⟩) HBK.out).trans HCU.out; go_simp; try with_reducible rfl
  (try simp only [Act.put, zq1, zq2, zq3]); refine zqT 3 ?_ ?_ ?_; rotate_left
  · intro w' hSw; obtain ⟨⟨y0, y1, y2, y3, y4, y5, y6, y7, y8⟩, _⟩ := HXm.out.call hSw; have k0 := (hSw.cell (p := ⟨bk, ok + j * 2, none⟩) HBK.out).trans HCU.out; go_simp; try with_reducible rfl
  (try simp only [Act.put, zq1, zq2, zq3]); refine zqT 4 ?_ ?_ ?_; rotate_left
  · intro w' hSw; obtain ⟨⟨y0, y1, y2, y3, y4, y5, y6, y7, y8⟩, _⟩ := HXm.out.call hSw; have k0 := (hSw.cell (p := ⟨bk, ok + j * 2, none⟩) HBK.out).trans HCU.out; go_simp; try with_reducible rfl
  (try simp only [Act.put, zq1, zq2, zq3]); refine zqT 5 ?_ ?_ ?_; rotate_left
  · intro w' hSw; obtain ⟨⟨y0, y1, y2, y3, y4, y5, y6, y7, y8⟩, _⟩ := HXm.out.call hSw; have k0 := (hSw.cell (p := ⟨bk, ok + j * 2, none⟩) HBK.out).trans HCU.out; go_simp; try with_reducible rfl
  (try simp only [Act.put, zq1, zq2, zq3]); have HD0 := zh hHeld; clear hHeld; refine zqR [6] ?_
  refine zqN fun K hK => ?_
  go_simp
  go_at_call 12
  (with_reducible refine (HPA.out _).mono ?_); rintro _ wd ⟨rfl, rfl⟩; dsimp only; refine hK.out _ _ HD0.out (fun hHeld => ?_); (try simp only [Act.put, zq1, zq2, zq3]); refine zqT 7 ?_ ?_ ?_; rotate_left
  · intro w' hSw; obtain ⟨⟨y0, y1, y2, y3, y4, y5, y6, y7, y8⟩, _⟩ := HXm.out.call hSw; have k0 := (hSw.cell (p := ⟨bk, ok + j * 2, none⟩) HBK.out).trans HCU.out; go_simp; try with_reducible rfl
  (try simp only [Act.put, zq1, zq2, zq3]); refine zqT 8 ?_ ?_ ?_; rotate_left
  · intro w' hSw; obtain ⟨⟨y0, y1, y2, y3, y4, y5, y6, y7, y8⟩, _⟩ := HXm.out.call hSw; have k0 := (hSw.cell (p := ⟨bk, ok + j * 2, none⟩) HBK.out).trans HCU.out; go_simp; try with_reducible rfl
  (try simp only [Act.put, zq1, zq2, zq3]); refine zqT 9 ?_ ?_ ?_; rotate_left
  · intro w' hSw; obtain ⟨⟨y0, y1, y2, y3, y4, y5, y6, y7, y8⟩, _⟩ := HXm.out.call hSw; have k0 := (hSw.cell (p := ⟨bk, ok + j * 2, none⟩) HBK.out).trans HCU.out; go_simp; try with_reducible rfl
  (try simp only [Act.put, zq1, zq2, zq3]); clear hHeld; refine zqR [10] ?_
  refine zqN fun K hK => ?_
  go_simp
  go_at_call 14
  (with_reducible refine (HSO.out _).mono ?_); rintro e5 w5 ⟨⟨T, hT, rfl⟩, hb5⟩; have HT := zh hT; have HD1 := zh (Bel.call HD0.out hb5); clear hb5 hT; dsimp only; refine hK.out _ _ HD1.out (fun hHeld => ?_); (try simp only [Act.put, zq1, zq2, zq3]); clear hHeld; refine zqR [11] ?_
  refine zqN fun K hK => ?_
  go_simp
  go_at_call 41
  (with_reducible refine (HPO.out T _ HT.out).mono ?_); rintro e6 w6 ⟨⟨P, hP, rfl⟩, hb6⟩; dsimp only at hP; have HP := zh hP; have HD2 := zh (Bel.call HD1.out hb6); clear hb6 hP; dsimp only; refine hK.out _ _ HD2.out (fun hHeld => ?_); (try simp only [Act.put, zq1, zq2, zq3]); refine zqT 12 ?_ ?_ ?_; rotate_left
  · intro w' hSw; obtain ⟨⟨y0, y1, y2, y3, y4, y5, y6, y7, y8⟩, _⟩ := HXm.out.call hSw; have k0 := (hSw.cell (p := ⟨bk, ok + j * 2, none⟩) HBK.out).trans HCU.out; go_simp; try with_reducible rfl
  (try simp only [Act.put, zq1, zq2, zq3]); refine zqT 13 ?_ ?_ ?_; rotate_left
  · intro w' hSw; obtain ⟨⟨y0, y1, y2, y3, y4, y5, y6, y7, y8⟩, _⟩ := HXm.out.call hSw; have k0 := (hSw.cell (p := ⟨bk, ok + j * 2, none⟩) HBK.out).trans HCU.out; go_simp; try with_reducible rfl
  (try simp only [Act.put, zq1, zq2, zq3]); refine zqT 14 ?_ ?_ ?_; rotate_left
  · intro w' hSw; obtain ⟨⟨y0, y1, y2, y3, y4, y5, y6, y7, y8⟩, _⟩ := HXm.out.call hSw; have k0 := (hSw.cell (p := ⟨bk, ok + j * 2, none⟩) HBK.out).trans HCU.out; go_simp; try with_reducible rfl
  (try simp only [Act.put, zq1, zq2, zq3]); refine zqT 15 ?_ ?_ ?_; rotate_left
  · intro w' hSw; obtain ⟨⟨y0, y1, y2, y3, y4, y5, y6, y7, y8⟩, _⟩ := HXm.out.call hSw; have k0 := (hSw.cell (p := ⟨bk, ok + j * 2, none⟩) HBK.out).trans HCU.out; go_simp; try with_reducible rfl
  (try simp only [Act.put, zq1, zq2, zq3]); refine zqT 16 ?_ ?_ ?_; rotate_left
  · intro w' hSw; obtain ⟨⟨y0, y1, y2, y3, y4, y5, y6, y7, y8⟩, _⟩ := HXm.out.call hSw; have k0 := (hSw.cell (p := ⟨bk, ok + j * 2, none⟩) HBK.out).trans HCU.out; go_simp; try with_reducible rfl
  (try simp only [Act.put, zq1, zq2, zq3]); clear hHeld
  refine wpAnyH_done (by kernel_rfl) ?_ _
  go_wp2_with fail
  (with_reducible refine (HAT.out _).mono ?_); rintro e7 w7 ⟨⟨N, hN, rfl⟩, hb7⟩; have HN := zh hN; have HD3 := zh (Bel.call HD2.out hb7); clear hb7 hN; dsimp only
  go_wp2_with fail
  (with_reducible refine (HBO.out P N _ HP.out HN.out).mono ?_); rintro e8 w8 ⟨⟨X2, hX2, rfl⟩, hb8⟩; dsimp only at hX2; have HX2 := zh hX2; have HD4 := zh (Bel.call HD3.out hb8); clear hb8 hX2; dsimp only
  go_wp2_with fail
  have hdr := Bel.call HD4.out (Below.drewN' (Below.refl w8.heap.size w8) 1)
  have HBt := zh (Bel.call HB.out hdr); have HXt := zh (HXm.out.call hdr); have HIt := zh (HIm.out.below hdr zl); have HPt := zh (HPm.out.below hdr)
  refine wp_region_held_drew (S := fun w' => Mx Gm w' om fm pm Am rsm.length cm Bm wsm.length dm um Vm vsm.length xm (some ⟨bk, ok, none⟩) ksm.length ym gm) (by kernel_rfl) HXt.out (fun hHeld => ?_)
  clear hdr; obtain ⟨we, hwe⟩ : ∃ W, w8.drewN 1 = W := ⟨_, rfl⟩; rw [show w8.drew = we from hwe] at *; rw [hwe] at HBt HXt HIt HPt; clear hwe; refine zqT 0 ?_ ?_ ?_; rotate_left
  · intro w' hSw; obtain ⟨⟨y0, y1, y2, y3, y4, y5, y6, y7, y8⟩, _⟩ := hSw; go_simp; try with_reducible rfl
  (try simp only [Act.put, zq1, zq2, zq3]); refine zqT 1 ?_ ?_ ?_; rotate_left
  · intro w' hSw; obtain ⟨⟨y0, y1, y2, y3, y4, y5, y6, y7, y8⟩, _⟩ := hSw; go_simp; try with_reducible rfl
  (try simp only [Act.put, zq1, zq2, zq3]); refine zqT 2 ?_ ?_ ?_; rotate_left
  · intro w' hSw; obtain ⟨⟨y0, y1, y2, y3, y4, y5, y6, y7, y8⟩, _⟩ := hSw; go_simp; try with_reducible rfl
  (try simp only [Act.put, zq1, zq2, zq3]); refine zqT 3 ?_ ?_ ?_; rotate_left
  · intro w' hSw; obtain ⟨⟨y0, y1, y2, y3, y4, y5, y6, y7, y8⟩, _⟩ := hSw; go_simp; try with_reducible rfl
  (try simp only [Act.put, zq1, zq2, zq3]); refine zqT 4 ?_ ?_ ?_; rotate_left
  · intro w' hSw; obtain ⟨⟨y0, y1, y2, y3, y4, y5, y6, y7, y8⟩, _⟩ := hSw; go_simp; try with_reducible rfl
  (try simp only [Act.put, zq1, zq2, zq3]); refine zqT 5 ?_ ?_ ?_; rotate_left
  · intro w' hSw; obtain ⟨⟨y0, y1, y2, y3, y4, y5, y6, y7, y8⟩, _⟩ := hSw; go_simp; try with_reducible rfl
  (try simp only [Act.put, zq1, zq2, zq3]); refine zqT 7 ?_ ?_ ?_; rotate_left
  · intro w' hSw; obtain ⟨⟨y0, y1, y2, y3, y4, y5, y6, y7, y8⟩, _⟩ := hSw; go_simp; try with_reducible rfl
  (try simp only [Act.put, zq1, zq2, zq3]); clear hHeld; refine zqR [6] ?_
  refine zqN fun K hK => ?_
  go_simp
  go_at_call 12
  (with_reducible refine (HPA.out _).mono ?_); rintro _ we ⟨rfl, rfl⟩; dsimp only; refine hK.out _ _ HXt.out (fun hHeld => ?_); (try simp only [Act.put, zq1, zq2, zq3]); refine zqT 8 ?_ ?_ ?_; rotate_left
  · intro w' hSw; obtain ⟨⟨y0, y1, y2, y3, y4, y5, y6, y7, y8⟩, _⟩ := hSw; go_simp; try with_reducible rfl
  (try simp only [Act.put, zq1, zq2, zq3]); refine zqT 9 ?_ ?_ ?_; rotate_left
  · intro w' hSw; obtain ⟨⟨y0, y1, y2, y3, y4, y5, y6, y7, y8⟩, _⟩ := hSw; go_simp; try with_reducible rfl
  (try simp only [Act.put, zq1, zq2, zq3]); obtain ⟨_, _, _, _, _, _, k2, _, _, _, hn2, _, hkr⟩ := isM_parts HIt.out.any; obtain ⟨bk2, ok2, hKe, hbk, hcu, hcx⟩ := hkr j (by omega)
  injection hKe with hKe
  injection hKe with hKa hKb _
  subst hKa; subst hKb
  obtain ⟨hq1, hq2, hqA, hqB, hqV⟩ := (HPt.out om fm gm pm um Am rsm.length cm Bm wsm.length dm Vm vsm.length xm (some ⟨bk, ok, none⟩) ksm.length ym rfl).2 bk ok rfl (by omega)
  have hfz := hq2 (ok + j * 2 + 1)
  have HGV : Hid (Gm ≠ bk) := zh fun e => by
   obtain ⟨oo, ff, sg, A2, c2, rs2, B2, d2, ws2, V2, cv2, vs2, K2, ck2, ks2, h1, h2, h3, h4, h5, h6, h7, h8, h9, h10, k1, k2, k3, k4⟩ := HIt.out
   simp only [Value.agg.injEq, Array.mk.injEq, List.cons.injEq, Value.string.injEq, Value.int.injEq, Value.slice.injEq, true_and, and_true] at h1
   obtain ⟨_, _, _, _, _, _, _, ⟨hV, hn, _⟩, _⟩ := h1
   exact k4 bk ok hV.symm (by omega) (by rw [e]; simp)
  have hbn : w.heap.size ≤ bk := by
   obtain ⟨oo, ff, sg, A2, c2, rs2, B2, d2, ws2, V2, cv2, vs2, K2, ck2, ks2, h1, h2, h3, h4, h5, h6, h7, h8, h9, h10, k1, k2, k3, k4⟩ := HIt.out
   simp only [Value.agg.injEq, Array.mk.injEq, List.cons.injEq, Value.string.injEq, Value.int.injEq, Value.slice.injEq, true_and, and_true] at h1
   obtain ⟨_, _, _, _, _, _, _, ⟨hV, hn, _⟩, _⟩ := h1
   have hk := k4 bk ok hV.symm (by omega)
   exact Nat.le_of_not_lt fun hlt => hk (List.mem_cons_of_mem _ (List.mem_range.2 hlt))
  have HBN := zh hbn; clear hbn; clear hHeld; refine zqR [10] ?_
  refine zqN fun K hK => ?_
  go_simp; refine hK.out _ _ (mx_out HXt.out HGV.out) (fun hHeld => ?_); (try simp only [Act.put, zq1, zq2, zq3]); clear hHeld
  refine wpAnyH_done (by kernel_rfl) ?_ _
  clear hcu hcx hfz hq1 hq2 hqA hqB hqV hbk hkr hn2 hjI hj0
  go_wp2_with fail
  have HQ := zh (And.intro (other_box HAN.out (n := 1) (ver := 5) (by decide) (by decide) HOJ.out [] []).1 fun o f => (other_box HAN.out (n := 1) (ver := 5) (by decide) (by decide) HOJ.out o f).2)
  have HFS : Hid (fm.size ≤ 10000) := zh (by rw [Lib.size_eq, HE.out.2.1]; exact (few_MR (mOf_right HAN.out (n := 1) (ver := 5) (by decide) (by decide)) (by show (5 : Nat) < _; decide)).1.2.1)
  have HFW : Hid (FewM { mOf r 1 5 with bs := (bsOf r 1).set j (us.data.toList, boxA us.data.toList) }) := zh (few_MR HQ.out.1 (by show (5 : Nat) < _; decide))
  have hst := And.intro (mx_out (G := bk) (j := ok + j * 2 + 1) (v := .string X2) HXt.out HGV.out) (isM_bs us X2 HIt.out.any HPt.out hjl ⟨_, HBJ.out⟩)
  rw [HX2.out] at hst
  have HSt : Hid (_ ∧ IsM AnyB _ _ { mOf r 1 5 with bs := (bsOf r 1).set j (us.data.toList, boxA us.data.toList) }) := zh hst
  have hbt : Below w.heap.size w (we.setCell ⟨bk, ok + j * 2 + 1, none⟩ (.string X2)) := HBt.out.setCell HBN.out _
  have HBt := zh hbt; clear hst hbt
  generalize we.setCell ⟨bk, ok + j * 2 + 1, none⟩ (.string X2) = wt at HSt HBt ⊢
  have HRG : Hid (∀ W, IsM AnyB W (.agg #[.string om, .string fm, .int .i64 pm, .slice Am rsm.length cm, .slice Bm wsm.length dm, .int .u64 (um : Int), .slice Vm vsm.length xm, .slice (some ⟨bk, ok, none⟩) ksm.length ym, .string gm]) { mOf r 1 5 with bs := (bsOf r 1).set j (us.data.toList, boxA us.data.toList) } → Calls Tryz.prog 32 #[.agg #[.string om, .string fm, .int .i64 pm, .slice Am rsm.length cm, .slice Bm wsm.length dm, .int .u64 (um : Int), .slice Vm vsm.length xm, .slice (some ⟨bk, ok, none⟩) ksm.length ym, .string gm]] W fun e w' => e = .returned (.bool true) ∧ Below W.heap.size W w') := zh fun W h => by
   have h2 := MR _ _ W h HFW.out
   rw [decide_eq_true HQ.out.1] at h2
   exact h2
  obtain ⟨PA, hPA⟩ : ∃ p : ByteArray, p = ⟨⟨pubU annaT⟩⟩ := ⟨_, rfl⟩
  have HPB : Hid (∀ W, Calls Tryz.prog 36 #[.string ⟨#[97, 110, 110, 97]⟩] W fun e w' => e = .returned (.string PA) ∧ Below W.heap.size W w') := zh fun W => (publicOf_any annaB W (by decide)).mono fun e w' h => by
   obtain ⟨⟨T, hl, he⟩, hb⟩ := h
   exact ⟨by rw [he, hPA]; congr 2; exact str_eq hl, hb⟩
  have HCK : Hid (∀ W, IsM AnyB W (.agg #[.string om, .string fm, .int .i64 pm, .slice Am rsm.length cm, .slice Bm wsm.length dm, .int .u64 (um : Int), .slice Vm vsm.length xm, .slice (some ⟨bk, ok, none⟩) ksm.length ym, .string gm]) { mOf r 1 5 with bs := (bsOf r 1).set j (us.data.toList, boxA us.data.toList) } → Calls Tryz.prog 34 #[.agg #[.string om, .string fm, .int .i64 pm, .slice Am rsm.length cm, .slice Bm wsm.length dm, .int .u64 (um : Int), .slice Vm vsm.length xm, .slice (some ⟨bk, ok, none⟩) ksm.length ym, .string gm], .string PA, .string ⟨#[97, 110, 110, 97]⟩, .string fm] W fun e w' => e = .returned (.int .i64 7) ∧ Below W.heap.size W w') := zh fun W h => by
   have h3 : PA.size ≤ 10000 := by rw [hPA]; decide +kernel
   refine check_to MC ?_ HFW.out h3 (by decide) HFS.out W h
   rw [hPA]
   exact HQ.out.2 _ _
  clear hPA
  have hdr := HSt.out.2.below (Below.drewN' (Below.refl wt.heap.size wt) 1) zl
  refine Ord.region_lit (S := fun w' => Below wt.heap.size wt w' ∧ Mx Gm w' om fm pm Am rsm.length cm Bm wsm.length dm um Vm vsm.length xm (some ⟨bk, ok, none⟩) ksm.length ym gm ∧ IsM AnyB w' (.agg #[.string om, .string fm, .int .i64 pm, .slice Am rsm.length cm, .slice Bm wsm.length dm, .int .u64 (um : Int), .slice Vm vsm.length xm, .slice (some ⟨bk, ok, none⟩) ksm.length ym, .string gm]) { mOf r 1 5 with bs := (bsOf r 1).set j (us.data.toList, boxA us.data.toList) }) (by kernel_rfl) (by kernel_rfl) ⟨Below.drewN' (Below.refl wt.heap.size wt) 1, HSt.out.1.call (Below.drewN' (Below.refl wt.heap.size wt) 1), hdr⟩ ?_; clear hdr; refine Ord.stepR (v := ?_) (by rfl) ?_ ?_; rotate_left
  · intro w' hSw; obtain ⟨_, ⟨⟨q0, q1, q2, q3, q4, q5, q6, q7, q8⟩, _⟩, _⟩ := hSw; go_simp; try with_reducible rfl
  (try simp only [Act.put, zq1, zq2, zq3]); refine Ord.stepC (v := .bool true) (by rfl) ?_ (fun w1 hS => (HRG.out w1 hS.2.2).mono fun e w2 h => ⟨h.1, hS.1.trans (h.2.mono hS.1.size), hS.2.1.call h.2, hS.2.2.below h.2 zl⟩) ?_
  · intro w' hSw; go_simp; try with_reducible rfl
  (try simp only [Act.put, zq1, zq2, zq3]); refine Ord.stepR (v := ?_) (by rfl) ?_ ?_; rotate_left
  · intro w' hSw; obtain ⟨_, ⟨⟨q0, q1, q2, q3, q4, q5, q6, q7, q8⟩, _⟩, _⟩ := hSw; go_simp; try with_reducible rfl
  (try simp only [Act.put, zq1, zq2, zq3]); refine Ord.stepR (v := ?_) (by rfl) ?_ ?_; rotate_left
  · intro w' hSw; obtain ⟨_, ⟨⟨q0, q1, q2, q3, q4, q5, q6, q7, q8⟩, _⟩, _⟩ := hSw; go_simp; try with_reducible rfl
  (try simp only [Act.put, zq1, zq2, zq3]); refine Ord.stepC (v := .string PA) (by rfl) ?_ (fun w1 hS => (HPB.out w1).mono fun e w2 h => ⟨h.1, hS.1.trans (h.2.mono hS.1.size), hS.2.1.call h.2, hS.2.2.below h.2 zl⟩) ?_
  · intro w' hSw; go_simp; try with_reducible rfl
  (try simp only [Act.put, zq1, zq2, zq3]); refine Ord.stepR (v := ?_) (by rfl) ?_ ?_; rotate_left
  · intro w' hSw; obtain ⟨_, ⟨⟨q0, q1, q2, q3, q4, q5, q6, q7, q8⟩, _⟩, _⟩ := hSw; go_simp; try with_reducible rfl
  (try simp only [Act.put, zq1, zq2, zq3]); refine Ord.stepR (v := ?_) (by rfl) ?_ ?_; rotate_left
  · intro w' hSw; obtain ⟨_, ⟨⟨q0, q1, q2, q3, q4, q5, q6, q7, q8⟩, _⟩, _⟩ := hSw; go_simp; try with_reducible rfl
  (try simp only [Act.put, zq1, zq2, zq3]); refine Ord.stepR (v := ?_) (by rfl) ?_ ?_; rotate_left
  · intro w' hSw; obtain ⟨_, ⟨⟨q0, q1, q2, q3, q4, q5, q6, q7, q8⟩, _⟩, _⟩ := hSw; go_simp; try with_reducible rfl
  (try simp only [Act.put, zq1, zq2, zq3]); refine Ord.stepC (v := .int .i64 7) (by rfl) ?_ (fun w1 hS => (HCK.out w1 hS.2.2).mono fun e w2 h => ⟨h.1, hS.1.trans (h.2.mono hS.1.size), hS.2.1.call h.2, hS.2.2.below h.2 zl⟩) ?_
  · intro w' hSw; go_simp; try with_reducible rfl
  (try simp only [Act.put, zq1, zq2, zq3]); refine Ord.stepR (v := ?_) (by rfl) ?_ ?_; rotate_left
  · intro w' hSw; obtain ⟨_, ⟨⟨q0, q1, q2, q3, q4, q5, q6, q7, q8⟩, _⟩, _⟩ := hSw; go_simp; try with_reducible rfl
  (try simp only [Act.put, zq1, zq2, zq3]); refine Ord.stepR (v := ?_) (by rfl) ?_ ?_; rotate_left
  · intro w' hSw; obtain ⟨_, ⟨⟨q0, q1, q2, q3, q4, q5, q6, q7, q8⟩, _⟩, _⟩ := hSw; go_simp; try with_reducible rfl
  (try simp only [Act.put, zq1, zq2, zq3]); refine Ord.stepR (v := ?_) (by rfl) ?_ ?_; rotate_left
  · intro w' hSw; obtain ⟨_, ⟨⟨q0, q1, q2, q3, q4, q5, q6, q7, q8⟩, _⟩, _⟩ := hSw; go_simp; try with_reducible rfl
  (try simp only [Act.put, zq1, zq2, zq3]); refine Ord.stepD ?_; rintro w9 ⟨hb9, _, _⟩; have HB9 := zh (Bel.call HBt.out hb9); clear hb9
  go_wp2
  go_ret
  exact ⟨rfl, HB9.out⟩
 ·
  obtain ⟨t1, t2, t3, t4⟩ := txt_ok HAN.out (n := 1) (ver := 5) (by decide) (by decide); have HQ0 := zh (other_sig HAN.out (n := 1) (ver := 5) (by decide) (by decide))
  have HOT : Hid (∀ W, Calls Tryz.prog 44 #[.string X] W fun e w' => Sr (txtM r 1 5, 0) e ∧ Below W.heap.size W w') := zh fun W => by
   have h := Term.ofText_any X W (by rw [HXX.out, Lib.size_eq]; have := body_small (mOf_right HAN.out (n := 1) (ver := 5) (by decide) (by decide)) (by show (5 : Nat) < _; decide); simp only; omega)
   rw [show ofText X.data.toList = (txtM r 1 5, 0) by rw [HXX.out]; exact t1] at h
   exact h
  have HSB : Hid (∀ W, Calls Tryz.prog 14 #[.string ⟨#[98, 101, 110]⟩] W fun e w' => St (secU benT) e ∧ Below W.heap.size W w') := zh fun W => secretOf_any ⟨#[98, 101, 110]⟩ W (by decide)
  have HSN : Hid (∀ (S T : ByteArray) W, S.data.toList = secU benT → T.data.toList = txtM r 1 5 → Calls Tryz.prog 45 #[.string S, .string T] W fun e w' => Sr (sigB r 1 5, 0) e ∧ Below W.heap.size W w') := zh fun S T W h1 h2 => by
   have h := Term.sign_any S T W (by rw [Lib.size_eq, h1]; decide +kernel) (by rw [Lib.size_eq, h2]; omega)
   rw [h1, h2, (HQ0.out [] []).1] at h
   exact h
  clear t1 t2 t3 t4
  go_wp2_with fail
  (with_reducible refine (HOT.out _).mono ?_); rintro e5 w5 ⟨⟨T, hT, rfl⟩, hb5⟩; dsimp only at hT; have HT := zh hT; have HB5 := zh hb5; clear hb5 hT; dsimp only
  go_wp2_with fail
  (with_reducible refine (HSB.out _).mono ?_); rintro e6 w6 ⟨⟨S, hS, rfl⟩, hb6⟩; have HS := zh hS; have HB6 := zh (Bel.call HB5.out hb6); clear hb6 hS; dsimp only
  go_wp2_with fail
  (with_reducible refine (HSN.out S T _ HS.out HT.out).mono ?_); rintro e7 w7 ⟨⟨U, hU, rfl⟩, hb7⟩; dsimp only at hU; have HU := zh hU; have HBQ := zh (Bel.call HB6.out hb7); clear hb7 hU; have HBt := zh (Bel.call HB.out HBQ.out); have HXt := zh (HXm.out.call HBQ.out); have HIt := zh (HIm.out.below HBQ.out zl); dsimp only; obtain ⟨z0, z1, z2, z3, z4, z5, z6, z7, z8⟩ := HFm.out.below HBQ.out HXm.out.2; obtain ⟨⟨y0, y1, y2, y3, y4, y5, y6, y7, y8⟩, _⟩ := HXt.out
  go_wp2_with fail
  clear z0 z1 z2 z3 z4 z5 z6 z7 z8 y0 y1 y2 y3 y4 y5 y6 y7 y8; obtain ⟨e1, e2, e3, e4, e5, _⟩ := isM_parts HIt.out.any; have HQ := zh (And.intro (HQ0.out [] []).2.1 fun o f => (HQ0.out o f).2.2)
  have HFS : Hid (fm.size ≤ 10000) := zh (by rw [Lib.size_eq, e2]; exact (few_MR (mOf_right HAN.out (n := 1) (ver := 5) (by decide) (by decide)) (by show (5 : Nat) < _; decide)).1.2.1)
  have hme : (⟨⟨om.data.toList, fm.data.toList, (mOf r 1 5).r.ep, (mOf r 1 5).r.rs, (mOf r 1 5).r.ws⟩, um, (mOf r 1 5).vf, (mOf r 1 5).bs, U.data.toList⟩ : Mt) = { mOf r 1 5 with sig := sigB r 1 5 } := by rw [e1, e2, e4, HU.out]
  have HFW : Hid (FewM { mOf r 1 5 with sig := sigB r 1 5 }) := zh (few_MR HQ.out.1 (by show (5 : Nat) < _; decide))
  have hst := And.intro (mx_sig HXt.out U) (isM_cell (i := 8) (z := .string U) (o' := om) (f' := fm) (g' := U) (u' := um) HIt.out (fun b h e => h (by rw [e]; exact List.mem_cons_self ..)) rfl)
  rw [hme] at hst; have HSt := zh hst
  have hbt : Below w.heap.size w (w7.setCell ⟨Gm, 8, none⟩ (.string U)) := HBt.out.setCell HGN.out _
  have HBt := zh hbt; clear hst hbt hme e1 e2 e3 e4 e5
  generalize w7.setCell ⟨Gm, 8, none⟩ (.string U) = wt at HSt HBt ⊢
  have HRG : Hid (∀ W, IsM AnyB W (.agg #[.string om, .string fm, .int .i64 pm, .slice Am rsm.length cm, .slice Bm wsm.length dm, .int .u64 (um : Int), .slice Vm vsm.length xm, .slice Km ksm.length ym, .string U]) { mOf r 1 5 with sig := sigB r 1 5 } → Calls Tryz.prog 32 #[.agg #[.string om, .string fm, .int .i64 pm, .slice Am rsm.length cm, .slice Bm wsm.length dm, .int .u64 (um : Int), .slice Vm vsm.length xm, .slice Km ksm.length ym, .string U]] W fun e w' => e = .returned (.bool true) ∧ Below W.heap.size W w') := zh fun W h => by
   have h2 := MR _ _ W h HFW.out
   rw [decide_eq_true HQ.out.1] at h2
   exact h2
  obtain ⟨PA, hPA⟩ : ∃ p : ByteArray, p = ⟨⟨pubU annaT⟩⟩ := ⟨_, rfl⟩
  have HPB : Hid (∀ W, Calls Tryz.prog 36 #[.string ⟨#[97, 110, 110, 97]⟩] W fun e w' => e = .returned (.string PA) ∧ Below W.heap.size W w') := zh fun W => (publicOf_any annaB W (by decide)).mono fun e w' h => by
   obtain ⟨⟨T, hl, he⟩, hb⟩ := h
   exact ⟨by rw [he, hPA]; congr 2; exact str_eq hl, hb⟩
  have HCK : Hid (∀ W, IsM AnyB W (.agg #[.string om, .string fm, .int .i64 pm, .slice Am rsm.length cm, .slice Bm wsm.length dm, .int .u64 (um : Int), .slice Vm vsm.length xm, .slice Km ksm.length ym, .string U]) { mOf r 1 5 with sig := sigB r 1 5 } → Calls Tryz.prog 34 #[.agg #[.string om, .string fm, .int .i64 pm, .slice Am rsm.length cm, .slice Bm wsm.length dm, .int .u64 (um : Int), .slice Vm vsm.length xm, .slice Km ksm.length ym, .string U], .string PA, .string ⟨#[97, 110, 110, 97]⟩, .string fm] W fun e w' => e = .returned (.int .i64 7) ∧ Below W.heap.size W w') := zh fun W h => by
   have h3 : PA.size ≤ 10000 := by rw [hPA]; decide +kernel
   refine check_to MC ?_ HFW.out h3 (by decide) HFS.out W h
   rw [hPA]
   exact HQ.out.2 _ _
  clear hPA
  have hdr := HSt.out.2.below (Below.drewN' (Below.refl wt.heap.size wt) 1) zl
  refine Ord.region_lit (S := fun w' => Below wt.heap.size wt w' ∧ Mx Gm w' om fm pm Am rsm.length cm Bm wsm.length dm um Vm vsm.length xm Km ksm.length ym U ∧ IsM AnyB w' (.agg #[.string om, .string fm, .int .i64 pm, .slice Am rsm.length cm, .slice Bm wsm.length dm, .int .u64 (um : Int), .slice Vm vsm.length xm, .slice Km ksm.length ym, .string U]) { mOf r 1 5 with sig := sigB r 1 5 }) (by kernel_rfl) (by kernel_rfl) ⟨Below.drewN' (Below.refl wt.heap.size wt) 1, HSt.out.1.call (Below.drewN' (Below.refl wt.heap.size wt) 1), hdr⟩ ?_; clear hdr; refine Ord.stepR (v := ?_) (by rfl) ?_ ?_; rotate_left
  · intro w' hSw; obtain ⟨_, ⟨⟨q0, q1, q2, q3, q4, q5, q6, q7, q8⟩, _⟩, _⟩ := hSw; go_simp; try with_reducible rfl
  (try simp only [Act.put, zq1, zq2, zq3]); refine Ord.stepC (v := .bool true) (by rfl) ?_ (fun w1 hS => (HRG.out w1 hS.2.2).mono fun e w2 h => ⟨h.1, hS.1.trans (h.2.mono hS.1.size), hS.2.1.call h.2, hS.2.2.below h.2 zl⟩) ?_
  · intro w' hSw; go_simp; try with_reducible rfl
  (try simp only [Act.put, zq1, zq2, zq3]); refine Ord.stepR (v := ?_) (by rfl) ?_ ?_; rotate_left
  · intro w' hSw; obtain ⟨_, ⟨⟨q0, q1, q2, q3, q4, q5, q6, q7, q8⟩, _⟩, _⟩ := hSw; go_simp; try with_reducible rfl
  (try simp only [Act.put, zq1, zq2, zq3]); refine Ord.stepR (v := ?_) (by rfl) ?_ ?_; rotate_left
  · intro w' hSw; obtain ⟨_, ⟨⟨q0, q1, q2, q3, q4, q5, q6, q7, q8⟩, _⟩, _⟩ := hSw; go_simp; try with_reducible rfl
  (try simp only [Act.put, zq1, zq2, zq3]); refine Ord.stepC (v := .string PA) (by rfl) ?_ (fun w1 hS => (HPB.out w1).mono fun e w2 h => ⟨h.1, hS.1.trans (h.2.mono hS.1.size), hS.2.1.call h.2, hS.2.2.below h.2 zl⟩) ?_
  · intro w' hSw; go_simp; try with_reducible rfl
  (try simp only [Act.put, zq1, zq2, zq3]); refine Ord.stepR (v := ?_) (by rfl) ?_ ?_; rotate_left
  · intro w' hSw; obtain ⟨_, ⟨⟨q0, q1, q2, q3, q4, q5, q6, q7, q8⟩, _⟩, _⟩ := hSw; go_simp; try with_reducible rfl
  (try simp only [Act.put, zq1, zq2, zq3]); refine Ord.stepR (v := ?_) (by rfl) ?_ ?_; rotate_left
  · intro w' hSw; obtain ⟨_, ⟨⟨q0, q1, q2, q3, q4, q5, q6, q7, q8⟩, _⟩, _⟩ := hSw; go_simp; try with_reducible rfl
  (try simp only [Act.put, zq1, zq2, zq3]); refine Ord.stepR (v := ?_) (by rfl) ?_ ?_; rotate_left
  · intro w' hSw; obtain ⟨_, ⟨⟨q0, q1, q2, q3, q4, q5, q6, q7, q8⟩, _⟩, _⟩ := hSw; go_simp; try with_reducible rfl
  (try simp only [Act.put, zq1, zq2, zq3]); refine Ord.stepC (v := .int .i64 7) (by rfl) ?_ (fun w1 hS => (HCK.out w1 hS.2.2).mono fun e w2 h => ⟨h.1, hS.1.trans (h.2.mono hS.1.size), hS.2.1.call h.2, hS.2.2.below h.2 zl⟩) ?_
  · intro w' hSw; go_simp; try with_reducible rfl
  (try simp only [Act.put, zq1, zq2, zq3]); refine Ord.stepR (v := ?_) (by rfl) ?_ ?_; rotate_left
  · intro w' hSw; obtain ⟨_, ⟨⟨q0, q1, q2, q3, q4, q5, q6, q7, q8⟩, _⟩, _⟩ := hSw; go_simp; try with_reducible rfl
  (try simp only [Act.put, zq1, zq2, zq3]); refine Ord.stepR (v := ?_) (by rfl) ?_ ?_; rotate_left
  · intro w' hSw; obtain ⟨_, ⟨⟨q0, q1, q2, q3, q4, q5, q6, q7, q8⟩, _⟩, _⟩ := hSw; go_simp; try with_reducible rfl
  (try simp only [Act.put, zq1, zq2, zq3]); refine Ord.stepR (v := ?_) (by rfl) ?_ ?_; rotate_left
  · intro w' hSw; obtain ⟨_, ⟨⟨q0, q1, q2, q3, q4, q5, q6, q7, q8⟩, _⟩, _⟩ := hSw; go_simp; try with_reducible rfl
  (try simp only [Act.put, zq1, zq2, zq3]); refine Ord.stepD ?_; rintro w9 ⟨hb9, _, _⟩; have HB9 := zh (Bel.call HBt.out hb9); clear hb9
  go_wp2
  go_ret
  exact ⟨rfl, HB9.out⟩
end Go.Proofs.YtlkgjceddbclpaaGreat.Mta

