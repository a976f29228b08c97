/-
  CONTRACT of the document's Put (letterlockref12). By an AI agent; no person has read it.
-/
import Derived.Test.YtamkepfhlfeiiaaPPutM
import Derived.Test.YtamkepfhlfeiiaaSTPutA
import Derived.Deep.RegionHeld3
namespace Go.Proofs.Ytamkepfhlfeiiaa.Sto
open Go Go.RowKit Wire

set_option linter.unusedVariables false
set_option linter.unusedSimpArgs false
theorem cell_info : (Try.prog.info? 75).map (fun i => (i.zero, i.size, i.bytes)) = some (some (.agg #[.string ⟨#[]⟩, .slice none 0 0, .bool false]), 3, 48) := by kernel_rfl
theorem lit_cells_at (W : World) (cs : Array Value) (t : TypeId) (g : Nat) (hg : g = W.heap.size) : ∀ j u, cs.toList[j]? = some u → (W.alloc (.cells cs t)).cell? ((⟨g, 0, none⟩ : Addr).add j) = some u := by
  subst hg
  exact lit_cells W cs t
theorem putr_no {w : World} {a : Addr} {X : Nat → Prop} {s : Stt} {k b : Tm} {x : Int} (h : DR w a X s) (e : putE s k b = x) (hx : x ≠ 0) {v : Value} (hv : v = .int .i64 x) : Ending.returned v = .returned (.int .i64 (putE s k b)) ∧ (∃ X', DR w a X' (putS s k b) ∧ ∀ b, X' b → X b ∨ w.heap.size ≤ b) ∧ Fr X w w :=
  ⟨by rw [e, hv], ⟨X, by rw [putS_no (by rw [e]; exact hx)]; exact h, fun b hb => .inl hb⟩, ⟨rfl, rfl, rfl, Nat.le_refl _, fun _ _ _ => rfl⟩⟩
/-- Three cells in a row are written. -/
theorem own_set3 {w : World} {gC cap i : Nat} {rs : List Cl} (o : w.ownsRow 0 75 3 (.slice (some ⟨gC, 0, none⟩) rs.length cap) rs.length (flat rs)) (c : Cl) (hi : i < rs.length) :
    (((w.setCell ⟨gC, i * 3, none⟩ (.string c.k)).setCell ⟨gC, i * 3 + 1, none⟩ c.v).setCell ⟨gC, i * 3 + 2, none⟩ (.bool c.b)).ownsRow 0 75 3 (.slice (some ⟨gC, 0, none⟩) (rs.set i c).length cap) (rs.set i c).length (flat (rs.set i c)) := by
  obtain ⟨o1, _⟩ := o.stored (i * 3) (.string c.k)
  obtain ⟨o2, _⟩ := o1.stored (i * 3 + 1) c.v
  obtain ⟨o3, _⟩ := o2.stored (i * 3 + 2) (.bool c.b)
  rw [flat_set c hi] at o3
  rw [List.length_set]; exact o3
theorem own_moved {w w' : World} {e : TypeId} {size n cap gC : Nat} {xs : List Value} (o : w.ownsRow 0 e size (.slice (some ⟨gC, 0, none⟩) n cap) n xs) (hb : w'.heap[gC]? = w.heap[gC]?) : w'.ownsRow 0 e size (.slice (some ⟨gC, 0, none⟩) n cap) n xs := by
  refine ⟨o.1, ?_⟩
  rcases o.2 with ⟨h1, _⟩ | ⟨x, cp, cur, hv, a1, a2, a3⟩
  · cases h1
  · injection hv with hv hn hc
    injection hv with hv
    injection hv with hv
    subst hv
    exact .inr ⟨gC, cp, cur, by rw [hc], a1, hb.trans a2, a3⟩
theorem row_end {w : World} {ys : List ByteArray} {B : ByteArray} {gg cap : Nat} {l : List Tm} (hy : bl ys = l) (o : w.ownsRow 0 9 1 (.slice (some ⟨gg, 0, none⟩) (ys.length + 1) cap) (ys.length + 1) (sv ys ++ [.string B])) : RowAt w (.slice (some ⟨gg, 0, none⟩) (ys.length + 1) cap) gg (l ++ [B.data.toList]) := by
  refine ⟨ys ++ [B], by rw [← hy]; simp [bl], ?_, rfl⟩
  have e1 : (ys ++ [B]).length = ys.length + 1 := by simp
  have e2 : sv (ys ++ [B]) = sv ys ++ [.string B] := by simp [sv]
  rw [e1, e2]; exact o
theorem set_end {α : Type _} (l : List α) (a b : α) : (l ++ [a]).set l.length b = l ++ [b] := by simp
theorem heap_set3 {w : World} {g b j : Nat} {x y z : Value} (h : b ≠ g) : (((w.setCell ⟨g, j, none⟩ x).setCell ⟨g, j + 1, none⟩ y).setCell ⟨g, j + 2, none⟩ z).heap[b]? = w.heap[b]? :=
  (Below.heap_setCell _ _ _ _ h).trans ((Below.heap_setCell _ _ _ _ h).trans (Below.heap_setCell _ _ _ _ h))
set_option maxHeartbeats 8000000 in
set_option maxRecDepth 1000000 in
theorem putr_c (a : Addr) (X : Nat → Prop) (s : Stt) (K B : ByteArray) (w : World) (r : DR w a X s) (hf : Fine s) (hK : K.size ≤ 140737488351232) (hB : B.size ≤ 140737488351232) : Calls Try.prog 29 #[.pointer (some a), .string K, .string B] w fun e w' => e = .returned (.int .i64 (putE s K.data.toList B.data.toList)) ∧ (∃ X', DR w' a X' (putS s K.data.toList B.data.toList) ∧ ∀ b, X' b → X b ∨ w.heap.size ≤ b) ∧ Fr X w w' := by
  have HD := Lib.hid r
  have hfew := hf.few
  have hmany := hf.many K.data.toList
  obtain ⟨h, gC, cap, nl, rs, rb, rfl, r, hx⟩ := r
  have HX := Lib.hid hx
  have HR := Lib.hid r
  have hrl : rs.length ≤ 2000 := by have := r.cnt; omega
  have HPC := Lib.hid (place_c K w r (by have := r.cnt; omega))
  have c0 := r.c0
  have c1 := r.c1
  have f0 := r.f0
  have f1 := r.f1
  have hKl : K.data.toList.length = K.size := (Lib.size_eq K).symm
  have hBl : B.data.toList.length = B.size := (Lib.size_eq B).symm
  clear hx
  by_cases k0 : K.size = 0
  · obtain ⟨hki, hkn⟩ := empty_of k0
    have HE : Hid (putE s K.data.toList B.data.toList = 1) := by show _ = _; unfold putE; rw [hkn]; rfl
    clear hKl hBl hmany hkn k0 r
    go_enter Try.func29, Try.ntmps29
    go_wp2_with fail
    go_ret
    exact putr_no HD.out HE.out (by decide) rfl
  obtain ⟨hki, hkn⟩ := full_of k0
  by_cases k1 : 200 < K.size
  · have HE : Hid (putE s K.data.toList B.data.toList = 1) := by show _ = _; unfold putE; rw [if_pos (.inr (by omega))]
    have k1' : (200 : Int) < (K.size : Int) := by omega
    clear hKl hBl hmany hkn k0 k1 r
    go_enter Try.func29, Try.ntmps29
    go_wp2_with fail
    go_ret
    exact putr_no HD.out HE.out (by decide) rfl
  have k1' : ¬ (200 : Int) < (K.size : Int) := by omega
  have hnk : ¬ (K.data.toList = [] ∨ 200 < K.data.toList.length) := fun h => h.elim hkn fun h => by omega
  by_cases k2 : 40000 < B.size
  · have HE : Hid (putE s K.data.toList B.data.toList = 10) := by show _ = _; unfold putE; rw [if_neg hnk, if_pos (by omega)]
    have k2' : (40000 : Int) < (B.size : Int) := by omega
    clear hKl hBl hmany hkn k0 k1 k2 hnk r
    go_enter Try.func29, Try.ntmps29
    go_wp2_with fail
    go_ret
    exact putr_no HD.out HE.out (by decide) rfl
  have k2' : ¬ (40000 : Int) < (B.size : Int) := by omega
  by_cases k3 : 2000 ≤ s.n
  · have HE : Hid (putE s K.data.toList B.data.toList = 11) := by show _ = _; unfold putE; rw [if_neg hnk, if_neg (by omega), if_pos k3]
    have k3' : (2000 : Int) ≤ (s.n : Int) := by omega
    clear hKl hBl hmany hkn k0 k1 k2 hnk k3 r
    go_enter Try.func29, Try.ntmps29
    go_wp2_with fail
    go_ret
    exact putr_no HD.out HE.out (by decide) rfl
  have k3' : ¬ (2000 : Int) ≤ (s.n : Int) := by omega
  have HE : Hid (putE s K.data.toList B.data.toList = 0) := by show _ = _; unfold putE; rw [if_neg hnk, if_neg (by omega), if_neg k3]
  have hsn : s.n < 2000 := by omega
  obtain ⟨i0, hi0, hz0, hz1, hz2⟩ := info_parts str_info
  have hhl : h < w.heap.size := r.h_lt
  clear hKl hBl hkn k0 k1 k2 hnk k3
  rcases plc_cases r.says hf K.data.toList with ⟨h1, hv0, hcb⟩ | ⟨i, c, hi, hc, h1, hv0, hcb⟩
  rotate_left
  · cases nl with
    | true => rw [r.nil_rs] at hi; simp at hi
    | false =>
      simp only [Bool.false_eq_true, if_false] at c0
      obtain ⟨⟨q0, q1, q2⟩, fz⟩ := r.at hi
      have HFZ := Lib.hid fz
      have HP := Lib.hid h1
      have hilt := (List.getElem?_eq_some_iff.1 hi).1
      have hil : (i : Int) < (rs.length : Int) := by omega
      have hi0' : (0 : Int) ≤ (i : Int) := by omega
      have hni : ¬ (i : Int) < 0 := by omega
      have hHO := r.own
      simp only [Bool.false_eq_true, if_false] at hHO
      have HOC := Lib.hid hHO
      obtain ⟨ys, hys, hol, hob⟩ := r.rows c (List.mem_of_getElem? hi)
      obtain ⟨A, cl, hcv⟩ := own_value hol
      rw [hcv] at hol hob q1
      rw [hc] at hys hob
      have hyl : ys.length ≤ 2000 := by
        have : (bl ys).length = ys.length := by simp [bl]
        rw [hys] at this; omega
      have HOL := Lib.hid hol
      have HYS := Lib.hid hys
      have hoff := r.off c (List.mem_of_getElem? hi)
      have HVB : Hid (∀ b, (Value.slice A ys.length cl).ownBlock = some b → b ≠ h ∧ b ≠ gC ∧ rb K.data.toList = b) := Lib.hid fun b e => by
        obtain rfl := Option.some.inj (hob.symm.trans e)
        rw [hc] at hoff
        exact ⟨hoff.1, hoff.2 rfl, rfl⟩
      have HI := Lib.hid hi
      have HC := Lib.hid hc
      have HRS : Hid (∀ d ∈ rs, ky d ≠ K.data.toList → rb (ky d) ≠ rb K.data.toList) := Lib.hid fun d hd hne e => hne ((r.inj d hd c (List.mem_of_getElem? hi) (by rw [hc]; exact e)).trans hc)
      have hgU := r.c_lt rfl
      have hgh := r.n1 rfl
      have hhU := hhl
      have HCV := Lib.hid hcv
      clear h1 hilt hHO hys hol hob hoff hi hc hcv fz r hf hv0 hcb
      go_enter Try.func29, Try.ntmps29
      go_wp2_with fail
      refine HPC.out.mono ?_
      rintro e w1 ⟨rfl, hw⟩
      obtain rfl : w = w1 := hw.symm
      rw [HP.out]
      dsimp only
      have e0 := c0
      have e1 := c1
      have g0 := f0
      have g1 := f1
      clear c0 c1 f0 f1
      go_wp2_with (
        at_builtin
        go_loud (refine wpList_append_lies _ rfl _ _ _ rfl 0 9 i0 _ 1 16 Try.underlying37 hi0 hz0 hz1 hz2 rfl (by decide) _ ys.length (sv ys) rfl ((HOL.out.alloc _).alloc _) _ 1 1 [.string B] rfl rfl (lit_cells_at _ _ _ _ (by simp)) (sv_one [B]) (by decide) (by simp only [maxLen]; omega) (by omega) (Nat.zero_le _) (w.heap.size + 2) (by simp) ?_)
        intro gg cap2 w3 hown3 hgrow3 hat3 hlt3
        have HO3 := Lib.hid hown3
        have HG3 := Lib.hid hgrow3
        have HAT := Lib.hid hat3
        have HLT := Lib.hid hlt3
        go_loud (have hQ : some w.heap.size ≠ (Value.slice A ys.length cl).ownBlock := fun e => Nat.lt_irrefl _ (HOL.out.lt _ e.symm).2)
        go_loud (have k0 := hgrow3.cell (a := ⟨w.heap.size, 0, none⟩) (v := .string c.k) (by rw [World.cell?_alloc_past _ _ _ (by simp), World.cell?_alloc_new]; rfl) hQ)
        go_loud (have k1 := hgrow3.cell (a := ⟨w.heap.size, 1, none⟩) (v := .slice A ys.length cl) (by rw [World.cell?_alloc_past _ _ _ (by simp), World.cell?_alloc_new]; rfl) hQ)
        go_loud (have k2 := hgrow3.cell (a := ⟨w.heap.size, 2, none⟩) (v := .bool c.b) (by rw [World.cell?_alloc_past _ _ _ (by simp), World.cell?_alloc_new]; rfl) hQ)
        go_loud (have z1 : w3.frozen? ⟨w.heap.size, 1, none⟩ = false := by rw [World.frozen?_of_block (a := ⟨w.heap.size, 1, none⟩) (hgrow3.block w.heap.size (by simp; omega) hQ), World.frozen?_alloc_past _ _ _ (by simp), World.frozen?_alloc_new])
        go_loud (have z2 : w3.frozen? ⟨w.heap.size, 2, none⟩ = false := by rw [World.frozen?_of_block (a := ⟨w.heap.size, 2, none⟩) (hgrow3.block w.heap.size (by simp; omega) hQ), World.frozen?_alloc_past _ _ _ (by simp), World.frozen?_alloc_new])
        clear hown3 hgrow3 hat3 hlt3 hQ)
      have hB3 : Hid (∀ b, b < w.heap.size → (∀ x, (Value.slice A ys.length cl).ownBlock = some x → b ≠ x) → w3.heap[b]? = w.heap[b]?) := Lib.hid fun b hb hn => by
        have h2 : Below w.heap.size w ((w.alloc (.cells #[.string c.k, .slice A ys.length cl, .bool c.b] 75)).alloc (.cells #[.string B] 9)) := by
          have a1 := (Below.refl w.heap.size w).alloc (Nat.le_refl _) (.cells #[.string c.k, .slice A ys.length cl, .bool c.b] 75)
          exact a1.alloc a1.size _
        exact (HG3.out.block b (Nat.lt_of_lt_of_le hb h2.size) fun e => hn b e.symm rfl).trans (h2.block b hb)
      have hs3 : w.heap.size + 2 ≤ w3.heap.size := by
        have := HG3.out.size
        simpa using this
      have hB5 : Hid (∀ b, b < w.heap.size → (∀ x, (Value.slice A ys.length cl).ownBlock = some x → b ≠ x) → ((w3.setCell ⟨w.heap.size, 1, none⟩ (.slice (some ⟨gg, 0, none⟩) (ys.length + 1) cap2)).setCell ⟨w.heap.size, 2, none⟩ (.bool true)).heap[b]? = w.heap[b]?) := Lib.hid fun b hb hn =>
        (Below.heap_setCell _ _ _ _ (by simp; omega)).trans ((Below.heap_setCell _ _ _ _ (by simp; omega)).trans (hB3.out b hb hn))
      have hgQ : gg ≠ w.heap.size := fun e => by
        rcases HAT.out with h1 | h1
        · have := (HOL.out.lt _ h1).2; omega
        · omega
      have HO5 : Hid (((w3.setCell ⟨w.heap.size, 1, none⟩ (.slice (some ⟨gg, 0, none⟩) (ys.length + 1) cap2)).setCell ⟨w.heap.size, 2, none⟩ (.bool true)).ownsRow 0 9 1 (.slice (some ⟨gg, 0, none⟩) (ys.length + 1) cap2) (ys.length + 1) (sv ys ++ [.string B])) := own_moved HO3.out ((Below.heap_setCell _ _ _ _ hgQ).trans (Below.heap_setCell _ _ _ _ hgQ))
      have p0 : ((w3.setCell ⟨w.heap.size, 1, none⟩ (.slice (some ⟨gg, 0, none⟩) (ys.length + 1) cap2)).setCell ⟨w.heap.size, 2, none⟩ (.bool true)).cell? ⟨w.heap.size, 0, none⟩ = some (.string c.k) := (World.cell?_setCell_other _ _ _ _ (fun e => by injection e with _ e _; omega)).trans ((World.cell?_setCell_other _ _ _ _ (fun e => by injection e with _ e _; omega)).trans k0)
      have p1 : ((w3.setCell ⟨w.heap.size, 1, none⟩ (.slice (some ⟨gg, 0, none⟩) (ys.length + 1) cap2)).setCell ⟨w.heap.size, 2, none⟩ (.bool true)).cell? ⟨w.heap.size, 1, none⟩ = some (.slice (some ⟨gg, 0, none⟩) (ys.length + 1) cap2) := (World.cell?_setCell_other _ _ _ _ (fun e => by injection e with _ e _; omega)).trans (World.cell?_setCell_same _ _ _ k1)
      have p2 : ((w3.setCell ⟨w.heap.size, 1, none⟩ (.slice (some ⟨gg, 0, none⟩) (ys.length + 1) cap2)).setCell ⟨w.heap.size, 2, none⟩ (.bool true)).cell? ⟨w.heap.size, 2, none⟩ = some (.bool true) := World.cell?_setCell_same _ _ _ ((World.cell?_setCell_other _ _ _ _ (fun e => by injection e with _ e _; omega)).trans k2)
      have hs5 : w.heap.size + 2 ≤ ((w3.setCell ⟨w.heap.size, 1, none⟩ (.slice (some ⟨gg, 0, none⟩) (ys.length + 1) cap2)).setCell ⟨w.heap.size, 2, none⟩ (.bool true)).heap.size := by simpa using hs3
      have ho5 : Hid (((w3.setCell ⟨w.heap.size, 1, none⟩ (.slice (some ⟨gg, 0, none⟩) (ys.length + 1) cap2)).setCell ⟨w.heap.size, 2, none⟩ (.bool true)).os = w.os ∧ ((w3.setCell ⟨w.heap.size, 1, none⟩ (.slice (some ⟨gg, 0, none⟩) (ys.length + 1) cap2)).setCell ⟨w.heap.size, 2, none⟩ (.bool true)).tape = w.tape ∧ ((w3.setCell ⟨w.heap.size, 1, none⟩ (.slice (some ⟨gg, 0, none⟩) (ys.length + 1) cap2)).setCell ⟨w.heap.size, 2, none⟩ (.bool true)).output = w.output) := ⟨HG3.out.os, HG3.out.tape, HG3.out.output⟩
      clear k0 k1 k2 z1 z2
      generalize (w3.setCell ⟨w.heap.size, 1, none⟩ (.slice (some ⟨gg, 0, none⟩) (ys.length + 1) cap2)).setCell ⟨w.heap.size, 2, none⟩ (.bool true) = w5 at hB5 HO5 p0 p1 p2 hs5 ho5 ⊢
      have eH := hB5.out h hhU (fun x e e2 => (HVB.out x e).1 e2.symm)
      have eC := hB5.out gC hgU (fun x e e2 => (HVB.out x e).2.1 e2.symm)
      have u0 : w5.cell? ⟨h, 0, none⟩ = some (.slice (some ⟨gC, 0, none⟩) rs.length cap) := (World.cell?_of_block (a := ⟨h, 0, none⟩) eH).trans e0
      have HU1 : Hid (w5.cell? ⟨h, 1, none⟩ = some (.int .i64 (s.n : Int))) := (World.cell?_of_block (a := ⟨h, 1, none⟩) eH).trans e1
      have HV0 : Hid (w5.frozen? ⟨h, 0, none⟩ = false ∧ w5.frozen? ⟨h, 1, none⟩ = false) := ⟨(World.frozen?_of_block (a := ⟨h, 0, none⟩) eH).trans g0, (World.frozen?_of_block (a := ⟨h, 1, none⟩) eH).trans g1⟩
      have hz : ∀ j, w5.drew.frozen? ⟨gC, j, none⟩ = false := fun j => (World.frozen?_of_block (a := ⟨gC, j, none⟩) eC).trans (HFZ.out j)
      have hz0' := hz (i * 3)
      have r0 : w5.drew.cell? ⟨gC, i * 3, none⟩ = some (.string c.k) := (World.cell?_of_block (a := ⟨gC, i * 3, none⟩) eC).trans q0
      have r1 : w5.drew.cell? ⟨gC, i * 3 + 1, none⟩ = some (.slice A ys.length cl) := (World.cell?_of_block (a := ⟨gC, i * 3 + 1, none⟩) eC).trans q1
      have r2 : w5.drew.cell? ⟨gC, i * 3 + 2, none⟩ = some (.bool c.b) := (World.cell?_of_block (a := ⟨gC, i * 3 + 2, none⟩) eC).trans q2
      have r1' : (w5.setCell ⟨gC, i * 3, none⟩ (.string c.k)).drew.cell? ⟨gC, i * 3 + 1, none⟩ = some (.slice A ys.length cl) := (World.cell?_setCell_other w5 ⟨gC, i * 3, none⟩ ⟨gC, i * 3 + 1, none⟩ (.string c.k) (fun e => by injection e with _ e _; omega)).trans r1
      have r2' : ((w5.setCell ⟨gC, i * 3, none⟩ (.string c.k)).setCell ⟨gC, i * 3 + 1, none⟩ (.slice (some ⟨gg, 0, none⟩) (ys.length + 1) cap2)).drew.cell? ⟨gC, i * 3 + 2, none⟩ = some (.bool c.b) := (World.cell?_setCell_other (w5.setCell ⟨gC, i * 3, none⟩ (.string c.k)) ⟨gC, i * 3 + 1, none⟩ ⟨gC, i * 3 + 2, none⟩ _ (fun e => by injection e with _ e _; omega)).trans ((World.cell?_setCell_other w5 ⟨gC, i * 3, none⟩ ⟨gC, i * 3 + 2, none⟩ (.string c.k) (fun e => by injection e with _ e _; omega)).trans r2)
      have z1' : (w5.setCell ⟨gC, i * 3, none⟩ (.string c.k)).drew.frozen? ⟨gC, i * 3 + 1, none⟩ = false := (World.frozen?_setCell w5 ⟨gC, i * 3, none⟩ ⟨gC, i * 3 + 1, none⟩ (.string c.k)).trans (hz (i * 3 + 1))
      have z2' : ((w5.setCell ⟨gC, i * 3, none⟩ (.string c.k)).setCell ⟨gC, i * 3 + 1, none⟩ (.slice (some ⟨gg, 0, none⟩) (ys.length + 1) cap2)).drew.frozen? ⟨gC, i * 3 + 2, none⟩ = false := (World.frozen?_setCell (w5.setCell ⟨gC, i * 3, none⟩ (.string c.k)) ⟨gC, i * 3 + 1, none⟩ ⟨gC, i * 3 + 2, none⟩ _).trans ((World.frozen?_setCell w5 ⟨gC, i * 3, none⟩ ⟨gC, i * 3 + 2, none⟩ (.string c.k)).trans (hz (i * 3 + 2)))
      clear q0 q1 q2 r1 r2
      have HOC5 : Hid (w5.drew.ownsRow 0 75 3 (.slice (some ⟨gC, 0, none⟩) rs.length cap) rs.length (flat rs)) := own_moved HOC.out eC
      have hcQ : gC ≠ w.heap.size := by omega
      have hhQ : h ≠ w.heap.size := by omega
      have HEC := Lib.hid eC
      clear eH eC e0 e1 g0 g1 hB3 hs3
      go_region_held3 (fun w' => w'.cell? ⟨h, 0, none⟩ = some (.slice (some ⟨gC, 0, none⟩) rs.length cap) ∧ w'.cell? ⟨w.heap.size, 0, none⟩ = some (.string c.k) ∧ w'.cell? ⟨w.heap.size, 1, none⟩ = some (.slice (some ⟨gg, 0, none⟩) (ys.length + 1) cap2) ∧ w'.cell? ⟨w.heap.size, 2, none⟩ = some (.bool true))
        (first | go_keep | (refine ⟨?_, ?_, ?_, ?_⟩ <;> (rw [World.cell?_setCell_other _ _ _ _ (fun e => by injection e with e _ _; omega), World.cell?_setCell_other _ _ _ _ (fun e => by injection e with e _ _; omega), World.cell?_setCell_other _ _ _ _ (fun e => by injection e with e _ _; omega)]; assumption)))
        (fail)
      have hilt : i < rs.length := by omega
      have HOC6 : Hid ((((w5.setCell ⟨gC, i * 3, none⟩ (.string c.k)).setCell ⟨gC, i * 3 + 1, none⟩ (.slice (some ⟨gg, 0, none⟩) (ys.length + 1) cap2)).setCell ⟨gC, i * 3 + 2, none⟩ (.bool true)).drew.ownsRow 0 75 3 (.slice (some ⟨gC, 0, none⟩) (rs.set i ⟨c.k, .slice (some ⟨gg, 0, none⟩) (ys.length + 1) cap2, true⟩).length cap) (rs.set i ⟨c.k, .slice (some ⟨gg, 0, none⟩) (ys.length + 1) cap2, true⟩).length (flat (rs.set i ⟨c.k, .slice (some ⟨gg, 0, none⟩) (ys.length + 1) cap2, true⟩))) := Lib.hid (own_moved (own_set3 HOC5.out ⟨c.k, .slice (some ⟨gg, 0, none⟩) (ys.length + 1) cap2, true⟩ hilt) rfl)
      have HH6 : Hid (∀ b, b ≠ gC → (((w5.setCell ⟨gC, i * 3, none⟩ (.string c.k)).setCell ⟨gC, i * 3 + 1, none⟩ (.slice (some ⟨gg, 0, none⟩) (ys.length + 1) cap2)).setCell ⟨gC, i * 3 + 2, none⟩ (.bool true)).drew.heap[b]? = w5.heap[b]?) := Lib.hid fun b hb => heap_set3 hb
      have HS6 : Hid ((((w5.setCell ⟨gC, i * 3, none⟩ (.string c.k)).setCell ⟨gC, i * 3 + 1, none⟩ (.slice (some ⟨gg, 0, none⟩) (ys.length + 1) cap2)).setCell ⟨gC, i * 3 + 2, none⟩ (.bool true)).drew.heap.size = w5.heap.size ∧ (((w5.setCell ⟨gC, i * 3, none⟩ (.string c.k)).setCell ⟨gC, i * 3 + 1, none⟩ (.slice (some ⟨gg, 0, none⟩) (ys.length + 1) cap2)).setCell ⟨gC, i * 3 + 2, none⟩ (.bool true)).drew.os = w5.os ∧ (((w5.setCell ⟨gC, i * 3, none⟩ (.string c.k)).setCell ⟨gC, i * 3 + 1, none⟩ (.slice (some ⟨gg, 0, none⟩) (ys.length + 1) cap2)).setCell ⟨gC, i * 3 + 2, none⟩ (.bool true)).drew.tape = w5.tape ∧ (((w5.setCell ⟨gC, i * 3, none⟩ (.string c.k)).setCell ⟨gC, i * 3 + 1, none⟩ (.slice (some ⟨gg, 0, none⟩) (ys.length + 1) cap2)).setCell ⟨gC, i * 3 + 2, none⟩ (.bool true)).drew.output = w5.output) := Lib.hid ⟨by simp, rfl, rfl, rfl⟩
      generalize (((w5.setCell ⟨gC, i * 3, none⟩ (.string c.k)).setCell ⟨gC, i * 3 + 1, none⟩ (.slice (some ⟨gg, 0, none⟩) (ys.length + 1) cap2)).setCell ⟨gC, i * 3 + 2, none⟩ (.bool true)).drew = w6 at HOC6 HH6 HS6 ⊢
      have hCh : h ≠ gC := fun e => hgh e.symm
      have eH6 := HH6.out h hCh
      have c1 : w6.cell? ⟨h, 1, none⟩ = some (.int .i64 (s.n : Int)) := (World.cell?_of_block (a := ⟨h, 1, none⟩) eH6).trans HU1.out
      have c0 : w6.cell? ⟨h, 0, none⟩ = some (.slice (some ⟨gC, 0, none⟩) rs.length cap) := (World.cell?_of_block (a := ⟨h, 0, none⟩) eH6).trans u0
      have f0 : w6.frozen? ⟨h, 0, none⟩ = false := (World.frozen?_of_block (a := ⟨h, 0, none⟩) eH6).trans HV0.out.1
      have f1 : w6.frozen? ⟨h, 1, none⟩ = false := (World.frozen?_of_block (a := ⟨h, 1, none⟩) eH6).trans HV0.out.2
      clear hz hz0' r0 r1' r2' z1' z2' eH6 u0 p0 p1 p2
      go_wp2_with fail
      go_ret
      have HF0 : Hid (∀ b, b ≠ h → (w6.setCell ⟨h, 1, none⟩ (.int .i64 ((s.n : Int) + 1))).heap[b]? = w6.heap[b]?) := Lib.hid fun b hb => Below.heap_setCell _ _ _ _ hb
      have hgh6 : gg ≠ h := fun e => by
        rcases HAT.out with h1 | h1
        · exact (HVB.out gg h1).1 e
        · omega
      have hgC6 : gg ≠ gC := fun e => by
        rcases HAT.out with h1 | h1
        · exact (HVB.out gg h1).2.1 e
        · omega
      have hsz : w.heap.size ≤ w6.heap.size := by
        have := HS6.out.1
        omega
      have hblk : ∀ b, b < w.heap.size → b ≠ h → b ≠ gC → (∀ x, (Value.slice A ys.length cl).ownBlock = some x → b ≠ x) → (w6.setCell ⟨h, 1, none⟩ (.int .i64 ((s.n : Int) + 1))).heap[b]? = w.heap[b]? := fun b hb h1 h2 h3 =>
        (HF0.out b h1).trans ((HH6.out b h2).trans (hB5.out b hb h3))
      refine ⟨by rw [HE.out]; rfl, ?_, ?_⟩
      · rw [putS_ok HE.out]
        refine HR.out.putF (gC' := gC) (cap' := cap) (gg := gg) (rs' := rs.set i ⟨c.k, .slice (some ⟨gg, 0, none⟩) (ys.length + 1) cap2, true⟩) (nv := .slice (some ⟨gg, 0, none⟩) (ys.length + 1) cap2) HX.out ?_ ?_ ?_ ?_ ?_ ?_ ?_ ?_ ?_ hgh hgh6 hgC6 ?_ ?_ ?_ ?_
        · rw [World.cell?_setCell_other _ _ _ _ (fun e => by injection e with _ e _; omega), c0]; rw [List.length_set]
        · exact World.cell?_setCell_same _ _ _ c1
        · exact (World.frozen?_setCell ..).trans f0
        · exact (World.frozen?_setCell ..).trans f1
        · exact own_moved HOC6.out (HF0.out gC hgh)
        · rw [← HC.out]; exact says_put_old HR.out.says HI.out _ _
        · exact row_end HYS.out (own_moved HO5.out ((HF0.out gg hgh6).trans (HH6.out gg hgC6)))
        · exact fun d hd hne => hblk _ (HR.out.rows d hd).lt (HR.out.off d hd).1 ((HR.out.off d hd).2 rfl) fun x hx e => HRS.out d hd hne (e.trans (HVB.out x hx).2.2.symm)
        · intro d hd
          obtain ⟨j, hj⟩ := List.mem_iff_getElem?.1 hd
          rcases set_at hj with ⟨_, rfl, _⟩ | ⟨hne, hj'⟩
          · exact .inl ⟨HC.out, rfl⟩
          · exact .inr ⟨List.mem_of_getElem? hj', fun e => hne (HR.out.says.at hj' HI.out (e.trans HC.out.symm))⟩
        · intro d hd hne
          refine ⟨(HR.out.off d hd).2 rfl, fun e => ?_⟩
          rcases HAT.out with h1 | h1
          · exact HRS.out d hd hne (e.trans (HVB.out gg h1).2.2.symm)
          · have := (HR.out.rows d hd).lt; omega
        · exact .inl ⟨rfl, rfl⟩
        · rcases HAT.out with h1 | h1
          · exact .inl ⟨c, List.mem_of_getElem? HI.out, HC.out, (HVB.out gg h1).2.2⟩
          · exact .inr (by omega)
        · rw [List.length_set]; have := HR.out.cnt; omega
      · exact ⟨HS6.out.2.1.trans ho5.out.1 |>.trans (⟨rfl, rfl, rfl⟩ : w.os = w.os ∧ w.tape = w.tape ∧ w.output = w.output).1, HS6.out.2.2.1.trans ho5.out.2.1 |>.trans (⟨rfl, rfl, rfl⟩ : w.os = w.os ∧ w.tape = w.tape ∧ w.output = w.output).2.1, HS6.out.2.2.2.trans ho5.out.2.2 |>.trans (⟨rfl, rfl, rfl⟩ : w.os = w.os ∧ w.tape = w.tape ∧ w.output = w.output).2.2, by simpa using hsz, fun b hb hnx => hblk b hb (fun e => hnx ((HX.out b).2 (.inl e))) (fun e => hnx ((HX.out b).2 (.inr (.inl ⟨rfl, e⟩)))) fun x hx e => hnx ((HX.out b).2 (.inr (.inr ⟨c, List.mem_of_getElem? HI.out, by rw [HC.out, (HVB.out x hx).2.2, e]⟩)))⟩
  · obtain ⟨A0, cap0, hV, hA0⟩ : ∃ A0 cap0, (if nl then Value.slice none 0 0 else Value.slice (some ⟨gC, 0, none⟩) rs.length cap) = Value.slice A0 rs.length cap0 ∧ ∀ b, (Value.slice A0 rs.length cap0).ownBlock = some b → nl = false ∧ b = gC := by
      cases nl with
      | true => exact ⟨none, 0, by rw [r.nil_rs]; rfl, fun b e => by cases e⟩
      | false => exact ⟨_, _, rfl, fun b e => ⟨rfl, (Option.some.inj e).symm⟩⟩
    rw [hV] at c0
    have hown := r.own
    rw [hV] at hown
    have HOW := Lib.hid hown
    have HA0 := Lib.hid hA0
    have HV0' := Lib.hid hv0
    have HFI := Lib.hid hf
    have HP := Lib.hid h1
    obtain ⟨iC, hiC, hzCa, hzCb, hzCc⟩ := info_parts cell_info
    clear hV hown hA0 hv0 h1 hf r hcb
    go_enter Try.func29, Try.ntmps29
    go_wp2_with fail
    refine HPC.out.mono ?_
    rintro e w1 ⟨rfl, hw⟩
    obtain rfl : w = w1 := hw.symm
    rw [HP.out]
    dsimp only
    go_wp2_with (
      at_builtin
      (first
      | (refine wpList_append_lies _ rfl _ _ _ rfl 0 75 iC _ 3 48 Try.underlying70 hiC hzCa hzCb hzCc rfl (by decide) _ rs.length (flat rs) rfl (HOW.out.alloc _) _ 1 1 [.string K, .slice none 0 0, .bool false] rfl rfl (lit_cells_at _ _ _ _ (by simp)) (by simp [Value.oneCell']) (by decide) (by simp only [maxLen]; omega) (by omega) (Nat.zero_le _) (w.heap.size + 1) (by simp) ?_
         intro gCC capC w2 hown2 hgrow2 hat2 hlt2
         have hQ : some h ≠ (Value.slice A0 rs.length cap0).ownBlock := fun e => HR.out.n1 (HA0.out _ e.symm).1 (HA0.out _ e.symm).2.symm
         have eHp : w2.heap[h]? = w.heap[h]? := (hgrow2.block h (by simp; omega) hQ).trans (((Below.refl w.heap.size w).alloc (Nat.le_refl _) _).block h hhl)
         have hgh : gCC ≠ h := fun e => by
           rcases hat2 with h1 | h1
           · exact hQ (h1.trans (congrArg some e)).symm
           · omega
         have k0 : w2.cell? ⟨h, 0, none⟩ = some (.slice A0 rs.length cap0) := (World.cell?_of_block (a := ⟨h, 0, none⟩) eHp).trans c0
         have k1 : w2.frozen? ⟨h, 0, none⟩ = false := (World.frozen?_of_block (a := ⟨h, 0, none⟩) eHp).trans f0
         have e0 : (w2.setCell ⟨h, 0, none⟩ (.slice (some ⟨gCC, 0, none⟩) (rs.length + 1) capC)).cell? ⟨h, 0, none⟩ = some (.slice (some ⟨gCC, 0, none⟩) (rs.length + 1) capC) := World.cell?_setCell_same _ _ _ k0
         have e1 : (w2.setCell ⟨h, 0, none⟩ (.slice (some ⟨gCC, 0, none⟩) (rs.length + 1) capC)).cell? ⟨h, 1, none⟩ = some (.int .i64 (s.n : Int)) := (World.cell?_setCell_other _ _ _ _ (fun e => by injection e with _ e _; omega)).trans ((World.cell?_of_block (a := ⟨h, 1, none⟩) eHp).trans c1)
         have g0 : (w2.setCell ⟨h, 0, none⟩ (.slice (some ⟨gCC, 0, none⟩) (rs.length + 1) capC)).frozen? ⟨h, 0, none⟩ = false := (World.frozen?_setCell ..).trans k1
         have g1 : (w2.setCell ⟨h, 0, none⟩ (.slice (some ⟨gCC, 0, none⟩) (rs.length + 1) capC)).frozen? ⟨h, 1, none⟩ = false := (World.frozen?_setCell ..).trans ((World.frozen?_of_block (a := ⟨h, 1, none⟩) eHp).trans f1)
         have o2 : (w2.setCell ⟨h, 0, none⟩ (.slice (some ⟨gCC, 0, none⟩) (rs.length + 1) capC)).ownsRow 0 75 3 (.slice (some ⟨gCC, 0, none⟩) (rs.length + 1) capC) (rs.length + 1) (flat (rs ++ [(Cl.mk K (.slice none 0 0) false)])) := own_moved (by rw [flat_app]; exact hown2) (Below.heap_setCell _ _ _ _ hgh)
         have HOC := Lib.hid o2
         have qq := flat_get (rs := rs ++ [(Cl.mk K (.slice none 0 0) false)]) (i := rs.length) (c := (Cl.mk K (.slice none 0 0) false)) (by simp)
         have q0 : (w2.setCell ⟨h, 0, none⟩ (.slice (some ⟨gCC, 0, none⟩) (rs.length + 1) capC)).cell? ⟨gCC, rs.length * 3, none⟩ = some (.string K) := (o2.cellAt (rs.length * 3) (by omega)).trans qq.1
         have q1 : (w2.setCell ⟨h, 0, none⟩ (.slice (some ⟨gCC, 0, none⟩) (rs.length + 1) capC)).cell? ⟨gCC, rs.length * 3 + 1, none⟩ = some (.slice none 0 0) := (o2.cellAt (rs.length * 3 + 1) (by omega)).trans qq.2.1
         have q2 : (w2.setCell ⟨h, 0, none⟩ (.slice (some ⟨gCC, 0, none⟩) (rs.length + 1) capC)).cell? ⟨gCC, rs.length * 3 + 2, none⟩ = some (.bool false) := (o2.cellAt (rs.length * 3 + 2) (by omega)).trans qq.2.2
         have HFZ : Hid (∀ j, (w2.setCell ⟨h, 0, none⟩ (.slice (some ⟨gCC, 0, none⟩) (rs.length + 1) capC)).frozen? ⟨gCC, j, none⟩ = false) := Lib.hid fun j => o2.frozenAt j
         have HOL : Hid ((w2.setCell ⟨h, 0, none⟩ (.slice (some ⟨gCC, 0, none⟩) (rs.length + 1) capC)).ownsRow 0 9 1 (.slice none 0 0) 0 []) := Lib.hid (World.ownsRow_nil _ _ _ _)
         have HVB : Hid (∀ b, (Value.slice none 0 0).ownBlock = some b → b ≠ h ∧ b ≠ gCC ∧ rb K.data.toList = b) := Lib.hid fun b e => by cases e
         have HUW : Hid (∀ b, b < w.heap.size → b ≠ h → (∀ x, (Value.slice A0 rs.length cap0).ownBlock = some x → b ≠ x) → (w2.setCell ⟨h, 0, none⟩ (.slice (some ⟨gCC, 0, none⟩) (rs.length + 1) capC)).heap[b]? = w.heap[b]?) := Lib.hid fun b hb h1 h2 => (Below.heap_setCell _ _ _ _ h1).trans ((hgrow2.block b (by simp; omega) fun e => h2 b e.symm rfl).trans (((Below.refl w.heap.size w).alloc (Nat.le_refl _) _).block b hb))
         have HOSU : Hid ((w2.setCell ⟨h, 0, none⟩ (.slice (some ⟨gCC, 0, none⟩) (rs.length + 1) capC)).os = w.os ∧ (w2.setCell ⟨h, 0, none⟩ (.slice (some ⟨gCC, 0, none⟩) (rs.length + 1) capC)).tape = w.tape ∧ (w2.setCell ⟨h, 0, none⟩ (.slice (some ⟨gCC, 0, none⟩) (rs.length + 1) capC)).output = w.output) := ⟨hgrow2.os, hgrow2.tape, hgrow2.output⟩
         have hUw : w.heap.size + 1 ≤ (w2.setCell ⟨h, 0, none⟩ (.slice (some ⟨gCC, 0, none⟩) (rs.length + 1) capC)).heap.size := by have := hgrow2.size; simpa using this
         have hgU : gCC < (w2.setCell ⟨h, 0, none⟩ (.slice (some ⟨gCC, 0, none⟩) (rs.length + 1) capC)).heap.size := by simpa using hlt2
         have hhU : h < (w2.setCell ⟨h, 0, none⟩ (.slice (some ⟨gCC, 0, none⟩) (rs.length + 1) capC)).heap.size := by omega
         have HAT2 : Hid ((Value.slice A0 rs.length cap0).ownBlock = some gCC ∨ gCC = w.heap.size + 1) := hat2
         have HSZ : Hid (w2.heap.size = (w2.setCell ⟨h, 0, none⟩ (.slice (some ⟨gCC, 0, none⟩) (rs.length + 1) capC)).heap.size) := Lib.hid (by simp)
         have hil : (rs.length : Int) < ((rs.length + 1 : Nat) : Int) := by omega
         have hi0' : (0 : Int) ≤ (rs.length : Int) := by omega
         have hil2 : (rs.length : Int) < (rs.length : Int) + 1 := by omega
         have hni : ¬ (rs.length : Int) < 0 := by omega
         clear hown2 hgrow2 hat2 hlt2 hQ eHp o2 qq)
      | (rw [HSZ.out]
         clear HSZ k0 k1
         generalize (w2.setCell ⟨h, 0, none⟩ (.slice (some ⟨gCC, 0, none⟩) (rs.length + 1) capC)) = U at e0 e1 g0 g1 q0 q1 q2 HFZ HOC HOL HUW HOSU hUw hgU hhU ⊢
         go_loud (refine wpList_append_lies _ rfl _ _ _ rfl 0 9 i0 _ 1 16 Try.underlying37 hi0 hz0 hz1 hz2 rfl (by decide) _ 0 [] rfl ((HOL.out.alloc _).alloc _) _ 1 1 [.string B] rfl rfl (lit_cells_at _ _ _ _ (by simp)) (sv_one [B]) (by decide) (by simp only [maxLen]; omega) (by omega) (Nat.zero_le _) (U.heap.size + 2) (by simp) ?_)
         intro gg cap2 w3 hown3 hgrow3 hat3 hlt3
         have HO3 := Lib.hid hown3
         have HG3 := Lib.hid hgrow3
         have HAT := Lib.hid hat3
         have HLT := Lib.hid hlt3
         go_loud (have hQ : some U.heap.size ≠ (Value.slice none 0 0).ownBlock := fun e => Nat.lt_irrefl _ (HOL.out.lt _ e.symm).2)
         go_loud (have k0 := hgrow3.cell (a := ⟨U.heap.size, 0, none⟩) (v := .string K) (by rw [World.cell?_alloc_past _ _ _ (by simp), World.cell?_alloc_new]; rfl) hQ)
         go_loud (have k1 := hgrow3.cell (a := ⟨U.heap.size, 1, none⟩) (v := .slice none 0 0) (by rw [World.cell?_alloc_past _ _ _ (by simp), World.cell?_alloc_new]; rfl) hQ)
         go_loud (have k2 := hgrow3.cell (a := ⟨U.heap.size, 2, none⟩) (v := .bool false) (by rw [World.cell?_alloc_past _ _ _ (by simp), World.cell?_alloc_new]; rfl) hQ)
         go_loud (have z1 : w3.frozen? ⟨U.heap.size, 1, none⟩ = false := by rw [World.frozen?_of_block (a := ⟨U.heap.size, 1, none⟩) (hgrow3.block U.heap.size (by simp; omega) hQ), World.frozen?_alloc_past _ _ _ (by simp), World.frozen?_alloc_new])
         go_loud (have z2 : w3.frozen? ⟨U.heap.size, 2, none⟩ = false := by rw [World.frozen?_of_block (a := ⟨U.heap.size, 2, none⟩) (hgrow3.block U.heap.size (by simp; omega) hQ), World.frozen?_alloc_past _ _ _ (by simp), World.frozen?_alloc_new])
         clear hown3 hgrow3 hat3 hlt3 hQ)))
    have hB3 : Hid (∀ b, b < U.heap.size → (∀ x, (Value.slice none 0 0).ownBlock = some x → b ≠ x) → w3.heap[b]? = U.heap[b]?) := Lib.hid fun b hb hn => by
      have h2 : Below U.heap.size U ((U.alloc (.cells #[.string K, .slice none 0 0, .bool false] 75)).alloc (.cells #[.string B] 9)) := by
        have a1 := (Below.refl U.heap.size U).alloc (Nat.le_refl _) (.cells #[.string K, .slice none 0 0, .bool false] 75)
        exact a1.alloc a1.size _
      exact (HG3.out.block b (Nat.lt_of_lt_of_le hb h2.size) fun e => hn b e.symm rfl).trans (h2.block b hb)
    have hs3 : U.heap.size + 2 ≤ w3.heap.size := by
      have := HG3.out.size
      simpa using this
    have hB5 : Hid (∀ b, b < U.heap.size → (∀ x, (Value.slice none 0 0).ownBlock = some x → b ≠ x) → ((w3.setCell ⟨U.heap.size, 1, none⟩ (.slice (some ⟨gg, 0, none⟩) 1 cap2)).setCell ⟨U.heap.size, 2, none⟩ (.bool true)).heap[b]? = U.heap[b]?) := Lib.hid fun b hb hn =>
      (Below.heap_setCell _ _ _ _ (by simp; omega)).trans ((Below.heap_setCell _ _ _ _ (by simp; omega)).trans (hB3.out b hb hn))
    have hgQ : gg ≠ U.heap.size := fun e => by
      rcases HAT.out with h1 | h1
      · have := (HOL.out.lt _ h1).2; omega
      · omega
    have HO5 : Hid (((w3.setCell ⟨U.heap.size, 1, none⟩ (.slice (some ⟨gg, 0, none⟩) 1 cap2)).setCell ⟨U.heap.size, 2, none⟩ (.bool true)).ownsRow 0 9 1 (.slice (some ⟨gg, 0, none⟩) 1 cap2) 1 ([.string B])) := own_moved HO3.out ((Below.heap_setCell _ _ _ _ hgQ).trans (Below.heap_setCell _ _ _ _ hgQ))
    have p0 : ((w3.setCell ⟨U.heap.size, 1, none⟩ (.slice (some ⟨gg, 0, none⟩) 1 cap2)).setCell ⟨U.heap.size, 2, none⟩ (.bool true)).cell? ⟨U.heap.size, 0, none⟩ = some (.string K) := (World.cell?_setCell_other _ _ _ _ (fun e => by injection e with _ e _; omega)).trans ((World.cell?_setCell_other _ _ _ _ (fun e => by injection e with _ e _; omega)).trans k0)
    have p1 : ((w3.setCell ⟨U.heap.size, 1, none⟩ (.slice (some ⟨gg, 0, none⟩) 1 cap2)).setCell ⟨U.heap.size, 2, none⟩ (.bool true)).cell? ⟨U.heap.size, 1, none⟩ = some (.slice (some ⟨gg, 0, none⟩) 1 cap2) := (World.cell?_setCell_other _ _ _ _ (fun e => by injection e with _ e _; omega)).trans (World.cell?_setCell_same _ _ _ k1)
    have p2 : ((w3.setCell ⟨U.heap.size, 1, none⟩ (.slice (some ⟨gg, 0, none⟩) 1 cap2)).setCell ⟨U.heap.size, 2, none⟩ (.bool true)).cell? ⟨U.heap.size, 2, none⟩ = some (.bool true) := World.cell?_setCell_same _ _ _ ((World.cell?_setCell_other _ _ _ _ (fun e => by injection e with _ e _; omega)).trans k2)
    have hs5 : U.heap.size + 2 ≤ ((w3.setCell ⟨U.heap.size, 1, none⟩ (.slice (some ⟨gg, 0, none⟩) 1 cap2)).setCell ⟨U.heap.size, 2, none⟩ (.bool true)).heap.size := by simpa using hs3
    have ho5 : Hid (((w3.setCell ⟨U.heap.size, 1, none⟩ (.slice (some ⟨gg, 0, none⟩) 1 cap2)).setCell ⟨U.heap.size, 2, none⟩ (.bool true)).os = U.os ∧ ((w3.setCell ⟨U.heap.size, 1, none⟩ (.slice (some ⟨gg, 0, none⟩) 1 cap2)).setCell ⟨U.heap.size, 2, none⟩ (.bool true)).tape = U.tape ∧ ((w3.setCell ⟨U.heap.size, 1, none⟩ (.slice (some ⟨gg, 0, none⟩) 1 cap2)).setCell ⟨U.heap.size, 2, none⟩ (.bool true)).output = U.output) := ⟨HG3.out.os, HG3.out.tape, HG3.out.output⟩
    clear k0 k1 k2 z1 z2
    generalize (w3.setCell ⟨U.heap.size, 1, none⟩ (.slice (some ⟨gg, 0, none⟩) 1 cap2)).setCell ⟨U.heap.size, 2, none⟩ (.bool true) = w5 at hB5 HO5 p0 p1 p2 hs5 ho5 ⊢
    have eH := hB5.out h hhU (fun x e e2 => (HVB.out x e).1 e2.symm)
    have eC := hB5.out gCC hgU (fun x e e2 => (HVB.out x e).2.1 e2.symm)
    have u0 : w5.cell? ⟨h, 0, none⟩ = some (.slice (some ⟨gCC, 0, none⟩) (rs.length + 1) capC) := (World.cell?_of_block (a := ⟨h, 0, none⟩) eH).trans e0
    have HU1 : Hid (w5.cell? ⟨h, 1, none⟩ = some (.int .i64 (s.n : Int))) := (World.cell?_of_block (a := ⟨h, 1, none⟩) eH).trans e1
    have HV0 : Hid (w5.frozen? ⟨h, 0, none⟩ = false ∧ w5.frozen? ⟨h, 1, none⟩ = false) := ⟨(World.frozen?_of_block (a := ⟨h, 0, none⟩) eH).trans g0, (World.frozen?_of_block (a := ⟨h, 1, none⟩) eH).trans g1⟩
    have hz : ∀ j, w5.drew.frozen? ⟨gCC, j, none⟩ = false := fun j => (World.frozen?_of_block (a := ⟨gCC, j, none⟩) eC).trans (HFZ.out j)
    have hz0' := hz (rs.length * 3)
    have r0 : w5.drew.cell? ⟨gCC, rs.length * 3, none⟩ = some (.string K) := (World.cell?_of_block (a := ⟨gCC, rs.length * 3, none⟩) eC).trans q0
    have r1 : w5.drew.cell? ⟨gCC, rs.length * 3 + 1, none⟩ = some (.slice none 0 0) := (World.cell?_of_block (a := ⟨gCC, rs.length * 3 + 1, none⟩) eC).trans q1
    have r2 : w5.drew.cell? ⟨gCC, rs.length * 3 + 2, none⟩ = some (.bool false) := (World.cell?_of_block (a := ⟨gCC, rs.length * 3 + 2, none⟩) eC).trans q2
    have r1' : (w5.setCell ⟨gCC, rs.length * 3, none⟩ (.string K)).drew.cell? ⟨gCC, rs.length * 3 + 1, none⟩ = some (.slice none 0 0) := (World.cell?_setCell_other w5 ⟨gCC, rs.length * 3, none⟩ ⟨gCC, rs.length * 3 + 1, none⟩ (.string K) (fun e => by injection e with _ e _; omega)).trans r1
    have r2' : ((w5.setCell ⟨gCC, rs.length * 3, none⟩ (.string K)).setCell ⟨gCC, rs.length * 3 + 1, none⟩ (.slice (some ⟨gg, 0, none⟩) 1 cap2)).drew.cell? ⟨gCC, rs.length * 3 + 2, none⟩ = some (.bool false) := (World.cell?_setCell_other (w5.setCell ⟨gCC, rs.length * 3, none⟩ (.string K)) ⟨gCC, rs.length * 3 + 1, none⟩ ⟨gCC, rs.length * 3 + 2, none⟩ _ (fun e => by injection e with _ e _; omega)).trans ((World.cell?_setCell_other w5 ⟨gCC, rs.length * 3, none⟩ ⟨gCC, rs.length * 3 + 2, none⟩ (.string K) (fun e => by injection e with _ e _; omega)).trans r2)
    have z1' : (w5.setCell ⟨gCC, rs.length * 3, none⟩ (.string K)).drew.frozen? ⟨gCC, rs.length * 3 + 1, none⟩ = false := (World.frozen?_setCell w5 ⟨gCC, rs.length * 3, none⟩ ⟨gCC, rs.length * 3 + 1, none⟩ (.string K)).trans (hz (rs.length * 3 + 1))
    have z2' : ((w5.setCell ⟨gCC, rs.length * 3, none⟩ (.string K)).setCell ⟨gCC, rs.length * 3 + 1, none⟩ (.slice (some ⟨gg, 0, none⟩) 1 cap2)).drew.frozen? ⟨gCC, rs.length * 3 + 2, none⟩ = false := (World.frozen?_setCell (w5.setCell ⟨gCC, rs.length * 3, none⟩ (.string K)) ⟨gCC, rs.length * 3 + 1, none⟩ ⟨gCC, rs.length * 3 + 2, none⟩ _).trans ((World.frozen?_setCell w5 ⟨gCC, rs.length * 3, none⟩ ⟨gCC, rs.length * 3 + 2, none⟩ (.string K)).trans (hz (rs.length * 3 + 2)))
    clear q0 q1 q2 r1 r2
    have HOC5 : Hid (w5.drew.ownsRow 0 75 3 (.slice (some ⟨gCC, 0, none⟩) (rs.length + 1) capC) (rs.length + 1) (flat (rs ++ [(Cl.mk K (.slice none 0 0) false)]))) := own_moved HOC.out eC
    have hcQ : gCC ≠ U.heap.size := by omega
    have hhQ : h ≠ U.heap.size := by omega
    have HEC := Lib.hid eC
    clear eH eC e0 e1 g0 g1 hB3 hs3
    go_region_held3 (fun w' => w'.cell? ⟨h, 0, none⟩ = some (.slice (some ⟨gCC, 0, none⟩) (rs.length + 1) capC) ∧ w'.cell? ⟨U.heap.size, 0, none⟩ = some (.string K) ∧ w'.cell? ⟨U.heap.size, 1, none⟩ = some (.slice (some ⟨gg, 0, none⟩) 1 cap2) ∧ w'.cell? ⟨U.heap.size, 2, none⟩ = some (.bool true))
      (first | go_keep | (refine ⟨?_, ?_, ?_, ?_⟩ <;> (rw [World.cell?_setCell_other _ _ _ _ (fun e => by injection e with e _ _; omega), World.cell?_setCell_other _ _ _ _ (fun e => by injection e with e _ _; omega), World.cell?_setCell_other _ _ _ _ (fun e => by injection e with e _ _; omega)]; assumption)))
      (fail)
    have hilt : rs.length < (rs ++ [(Cl.mk K (.slice none 0 0) false)]).length := by simp
    have HOC6 : Hid ((((w5.setCell ⟨gCC, rs.length * 3, none⟩ (.string K)).setCell ⟨gCC, rs.length * 3 + 1, none⟩ (.slice (some ⟨gg, 0, none⟩) 1 cap2)).setCell ⟨gCC, rs.length * 3 + 2, none⟩ (.bool true)).drew.ownsRow 0 75 3 (.slice (some ⟨gCC, 0, none⟩) ((rs ++ [(Cl.mk K (.slice none 0 0) false)]).set rs.length (Cl.mk K (.slice (some ⟨gg, 0, none⟩) 1 cap2) true)).length capC) ((rs ++ [(Cl.mk K (.slice none 0 0) false)]).set rs.length (Cl.mk K (.slice (some ⟨gg, 0, none⟩) 1 cap2) true)).length (flat ((rs ++ [(Cl.mk K (.slice none 0 0) false)]).set rs.length (Cl.mk K (.slice (some ⟨gg, 0, none⟩) 1 cap2) true)))) := Lib.hid (own_moved (own_set3 (by rw [List.length_append]; exact HOC5.out) ⟨K, .slice (some ⟨gg, 0, none⟩) 1 cap2, true⟩ hilt) rfl)
    have HH6 : Hid (∀ b, b ≠ gCC → (((w5.setCell ⟨gCC, rs.length * 3, none⟩ (.string K)).setCell ⟨gCC, rs.length * 3 + 1, none⟩ (.slice (some ⟨gg, 0, none⟩) 1 cap2)).setCell ⟨gCC, rs.length * 3 + 2, none⟩ (.bool true)).drew.heap[b]? = w5.heap[b]?) := Lib.hid fun b hb => heap_set3 hb
    have HS6 : Hid ((((w5.setCell ⟨gCC, rs.length * 3, none⟩ (.string K)).setCell ⟨gCC, rs.length * 3 + 1, none⟩ (.slice (some ⟨gg, 0, none⟩) 1 cap2)).setCell ⟨gCC, rs.length * 3 + 2, none⟩ (.bool true)).drew.heap.size = w5.heap.size ∧ (((w5.setCell ⟨gCC, rs.length * 3, none⟩ (.string K)).setCell ⟨gCC, rs.length * 3 + 1, none⟩ (.slice (some ⟨gg, 0, none⟩) 1 cap2)).setCell ⟨gCC, rs.length * 3 + 2, none⟩ (.bool true)).drew.os = w5.os ∧ (((w5.setCell ⟨gCC, rs.length * 3, none⟩ (.string K)).setCell ⟨gCC, rs.length * 3 + 1, none⟩ (.slice (some ⟨gg, 0, none⟩) 1 cap2)).setCell ⟨gCC, rs.length * 3 + 2, none⟩ (.bool true)).drew.tape = w5.tape ∧ (((w5.setCell ⟨gCC, rs.length * 3, none⟩ (.string K)).setCell ⟨gCC, rs.length * 3 + 1, none⟩ (.slice (some ⟨gg, 0, none⟩) 1 cap2)).setCell ⟨gCC, rs.length * 3 + 2, none⟩ (.bool true)).drew.output = w5.output) := Lib.hid ⟨by simp, rfl, rfl, rfl⟩
    generalize (((w5.setCell ⟨gCC, rs.length * 3, none⟩ (.string K)).setCell ⟨gCC, rs.length * 3 + 1, none⟩ (.slice (some ⟨gg, 0, none⟩) 1 cap2)).setCell ⟨gCC, rs.length * 3 + 2, none⟩ (.bool true)).drew = w6 at HOC6 HH6 HS6 ⊢
    have hCh : h ≠ gCC := fun e => hgh e.symm
    have eH6 := HH6.out h hCh
    have c1 : w6.cell? ⟨h, 1, none⟩ = some (.int .i64 (s.n : Int)) := (World.cell?_of_block (a := ⟨h, 1, none⟩) eH6).trans HU1.out
    have c0 : w6.cell? ⟨h, 0, none⟩ = some (.slice (some ⟨gCC, 0, none⟩) (rs.length + 1) capC) := (World.cell?_of_block (a := ⟨h, 0, none⟩) eH6).trans u0
    have f0 : w6.frozen? ⟨h, 0, none⟩ = false := (World.frozen?_of_block (a := ⟨h, 0, none⟩) eH6).trans HV0.out.1
    have f1 : w6.frozen? ⟨h, 1, none⟩ = false := (World.frozen?_of_block (a := ⟨h, 1, none⟩) eH6).trans HV0.out.2
    clear hz hz0' r0 r1' r2' z1' z2' eH6 u0 p0 p1 p2
    go_wp2_with fail
    go_ret
    have HF0 : Hid (∀ b, b ≠ h → (w6.setCell ⟨h, 1, none⟩ (.int .i64 ((s.n : Int) + 1))).heap[b]? = w6.heap[b]?) := Lib.hid fun b hb => Below.heap_setCell _ _ _ _ hb
    have hgh6 : gg ≠ h := fun e => by
      rcases HAT.out with h1 | h1
      · exact (HVB.out gg h1).1 e
      · omega
    have hgC6 : gg ≠ gCC := fun e => by
      rcases HAT.out with h1 | h1
      · exact (HVB.out gg h1).2.1 e
      · omega
    have hsz : w.heap.size ≤ w6.heap.size := by
      have := HS6.out.1
      omega
    have hblk : ∀ b, b < U.heap.size → b ≠ h → b ≠ gCC → (∀ x, (Value.slice none 0 0).ownBlock = some x → b ≠ x) → (w6.setCell ⟨h, 1, none⟩ (.int .i64 ((s.n : Int) + 1))).heap[b]? = U.heap[b]? := fun b hb h1 h2 h3 =>
      (HF0.out b h1).trans ((HH6.out b h2).trans (hB5.out b hb h3))
    have hcc : ∀ d ∈ rs, rb (ky d) ≠ gCC := fun d hd e => by
      rcases HAT2.out with h1 | h1
      · exact (HR.out.off d hd).2 (HA0.out _ h1).1 (e.trans (HA0.out _ h1).2)
      · have := (HR.out.rows d hd).lt; omega
    refine ⟨by rw [HE.out]; rfl, ?_, ?_⟩
    · rw [putS_ok HE.out]
      refine HR.out.putF (gC' := gCC) (cap' := capC) (gg := gg) (rs' := (rs ++ [(Cl.mk K (.slice none 0 0) false)]).set rs.length (Cl.mk K (.slice (some ⟨gg, 0, none⟩) 1 cap2) true)) (nv := .slice (some ⟨gg, 0, none⟩) 1 cap2) HX.out ?_ ?_ ?_ ?_ ?_ ?_ ?_ ?_ ?_ hgh hgh6 hgC6 ?_ ?_ ?_ ?_
      · rw [World.cell?_setCell_other _ _ _ _ (fun e => by injection e with _ e _; omega), c0]; simp only [List.length_set, List.length_append, List.length_singleton]
      · exact World.cell?_setCell_same _ _ _ c1
      · exact (World.frozen?_setCell ..).trans f0
      · exact (World.frozen?_setCell ..).trans f1
      · exact own_moved HOC6.out (HF0.out gCC hgh)
      · rw [set_end]; exact says_put_new HR.out.says HFI.out HV0'.out _ _
      · exact row_end (ys := []) (HV0'.out ▸ rfl) (own_moved HO5.out ((HF0.out gg hgh6).trans (HH6.out gg hgC6)))
      · exact fun d hd hne => (hblk _ (Nat.lt_of_lt_of_le (HR.out.rows d hd).lt (by omega)) (HR.out.off d hd).1 (fun e => (hcc d hd) e) (fun x hx => by cases hx)).trans (HUW.out _ (HR.out.rows d hd).lt (HR.out.off d hd).1 fun x hx e => (HR.out.off d hd).2 (HA0.out x hx).1 (e.trans (HA0.out x hx).2))
      · intro d hd
        rw [set_end] at hd
        rcases List.mem_append.1 hd with hd | hd
        · exact .inr ⟨hd, fun e => (HR.out.says.all _).2 (List.mem_map.2 ⟨d, hd, e⟩) HV0'.out⟩
        · rw [List.mem_singleton.1 hd]; exact .inl ⟨rfl, rfl⟩
      · intro d hd hne
        refine ⟨hcc d hd, fun e => ?_⟩
        rcases HAT.out with h1 | h1
        · cases h1
        · have := (HR.out.rows d hd).lt; omega
      · rcases HAT2.out with h1 | h1
        · exact .inl (HA0.out _ h1)
        · exact .inr (by omega)
      · rcases HAT.out with h1 | h1
        · cases h1
        · exact .inr (by omega)
      · simp only [List.length_set, List.length_append, List.length_singleton]; have := HR.out.cnt; omega
    · exact ⟨HS6.out.2.1.trans ho5.out.1 |>.trans HOSU.out.1, HS6.out.2.2.1.trans ho5.out.2.1 |>.trans HOSU.out.2.1, HS6.out.2.2.2.trans ho5.out.2.2 |>.trans HOSU.out.2.2, by simpa using hsz, fun b hb hnx => (hblk b (by omega) (fun e => hnx ((HX.out b).2 (.inl e))) (fun e => by
        rcases HAT2.out with h1 | h1
        · exact hnx ((HX.out b).2 (.inr (.inl ⟨(HA0.out _ h1).1, e.trans (HA0.out _ h1).2⟩)))
        · omega) (fun x hx => by cases hx)).trans (HUW.out b hb (fun e => hnx ((HX.out b).2 (.inl e))) fun x hx e => hnx ((HX.out b).2 (.inr (.inl ⟨(HA0.out x hx).1, e.trans (HA0.out x hx).2⟩))))⟩
end Go.Proofs.Ytamkepfhlfeiiaa.Sto
