/-
  E1. By an AI agent.
-/
import Derived.Test.YtbdealddjonobaaGreatYZ
import Derived.Laws.AppendOwnNone
import Derived.Test.YtbdealddjonobaaGreatYB2
import Derived.Test.YtbdealddjonobaaGreatYG1
import Derived.Test.YtbdealddjonobaaGreatYB1
import Derived.Test.YtbdealddjonobaaGreatYT2
namespace Go.Proofs.YtbdealddjonobaaGreat.Mta
open Go.RowKit Wire Term Rig

theorem bx_lt {g : Nat} {w : World} {o f : ByteArray} {ep : Int} {A : Option Addr} {n c : Nat} {B : Option Addr} {m d : Nat} (h : Bx g w o f ep A n c B m d) : g < w.heap.size := h.2.2.2.2.2
theorem set9 {w0 w : World} {g B : Nat} {v0 v1 v2 v3 v4 v5 v6 v7 v8 : Value} (h : Below B w0 w) (hg : B ≤ g) : Below B w0 (((((((((w.setCell ⟨g, 0, none⟩ v0).setCell ⟨g, 1, none⟩ v1).setCell ⟨g, 2, none⟩ v2).setCell ⟨g, 3, none⟩ v3).setCell ⟨g, 4, none⟩ v4).setCell ⟨g, 5, none⟩ v5).setCell ⟨g, 6, none⟩ v6).setCell ⟨g, 7, none⟩ v7).setCell ⟨g, 8, none⟩ v8) :=
  (((((((((h.setCell hg v0).setCell hg v1).setCell hg v2).setCell hg v3).setCell hg v4).setCell hg v5).setCell hg v6).setCell hg v7).setCell hg v8)
theorem cell_set9 {w : World} {g b j : Nat} {v0 v1 v2 v3 v4 v5 v6 v7 v8 : Value} (h : b ≠ g) : (((((((((w.setCell ⟨g, 0, none⟩ v0).setCell ⟨g, 1, none⟩ v1).setCell ⟨g, 2, none⟩ v2).setCell ⟨g, 3, none⟩ v3).setCell ⟨g, 4, none⟩ v4).setCell ⟨g, 5, none⟩ v5).setCell ⟨g, 6, none⟩ v6).setCell ⟨g, 7, none⟩ v7).setCell ⟨g, 8, none⟩ v8).cell? ⟨b, j, none⟩ = w.cell? ⟨b, j, none⟩ := by
  have e : ∀ i, (⟨g, i, none⟩ : Addr) ≠ ⟨b, j, none⟩ := fun i e => h (by injection e with e1 _ _; exact e1.symm)
  rw [World.cell?_setCell_other _ _ _ _ (e 8), World.cell?_setCell_other _ _ _ _ (e 7), World.cell?_setCell_other _ _ _ _ (e 6), World.cell?_setCell_other _ _ _ _ (e 5), World.cell?_setCell_other _ _ _ _ (e 4), World.cell?_setCell_other _ _ _ _ (e 3), World.cell?_setCell_other _ _ _ _ (e 2), World.cell?_setCell_other _ _ _ _ (e 1), World.cell?_setCell_other _ _ _ _ (e 0)]
theorem size_set9 {w : World} {g : Nat} {v0 v1 v2 v3 v4 v5 v6 v7 v8 : Value} : (((((((((w.setCell ⟨g, 0, none⟩ v0).setCell ⟨g, 1, none⟩ v1).setCell ⟨g, 2, none⟩ v2).setCell ⟨g, 3, none⟩ v3).setCell ⟨g, 4, none⟩ v4).setCell ⟨g, 5, none⟩ v5).setCell ⟨g, 6, none⟩ v6).setCell ⟨g, 7, none⟩ v7).setCell ⟨g, 8, none⟩ v8).heap.size = w.heap.size := by simp [World.setCell]
theorem frozen_set9 {w : World} {g : Nat} {v0 v1 v2 v3 v4 v5 v6 v7 v8 : Value} {a : Addr} : (((((((((w.setCell ⟨g, 0, none⟩ v0).setCell ⟨g, 1, none⟩ v1).setCell ⟨g, 2, none⟩ v2).setCell ⟨g, 3, none⟩ v3).setCell ⟨g, 4, none⟩ v4).setCell ⟨g, 5, none⟩ v5).setCell ⟨g, 6, none⟩ v6).setCell ⟨g, 7, none⟩ v7).setCell ⟨g, 8, none⟩ v8).frozen? a = w.frozen? a := by simp
theorem sreads_set9 {w : World} {A : Option Addr} {ys : List ByteArray} (h : SReads w A ys) {g : Nat} {v0 v1 v2 v3 v4 v5 v6 v7 v8 : Value} (hR : ∀ b off, A = some ⟨b, off, none⟩ → 0 < ys.length → b ≠ g) : SReads (((((((((w.setCell ⟨g, 0, none⟩ v0).setCell ⟨g, 1, none⟩ v1).setCell ⟨g, 2, none⟩ v2).setCell ⟨g, 3, none⟩ v3).setCell ⟨g, 4, none⟩ v4).setCell ⟨g, 5, none⟩ v5).setCell ⟨g, 6, none⟩ v6).setCell ⟨g, 7, none⟩ v7).setCell ⟨g, 8, none⟩ v8) A ys := fun i hi => by
  obtain ⟨b, off, e, hb, hc⟩ := h i hi
  have hne := hR b off e (by omega)
  exact ⟨b, off, e, by rw [size_set9]; exact hb, by rw [cell_set9 hne]; exact hc⟩
theorem preads_set9 {w : World} {A : Option Addr} {ks : List (ByteArray × ByteArray)} (h : PReads w A ks) {g : Nat} {v0 v1 v2 v3 v4 v5 v6 v7 v8 : Value} (hR : ∀ b off, A = some ⟨b, off, none⟩ → 0 < ks.length → b ≠ g) : PReads (((((((((w.setCell ⟨g, 0, none⟩ v0).setCell ⟨g, 1, none⟩ v1).setCell ⟨g, 2, none⟩ v2).setCell ⟨g, 3, none⟩ v3).setCell ⟨g, 4, none⟩ v4).setCell ⟨g, 5, none⟩ v5).setCell ⟨g, 6, none⟩ v6).setCell ⟨g, 7, none⟩ v7).setCell ⟨g, 8, none⟩ v8) A ks := fun i hi => by
  obtain ⟨b, off, e, hb, h1, h2⟩ := h i hi
  have hne := hR b off e (by omega)
  exact ⟨b, off, e, by rw [size_set9]; exact hb, by rw [cell_set9 hne]; exact h1, by rw [cell_set9 hne]; exact h2⟩
theorem isM_set9 {gs : List Nat} {g : Nat} (hG : g ∈ gs) {w : World} {v : Value} {m : Mt} {v0 v1 v2 v3 v4 v5 v6 v7 v8 : Value} (h : IsM (Off gs) w v m) : IsM (Off gs) (((((((((w.setCell ⟨g, 0, none⟩ v0).setCell ⟨g, 1, none⟩ v1).setCell ⟨g, 2, none⟩ v2).setCell ⟨g, 3, none⟩ v3).setCell ⟨g, 4, none⟩ v4).setCell ⟨g, 5, none⟩ v5).setCell ⟨g, 6, none⟩ v6).setCell ⟨g, 7, none⟩ v7).setCell ⟨g, 8, none⟩ v8) v m := by
  obtain ⟨o, f, sig, A, c, rs, B', d, ws, V, cv, vs, K, ck, ks, h1, h2, h3, h4, h5, h6, h7, h8, h9, h10, k1, k2, k3, k4⟩ := h
  refine ⟨o, f, sig, A, c, rs, B', d, ws, V, cv, vs, K, ck, ks, h1, h2, sreads_set9 h3 fun b off e h0 e2 => ?_, sreads_set9 h4 fun b off e h0 e2 => ?_, sreads_set9 h5 fun b off e h0 e2 => ?_, preads_set9 h6 fun b off e h0 e2 => ?_, h7, h8, h9, h10, k1, k2, k3, k4⟩
  · subst e2; exact k1 b off e h0 hG
  · subst e2; exact k2 b off e h0 hG
  · subst e2; exact k3 b off e h0 hG
  · subst e2; exact k4 b off e h0 hG
theorem off_new {gs : List Nat} {w : World} {v : Value} {m : Mt} {g : Nat} (h : IsM (Off gs) w v m) (hg : w.heap.size ≤ g) : IsM (Off (g :: gs)) w v m := h.mono fun b hb hm hx => by
  rcases List.mem_cons.1 hx with e | e
  · omega
  · exact hm e
theorem offX_new {gs : List Nat} {w : World} {v : Value} {r : Rt} {g : Nat} (h : IsX (Off gs) w v r) (hg : w.heap.size ≤ g) : IsX (Off (g :: gs)) w v r := h.mono fun b hb hm hx => by
  rcases List.mem_cons.1 hx with e | e
  · omega
  · exact hm e
def Sf9 (g : Nat) (w : World) : Prop := w.frozen? ⟨g, 0, none⟩ = false ∧ w.frozen? ⟨g, 1, none⟩ = false ∧ w.frozen? ⟨g, 2, none⟩ = false ∧ w.frozen? ⟨g, 3, none⟩ = false ∧ w.frozen? ⟨g, 4, none⟩ = false ∧ w.frozen? ⟨g, 5, none⟩ = false ∧ w.frozen? ⟨g, 6, none⟩ = false ∧ w.frozen? ⟨g, 7, none⟩ = false ∧ w.frozen? ⟨g, 8, none⟩ = false
theorem sf9_alloc (w : World) (cs : Array Value) (t : TypeId) : Sf9 w.heap.size (w.alloc (.cells cs t)) := by
  have h : ∀ j, (w.alloc (.cells cs t)).frozen? ⟨w.heap.size, j, none⟩ = false := fun j => by
    unfold World.frozen?
    rw [heap_alloc_new]
    simp
  exact ⟨h 0, h 1, h 2, h 3, h 4, h 5, h 6, h 7, h 8⟩
theorem Sf9.below {g : Nat} {w w' : World} {M : Nat} (h : Sf9 g w) (hb : Below M w w') (hg : g < M) : Sf9 g w' := by
  obtain ⟨h0, h1, h2, h3, h4, h5, h6, h7, h8⟩ := h
  have e := fun j => hb.frozen (p := ⟨g, j, none⟩) hg
  exact ⟨(e 0).trans h0, (e 1).trans h1, (e 2).trans h2, (e 3).trans h3, (e 4).trans h4, (e 5).trans h5, (e 6).trans h6, (e 7).trans h7, (e 8).trans h8⟩
end Go.Proofs.YtbdealddjonobaaGreat.Mta

namespace Go.Proofs.YtbdealddjonobaaGreat.Mta
open Go.RowKit Wire Term Rig

set_option linter.unusedSimpArgs false
end Go.Proofs.YtbdealddjonobaaGreat.Mta

namespace Go.Proofs.YtbdealddjonobaaGreat.Mta
open Wire Term Rig

end Go.Proofs.YtbdealddjonobaaGreat.Mta

namespace Go.Proofs.YtbdealddjonobaaGreat.Mta
open Go.RowKit Wire Term Rig

set_option linter.unusedSimpArgs false
set_option linter.unusedVariables false
set_option maxHeartbeats 2000000 in
set_option maxRecDepth 1000000 in
theorem isTerm_any (s : ByteArray) (w : World) (hs : s.size ≤ 140737488355328) :
    Calls Tryz.prog 79 #[.string s] w fun e w' => e = .returned (.bool (right s.data.toList)) ∧ Below w.heap.size w w' := by
  obtain ⟨k, hk⟩ : ∃ k, kind s.data.toList = k := ⟨_, rfl⟩
  have HK := zh fun w => t_Kind s w hs
  rw [hk] at HK
  cases hr : right s.data.toList with
  | false =>
    obtain rfl : k = 0 := by rw [← hk]; exact kind_wrong hr
    clear hk hr
    go_enter Tryz.func79, Tryz.ntmps79
    go_wp2_with fail
    with_reducible refine (HK.out _).mono ?_
    rintro e w1 ⟨rfl, hb1⟩
    dsimp only
    go_wp2
    go_ret
    exact ⟨rfl, hb1⟩
  | true =>
    have h0 : ¬ (k : Int) = 0 := by have := Term.kind_pos hr; rw [hk] at this; omega
    have q : ((k : Int) != 0) = true := by simpa using h0
    have q' : ((k : Int) == 0) = false := by simpa using h0
    clear hk hr
    go_enter Tryz.func79, Tryz.ntmps79
    go_wp2_with fail
    with_reducible refine (HK.out _).mono ?_
    rintro e w1 ⟨rfl, hb1⟩
    dsimp only
    go_wp2
    go_ret
    exact ⟨rfl, hb1⟩
set_option maxHeartbeats 2000000 in
set_option maxRecDepth 1000000 in
theorem isPublic_any (s : ByteArray) (w : World) (hs : s.size ≤ 140737488355328) :
    Calls Tryz.prog 73 #[.string s] w fun e w' => e = .returned (.bool (decide (kind s.data.toList = 117))) ∧ Below w.heap.size w w' := by
  obtain ⟨k, hk⟩ : ∃ k, kind s.data.toList = k := ⟨_, rfl⟩
  have HK := zh fun w => t_Kind s w hs
  rw [hk] at HK ⊢
  clear hk
  by_cases h : k = 117
  · subst h
    go_enter Tryz.func73, Tryz.ntmps73
    go_wp2_with fail
    with_reducible refine (HK.out _).mono ?_
    rintro e w1 ⟨rfl, hb1⟩
    dsimp only
    go_wp2
    go_ret
    exact ⟨rfl, hb1⟩
  · rw [decide_eq_false h]
    have q : ((k : Int) != 117) = true := by simpa using (show ¬ (k : Int) = 117 by omega)
    have q' : ((k : Int) == 117) = false := by simpa using (show ¬ (k : Int) = 117 by omega)
    go_enter Tryz.func73, Tryz.ntmps73
    go_wp2_with fail
    with_reducible refine (HK.out _).mono ?_
    rintro e w1 ⟨rfl, hb1⟩
    dsimp only
    go_wp2
    go_ret
    exact ⟨rfl, hb1⟩
theorem all_take {p : Tm → Bool} {ys : List ByteArray} {j : Nat} (hj : j < ys.length) : ((bl ys).take (j + 1)).all p = (((bl ys).take j).all p && p (ys.getD j ByteArray.empty).data.toList) := by
  rw [bl_get hj, List.all_append]
  simp
set_option maxHeartbeats 4000000 in
set_option maxRecDepth 1000000 in
theorem all_fn (g : Nat) (eg : ∀ args w, (callFunc g args).run Tryz.prog w = .ok (.enter g args) w) (p : Tm → Bool) (A : Option Addr) (c : Nat) (ys : List ByteArray) (w : World) (hA : SReads w A ys) (hl : ys.length ≤ 1000000)
    (hp : ∀ y ∈ ys, ∀ W, Calls Tryz.prog g #[.string y] W fun e w' => e = .returned (.bool (p y.data.toList)) ∧ Below W.heap.size W w') :
    Calls Tryz.prog 114 #[.slice A ys.length c, .func (.func g) #[] #[]] w fun e w' => e = .returned (.bool ((bl ys).all p)) ∧ Below w.heap.size w w' := by
  have HA := zh hA
  have HP := zh hp
  clear hA hp
  obtain ⟨bb, hbb⟩ : ∃ b, (bl ys).all p = b := ⟨_, rfl⟩
  have HBB := zh hbb
  rw [hbb]
  clear hbb
  go_enter Tryz.func114, Tryz.ntmps114
  go_wp2_with fail
  go_loopw [9] (fun i wr => ∃ k : Nat, k ≤ ys.length ∧ i = .int .i64 (k : Int) ∧ Hid (((bl ys).take k).all p = true) ∧ Hid (Below w.heap.size w wr)) (fun i _ => ys.length - (intOf i).toNat)
  case atStart => exact ⟨0, Nat.zero_le _, rfl, zh (by simp), zh (Below.refl _ _)⟩
  case round =>
    obtain ⟨k, hk, rfl, HT, HB⟩ := hrel
    by_cases hlt : (k : Int) < (ys.length : Int)
    · obtain ⟨b, off, rfl, hbl, hcl⟩ := (HA.out.below HB.out zl) k (by omega)
      obtain ⟨y, hy⟩ : ∃ y, ys.getD k ByteArray.empty = y := ⟨_, rfl⟩
      have hin : y ∈ ys := by rw [← hy]; simp [List.getD, show k < ys.length by omega]
      have hat := all_take (p := p) (ys := ys) (j := k) (by omega)
      rw [hy] at hcl hat
      rw [HT.out, Bool.true_and] at hat
      have HY := zh (HP.out y hin)
      obtain ⟨pb, hpb⟩ : ∃ v, p y.data.toList = v := ⟨_, rfl⟩
      rw [hpb] at HY hat
      have HAT := zh hat
      clear hy hin hat hpb hbl
      cases pb with
      | false =>
        obtain rfl : bb = false := by
          rw [← HBB.out]
          cases h : (bl ys).all p with
          | false => rfl
          | true =>
            have h2 : ((bl ys).take (k + 1)).all p = true := List.all_eq_true.2 fun x hx => List.all_eq_true.1 h x (List.mem_of_mem_take hx)
            rw [HAT.out] at h2
            cases h2
        go_wp2_with (go_at_fn g; refine (HY.out _).mono ?_; rintro e w' ⟨rfl, hb'⟩)
        go_ret
        exact ⟨rfl, Bel.call HB.out hb'⟩
      | true =>
        go_wp2_with (go_at_fn g; refine (HY.out _).mono ?_; rintro e w' ⟨rfl, hb'⟩; have HB2 := zh (Bel.call HB.out hb'); clear hb')
        go_roundw
        case rel => exact ⟨k + 1, by omega, by go_num, HAT, HB2⟩
        case measure => simp [intOf]; omega
    · obtain rfl : bb = true := by
        rw [← HBB.out]
        have h := HT.out
        rw [show k = ys.length by omega, bl_take_all] at h
        exact h
      go_wp2
      go_ret
      exact ⟨rfl, HB.out⟩
end Go.Proofs.YtbdealddjonobaaGreat.Mta

namespace Go.Proofs.YtbdealddjonobaaGreat.Mta
open Go.RowKit Wire Term Rig

set_option linter.unusedSimpArgs false
set_option linter.unusedVariables false
def Idx (ks : List (ByteArray × ByteArray)) (u : Tm) (i : Int) : Prop := (i = -1 ∧ (pl ks).find? (fun b => b.1 == u) = none) ∨
  ∃ j : Nat, i = (j : Int) ∧ j < ks.length ∧ (pl ks).find? (fun b => b.1 == u) = some ((ks.getD j default).1.data.toList, (ks.getD j default).2.data.toList)
theorem find_none {l : List (Tm × Tm)} {u : Tm} (h : ∀ b ∈ l, (b.1 == u) = false) : l.find? (fun b => b.1 == u) = none := List.find?_eq_none.2 fun b hb => by rw [h b hb]; simp
set_option maxHeartbeats 4000000 in
set_option maxRecDepth 1000000 in
theorem indexK_any (g : Nat) (eg : ∀ args w, (callFunc g args).run Tryz.prog w = .ok (.enter g args) w) (P : Addr) (u : Tm) (K : Option Addr) (ck : Nat) (ks : List (ByteArray × ByteArray)) (w : World) (hK : PReads w K ks) (hl : ks.length ≤ 1000000)
    (hp : ∀ (a b : ByteArray) W, Below w.heap.size w W → Calls Tryz.prog g #[.agg #[.string a, .string b], .pointer (some P)] W fun e w' => e = .returned (.bool (a.data.toList == u)) ∧ Below W.heap.size W w') :
    Calls Tryz.prog 163 #[.slice K ks.length ck, .func (.func g) #[] #[.pointer (some P)]] w fun e w' => (∃ i, Idx ks u i ∧ e = .returned (.int .i64 i)) ∧ Below w.heap.size w w' := by
  have HK := zh hK
  have HP := zh hp
  clear hK hp
  go_enter Tryz.func163, Tryz.ntmps163
  go_wp2_with fail
  go_loopw [8] (fun i wr => ∃ k : Nat, k ≤ ks.length ∧ i = .int .i64 (k : Int) ∧ Hid (∀ b ∈ (pl ks).take k, (b.1 == u) = false) ∧ Hid (Below w.heap.size w wr)) (fun i _ => ks.length - (intOf i).toNat)
  case atStart => exact ⟨0, Nat.zero_le _, rfl, zh (fun b hb => by simp at hb), zh (Below.refl _ _)⟩
  case round =>
    obtain ⟨k, hk, rfl, HT, HB⟩ := hrel
    by_cases hlt : (k : Int) < (ks.length : Int)
    · obtain ⟨b, off, rfl, hbl, hcl, hcl2⟩ := (HK.out.below HB.out zl) k (by omega)
      have hkn : k < ks.length := by omega
      have hat := pl_at hkn
      have hgt := pl_get hkn
      obtain ⟨⟨x, y⟩, hx⟩ : ∃ x, ks.getD k default = x := ⟨_, rfl⟩
      have HX := zh hx
      rw [hx] at hcl hcl2 hat hgt
      simp only at hcl hcl2 hat hgt
      have HAT := zh hat
      have HGT := zh hgt
      have HY := zh (HP.out x y _ HB.out)
      clear hx hat hgt hbl
      cases hq : (x.data.toList == u) with
      | true =>
        rw [hq] at HY
        have HE : Hid (Idx ks u (k : Int)) := zh (.inr ⟨k, rfl, hkn, by rw [HX.out]; exact find_at HT.out HAT.out hq⟩)
        clear hkn hq
        go_wp2_with (go_at_fn g; refine HY.out.mono ?_; rintro e w' ⟨rfl, hb'⟩)
        go_ret
        exact ⟨⟨_, HE.out, rfl⟩, Bel.call HB.out hb'⟩
      | false =>
        rw [hq] at HY
        have HQ := zh hq
        clear hkn hq
        go_wp2_with (go_at_fn g; refine HY.out.mono ?_; rintro e w' ⟨rfl, hb'⟩; have HB2 := zh (Bel.call HB.out hb'); clear hb')
        go_roundw
        case rel =>
          refine ⟨k + 1, by omega, by go_num, zh fun b hb => ?_, HB2⟩
          rw [HGT.out] at hb
          rcases List.mem_append.1 hb with hb | hb
          · exact HT.out b hb
          · rw [List.mem_singleton.1 hb]; exact HQ.out
        case measure => simp [intOf]; omega
    · have HE : Hid (Idx ks u (-1)) := zh (.inl ⟨rfl, find_none fun b hb => HT.out b (by rw [show k = ks.length by omega, ← pl_len, List.take_length]; exact hb)⟩)
      go_wp2
      go_ret
      exact ⟨⟨_, HE.out, rfl⟩, HB.out⟩
set_option maxHeartbeats 4000000 in
set_option maxRecDepth 1000000 in
theorem indexB_any (g : Nat) (eg : ∀ args w, (callFunc g args).run Tryz.prog w = .ok (.enter g args) w) (P : Addr) (u : Tm) (K : Option Addr) (ck : Nat) (ks : List (ByteArray × ByteArray)) (w : World) (hK : PReads w K ks) (hl : ks.length ≤ 1000000)
    (hp : ∀ (a b : ByteArray) W, Below w.heap.size w W → Calls Tryz.prog g #[.agg #[.string a, .string b], .pointer (some P)] W fun e w' => e = .returned (.bool (a.data.toList == u)) ∧ Below W.heap.size W w') :
    Calls Tryz.prog 80 #[.slice K ks.length ck, .func (.func g) #[] #[.pointer (some P)]] w fun e w' => (∃ i, Idx ks u i ∧ e = .returned (.int .i64 i)) ∧ Below w.heap.size w w' := by
  have HK := zh hK
  have HP := zh hp
  clear hK hp
  go_enter Tryz.func80, Tryz.ntmps80
  go_wp2_with fail
  go_loopw [8] (fun i wr => ∃ k : Nat, k ≤ ks.length ∧ i = .int .i64 (k : Int) ∧ Hid (∀ b ∈ (pl ks).take k, (b.1 == u) = false) ∧ Hid (Below w.heap.size w wr)) (fun i _ => ks.length - (intOf i).toNat)
  case atStart => exact ⟨0, Nat.zero_le _, rfl, zh (fun b hb => by simp at hb), zh (Below.refl _ _)⟩
  case round =>
    obtain ⟨k, hk, rfl, HT, HB⟩ := hrel
    by_cases hlt : (k : Int) < (ks.length : Int)
    · obtain ⟨b, off, rfl, hbl, hcl, hcl2⟩ := (HK.out.below HB.out zl) k (by omega)
      have hkn : k < ks.length := by omega
      have hat := pl_at hkn
      have hgt := pl_get hkn
      obtain ⟨⟨x, y⟩, hx⟩ : ∃ x, ks.getD k default = x := ⟨_, rfl⟩
      have HX := zh hx
      rw [hx] at hcl hcl2 hat hgt
      simp only at hcl hcl2 hat hgt
      have HAT := zh hat
      have HGT := zh hgt
      have HY := zh (HP.out x y _ HB.out)
      clear hx hat hgt hbl
      cases hq : (x.data.toList == u) with
      | true =>
        rw [hq] at HY
        have HE : Hid (Idx ks u (k : Int)) := zh (.inr ⟨k, rfl, hkn, by rw [HX.out]; exact find_at HT.out HAT.out hq⟩)
        clear hkn hq
        go_wp2_with (go_at_fn g; refine HY.out.mono ?_; rintro e w' ⟨rfl, hb'⟩)
        go_ret
        exact ⟨⟨_, HE.out, rfl⟩, Bel.call HB.out hb'⟩
      | false =>
        rw [hq] at HY
        have HQ := zh hq
        clear hkn hq
        go_wp2_with (go_at_fn g; refine HY.out.mono ?_; rintro e w' ⟨rfl, hb'⟩; have HB2 := zh (Bel.call HB.out hb'); clear hb')
        go_roundw
        case rel =>
          refine ⟨k + 1, by omega, by go_num, zh fun b hb => ?_, HB2⟩
          rw [HGT.out] at hb
          rcases List.mem_append.1 hb with hb | hb
          · exact HT.out b hb
          · rw [List.mem_singleton.1 hb]; exact HQ.out
        case measure => simp [intOf]; omega
    · have HE : Hid (Idx ks u (-1)) := zh (.inl ⟨rfl, find_none fun b hb => HT.out b (by rw [show k = ks.length by omega, ← pl_len, List.take_length]; exact hb)⟩)
      go_wp2
      go_ret
      exact ⟨⟨_, HE.out, rfl⟩, HB.out⟩
set_option maxHeartbeats 2000000 in
set_option maxRecDepth 1000000 in
theorem closK_any (a b U : ByteArray) (P : Addr) (W : World) (hP : P.block < W.heap.size) (hc : W.cell? P = some (.string U)) :
    Calls Tryz.prog 164 #[.agg #[.string a, .string b], .pointer (some P)] W fun e w' => e = .returned (.bool (a.data.toList == U.data.toList)) ∧ Below W.heap.size W w' := by
  obtain ⟨PB, PO, PQ⟩ := P
  have hne : PB ≠ W.heap.size := by simp only at hP; omega
  have h2 := fun ob => (al W ob).cell (p := ⟨PB, PO, PQ⟩) hP
  rw [hc] at h2
  cases hq : (a.data.toList == U.data.toList) with
  | true =>
    have q := s_eq (by simpa using hq)
    clear hq
    go_enter Tryz.func164, Tryz.ntmps164
    go_wp2
    go_ret
    exact ⟨rfl, al _ _⟩
  | false =>
    have q := s_ne (S := a) (T := U) (by simpa using hq)
    clear hq
    go_enter Tryz.func164, Tryz.ntmps164
    go_wp2
    go_ret
    exact ⟨rfl, al _ _⟩
set_option maxHeartbeats 2000000 in
set_option maxRecDepth 1000000 in
theorem closB_any (a b U : ByteArray) (P : Addr) (W : World) (hP : P.block < W.heap.size) (hc : W.cell? P = some (.string U)) :
    Calls Tryz.prog 81 #[.agg #[.string a, .string b], .pointer (some P)] W fun e w' => e = .returned (.bool (a.data.toList == U.data.toList)) ∧ Below W.heap.size W w' := by
  obtain ⟨PB, PO, PQ⟩ := P
  have hne : PB ≠ W.heap.size := by simp only at hP; omega
  have h2 := fun ob => (al W ob).cell (p := ⟨PB, PO, PQ⟩) hP
  rw [hc] at h2
  cases hq : (a.data.toList == U.data.toList) with
  | true =>
    have q := s_eq (by simpa using hq)
    clear hq
    go_enter Tryz.func81, Tryz.ntmps81
    go_wp2
    go_ret
    exact ⟨rfl, al _ _⟩
  | false =>
    have q := s_ne (S := a) (T := U) (by simpa using hq)
    clear hq
    go_enter Tryz.func81, Tryz.ntmps81
    go_wp2
    go_ret
    exact ⟨rfl, al _ _⟩
end Go.Proofs.YtbdealddjonobaaGreat.Mta

