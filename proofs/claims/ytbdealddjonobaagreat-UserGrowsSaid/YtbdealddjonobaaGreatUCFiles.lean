/-
  CONTRACT of the landed code's Files (package user). By an AI agent; no person has read it.
-/
import Derived.Test.YtbdealddjonobaaGreatUCSort
import Derived.Test.YtbdealddjonobaaGreatUCTurn
import Derived.Maps.RangeWalk
import Derived.Deep.AppendLies
namespace Go.Proofs.YtbdealddjonobaaGreat.Usr
open Go Go.RowKit Go.Sort Wire Rig

set_option linter.unusedVariables false
set_option linter.unusedSimpArgs false
theorem lit_cells_at (W : World) (cs : Array Value) (t : TypeId) (g : Nat) (hg : g = W.heap.size) : ∀ j u, cs.toList[j]? = some u → (W.alloc (.cells cs t)).cell? ((⟨g, 0, none⟩ : Addr).add j) = some u := by
  subst hg
  exact lit_cells W cs t
theorem own_value' {w : World} {base : Nat} {v : Value} {n : Nat} {zs : List Value} {E : TypeId} (h : w.ownsRow base E 1 v n zs) : ∃ A c, v = .slice A n c ∧ (n ≤ c ∧ c ≤ 9223372036854775807) := by
  rcases h.2 with ⟨rfl, rfl⟩ | ⟨x, cap, cur, rfl, _, _, h1, h2, _⟩
  · exact ⟨none, 0, rfl, Nat.le_refl _, Nat.zero_le _⟩
  · exact ⟨_, _, rfl, h1, by simp only [maxLen] at h2; omega⟩
theorem row_ne_low' {w : World} {base b : Nat} {v : Value} {n : Nat} {zs : List Value} {E : TypeId} (h : w.ownsRow base E 1 v n zs) (hb : b < base) : some b ≠ v.ownBlock := fun e => by
  have := (h.lt b e.symm).1
  omega
/-- What a row of all live files tells. -/
theorem told_row {w w' : World} {S M : Nat → Prop} {ys : List ByteArray} {A : Option Addr} {c : Nat} (h : w'.ownsRow w.heap.size 9 1 (.slice A ys.length c) ys.length (sv ys)) : Told w S M (bl ys) (.returned (.slice A ys.length c)) w' := by
  obtain ⟨A', c', e, hc⟩ := own_value' h
  injection e with e1 _ e2
  subst e1 e2
  refine ⟨A, c, ys, rfl, hc, (sreads_own h).1, fun b hb => .inr ?_, rfl⟩
  obtain ⟨_, off, rfl⟩ := hb
  exact (h.lt b rfl).1
set_option maxHeartbeats 16000000 in
set_option maxRecDepth 1000000 in
theorem files_c (n : Nat) (a : Addr) (S M : Nat → Prop) (u : Us) (w : World) (h : DU w a S M u) (f : Fine n u) (hn : n ≤ 200) : Calls Tryz.prog 22 #[.pointer (some a)] w fun e w' => (∃ l, (Lsd [] l ∧ ∀ x, x ∈ l ↔ u.live x = true) ∧ Told w S M l e w') ∧ Below w.heap.size w w' := by
  obtain ⟨g, me, mg, db, dc, N, C, V, sb, rfl, h, _, _⟩ := h
  have c4 := h.c4
  obtain ⟨D, hD, hhas, hat⟩ := h.hm
  have hmb : me < w.heap.size := hD.lt
  have HHAS := Lib.hid hhas
  have HD := Lib.hid hD
  have HSZ : Hid (Maps.size D ≤ 8) := Lib.hid (by rw [own_count hD hhas (lives_nodup f) (fun x => mem_lives)]; exact f.eight)
  have HNM : Hid (∀ x, u.live x = true → nm x = true) := Lib.hid fun x hx => by
    obtain ⟨h1, _, h2, _⟩ := f.each x (live_in hx).1
    have := h1.2.1
    rw [h2] at this
    exact this
  have HL := lawS
  obtain ⟨i0, hi0, hz0, hz1, hz2⟩ := info_parts str_info
  clear hhas hat hD h f
  go_enter Tryz.func22, Tryz.ntmps22
  go_wp2_with (first
    | (at_range; refine wpList_range_own _ rfl _ 94 rfl 9 50 HL Tryz.underlying94 Rv me (Maps.size D) D rfl HD.out ?_; intro w0 hrg0 hg0 hs0)
    | go_in)
  go_frame
  have hgw := hg0.block
  have HB0 : Hid (Below w.heap.size w w0) := (Below.refl _ _).grown hg0 (Nat.le_refl _) (fun k e => by cases e)
  have HR0 := Lib.hid hrg0
  have hw1 : w.heap.size + 1 ≤ w0.heap.size := by omega
  have HS0 : Hid (CollU u.live (Maps.has D) []) := ⟨by simp [bl], fun x => by
    constructor
    · intro hx; simp [bl] at hx
    · rintro ⟨h1, h2⟩; rw [HHAS.out x, h1] at h2; cases h2⟩
  clear hrg0 hg0 hs0 hgw
  go_loopw [3] (fun v wr => ∃ (left : Lit → Bool) (cnt : Nat) (ss : List ByteArray), Hid (wr.ranges Tryz.prog 9 Rv me w.heap.size (Maps.size D) D left cnt) ∧ Hid (wr.ownsRow (w.heap.size + 1) 9 1 v ss.length (sv ss)) ∧ Hid (CollU u.live left ss) ∧ ss.length + cnt ≤ 2000 ∧ Hid (Below w.heap.size w wr) ∧ w.heap.size + 1 ≤ wr.heap.size) (fun _ wr => wr.rangeLeft me w.heap.size)
  case atStart => exact ⟨_, _, [], HR0, World.ownsRow_nil _ _ _ _, HS0, by have := HSZ.out; simp; omega, HB0, hw1⟩
  case round =>
    clear HR0 HS0 HB0 hw1
    obtain ⟨left, cnt, ss, HR, HO, HC, hcnt, HB, hws⟩ := hrel
    obtain ⟨A, c, rfl, _⟩ := own_value' HO.out
    go_wp2_with (at_next; refine wpList_next_ranges _ rfl _ rfl 9 HL Rv Value.string (fun v => v) (fun key kl hk => by obtain ⟨x, hx, _⟩ := Maps.keyOf_str Tryz.underlying9 hk; exact ⟨_, hx⟩) (fun v y _ => ⟨v, rfl⟩) me w.heap.size (Maps.size D) D left cnt rfl HR.out ?_ ?_)
    · intro hc0 hl0
      have HFIN : Hid ((bl ss).Nodup ∧ ∀ x, x ∈ bl ss ↔ u.live x = true) := ⟨HC.out.1, fun x => by rw [HC.out.2 x]; exact ⟨fun h => h.1, fun h => ⟨h, hl0 _⟩⟩⟩
      have HCT := Lib.hid (sort_own (B := w.heap.size + 1) (Nat.le_succ _) HO.out HB.out HFIN.out.1 (by omega))
      clear hl0 hc0 HC
      go_wp2_with fail
      refine HCT.out.mono ?_
      rintro e w7 ⟨rfl, ⟨ys, hyl, hy1, hy2, hy3⟩, hb7⟩
      rw [← hyl] at *
      have HY : Hid ((Rising (bl ys) ∧ ∀ x, x ∈ bl ys ↔ u.live x = true) ∧ w7.ownsRow w.heap.size 9 1 (.slice A ys.length c) ys.length (sv ys)) := ⟨⟨hy1, fun x => (hy2 x).trans (HFIN.out.2 x)⟩, hy3⟩
      have HB7 := Lib.hid hb7
      clear hy1 hy2 hy3 hb7
      dsimp only
      go_wp2
      go_ret
      exact ⟨⟨bl ys, ⟨⟨fun x hx => ⟨HNM.out x ((HY.out.1.2 x).1 hx), fun e => by have h1 := HNM.out x ((HY.out.1.2 x).1 hx); rw [e] at h1; exact absurd h1 (by decide)⟩, HY.out.1.1⟩, HY.out.1.2⟩, told_row HY.out.2⟩, HB7.out⟩
    · intro s c0 kl yd yp w2 cnt2 hkey hlk hv hat2 hrg2 hlt2 hg2 hs2 hen
      obtain ⟨x', ex, hkl, hxl⟩ := Maps.keyOf_str Tryz.underlying9 hkey
      have e1 : x' = s.data.toList := by
        have := Value.string.inj ex
        rw [this]
      subst e1
      subst hkl
      have htK : u.live s.data.toList = true := (HHAS.out _).symm.trans (Maps.has_true_of_atKey hat2)
      have hs3 : w2.heap.size = wr.heap.size := hs2
      have HO2 : Hid (w2.ownsRow (w.heap.size + 1) 9 1 (.slice A ss.length c) ss.length (sv ss)) := HO.out.kept hg2 (by
        cases hvb : (Value.slice A ss.length c).ownBlock with
        | none => exact .inl rfl
        | some k =>
          refine .inr fun e => ?_
          have h1 := (HO.out.lt k hvb).1
          have h2 := Option.some.inj e
          omega)
      have HB2 : Hid (Below w.heap.size w w2) := HB.out.grown hg2 (by omega) (fun k e => by have := Option.some.inj e; omega)
      have hws2 : w.heap.size + 1 ≤ w2.heap.size := by omega
      have HRG := Lib.hid hrg2
      have HLK := Lib.hid hlk
      have HTK := Lib.hid htK
      clear hs2 hs3 hrg2 hg2 hlk hat2 hv hkey ex hxl htK
      have hsl : ss.length ≤ 2000 := by omega
      go_wp2_with (
        at_builtin
        refine wpList_append_lies _ rfl _ _ _ rfl (w.heap.size + 1) 9 i0 _ 1 16 Tryz.underlying44 hi0 hz0 hz1 hz2 rfl (by decide) _ ss.length (sv ss) rfl (HO2.out.alloc _) _ 1 1 [.string s] rfl rfl (lit_cells_at _ _ _ _ (by simp)) (sv_one [s]) (by decide) (by simp only [maxLen]; omega) (by omega) ?h6 _ rfl ?_
        case h6 => simp; omega
        intro gg cap2 w6 hown6 hgrow6 hat6 hlt6
        have HO6 := Lib.hid hown6
        have HG6 := Lib.hid hgrow6
        clear hown6 hgrow6 hat6)
      go_roundw
      case rel =>
        refine ⟨_, cnt2, ss ++ [s], (HRG.out.alloc _).kept HG6.out (row_ne_low' HO2.out (by omega)) (row_ne_low' HO2.out (by omega)), ?_, collU HC.out HTK.out HLK.out, by rw [List.length_append, List.length_singleton]; omega, ?_, ?_⟩
        · have := HO6.out
          show World.ownsRow _ _ _ _ _ _ _
          rw [List.length_append, List.length_singleton]
          simpa [sv] using this
        · exact ((HB2.out.alloc (by omega) _).grown HG6.out (by simp; omega) fun k e => by have := (HO2.out.lt k e).1; omega)
        · have := HG6.out.size
          simp at this
          omega
      case measure =>
        rw [((HRG.out.alloc _).kept HG6.out (row_ne_low' HO2.out (by omega)) (row_ne_low' HO2.out (by omega))).left_eq, HR.out.left_eq]; exact hlt2
end Go.Proofs.YtbdealddjonobaaGreat.Usr
