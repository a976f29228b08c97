/-
  CONTRACT of the landed code's keysOf at texts (package store). By an AI agent; no person has read it.
-/
import Derived.Test.YtamkepfhlfeiiaaSTSort
import Derived.Maps.RangeWalk
import Derived.Deep.AppendLies
namespace Go.Proofs.Ytamkepfhlfeiiaa.Sto
open Go Go.RowKit Go.Sort Wire

set_option linter.unusedVariables false
set_option linter.unusedSimpArgs false
theorem lit_cells_at (W : World) (cs : Array Value) (t : TypeId) (g : Nat) (hg : g = W.heap.size) : ∀ j u, cs.toList[j]? = some u → (W.alloc (.cells cs t)).cell? ((⟨g, 0, none⟩ : Addr).add j) = some u := by
  subst hg
  exact lit_cells W cs t
set_option maxHeartbeats 16000000 in
set_option maxRecDepth 1000000 in
theorem keys_c1 (mb n : Nat) (H : Tm → Bool) (V : Tm → Value) (P : ByteArray) (w : World) (h : MapIs w mb n H V) (hn : n ≤ 2000) :
    Calls Try.prog 36 #[.map (some mb), .string P] w fun e w' => (∃ l, (Rising l ∧ ∀ x, x ∈ l ↔ (H x = true ∧ P.data.toList <+: x)) ∧ Row w w' l e) ∧ Below w.heap.size w w' := by
  obtain ⟨D, hD, hhas, hat⟩ := h
  have hmb : mb < w.heap.size := hD.lt
  have HHAS := Lib.hid hhas
  have HD := Lib.hid hD
  have HSZ : Hid (Maps.size D ≤ 2000) := Nat.le_trans hD.size_le hn
  have HL := lawS
  obtain ⟨i0, hi0, hz0, hz1, hz2⟩ := info_parts str_info
  clear hhas hat hD
  go_enter Try.func36, Try.ntmps36
  go_wp2_with (first
    | (at_range; refine wpList_range_own _ rfl _ 65 rfl 9 9 HL Try.underlying65 Rv mb n D rfl HD.out ?_; intro w0 hrg0 hg0 hs0)
    | go_in)
  go_frame
  have hgw := hg0.block
  have HB0 : Hid (Below w.heap.size w w0) := (Below.refl _ _).grown hg0 (Nat.le_refl _) (fun k e => by cases e)
  have HR0 := Lib.hid hrg0
  have hw1 : w.heap.size + 1 ≤ w0.heap.size := by omega
  have HS0 : Hid (Coll H P.data.toList (Maps.has D) []) := ⟨by simp [bl], fun x => by
    constructor
    · intro hx; simp [bl] at hx
    · rintro ⟨h1, _, h2⟩; rw [HHAS.out x, h1] at h2; cases h2⟩
  clear hrg0 hg0 hs0 hgw
  go_loopw [5] (fun v wr => ∃ (left : Lit → Bool) (cnt : Nat) (ss : List ByteArray), Hid (wr.ranges Try.prog 9 Rv mb w.heap.size n D left cnt) ∧ Hid (wr.ownsRow (w.heap.size + 1) 9 1 v ss.length (sv ss)) ∧ Hid (Coll H P.data.toList left ss) ∧ ss.length + cnt ≤ 2000 ∧ Hid (Below w.heap.size w wr) ∧ w.heap.size + 1 ≤ wr.heap.size) (fun _ wr => wr.rangeLeft mb w.heap.size)
  case atStart => exact ⟨_, _, [], HR0, World.ownsRow_nil _ _ _ _, HS0, by have := HSZ.out; simpa using this, HB0, hw1⟩
  case round =>
    clear HR0 HS0 HB0 hw1
    obtain ⟨left, cnt, ss, HR, HO, HC, hcnt, HB, hws⟩ := hrel
    obtain ⟨A, c, rfl⟩ := own_value HO.out
    go_wp2_with (at_next; refine wpList_next_ranges _ rfl _ rfl 9 HL Rv Value.string (fun v => v) (fun key kl hk => by obtain ⟨x, hx, _⟩ := Maps.keyOf_str Try.underlying9 hk; exact ⟨_, hx⟩) (fun v y _ => ⟨v, rfl⟩) mb w.heap.size n D left cnt rfl HR.out ?_ ?_)
    · intro hc0 hl0
      have HFIN : Hid ((bl ss).Nodup ∧ ∀ x, x ∈ bl ss ↔ (H x = true ∧ P.data.toList <+: x)) := ⟨HC.out.1, fun x => by rw [HC.out.2 x]; exact ⟨fun h => ⟨h.1, h.2.1⟩, fun h => ⟨h.1, h.2, hl0 _⟩⟩⟩
      have HCT := Lib.hid (sort_own (B := w.heap.size + 1) (Nat.le_succ _) HO.out HB.out HFIN.out.1 (by omega))
      clear hl0 hc0 HC
      go_wp2_with fail
      refine HCT.out.mono ?_
      rintro e w7 ⟨rfl, ⟨ys, hyl, hy1, hy2, hy3⟩, hb7⟩
      rw [← hyl] at *
      have HY : Hid ((Rising (bl ys) ∧ ∀ x, x ∈ bl ys ↔ (H x = true ∧ P.data.toList <+: x)) ∧ w7.ownsRow w.heap.size 9 1 (.slice A ys.length c) ys.length (sv ys)) := ⟨⟨hy1, fun x => (hy2 x).trans (HFIN.out.2 x)⟩, hy3⟩
      have HB7 := Lib.hid hb7
      clear hy1 hy2 hy3 hb7
      dsimp only
      go_wp2
      go_ret
      exact ⟨⟨bl ys, HY.out.1, _, ys, rfl, HY.out.2, rfl⟩, HB7.out⟩
    · intro s c0 kl yd yp w2 cnt2 hkey hlk hv hat2 hrg2 hlt2 hg2 hs2 hen
      obtain ⟨x', ex, hkl, hxl⟩ := Maps.keyOf_str Try.underlying9 hkey
      have e1 : x' = s.data.toList := by
        have := Value.string.inj ex
        rw [this]
      subst e1
      subst hkl
      have htK : H s.data.toList = true := (HHAS.out _).symm.trans (Maps.has_true_of_atKey hat2)
      have hs3 : w2.heap.size = wr.heap.size := hs2
      have HO2 : Hid (w2.ownsRow (w.heap.size + 1) 9 1 (.slice A ss.length c) ss.length (sv ss)) := HO.out.kept hg2 (by
        cases hvb : (Value.slice A ss.length c).ownBlock with
        | none => exact .inl rfl
        | some k =>
          refine .inr fun e => ?_
          have h1 := (HO.out.lt k hvb).1
          have h2 := Option.some.inj e
          omega)
      have HB2 : Hid (Below w.heap.size w w2) := HB.out.grown hg2 (by omega) (fun k e => by have := Option.some.inj e; omega)
      have hws2 : w.heap.size + 1 ≤ w2.heap.size := by omega
      have HRG := Lib.hid hrg2
      have HLK := Lib.hid hlk
      have HTK := Lib.hid htK
      have HPC := Lib.hid (Try.strings_HasPrefix s P w2)
      clear hs2 hs3 hrg2 hg2 hlk hat2 hv hkey ex hxl htK
      cases hf : Lib.hasPrefix s.data.toList P.data.toList with
      | false =>
        rw [hf] at HPC
        have HF : Hid (¬ P.data.toList <+: s.data.toList) := fun hp => by
          unfold Lib.hasPrefix at hf
          rw [List.isPrefixOf_iff_prefix.2 hp] at hf; cases hf
        clear hf
        go_wp2_with fail
        refine HPC.out.mono ?_
        rintro e v3 ⟨rfl, hv3⟩
        obtain rfl : w2 = v3 := hv3.symm
        dsimp only
        go_wp2
        go_roundw
        case rel =>
          exact ⟨_, cnt2, ss, HRG, HO2, coll_no HC.out HF.out, by omega, HB2, hws2⟩
        case measure =>
          rw [HRG.out.left_eq, HR.out.left_eq]; exact hlt2
      | true =>
        rw [hf] at HPC
        have HF : Hid (P.data.toList <+: s.data.toList) := List.isPrefixOf_iff_prefix.1 hf
        have hsl : ss.length ≤ 2000 := by omega
        clear hf
        go_wp2_with fail
        refine HPC.out.mono ?_
        rintro e v3 ⟨rfl, hv3⟩
        obtain rfl : w2 = v3 := hv3.symm
        dsimp only
        go_wp2_with (
          at_builtin
          refine wpList_append_lies _ rfl _ _ _ rfl (w.heap.size + 1) 9 i0 _ 1 16 Try.underlying37 hi0 hz0 hz1 hz2 rfl (by decide) _ ss.length (sv ss) rfl (HO2.out.alloc _) _ 1 1 [.string s] rfl rfl (lit_cells_at _ _ _ _ (by simp)) (sv_one [s]) (by decide) (by simp only [maxLen]; omega) (by omega) ?h6 _ rfl ?_
          case h6 => simp; omega
          intro gg cap2 w6 hown6 hgrow6 hat6 hlt6
          have HO6 := Lib.hid hown6
          have HG6 := Lib.hid hgrow6
          clear hown6 hgrow6 hat6)
        go_roundw
        case rel =>
          refine ⟨_, cnt2, ss ++ [s], (HRG.out.alloc _).kept HG6.out (row_ne_low HO2.out (by omega)) (row_ne_low HO2.out (by omega)), ?_, coll_yes HC.out HTK.out HF.out HLK.out, by rw [List.length_append, List.length_singleton]; omega, ?_, ?_⟩
          · have := HO6.out
            show World.ownsRow _ _ _ _ _ _ _
            rw [List.length_append, List.length_singleton]
            simpa [sv] using this
          · exact ((HB2.out.alloc (by omega) _).grown HG6.out (by simp; omega) fun k e => by have := (HO2.out.lt k e).1; omega)
          · have := HG6.out.size
            simp at this
            omega
        case measure =>
          rw [((HRG.out.alloc _).kept HG6.out (row_ne_low HO2.out (by omega)) (row_ne_low HO2.out (by omega))).left_eq, HR.out.left_eq]; exact hlt2
end Go.Proofs.Ytamkepfhlfeiiaa.Sto
