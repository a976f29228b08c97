/-
  A CELL OF THE DOCUMENT'S STORE IS WRITTEN: what the cells say then. By an AI agent; no person has read it.
-/
import Derived.Test.YtamkepfhlfeiiaaPGet
import Derived.Test.YtamkepfhlfeiiaaSTGet
namespace Go.Proofs.Ytamkepfhlfeiiaa.Sto
open Go Go.RowKit Wire

set_option linter.unusedVariables false
set_option linter.unusedSimpArgs false
theorem set_at {rs : List Cl} {i j : Nat} {c' d : Cl} (h : (rs.set i c')[j]? = some d) : (j = i ∧ d = c' ∧ i < rs.length) ∨ (j ≠ i ∧ rs[j]? = some d) := by
  by_cases e : j = i
  · subst e
    have hl : j < rs.length := by
      have := (List.getElem?_eq_some_iff.1 h).1
      simpa using this
    rw [List.getElem?_set_self hl] at h
    exact .inl ⟨rfl, (Option.some.inj h).symm, hl⟩
  · rw [List.getElem?_set_ne (Ne.symm e)] at h
    exact .inr ⟨e, h⟩
theorem map_set_ky {rs : List Cl} {i : Nat} {c c' : Cl} (hi : rs[i]? = some c) (he : ky c' = ky c) : (rs.set i c').map ky = rs.map ky := by
  rw [List.map_set, he]
  have h1 : (rs.map ky)[i]? = some (ky c) := by rw [List.getElem?_map, hi]; rfl
  apply List.ext_getElem?
  intro j
  by_cases e : i = j
  · subst e
    rw [List.getElem?_set_self (by have := (List.getElem?_eq_some_iff.1 h1).1; exact this), h1]
  · rw [List.getElem?_set_ne e]
theorem flat_bool : ∀ {rs : List Cl} {i : Nat} {c : Cl} (b : Bool), rs[i]? = some c → (flat rs).set (i * 3 + 2) (.bool b) = flat (rs.set i ⟨c.k, c.v, b⟩)
  | [], i, c, b, h => by simp at h
  | d :: rs, 0, c, b, h => by
    obtain rfl : d = c := by simpa using h
    rfl
  | d :: rs, i + 1, c, b, h => by
    have := flat_bool (rs := rs) (i := i) (c := c) b (by simpa using h)
    show (flat (d :: rs)).set ((i + 1) * 3 + 2) (.bool b) = flat (d :: rs.set i ⟨c.k, c.v, b⟩)
    rw [flat_cons, flat_cons, ← this, show (i + 1) * 3 + 2 = (i * 3 + 2) + 1 + 1 + 1 by omega]
    simp only [List.set_cons_succ]
theorem says_del {rs : List Cl} {s : Stt} (h : Says rs s) {i : Nat} {c : Cl} (hi : rs[i]? = some c) : Says (rs.set i ⟨c.k, c.v, false⟩) (delS s (ky c)) := by
  have hm := map_set_ky (c' := ⟨c.k, c.v, false⟩) hi rfl
  refine ⟨by rw [hm]; exact h.nodup, fun t => by rw [hm]; exact h.all t, fun d hd => ?_⟩
  obtain ⟨j, hj⟩ := List.mem_iff_getElem?.1 hd
  rcases set_at hj with ⟨_, rfl, _⟩ | ⟨hne, hj'⟩
  · show false = (!decide (ky c = ky c) && _); simp
  · show d.b = (!decide (ky d = ky c) && s.is (ky d))
    rw [decide_eq_false (fun e => hne (h.at hj' hi e)), h.is d (List.mem_of_getElem? hj')]; rfl
theorem RefAt.drop {h gC cap : Nat} {rs : List Cl} {rb : Tm → Nat} {w : World} {s : Stt} (r : RefAt h gC cap false rs rb w s) {i : Nat} {c : Cl} (hi : rs[i]? = some c) :
    RefAt h gC cap false (rs.set i ⟨c.k, c.v, false⟩) rb (w.setCell ⟨gC, i * 3 + 2, none⟩ (.bool false)) (delS s (ky c)) := by
  have hgh := r.n1 rfl
  have o := r.own
  simp only [Bool.false_eq_true, if_false] at o
  obtain ⟨o1, _⟩ := o.stored (i * 3 + 2) (.bool false)
  rw [flat_bool false hi] at o1
  have hcell : ∀ j, (w.setCell ⟨gC, i * 3 + 2, none⟩ (.bool false)).cell? ⟨h, j, none⟩ = w.cell? ⟨h, j, none⟩ := fun j => World.cell?_setCell_other _ _ _ _ (fun e => hgh (by injection e))
  have hm : ∀ d ∈ rs.set i ⟨c.k, c.v, false⟩, ∃ d' ∈ rs, ky d' = ky d ∧ d'.v = d.v := fun d hd => by
    obtain ⟨j, hj⟩ := List.mem_iff_getElem?.1 hd
    rcases set_at hj with ⟨_, rfl, _⟩ | ⟨_, hj'⟩
    · exact ⟨c, List.mem_of_getElem? hi, rfl, rfl⟩
    · exact ⟨d, List.mem_of_getElem? hj', rfl, rfl⟩
  refine ⟨?_, (hcell 1).trans r.c1, (World.frozen?_setCell ..).trans r.f0, (World.frozen?_setCell ..).trans r.f1, ?_, says_del r.says hi, fun d hd => ?_, fun _ => hgh, fun d hd => ?_, fun d hd d2 hd2 => ?_, by rw [List.length_set]; exact r.cnt⟩
  · rw [hcell 0, r.c0, List.length_set]
  · simp only [Bool.false_eq_true, if_false, List.length_set]; exact o1
  · obtain ⟨d', h1, h2, h3⟩ := hm d hd
    have := r.rows d' h1
    rw [h2, h3] at this
    refine RowAt.move this (Below.heap_setCell _ _ _ _ ?_)
    rw [← h2]; exact (r.off d' h1).2 rfl
  · obtain ⟨d', h1, h2, _⟩ := hm d hd
    rw [← h2]; exact r.off d' h1
  · obtain ⟨d', h1, h2, _⟩ := hm d hd
    obtain ⟨d2', h3, h4, _⟩ := hm d2 hd2
    rw [← h2, ← h4]; exact r.inj d' h1 d2' h3
theorem xr_set {h gC : Nat} {rs : List Cl} {rb : Tm → Nat} {i : Nat} {c : Cl} (hi : rs[i]? = some c) {b : Nat} (hb : Xr h gC false (rs.set i ⟨c.k, c.v, false⟩) rb b) : Xr h gC false rs rb b := by
  rcases hb with hb | hb | ⟨d, hd, hb⟩
  · exact .inl hb
  · exact .inr (.inl hb)
  · obtain ⟨j, hj⟩ := List.mem_iff_getElem?.1 hd
    rcases set_at hj with ⟨_, rfl, _⟩ | ⟨_, hj'⟩
    · exact .inr (.inr ⟨c, List.mem_of_getElem? hi, hb⟩)
    · exact .inr (.inr ⟨d, List.mem_of_getElem? hj', hb⟩)
theorem Says.few {rs : List Cl} {s : Stt} (h : Says rs s) (hf : Fine s) : ∀ c ∈ rs, (ky c).length ≤ 200 := fun c hc => (hf.key _ ((h.all _).2 (List.mem_map_of_mem hc))).2
theorem plc_cases {rs : List Cl} {s : Stt} (h : Says rs s) (hf : Fine s) (t : Tm) : (plc rs t = -1 ∧ s.ver t = [] ∧ s.is t = false) ∨ ∃ (i : Nat) (c : Cl), rs[i]? = some c ∧ ky c = t ∧ plc rs t = (i : Int) ∧ s.ver t ≠ [] ∧ c.b = s.is t := by
  by_cases hm : t ∈ rs.map ky
  · obtain ⟨c, h1, h2⟩ := place_in hm
    refine .inr ⟨_, c, h1, h2, plc_at h h1 h2, (h.all t).2 hm, by rw [← h2]; exact h.is c (List.mem_of_getElem? h1)⟩
  · have hv : s.ver t = [] := Classical.byContradiction fun e => hm ((h.all t).1 e)
    refine .inl ⟨plc_none fun j c hj e => hm (List.mem_map.2 ⟨c, List.mem_of_getElem? hj, e⟩), hv, ?_⟩
    cases hb : s.is t with
    | false => rfl
    | true => exact absurd hv (hf.had t hb)
set_option maxHeartbeats 4000000 in
set_option maxRecDepth 1000000 in
theorem delr_c (a : Addr) (X : Nat → Prop) (s : Stt) (K : ByteArray) (w : World) (r : DR w a X s) (hf : Fine s) : Calls Try.prog 28 #[.pointer (some a), .string K] w fun e w' => e = .returned (.int .i64 (delE s K.data.toList)) ∧ (∃ X', DR w' a X' (delS s K.data.toList) ∧ ∀ b, X' b → X b ∨ w.heap.size ≤ b) ∧ Fr X w w' := by
  have HD := Lib.hid r
  obtain ⟨h, gC, cap, nl, rs, rb, rfl, r, hx⟩ := r
  have HX := Lib.hid hx
  have HPC := Lib.hid (place_c K w r (by have := r.cnt; have := hf.few; omega))
  have c0 := r.c0
  have HN : s.is K.data.toList = false → Hid (delE s K.data.toList = 4 ∧ delS s K.data.toList = s) := fun hb => ⟨by unfold delE; rw [hb]; rfl, delS_none hb⟩
  rcases plc_cases r.says hf K.data.toList with ⟨h1, _, h2⟩ | ⟨i, c, hi, hc, h1, _, h3⟩
  · have HE := HN h2
    have HP := Lib.hid h1
    clear hx r h1 h2 hf HN
    go_enter Try.func28, Try.ntmps28
    go_wp2_with fail
    refine HPC.out.mono ?_
    rintro e w1 ⟨rfl, hw⟩
    obtain rfl : w = w1 := hw.symm
    rw [HP.out]
    dsimp only
    go_wp2
    go_ret
    exact ⟨by rw [HE.out.1]; rfl, ⟨X, by rw [HE.out.2]; exact HD.out, fun b hb => .inl hb⟩, ⟨rfl, rfl, rfl, Nat.le_refl _, fun _ _ _ => rfl⟩⟩
  · cases nl with
    | true => rw [r.nil_rs] at hi; simp at hi
    | false =>
      simp only [Bool.false_eq_true, if_false] at c0
      obtain ⟨⟨_, _, q2⟩, fz⟩ := r.at hi
      have fz2 := fz (i * 3 + 2)
      have hil : (i : Int) < (rs.length : Int) := by have := (List.getElem?_eq_some_iff.1 hi).1; omega
      have hi0 : (0 : Int) ≤ (i : Int) := by omega
      have hni : ¬ (i : Int) < 0 := by omega
      cases hb : s.is K.data.toList with
      | false =>
        have HE := HN hb
        have HP := Lib.hid h1
        rw [hb] at h3
        rw [h3] at q2
        clear hx r h1 h3 hf HN hb fz fz2 hc hi
        go_enter Try.func28, Try.ntmps28
        go_wp2_with fail
        refine HPC.out.mono ?_
        rintro e w1 ⟨rfl, hw⟩
        obtain rfl : w = w1 := hw.symm
        rw [HP.out]
        dsimp only
        go_wp2
        go_ret
        exact ⟨by rw [HE.out.1]; rfl, ⟨X, by rw [HE.out.2]; exact HD.out, fun b hb => .inl hb⟩, ⟨rfl, rfl, rfl, Nat.le_refl _, fun _ _ _ => rfl⟩⟩
      | true =>
        have HE : Hid (delE s K.data.toList = 0) := by show _ = _; unfold delE; rw [hb]; rfl
        have HP := Lib.hid h1
        rw [hb] at h3
        rw [h3] at q2
        have HDR := Lib.hid (r.drop hi)
        rw [hc] at HDR
        have HXS : Hid (∀ b, Xr h gC false (rs.set i ⟨c.k, c.v, false⟩) rb b → X b ∨ w.heap.size ≤ b) := Lib.hid fun b hb => .inl ((hx b).2 (xr_set hi hb))
        have HFR : Hid (Fr X w (w.setCell ⟨gC, i * 3 + 2, none⟩ (.bool false))) := ⟨rfl, rfl, rfl, by simp, fun b _ hn => Below.heap_setCell _ _ _ _ (fun e => hn ((hx b).2 (.inr (.inl ⟨rfl, e⟩))))⟩
        clear hx r h1 h3 hf HN hb fz hc hi HD
        go_enter Try.func28, Try.ntmps28
        go_wp2_with fail
        refine HPC.out.mono ?_
        rintro e w1 ⟨rfl, hw⟩
        obtain rfl : w = w1 := hw.symm
        rw [HP.out]
        dsimp only
        go_wp2
        go_ret
        exact ⟨by rw [HE.out]; rfl, ⟨_, ⟨h, gC, cap, false, _, rb, rfl, HDR.out, fun b => Iff.rfl⟩, HXS.out⟩, HFR.out⟩
end Go.Proofs.Ytamkepfhlfeiiaa.Sto
