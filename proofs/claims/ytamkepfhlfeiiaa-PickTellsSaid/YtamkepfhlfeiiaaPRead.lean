/-
  CONTRACTS of the document's Get and Versions (letterlockref12). By an AI agent; no person has read it.
-/
import Derived.Test.YtamkepfhlfeiiaaPApp
namespace Go.Proofs.Ytamkepfhlfeiiaa.Sto
open Go Go.RowKit Wire

set_option linter.unusedVariables false
set_option linter.unusedSimpArgs false
theorem last_bl {ys : List ByteArray} (h : 0 < ys.length) : (bl ys).getLastD [] = (ys.getD (ys.length - 1) ByteArray.empty).data.toList := by
  have hne : ys ≠ [] := by rintro rfl; simp at h
  obtain ⟨y0, yl, rfl⟩ := (List.eq_nil_or_concat ys).resolve_left hne
  simp [bl]
set_option maxHeartbeats 4000000 in
set_option maxRecDepth 1000000 in
theorem getr_c (a : Addr) (X : Nat → Prop) (s : Stt) (K : ByteArray) (w : World) (r : DR w a X s) (hf : Fine s) : Calls Try.prog 33 #[.pointer (some a), .string K] w fun e w' => Sr (getS s K.data.toList) e ∧ Below w.heap.size w w' := by
  have hmany := hf.many K.data.toList
  have hfew := hf.few
  obtain ⟨h, gC, cap, nl, rs, rb, rfl, r, hx⟩ := r
  have HPC := Lib.hid (place_c K w r (by have := r.cnt; have := hf.few; omega))
  have c0 := r.c0
  unfold getS
  rcases plc_cases r.says hf K.data.toList with ⟨h1, _, h2⟩ | ⟨i, c, hi, hc, h1, hne, h3⟩
  · have HP := Lib.hid h1
    rw [h2]
    simp only [Bool.false_eq_true, if_false]
    clear hx r h1 h2 hf
    go_enter Try.func33, Try.ntmps33
    go_wp2_with fail
    refine HPC.out.mono ?_
    rintro e w1 ⟨rfl, hw⟩
    obtain rfl : w = w1 := hw.symm
    rw [HP.out]
    dsimp only
    go_wp2
    go_ret2
    exact ⟨⟨⟨#[]⟩, rfl, rfl⟩, Below.refl _ _⟩
  · cases nl with
    | true => rw [r.nil_rs] at hi; simp at hi
    | false =>
      simp only [Bool.false_eq_true, if_false] at c0
      obtain ⟨⟨_, q1, q2⟩, fz⟩ := r.at hi
      have hil : (i : Int) < (rs.length : Int) := by have := (List.getElem?_eq_some_iff.1 hi).1; omega
      have hi0 : (0 : Int) ≤ (i : Int) := by omega
      have hni : ¬ (i : Int) < 0 := by omega
      have HP := Lib.hid h1
      rw [h3] at q2
      obtain ⟨ys, hys, hol, hob⟩ := r.rows c (List.mem_of_getElem? hi)
      obtain ⟨A, cl, hcv⟩ := own_value hol
      rw [hcv] at hol q1
      rw [hc] at hys
      obtain ⟨hr, _, _⟩ := sreads_own hol
      have hyl : ys.length = (s.ver K.data.toList).length := by rw [← hys, bl_len]
      have hpos : 0 < ys.length := by rw [hyl]; exact List.length_pos_iff.2 hne
      obtain ⟨b, off, hA, hbl, hcell⟩ := hr (ys.length - 1) (by omega)
      subst hA
      have HL := Lib.hid (last_bl hpos)
      rw [hys] at HL
      generalize ys.getD (ys.length - 1) ByteArray.empty = y at hcell HL
      obtain ⟨n, hn⟩ : ∃ n, ys.length = n + 1 := ⟨ys.length - 1, by omega⟩
      rw [hn] at q1 hcell
      simp only [Nat.add_sub_cancel] at hcell
      have hn2 : (n : Int) < 2001 := by omega
      have hn1 : (0 : Int) ≤ (n : Int) := by omega
      clear hx r h1 h3 hf fz hys hol hob hcv hr hyl hpos hi hc hne hn
      cases hb : s.is K.data.toList with
      | false =>
        rw [hb] at q2
        simp only [Bool.false_eq_true, if_false]
        clear hb
        go_enter Try.func33, Try.ntmps33
        go_wp2_with fail
        refine HPC.out.mono ?_
        rintro e w1 ⟨rfl, hw⟩
        obtain rfl : w = w1 := hw.symm
        rw [HP.out]
        dsimp only
        go_wp2
        go_ret2
        exact ⟨⟨⟨#[]⟩, rfl, rfl⟩, Below.refl _ _⟩
      | true =>
        rw [hb] at q2
        simp only [if_true]
        clear hb
        go_enter Try.func33, Try.ntmps33
        go_wp2_with fail
        refine HPC.out.mono ?_
        rintro e w1 ⟨rfl, hw⟩
        obtain rfl : w = w1 := hw.symm
        rw [HP.out]
        dsimp only
        go_wp2
        go_quiet (fail)
        go_wp2
        go_ret2
        exact ⟨⟨y, HL.out.symm, rfl⟩, Below.drewN' (Below.refl w.heap.size w) _⟩
set_option maxHeartbeats 4000000 in
set_option maxRecDepth 1000000 in
theorem versr_c (a : Addr) (X : Nat → Prop) (s : Stt) (K : ByteArray) (w : World) (r : DR w a X s) (hf : Fine s) : Calls Try.prog 32 #[.pointer (some a), .string K] w fun e w' => Row w w' (s.ver K.data.toList) e ∧ Below w.heap.size w w' := by
  have hmany := hf.many K.data.toList
  have hfew := hf.few
  obtain ⟨h, gC, cap, nl, rs, rb, rfl, r, hx⟩ := r
  have HPC := Lib.hid (place_c K w r (by have := r.cnt; have := hf.few; omega))
  have c0 := r.c0
  rcases plc_cases r.says hf K.data.toList with ⟨h1, h2, _⟩ | ⟨i, c, hi, hc, h1, hne, h3⟩
  · have HP := Lib.hid h1
    rw [h2]
    clear hx r h1 h2 hf
    go_enter Try.func32, Try.ntmps32
    go_wp2_with fail
    refine HPC.out.mono ?_
    rintro e w1 ⟨rfl, hw⟩
    obtain rfl : w = w1 := hw.symm
    rw [HP.out]
    dsimp only
    go_wp2
    go_ret
    exact ⟨⟨_, [], rfl, World.ownsRow_nil _ _ _ _, rfl⟩, Below.refl _ _⟩
  · cases nl with
    | true => rw [r.nil_rs] at hi; simp at hi
    | false =>
      simp only [Bool.false_eq_true, if_false] at c0
      obtain ⟨⟨_, q1, _⟩, _⟩ := r.at hi
      have hil : (i : Int) < (rs.length : Int) := by have := (List.getElem?_eq_some_iff.1 hi).1; omega
      have hi0 : (0 : Int) ≤ (i : Int) := by omega
      have hni : ¬ (i : Int) < 0 := by omega
      have HP := Lib.hid h1
      obtain ⟨ys, hys, hol, hob⟩ := r.rows c (List.mem_of_getElem? hi)
      obtain ⟨A, cl, hcv⟩ := own_value hol
      rw [hcv] at hol q1
      rw [hc] at hys
      obtain ⟨hr, _, _⟩ := sreads_own hol
      have hyl : ys.length = (s.ver K.data.toList).length := by rw [← hys, bl_len]
      have hpos : 0 < ys.length := by rw [hyl]; exact List.length_pos_iff.2 hne
      have hA : A ≠ none := fun e => by obtain ⟨b, off, h4, _⟩ := hr 0 hpos; rw [e] at h4; cases h4
      have HR := Lib.hid hr
      have HYS := Lib.hid hys
      have e0 : (w.alloc (.cells #[] 9)).cell? ⟨h, 0, none⟩ = some (.slice (some ⟨gC, 0, none⟩) rs.length cap) := by rw [World.cell?_alloc_past _ _ _ r.h_lt]; exact c0
      have e1 : (w.alloc (.cells #[] 9)).cell? ⟨gC, i * 3 + 1, none⟩ = some (.slice A ys.length cl) := by rw [World.cell?_alloc_past _ _ _ (r.c_lt rfl)]; exact q1
      have HBA : Hid (Below w.heap.size w (w.alloc (.cells #[] 9))) := Lib.hid ((Below.refl w.heap.size w).alloc (Nat.le_refl _) _)
      have HOE := Lib.hid (own_empty w)
      have hy2 : ys.length ≤ 2000 := by omega
      clear hx r h1 h3 hf hys hol hob hcv hr hyl hi hc hne
      go_enter Try.func32, Try.ntmps32
      go_wp2_with fail
      refine HPC.out.mono ?_
      rintro e w1 ⟨rfl, hw⟩
      obtain rfl : w = w1 := hw.symm
      rw [HP.out]
      dsimp only
      go_wp2_with (
        at_builtin
        go_loud (refine append_strs rfl _ _ rfl w.heap.size _ 0 [] ys rfl HOE.out rfl A ys.length cl rfl rfl (fun e => absurd e hA) (HR.out.below HBA.out (Nat.le_refl _)) (by omega) (by simp) ?_)
        intro v' w3 hown hbel
        have HO3 := Lib.hid hown
        have HB3 := Lib.hid hbel
        clear hown hbel)
      go_ret
      have ho := HO3.out
      rw [Nat.zero_add, List.nil_append] at ho
      exact ⟨⟨v', ys, HYS.out, ho, rfl⟩, HBA.out.trans HB3.out⟩
end Go.Proofs.Ytamkepfhlfeiiaa.Sto
