/-
  CONTRACTS of the code's check, hold (package closure). By an AI agent; no person has read it.
-/
import Derived.Test.YtahlilhdiklemaaCLearn
import Derived.Test.YtahlilhdiklemaaCSettle
namespace Go.Proofs.Ytahlilhdiklemaa.Clo
open Go.RowKit Wire Term

/-- The error of what is held. -/
def ckV (l : List Tm) : Int := if l.all right = false then 1 else if 200 < l.length then 10 else 0
theorem kind_zero {t : Tm} (h : right t = false) : kind t = 0 := by unfold kind; rw [if_neg (by rw [h]; decide)]
theorem kind_pos {t : Tm} (h : right t = true) : kind t ≠ 0 := by
  rw [kind_ok h]
  obtain ⟨b, r, rfl, hb⟩ := kinds h
  show b.toNat ≠ 0
  have h2 : b = 97 ∨ b = 116 ∨ b = 104 ∨ b = 117 ∨ b = 112 ∨ b = 115 ∨ b = 98 ∨ b = 103 := by
    rcases hb with h | h | (h | h) | (h | h | h | h) <;> simp [h]
  rcases h2 with h | h | h | h | h | h | h | h <;> (rw [h]; decide)
set_option maxHeartbeats 4000000 in
set_option maxRecDepth 1000000 in
theorem check_any (a : Option Addr) (c : Nat) (ys : List ByteArray) (w : World) (hr : SReads w a ys) (hn : ys.length ≤ 140737488355328) (hz : ∀ y ∈ ys, y.size ≤ 140737488355328) :
    Calls Try.prog 30 #[.slice a ys.length c] w fun e w' => e = .returned (.int .i64 (ckV (bl ys))) ∧ Below w.heap.size w w' := by
  have HR := Lib.hid hr
  have HZ := Lib.hid hz
  clear hr hz
  go_enter Try.func30, Try.ntmps30
  go_wp2_with fail
  go_loopw [7] (fun i wr => ∃ j : Nat, j ≤ ys.length ∧ i = .int .i64 j ∧ Hid (((bl ys).take j).all right = true) ∧ Hid (Below w.heap.size w wr)) (fun i _ => ys.length - (intOf i).toNat)
  case atStart => exact ⟨0, Nat.zero_le _, rfl, rfl, Below.refl _ _⟩
  case round =>
    obtain ⟨j, hj, rfl, HA, HB⟩ := hrel
    by_cases hlt : j < ys.length
    · obtain ⟨Y, hY⟩ : ∃ Y, ys[j]? = some Y := ⟨_, List.getElem?_eq_getElem hlt⟩
      obtain ⟨b, off, rfl, hblt, hcell⟩ := reads_at (HR.out.below HB.out (Nat.le_refl _)) j hY
      have HTK := Lib.hid (take_get hY)
      have hYz := HZ.out Y (List.mem_of_getElem? hY)
      have HYM : Hid (Y.data.toList ∈ bl ys) := List.mem_map.2 ⟨Y, List.mem_of_getElem? hY, rfl⟩
      clear hY
      cases hrt : right Y.data.toList with
      | false =>
        have HRT := Lib.hid hrt
        clear hrt
        go_wp2_with fail
        refine (t_Kind Y _ hYz).mono ?_
        rw [kind_zero HRT.out]
        rintro e w2 ⟨rfl, hb2⟩
        have HB2 := Lib.hid (HB.out.trans (hb2.mono HB.out.size))
        clear hb2
        dsimp only
        go_wp2
        go_ret
        refine ⟨?_, HB2.out⟩
        have : (bl ys).all right = false := by
          rw [List.all_eq_false]
          exact ⟨_, HYM.out, by rw [HRT.out]; decide⟩
        unfold ckV
        rw [if_pos this]
        rfl
      | true =>
        have HRT := Lib.hid hrt
        obtain ⟨kd, hkd⟩ : ∃ kd, kind Y.data.toList = kd := ⟨_, rfl⟩
        have hk0 : ¬ ((kd : Nat) : Int) = 0 := by have := kind_pos hrt; omega
        clear hrt
        go_wp2_with fail
        refine (t_Kind Y _ hYz).mono ?_
        rw [hkd]
        rintro e w2 ⟨rfl, hb2⟩
        have HB2 := Lib.hid (HB.out.trans (hb2.mono HB.out.size))
        clear hb2 hkd
        dsimp only
        go_wp2
        go_roundw
        case rel =>
          refine ⟨j + 1, by omega, by go_num, ?_, HB2⟩
          show ((bl ys).take (j + 1)).all right = true
          rw [HTK.out, List.all_append, HA.out]
          simp [HRT.out]
        case measure => simp [intOf]; omega
    · obtain rfl : j = ys.length := by omega
      have hall := HA.out
      rw [← bl_take, List.take_length] at hall
      have HALL := Lib.hid hall
      clear hall HA
      by_cases h200 : 200 < ys.length
      · have h2 : (200 : Int) < (ys.length : Int) := by omega
        go_wp2
        go_ret
        refine ⟨?_, HB.out⟩
        unfold ckV
        rw [if_neg (by rw [HALL.out]; decide), if_pos (by rw [bl_len]; exact h200)]
        rfl
      · have h2 : ¬ (200 : Int) < (ys.length : Int) := by omega
        go_wp2
        go_ret
        refine ⟨?_, HB.out⟩
        unfold ckV
        rw [if_neg (by rw [HALL.out]; decide), if_neg (by rw [bl_len]; exact h200)]
        rfl
theorem MindX.lv {lv lv' base pb : Nat} {K : List Tm} {F : Tm → Fa} {N : List Tm} {w : World} (h : MindX lv base pb (fun _ => False) K F N w) : MindX lv' base pb (fun _ => False) K F N w := by
  obtain ⟨mb, own, nv, V, hm, _⟩ := h
  exact ⟨mb, own, nv, V, hm, fun _ h => h.elim⟩
/-- The mind of nothing. -/
theorem mind_none (w : World) : MindX 6 w.heap.size (w.heap.size + 1) (fun _ => False) [] (fun _ => fa0) [] ((w.alloc (.map #[] 0)).alloc (.cells #[.map (some w.heap.size), .slice none 0 0] 59)) := by
  have hs : (w.alloc (.map #[] 0)).heap.size = w.heap.size + 1 := by simp
  have hh : ((w.alloc (.map #[] 0)).alloc (.cells #[.map (some w.heap.size), .slice none 0 0] 59)).heap[w.heap.size + 1]? = some (.cells #[.map (some w.heap.size), .slice none 0 0] 59 (0, 0)) := by
    have := heap_alloc_new (w.alloc (.map #[] 0)) (.cells #[.map (some w.heap.size), .slice none 0 0] 59)
    rw [hs] at this; exact this
  refine ⟨w.heap.size, fun b => if b = w.heap.size then (2, []) else (1, []), .slice none 0 0, fun _ => undef, ⟨hh, ⟨by simp, by omega⟩, ⟨by simp, Nat.le_refl _⟩, (mapIs_made w _).block ((MapKept.heap_alloc _ _).2 _ (by simp)), IsRow.nil _ _ _ _, fun t ht => (List.not_mem_nil ht).elim⟩, fun _ h => h.elim⟩
set_option maxHeartbeats 8000000 in
set_option maxRecDepth 1000000 in
theorem hold_any (a : Option Addr) (c : Nat) (ys : List ByteArray) (w : World) (hr : SReads w a ys) (hn : ys.length ≤ 200) (hright : ∀ h ∈ bl ys, right h = true) :
    Calls Try.prog 32 #[.slice a ys.length c] w fun e w' => ∃ (pb : Nat) (K : List Tm) (F : Tm → Fa) (N : List Tm), e = .returned (.pointer (some ⟨pb, 0, none⟩)) ∧ MindX 6 w.heap.size pb (fun _ => False) K F N w' ∧ Ln (bl ys) K F N [] ∧ Bd (ys.length * 16001) K F N ∧ (∀ h ∈ bl ys, (F h).1 = true) ∧ Below w.heap.size w w' := by
  have HR := Lib.hid hr
  have HRT := Lib.hid hright
  have HB0 : Hid (∀ o1 o2, Below w.heap.size w ((w.alloc o1).alloc o2)) := fun o1 o2 => two_new w o1 o2
  have HM0 := Lib.hid (mind_none w)
  have hmm := @run_makeMap Try.prog
  clear hr hright
  go_enter Try.func32, Try.ntmps32
  go_wp2_with fail
  go_loopw [11] (fun i wr => ∃ (j : Nat) (K : List Tm) (F : Tm → Fa) (N : List Tm), j ≤ ys.length ∧ i = .int .i64 j ∧ Hid (MindX 6 w.heap.size (w.heap.size + 1) (fun _ => False) K F N wr) ∧ Hid (Ln (bl ys) K F N []) ∧ Hid (Bd (j * 16001) K F N) ∧ Hid (∀ h ∈ (bl ys).take j, (F h).1 = true) ∧ Hid (Below w.heap.size w wr)) (fun i _ => ys.length - (intOf i).toNat)
  case atStart => exact ⟨0, _, _, _, Nat.zero_le _, rfl, HM0, ln_none _, ⟨Nat.zero_le _, fun _ => ⟨Nat.zero_le _, Nat.zero_le _⟩, Nat.zero_le _⟩, (fun h hh => by simp at hh), HB0.out _ _⟩
  case round =>
    obtain ⟨j, K, F, N, hj, rfl, HM, HL, HBD, HH, HB⟩ := hrel
    by_cases hlt : j < ys.length
    · obtain ⟨Y, hY⟩ : ∃ Y, ys[j]? = some Y := ⟨_, List.getElem?_eq_getElem hlt⟩
      obtain ⟨b, off, rfl, hblt, hcell⟩ := reads_at (HR.out.below HB.out (Nat.le_refl _)) j hY
      have HTK := Lib.hid (take_get hY)
      have hYM : Y.data.toList ∈ bl ys := List.mem_map.2 ⟨Y, List.mem_of_getElem? hY, rfl⟩
      have hYR := HRT.out _ hYM
      have hYl := (right_len hYR).2
      have hYs : Y.size ≤ 4000 := by rw [Lib.size_eq]; exact hYl
      have HYM := Lib.hid hYM
      have HLE := Lib.hid (learn_any (bl ys) w.heap.size (w.heap.size + 1) _ Y (Nat.lt_succ_self _) hYR (fun _ => False) K F N [] (j * 16001) wr HM.out HL.out (fun a h => (List.not_mem_nil h).elim) HBD.out (by omega))
      clear hY hYM hYR
      go_wp2_with fail
      refine HLE.out.mono ?_
      rintro e w2 ⟨rfl, hb2, _, K2, F2, N2, hm2, hr2⟩
      have HM2 := Lib.hid hm2
      have HR2 := Lib.hid hr2
      have HB2 := Lib.hid (HB.out.trans hb2)
      have HBD2 : Hid (Bd (j * 16001 + 16000) K2 F2 N2) := hr2.bd.mono (by omega)
      have hk2 : K2.length ≤ 90000000 := by have := HBD2.out.1; omega
      have hn2 : N2.length ≤ 90000000 := by have := HBD2.out.2.2; omega
      clear hm2 hr2 hb2 HLE
      dsimp only
      go_wp2_with fail
      refine (have_any 6 w.heap.size (w.heap.size + 1) (by decide) _ K2 F2 N2 Y _ HM2.out hYs HR2.out.here (by omega) (by omega)).mono ?_
      rintro e w3 ⟨rfl, hm3, hb3, _⟩
      have HM3 := Lib.hid hm3
      have HB3 := Lib.hid (HB2.out.trans hb3)
      have HG := Lib.hid (gr_hv (held := bl ys) (F := F2) N2 HR2.out.here (had_held HYM.out))
      clear hm3 hb3
      dsimp only
      go_wp2
      go_roundw
      case rel =>
        refine ⟨j + 1, K2, _, _, by omega, by go_num, HM3, ln_gr HR2.out.ln HG.out.1, (bd_gr HBD2.out HG.out.1 (hvN_len F2 N2 _)).mono (by omega), ?_, HB3⟩
        show ∀ h ∈ (bl ys).take (j + 1), _
        rw [HTK.out]
        intro h hh
        rcases List.mem_append.1 hh with h1 | h1
        · exact HG.out.1.had h (by rw [HR2.out.same h]; exact HH.out h h1)
        · rw [List.mem_singleton.1 h1]; exact HG.out.2
      case measure => simp [intOf]; omega
    · obtain rfl : j = ys.length := by omega
      have hall := HH.out
      rw [← bl_take, List.take_length] at hall
      have HALL := Lib.hid hall
      clear hall HH
      go_wp2
      go_ret
      exact ⟨_, K, F, N, rfl, HM.out, HL.out, HBD.out, HALL.out, HB.out⟩
end Go.Proofs.Ytahlilhdiklemaa.Clo
