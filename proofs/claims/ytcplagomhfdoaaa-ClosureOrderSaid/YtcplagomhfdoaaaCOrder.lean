/-
  THE WALK of ClosureOrder. By an AI agent; no person has read it.
-/
import Derived.Test.YtcplagomhfdoaaaCLaw
import Derived.Deep.RegionHeld3
import Derived.Deep.AppendLies
import Derived.Deep.DeepMust
import Derived.IntWalk
namespace Go.Proofs.Ytcplagomhfdoaaa.Clo
open Go.RowKit Wire Term

/-- The row in another order, after k rounds. -/
def Mixed (ys : List ByteArray) (w : World) (k : Nat) (v : Value) (wr : World) : Prop := ∃ bs : List ByteArray, bs.length = 2 * k ∧ wr.ownsRow w.heap.size 9 1 v (2 * k) (sv bs) ∧ (∀ z ∈ bs, z ∈ ys) ∧
  (∀ j, ys.length - k ≤ j → j < ys.length → ys.getD j ByteArray.empty ∈ bs) ∧ Below w.heap.size w wr
theorem mixed_mem {ys bs : List ByteArray} (h1 : ∀ z ∈ bs, z ∈ ys) (h2 : ∀ j, ys.length - ys.length ≤ j → j < ys.length → ys.getD j ByteArray.empty ∈ bs) (x : List UInt8) : x ∈ bl ys ↔ x ∈ bl bs := by
  constructor
  · intro hx
    obtain ⟨y, hy, rfl⟩ := List.mem_map.1 hx
    obtain ⟨j, hj, rfl⟩ := List.mem_iff_getElem.1 hy
    have := h2 j (by omega) hj
    rw [show ys.getD j ByteArray.empty = ys[j] by simp [List.getD, hj]] at this
    exact List.mem_map.2 ⟨_, this, rfl⟩
  · intro hx
    obtain ⟨y, hy, rfl⟩ := List.mem_map.1 hx
    exact List.mem_map.2 ⟨y, h1 y hy, rfl⟩
set_option maxHeartbeats 16000000 in
set_option maxRecDepth 1000000 in
theorem order_walk (CA : ApartOK) (CD : DerivesOK) (l : Option Addr) (cl : Nat) (rows : List (List Int)) (t : Option Addr) (ct : Nat) (ts : List Int) (at' : Int) (w : World) (hr : RReads w l rows) (ht : IReads w t ts) (hat : -9223372036854775808 ≤ at' ∧ at' ≤ 9223372036854775807) :
    Calls Try.prog 6 #[.slice l rows.length cl, .slice t ts.length ct, .int .i64 at'] w fun e w' => e = .returned (.bool true) ∧ Below w.heap.size w w' := by
  have HR := Lib.hid hr
  have HT0 := Lib.hid ht
  have HAT := Lib.hid hat
  have HSH : Hid (∀ w : World, Calls Try.prog 10 #[] w fun e w' => e = .returned (.bool true) ∧ Below w.heap.size w w') := fun w => shown_any CD w
  clear hr ht hat
  by_cases h20 : (12 : Int) < (rows.length : Int)
  · go_enter Try.func6, Try.ntmps6
    go_wp2_with (go_at_call 10; refine (HSH.out _).mono ?_; rintro e w1 ⟨rfl, hb1⟩; have HB1 := Lib.hid hb1; clear hb1)
    go_ret
    exact ⟨rfl, HB1.out⟩
  obtain ⟨i0, hi0, hz0, hz1, hz2⟩ := info_parts str_info
  go_enter Try.func6, Try.ntmps6
  go_wp2_with (go_at_call 10; refine (HSH.out _).mono ?_; rintro e w1 ⟨rfl, hb1⟩; have HB1 := Lib.hid hb1; clear hb1)
  refine (some_any l cl rows _ (HR.out.below HB1.out (Nat.le_refl _))).mono ?_
  rintro e w2 ⟨⟨D, cd, ys, hy6, hyc, hnil, hyr, hyg, rfl⟩, hb2⟩
  have HB2 := Lib.hid (HB1.out.trans (hb2.mono HB1.out.size))
  have HYR := Lib.hid hyr
  have HYZ : Hid (∀ y ∈ ys, y.size ≤ 140737488355328) := fun y hy => Nat.le_trans (good_size (hyg y hy)) (by decide)
  have HYB : Hid (∀ z ∈ bl ys, right z = true) := fun z hz => (good_bl hyg z hz).1
  have HYL : Hid ((bl ys).length ≤ 6) := by show (bl ys).length ≤ 6; rw [bl_len]; exact hy6
  clear hb2 hyr hyg hnil HB1
  dsimp only
  go_wp2_with fail
  have hst : Mixed ys w2 0 (.slice none 0 0) w2 := ⟨[], rfl, World.ownsRow_nil _ _ _ _, by simp, fun j h1 h2 => by omega, Below.refl _ _⟩
  have HST := Lib.hid hst
  clear hst
  go_loopw [10, 11] (fun v i wr => ∃ k : Nat, k ≤ ys.length ∧ i = .int .i64 k ∧ Hid (Mixed ys w2 k v wr)) (fun _ i _ => ys.length - (intOf i).toNat)
  case atStart => exact ⟨0, Nat.zero_le _, rfl, HST⟩
  case round =>
    obtain ⟨k, hk, rfl, HS⟩ := hrel
    clear HST
    obtain ⟨bs, hbl, ho, hin, hcov, hbel⟩ := HS.out
    obtain ⟨vA, vc, rfl⟩ := own_value ho
    have HO := Lib.hid ho
    have HBLN := Lib.hid hbl
    have HIN := Lib.hid hin
    have HCOV := Lib.hid hcov
    have BB := Lib.hid hbel
    clear ho hbl hin hcov hbel HS
    by_cases hlt : k < ys.length
    · obtain ⟨b, off, rfl, hblt, hc2⟩ := HYR.out (ys.length - 1 - k) (by omega)
      obtain ⟨y2, hy2⟩ : ∃ y, ys.getD (ys.length - 1 - k) ByteArray.empty = y := ⟨_, rfl⟩
      rw [hy2] at hc2
      rw [← BB.out.cell (p := ⟨b, off + (ys.length - 1 - k), none⟩) hblt] at hc2
      have HY2 := Lib.hid hy2
      obtain ⟨n, hn⟩ : ∃ n, ys.length = n := ⟨_, rfl⟩
      have HN := Lib.hid hn
      have HALL : Hid (∀ j, j < n → wr.cell? ⟨b, off + j, none⟩ = some (.string (ys.getD j ByteArray.empty))) := fun j hj => by
        obtain ⟨b', off', e, hlt', hc⟩ := HYR.out j (by omega)
        injection e with e
        injection e with e1 e2
        subst e1 e2
        rw [BB.out.cell (p := ⟨b, off + j, none⟩) hlt', hc]
      have HKEEP : Hid (∀ W : World, W = wr.drew ∨ (∃ o, W = (wr.alloc o).drew) → W.cell? ⟨b, off + (n - 1 - k), none⟩ = some (.string y2) ∧ ∀ j, j < n → W.cell? ⟨b, off + j, none⟩ = some (.string (ys.getD j ByteArray.empty))) := by
        rintro W (rfl | ⟨o, rfl⟩)
        · exact ⟨by rw [← hn]; exact hc2, HALL.out⟩
        · have hl : b < wr.heap.size := Nat.lt_of_lt_of_le hblt BB.out.size
          exact ⟨by rw [← hn]; exact (World.cell?_alloc_lt wr o ⟨b, _, none⟩ hl).trans hc2, fun j hj => (World.cell?_alloc_lt wr o ⟨b, _, none⟩ hl).trans (HALL.out j hj)⟩
      have HFAR : Hid (∀ (o : Obj) (W : World), ((wr.alloc o).drew).grownBy W (Value.slice vA (2 * k) vc).ownBlock → W.cell? ⟨b, off + (n - 1 - k), none⟩ = some (.string y2) ∧ ∀ j, j < n → W.cell? ⟨b, off + j, none⟩ = some (.string (ys.getD j ByteArray.empty))) := by
        intro o W hg
        have hl : b < wr.heap.size := Nat.lt_of_lt_of_le hblt BB.out.size
        have h2 := HKEEP.out _ (Or.inr ⟨o, rfl⟩)
        have hf : ∀ j, W.cell? ⟨b, j, none⟩ = ((wr.alloc o).drew).cell? ⟨b, j, none⟩ := fun j => hg.cell_far ⟨b, j, none⟩ (by show b < (wr.heap.push o).size; simp; omega) (fun e => by
          have := (HO.out.lt b e.symm).1
          omega)
        exact ⟨(hf _).trans h2.1, fun j hj => (hf _).trans (h2.2 j hj)⟩
      have HP : Hid (∀ w : World, Calls Try.prog 23 #[.int .i64 at', .int .i64 ((n : Int) + 1)] w fun e w' => Picked (n + 1) e ∧ w = w') := fun w => by
        have := pick_any at' (n + 1) w HAT.out (by omega) (by omega)
        rw [show ((n + 1 : Nat) : Int) = (n : Int) + 1 by omega] at this
        exact this
      rw [hn] at hk hlt hc2 hy6 hyc ⊢
      have hn0 : ((n : Int) == 0) = false := by rw [beq_eq_false_iff_ne]; omega
      have hn1 : (0 : Int) < (n : Int) := by omega
      have hn2 : ¬ n = 0 := by omega
      have hn4 : 0 < n := by omega
      have hk6 : n - 1 - k < n := by omega
      have hw1 : IntKind.i64.wrap ((n : Int) + 1) = (n : Int) + 1 := by rw [IntKind.wrap_i64]; omega
      have hw2 : IntKind.i64.wrap ((n : Int) - 1) = (n : Int) - 1 := by rw [IntKind.wrap_i64]; omega
      have hw3 : IntKind.i64.wrap ((n : Int) - 1 - (k : Int)) = (n : Int) - 1 - (k : Int) := by rw [IntKind.wrap_i64]; omega
      have hk1 : (0 : Int) ≤ (n : Int) - 1 - (k : Int) := by omega
      have hk2 : (n : Int) - 1 - (k : Int) < (n : Int) := by omega
      have hk3 : ((n : Int) - 1 - (k : Int)).toNat = n - 1 - k := by omega
      have hk4 : (k : Int) < (n : Int) := by omega
      have hk5 : (k : Int) ≤ (n : Int) - 1 := by omega
      clear hn hy2
      go_wp2
      go_region_held3 (fun w' => w'.cell? ⟨b, off + (n - 1 - k), none⟩ = some (.string y2) ∧ ∀ j, j < n → w'.cell? ⟨b, off + j, none⟩ = some (.string (ys.getD j ByteArray.empty)))
        (first | exact HKEEP.out _ (Or.inl rfl) | exact HKEEP.out _ (Or.inr ⟨_, rfl⟩) | exact HKEEP4.out | go_keep)
        (first
          | (go_simp
             go_at_call 23
             refine (HP.out _).mono ?_
             rintro e w3 ⟨⟨p, hp, rfl⟩, rfl⟩
             obtain ⟨q, hq⟩ : ∃ q, (k + p) % n = q := ⟨_, rfl⟩
             have hqn : q < n := (by rw [← hq]; exact Nat.mod_lt _ (by omega))
             have hq1 : (0 : Int) ≤ (q : Int) := (by omega)
             have hq2 : (q : Int) < (n : Int) := (by omega)
             have hkp : (0 : Int) ≤ (k : Int) + (p : Int) := (by omega)
             have hwq : IntKind.i64.wrap (q : Int) = (q : Int) := (by rw [IntKind.wrap_i64]; omega)
             have hwp : IntKind.i64.wrap ((k : Int) + (p : Int)) = (k : Int) + (p : Int) := (by rw [IntKind.wrap_i64]; omega)
             have hrem : ((k : Int) + (p : Int)).tmod (n : Int) = (q : Int) := (by rw [show (k : Int) + (p : Int) = ((k + p : Nat) : Int) by omega, ← Int.ofNat_tmod, hq])
             have hrem2 : ((k : Int) + (p : Int)) % (n : Int) = (q : Int) := (by rw [show (k : Int) + (p : Int) = ((k + p : Nat) : Int) by omega, ← Int.natCast_emod, hq])
             obtain ⟨z, hz⟩ : ∃ z, ys.getD q ByteArray.empty = z := ⟨_, rfl⟩
             have hcq := HALL.out q hqn
             rw [hz] at hcq
             have HZ := Lib.hid hz
             clear hz hq
             dsimp only)
          | (go_must (refine step_append_lies _ (by rfl) _ _ _ (by rfl) w2.heap.size 9 i0 _ 1 16 Try.underlying22 hi0 hz0 hz1 hz2 rfl (by omega) _ (2 * k) (sv bs) (by rfl) ((HO.out.alloc _).drew) ⟨wr.heap.size, 0, none⟩ 2 2 [.string (ys[q]?.getD ByteArray.empty), .string y2] (by rfl) (by rfl) (World.news_of_block (cs := #[.string (ys[q]?.getD ByteArray.empty), .string y2]) (t := 9) (fr := (0, 0)) (heap_alloc_new wr _)) (by simp [Value.oneCell']) (by omega) (by unfold maxLen; omega) (by omega) (by have := BB.out.size; simp; omega) (wr.heap.size + 1) (by simp) ?_); intro gg cap2 w4 hown hgrow hatt hlt4; have HKEEP4 : Hid (w4.cell? ⟨b, off + (n - 1 - k), none⟩ = some (.string y2) ∧ ∀ j, j < n → w4.cell? ⟨b, off + j, none⟩ = some (.string (ys.getD j ByteArray.empty))) := (HFAR.out _ _ hgrow)))
      have hb4 : Below w2.heap.size w2 w4 := Below.grown ((BB.out.alloc BB.out.size _).drew) hgrow (by have := BB.out.size; simp; omega) (fun g hg => (HO.out.lt g hg).1)
      have HO4 := Lib.hid hown
      have HB4 := Lib.hid hb4
      have HX : Hid (ys[q]?.getD ByteArray.empty ∈ ys) := by
        show _ ∈ ys
        rw [List.getElem?_eq_getElem (by rw [HN.out]; exact hqn)]
        exact List.getElem_mem _
      have HY : Hid (y2 ∈ ys) := getD_mem (by rw [HN.out]; omega) HY2.out
      clear hown hb4 hgrow hatt HKEEP HKEEP4 HFAR HALL hcq hc2
      go_wp2
      go_roundw
      case rel =>
        refine ⟨k + 1, by omega, by go_num, bs ++ [ys[q]?.getD ByteArray.empty, y2], by simp [HBLN.out]; omega, ?_, fun z hz => ?_, fun j h1 h2 => ?_, HB4.out⟩
        · rw [show 2 * (k + 1) = 2 * k + 2 by omega]; simpa [sv] using HO4.out
        · rcases List.mem_append.1 hz with h | h
          · exact HIN.out z h
          · have : z = ys[q]?.getD ByteArray.empty ∨ z = y2 := by simpa using h
            rcases this with rfl | rfl
            · exact HX.out
            · exact HY.out
        · have hnn := HN.out
          by_cases hj : j = ys.length - 1 - k
          · subst hj
            rw [HY2.out]; simp
          · exact List.mem_append_left _ (HCOV.out j (by omega) (by omega))
      case measure => simp [intOf]; omega
    · obtain rfl : k = ys.length := by omega
      have HSAME : Hid (∀ x, x ∈ bl ys ↔ x ∈ bl bs) := mixed_mem HIN.out HCOV.out
      obtain ⟨hbr, hbl2, hbc⟩ := sreads_own HO.out
      have HBR := Lib.hid hbr
      have HYW := Lib.hid (HYR.out.below BB.out (Nat.le_refl _))
      have HBW := Lib.hid (Bel.call HB2.out BB.out)
      have HBZ : Hid (∀ y ∈ bs, y.size ≤ 140737488355328) := fun y hy => HYZ.out y (HIN.out y hy)
      have HBB : Hid (∀ z ∈ bl bs, right z = true) := fun z hz => HYB.out z ((HSAME.out z).2 hz)
      have hb2 : bs.length ≤ 12 := by rw [hbl2]; omega
      have HBL2 : Hid ((bl bs).length ≤ 12) := by show (bl bs).length ≤ 12; rw [bl_len]; exact hb2
      rw [← hbl2] at hbc ⊢
      clear hbr HO HBLN HIN HCOV HYR hbl2 BB HB2
      go_wp2_with fail
      refine (grownG_any t ct ts _ (HT0.out.below HBW.out (Nat.le_refl _))).mono ?_
      rintro e w5 ⟨⟨T, hT, rfl⟩, hb5⟩
      have BB5 := Lib.hid hb5
      have hTz := good_size hT
      have HT := Lib.hid hT
      clear hb5 hT
      go_wp2_with fail
      refine (der_reads CD (w0 := wr) D cd ys T HYW.out hyc BB5.out (by omega) HYZ.out (by omega)).mono ?_
      rintro e w6 ⟨⟨b1, f1, h1, rfl⟩, hb6⟩
      obtain ⟨rfl, hi1⟩ := dv_ok h1 HYB.out (by have := HYL.out; omega) HT.out.1
      have HI1 := Lib.hid hi1
      have BB6 := Lib.hid hb6
      clear hb6 h1 hi1 BB5
      dsimp only
      go_wp2_with fail
      refine (der_reads CD (w0 := wr) vA vc bs T HBR.out hbc BB6.out (by omega) HBZ.out (by omega)).mono ?_
      rintro e w7 ⟨⟨b2, f2, h2, rfl⟩, hb7⟩
      obtain ⟨rfl, hi2⟩ := dv_ok h2 HBB.out (by have := HBL2.out; omega) HT.out.1
      obtain rfl : b2 = b1 := bool_iff (hi2.trans (der_same HSAME.out _).symm) HI1.out
      have BB7 := Lib.hid hb7
      clear hb7 h2 hi2 BB6 HI1
      dsimp only
      go_wp2_with fail
      refine (CA D cd ys _ (HYW.out.below BB7.out (Nat.le_refl _)) hyc (by omega) HYZ.out).mono ?_
      rintro e w8 ⟨⟨E, ce, hs, f8, hap, hec, hel, her, rfl⟩, hb8⟩
      obtain ⟨h80, hris, hmem⟩ := ap_ok hap HYB.out (by have := HYL.out; omega)
      obtain rfl : f8 = 0 := h80
      have HRIS : Hid (Rising (bl hs)) := hris
      have HMEM : Hid (∀ y, y ∈ bl hs ↔ Had (bl ys) y) := hmem
      have HER := Lib.hid her
      have BB8 := Lib.hid (Bel.call BB7.out hb8)
      clear hb8 hap hris hmem her BB7
      dsimp only
      go_wp2_with fail
      refine (CA vA vc bs _ (HBR.out.below BB8.out (Nat.le_refl _)) hbc (by omega) HBZ.out).mono ?_
      rintro e w9 ⟨⟨G, cg, gs, f9, hap, hgc, hgl, hgr, rfl⟩, hb9⟩
      obtain ⟨h90, hris, hmem⟩ := ap_ok hap HBB.out (by have := HBL2.out; omega)
      obtain rfl : f9 = 0 := h90
      have HEQ : Hid (bl hs = bl gs) := rising_eq HRIS.out hris fun z => (HMEM.out z).trans (by rw [had_same HSAME.out]; exact (hmem z).symm)
      have HGR := Lib.hid hgr
      have HER9 := Lib.hid (HER.out.below hb9 (Nat.le_refl _))
      have BB9 := Lib.hid (Bel.call BB8.out hb9)
      clear hb9 hap hris hmem hgr BB8 HER HRIS HMEM
      dsimp only
      have hself : (b2 == b2) = true := by simp
      go_wp2_with (go_at_call 16; refine (same_any E G ce cg hs gs _ HER9.out HGR.out hel).mono ?_; rintro e w10 ⟨rfl, hb10⟩; have BB10 := Lib.hid (Bel.call BB9.out hb10); clear hb10)
      go_ret
      exact ⟨ret_bool (decide_eq_true HEQ.out), Bel.call HBW.out BB10.out⟩
end Go.Proofs.Ytcplagomhfdoaaa.Clo
