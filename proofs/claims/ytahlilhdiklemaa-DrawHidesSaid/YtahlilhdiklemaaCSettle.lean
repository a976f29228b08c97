/-
  CONTRACT of the code's settle (package closure): the work list is worked off. By an AI agent; no person has read it.
-/
import Derived.Test.YtahlilhdiklemaaCTogether
import Derived.Deep.LoopGhost
namespace Go.Proofs.Ytahlilhdiklemaa.Clo
open Go.RowKit Wire Term

set_option maxHeartbeats 16000000 in
set_option maxRecDepth 1000000 in
theorem settle_any (held : List Tm) (base pb : Nat) (X : Nat → Prop) (K : List Tm) (F : Tm → Fa) (N : List Tm) (w : World) (h : MindX 4 base pb X K F N w) (hw : Wk held K F N) (hK : K.length ≤ 100000000) (hM : N.length + uns F K ≤ 99999990) :
    Calls Try.prog 34 #[.pointer (some ⟨pb, 0, none⟩)] w fun e w' => e = .returned (.tuple #[]) ∧ Below base w w' ∧ Kp X w w' ∧ ∃ F', MindX 4 base pb X K F' [] w' ∧ Wk held K F' [] := by
  have HH := Lib.hid h
  have HWW := Lib.hid hw
  clear h hw
  go_enter Try.func34, Try.ntmps34
  go_wp2_with fail
  go_loopg [2] (N.length + uns F K) (fun n _ wr => ∃ F N, n = N.length + uns F K ∧ n ≤ 99999990 ∧ Hid (MindX 4 base pb X K F N wr) ∧ Hid (Wk held K F N) ∧ Hid (Below base w wr) ∧ Hid (Kp X w wr))
  case atStart => exact ⟨F, N, rfl, hM, HH, HWW, Below.refl _ _, fun _ _ => rfl⟩
  case round =>
    clear HH HWW hM
    obtain ⟨F0, N0, hgk, hle, HM, HW, HB, HK⟩ := hrel
    rcases List.eq_nil_or_concat N0 with rfl | ⟨N1, t, rfl⟩
    · obtain ⟨a, c, c1⟩ := HM.out.bare
      go_wp2
      go_end0
      exact ⟨rfl, HB.out, HK.out, F0, HM.out, HW.out⟩
    · rw [List.concat_eq_append] at hgk HM HW
      obtain ⟨g, cap, Y, c1, fz, hcap, hY, hglt, hgc, hbp, hplt, hm1, hk1⟩ := HM.out.last (by decide)
      have HY := Lib.hid hY
      have hYK : Y.data.toList ∈ K := by rw [hY]; exact HW.out.list _ (by simp)
      have hYs : Y.size ≤ 4000 := by rw [Lib.size_eq]; exact (right_len (HW.out.kf.good _ hYK)).2
      have HM1 := Lib.hid hm1
      have HB1 : Hid (Below base w (wr.setCell ⟨pb, 1, none⟩ (.slice (some ⟨g, 0, none⟩) N1.length cap))) := HB.out.setCell hbp _
      have HK1 := Lib.hid (HK.out.trans hk1)
      have HYK := Lib.hid hYK
      have HGK := Lib.hid hgk
      have hnn : N1.length + 1 + uns F0 K ≤ 99999990 := by rw [List.length_append, List.length_singleton] at hgk; omega
      clear hm1 hk1 hY hYK hgk
      go_wp2_with fail
      have hsn0 := HW.out.sound
      have hkf0 := (wk_way HW.out (Gr.refl held K F0 N1)).1
      refine (apart_any held 4 base pb X K F0 N1 Y _ ⟨by decide, by decide⟩ HM1.out hYs hkf0 HYK.out hsn0 hK (by omega)).mono ?_
      rintro e w2 ⟨rfl, hb2, hk2, F1, N2, hm2, hta⟩
      rw [HY.out] at hta
      have HTA := Lib.hid hta
      have HB2 := Lib.hid (HB1.out.trans hb2)
      have HK2 := Lib.hid (HK1.out.trans hk2)
      obtain ⟨mb, kb, pa, pn, pc, ia, oa, zs, us, ic, oc, c0, hzs, hzr, hus, hur, hzm, hum, hmx, hrun⟩ := hm2.look2 hYs HYK.out
      rw [HY.out] at hzs hus
      have HZS : Hid (bl zs = (F0 t).2.2.1) := by rw [hta.1.rest t] at hzs; exact hzs
      have HUS : Hid (bl us = (F0 t).2.2.2) := by rw [hta.1.rest t] at hus; exact hus
      have HM3 := Lib.hid (fun o => hmx.new (by decide) o)
      have HN3 : Hid (∀ o, Below w2.heap.size w2 (w2.alloc o)) := fun o => (Below.refl _ _).alloc (Nat.le_refl _) o
      have HZR : Hid (∀ o, SReads (w2.alloc o) ia zs) := fun o => hzr.below (HN3.out o) (Nat.le_refl _)
      have HUR : Hid (∀ o, SReads (w2.alloc o) oa us) := fun o => hur.below (HN3.out o) (Nat.le_refl _)
      have hbs2 : base ≤ w2.heap.size := Nat.le_trans (Nat.le_trans hbp (Nat.le_of_lt hplt)) (Nat.le_trans (by simp [World.setCell]) hb2.size)
      have HB3 : Hid (∀ o, Below base w (w2.alloc o)) := fun o => HB2.out.trans ((HN3.out o).mono hbs2)
      have HK3 : Hid (∀ o, Kp X w (w2.alloc o)) := fun o => HK2.out.trans (hm2.below (HN3.out o)).2
      clear hb2 hk2 hm2 hta hzs hzr hus hur hmx hsn0 hkf0 c1 fz hgc
      dsimp only
      go_wp2_with fail
      obtain ⟨w3, hw3⟩ : ∃ w3, w2.alloc (.cells #[.int .u8 kb, .slice pa pn pc, .bool (F1 Y.data.toList).1, .bool (F1 Y.data.toList).2.1, .slice ia zs.length ic, .slice oa us.length oc] 56) = w3 := ⟨_, rfl⟩
      rw [hw3]
      have HM4 := Lib.hid (HM3.out (.cells #[.int .u8 kb, .slice pa pn pc, .bool (F1 Y.data.toList).1, .bool (F1 Y.data.toList).2.1, .slice ia zs.length ic, .slice oa us.length oc] 56))
      have HZ4 := Lib.hid (HZR.out (.cells #[.int .u8 kb, .slice pa pn pc, .bool (F1 Y.data.toList).1, .bool (F1 Y.data.toList).2.1, .slice ia zs.length ic, .slice oa us.length oc] 56))
      have HU4 := Lib.hid (HUR.out (.cells #[.int .u8 kb, .slice pa pn pc, .bool (F1 Y.data.toList).1, .bool (F1 Y.data.toList).2.1, .slice ia zs.length ic, .slice oa us.length oc] 56))
      have HB4 := Lib.hid (HB3.out (.cells #[.int .u8 kb, .slice pa pn pc, .bool (F1 Y.data.toList).1, .bool (F1 Y.data.toList).2.1, .slice ia zs.length ic, .slice oa us.length oc] 56))
      have HK4 := Lib.hid (HK3.out (.cells #[.int .u8 kb, .slice pa pn pc, .bool (F1 Y.data.toList).1, .bool (F1 Y.data.toList).2.1, .slice ia zs.length ic, .slice oa us.length oc] 56))
      have HC5 : Hid (w3.cell? ⟨w2.heap.size, 5, none⟩ = some (.slice oa us.length oc)) := by
        show _ = _
        rw [← hw3, World.cell?_alloc_new]; rfl
      rw [hw3] at HM4 HZ4 HU4 HB4 HK4
      clear hw3 hrun c0 HM3 HZR HUR HB3 HK3 HN3 HB2 HK2 HM1 HB1 HK1
      have HMAX := Lib.hid hzm
      have HMAXU := Lib.hid hum
      simp only [maxLen] at hzm hum
      go_loopw [49] (fun i wr' => ∃ (j : Nat) (F2 : Tm → Fa) (N3 : List Tm), j ≤ zs.length ∧ i = .int .i64 j ∧ Hid (MindX 4 base pb (fun b => (X b ∨ (∃ off, ia = some ⟨b, off, none⟩) ∨ ∃ off, oa = some ⟨b, off, none⟩) ∨ b = w2.heap.size) K F2 N3 wr') ∧ Hid (Gr held K F1 N2 F2 N3) ∧ Hid (∀ x ∈ (bl zs).take j, O4 F2 N3 x) ∧ Hid (Below base w3 wr') ∧ Hid (Kp (fun b => (X b ∨ (∃ off, ia = some ⟨b, off, none⟩) ∨ ∃ off, oa = some ⟨b, off, none⟩) ∨ b = w2.heap.size) w3 wr')) (fun i _ => zs.length - (intOf i).toNat)
      case atStart => exact ⟨0, F1, N2, Nat.zero_le _, rfl, HM4, Gr.refl _ _ _ _, (fun x hx => by simp at hx), Below.refl _ _, fun _ _ => rfl⟩
      case round =>
        obtain ⟨j, F2, N3, hj, rfl, HM5, HG5, HO5, HB5, HK5⟩ := hrel
        have hway := wk_way HW.out (HTA.out.1.trans HG5.out)
        have HWAY := Lib.hid hway
        have hn3 : N3.length ≤ 99999990 := by omega
        clear hway
        by_cases hlt : j < zs.length
        · obtain ⟨Z, hZ⟩ : ∃ Z, zs[j]? = some Z := ⟨_, List.getElem?_eq_getElem hlt⟩
          have hzin : Z.data.toList ∈ (F0 t).2.2.1 := by rw [← HZS.out]; exact List.mem_map.2 ⟨Z, List.mem_of_getElem? hZ, rfl⟩
          obtain ⟨hZK, hZp⟩ := HW.out.kf.ins t _ hzin
          have hZs : Z.size ≤ 4000 := by rw [Lib.size_eq]; exact (right_len (HW.out.kf.good _ hZK)).2
          obtain ⟨b, off, rfl, hblt, hcell⟩ := reads_at (sreads_kp HZ4.out HK5.out HB5.out.size (fun b off _ e => .inl (.inr (.inl ⟨off, e⟩)))) j hZ
          have HTK := Lib.hid (take_get hZ)
          have HZK := Lib.hid hZK
          have HZP : Hid (pts Z.data.toList ≠ []) := fun e => by rw [e] at hZp; cases hZp
          clear hZ hzin hZK hZp
          go_wp2_with fail
          refine (puttog_any held 4 base pb ⟨by decide, by decide⟩ _ K F2 N3 Z _ HM5.out hZs HWAY.out.1 HZK.out HWAY.out.2.1 HZP.out hK (by omega)).mono ?_
          rintro e w6 ⟨rfl, hb6, hk6, F6, N6, hm6, hg6, ho6⟩
          have HB6 := Lib.hid (HB5.out.trans hb6)
          have HK6 := Lib.hid (HK5.out.trans hk6)
          have HM6 := Lib.hid hm6
          have HG6 := Lib.hid hg6
          have HO6 := Lib.hid ho6
          clear hb6 hk6 hm6 hg6 ho6
          dsimp only
          go_wp2
          go_roundw
          case rel =>
            refine ⟨j + 1, F6, N6, by omega, by go_num, HM6, HG5.out.trans HG6.out, ?_, HB6, HK6⟩
            show ∀ x ∈ (bl zs).take (j + 1), _
            rw [HTK.out]
            intro x hx
            rcases List.mem_append.1 hx with h | h
            · exact HG6.out.o4 (HO5.out x h)
            · rw [List.mem_singleton.1 h]; exact HO6.out
          case measure => simp [intOf]; omega
        · obtain rfl : j = zs.length := by omega
          have hall := HO5.out
          rw [← bl_take, List.take_length, HZS.out] at hall
          have HALL := Lib.hid hall
          have c5 : wr.cell? ⟨w2.heap.size, 5, none⟩ = some (.slice oa us.length oc) := by
            rw [World.cell?_of_block (a := ⟨w2.heap.size, 5, none⟩) (HK5.out w2.heap.size (.inr rfl))]; exact HC5.out
          clear hall HO5
          go_wp2_with fail
          have HU5 : Hid (SReads wr oa us) := sreads_kp HU4.out HK5.out HB5.out.size (fun b off _ e => .inl (.inr (.inr ⟨off, e⟩)))
          have HB5' : Hid (Below base w wr) := HB4.out.trans HB5.out
          have HK5' : Hid (Kp X w wr) := HK4.out.trans (HK5.out.less fun x hx => .inl (.inl hx))
          obtain ⟨w5, hw5⟩ : ∃ w5, w5 = wr := ⟨_, rfl⟩
          rw [← hw5] at HU5
          clear HZ4 HU4 HB4 HK4 HC5 HB5 HK5 c5
          go_loopw [60] (fun i wr' => ∃ (j : Nat) (F4 : Tm → Fa) (N4 : List Tm), j ≤ us.length ∧ i = .int .i64 j ∧ Hid (MindX 4 base pb (fun b => (X b ∨ (∃ off, ia = some ⟨b, off, none⟩) ∨ ∃ off, oa = some ⟨b, off, none⟩) ∨ b = w2.heap.size) K F4 N4 wr') ∧ Hid (Gr held K F1 N2 F4 N4) ∧ Hid (∀ x ∈ (F0 t).2.2.1, O4 F4 N4 x) ∧ Hid (∀ x ∈ (bl us).take j, O3 F4 N4 x) ∧ Hid (Below base w wr') ∧ Hid (Kp X w wr') ∧ Hid (SReads wr' oa us)) (fun i _ => us.length - (intOf i).toNat)
          case atStart => exact ⟨0, F2, N3, Nat.zero_le _, rfl, HM5, HG5, HALL, (fun x hx => by simp at hx), HB5', HK5', (by rw [hw5] at HU5; exact HU5)⟩
          case round =>
            clear HM5 HG5 HALL HB5' HK5' HU5 hw5 HWAY hn3
            obtain ⟨j, F4, N4, hj, rfl, HM7, HG7, HO7, HP7, HB7, HK7, HU7⟩ := hrel
            have hway := wk_way HW.out (HTA.out.1.trans HG7.out)
            have HWAY := Lib.hid hway
            have hn3 : N4.length ≤ 99999989 := by omega
            clear hway
            by_cases hlt : j < us.length
            · obtain ⟨Z, hZ⟩ : ∃ Z, us[j]? = some Z := ⟨_, List.getElem?_eq_getElem hlt⟩
              have hzin : Z.data.toList ∈ (F0 t).2.2.2 := by rw [← HUS.out]; exact List.mem_map.2 ⟨Z, List.mem_of_getElem? hZ, rfl⟩
              have hZK := HW.out.kf.opens t _ hzin
              have hZs : Z.size ≤ 4000 := by rw [Lib.size_eq]; exact (right_len (HW.out.kf.good _ hZK)).2
              obtain ⟨b, off, rfl, hblt, hcell⟩ := reads_at HU7.out j hZ
              have HTK := Lib.hid (take_get hZ)
              have HZK := Lib.hid hZK
              clear hZ hzin hZK
              go_wp2_with fail
              refine (apart_any held 4 base pb _ K F4 N4 Z _ ⟨by decide, by decide⟩ HM7.out hZs HWAY.out.1 HZK.out HWAY.out.2.1 hK (by omega)).mono ?_
              rintro e w6 ⟨rfl, hb6, hk6, F6, N6, hm6, hta6⟩
              have HB6 := Lib.hid (HB7.out.trans hb6)
              have HK6 := Lib.hid (HK7.out.trans (hk6.less fun x hx => .inl (.inl hx)))
              have HU6 : Hid (SReads w6 (some ⟨b, off, none⟩) us) := sreads_kp HU7.out hk6 hb6.size (fun b off _ e => .inl (.inr (.inr ⟨off, e⟩)))
              have HM6 := Lib.hid hm6
              have HT6 := Lib.hid hta6
              clear hb6 hk6 hm6 hta6
              dsimp only
              go_wp2
              go_roundw
              case rel =>
                refine ⟨j + 1, F6, N6, by omega, by go_num, HM6, HG7.out.trans HT6.out.1, (fun x hx => HT6.out.1.o4 (HO7.out x hx)), ?_, HB6, HK6, HU6⟩
                show ∀ x ∈ (bl us).take (j + 1), _
                rw [HTK.out]
                intro x hx
                rcases List.mem_append.1 hx with h | h
                · exact HT6.out.1.o3 (HP7.out x h)
                · rw [List.mem_singleton.1 h]; exact HT6.out.2.2
              case measure => simp [intOf]; omega
            · obtain rfl : j = us.length := by omega
              have hall := HP7.out
              rw [← bl_take, List.take_length, HUS.out] at hall
              have hround := wk_round HW.out HTA.out HG7.out HO7.out hall
              have HR := Lib.hid hround
              have HLE := Lib.hid hle
              clear hall HP7 hround
              go_wp2
              go_roundg (N4.length + uns F4 K)
              case measure =>
                have h1 := HR.out.2
                have h2 := HGK.out
                omega
              case rel =>
                have h1 := HR.out.2
                have h2 := HGK.out
                have h3 := HLE.out
                exact ⟨F4, N4, rfl, by omega, HM7.out.less (fun x hx => .inl (.inl hx)), HR.out.1, HB7, HK7⟩
end Go.Proofs.Ytahlilhdiklemaa.Clo
