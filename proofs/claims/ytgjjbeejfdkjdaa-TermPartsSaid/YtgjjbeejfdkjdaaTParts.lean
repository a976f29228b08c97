/-
  THE WALK of TermParts. By an AI agent; no person has read it.
-/
import Derived.Test.YtgjjbeejfdkjdaaTOpens
import Derived.Deep.RegionHeld3
namespace Go.Proofs.Ytgjjbeejfdkjdaa.Term
open Go.RowKit Wire

theorem read_whole {l q : List UInt8} (h : right l = true) : read (l ++ q) = (l, q, 0) := by
  have h1 := right_size h q
  obtain ⟨h2, h3⟩ := right_len h
  unfold read
  rw [h1, if_neg (by omega), List.take_left, List.drop_left]
theorem take_none {l : List UInt8} {k : Nat} (h : right l = true) (hk : k < l.length) : size 40 (l.take k) = 0 := by
  by_cases h0 : size 40 (l.take k) = 0
  · exact h0
  · exfalso
    have h1 := size_ext 40 (l.take k) (l.drop (size 40 (l.take k))) h0
    have hle := size_le 40 (l.take k)
    rw [List.length_take] at hle
    rw [List.take_take, Nat.min_eq_left (by omega), List.take_append_drop, (right_iff.1 h).2.2] at h1
    omega
theorem read_cut {l : List UInt8} {k : Nat} (h : right l = true) (hk : k < l.length) : read (l.take k) = ([], [], 2) ∧ kind (l.take k) = 0 := by
  have h1 := take_none h hk
  refine ⟨by unfold read; rw [h1, if_pos (.inl rfl)], kind_wrong ?_⟩
  rw [← Bool.not_eq_true]
  intro hr
  obtain ⟨h2, _, h3⟩ := right_iff.1 hr
  rw [h1] at h3
  exact h2 (List.eq_nil_of_length_eq_zero h3.symm)
theorem kind_more {l q : List UInt8} (h : right l = true) (hq : q ≠ []) : kind (l ++ q) = 0 := by
  refine kind_wrong ?_
  rw [← Bool.not_eq_true]
  intro hr
  have h3 := (right_iff.1 hr).2.2
  rw [right_size h q, List.length_append] at h3
  exact hq (List.eq_nil_of_length_eq_zero (by omega))
/-- A right term's parts: right ones, and the term's bytes. -/
theorem parts_all {b : UInt8} {t : List UInt8} (h : right (b :: t) = true) : ∃ ps, parts (b :: t) = (ps, 0) ∧ ps.length ≤ 2 ∧ (∀ p ∈ ps, right p = true) ∧ (ps ≠ [] → b :: ps.flatten = b :: t) := by
  obtain ⟨b', t', m, he, ha, hb⟩ := right_parts h
  obtain ⟨rfl, rfl⟩ : b = b' ∧ t = t' := by simpa using he
  have hp : parts (b :: t) = (cuts m t, 0) := by
    unfold parts; rw [if_pos h, List.headD_cons, ha, List.tail_cons, Option.getD_some]
  have hm : m = 0 ∨ m = 1 ∨ m = 2 := by
    unfold arity at ha
    split at ha
    · have := Option.some.inj ha; omega
    · split at ha
      · have := Option.some.inj ha; omega
      · split at ha
        · have := Option.some.inj ha; omega
        · cases ha
  rcases hm with rfl | rfl | rfl
  · exact ⟨[], hp, by simp, by simp, fun h => absurd rfl h⟩
  · have hb8 : b ≠ 98 := by
      rintro rfl
      have : arity 98 = some 2 := rfl
      rw [this] at ha; cases ha
    obtain ⟨h1, h2⟩ := one_part h ha hb8
    rw [h2] at hp
    exact ⟨[t], hp, by simp, fun p hp => by rw [List.mem_singleton.1 hp]; exact h1, fun _ => by simp⟩
  · obtain ⟨x, y, h1, h2, h3, h4, _⟩ := two_parts h ha
    rw [h2] at hp
    refine ⟨[x, y], hp, by simp, fun p hp => ?_, fun _ => by rw [h1]; simp⟩
    rcases List.mem_cons.1 hp with rfl | hp
    · exact h3
    · rw [List.mem_singleton.1 hp]; exact h4

set_option maxHeartbeats 8000000 in
set_option maxRecDepth 1000000 in
theorem parts_walk (a : Option Addr) (ca : Nat) (za : List Int) (rest : ByteArray) (at' : Int) (w : World) (ha : IReads w a za) (hrest : rest.size ≤ 140737488355328) (hat : -9223372036854775808 ≤ at' ∧ at' ≤ 9223372036854775807) :
    Calls Try.prog 6 #[.slice a za.length ca, .string rest, .int .i64 at'] w fun e w' => e = .returned (.bool true) ∧ Below w.heap.size w w' := by
  have RA := Lib.hid ha
  clear ha
  by_cases hbig : (2000 : Int) < (rest.size : Int)
  · go_enter Try.func6, Try.ntmps6
    go_wp2_with (go_at_call 10; refine (shown_any _).mono ?_; rintro e w1 ⟨rfl, hb1⟩; have HB1 := Lib.hid hb1; clear hb1)
    go_ret
    exact ⟨rfl, HB1.out⟩
  · go_enter Try.func6, Try.ntmps6
    go_wp2_with fail
    refine (shown_any _).mono ?_
    rintro e w1 ⟨rfl, hb1⟩
    have HB1 := Lib.hid hb1
    clear hb1
    go_wp2_with fail
    refine (grown_any a ca za _ (RA.out.below HB1.out (Nat.le_refl _))).mono ?_
    rintro e w2 ⟨⟨T, hx, rfl⟩, hb⟩
    have HB2 := Lib.hid (HB1.out.trans (hb.mono HB1.out.size))
    have hTz := (right_sz hx).2
    have HT := Lib.hid hx
    clear hx hb
    obtain ⟨h0, b, t, hh, hz⟩ := right_head HT.out
    have hfb := hh.first
    have hl0 : (0 : Int) < (T.size : Int) := by omega
    have hl1 : (1 : Int) ≤ (T.size : Int) := by omega
    have HH := Lib.hid hh
    have HTB : Hid (right (b :: t) = true) := by show _ = _; rw [← hh.all]; exact HT.out
    obtain ⟨ps, hps, hps2, hpr, hpf⟩ := parts_all HTB.out
    have HPS : Hid (parts T.data.toList = (ps, 0)) := by show _ = _; rw [hh.all]; exact hps
    have HPR := Lib.hid hpr
    have HPF := Lib.hid hpf
    have HKD : Hid (kind T.data.toList = b.toNat) := by show _ = _; rw [kind_right HT.out, hh.all]; rfl
    have HRD : Hid (read (T ++ rest).data.toList = (T.data.toList, rest.data.toList, 0)) := by show _ = _; rw [app_data]; exact read_whole HT.out
    have htrz : (T ++ rest).size ≤ 6000 := by
      have h1 := Lib.size_eq T
      have h2 := Lib.size_eq rest
      rw [Lib.size_eq, app_data, List.length_append, ← h1, ← h2]; omega
    have hbb : ((b.toNat : Int) != (b.toNat : Int)) = false := by simp
    clear hh hps hpr hpf
    go_wp2_with fail
    obtain ⟨TR, hTR⟩ : ∃ TR, T ++ rest = TR := ⟨_, rfl⟩
    have HTR := Lib.hid hTR
    rw [hTR] at HRD htrz ⊢
    clear hTR
    refine (t_Read TR _ (by omega)).mono ?_
    rw [HRD.out]
    rintro e w3 ⟨⟨X, Y, hX, hY, rfl⟩, hb⟩
    dsimp only at hX hY ⊢
    have HB3 := Lib.hid (HB2.out.trans (hb.mono HB2.out.size))
    have q1 : (X.toList == T.toList) = true := eq_bool hX
    have q2 : (Y.toList == rest.toList) = true := eq_bool hY
    clear hX hY hb
    go_wp2_with fail
    refine (t_Parts T _ (by omega)).mono ?_
    rw [HPS.out]
    rintro e w4 ⟨⟨A, c, ys, hys, hcl, hsr, rfl⟩, hb⟩
    dsimp only at hys ⊢
    have HB4 := Lib.hid (HB3.out.trans (hb.mono HB3.out.size))
    have HYS := Lib.hid hys
    have HSR := Lib.hid hsr
    have hyl : ys.length ≤ 2 := by rw [← bl_len, hys]; exact hps2
    clear hys hsr hb
    go_wp2
    go_region_held3 (fun w' => True)
      (first | go_keep | trivial)
      (first
        | (go_simp
           go_at_call 24
           refine (t_Kind T _ (by omega)).mono ?_
           rw [HKD.out]
           rintro e w5 ⟨rfl, hb⟩
           have HB5 := Lib.hid (HB4.out.drew.trans (hb.mono HB4.out.size))
           have HSR5 := Lib.hid ((HSR.out.below (Below.refl _ _).drew (Nat.le_refl _)).below hb (Nat.le_refl _))
           clear hb
           dsimp only))
    go_wp2
    all_goals
      have hst : (T.extract 0 1).data.toList = b :: (bl (ys.take 0)).flatten := by rw [extract_take, HH.out.all]; rfl
      have hstz : (T.extract 0 1).size ≤ 1 := by rw [Lib.size_eq, hst]; exact Nat.le_refl _
      have HST := Lib.hid hst
      clear hst
      go_loopw [14, 15] (fun v i wr => ∃ (k : Nat) (W : ByteArray), k ≤ ys.length ∧ W.size ≤ 1 + 4000 * k ∧ i = .int .i64 k ∧ v = .string W ∧ Hid (W.data.toList = b :: (bl (ys.take k)).flatten) ∧ Hid (SReads wr A ys) ∧ Hid (Below w.heap.size w wr)) (fun _ i _ => ys.length - (intOf i).toNat)
      case atStart => exact ⟨0, _, Nat.zero_le _, hstz, rfl, rfl, HST, HSR5, HB5⟩
      case round =>
        obtain ⟨k, W, hk, hWz, rfl, rfl, HW, HRR, HBW⟩ := hrel
        clear HST HSR5 HB5 HSR
        by_cases hlt : k < ys.length
        · obtain ⟨bk, off, rfl, hblt, hcell⟩ := HRR.out k hlt
          obtain ⟨y, hy⟩ : ∃ y, ys.getD k ByteArray.empty = y := ⟨_, rfl⟩
          rw [hy] at hcell
          have hyr : right y.data.toList = true := HPR.out _ (by rw [← HYS.out]; exact List.mem_map.2 ⟨y, getD_mem hlt hy, rfl⟩)
          have hyz := (right_sz hyr).2
          have hkp : ((kind y.data.toList : Int) == 0) = false := by
            rw [beq_eq_false_iff_ne]
            have := kind_pos hyr
            omega
          have hnew : (W ++ y).data.toList = b :: (bl (ys.take (k + 1))).flatten := by
            have e : ys[k] = y := by rw [← hy]; simp [List.getD, hlt]
            rw [app_data, HW.out, List.take_succ_eq_append_getElem hlt, e]
            simp [bl]
          have hnz : (W ++ y).size ≤ 1 + 4000 * (k + 1) := by
            have h1 := Lib.size_eq W
            have h2 := Lib.size_eq y
            rw [Lib.size_eq, app_data, List.length_append, ← h1, ← h2]; omega
          have HNW := Lib.hid hnew
          have HNZ := Lib.hid hnz
          clear hy hyr hnew hnz
          go_wp2_with fail
          refine (t_Kind y _ (by omega)).mono ?_
          rintro e w6 ⟨rfl, hb⟩
          have HB6 := Lib.hid (HBW.out.trans (hb.mono HBW.out.size))
          have HR6 := Lib.hid (HRR.out.below hb (Nat.le_refl _))
          clear hb
          go_wp2
          go_roundw
          case rel => exact ⟨k + 1, W ++ y, by omega, HNZ.out, by go_num, rfl, HNW, HR6, HB6⟩
          case measure => simp [intOf]; omega
        · obtain rfl : k = ys.length := by omega
          have hwt : 0 < ys.length → (W.toList == T.toList) = true := fun h => eq_bool (by
            rw [HW.out, List.take_length, HYS.out, HH.out.all]
            refine HPF.out fun h0 => ?_
            have h1 := bl_len ys
            rw [HYS.out, h0] at h1
            simp at h1; omega)
          have HWT := Lib.hid hwt
          clear hwt
          by_cases hy0 : (0 : Int) < (ys.length : Int)
          · have q3 := HWT.out (by omega)
            by_cases hb97 : b = 97
            · have c1 : ((b.toNat : Int) == 97) = true := by rw [hb97]; rfl
              have c2 : ((b.toNat : Int) == 116) = false := by rw [hb97]; rfl
              have hr97 : right (97 :: t) = true := by rw [← hb97]; exact HTB.out
              obtain ⟨n, htk, htp, hn⟩ := atom_tk hr97
              have PN : Hid (number T.data.toList = (n, 0)) := by
                show _ = _
                unfold number
                rw [if_pos HT.out, HH.out.all, if_pos (show (b :: t).headD 0 = 97 from hb97), List.tail_cons, tk_some htk]
              have PW : Hid (words T.data.toList = ([], 2)) := by
                show _ = _
                unfold words
                rw [if_pos HT.out, HH.out.all, if_neg (show ¬ (b :: t).headD 0 = 116 from by rw [List.headD_cons, hb97]; decide)]
              have PA : Hid (ofAtom n = T.data.toList) := by show _ = _; rw [HH.out.all, hb97, ofAtom, ← htp]
              have HN := Lib.hid hn
              have hnn : (n : Int) < 18446744073709551616 := by omega
              clear hb97 hr97 htk htp hn hnn
              go_wp2_with fail
              refine (t_Number T _ (by omega)).mono ?_
              rw [PN.out]
              rintro e w30 ⟨rfl, hb⟩
              dsimp only
              have HB30 := Lib.hid (HBW.out.trans (hb.mono HBW.out.size))
              clear hb
              go_wp2_with fail
              refine (t_Words T _ (by omega)).mono ?_
              rw [PW.out]
              rintro e w31 ⟨⟨Q, hQ, rfl⟩, hb⟩
              dsimp only at hQ ⊢
              have HB31 := Lib.hid (HB30.out.trans (hb.mono HB30.out.size))
              have HQ := Lib.hid hQ
              clear hQ hb
              go_wp2_with fail
              refine (t_OfAtom n _ HN.out).mono ?_
              rintro e w32 ⟨⟨O, hO, rfl⟩, hb⟩
              have HB32 := Lib.hid (HB31.out.trans (hb.mono HB31.out.size))
              have q5 : (O.toList == T.toList) = true := eq_bool (by rw [hO, PA.out])
              clear hO hb
              have hQz : Q.size ≤ 4000 := by rw [Lib.size_eq, HQ.out]; exact Nat.zero_le _
              go_wp2_with fail
              refine (t_OfText Q _ (by omega)).mono ?_
              rintro e w33 ⟨⟨Z, hZ, rfl⟩, hb⟩
              have HB33 := Lib.hid (HB32.out.trans (hb.mono HB32.out.size))
              clear hZ hb
              go_wp2_with fail
              refine (pick_any at' T.size _ hat (by omega) (by omega)).mono ?_
              rintro e w' ⟨⟨m, hm, rfl⟩, rfl⟩
              dsimp only
              obtain ⟨hc1, hc2⟩ := read_cut HT.out (k := m) (by rw [← Lib.size_eq]; exact hm)
              rw [← extract_take] at hc1 hc2
              have C1 := Lib.hid hc1
              have C2 := Lib.hid hc2
              have hm0 : (0 : Int) ≤ (m : Int) := by omega
              have hm1 : (m : Int) ≤ (T.size : Int) := by omega
              have hez : (T.extract 0 m).size ≤ 140737488355328 := by rw [Lib.size_eq, extract_take, List.length_take, ← Lib.size_eq]; omega
              clear hc1 hc2
              go_wp2_with fail
              refine (t_Read (T.extract 0 m) _ hez).mono ?_
              rw [C1.out]
              rintro e w34 ⟨⟨X2, Y2, hX, hY, rfl⟩, hb⟩
              dsimp only at hX hY ⊢
              have HB34 := Lib.hid (HB33.out.trans (hb.mono HB33.out.size))
              clear hX hY hb
              go_wp2_with fail
              refine (t_Kind (T.extract 0 m) _ hez).mono ?_
              rw [C2.out]
              rintro e w35 ⟨rfl, hb⟩
              have HB35 := Lib.hid (HB34.out.trans (hb.mono HB34.out.size))
              clear hb
              by_cases hre : rest.data.toList = []
              · have q7 := empty_str hre
                clear hre
                go_wp2
                go_ret
                exact ⟨rfl, HB35.out⟩
              · have q7 := nonempty_str hre
                have KM : Hid (kind TR.data.toList = 0) := by show _ = _; rw [← HTR.out, app_data]; exact kind_more HT.out hre
                have htr := HTR.out
                clear hre
                go_wp2_with fail
                refine (t_Kind TR _ (by omega)).mono ?_
                rw [KM.out]
                rintro e w36 ⟨rfl, hb⟩
                have HB36 := Lib.hid (HB35.out.trans (hb.mono HB35.out.size))
                clear hb htr
                go_wp2
                go_ret
                exact ⟨rfl, HB36.out⟩
            · by_cases hb116 : b = 116
              · have c1 : ((b.toNat : Int) == 97) = false := by rw [hb116]; rfl
                have c2 : ((b.toNat : Int) == 116) = true := by rw [hb116]; rfl
                have hr116 : right (116 :: t) = true := by rw [← hb116]; exact HTB.out
                obtain ⟨s, htx, htp, hsl⟩ := text_tx hr116
                have PN : Hid (number T.data.toList = (0, 2)) := by
                  show _ = _
                  unfold number
                  rw [if_pos HT.out, HH.out.all, if_neg (show ¬ (b :: t).headD 0 = 97 from by rw [List.headD_cons, hb116]; decide)]
                have PW : Hid (words T.data.toList = (s, 0)) := by
                  show _ = _
                  unfold words
                  rw [if_pos HT.out, HH.out.all, if_pos (show (b :: t).headD 0 = 116 from hb116), List.tail_cons, htx]
                have PT : Hid (ofText s = (T.data.toList, 0)) := by
                  show _ = _
                  unfold ofText made
                  rw [← htp, if_pos hr116, HH.out.all, hb116]
                have HSL := Lib.hid hsl
                clear hb97 hb116 hr116 htx htp hsl
                go_wp2_with fail
                refine (t_Number T _ (by omega)).mono ?_
                rw [PN.out]
                rintro e w30 ⟨rfl, hb⟩
                dsimp only
                have HB30 := Lib.hid (HBW.out.trans (hb.mono HBW.out.size))
                clear hb
                go_wp2_with fail
                refine (t_Words T _ (by omega)).mono ?_
                rw [PW.out]
                rintro e w31 ⟨⟨Q, hQ, rfl⟩, hb⟩
                dsimp only at hQ ⊢
                have HB31 := Lib.hid (HB30.out.trans (hb.mono HB30.out.size))
                have HQ := Lib.hid hQ
                clear hQ hb
                have hQz : Q.size ≤ 4000 := by rw [Lib.size_eq, HQ.out]; exact HSL.out
                go_wp2_with fail
                refine (t_OfText Q _ (by omega)).mono ?_
                rw [HQ.out, PT.out]
                rintro e w33 ⟨⟨Z, hZ, rfl⟩, hb⟩
                dsimp only at hZ ⊢
                have HB33 := Lib.hid (HB31.out.trans (hb.mono HB31.out.size))
                have q6 : (Z.toList == T.toList) = true := eq_bool hZ
                clear hZ hb
                go_wp2_with fail
                refine (pick_any at' T.size _ hat (by omega) (by omega)).mono ?_
                rintro e w' ⟨⟨m, hm, rfl⟩, rfl⟩
                dsimp only
                obtain ⟨hc1, hc2⟩ := read_cut HT.out (k := m) (by rw [← Lib.size_eq]; exact hm)
                rw [← extract_take] at hc1 hc2
                have C1 := Lib.hid hc1
                have C2 := Lib.hid hc2
                have hm0 : (0 : Int) ≤ (m : Int) := by omega
                have hm1 : (m : Int) ≤ (T.size : Int) := by omega
                have hez : (T.extract 0 m).size ≤ 140737488355328 := by rw [Lib.size_eq, extract_take, List.length_take, ← Lib.size_eq]; omega
                clear hc1 hc2
                go_wp2_with fail
                refine (t_Read (T.extract 0 m) _ hez).mono ?_
                rw [C1.out]
                rintro e w34 ⟨⟨X2, Y2, hX, hY, rfl⟩, hb⟩
                dsimp only at hX hY ⊢
                have HB34 := Lib.hid (HB33.out.trans (hb.mono HB33.out.size))
                clear hX hY hb
                go_wp2_with fail
                refine (t_Kind (T.extract 0 m) _ hez).mono ?_
                rw [C2.out]
                rintro e w35 ⟨rfl, hb⟩
                have HB35 := Lib.hid (HB34.out.trans (hb.mono HB34.out.size))
                clear hb
                by_cases hre : rest.data.toList = []
                · have q7 := empty_str hre
                  clear hre
                  go_wp2
                  go_ret
                  exact ⟨rfl, HB35.out⟩
                · have q7 := nonempty_str hre
                  have KM : Hid (kind TR.data.toList = 0) := by show _ = _; rw [← HTR.out, app_data]; exact kind_more HT.out hre
                  have htr := HTR.out
                  clear hre
                  go_wp2_with fail
                  refine (t_Kind TR _ (by omega)).mono ?_
                  rw [KM.out]
                  rintro e w36 ⟨rfl, hb⟩
                  have HB36 := Lib.hid (HB35.out.trans (hb.mono HB35.out.size))
                  clear hb htr
                  go_wp2
                  go_ret
                  exact ⟨rfl, HB36.out⟩
              · have c1 : ((b.toNat : Int) == 97) = false := by
                  rw [beq_eq_false_iff_ne]; intro h; exact hb97 (UInt8.toNat_inj.1 (by have : (97 : UInt8).toNat = 97 := rfl; omega))
                have c2 : ((b.toNat : Int) == 116) = false := by
                  rw [beq_eq_false_iff_ne]; intro h; exact hb116 (UInt8.toNat_inj.1 (by have : (116 : UInt8).toNat = 116 := rfl; omega))
                have PN : Hid (number T.data.toList = (0, 2)) := by
                  show _ = _
                  unfold number
                  rw [if_pos HT.out, HH.out.all, if_neg (show ¬ (b :: t).headD 0 = 97 from hb97)]
                have PW : Hid (words T.data.toList = ([], 2)) := by
                  show _ = _
                  unfold words
                  rw [if_pos HT.out, HH.out.all, if_neg (show ¬ (b :: t).headD 0 = 116 from hb116)]
                clear hb97 hb116
                go_wp2_with fail
                refine (t_Number T _ (by omega)).mono ?_
                rw [PN.out]
                rintro e w30 ⟨rfl, hb⟩
                dsimp only
                have HB30 := Lib.hid (HBW.out.trans (hb.mono HBW.out.size))
                clear hb
                go_wp2_with fail
                refine (t_Words T _ (by omega)).mono ?_
                rw [PW.out]
                rintro e w31 ⟨⟨Q, hQ, rfl⟩, hb⟩
                dsimp only at hQ ⊢
                have HB31 := Lib.hid (HB30.out.trans (hb.mono HB30.out.size))
                have HQ := Lib.hid hQ
                clear hQ hb
                have hQz : Q.size ≤ 4000 := by rw [Lib.size_eq, HQ.out]; exact Nat.zero_le _
                go_wp2_with fail
                refine (t_OfText Q _ (by omega)).mono ?_
                rintro e w33 ⟨⟨Z, hZ, rfl⟩, hb⟩
                have HB33 := Lib.hid (HB31.out.trans (hb.mono HB31.out.size))
                clear hZ hb
                go_wp2_with fail
                refine (pick_any at' T.size _ hat (by omega) (by omega)).mono ?_
                rintro e w' ⟨⟨m, hm, rfl⟩, rfl⟩
                dsimp only
                obtain ⟨hc1, hc2⟩ := read_cut HT.out (k := m) (by rw [← Lib.size_eq]; exact hm)
                rw [← extract_take] at hc1 hc2
                have C1 := Lib.hid hc1
                have C2 := Lib.hid hc2
                have hm0 : (0 : Int) ≤ (m : Int) := by omega
                have hm1 : (m : Int) ≤ (T.size : Int) := by omega
                have hez : (T.extract 0 m).size ≤ 140737488355328 := by rw [Lib.size_eq, extract_take, List.length_take, ← Lib.size_eq]; omega
                clear hc1 hc2
                go_wp2_with fail
                refine (t_Read (T.extract 0 m) _ hez).mono ?_
                rw [C1.out]
                rintro e w34 ⟨⟨X2, Y2, hX, hY, rfl⟩, hb⟩
                dsimp only at hX hY ⊢
                have HB34 := Lib.hid (HB33.out.trans (hb.mono HB33.out.size))
                clear hX hY hb
                go_wp2_with fail
                refine (t_Kind (T.extract 0 m) _ hez).mono ?_
                rw [C2.out]
                rintro e w35 ⟨rfl, hb⟩
                have HB35 := Lib.hid (HB34.out.trans (hb.mono HB34.out.size))
                clear hb
                by_cases hre : rest.data.toList = []
                · have q7 := empty_str hre
                  clear hre
                  go_wp2
                  go_ret
                  exact ⟨rfl, HB35.out⟩
                · have q7 := nonempty_str hre
                  have KM : Hid (kind TR.data.toList = 0) := by show _ = _; rw [← HTR.out, app_data]; exact kind_more HT.out hre
                  have htr := HTR.out
                  clear hre
                  go_wp2_with fail
                  refine (t_Kind TR _ (by omega)).mono ?_
                  rw [KM.out]
                  rintro e w36 ⟨rfl, hb⟩
                  have HB36 := Lib.hid (HB35.out.trans (hb.mono HB35.out.size))
                  clear hb htr
                  go_wp2
                  go_ret
                  exact ⟨rfl, HB36.out⟩
          · by_cases hb97 : b = 97
            · have c1 : ((b.toNat : Int) == 97) = true := by rw [hb97]; rfl
              have c2 : ((b.toNat : Int) == 116) = false := by rw [hb97]; rfl
              have hr97 : right (97 :: t) = true := by rw [← hb97]; exact HTB.out
              obtain ⟨n, htk, htp, hn⟩ := atom_tk hr97
              have PN : Hid (number T.data.toList = (n, 0)) := by
                show _ = _
                unfold number
                rw [if_pos HT.out, HH.out.all, if_pos (show (b :: t).headD 0 = 97 from hb97), List.tail_cons, tk_some htk]
              have PW : Hid (words T.data.toList = ([], 2)) := by
                show _ = _
                unfold words
                rw [if_pos HT.out, HH.out.all, if_neg (show ¬ (b :: t).headD 0 = 116 from by rw [List.headD_cons, hb97]; decide)]
              have PA : Hid (ofAtom n = T.data.toList) := by show _ = _; rw [HH.out.all, hb97, ofAtom, ← htp]
              have HN := Lib.hid hn
              have hnn : (n : Int) < 18446744073709551616 := by omega
              clear hb97 hr97 htk htp hn hnn
              go_wp2_with fail
              refine (t_Number T _ (by omega)).mono ?_
              rw [PN.out]
              rintro e w30 ⟨rfl, hb⟩
              dsimp only
              have HB30 := Lib.hid (HBW.out.trans (hb.mono HBW.out.size))
              clear hb
              go_wp2_with fail
              refine (t_Words T _ (by omega)).mono ?_
              rw [PW.out]
              rintro e w31 ⟨⟨Q, hQ, rfl⟩, hb⟩
              dsimp only at hQ ⊢
              have HB31 := Lib.hid (HB30.out.trans (hb.mono HB30.out.size))
              have HQ := Lib.hid hQ
              clear hQ hb
              go_wp2_with fail
              refine (t_OfAtom n _ HN.out).mono ?_
              rintro e w32 ⟨⟨O, hO, rfl⟩, hb⟩
              have HB32 := Lib.hid (HB31.out.trans (hb.mono HB31.out.size))
              have q5 : (O.toList == T.toList) = true := eq_bool (by rw [hO, PA.out])
              clear hO hb
              have hQz : Q.size ≤ 4000 := by rw [Lib.size_eq, HQ.out]; exact Nat.zero_le _
              go_wp2_with fail
              refine (t_OfText Q _ (by omega)).mono ?_
              rintro e w33 ⟨⟨Z, hZ, rfl⟩, hb⟩
              have HB33 := Lib.hid (HB32.out.trans (hb.mono HB32.out.size))
              clear hZ hb
              go_wp2_with fail
              refine (pick_any at' T.size _ hat (by omega) (by omega)).mono ?_
              rintro e w' ⟨⟨m, hm, rfl⟩, rfl⟩
              dsimp only
              obtain ⟨hc1, hc2⟩ := read_cut HT.out (k := m) (by rw [← Lib.size_eq]; exact hm)
              rw [← extract_take] at hc1 hc2
              have C1 := Lib.hid hc1
              have C2 := Lib.hid hc2
              have hm0 : (0 : Int) ≤ (m : Int) := by omega
              have hm1 : (m : Int) ≤ (T.size : Int) := by omega
              have hez : (T.extract 0 m).size ≤ 140737488355328 := by rw [Lib.size_eq, extract_take, List.length_take, ← Lib.size_eq]; omega
              clear hc1 hc2
              go_wp2_with fail
              refine (t_Read (T.extract 0 m) _ hez).mono ?_
              rw [C1.out]
              rintro e w34 ⟨⟨X2, Y2, hX, hY, rfl⟩, hb⟩
              dsimp only at hX hY ⊢
              have HB34 := Lib.hid (HB33.out.trans (hb.mono HB33.out.size))
              clear hX hY hb
              go_wp2_with fail
              refine (t_Kind (T.extract 0 m) _ hez).mono ?_
              rw [C2.out]
              rintro e w35 ⟨rfl, hb⟩
              have HB35 := Lib.hid (HB34.out.trans (hb.mono HB34.out.size))
              clear hb
              by_cases hre : rest.data.toList = []
              · have q7 := empty_str hre
                clear hre
                go_wp2
                go_ret
                exact ⟨rfl, HB35.out⟩
              · have q7 := nonempty_str hre
                have KM : Hid (kind TR.data.toList = 0) := by show _ = _; rw [← HTR.out, app_data]; exact kind_more HT.out hre
                have htr := HTR.out
                clear hre
                go_wp2_with fail
                refine (t_Kind TR _ (by omega)).mono ?_
                rw [KM.out]
                rintro e w36 ⟨rfl, hb⟩
                have HB36 := Lib.hid (HB35.out.trans (hb.mono HB35.out.size))
                clear hb htr
                go_wp2
                go_ret
                exact ⟨rfl, HB36.out⟩
            · by_cases hb116 : b = 116
              · have c1 : ((b.toNat : Int) == 97) = false := by rw [hb116]; rfl
                have c2 : ((b.toNat : Int) == 116) = true := by rw [hb116]; rfl
                have hr116 : right (116 :: t) = true := by rw [← hb116]; exact HTB.out
                obtain ⟨s, htx, htp, hsl⟩ := text_tx hr116
                have PN : Hid (number T.data.toList = (0, 2)) := by
                  show _ = _
                  unfold number
                  rw [if_pos HT.out, HH.out.all, if_neg (show ¬ (b :: t).headD 0 = 97 from by rw [List.headD_cons, hb116]; decide)]
                have PW : Hid (words T.data.toList = (s, 0)) := by
                  show _ = _
                  unfold words
                  rw [if_pos HT.out, HH.out.all, if_pos (show (b :: t).headD 0 = 116 from hb116), List.tail_cons, htx]
                have PT : Hid (ofText s = (T.data.toList, 0)) := by
                  show _ = _
                  unfold ofText made
                  rw [← htp, if_pos hr116, HH.out.all, hb116]
                have HSL := Lib.hid hsl
                clear hb97 hb116 hr116 htx htp hsl
                go_wp2_with fail
                refine (t_Number T _ (by omega)).mono ?_
                rw [PN.out]
                rintro e w30 ⟨rfl, hb⟩
                dsimp only
                have HB30 := Lib.hid (HBW.out.trans (hb.mono HBW.out.size))
                clear hb
                go_wp2_with fail
                refine (t_Words T _ (by omega)).mono ?_
                rw [PW.out]
                rintro e w31 ⟨⟨Q, hQ, rfl⟩, hb⟩
                dsimp only at hQ ⊢
                have HB31 := Lib.hid (HB30.out.trans (hb.mono HB30.out.size))
                have HQ := Lib.hid hQ
                clear hQ hb
                have hQz : Q.size ≤ 4000 := by rw [Lib.size_eq, HQ.out]; exact HSL.out
                go_wp2_with fail
                refine (t_OfText Q _ (by omega)).mono ?_
                rw [HQ.out, PT.out]
                rintro e w33 ⟨⟨Z, hZ, rfl⟩, hb⟩
                dsimp only at hZ ⊢
                have HB33 := Lib.hid (HB31.out.trans (hb.mono HB31.out.size))
                have q6 : (Z.toList == T.toList) = true := eq_bool hZ
                clear hZ hb
                go_wp2_with fail
                refine (pick_any at' T.size _ hat (by omega) (by omega)).mono ?_
                rintro e w' ⟨⟨m, hm, rfl⟩, rfl⟩
                dsimp only
                obtain ⟨hc1, hc2⟩ := read_cut HT.out (k := m) (by rw [← Lib.size_eq]; exact hm)
                rw [← extract_take] at hc1 hc2
                have C1 := Lib.hid hc1
                have C2 := Lib.hid hc2
                have hm0 : (0 : Int) ≤ (m : Int) := by omega
                have hm1 : (m : Int) ≤ (T.size : Int) := by omega
                have hez : (T.extract 0 m).size ≤ 140737488355328 := by rw [Lib.size_eq, extract_take, List.length_take, ← Lib.size_eq]; omega
                clear hc1 hc2
                go_wp2_with fail
                refine (t_Read (T.extract 0 m) _ hez).mono ?_
                rw [C1.out]
                rintro e w34 ⟨⟨X2, Y2, hX, hY, rfl⟩, hb⟩
                dsimp only at hX hY ⊢
                have HB34 := Lib.hid (HB33.out.trans (hb.mono HB33.out.size))
                clear hX hY hb
                go_wp2_with fail
                refine (t_Kind (T.extract 0 m) _ hez).mono ?_
                rw [C2.out]
                rintro e w35 ⟨rfl, hb⟩
                have HB35 := Lib.hid (HB34.out.trans (hb.mono HB34.out.size))
                clear hb
                by_cases hre : rest.data.toList = []
                · have q7 := empty_str hre
                  clear hre
                  go_wp2
                  go_ret
                  exact ⟨rfl, HB35.out⟩
                · have q7 := nonempty_str hre
                  have KM : Hid (kind TR.data.toList = 0) := by show _ = _; rw [← HTR.out, app_data]; exact kind_more HT.out hre
                  have htr := HTR.out
                  clear hre
                  go_wp2_with fail
                  refine (t_Kind TR _ (by omega)).mono ?_
                  rw [KM.out]
                  rintro e w36 ⟨rfl, hb⟩
                  have HB36 := Lib.hid (HB35.out.trans (hb.mono HB35.out.size))
                  clear hb htr
                  go_wp2
                  go_ret
                  exact ⟨rfl, HB36.out⟩
              · have c1 : ((b.toNat : Int) == 97) = false := by
                  rw [beq_eq_false_iff_ne]; intro h; exact hb97 (UInt8.toNat_inj.1 (by have : (97 : UInt8).toNat = 97 := rfl; omega))
                have c2 : ((b.toNat : Int) == 116) = false := by
                  rw [beq_eq_false_iff_ne]; intro h; exact hb116 (UInt8.toNat_inj.1 (by have : (116 : UInt8).toNat = 116 := rfl; omega))
                have PN : Hid (number T.data.toList = (0, 2)) := by
                  show _ = _
                  unfold number
                  rw [if_pos HT.out, HH.out.all, if_neg (show ¬ (b :: t).headD 0 = 97 from hb97)]
                have PW : Hid (words T.data.toList = ([], 2)) := by
                  show _ = _
                  unfold words
                  rw [if_pos HT.out, HH.out.all, if_neg (show ¬ (b :: t).headD 0 = 116 from hb116)]
                clear hb97 hb116
                go_wp2_with fail
                refine (t_Number T _ (by omega)).mono ?_
                rw [PN.out]
                rintro e w30 ⟨rfl, hb⟩
                dsimp only
                have HB30 := Lib.hid (HBW.out.trans (hb.mono HBW.out.size))
                clear hb
                go_wp2_with fail
                refine (t_Words T _ (by omega)).mono ?_
                rw [PW.out]
                rintro e w31 ⟨⟨Q, hQ, rfl⟩, hb⟩
                dsimp only at hQ ⊢
                have HB31 := Lib.hid (HB30.out.trans (hb.mono HB30.out.size))
                have HQ := Lib.hid hQ
                clear hQ hb
                have hQz : Q.size ≤ 4000 := by rw [Lib.size_eq, HQ.out]; exact Nat.zero_le _
                go_wp2_with fail
                refine (t_OfText Q _ (by omega)).mono ?_
                rintro e w33 ⟨⟨Z, hZ, rfl⟩, hb⟩
                have HB33 := Lib.hid (HB31.out.trans (hb.mono HB31.out.size))
                clear hZ hb
                go_wp2_with fail
                refine (pick_any at' T.size _ hat (by omega) (by omega)).mono ?_
                rintro e w' ⟨⟨m, hm, rfl⟩, rfl⟩
                dsimp only
                obtain ⟨hc1, hc2⟩ := read_cut HT.out (k := m) (by rw [← Lib.size_eq]; exact hm)
                rw [← extract_take] at hc1 hc2
                have C1 := Lib.hid hc1
                have C2 := Lib.hid hc2
                have hm0 : (0 : Int) ≤ (m : Int) := by omega
                have hm1 : (m : Int) ≤ (T.size : Int) := by omega
                have hez : (T.extract 0 m).size ≤ 140737488355328 := by rw [Lib.size_eq, extract_take, List.length_take, ← Lib.size_eq]; omega
                clear hc1 hc2
                go_wp2_with fail
                refine (t_Read (T.extract 0 m) _ hez).mono ?_
                rw [C1.out]
                rintro e w34 ⟨⟨X2, Y2, hX, hY, rfl⟩, hb⟩
                dsimp only at hX hY ⊢
                have HB34 := Lib.hid (HB33.out.trans (hb.mono HB33.out.size))
                clear hX hY hb
                go_wp2_with fail
                refine (t_Kind (T.extract 0 m) _ hez).mono ?_
                rw [C2.out]
                rintro e w35 ⟨rfl, hb⟩
                have HB35 := Lib.hid (HB34.out.trans (hb.mono HB34.out.size))
                clear hb
                by_cases hre : rest.data.toList = []
                · have q7 := empty_str hre
                  clear hre
                  go_wp2
                  go_ret
                  exact ⟨rfl, HB35.out⟩
                · have q7 := nonempty_str hre
                  have KM : Hid (kind TR.data.toList = 0) := by show _ = _; rw [← HTR.out, app_data]; exact kind_more HT.out hre
                  have htr := HTR.out
                  clear hre
                  go_wp2_with fail
                  refine (t_Kind TR _ (by omega)).mono ?_
                  rw [KM.out]
                  rintro e w36 ⟨rfl, hb⟩
                  have HB36 := Lib.hid (HB35.out.trans (hb.mono HB35.out.size))
                  clear hb htr
                  go_wp2
                  go_ret
                  exact ⟨rfl, HB36.out⟩
end Go.Proofs.Ytgjjbeejfdkjdaa.Term
