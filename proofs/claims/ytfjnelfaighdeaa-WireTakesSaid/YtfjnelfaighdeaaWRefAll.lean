/-
  CONTRACT of the document's TakeAll at this program. By an AI agent; no person has read it.
-/
import Derived.Test.YtfjnelfaighdeaaWRef
namespace Go.Proofs.Ytfjnelfaighdeaa.Wire
open Go.RowKit

set_option maxHeartbeats 4000000 in
set_option maxRecDepth 1000000 in
theorem refAll_any (s : ByteArray) (a m : Int) (w : World) (hs : s.size ≤ 1000000000000) (ha : -9223372036854775808 ≤ a ∧ a ≤ 9223372036854775807) (hm : -9223372036854775808 ≤ m ∧ m ≤ 9223372036854775807) :
    Calls Try.prog 16 #[.string s, .int .i64 a, .int .i64 m] w fun e w' => Ta (all s.data.toList a m) e w' ∧ Below w.heap.size w w' := by
  obtain ⟨ha1, ha2⟩ := ha
  rcases take_tk (l := s.data.toList) with ⟨h1, h2⟩ | ⟨n, r, h1, h2, hn⟩
  · have H1 := Lib.hid (all_none (a := a) (b := m) h1)
    have H2 := Lib.hid h2
    clear h1 h2
    go_enter Try.func16, Try.ntmps16
    go_wp2_with fail
    refine (refTake_any _ _ (by omega)).mono ?_
    rw [H2.out]
    rintro e w1 ⟨⟨R, hR, rfl⟩, hb⟩
    dsimp only at hR ⊢
    have HB := Lib.hid hb
    clear hR hb
    go_wp2
    go_ret2
    rw [H1.out]
    exact ⟨ta_nil _ _, HB.out⟩
  · have h4 := (take_len h1).1
    rw [← Lib.size_eq] at h4
    have HT2 := Lib.hid h2
    have HT1 := Lib.hid h1
    have HN := Lib.hid hn
    clear h1 h2 hn
    by_cases hb : max a 0 < (n : Int)
    · have H1 := Lib.hid (all_big (b := m) HT1.out hb)
      by_cases hm0 : a < 0
      · have hb' : (0 : Int) < n := by omega
        clear hb
        go_enter Try.func16, Try.ntmps16
        go_wp2_with fail
        refine (refTake_any _ _ (by omega)).mono ?_
        rw [HT2.out]
        rintro e w0 ⟨⟨R0, hR0, rfl⟩, hb0⟩
        dsimp only at hR0 ⊢
        have HR0 := Lib.hid hR0
        have HB0 := Lib.hid hb0
        clear hR0 hb0
        go_wp2
        go_ret2
        rw [H1.out]
        exact ⟨ta_nil _ _, HB0.out⟩
      · have hb' : a < (n : Int) := by omega
        clear hb
        go_enter Try.func16, Try.ntmps16
        go_wp2_with fail
        refine (refTake_any _ _ (by omega)).mono ?_
        rw [HT2.out]
        rintro e w0 ⟨⟨R0, hR0, rfl⟩, hb0⟩
        dsimp only at hR0 ⊢
        have HR0 := Lib.hid hR0
        have HB0 := Lib.hid hb0
        clear hR0 hb0
        go_wp2
        go_ret2
        rw [H1.out]
        exact ⟨ta_nil _ _, HB0.out⟩
    · have H2 : Hid ((n : Int) ≤ max a 0) := by show _ ≤ _; omega
      have H1 := HT1
      have hn63 : n ≤ 9223372036854775807 := by omega
      obtain ⟨i0, hi0, hz0, hz1, hz2⟩ := info_parts str_info
      by_cases hm0 : a < 0
      · have hb' : (n : Int) ≤ 0 := by omega
        clear hb
        go_enter Try.func16, Try.ntmps16
        go_wp2_with fail
        refine (refTake_any _ _ (by omega)).mono ?_
        rw [HT2.out]
        rintro e w0 ⟨⟨R0, hR0, rfl⟩, hb0⟩
        dsimp only at hR0 ⊢
        have HR0 := Lib.hid hR0
        have HB0 := Lib.hid hb0
        clear hR0 hb0
        go_wp2
        have hstart : Took w s.size n r m 0 R0 (.slice none 0 0) w0 :=
          ⟨[], World.ownsRow_nil _ _ _ _, rfl, by rw [HR0.out]; rfl, by rw [Lib.size_eq, HR0.out]; omega, HB0.out⟩
        have HST := Lib.hid hstart
        clear hstart
        go_loopw [9, 11, 12] (fun q v i wr => ∃ (k : Nat) (R : ByteArray), k ≤ n ∧ q = .string R ∧ i = .int .u64 k ∧ Hid (Took w s.size n r m k R v wr)) (fun _ _ i _ => n - (intOf i).toNat)
        case atStart => exact ⟨0, R0, Nat.zero_le _, rfl, rfl, HST⟩
        case round =>
          obtain ⟨k, R, hk, rfl, rfl, HT⟩ := hrel
          clear HST
          obtain ⟨ys, ho, hyl, hte, hsz, hbel⟩ := HT.out
          have hRs : R.size ≤ 140737488355328 := by omega
          have HO := Lib.hid ho
          have HYL := Lib.hid hyl
          have HTE := Lib.hid hte
          have HBL := Lib.hid hbel
          by_cases hlt : k < n
          · exact absurd hlt (by omega)
          · obtain rfl : k = n := by omega
            rw [Nat.sub_self, texts_zero] at hte
            obtain ⟨A, c, rfl⟩ := own_value ho
            by_cases hR : R.data.toList = []
            · have hal : all s.data.toList a m = (bl ys, 0) := by
                rw [hR] at hte
                exact all_ok H1.out H2.out hte.symm
              have HAL := Lib.hid hal
              have hem : R.toList.isEmpty = true := by rw [Lib.toList_data, hR]; rfl
              obtain ⟨h6, _, h7⟩ := sreads_own ho
              have H6 := Lib.hid h6
              have h8 : Ta (bl ys, 0) (.returned (.tuple #[.slice A k c, .int .i64 0])) wr := by
                subst hyl
                exact ⟨A, c, ys, rfl, h7, h6, rfl⟩
              have H8 := Lib.hid h8
              clear ho hyl hte hbel hsz hR hal h6 h8
              go_wp2
              go_ret2
              rw [HAL.out]
              exact ⟨H8.out, HBL.out⟩
            · have hal : all s.data.toList a m = ([], 2) := all_left H1.out H2.out hte.symm hR
              have HAL := Lib.hid hal
              have hem : R.toList.isEmpty = false := by
                rw [Lib.toList_data]
                cases h : R.data.toList with
                | nil => exact absurd h hR
                | cons x t => rfl
              clear ho hyl hte hbel hsz hR hal
              go_wp2
              go_ret2
              rw [HAL.out]
              exact ⟨ta_nil _ _, HBL.out⟩
      · have hb' : (n : Int) ≤ a := by omega
        clear hb
        go_enter Try.func16, Try.ntmps16
        go_wp2_with fail
        refine (refTake_any _ _ (by omega)).mono ?_
        rw [HT2.out]
        rintro e w0 ⟨⟨R0, hR0, rfl⟩, hb0⟩
        dsimp only at hR0 ⊢
        have HR0 := Lib.hid hR0
        have HB0 := Lib.hid hb0
        clear hR0 hb0
        go_wp2
        have hstart : Took w s.size n r m 0 R0 (.slice none 0 0) w0 :=
          ⟨[], World.ownsRow_nil _ _ _ _, rfl, by rw [HR0.out]; rfl, by rw [Lib.size_eq, HR0.out]; omega, HB0.out⟩
        have HST := Lib.hid hstart
        clear hstart
        go_loopw [9, 11, 12] (fun q v i wr => ∃ (k : Nat) (R : ByteArray), k ≤ n ∧ q = .string R ∧ i = .int .u64 k ∧ Hid (Took w s.size n r m k R v wr)) (fun _ _ i _ => n - (intOf i).toNat)
        case atStart => exact ⟨0, R0, Nat.zero_le _, rfl, rfl, HST⟩
        case round =>
          obtain ⟨k, R, hk, rfl, rfl, HT⟩ := hrel
          clear HST
          obtain ⟨ys, ho, hyl, hte, hsz, hbel⟩ := HT.out
          have hRs : R.size ≤ 140737488355328 := by omega
          have HO := Lib.hid ho
          have HYL := Lib.hid hyl
          have HTE := Lib.hid hte
          have HBL := Lib.hid hbel
          by_cases hlt : k < n
          · obtain ⟨t, q, f, htx⟩ : ∃ t q f, text R.data.toList m = (t, q, f) := ⟨_, _, _, rfl⟩
            have HTX := Lib.hid htx
            obtain ⟨j, hj⟩ : ∃ j, n - k = j + 1 := ⟨n - k - 1, by omega⟩
            rw [hj] at hte
            by_cases hf : f = 0
            · subst hf
              have hlen := text_len htx rfl
              rw [texts_yes htx] at hte
              rw [← Lib.size_eq] at hlen
              have HTE2 := Lib.hid hte
              have HJ := Lib.hid hj
              have hks : k + 1 ≤ s.size := by omega
              have hq : q.length + (k + 1) ≤ s.size := by omega
              clear ho hyl hte hbel htx hj hlen hsz
              go_wp2_with (first
                | (go_at_call 14; refine (refText_any _ _ _ hRs hm).mono ?_; rw [HTX.out]; rintro e w5 ⟨⟨T, Q, hT, hQ, rfl⟩, hb5⟩; have HB5 := Lib.hid (HBL.out.trans (hb5.mono HBL.out.size)); have HB5' := Lib.hid hb5; clear hb5; have HTT := Lib.hid hT; have HQ := Lib.hid hQ; clear hT hQ; dsimp only)
                | (at_builtin
                   refine wpList_append_own _ rfl _ _ _ rfl w.heap.size 9 i0 _ 1 16 Try.underlying29 hi0 hz0 hz1 hz2 rfl (by decide) _ k (sv ys) rfl ?c1 _ 1 1 [.string T] rfl rfl ?c2 ?c3 ?c4 ?c5 ?c6 ?_
                   case c1 => exact (own_below HO.out HB5'.out (Nat.le_refl _)).alloc _
                   case c2 => exact lit_cells _ _ _
                   case c3 => exact sv_one [T]
                   case c4 => simp only [maxLen]; omega
                   case c5 => omega
                   case c6 =>
                     have h := HB5.out.size
                     simp only [World.alloc, Array.size_push]
                     exact Nat.le_succ_of_le h
                   intro v6 w6 hown hgrow _
                   have HO6 := Lib.hid hown
                   have HG6 := Lib.hid hgrow
                   clear hown hgrow))
              go_roundw
              case rel =>
                refine ⟨k + 1, Q, by omega, rfl, by go_num, ys ++ [T], by simpa [sv] using HO6.out, by simp [HYL.out], ?_, ?_, ?_⟩
                · have e : n - (k + 1) = j := by have := HJ.out; omega
                  have e2 : bl (ys ++ [T]) = bl ys ++ [t] := by simp [bl, HTT.out]
                  rw [e, HQ.out, e2]
                  exact HTE2.out
                · rw [Lib.size_eq, HQ.out]; exact hq
                · have h1 := HB5.out
                  refine (h1.alloc h1.size (.cells #[.string T] 9)).grown HG6.out (by
                    have := h1.size
                    simp only [World.alloc, Array.size_push]
                    omega) fun g hg => ?_
                  exact (HO.out.lt g hg).1
              case measure => simp [intOf]; omega
            · have hal : all s.data.toList a m = ([], f) := by
                rw [texts_no htx hf] at hte
                exact all_err H1.out H2.out hte.symm hf
              have HAL := Lib.hid hal
              have hne : (f != 0) = true := by simpa using hf
              clear ho hyl hte hbel htx hj hsz hf hal
              go_wp2_with (go_at_call 14; refine (refText_any _ _ _ hRs hm).mono ?_; rw [HTX.out]; rintro e w5 ⟨⟨T, Q, hT, hQ, rfl⟩, hb5⟩; have HB5 := Lib.hid (HBL.out.trans (hb5.mono HBL.out.size)); have HB5' := Lib.hid hb5; clear hb5; clear hT hQ; dsimp only)
              go_ret2
              rw [HAL.out]
              exact ⟨ta_nil _ _, HB5.out⟩
          · obtain rfl : k = n := by omega
            rw [Nat.sub_self, texts_zero] at hte
            obtain ⟨A, c, rfl⟩ := own_value ho
            by_cases hR : R.data.toList = []
            · have hal : all s.data.toList a m = (bl ys, 0) := by
                rw [hR] at hte
                exact all_ok H1.out H2.out hte.symm
              have HAL := Lib.hid hal
              have hem : R.toList.isEmpty = true := by rw [Lib.toList_data, hR]; rfl
              obtain ⟨h6, _, h7⟩ := sreads_own ho
              have H6 := Lib.hid h6
              have h8 : Ta (bl ys, 0) (.returned (.tuple #[.slice A k c, .int .i64 0])) wr := by
                subst hyl
                exact ⟨A, c, ys, rfl, h7, h6, rfl⟩
              have H8 := Lib.hid h8
              clear ho hyl hte hbel hsz hR hal h6 h8
              go_wp2
              go_ret2
              rw [HAL.out]
              exact ⟨H8.out, HBL.out⟩
            · have hal : all s.data.toList a m = ([], 2) := all_left H1.out H2.out hte.symm hR
              have HAL := Lib.hid hal
              have hem : R.toList.isEmpty = false := by
                rw [Lib.toList_data]
                cases h : R.data.toList with
                | nil => exact absurd h hR
                | cons x t => rfl
              clear ho hyl hte hbel hsz hR hal
              go_wp2
              go_ret2
              rw [HAL.out]
              exact ⟨ta_nil _ _, HBL.out⟩
end Go.Proofs.Ytfjnelfaighdeaa.Wire
