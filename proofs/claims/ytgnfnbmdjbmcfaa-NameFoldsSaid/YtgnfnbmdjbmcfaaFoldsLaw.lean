/-
  THE WALK OF NameFolds. By an AI agent; no person has read it.
-/
import Derived.Test.YtgnfnbmdjbmcfaaBack
namespace Go.Proofs.Ytgnfnbmdjbmcfaa
open Go.RowKit Txt

theorem low_cases (z : Int) : low z = z ∨ (low z = z + 32 ∧ 65 ≤ z ∧ z ≤ 1071) := by
  unfold low
  split
  · rename_i hg
    have := of_decide_eq_true hg
    exact .inr ⟨rfl, by omega, by omega⟩
  · exact .inl rfl
theorem mem_getD {zs : List Int} {k : Nat} (h : k < zs.length) : zs.getD k 0 ∈ zs := by
  have : zs.getD k 0 = zs[k] := by simp [List.getD, h]
  rw [this]; exact List.getElem_mem h
theorem getD_low {zs : List Int} {k : Nat} (h : k < zs.length) : (zs.map low).getD k 0 = low (zs.getD k 0) := by
  simp [List.getD, h]

set_option maxHeartbeats 4000000 in
set_option maxRecDepth 1000000 in
theorem folds_walk (la : Option Addr) (lc : Nat) (zs : List Int) (s : ByteArray) (w : World) (hs : s.size ≤ 140737488351232) (hr : Reads .i32 w la zs) :
    Calls Try.prog 10 #[.slice la zs.length lc, .string s] w fun e w' => e = .returned (.bool true) ∧ Below w.heap.size w w' := by
  have HR := Lib.hid hr
  clear hr
  by_cases hz : (300 : Int) < ↑zs.length
  · go_enter Try.func10, Try.ntmps10
    go_wp2_with fail
    refine (shown_any _).mono ?_
    rintro e w1 ⟨rfl, b1⟩
    go_wp2_with fail
    go_ret
    exact ⟨rfl, b1⟩
  by_cases hl : (1000 : Int) < ↑s.size
  · have hz' : ↑zs.length ≤ (300 : Int) := by omega
    clear hz
    go_enter Try.func10, Try.ntmps10
    go_wp2_with fail
    refine (shown_any _).mono ?_
    rintro e w1 ⟨rfl, b1⟩
    go_wp2_with fail
    go_ret
    exact ⟨rfl, b1⟩
  have hl' : ↑s.size ≤ (1000 : Int) := by omega
  have hz' : ↑zs.length ≤ (300 : Int) := by omega
  clear hl hz
  go_enter Try.func10, Try.ntmps10
  go_wp2_with fail
  refine (shown_any _).mono ?_
  rintro e w1 ⟨rfl, B1⟩
  go_wp2_with fail
  cases hv : zs.all Lib.validRune with
  | false =>
    have HV := Lib.hid hv
    clear hv
    refine (make_no la lc zs _ (by omega) (HR.out.below B1) HV.out).mono ?_
    rintro e w4 ⟨rfl, rfl⟩
    go_wp2_with fail
    go_ret
    exact ⟨by simp, B1⟩
  | true =>
    have HV := Lib.hid hv
    clear hv
    refine (make_yes la lc zs _ (by omega) (HR.out.below B1) HV.out).mono ?_
    rintro e w4 ⟨T, rfl, hT, sT, rfl⟩
    have HT := Lib.hid hT
    clear hT
    go_wp2_with fail
    refine (fold_call T _ (by omega)).mono ?_
    rintro e w5 ⟨U, rfl, hU, sU, b5⟩
    have B5 := B1.trans (b5.mono B1.size)
    have hU2 : runes U.data.toList = some (zs.map low) := by
      rw [hU, HT.out, fold_enc (of_all HV.out)]
      exact runes_enc fun r hr => by
        obtain ⟨x, hx, rfl⟩ := List.mem_map.1 hr
        exact low_valid (of_all HV.out x hx)
    have HU := Lib.hid hU
    have HU2 := Lib.hid hU2
    have q1 : ((U.size : Int) != ↑T.size) = false := by rw [bne_eq_false_iff_eq]; omega
    have sU2 : U.size ≤ 1200 := by omega
    clear b5 B1 hU hU2 sU
    obtain ⟨qs, hqs⟩ : ∃ qs, zs.map low = qs := ⟨_, rfl⟩
    have hql : qs.length = zs.length := by rw [← hqs, List.length_map]
    have q2 : ((qs.length : Int) != ↑zs.length) = false := by rw [bne_eq_false_iff_eq]; omega
    have hql2 : zs.length ≤ qs.length := by omega
    rw [hqs] at HU2
    have HQS := Lib.hid hqs
    clear hqs hql
    go_wp2_with fail
    refine (runes_yes U qs _ (by omega) HU2.out).mono ?_
    rintro e w6 ⟨qa, qcap, rfl, hqc, hqr, b6⟩
    have B6 := B5.trans (b6.mono B5.size)
    have HQR := Lib.hid hqr
    clear b6 B5 hqr hqc
    go_wp2_with fail
    refine (fold_call s _ (by omega)).mono ?_
    rintro e w7 ⟨V, rfl, hV, sV, b7⟩
    have B7 := B6.trans (b7.mono B6.size)
    have HQR7 := Lib.hid (HQR.out.below b7)
    have q3 : ((V.size : Int) != ↑s.size) = false := by rw [bne_eq_false_iff_eq]; omega
    have HV7 := Lib.hid hV
    clear b7 B6 HQR hV sV
    go_wp2_with fail
    refine (fold_call _ _ (by rw [Lib.size_eq, app_data]; simp only [List.length_append, ← Lib.size_eq]; omega)).mono ?_
    rintro e w8 ⟨X, rfl, hX, sX, b8⟩
    have B8 := B7.trans (b8.mono B7.size)
    have HQR8 := Lib.hid (HQR7.out.below b8)
    have HX := Lib.hid hX
    clear b8 B7 HQR7 hX sX
    go_wp2_with fail
    refine (fold_call s _ (by omega)).mono ?_
    rintro e w9 ⟨Y, rfl, hY, sY, b9⟩
    have B9 := B8.trans (b9.mono B8.size)
    have HQR9 := Lib.hid (HQR8.out.below b9)
    have q4 : (X.toList == (U ++ Y).toList) = true := eq_bool (by
      rw [HX.out, app_data, app_data, HU.out, hY, HT.out, fold_puts (of_all HV.out), fold_enc (of_all HV.out)])
    have sY2 : Y.size ≤ 1000 := by omega
    clear b9 B8 HQR8 hY sY HX
    go_wp2_with fail
    clear q1 q2 q3 q4
    go_loopw [11] (fun i wr => ∃ k : Nat, k ≤ zs.length ∧ i = .int .i64 k ∧ Below w9.heap.size w9 wr) (fun i _ => zs.length - (intOf i).toNat)
    case atStart => exact ⟨0, Nat.zero_le _, rfl, Below.refl _ _⟩
    case round =>
      obtain ⟨k, hk, rfl, hbel⟩ := hrel
      have BK := B9.trans (hbel.mono B9.size)
      by_cases hlt : k < zs.length
      · obtain ⟨b1, o1, rfl, l1, c1⟩ := (HQR9.out.below hbel) k (by omega)
        obtain ⟨b2, o2, rfl, l2, c2⟩ := (HR.out.below BK) k hlt
        have hlow : qs.getD k 0 = low (zs.getD k 0) := by rw [← HQS.out]; exact getD_low hlt
        rw [hlow] at c1
        obtain ⟨z, hz⟩ : ∃ z, zs.getD k 0 = z := ⟨_, rfl⟩
        rw [hz] at c1 c2
        clear hz l1 l2 hlow
        have k0 : (0 : Int) ≤ ↑k := by omega
        have k1 : (↑k : Int) < ↑zs.length := by omega
        have k2 : (↑k : Int) < ↑qs.length := by omega
        rcases low_cases z with h | ⟨h, h65, h1071⟩
        · rw [h] at c1
          clear h
          have hne : (z != z) = false := by simp
          go_wp2_with fail
          go_quiet (fail)
          go_wp2
          go_roundw
          case rel => exact ⟨k + 1, by omega, by go_num, below_drewN hbel _⟩
          case measure => simp [intOf]; omega
        · rw [h] at c1
          clear h
          have hne : ((z + 32) != z) = true := by rw [bne_iff_ne]; omega
          have hwr : IntKind.i32.wrap (z + 32) = z + 32 := IntWalk.i32_in _ (by omega)
          go_wp2_with fail
          go_quiet (fail)
          go_wp2
          go_roundw
          case rel => exact ⟨k + 1, by omega, by go_num, below_drewN hbel _⟩
          case measure => simp [intOf]; omega
      · obtain rfl : k = zs.length := by omega
        go_wp2
        go_ret
        exact ⟨rfl, BK⟩
end Go.Proofs.Ytgnfnbmdjbmcfaa
