/-
  THE LANDED CODE (package tree): Root. By an AI agent; no person has read it.
-/
import Derived.Test.YtblgcpopcgnncaaECode2
namespace Go.Proofs.Ytblgcpopcgnncaa.Tre
open Go.RowKit Wire Term Draw Reg Clo

set_option linter.unusedSimpArgs false
set_option linter.unusedVariables false
set_option maxHeartbeats 4000000 in
set_option maxRecDepth 1000000 in
theorem croot_any (A : Option Addr) (c : Nat) (ys : List ByteArray) (w : World) (hr : SReads w A ys) (hc : ys.length ≤ c) (hc2 : c ≤ 9223372036854775807) (hz : ∀ y ∈ ys, y.size ≤ 140737488355328) :
    Calls Try.prog 13 #[.slice A ys.length c] w fun e w' => Sr (root (bl ys)) e ∧ Below w.heap.size w w' := by
  have hbl : (bl ys).length = ys.length := by simp [bl]
  obtain ⟨o, ho⟩ : ∃ o, root (bl ys) = o := ⟨_, rfl⟩
  rw [ho]
  have HO := Lib.hid ho
  unfold root at ho
  rw [hbl] at ho
  by_cases h1 : ys.length < 1
  · rw [if_pos (.inl h1)] at ho
    have HX := Lib.hid ho
    have HIM := Lib.hid fun w => isMany_any (ys.length : Int) w
    rw [decide_eq_false (show ¬ ((1 : Int) ≤ (ys.length : Int) ∧ (ys.length : Int) ≤ 8) by omega)] at HIM
    clear ho h1
    go_enter Try.func13, Try.ntmps13
    go_wp2_with fail
    with_reducible refine (HIM.out _).mono ?_
    rintro e w1 ⟨rfl, rfl⟩
    dsimp only
    go_wp2
    go_ret2
    exact ⟨by rw [← HX.out]; exact ⟨⟨#[]⟩, rfl, rfl⟩, Below.refl _ _⟩
  · by_cases h8 : 8 < ys.length
    · rw [if_pos (.inr h8)] at ho
      have HX := Lib.hid ho
      have HIM := Lib.hid fun w => isMany_any (ys.length : Int) w
      rw [decide_eq_false (show ¬ ((1 : Int) ≤ (ys.length : Int) ∧ (ys.length : Int) ≤ 8) by omega)] at HIM
      clear ho h1 h8
      go_enter Try.func13, Try.ntmps13
      go_wp2_with fail
      with_reducible refine (HIM.out _).mono ?_
      rintro e w1 ⟨rfl, rfl⟩
      dsimp only
      go_wp2
      go_ret2
      exact ⟨by rw [← HX.out]; exact ⟨⟨#[]⟩, rfl, rfl⟩, Below.refl _ _⟩
    · rw [if_neg (by omega)] at ho
      have HIM := Lib.hid fun w => isMany_any (ys.length : Int) w
      rw [decide_eq_true (show ((1 : Int) ≤ (ys.length : Int) ∧ (ys.length : Int) ≤ 8) by omega)] at HIM
      have HLF := Lib.hid fun y (h : y ∈ ys) w => cleaf_any y w (hz y h)
      have HTR := Lib.hid fun w (h : SReads w A ys) => cgrow_any 3 A c ys w (by omega) h (by omega) (by omega) hc hc2 hz
      have HOO := Lib.hid ho
      clear ho
      have HR := Lib.hid hr
      have HB0 := Lib.hid (Below.refl w.heap.size w)
      go_enter Try.func13, Try.ntmps13
      go_wp2_with fail
      with_reducible refine (HIM.out _).mono ?_
      rintro e w1 ⟨rfl, hw⟩
      obtain rfl : w = w1 := hw.symm
      dsimp only
      go_wp2_with fail
      go_loopw [12] (fun i wr => ∃ k : Nat, k ≤ ys.length ∧ i = .int .i64 k ∧ Hid (Below w.heap.size w wr) ∧ Hid (∀ j, j < k → isLeaf (ys.getD j ByteArray.empty).data.toList = true)) (fun i _ => ys.length - (intOf i).toNat)
      case atStart => exact ⟨0, Nat.zero_le _, rfl, HB0, Lib.hid fun j hj => absurd hj (Nat.not_lt_zero _)⟩
      case round =>
        obtain ⟨k, hk, rfl, HB, HJ⟩ := hrel
        by_cases hlt : k < ys.length
        · obtain ⟨gg, off, hA, hblt, hcell⟩ := HR.out.below HB.out (Nat.le_refl _) k hlt
          have hA' := hA
          subst hA'
          obtain ⟨z, hzz⟩ : ∃ z, ys.getD k ByteArray.empty = z := ⟨_, rfl⟩
          rw [hzz] at hcell
          have hzm : z ∈ ys := by
            rw [← hzz, List.getD, List.getElem?_eq_getElem hlt]
            exact List.getElem_mem hlt
          have hki : (k : Int) < (ys.length : Int) := by omega
          have HL := Lib.hid fun w => HLF.out z hzm w
          obtain ⟨v, hv⟩ : ∃ v, isLeaf z.data.toList = v := ⟨_, rfl⟩
          rw [hv] at HL
          go_wp2_with fail
          with_reducible refine (HL.out _).mono ?_
          rintro e w2 ⟨rfl, hb2⟩
          have HB2 := Lib.hid (belc HB.out hb2)
          clear hb2
          dsimp only
          cases v with
          | true =>
            go_wp2
            go_roundw
            case rel => exact ⟨k + 1, by omega, by go_num, HB2, Lib.hid fun j hj => by
              rcases Nat.lt_or_ge j k with h | h
              · exact HJ.out j h
              · rw [show j = k by omega, hzz]; exact hv⟩
            case measure => simp [intOf]; omega
          | false =>
            have hno : ¬ (∀ t ∈ bl ys, isLeaf t = true) := fun h => by
              rw [h z.data.toList (List.mem_map.2 ⟨z, hzm, rfl⟩)] at hv; cases hv
            have HX := Lib.hid HOO.out
            rw [if_pos hno] at HX
            go_wp2
            go_ret2
            exact ⟨by rw [← HX.out]; exact ⟨⟨#[]⟩, rfl, rfl⟩, HB2.out⟩
        · obtain rfl : k = ys.length := by omega
          have hall : ∀ t ∈ bl ys, isLeaf t = true := fun t ht => by
            obtain ⟨y, hy, rfl⟩ := List.mem_map.1 ht
            obtain ⟨j, hj, rfl⟩ := List.mem_iff_getElem.1 hy
            have := HJ.out j hj
            rw [List.getD, List.getElem?_eq_getElem hj] at this
            exact this
          have HX := HOO.out
          rw [if_neg (fun h => h hall)] at HX
          have HX2 := Lib.hid HX
          have HT2 := Lib.hid fun w h => HTR.out w h
          rw [HX2.out] at HT2
          obtain ⟨ol, of⟩ := o
          clear HX hall HJ
          go_wp2_with fail
          with_reducible refine (HT2.out _ (HR.out.below HB.out (Nat.le_refl _))).mono ?_
          rintro e w2 ⟨⟨T, hT, rfl⟩, hb2⟩
          try dsimp only at hT
          have HT := Lib.hid hT
          have HB2 := Lib.hid (belc HB.out hb2)
          clear hT hb2
          dsimp only
          go_wp2
          go_ret2
          exact ⟨⟨T, HT.out, rfl⟩, HB2.out⟩
end Go.Proofs.Ytblgcpopcgnncaa.Tre
