/-
  THE CODE's rising, apart (package rights). By an AI agent; no person has read it.
-/
import Derived.Test.YtjikepfgfbnheaaGCPl
import Derived.Test.YtjikepfgfbnheaaG2
namespace Go.Proofs.Ytjikepfgfbnheaa.Rig
open Go.RowKit Wire

set_option linter.unusedSimpArgs false
set_option linter.unusedVariables false
theorem nm_ne {x : Tm} (h : nm x = true) : x ≠ [] := fun e => by rw [e] at h; exact absurd h (by decide)
/-- Rising names, one of which is no owner. -/
theorem lsd_iff {o : Tm} {l : List Tm} : Lsd o l ↔ Lsd [] l ∧ o ∉ l := by
  constructor
  · intro h
    exact ⟨⟨fun x hx => ⟨(h.1 x hx).1, nm_ne (h.1 x hx).1⟩, h.2⟩, fun hm => (h.1 o hm).2 rfl⟩
  · rintro ⟨h1, h2⟩
    exact ⟨fun x hx => ⟨(h1.1 x hx).1, fun e => h2 (by rw [← e]; exact hx)⟩, h1.2⟩
set_option maxHeartbeats 8000000 in
set_option maxRecDepth 1000000 in
theorem rising_any (a : Option Addr) (c : Nat) (ys : List ByteArray) (w : World) (hr : SReads w a ys) (hn : ys.length ≤ 1000000) :
    Calls Try.prog 47 #[.slice a ys.length c] w fun e w' => e = .returned (.bool (decide (Lsd [] (bl ys)))) ∧ Below w.heap.size w w' := by
  have HR := Lib.hid hr
  obtain ⟨bb, hb⟩ : ∃ b, decide (Lsd [] (bl ys)) = b := ⟨_, rfl⟩
  have HB := Lib.hid hb
  rw [hb]
  clear hr hb
  go_enter Try.func47, Try.ntmps47
  go_wp2_with fail
  go_loopw [7] (fun i wr => ∃ k : Nat, k ≤ ys.length ∧ i = .int .i64 (k : Int) ∧ Hid (Lsd [] ((bl ys).take k)) ∧ Hid (Below w.heap.size w wr)) (fun i _ => ys.length - (intOf i).toNat)
  case atStart => exact ⟨0, Nat.zero_le _, rfl, Lib.hid (lsd_nil _), Lib.hid (Below.refl _ _)⟩
  case round =>
    obtain ⟨k, hk, rfl, HL, HBW⟩ := hrel
    by_cases hlt : k < ys.length
    · obtain ⟨b, off, rfl, hbl, hcl0⟩ := HR.out k hlt
      obtain ⟨y, hy⟩ : ∃ y, ys.getD k ByteArray.empty = y := ⟨_, rfl⟩
      have hst := lsd_step (ys := ys) (k := k) hlt HL.out
      rw [hy] at hcl0 hst
      rw [← HBW.out.cell (p := ⟨b, off + k, none⟩) hbl] at hcl0
      obtain ⟨nb, hnm⟩ : ∃ z, nm y.data.toList = z := ⟨_, rfl⟩
      have HNM := Lib.hid hnm
      have HST := Lib.hid hst
      have HY := Lib.hid hy
      have HBL := Lib.hid hbl
      clear hst hnm hy hbl
      cases nb with
      | false =>
        go_wp2_with (go_at_call 30; refine (right_any _ _).mono ?_; rintro e w2 ⟨rfl, hb2⟩; rw [show Txt.right y.data.toList = false from HNM.out]; have HB2 := Lib.hid hb2; clear hb2)
        have HT : Hid (bb = false) := by
          show bb = false
          rw [← HB.out]
          refine decide_eq_false fun h => ?_
          have h2 := (HST.out.1 (lsd_part (k + 1) h)).1
          rw [HNM.out] at h2; cases h2
        go_ret
        exact ⟨by rw [HT.out]; rfl, HBW.out.trans (HB2.out.mono HBW.out.size)⟩
      | true =>
        by_cases h0 : k = 0
        · have j0 : ¬ ((k : Int) > 0) := by omega
          have j1 : ¬ ((0 : Int) < (k : Int)) := by omega
          have H0 : Hid (¬ 0 < k) := Lib.hid (by omega)
          clear h0
          go_wp2_with (go_at_call 30; refine (right_any _ _).mono ?_; rintro e w2 ⟨rfl, hb2⟩; rw [show Txt.right y.data.toList = true from HNM.out]; have HB2 := Lib.hid hb2; clear hb2)
          have HL2 : Hid (Lsd [] ((bl ys).take (k + 1))) := Lib.hid (HST.out.2 ⟨HNM.out, nm_ne HNM.out, fun h => absurd h H0.out⟩)
          go_roundw
          case rel => exact ⟨k + 1, by omega, by go_num, HL2, Lib.hid (HBW.out.trans (HB2.out.mono HBW.out.size))⟩
          case measure => simp [intOf]; omega
        · have hclx0 : w.cell? ⟨b, off + (k - 1), none⟩ = some (.string (ys.getD (k - 1) ByteArray.empty)) := by
            obtain ⟨b2, off2, e, _, hc⟩ := HR.out (k - 1) (by omega)
            injection e with e
            injection e with e1 e2 _
            rw [e1, e2]; exact hc
          obtain ⟨x, hx⟩ : ∃ x, ys.getD (k - 1) ByteArray.empty = x := ⟨_, rfl⟩
          rw [hx] at hclx0 HST
          have HCX := Lib.hid hclx0
          clear hclx0 hx
          obtain ⟨lb, hlb⟩ : ∃ z, lt x.data.toList y.data.toList = z := ⟨_, rfl⟩
          have HLT := Lib.hid hlb
          have i1 : (1 : Int) ≤ (k : Int) := by omega
          have i2 : IntKind.i64.wrap ((k : Int) - 1) = (k : Int) - 1 := by rw [IntKind.wrap_i64]; omega
          have i3 : ((k : Int) - 1).toNat = k - 1 := by omega
          have i4 : (0 : Int) ≤ (k : Int) - 1 := by omega
          have i5 : (k : Int) - 1 < (ys.length : Int) := by omega
          clear hlb
          cases lb with
          | true =>
            go_wp2_with (first
              | (go_at_call 30; refine (right_any _ _).mono ?_; rintro e w2 ⟨rfl, hb2⟩; rw [show Txt.right y.data.toList = true from HNM.out]; have hcx := ((HBW.out.trans (hb2.mono HBW.out.size)).cell (p := ⟨b, off + (k - 1), none⟩) HBL.out).trans HCX.out; have HB2 := Lib.hid hb2; clear hb2)
              | (go_at_call 52; refine (less_any _ _ _).mono ?_; rintro e w3 ⟨rfl, h3⟩; obtain rfl : w2 = w3 := h3; rw [show Op.bytesLess x.data.toList y.data.toList = true from HLT.out]))
            have HL2 : Hid (Lsd [] ((bl ys).take (k + 1))) := Lib.hid (HST.out.2 ⟨HNM.out, nm_ne HNM.out, fun _ => HLT.out⟩)
            go_roundw
            case rel => exact ⟨k + 1, by omega, by go_num, HL2, Lib.hid (HBW.out.trans (HB2.out.mono HBW.out.size))⟩
            case measure => simp [intOf]; omega
          | false =>
            go_wp2_with (first
              | (go_at_call 30; refine (right_any _ _).mono ?_; rintro e w2 ⟨rfl, hb2⟩; rw [show Txt.right y.data.toList = true from HNM.out]; have hcx := ((HBW.out.trans (hb2.mono HBW.out.size)).cell (p := ⟨b, off + (k - 1), none⟩) HBL.out).trans HCX.out; have HB2 := Lib.hid hb2; clear hb2)
              | (go_at_call 52; refine (less_any _ _ _).mono ?_; rintro e w3 ⟨rfl, h3⟩; obtain rfl : w2 = w3 := h3; rw [show Op.bytesLess x.data.toList y.data.toList = false from HLT.out]))
            have HT : Hid (bb = false) := by
              show bb = false
              rw [← HB.out]
              refine decide_eq_false fun h => ?_
              have h2 := (HST.out.1 (lsd_part (k + 1) h)).2.2 (by omega)
              rw [HLT.out] at h2; cases h2
            go_ret
            exact ⟨by rw [HT.out]; rfl, HBW.out.trans (HB2.out.mono HBW.out.size)⟩
    · have HT : Hid (bb = true) := by
        show bb = true
        rw [← HB.out]
        refine decide_eq_true ?_
        have := HL.out
        rw [show k = ys.length by omega, bl_take_all] at this
        exact this
      go_wp2
      go_ret
      exact ⟨by rw [HT.out]; rfl, HBW.out⟩
end Go.Proofs.Ytjikepfgfbnheaa.Rig
