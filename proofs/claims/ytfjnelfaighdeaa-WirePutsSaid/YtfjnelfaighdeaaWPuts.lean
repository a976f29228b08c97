/-
  THE WALK of WirePuts. By an AI agent; no person has read it.
-/
import Derived.Test.YtfjnelfaighdeaaWRefPut
namespace Go.Proofs.Ytfjnelfaighdeaa.Wire
open Go.RowKit

set_option maxHeartbeats 8000000 in
set_option maxRecDepth 1000000 in
theorem puts_walk (n : Nat) (a : Option Addr) (cap : Nat) (ys : List ByteArray) (w : World) (hnn : n < 18446744073709551616) (hr : SReads w a ys) (hn : ys.length ≤ 9223372036854775807) (hz : ∀ y ∈ ys, y.size ≤ 9223372036854775807) :
    Calls Try.prog 4 #[.int .u64 n, .slice a ys.length cap] w fun e w' => e = .returned (.bool true) ∧ Below w.heap.size w w' := by
  have HR := Lib.hid hr
  have HZ := Lib.hid hz
  have HNN := Lib.hid hnn
  clear hr hz hnn
  have hsm : ∀ w1, Below w.heap.size w w1 → Calls Try.prog 18 #[.slice a ys.length cap] w1 fun e w' => e = .returned (.bool (smallB ys)) ∧ w1 = w' := fun w1 hb => small_any a cap ys w1 (HR.out.below hb (Nat.le_refl _)) hn HZ.out
  have HSM := Lib.hid hsm
  clear hsm
  cases hsb : smallB ys with
  | false =>
    have HSB := Lib.hid hsb
    clear hsb
    go_enter Try.func4, Try.ntmps4
    go_wp2_with (first
      | (go_at_call 10; refine (shown_any _).mono ?_; rintro e w1 ⟨rfl, hb1⟩; have HB1 := Lib.hid hb1; clear hb1)
      | (go_at_call 18; refine (HSM.out _ HB1.out).mono ?_; rw [HSB.out]; rintro e w' ⟨rfl, rfl⟩))
    go_ret
    exact ⟨rfl, HB1.out⟩
  | true =>
    obtain ⟨hs1, hs2, hs3⟩ := smallB_true hsb
    have HSB := Lib.hid hsb
    have HS2 := Lib.hid hs2
    have HS3 : Hid ((bl ys).flatten.length ≤ 4000) := hs3
    clear hsb hs2 hs3
    go_enter Try.func4, Try.ntmps4
    go_wp2_with (first
      | (go_at_call 10; refine (shown_any _).mono ?_; rintro e w1 ⟨rfl, hb1⟩; have HB1 := Lib.hid hb1; clear hb1)
      | (go_at_call 18; refine (HSM.out _ HB1.out).mono ?_; rw [HSB.out]; rintro e w' ⟨rfl, rfl⟩))
    go_loopw [7] (fun i wr => ∃ k : Nat, k ≤ ys.length ∧ i = .int .i64 k ∧ Hid (Below w.heap.size w wr)) (fun i _ => ys.length - (intOf i).toNat)
    case atStart => exact ⟨0, Nat.zero_le _, rfl, HB1⟩
    case round =>
      obtain ⟨k, hk, rfl, HBW⟩ := hrel
      by_cases hlt : k < ys.length
      · obtain ⟨b, off, rfl, hblt, hcell⟩ := HR.out k hlt
        obtain ⟨y, hy⟩ : ∃ y, ys.getD k ByteArray.empty = y := ⟨_, rfl⟩
        rw [hy] at hcell
        have hy2 := HS2.out y (getD_mem hlt hy)
        rw [← HBW.out.cell (p := ⟨b, off + k, none⟩) hblt] at hcell
        have hblt2 : b < wr.heap.size := Nat.lt_of_lt_of_le hblt HBW.out.size
        have hk0 : (0 : Int) ≤ (k : Int) := by omega
        have hk1 : (k : Int) < (ys.length : Int) := by omega
        clear hy
        go_wp2
        go_region_with (first
          | (go_at_call 19
             refine (putText_any y _ (by omega)).mono ?_
             rintro e w5 ⟨⟨V, hV, rfl⟩, hb5⟩
             first
             | (have HBF := Lib.hid (HB6.out.trans (hb5.mono HB6.out.size)); have heq : (V.toList == U.toList) = true := eq_bool (by rw [hV, HU.out]))
             | (have HB5 := Lib.hid (HBW.out.drew.trans (hb5.mono HBW.out.size)); have hcell5 : w5.cell? ⟨b, off + k, none⟩ = some (.string y) := (hb5.cell (p := ⟨b, off + k, none⟩) hblt2).trans hcell; have HV := Lib.hid hV)
             clear hV hb5
             dsimp only)
          | (go_at_call 20
             refine (refPutText_any y _ (by omega)).mono ?_
             rintro e w6 ⟨⟨U, hU, rfl⟩, hb6⟩
             first
             | (have HBF := Lib.hid (HB5.out.trans (hb6.mono HB5.out.size)); have heq : (V.toList == U.toList) = true := eq_bool (by rw [hU, HV.out]))
             | (have HB6 := Lib.hid (HBW.out.drew.trans (hb6.mono HBW.out.size)); have hcell6 : w6.cell? ⟨b, off + k, none⟩ = some (.string y) := (hb6.cell (p := ⟨b, off + k, none⟩) hblt2).trans hcell; have HU := Lib.hid hU)
             clear hU hb6
             dsimp only))
        all_goals go_wp2
        all_goals go_roundw
        all_goals first
          | exact ⟨k + 1, by omega, by go_num, HBF⟩
          | (simp [intOf]; omega)
      · go_wp2_with fail
        refine (put_any n _ HNN.out).mono ?_
        rintro e w3 ⟨⟨X, hX, rfl⟩, hb3⟩
        have HB3 := Lib.hid (HBW.out.trans (hb3.mono HBW.out.size))
        have HX := Lib.hid hX
        clear hX hb3
        go_wp2_with fail
        refine (refPut_any n _ HNN.out).mono ?_
        rintro e w4 ⟨⟨Y, hY, rfl⟩, hb4⟩
        have HB4 := Lib.hid (HB3.out.trans (hb4.mono HB3.out.size))
        have heq : (X.toList == Y.toList) = true := eq_bool (by rw [HX.out, hY])
        clear hY hb4
        go_wp2_with fail
        refine (putAll_any a cap ys _ (HR.out.below HB4.out (Nat.le_refl _)) (by omega) (Nat.le_trans HS3.out (by decide))).mono ?_
        rintro e w5 ⟨⟨P, hP, rfl⟩, hb5⟩
        have HB5 := Lib.hid (HB4.out.trans (hb5.mono HB4.out.size))
        have HP := Lib.hid hP
        clear hP hb5
        go_wp2_with fail
        refine (refPutAll_any a cap ys _ (HR.out.below HB5.out (Nat.le_refl _)) (by omega) (Nat.le_trans HS3.out (by decide))).mono ?_
        rintro e w6 ⟨⟨Q, hQ, rfl⟩, hb6⟩
        have HB6 := Lib.hid (HB5.out.trans (hb6.mono HB5.out.size))
        have heq2 : (P.toList == Q.toList) = true := eq_bool (by rw [HP.out, hQ])
        clear hQ hb6
        go_wp2
        go_ret
        exact ⟨rfl, HB6.out⟩
end Go.Proofs.Ytfjnelfaighdeaa.Wire
