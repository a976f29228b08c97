/-
  CONTRACTS of the document's Right and Path (letterlockref1) at this program. By an AI agent; no person has read it.
-/
import Derived.Test.YtgnfnbmdjbmcfaaRunesRef
namespace Go.Proofs.Ytgnfnbmdjbmcfaa
open Go.RowKit Txt

theorem refletter_is (r : Int) (v : Bool) (h : letter r = v) (w : World) : Calls Try.prog 34 #[.int .i32 r] w fun e w' => e = .returned (.bool v) ∧ w = w' := by
  subst h
  exact refletter_any r w
theorem right_some {l : List UInt8} {rs : List Int} (h : runes l = some rs) : right l = (decide (1 ≤ rs.length ∧ rs.length ≤ 32) && rs.all letter) := by unfold right nameOf; rw [h]
theorem right_none {l : List UInt8} (h : runes l = none) : right l = false := by unfold right nameOf; rw [h]

set_option maxHeartbeats 2000000 in
set_option maxRecDepth 1000000 in
theorem refright_any (s : ByteArray) (w : World) (hs : s.size ≤ 1000000) :
    Calls Try.prog 20 #[.string s] w fun e w' => e = .returned (.bool (right s.data.toList)) ∧ Below w.heap.size w w' := by
  go_enter Try.func20, Try.ntmps20
  go_wp2_with fail
  refine (refrunes_any s _ hs).mono ?_
  rintro e w1 ⟨⟨hru, rfl⟩ | ⟨rs, v, hru, rfl, hown⟩, b1⟩
  · have HU := Lib.hid hru
    clear hru
    go_wp2_with fail
    go_ret
    exact ⟨ret_bool (right_none HU.out).symm, b1⟩
  · obtain ⟨_, ra, rcap, rfl, _, hrr⟩ := own_reads hown
    have HRR := Lib.hid hrr
    have HU := Lib.hid (right_some hru)
    clear hrr hru hown
    by_cases h1 : (rs.length : Int) < 1
    · go_wp2_with fail
      go_ret
      exact ⟨ret_bool (by rw [HU.out, decide_eq_false (by omega)]; rfl), b1⟩
    · have h1' : (1 : Int) ≤ ↑rs.length := by omega
      clear h1
      by_cases h32 : (32 : Int) < ↑rs.length
      · go_wp2_with fail
        go_ret
        exact ⟨ret_bool (by rw [HU.out, decide_eq_false (by omega)]; rfl), b1⟩
      · have h32' : (↑rs.length : Int) ≤ 32 := by omega
        have HU2 := Lib.hid (show right s.data.toList = rs.all letter by rw [HU.out, decide_eq_true (by omega)]; rfl)
        clear h32 HU
        go_wp2_with fail
        go_loop [5] (fun i => ∃ k : Nat, k ≤ rs.length ∧ i = .int .i64 k ∧ (rs.take k).all letter = true) (fun i => rs.length - (intOf i).toNat)
        case atStart => exact ⟨0, Nat.zero_le _, rfl, rfl⟩
        case round =>
          obtain ⟨k, hk, rfl, hall⟩ := hrel
          have HALL := Lib.hid hall
          clear hall
          by_cases hlt : k < rs.length
          · obtain ⟨b, off, rfl, hblt, hcell⟩ := HRR.out k hlt
            obtain ⟨z, hz⟩ : ∃ z, rs.getD k 0 = z := ⟨_, rfl⟩
            rw [hz] at hcell
            have HZ := Lib.hid hz
            have k0 : (0 : Int) ≤ ↑k := by omega
            have k1 : (↑k : Int) < ↑rs.length := by omega
            clear hz hblt
            cases hv : letter z with
            | true =>
              have HV := Lib.hid hv
              clear hv
              go_wp2_with (go_at_call 34; refine (refletter_is z true HV.out _).mono ?_; rintro e w' ⟨rfl, rfl⟩)
              go_round
              case rel => exact ⟨k + 1, by omega, by go_num, all_take hlt HALL.out (by rw [HZ.out]; exact HV.out)⟩
              case measure => simp [intOf]; omega
            | false =>
              have HV := Lib.hid hv
              clear hv
              go_wp2_with (go_at_call 34; refine (refletter_is z false HV.out _).mono ?_; rintro e w' ⟨rfl, rfl⟩)
              go_ret
              exact ⟨ret_bool (by rw [HU2.out, all_not hlt (by rw [HZ.out]; exact HV.out)]), b1⟩
          · obtain rfl : k = rs.length := by omega
            have hv := HALL.out
            rw [List.take_length] at hv
            have HV := Lib.hid hv
            clear hv
            go_wp2
            go_ret
            exact ⟨ret_bool (by rw [HU2.out, HV.out]), b1⟩
theorem refright_is (s : ByteArray) (v : Bool) (h : right s.data.toList = v) (w : World) (hs : s.size ≤ 1000000) : Calls Try.prog 20 #[.string s] w fun e w' => e = .returned (.bool v) ∧ Below w.heap.size w w' := by
  have := refright_any s w hs
  rw [h] at this
  exact this

set_option maxHeartbeats 2000000 in
set_option maxRecDepth 100000 in
theorem refpath_yes (a b : ByteArray) (w : World) (ha : right a.data.toList = true) (hb : right b.data.toList = true) :
    Calls Try.prog 18 #[.string a, .string b] w fun e w' => ∃ Q : ByteArray, e = .returned (.tuple #[.string Q, .int .i64 0]) ∧ Q.data.toList = a.data.toList ++ 47 :: b.data.toList ∧ Below w.heap.size w w' := by
  have s1 := right_size ha
  have s2 := right_size hb
  have HA := Lib.hid ha
  have HB := Lib.hid hb
  clear ha hb
  go_enter Try.func18, Try.ntmps18
  go_wp2_with fail
  refine (refright_is a true HA.out _ (by omega)).mono ?_
  rintro e w1 ⟨rfl, b1⟩
  go_wp2_with fail
  refine (refright_is b true HB.out _ (by omega)).mono ?_
  rintro e w2 ⟨rfl, b2⟩
  go_wp2_with fail
  go_ret2
  exact ⟨_, rfl, by rw [app_data, app_data]; simp, b1.trans (b2.mono b1.size)⟩
set_option maxHeartbeats 2000000 in
set_option maxRecDepth 100000 in
theorem refpath_no (a b : ByteArray) (w : World) (sa : a.size ≤ 1000000) (sb : b.size ≤ 1000000) (h : right a.data.toList = false ∨ right b.data.toList = false) :
    Calls Try.prog 18 #[.string a, .string b] w fun e w' => e = .returned (.tuple #[.string ⟨#[]⟩, .int .i64 3]) ∧ Below w.heap.size w w' := by
  cases ha : right a.data.toList with
  | false =>
    have HA := Lib.hid ha
    clear ha h
    go_enter Try.func18, Try.ntmps18
    go_wp2_with fail
    refine (refright_is a false HA.out _ sa).mono ?_
    rintro e w1 ⟨rfl, b1⟩
    go_wp2_with fail
    go_ret2
    exact ⟨rfl, b1⟩
  | true =>
    have hb : right b.data.toList = false := by
      rcases h with h | h
      · rw [ha] at h; cases h
      · exact h
    have HA := Lib.hid ha
    have HB := Lib.hid hb
    clear ha hb h
    go_enter Try.func18, Try.ntmps18
    go_wp2_with fail
    refine (refright_is a true HA.out _ sa).mono ?_
    rintro e w1 ⟨rfl, b1⟩
    go_wp2_with fail
    refine (refright_is b false HB.out _ sb).mono ?_
    rintro e w2 ⟨rfl, b2⟩
    go_wp2_with fail
    go_ret2
    exact ⟨rfl, b1.trans (b2.mono b1.size)⟩
end Go.Proofs.Ytgnfnbmdjbmcfaa
