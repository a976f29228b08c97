/-
  THE WALK of WireFirst. By an AI agent; no person has read it.
-/
import Derived.Test.YtfjnelfaighdeaaWLaw
namespace Go.Proofs.Ytfjnelfaighdeaa.Wire
open Go.RowKit

theorem put_get0 {X : ByteArray} {a : Nat} (h : X.data.toList = put a) (ha : a < 18446744073709551616) (h0 : 0 < X.size) : (X[0]'h0).toNat = (dig a).length := by
  have h1 := head_get h0
  rw [h] at h1
  have h2 : (dig a).length.toUInt8 = X[0]'h0 := Option.some.inj h1
  rw [← h2, u8_nat _ (by have := dig_len8 ha; omega)]
theorem put_get1 {X : ByteArray} {a : Nat} (h : X.data.toList = put a) (h1 : 1 < X.size) : X[1]'h1 ≠ 0 := by
  have h2 : (X.data.toList)[1]? = some (X[1]'h1) := by
    rw [List.getElem?_eq_getElem (by rw [← Lib.size_eq]; exact h1)]; rfl
  rw [h] at h2
  cases hd : dig a with
  | nil => rw [put, hd] at h2; simp at h2
  | cons c t =>
    rw [put, hd] at h2
    have h3 : c = X[1]'h1 := by simpa using h2
    rw [← h3]
    exact dig_head hd

set_option maxHeartbeats 4000000 in
set_option maxRecDepth 1000000 in
theorem first_walk (a b : Nat) (w : World) (ha : a < 18446744073709551616) (hb : b < 18446744073709551616) :
    Calls Try.prog 7 #[.int .u64 a, .int .u64 b] w fun e w' => e = .returned (.bool true) ∧ Below w.heap.size w w' := by
  have HA := Lib.hid ha
  have HB := Lib.hid hb
  have ha' : (a : Int) < 18446744073709551616 := by omega
  have hb' : (b : Int) < 18446744073709551616 := by omega
  clear ha hb
  go_enter Try.func7, Try.ntmps7
  go_wp2_with fail
  refine (shown_any _).mono ?_
  rintro e w1 ⟨rfl, hb1⟩
  have HB1 := Lib.hid hb1
  clear hb1
  go_wp2_with fail
  refine (put_any a _ HA.out).mono ?_
  rintro e w2 ⟨⟨X, hX, rfl⟩, hb2⟩
  have HB2 := Lib.hid (HB1.out.trans (hb2.mono HB1.out.size))
  have HX := Lib.hid hX
  clear hb2 hX
  go_wp2_with fail
  refine (put_any b _ HB.out).mono ?_
  rintro e w3 ⟨⟨Y, hY, rfl⟩, hb3⟩
  have HB3 := Lib.hid (HB2.out.trans (hb3.mono HB2.out.size))
  have HY := Lib.hid hY
  clear hb3 hY
  go_wp2
  go_loop [8, 9] (fun m n => ∃ k q : Nat, q ≤ a ∧ m = .int .i64 k ∧ n = .int .u64 q ∧ Hid (k + (dig q).length = (dig a).length)) (fun _ n => (intOf n).toNat)
  case atStart => exact ⟨0, a, Nat.le_refl _, rfl, rfl, by show _ = _; omega⟩
  case round =>
    obtain ⟨k, q, hq, rfl, rfl, HK⟩ := hrel
    have hk8 : k ≤ 8 := by have := HK.out; have := dig_len8 HA.out; omega
    by_cases hlt : 0 < q
    · go_wp2
      go_round
      case rel =>
        refine ⟨k + 1, q / 256, by omega, by go_num, by go_num, ?_⟩
        have h := HK.out
        rw [dig_pos (by omega), List.length_append] at h
        simp at h
        show _ = _
        omega
      case measure => simp [intOf]; omega
    · obtain rfl : q = 0 := by omega
      have hk := HK.out
      rw [dig_zero] at hk
      simp at hk
      have hxs : X.size = 1 + k := by rw [Lib.size_eq, HX.out, put_len, hk]
      have hxp : 0 < X.size := by omega
      have hx0 := put_get0 HX.out HA.out hxp
      rw [← hk] at hx0
      have hx1 : ((X.size : Int) != 1 + (k : Int)) = false := by rw [hxs]; simp
      have hx2 : (0 : Int) < (X.size : Int) := by omega
      have HXS := Lib.hid hxs
      have hys : Y.size ≤ 9 := put_size HY.out HB.out
      have hx3 : X.size ≤ 9 := by omega
      clear hk hxs
      by_cases hab : a = b
      · have hab' : ((a : Int) == (b : Int)) = true := by simp [hab]
        have hxy : X.data.toList = Y.data.toList := by rw [HX.out, HY.out, hab]
        have hxz : X.size = Y.size := by rw [Lib.size_eq, Lib.size_eq, hxy]
        have hge : (X.size : Int) ≤ (Y.size : Int) := by omega
        have heq : ((Y.extract 0 X.size).toList == X.toList) = true := eq_bool (by rw [extract_take, hxy, List.take_of_length_le (by rw [Lib.size_eq, hxy]; exact Nat.le_refl _)])
        have HXZ := Lib.hid hxz
        clear hxy hxz hab
        by_cases hk0 : 0 < k
        · have hx4 : (1 : Int) < (X.size : Int) := by have := HXS.out; omega
          have hx5 : (((X[1]'(by omega)).toNat : Int) == 0) = false := by
            have := put_get1 HX.out (by omega)
            have : (X[1]'(by omega)).toNat ≠ 0 := fun h => this (u8_zero.2 h)
            simp; omega
          go_wp2
          go_ret
          exact ⟨rfl, HB3.out⟩
        · go_wp2
          go_ret
          exact ⟨rfl, HB3.out⟩
      · have hab' : ((a : Int) == (b : Int)) = false := by simp; omega
        have hne : X.size ≤ Y.size → ((Y.extract 0 X.size).toList == X.toList) = false := fun hle => ne_bool (by
          rw [extract_take, Lib.size_eq, HX.out, HY.out]
          intro h
          have h2 := List.take_append_drop (put a).length (put b)
          rw [h] at h2
          have h3 : put a ++ List.drop (put a).length (put b) = put b ++ [] := by rw [h2, List.append_nil]
          exact hab (put_inj HA.out HB.out h3).1)
        clear hab
        by_cases hge : (X.size : Int) ≤ (Y.size : Int)
        · have heq := hne (by omega)
          clear hne
          by_cases hk0 : 0 < k
          · have hx4 : (1 : Int) < (X.size : Int) := by have := HXS.out; omega
            have hx5 : (((X[1]'(by omega)).toNat : Int) == 0) = false := by
              have := put_get1 HX.out (by omega)
              have : (X[1]'(by omega)).toNat ≠ 0 := fun h => this (u8_zero.2 h)
              simp; omega
            go_wp2
            go_ret
            exact ⟨rfl, HB3.out⟩
          · go_wp2
            go_ret
            exact ⟨rfl, HB3.out⟩
        · clear hne
          by_cases hk0 : 0 < k
          · have hx4 : (1 : Int) < (X.size : Int) := by have := HXS.out; omega
            have hx5 : (((X[1]'(by omega)).toNat : Int) == 0) = false := by
              have := put_get1 HX.out (by omega)
              have : (X[1]'(by omega)).toNat ≠ 0 := fun h => this (u8_zero.2 h)
              simp; omega
            go_wp2
            go_ret
            exact ⟨rfl, HB3.out⟩
          · go_wp2
            go_ret
            exact ⟨rfl, HB3.out⟩
end Go.Proofs.Ytfjnelfaighdeaa.Wire
