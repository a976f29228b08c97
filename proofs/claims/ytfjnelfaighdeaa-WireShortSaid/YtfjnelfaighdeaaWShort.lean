/-
  THE WALK of WireShort. By an AI agent; no person has read it.
-/
import Derived.Test.YtfjnelfaighdeaaWLaw
namespace Go.Proofs.Ytfjnelfaighdeaa.Wire
open Go.RowKit

theorem take_cut {n K : Nat} (hn : n < 18446744073709551616) (hK : K < (put n).length) : take ((put n).take K) = none := by
  have h8 := dig_len8 hn
  rw [put_len] at hK
  unfold put
  cases K with
  | zero => rfl
  | succ k =>
    rw [List.take_succ_cons]
    unfold take
    simp only
    rw [if_pos]
    right; left
    rw [u8_nat _ (by omega), List.length_take]
    omega
theorem text_short {t : List UInt8} {K : Nat} (most : Int) (ht : t.length < 18446744073709551616) (hK : K < (putText t).length) :
    text ((putText t).take K) most = ([], [], if (put t.length).length ≤ K ∧ max most 0 < (t.length : Int) then 10 else 2) := by
  rw [putText_len] at hK
  by_cases hn : (put t.length).length ≤ K
  · have e : (putText t).take K = put t.length ++ t.take (K - (put t.length).length) := by
      rw [putText, List.take_append, List.take_of_length_le hn]
    unfold text
    rw [e, take_put ht]
    simp only
    by_cases hb : max most 0 < (t.length : Int)
    · rw [if_pos hb, if_pos ⟨hn, hb⟩]
    · rw [if_neg hb, if_pos (by rw [List.length_take]; omega), if_neg (by omega)]
  · have e : (putText t).take K = (put t.length).take K := by
      rw [putText, List.take_append, show K - (put t.length).length = 0 by omega]; simp
    unfold text
    rw [e, take_cut ht (by omega)]
    simp only
    rw [if_neg (by omega)]

set_option maxHeartbeats 4000000 in
set_option maxRecDepth 1000000 in
theorem short_walk (t : ByteArray) (cut most : Int) (w : World) (hc : -9223372036854775808 ≤ cut ∧ cut ≤ 9223372036854775807) (hm : -9223372036854775808 ≤ most ∧ most ≤ 9223372036854775807) (htz : t.size ≤ 140737488355328) :
    Calls Try.prog 9 #[.string t, .int .i64 cut, .int .i64 most] w fun e w' => e = .returned (.bool true) ∧ Below w.heap.size w w' := by
  obtain ⟨hc1, hc2⟩ := hc
  obtain ⟨hm1, hm2⟩ := hm
  by_cases hbig : (1000 : Int) < (t.size : Int)
  · go_enter Try.func9, Try.ntmps9
    go_wp2_with (go_at_call 10; refine (shown_any _).mono ?_; rintro e w1 ⟨rfl, hb1⟩; have HB1 := Lib.hid hb1; clear hb1)
    go_ret
    exact ⟨rfl, HB1.out⟩
  · have hwr : IntKind.u64.wrap (t.size : Int) = (t.size : Int) := by rw [IntKind.wrap_u64]; omega
    have hz : t.data.toList.length = t.size := (Lib.size_eq t).symm
    have HZ := Lib.hid hz
    clear hz
    go_enter Try.func9, Try.ntmps9
    go_wp2_with (go_at_call 10; refine (shown_any _).mono ?_; rintro e w1 ⟨rfl, hb1⟩; have HB1 := Lib.hid hb1; clear hb1)
    go_wp2_with fail
    refine (putText_any t _ (by omega)).mono ?_
    rintro e w2 ⟨⟨S, hS, rfl⟩, hb2⟩
    have HB2 := Lib.hid (HB1.out.trans (hb2.mono HB1.out.size))
    have hSz : 1 ≤ S.size ∧ S.size ≤ 1009 := by
      have h2 := HZ.out
      have := put_le (n := t.data.toList.length) (by omega)
      rw [Lib.size_eq, hS, putText_len]
      omega
    obtain ⟨hS1, hS2⟩ := hSz
    have hem : S.toList.isEmpty = false := by
      rw [Lib.toList_data]
      rw [Lib.size_eq] at hS1
      cases h : S.data.toList with
      | nil => rw [h] at hS1; simp at hS1
      | cons x y => rfl
    have HS := Lib.hid hS
    clear hS hb2
    by_cases hcut : cut < 0
    · obtain ⟨q, hq⟩ : ∃ q : Nat, cut + 1 = -(q : Int) := ⟨(-(cut + 1)).toNat, by omega⟩
      obtain ⟨K, hK⟩ : ∃ K : Nat, q % S.size = K := ⟨_, rfl⟩
      have hKS : K < S.size := by rw [← hK]; exact Nat.mod_lt _ (by omega)
      have hrem : (cut + 1).tmod (S.size : Int) = -(K : Int) := by rw [hq, Int.neg_tmod, ← Int.ofNat_tmod, hK]
      have htx := text_short (t := t.data.toList) (K := K) most (by rw [HZ.out]; omega) (by rw [← HS.out, ← Lib.size_eq]; exact hKS)
      rw [← HS.out, ← extract_take] at htx
      have hez : (S.extract 0 K).size ≤ 140737488355328 := by rw [Lib.size_eq, extract_take, List.length_take]; omega
      have hKI : (K : Int) ≤ (S.size : Int) := by omega
      clear hq hK
      go_wp2_with fail
      refine (put_any t.size _ (by omega)).mono ?_
      rintro e w3 ⟨⟨T, hT, rfl⟩, hb3⟩
      have HB3 := Lib.hid (HB2.out.trans (hb3.mono HB2.out.size))
      have hT9 := put_size hT (by omega)
      have hTz : T.size = (put t.data.toList.length).length := by rw [Lib.size_eq, hT, HZ.out]
      rw [← hTz, HZ.out] at htx
      clear hT hTz hb3
      by_cases hn : T.size ≤ K
      · have hn' : (T.size : Int) ≤ (K : Int) := by omega
        by_cases hb : max most 0 < (t.size : Int)
        · rw [if_pos ⟨hn, hb⟩] at htx
          have HTX := Lib.hid htx
          clear htx
          by_cases h0 : most < 0
          · have hb' : (0 : Int) < (t.size : Int) := by omega
            clear hb
            go_wp2_with fail
            refine (text_any _ most _ hez ⟨hm1, hm2⟩).mono ?_
            rw [HTX.out]
            rintro e w4 ⟨⟨X, Y, hX, hY, rfl⟩, kd, rfl⟩
            dsimp only at hX hY ⊢
            have hxe : X.toList.isEmpty = true := by rw [Lib.toList_data, hX]; rfl
            have hye : Y.toList.isEmpty = true := by rw [Lib.toList_data, hY]; rfl
            clear hX hY
            go_wp2
            go_ret
            exact ⟨rfl, HB3.out.trans (bdrew _ _)⟩
          · have hb' : most < (t.size : Int) := by omega
            clear hb
            go_wp2_with fail
            refine (text_any _ most _ hez ⟨hm1, hm2⟩).mono ?_
            rw [HTX.out]
            rintro e w4 ⟨⟨X, Y, hX, hY, rfl⟩, kd, rfl⟩
            dsimp only at hX hY ⊢
            have hxe : X.toList.isEmpty = true := by rw [Lib.toList_data, hX]; rfl
            have hye : Y.toList.isEmpty = true := by rw [Lib.toList_data, hY]; rfl
            clear hX hY
            go_wp2
            go_ret
            exact ⟨rfl, HB3.out.trans (bdrew _ _)⟩
        · rw [if_neg (fun h => hb h.2)] at htx
          have HTX := Lib.hid htx
          clear htx
          by_cases h0 : most < 0
          · have hb' : (t.size : Int) ≤ 0 := by omega
            clear hb
            go_wp2_with fail
            refine (text_any _ most _ hez ⟨hm1, hm2⟩).mono ?_
            rw [HTX.out]
            rintro e w4 ⟨⟨X, Y, hX, hY, rfl⟩, kd, rfl⟩
            dsimp only at hX hY ⊢
            have hxe : X.toList.isEmpty = true := by rw [Lib.toList_data, hX]; rfl
            have hye : Y.toList.isEmpty = true := by rw [Lib.toList_data, hY]; rfl
            clear hX hY
            go_wp2
            go_ret
            exact ⟨rfl, HB3.out.trans (bdrew _ _)⟩
          · have hb' : (t.size : Int) ≤ most := by omega
            clear hb
            go_wp2_with fail
            refine (text_any _ most _ hez ⟨hm1, hm2⟩).mono ?_
            rw [HTX.out]
            rintro e w4 ⟨⟨X, Y, hX, hY, rfl⟩, kd, rfl⟩
            dsimp only at hX hY ⊢
            have hxe : X.toList.isEmpty = true := by rw [Lib.toList_data, hX]; rfl
            have hye : Y.toList.isEmpty = true := by rw [Lib.toList_data, hY]; rfl
            clear hX hY
            go_wp2
            go_ret
            exact ⟨rfl, HB3.out.trans (bdrew _ _)⟩
      · rw [if_neg (fun h => hn h.1)] at htx
        have HTX := Lib.hid htx
        have hn' : (K : Int) < (T.size : Int) := by omega
        clear htx
        go_wp2_with fail
        refine (text_any _ most _ hez ⟨hm1, hm2⟩).mono ?_
        rw [HTX.out]
        rintro e w4 ⟨⟨X, Y, hX, hY, rfl⟩, kd, rfl⟩
        dsimp only at hX hY ⊢
        have hxe : X.toList.isEmpty = true := by rw [Lib.toList_data, hX]; rfl
        have hye : Y.toList.isEmpty = true := by rw [Lib.toList_data, hY]; rfl
        clear hX hY
        go_wp2
        go_ret
        exact ⟨rfl, HB3.out.trans (bdrew _ _)⟩
    · obtain ⟨q, hq⟩ : ∃ q : Nat, cut = (q : Int) := ⟨cut.toNat, by omega⟩
      obtain ⟨K, hK⟩ : ∃ K : Nat, q % S.size = K := ⟨_, rfl⟩
      have hKS : K < S.size := by rw [← hK]; exact Nat.mod_lt _ (by omega)
      have hrem : cut.tmod (S.size : Int) = (K : Int) := by rw [hq, ← Int.ofNat_tmod, hK]
      have hrem2 : cut % (S.size : Int) = (K : Int) := by rw [hq, ← Int.natCast_emod, hK]
      have hcut2 : 0 ≤ cut := by omega
      have htx := text_short (t := t.data.toList) (K := K) most (by rw [HZ.out]; omega) (by rw [← HS.out, ← Lib.size_eq]; exact hKS)
      rw [← HS.out, ← extract_take] at htx
      have hez : (S.extract 0 K).size ≤ 140737488355328 := by rw [Lib.size_eq, extract_take, List.length_take]; omega
      have hKI : (K : Int) ≤ (S.size : Int) := by omega
      clear hq hK
      go_wp2_with fail
      refine (put_any t.size _ (by omega)).mono ?_
      rintro e w3 ⟨⟨T, hT, rfl⟩, hb3⟩
      have HB3 := Lib.hid (HB2.out.trans (hb3.mono HB2.out.size))
      have hT9 := put_size hT (by omega)
      have hTz : T.size = (put t.data.toList.length).length := by rw [Lib.size_eq, hT, HZ.out]
      rw [← hTz, HZ.out] at htx
      clear hT hTz hb3
      by_cases hn : T.size ≤ K
      · have hn' : (T.size : Int) ≤ (K : Int) := by omega
        by_cases hb : max most 0 < (t.size : Int)
        · rw [if_pos ⟨hn, hb⟩] at htx
          have HTX := Lib.hid htx
          clear htx
          by_cases h0 : most < 0
          · have hb' : (0 : Int) < (t.size : Int) := by omega
            clear hb
            go_wp2_with fail
            refine (text_any _ most _ hez ⟨hm1, hm2⟩).mono ?_
            rw [HTX.out]
            rintro e w4 ⟨⟨X, Y, hX, hY, rfl⟩, kd, rfl⟩
            dsimp only at hX hY ⊢
            have hxe : X.toList.isEmpty = true := by rw [Lib.toList_data, hX]; rfl
            have hye : Y.toList.isEmpty = true := by rw [Lib.toList_data, hY]; rfl
            clear hX hY
            go_wp2
            go_ret
            exact ⟨rfl, HB3.out.trans (bdrew _ _)⟩
          · have hb' : most < (t.size : Int) := by omega
            clear hb
            go_wp2_with fail
            refine (text_any _ most _ hez ⟨hm1, hm2⟩).mono ?_
            rw [HTX.out]
            rintro e w4 ⟨⟨X, Y, hX, hY, rfl⟩, kd, rfl⟩
            dsimp only at hX hY ⊢
            have hxe : X.toList.isEmpty = true := by rw [Lib.toList_data, hX]; rfl
            have hye : Y.toList.isEmpty = true := by rw [Lib.toList_data, hY]; rfl
            clear hX hY
            go_wp2
            go_ret
            exact ⟨rfl, HB3.out.trans (bdrew _ _)⟩
        · rw [if_neg (fun h => hb h.2)] at htx
          have HTX := Lib.hid htx
          clear htx
          by_cases h0 : most < 0
          · have hb' : (t.size : Int) ≤ 0 := by omega
            clear hb
            go_wp2_with fail
            refine (text_any _ most _ hez ⟨hm1, hm2⟩).mono ?_
            rw [HTX.out]
            rintro e w4 ⟨⟨X, Y, hX, hY, rfl⟩, kd, rfl⟩
            dsimp only at hX hY ⊢
            have hxe : X.toList.isEmpty = true := by rw [Lib.toList_data, hX]; rfl
            have hye : Y.toList.isEmpty = true := by rw [Lib.toList_data, hY]; rfl
            clear hX hY
            go_wp2
            go_ret
            exact ⟨rfl, HB3.out.trans (bdrew _ _)⟩
          · have hb' : (t.size : Int) ≤ most := by omega
            clear hb
            go_wp2_with fail
            refine (text_any _ most _ hez ⟨hm1, hm2⟩).mono ?_
            rw [HTX.out]
            rintro e w4 ⟨⟨X, Y, hX, hY, rfl⟩, kd, rfl⟩
            dsimp only at hX hY ⊢
            have hxe : X.toList.isEmpty = true := by rw [Lib.toList_data, hX]; rfl
            have hye : Y.toList.isEmpty = true := by rw [Lib.toList_data, hY]; rfl
            clear hX hY
            go_wp2
            go_ret
            exact ⟨rfl, HB3.out.trans (bdrew _ _)⟩
      · rw [if_neg (fun h => hn h.1)] at htx
        have HTX := Lib.hid htx
        have hn' : (K : Int) < (T.size : Int) := by omega
        clear htx
        go_wp2_with fail
        refine (text_any _ most _ hez ⟨hm1, hm2⟩).mono ?_
        rw [HTX.out]
        rintro e w4 ⟨⟨X, Y, hX, hY, rfl⟩, kd, rfl⟩
        dsimp only at hX hY ⊢
        have hxe : X.toList.isEmpty = true := by rw [Lib.toList_data, hX]; rfl
        have hye : Y.toList.isEmpty = true := by rw [Lib.toList_data, hY]; rfl
        clear hX hY
        go_wp2
        go_ret
        exact ⟨rfl, HB3.out.trans (bdrew _ _)⟩
end Go.Proofs.Ytfjnelfaighdeaa.Wire
