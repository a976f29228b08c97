/-
  THE WALK of WireBack. By an AI agent; no person has read it.
-/
import Derived.Test.YtfjnelfaighdeaaWRow
import Derived.Deep.RegionHeld3
namespace Go.Proofs.Ytfjnelfaighdeaa.Wire
open Go.RowKit

/-- How long the longest text is. -/
def maxl (ys : List ByteArray) : Nat := ys.foldl (fun m y => max m y.size) 0
theorem maxl_take {ys : List ByteArray} {k : Nat} {y : ByteArray} (hk : k < ys.length) (hy : ys.getD k ByteArray.empty = y) : maxl (ys.take (k + 1)) = max (maxl (ys.take k)) y.size := by
  have e : ys[k] = y := by rw [← hy]; simp [List.getD, hk]
  rw [List.take_succ_eq_append_getElem hk, e]
  simp [maxl]
theorem maxl_snoc (ys : List ByteArray) (y : ByteArray) : maxl (ys ++ [y]) = max (maxl ys) y.size := by simp [maxl]
theorem maxl_ge : ∀ (n : Nat) (ys : List ByteArray), ys.length = n → ∀ y ∈ ys, y.size ≤ maxl ys
  | 0, ys, h, y, hy => by
    obtain rfl := List.eq_nil_of_length_eq_zero h
    cases hy
  | n + 1, ys, h, y, hy => by
    have hne : ys ≠ [] := by intro e; simp [e] at h
    obtain ⟨a, b, rfl⟩ : ∃ a b, ys = a ++ [b] := ⟨ys.dropLast, ys.getLast hne, (List.dropLast_concat_getLast hne).symm⟩
    rw [maxl_snoc]
    rcases List.mem_append.1 hy with hy | hy
    · have := maxl_ge n a (by simpa using h) y hy; omega
    · rw [List.mem_singleton.1 hy]; omega
theorem maxl_is : ∀ (n : Nat) (ys : List ByteArray), ys.length = n → 0 < maxl ys → ∃ y ∈ ys, y.size = maxl ys
  | 0, ys, h, h0 => by
    obtain rfl := List.eq_nil_of_length_eq_zero h
    simp [maxl] at h0
  | n + 1, ys, h, h0 => by
    have hne : ys ≠ [] := by intro e; simp [e] at h
    obtain ⟨a, b, rfl⟩ : ∃ a b, ys = a ++ [b] := ⟨ys.dropLast, ys.getLast hne, (List.dropLast_concat_getLast hne).symm⟩
    rw [maxl_snoc] at h0 ⊢
    by_cases hb : maxl a ≤ b.size
    · exact ⟨b, by simp, by omega⟩
    · obtain ⟨y, hy, e⟩ := maxl_is n a (by simpa using h) (by omega)
      exact ⟨y, by simp [hy], by omega⟩
theorem maxl_le {ys : List ByteArray} {m : Nat} (h : ∀ y ∈ ys, y.size ≤ m) : maxl ys ≤ m := by
  by_cases h0 : 0 < maxl ys
  · obtain ⟨y, hy, e⟩ := maxl_is _ ys rfl h0
    rw [← e]; exact h y hy
  · omega
theorem all_many {ls : List (List UInt8)} {a m : Int} (hn2 : ls.length < 18446744073709551616) (hb : max a 0 < (ls.length : Int)) : all (putAll ls) a m = ([], 10) := by
  have ht : take (putAll ls) = some (ls.length, ls.flatMap putText) := by
    rw [putAll]; exact take_put hn2 _
  exact all_big ht hb
theorem all_long {ls : List (List UInt8)} {a m : Int} (hn : (ls.length : Int) ≤ max a 0) (hn2 : ls.length < 18446744073709551616) (hm : ∀ t ∈ ls, t.length < 18446744073709551616) (hb : ∃ t ∈ ls, max m 0 < (t.length : Int)) :
    all (putAll ls) a m = ([], 10) := by
  have ht : take (putAll ls) = some (ls.length, ls.flatMap putText) := by
    rw [putAll]; exact take_put hn2 _
  have hx := texts_big ls [] m [] hm hb
  rw [List.append_nil] at hx
  exact all_err ht hn hx (by decide)

set_option maxHeartbeats 16000000 in
set_option maxRecDepth 1000000 in
theorem back_walk (n : Nat) (a : Option Addr) (cap : Nat) (ys : List ByteArray) (rest : ByteArray) (w : World) (hnn : n < 18446744073709551616) (hr : SReads w a ys) (hn : ys.length ≤ 9223372036854775807) (hz : ∀ y ∈ ys, y.size ≤ 9223372036854775807) (hrest : rest.size ≤ 140737488355328) :
    Calls Try.prog 5 #[.int .u64 n, .slice a ys.length cap, .string rest] w fun e w' => e = .returned (.bool true) ∧ Below w.heap.size w w' := by
  have HR := Lib.hid hr
  have HZ := Lib.hid hz
  have HNN := Lib.hid hnn
  clear hr hz hnn
  have hsm : ∀ w1, Below w.heap.size w w1 → Calls Try.prog 18 #[.slice a ys.length cap] w1 fun e w' => e = .returned (.bool (smallB ys)) ∧ w1 = w' := fun w1 hb => small_any a cap ys w1 (HR.out.below hb (Nat.le_refl _)) hn HZ.out
  have HSM := Lib.hid hsm
  clear hsm
  cases hsb : smallB ys with
  | false =>
    have HSB := Lib.hid hsb
    clear hsb
    go_enter Try.func5, Try.ntmps5
    go_wp2_with (first
      | (go_at_call 10; refine (shown_any _).mono ?_; rintro e w1 ⟨rfl, hb1⟩; have HB1 := Lib.hid hb1; clear hb1)
      | (go_at_call 18; refine (HSM.out _ HB1.out).mono ?_; rw [HSB.out]; rintro e w' ⟨rfl, rfl⟩))
    go_ret
    exact ⟨rfl, HB1.out⟩
  | true =>
    obtain ⟨hs1, hs2, hs3⟩ := smallB_true hsb
    have HSB := Lib.hid hsb
    have HS2 := Lib.hid hs2
    have HS3 : Hid ((bl ys).flatten.length ≤ 4000) := hs3
    clear hsb hs2 hs3
    by_cases hbig : (2000 : Int) < (rest.size : Int)
    · go_enter Try.func5, Try.ntmps5
      go_wp2_with (first
        | (go_at_call 10; refine (shown_any _).mono ?_; rintro e w1 ⟨rfl, hb1⟩; have HB1 := Lib.hid hb1; clear hb1)
        | (go_at_call 18; refine (HSM.out _ HB1.out).mono ?_; rw [HSB.out]; rintro e w' ⟨rfl, rfl⟩))
      go_ret
      exact ⟨rfl, HB1.out⟩
    · go_enter Try.func5, Try.ntmps5
      go_wp2_with (first
        | (go_at_call 10; refine (shown_any _).mono ?_; rintro e w1 ⟨rfl, hb1⟩; have HB1 := Lib.hid hb1; clear hb1)
        | (go_at_call 18; refine (HSM.out _ HB1.out).mono ?_; rw [HSB.out]; rintro e w' ⟨rfl, rfl⟩))
      refine (put_any n _ HNN.out).mono ?_
      rintro e w2 ⟨⟨P, hP, rfl⟩, hb2⟩
      have HB2 := Lib.hid (HB1.out.trans (hb2.mono HB1.out.size))
      have hPz : P.size ≤ 9 := put_size hP HNN.out
      have hPR : (P ++ rest).data.toList = put n ++ rest.data.toList := by rw [app_data, hP]
      have hPRz : (P ++ rest).size ≤ 2009 := by
        have h2 := Lib.size_eq rest
        have h3 := Lib.size_eq P
        rw [Lib.size_eq, hPR, List.length_append, ← h2, ← hP, ← h3]; omega
      have htk : tk (P ++ rest).data.toList = (n, rest.data.toList, 0) := by rw [hPR]; exact tk_some (take_put HNN.out _)
      have HTK := Lib.hid htk
      clear hP hb2 hPR htk
      go_wp2_with fail
      refine (take_bel _ _ (by omega)).mono ?_
      rw [HTK.out]
      rintro e w3 ⟨⟨R, hR, rfl⟩, hb3⟩
      dsimp only at hR ⊢
      have HB3 := Lib.hid (HB2.out.trans (hb3.mono HB2.out.size))
      have heqR : (R.toList == rest.toList) = true := eq_bool hR
      clear hR hb3 HTK
      go_wp2
      go_loopw [12, 13] (fun m i wr => ∃ k : Nat, k ≤ ys.length ∧ i = .int .i64 k ∧ m = .int .i64 (maxl (ys.take k)) ∧ Hid (Below w.heap.size w wr)) (fun _ i _ => ys.length - (intOf i).toNat)
      case atStart => exact ⟨0, Nat.zero_le _, rfl, rfl, HB3⟩
      case round =>
        obtain ⟨k, hk, rfl, rfl, HBW⟩ := hrel
        by_cases hlt : k < ys.length
        · obtain ⟨b, off, rfl, hblt, hcell⟩ := HR.out k hlt
          obtain ⟨y, hy⟩ : ∃ y, ys.getD k ByteArray.empty = y := ⟨_, rfl⟩
          rw [hy] at hcell
          have hy2 := HS2.out y (getD_mem hlt hy)
          have hmx := maxl_take hlt hy
          have hM2 : maxl (ys.take k) ≤ 2000 := maxl_le fun z hz => HS2.out z (List.mem_of_mem_take hz)
          have HMX := Lib.hid hmx
          obtain ⟨M, hM⟩ : ∃ M, maxl (ys.take k) = M := ⟨_, rfl⟩
          rw [hM] at hM2 ⊢
          have HM := Lib.hid hM
          rw [← HBW.out.cell (p := ⟨b, off + k, none⟩) hblt] at hcell
          have hblt2 : b < wr.heap.size := Nat.lt_of_lt_of_le hblt HBW.out.size
          have hk0 : (0 : Int) ≤ (k : Int) := by omega
          have hk1 : (k : Int) < (ys.length : Int) := by omega
          have htx : ∀ m : Int, (y.size : Int) ≤ max m 0 → text (putText y.data.toList ++ rest.data.toList) m = (y.data.toList, rest.data.toList, 0) := fun m hm => by
            have h0 := Lib.size_eq y
            exact text_put (by omega) _ _ (by omega)
          have htb : ∀ m : Int, max m 0 < (y.size : Int) → text (putText y.data.toList ++ rest.data.toList) m = ([], [], 10) := fun m hm => by
            have h0 := Lib.size_eq y
            exact text_big (by omega) _ _ (by omega)
          have HTX := Lib.hid htx
          have HTB := Lib.hid htb
          clear hy hmx hM htx htb
          have hwy : IntKind.i64.wrap ((y.size : Int) - 1) = (y.size : Int) - 1 := by rw [IntKind.wrap_i64]; omega
          by_cases hMy : (M : Int) < (y.size : Int)
          · have hy1 : (0 : Int) < (y.size : Int) := by omega
            go_wp2
            go_region_held3 (fun w' => w'.cell? ⟨b, off + k, none⟩ = some (.string y))
              (first | go_keep | exact hcell6 | exact hcell5)
              (first
                | (go_simp
                   go_at_call 19
                   refine (putText_any y _ (by omega)).mono ?_
                   rintro e w5 ⟨⟨V, hV, rfl⟩, hb⟩
                   have HB5 := Lib.hid (HBW.out.drew.trans (hb.mono HBW.out.size))
                   have hcell5 : w5.cell? ⟨b, off + k, none⟩ = some (.string y) := (hb.cell (p := ⟨b, off + k, none⟩) (Nat.lt_of_lt_of_le hblt HBW.out.size)).trans hcell
                   have hVR : (V ++ rest).data.toList = putText y.data.toList ++ rest.data.toList := by rw [app_data, hV]
                   have HVR5 := Lib.hid hVR
                   have hVz : V.size ≤ 2009 := by
                     have h0 := Lib.size_eq y
                     have h1 := (put_le (n := y.data.toList.length) (by omega)).2
                     rw [Lib.size_eq, hV, putText_len]; omega
                   have hVRz : (V ++ rest).size ≤ 5000 := by
                     have h2 := Lib.size_eq rest
                     have h3 := Lib.size_eq V
                     rw [Lib.size_eq, hVR, List.length_append, ← h2, ← hV, ← h3]; omega
                   have HVRz5 := Lib.hid hVRz
                   have hadd5 : ¬ (9223372036854775807 < V.size + rest.size) := by omega
                   clear hV hb hVR hVRz
                   dsimp only)
                | (go_simp
                   go_at_call 13
                   refine (text_bel (V ++ rest) ((y.size : Int)) _ (Nat.le_trans HVRz5.out (by decide)) (by omega)).mono ?_
                   rw [HVR5.out, HTX.out _ (by omega)]
                   rintro e w6 ⟨⟨T, U, hT, hU, rfl⟩, hb⟩
                   have HB6 := Lib.hid (HB5.out.trans (hb.mono HB5.out.size))
                   have hcell6 : w6.cell? ⟨b, off + k, none⟩ = some (.string y) := (hb.cell (p := ⟨b, off + k, none⟩) (Nat.lt_of_lt_of_le hblt HB5.out.size)).trans hcell5
                   have heqT : (T.toList == y.toList) = true := eq_bool hT
                   have heqU : (U.toList == rest.toList) = true := eq_bool hU
                   clear hT hU hb
                   dsimp only))
            go_wp2
            go_region_held3 (fun w' => w'.cell? ⟨b, off + k, none⟩ = some (.string y))
              (first | go_keep | exact hcell8 | exact hcell7)
              (first
                | (go_simp
                   go_at_call 19
                   refine (putText_any y _ (by omega)).mono ?_
                   rintro e w7 ⟨⟨V2, hV, rfl⟩, hb⟩
                   have HB7 := Lib.hid (HB6.out.drew.trans (hb.mono HB6.out.size))
                   have hcell7 : w7.cell? ⟨b, off + k, none⟩ = some (.string y) := (hb.cell (p := ⟨b, off + k, none⟩) (Nat.lt_of_lt_of_le hblt HB6.out.size)).trans hcell6
                   have hVR : (V2 ++ rest).data.toList = putText y.data.toList ++ rest.data.toList := by rw [app_data, hV]
                   have HVR7 := Lib.hid hVR
                   have hVz : V2.size ≤ 2009 := by
                     have h0 := Lib.size_eq y
                     have h1 := (put_le (n := y.data.toList.length) (by omega)).2
                     rw [Lib.size_eq, hV, putText_len]; omega
                   have hVRz : (V2 ++ rest).size ≤ 5000 := by
                     have h2 := Lib.size_eq rest
                     have h3 := Lib.size_eq V2
                     rw [Lib.size_eq, hVR, List.length_append, ← h2, ← hV, ← h3]; omega
                   have HVRz7 := Lib.hid hVRz
                   have hadd7 : ¬ (9223372036854775807 < V2.size + rest.size) := by omega
                   clear hV hb hVR hVRz
                   dsimp only)
                | (go_simp
                   go_at_call 13
                   refine (text_bel (V2 ++ rest) ((y.size : Int) - 1) _ (Nat.le_trans HVRz7.out (by decide)) (by omega)).mono ?_
                   rw [HVR7.out, HTB.out _ (by omega)]
                   rintro e w8 ⟨⟨T2, U2, hT, hU, rfl⟩, hb⟩
                   have HB8 := Lib.hid (HB7.out.trans (hb.mono HB7.out.size))
                   have hcell8 : w8.cell? ⟨b, off + k, none⟩ = some (.string y) := (hb.cell (p := ⟨b, off + k, none⟩) (Nat.lt_of_lt_of_le hblt HB7.out.size)).trans hcell7
                   clear hT hU hb
                   dsimp only))
            go_wp2
            go_roundw
            case rel => exact ⟨k + 1, by omega, by go_num, by rw [HMX.out, HM.out]; go_num, HB8⟩
            case measure => simp [intOf]; omega
          · by_cases hy1 : (0 : Int) < (y.size : Int)
            · go_wp2
              go_region_held3 (fun w' => w'.cell? ⟨b, off + k, none⟩ = some (.string y))
                (first | go_keep | exact hcell6 | exact hcell5)
                (first
                  | (go_simp
                     go_at_call 19
                     refine (putText_any y _ (by omega)).mono ?_
                     rintro e w5 ⟨⟨V, hV, rfl⟩, hb⟩
                     have HB5 := Lib.hid (HBW.out.drew.trans (hb.mono HBW.out.size))
                     have hcell5 : w5.cell? ⟨b, off + k, none⟩ = some (.string y) := (hb.cell (p := ⟨b, off + k, none⟩) (Nat.lt_of_lt_of_le hblt HBW.out.size)).trans hcell
                     have hVR : (V ++ rest).data.toList = putText y.data.toList ++ rest.data.toList := by rw [app_data, hV]
                     have HVR5 := Lib.hid hVR
                     have hVz : V.size ≤ 2009 := by
                       have h0 := Lib.size_eq y
                       have h1 := (put_le (n := y.data.toList.length) (by omega)).2
                       rw [Lib.size_eq, hV, putText_len]; omega
                     have hVRz : (V ++ rest).size ≤ 5000 := by
                       have h2 := Lib.size_eq rest
                       have h3 := Lib.size_eq V
                       rw [Lib.size_eq, hVR, List.length_append, ← h2, ← hV, ← h3]; omega
                     have HVRz5 := Lib.hid hVRz
                     have hadd5 : ¬ (9223372036854775807 < V.size + rest.size) := by omega
                     clear hV hb hVR hVRz
                     dsimp only)
                  | (go_simp
                     go_at_call 13
                     refine (text_bel (V ++ rest) ((y.size : Int)) _ (Nat.le_trans HVRz5.out (by decide)) (by omega)).mono ?_
                     rw [HVR5.out, HTX.out _ (by omega)]
                     rintro e w6 ⟨⟨T, U, hT, hU, rfl⟩, hb⟩
                     have HB6 := Lib.hid (HB5.out.trans (hb.mono HB5.out.size))
                     have hcell6 : w6.cell? ⟨b, off + k, none⟩ = some (.string y) := (hb.cell (p := ⟨b, off + k, none⟩) (Nat.lt_of_lt_of_le hblt HB5.out.size)).trans hcell5
                     have heqT : (T.toList == y.toList) = true := eq_bool hT
                     have heqU : (U.toList == rest.toList) = true := eq_bool hU
                     clear hT hU hb
                     dsimp only))
              go_wp2
              go_region_held3 (fun w' => w'.cell? ⟨b, off + k, none⟩ = some (.string y))
                (first | go_keep | exact hcell8 | exact hcell7)
                (first
                  | (go_simp
                     go_at_call 19
                     refine (putText_any y _ (by omega)).mono ?_
                     rintro e w7 ⟨⟨V2, hV, rfl⟩, hb⟩
                     have HB7 := Lib.hid (HB6.out.drew.trans (hb.mono HB6.out.size))
                     have hcell7 : w7.cell? ⟨b, off + k, none⟩ = some (.string y) := (hb.cell (p := ⟨b, off + k, none⟩) (Nat.lt_of_lt_of_le hblt HB6.out.size)).trans hcell6
                     have hVR : (V2 ++ rest).data.toList = putText y.data.toList ++ rest.data.toList := by rw [app_data, hV]
                     have HVR7 := Lib.hid hVR
                     have hVz : V2.size ≤ 2009 := by
                       have h0 := Lib.size_eq y
                       have h1 := (put_le (n := y.data.toList.length) (by omega)).2
                       rw [Lib.size_eq, hV, putText_len]; omega
                     have hVRz : (V2 ++ rest).size ≤ 5000 := by
                       have h2 := Lib.size_eq rest
                       have h3 := Lib.size_eq V2
                       rw [Lib.size_eq, hVR, List.length_append, ← h2, ← hV, ← h3]; omega
                     have HVRz7 := Lib.hid hVRz
                     have hadd7 : ¬ (9223372036854775807 < V2.size + rest.size) := by omega
                     clear hV hb hVR hVRz
                     dsimp only)
                  | (go_simp
                     go_at_call 13
                     refine (text_bel (V2 ++ rest) ((y.size : Int) - 1) _ (Nat.le_trans HVRz7.out (by decide)) (by omega)).mono ?_
                     rw [HVR7.out, HTB.out _ (by omega)]
                     rintro e w8 ⟨⟨T2, U2, hT, hU, rfl⟩, hb⟩
                     have HB8 := Lib.hid (HB7.out.trans (hb.mono HB7.out.size))
                     have hcell8 : w8.cell? ⟨b, off + k, none⟩ = some (.string y) := (hb.cell (p := ⟨b, off + k, none⟩) (Nat.lt_of_lt_of_le hblt HB7.out.size)).trans hcell7
                     clear hT hU hb
                     dsimp only))
              go_wp2
              go_roundw
              case rel => exact ⟨k + 1, by omega, by go_num, by rw [HMX.out, HM.out]; go_num, HB8⟩
              case measure => simp [intOf]; omega
            · go_wp2
              go_region_held3 (fun w' => w'.cell? ⟨b, off + k, none⟩ = some (.string y))
                (first | go_keep | exact hcell6 | exact hcell5)
                (first
                  | (go_simp
                     go_at_call 19
                     refine (putText_any y _ (by omega)).mono ?_
                     rintro e w5 ⟨⟨V, hV, rfl⟩, hb⟩
                     have HB5 := Lib.hid (HBW.out.drew.trans (hb.mono HBW.out.size))
                     have hcell5 : w5.cell? ⟨b, off + k, none⟩ = some (.string y) := (hb.cell (p := ⟨b, off + k, none⟩) (Nat.lt_of_lt_of_le hblt HBW.out.size)).trans hcell
                     have hVR : (V ++ rest).data.toList = putText y.data.toList ++ rest.data.toList := by rw [app_data, hV]
                     have HVR5 := Lib.hid hVR
                     have hVz : V.size ≤ 2009 := by
                       have h0 := Lib.size_eq y
                       have h1 := (put_le (n := y.data.toList.length) (by omega)).2
                       rw [Lib.size_eq, hV, putText_len]; omega
                     have hVRz : (V ++ rest).size ≤ 5000 := by
                       have h2 := Lib.size_eq rest
                       have h3 := Lib.size_eq V
                       rw [Lib.size_eq, hVR, List.length_append, ← h2, ← hV, ← h3]; omega
                     have HVRz5 := Lib.hid hVRz
                     have hadd5 : ¬ (9223372036854775807 < V.size + rest.size) := by omega
                     clear hV hb hVR hVRz
                     dsimp only)
                  | (go_simp
                     go_at_call 13
                     refine (text_bel (V ++ rest) ((y.size : Int)) _ (Nat.le_trans HVRz5.out (by decide)) (by omega)).mono ?_
                     rw [HVR5.out, HTX.out _ (by omega)]
                     rintro e w6 ⟨⟨T, U, hT, hU, rfl⟩, hb⟩
                     have HB6 := Lib.hid (HB5.out.trans (hb.mono HB5.out.size))
                     have hcell6 : w6.cell? ⟨b, off + k, none⟩ = some (.string y) := (hb.cell (p := ⟨b, off + k, none⟩) (Nat.lt_of_lt_of_le hblt HB5.out.size)).trans hcell5
                     have heqT : (T.toList == y.toList) = true := eq_bool hT
                     have heqU : (U.toList == rest.toList) = true := eq_bool hU
                     clear hT hU hb
                     dsimp only))
              go_wp2
              go_region_held3 (fun w' => w'.cell? ⟨b, off + k, none⟩ = some (.string y))
                (first | go_keep | exact hcell8 | exact hcell7)
                (first
                  | (go_simp
                     go_at_call 19
                     refine (putText_any y _ (by omega)).mono ?_
                     rintro e w7 ⟨⟨V2, hV, rfl⟩, hb⟩
                     have HB7 := Lib.hid (HB6.out.drew.trans (hb.mono HB6.out.size))
                     have hcell7 : w7.cell? ⟨b, off + k, none⟩ = some (.string y) := (hb.cell (p := ⟨b, off + k, none⟩) (Nat.lt_of_lt_of_le hblt HB6.out.size)).trans hcell6
                     have hVR : (V2 ++ rest).data.toList = putText y.data.toList ++ rest.data.toList := by rw [app_data, hV]
                     have HVR7 := Lib.hid hVR
                     have hVz : V2.size ≤ 2009 := by
                       have h0 := Lib.size_eq y
                       have h1 := (put_le (n := y.data.toList.length) (by omega)).2
                       rw [Lib.size_eq, hV, putText_len]; omega
                     have hVRz : (V2 ++ rest).size ≤ 5000 := by
                       have h2 := Lib.size_eq rest
                       have h3 := Lib.size_eq V2
                       rw [Lib.size_eq, hVR, List.length_append, ← h2, ← hV, ← h3]; omega
                     have HVRz7 := Lib.hid hVRz
                     have hadd7 : ¬ (9223372036854775807 < V2.size + rest.size) := by omega
                     clear hV hb hVR hVRz
                     dsimp only)
                  | (go_simp
                     go_at_call 13
                     refine (text_bel (V2 ++ rest) ((y.size : Int) - 1) _ (Nat.le_trans HVRz7.out (by decide)) (by omega)).mono ?_
                     rw [HVR7.out, HTX.out _ (by omega)]
                     rintro e w8 ⟨⟨T2, U2, hT, hU, rfl⟩, hb⟩
                     have HB8 := Lib.hid (HB7.out.trans (hb.mono HB7.out.size))
                     have hcell8 : w8.cell? ⟨b, off + k, none⟩ = some (.string y) := (hb.cell (p := ⟨b, off + k, none⟩) (Nat.lt_of_lt_of_le hblt HB7.out.size)).trans hcell7
                     clear hT hU hb
                     dsimp only))
              go_wp2
              go_roundw
              case rel => exact ⟨k + 1, by omega, by go_num, by rw [HMX.out, HM.out]; go_num, HB8⟩
              case measure => simp [intOf]; omega
        · obtain rfl : k = ys.length := by omega
          obtain ⟨M, hM⟩ : ∃ M, maxl ys = M := ⟨_, rfl⟩
          rw [List.take_length, hM]
          have hM2 : M ≤ 2000 := by rw [← hM]; exact maxl_le fun z hz => HS2.out z hz
          have HPL : Hid ((putAll (bl ys)).length ≤ 5000) := by
            show _ ≤ _
            have h1 := flat_len (bl ys) (fun l hl => by have := bl_each l hl; have := HS3.out; omega)
            have h2 := (put_le (n := (bl ys).length) (by rw [bl_len]; omega)).2
            have h3 := HS3.out
            have h4 := bl_len ys
            rw [putAll, List.length_append]; omega
          have heach : ∀ t ∈ bl ys, t.length < 18446744073709551616 ∧ t.length ≤ M := fun t ht => by
            obtain ⟨y, hy, rfl⟩ := List.mem_map.1 ht
            have h1 := maxl_ge _ ys rfl y hy
            rw [Lib.size_eq] at h1
            omega
          have hp : ∀ (A m : Int) (q : List UInt8), (ys.length : Int) ≤ max A 0 → (M : Int) ≤ max m 0 → all (putAll (bl ys) ++ q) A m = if q = [] then (bl ys, 0) else ([], 2) := fun A m q h1 h2 =>
            all_put (by rw [bl_len]; exact h1) (by rw [bl_len]; omega) (fun t ht => by have := heach t ht; exact ⟨this.1, by omega⟩)
          have hp0 : ∀ (A m : Int), (ys.length : Int) ≤ max A 0 → (M : Int) ≤ max m 0 → all (putAll (bl ys)) A m = (bl ys, 0) := fun A m h1 h2 => by
            have h := hp A m [] h1 h2
            rw [List.append_nil, if_pos rfl] at h
            exact h
          have HF := Lib.hid (hp0 (ys.length : Int) (M : Int) (by omega) (by omega))
          have hi := hp (ys.length : Int) (M : Int) [120] (by omega) (by omega)
          rw [if_neg (by simp)] at hi
          have HI := Lib.hid hi
          clear hi
          have HZE : Hid (∀ zs : List ByteArray, bl zs = bl ys → decide (bl zs = bl ys) = true) := fun zs h => decide_eq_true h
          by_cases hl0 : ys.length = 0
          · have HG := Lib.hid (hp0 ((ys.length : Int) - 1) (M : Int) (by omega) (by omega))
            have hlb : ((ys.length : Int) == 0) = true := by simp [hl0]
            by_cases hm0 : M = 0
            · have HH := Lib.hid (hp0 (ys.length : Int) ((M : Int) - 1) (by omega) (by omega))
              have hmb : ((M : Int) == 0) = true := by simp [hm0]
              clear hM heach hp hp0 hl0 hm0
              go_wp2_with fail
              refine (putAll_any a cap ys _ (HR.out.below HBW.out (Nat.le_refl _)) (by omega) (Nat.le_trans HS3.out (by decide))).mono ?_
              rintro e w21 ⟨⟨P1, hP, rfl⟩, hb⟩
              have HB21 := Lib.hid (HBW.out.trans (hb.mono HBW.out.size))
              have hPz : P1.size ≤ 5000 := by rw [Lib.size_eq, hP]; exact HPL.out
              have HP21 := Lib.hid hP
              clear hP hb
              go_wp2_with fail
              refine (takeAll_any P1 (ys.length : Int) (M : Int) _ (by omega) (by omega) (by omega)).mono ?_
              rw [HP21.out, HF.out]
              rintro e w22 ⟨⟨A22, c22, zs22, hzs, hcl, hsr, rfl⟩, hb⟩
              dsimp only at hzs ⊢
              have HB22 := Lib.hid (HB21.out.trans (hb.mono HB21.out.size))
              have HZS := Lib.hid hzs
              have HSR22 := Lib.hid hsr
              have hzl : zs22.length ≤ 100 := by rw [← bl_len, hzs, bl_len]; omega
              clear hzs hcl hsr hb
              go_wp2_with fail
              refine (putAll_any a cap ys _ (HR.out.below HB22.out (Nat.le_refl _)) (by omega) (Nat.le_trans HS3.out (by decide))).mono ?_
              rintro e w23 ⟨⟨P2, hP, rfl⟩, hb⟩
              have HB23 := Lib.hid (HB22.out.trans (hb.mono HB22.out.size))
              have hPz : P2.size ≤ 5000 := by rw [Lib.size_eq, hP]; exact HPL.out
              have HP23 := Lib.hid hP
              have HSR23 := Lib.hid (HSR22.out.below hb (Nat.le_refl _))
              clear hP hb
              go_wp2_with fail
              refine (takeAll_any P2 ((ys.length : Int) - 1) (M : Int) _ (by omega) (by omega) (by omega)).mono ?_
              rw [HP23.out, HG.out]
              rintro e w24 ⟨⟨A24, c24, zs24, hzs, hcl, hsr, rfl⟩, hb⟩
              dsimp only at hzs ⊢
              have HB24 := Lib.hid (HB23.out.trans (hb.mono HB23.out.size))
              have HSR24 := Lib.hid (HSR23.out.below hb (Nat.le_refl _))
              clear hzs hcl hsr hb
              go_wp2_with fail
              refine (putAll_any a cap ys _ (HR.out.below HB24.out (Nat.le_refl _)) (by omega) (Nat.le_trans HS3.out (by decide))).mono ?_
              rintro e w25 ⟨⟨P3, hP, rfl⟩, hb⟩
              have HB25 := Lib.hid (HB24.out.trans (hb.mono HB24.out.size))
              have hPz : P3.size ≤ 5000 := by rw [Lib.size_eq, hP]; exact HPL.out
              have HP25 := Lib.hid hP
              have HSR25 := Lib.hid (HSR24.out.below hb (Nat.le_refl _))
              clear hP hb
              go_wp2_with fail
              refine (takeAll_any P3 (ys.length : Int) ((M : Int) - 1) _ (by omega) (by omega) (by omega)).mono ?_
              rw [HP25.out, HH.out]
              rintro e w26 ⟨⟨A26, c26, zs26, hzs, hcl, hsr, rfl⟩, hb⟩
              dsimp only at hzs ⊢
              have HB26 := Lib.hid (HB25.out.trans (hb.mono HB25.out.size))
              have HSR26 := Lib.hid (HSR25.out.below hb (Nat.le_refl _))
              clear hzs hcl hsr hb
              go_wp2_with fail
              refine (putAll_any a cap ys _ (HR.out.below HB26.out (Nat.le_refl _)) (by omega) (Nat.le_trans HS3.out (by decide))).mono ?_
              rintro e w27 ⟨⟨P4, hP, rfl⟩, hb⟩
              have HB27 := Lib.hid (HB26.out.trans (hb.mono HB26.out.size))
              have hPz : P4.size ≤ 5000 := by rw [Lib.size_eq, hP]; exact HPL.out
              have HP27 := Lib.hid hP
              have HSR27 := Lib.hid (HSR26.out.below hb (Nat.le_refl _))
              clear hP hb
              have hPx : (P4 ++ ⟨#[120]⟩).data.toList = putAll (bl ys) ++ [120] := by rw [app_data, HP27.out]
              have HPX := Lib.hid hPx
              have hPxz : (P4 ++ ⟨#[120]⟩).size ≤ 5001 := by
                have h3 := Lib.size_eq P4
                rw [Lib.size_eq, hPx, List.length_append, ← HP27.out, ← h3]
                simp; omega
              have HPXZ := Lib.hid hPxz
              clear hPx hPxz
              go_wp2_with fail
              obtain ⟨PX, hpx⟩ : ∃ PX, P4 ++ ⟨#[120]⟩ = PX := ⟨_, rfl⟩
              have HPX2 := HPX
              have hpxz := HPXZ.out
              rw [hpx] at HPX2 hpxz ⊢
              clear hpx
              refine (takeAll_any PX (ys.length : Int) (M : Int) _ (by omega) (by omega) (by omega)).mono ?_
              rw [HPX2.out, HI.out]
              rintro e w28 ⟨⟨A28, c28, zs28, hzs, hcl, hsr, rfl⟩, hb⟩
              dsimp only at hzs ⊢
              have HB28 := Lib.hid (HB27.out.trans (hb.mono HB27.out.size))
              have HSR28 := Lib.hid (HSR27.out.below hb (Nat.le_refl _))
              clear hzs hcl hsr hb
              go_wp2_with fail
              refine (same_any _ _ c22 cap zs22 ys _ HSR28.out (HR.out.below HB28.out (Nat.le_refl _)) (by omega)).mono ?_
              rw [HZE.out zs22 HZS.out]
              rintro e w29 ⟨rfl, hb⟩
              have HB29 := Lib.hid (HB28.out.trans (hb.mono HB28.out.size))
              clear hb
              go_wp2
              go_ret
              exact ⟨rfl, HB29.out⟩
            · exfalso
              obtain ⟨y, hy, _⟩ := maxl_is _ ys rfl (by omega)
              rw [List.eq_nil_of_length_eq_zero hl0] at hy
              cases hy
          · have HG := Lib.hid (all_many (ls := bl ys) (a := (ys.length : Int) - 1) (m := (M : Int)) (by rw [bl_len]; omega) (by rw [bl_len]; omega))
            have hlb : ((ys.length : Int) == 0) = false := by rw [beq_eq_false_iff_ne]; omega
            by_cases hm0 : M = 0
            · have HH := Lib.hid (hp0 (ys.length : Int) ((M : Int) - 1) (by omega) (by omega))
              have hmb : ((M : Int) == 0) = true := by simp [hm0]
              clear hM heach hp hp0 hl0 hm0
              go_wp2_with fail
              refine (putAll_any a cap ys _ (HR.out.below HBW.out (Nat.le_refl _)) (by omega) (Nat.le_trans HS3.out (by decide))).mono ?_
              rintro e w21 ⟨⟨P1, hP, rfl⟩, hb⟩
              have HB21 := Lib.hid (HBW.out.trans (hb.mono HBW.out.size))
              have hPz : P1.size ≤ 5000 := by rw [Lib.size_eq, hP]; exact HPL.out
              have HP21 := Lib.hid hP
              clear hP hb
              go_wp2_with fail
              refine (takeAll_any P1 (ys.length : Int) (M : Int) _ (by omega) (by omega) (by omega)).mono ?_
              rw [HP21.out, HF.out]
              rintro e w22 ⟨⟨A22, c22, zs22, hzs, hcl, hsr, rfl⟩, hb⟩
              dsimp only at hzs ⊢
              have HB22 := Lib.hid (HB21.out.trans (hb.mono HB21.out.size))
              have HZS := Lib.hid hzs
              have HSR22 := Lib.hid hsr
              have hzl : zs22.length ≤ 100 := by rw [← bl_len, hzs, bl_len]; omega
              clear hzs hcl hsr hb
              go_wp2_with fail
              refine (putAll_any a cap ys _ (HR.out.below HB22.out (Nat.le_refl _)) (by omega) (Nat.le_trans HS3.out (by decide))).mono ?_
              rintro e w23 ⟨⟨P2, hP, rfl⟩, hb⟩
              have HB23 := Lib.hid (HB22.out.trans (hb.mono HB22.out.size))
              have hPz : P2.size ≤ 5000 := by rw [Lib.size_eq, hP]; exact HPL.out
              have HP23 := Lib.hid hP
              have HSR23 := Lib.hid (HSR22.out.below hb (Nat.le_refl _))
              clear hP hb
              go_wp2_with fail
              refine (takeAll_any P2 ((ys.length : Int) - 1) (M : Int) _ (by omega) (by omega) (by omega)).mono ?_
              rw [HP23.out, HG.out]
              rintro e w24 ⟨⟨A24, c24, zs24, hzs, hcl, hsr, rfl⟩, hb⟩
              dsimp only at hzs ⊢
              have HB24 := Lib.hid (HB23.out.trans (hb.mono HB23.out.size))
              have HSR24 := Lib.hid (HSR23.out.below hb (Nat.le_refl _))
              clear hzs hcl hsr hb
              go_wp2_with fail
              refine (putAll_any a cap ys _ (HR.out.below HB24.out (Nat.le_refl _)) (by omega) (Nat.le_trans HS3.out (by decide))).mono ?_
              rintro e w25 ⟨⟨P3, hP, rfl⟩, hb⟩
              have HB25 := Lib.hid (HB24.out.trans (hb.mono HB24.out.size))
              have hPz : P3.size ≤ 5000 := by rw [Lib.size_eq, hP]; exact HPL.out
              have HP25 := Lib.hid hP
              have HSR25 := Lib.hid (HSR24.out.below hb (Nat.le_refl _))
              clear hP hb
              go_wp2_with fail
              refine (takeAll_any P3 (ys.length : Int) ((M : Int) - 1) _ (by omega) (by omega) (by omega)).mono ?_
              rw [HP25.out, HH.out]
              rintro e w26 ⟨⟨A26, c26, zs26, hzs, hcl, hsr, rfl⟩, hb⟩
              dsimp only at hzs ⊢
              have HB26 := Lib.hid (HB25.out.trans (hb.mono HB25.out.size))
              have HSR26 := Lib.hid (HSR25.out.below hb (Nat.le_refl _))
              clear hzs hcl hsr hb
              go_wp2_with fail
              refine (putAll_any a cap ys _ (HR.out.below HB26.out (Nat.le_refl _)) (by omega) (Nat.le_trans HS3.out (by decide))).mono ?_
              rintro e w27 ⟨⟨P4, hP, rfl⟩, hb⟩
              have HB27 := Lib.hid (HB26.out.trans (hb.mono HB26.out.size))
              have hPz : P4.size ≤ 5000 := by rw [Lib.size_eq, hP]; exact HPL.out
              have HP27 := Lib.hid hP
              have HSR27 := Lib.hid (HSR26.out.below hb (Nat.le_refl _))
              clear hP hb
              have hPx : (P4 ++ ⟨#[120]⟩).data.toList = putAll (bl ys) ++ [120] := by rw [app_data, HP27.out]
              have HPX := Lib.hid hPx
              have hPxz : (P4 ++ ⟨#[120]⟩).size ≤ 5001 := by
                have h3 := Lib.size_eq P4
                rw [Lib.size_eq, hPx, List.length_append, ← HP27.out, ← h3]
                simp; omega
              have HPXZ := Lib.hid hPxz
              clear hPx hPxz
              go_wp2_with fail
              obtain ⟨PX, hpx⟩ : ∃ PX, P4 ++ ⟨#[120]⟩ = PX := ⟨_, rfl⟩
              have HPX2 := HPX
              have hpxz := HPXZ.out
              rw [hpx] at HPX2 hpxz ⊢
              clear hpx
              refine (takeAll_any PX (ys.length : Int) (M : Int) _ (by omega) (by omega) (by omega)).mono ?_
              rw [HPX2.out, HI.out]
              rintro e w28 ⟨⟨A28, c28, zs28, hzs, hcl, hsr, rfl⟩, hb⟩
              dsimp only at hzs ⊢
              have HB28 := Lib.hid (HB27.out.trans (hb.mono HB27.out.size))
              have HSR28 := Lib.hid (HSR27.out.below hb (Nat.le_refl _))
              clear hzs hcl hsr hb
              go_wp2_with fail
              refine (same_any _ _ c22 cap zs22 ys _ HSR28.out (HR.out.below HB28.out (Nat.le_refl _)) (by omega)).mono ?_
              rw [HZE.out zs22 HZS.out]
              rintro e w29 ⟨rfl, hb⟩
              have HB29 := Lib.hid (HB28.out.trans (hb.mono HB28.out.size))
              clear hb
              go_wp2
              go_ret
              exact ⟨rfl, HB29.out⟩
            · have HH := Lib.hid (all_long (ls := bl ys) (a := (ys.length : Int)) (m := (M : Int) - 1) (by rw [bl_len]; omega) (by rw [bl_len]; omega) (fun t ht => (heach t ht).1) (by
                obtain ⟨y, hy, e⟩ := maxl_is _ ys rfl (by omega)
                refine ⟨y.data.toList, List.mem_map.2 ⟨y, hy, rfl⟩, ?_⟩
                have := Lib.size_eq y
                omega))
              have hmb : ((M : Int) == 0) = false := by rw [beq_eq_false_iff_ne]; omega
              clear hM heach hp hp0 hl0 hm0
              go_wp2_with fail
              refine (putAll_any a cap ys _ (HR.out.below HBW.out (Nat.le_refl _)) (by omega) (Nat.le_trans HS3.out (by decide))).mono ?_
              rintro e w21 ⟨⟨P1, hP, rfl⟩, hb⟩
              have HB21 := Lib.hid (HBW.out.trans (hb.mono HBW.out.size))
              have hPz : P1.size ≤ 5000 := by rw [Lib.size_eq, hP]; exact HPL.out
              have HP21 := Lib.hid hP
              clear hP hb
              go_wp2_with fail
              refine (takeAll_any P1 (ys.length : Int) (M : Int) _ (by omega) (by omega) (by omega)).mono ?_
              rw [HP21.out, HF.out]
              rintro e w22 ⟨⟨A22, c22, zs22, hzs, hcl, hsr, rfl⟩, hb⟩
              dsimp only at hzs ⊢
              have HB22 := Lib.hid (HB21.out.trans (hb.mono HB21.out.size))
              have HZS := Lib.hid hzs
              have HSR22 := Lib.hid hsr
              have hzl : zs22.length ≤ 100 := by rw [← bl_len, hzs, bl_len]; omega
              clear hzs hcl hsr hb
              go_wp2_with fail
              refine (putAll_any a cap ys _ (HR.out.below HB22.out (Nat.le_refl _)) (by omega) (Nat.le_trans HS3.out (by decide))).mono ?_
              rintro e w23 ⟨⟨P2, hP, rfl⟩, hb⟩
              have HB23 := Lib.hid (HB22.out.trans (hb.mono HB22.out.size))
              have hPz : P2.size ≤ 5000 := by rw [Lib.size_eq, hP]; exact HPL.out
              have HP23 := Lib.hid hP
              have HSR23 := Lib.hid (HSR22.out.below hb (Nat.le_refl _))
              clear hP hb
              go_wp2_with fail
              refine (takeAll_any P2 ((ys.length : Int) - 1) (M : Int) _ (by omega) (by omega) (by omega)).mono ?_
              rw [HP23.out, HG.out]
              rintro e w24 ⟨⟨A24, c24, zs24, hzs, hcl, hsr, rfl⟩, hb⟩
              dsimp only at hzs ⊢
              have HB24 := Lib.hid (HB23.out.trans (hb.mono HB23.out.size))
              have HSR24 := Lib.hid (HSR23.out.below hb (Nat.le_refl _))
              clear hzs hcl hsr hb
              go_wp2_with fail
              refine (putAll_any a cap ys _ (HR.out.below HB24.out (Nat.le_refl _)) (by omega) (Nat.le_trans HS3.out (by decide))).mono ?_
              rintro e w25 ⟨⟨P3, hP, rfl⟩, hb⟩
              have HB25 := Lib.hid (HB24.out.trans (hb.mono HB24.out.size))
              have hPz : P3.size ≤ 5000 := by rw [Lib.size_eq, hP]; exact HPL.out
              have HP25 := Lib.hid hP
              have HSR25 := Lib.hid (HSR24.out.below hb (Nat.le_refl _))
              clear hP hb
              go_wp2_with fail
              refine (takeAll_any P3 (ys.length : Int) ((M : Int) - 1) _ (by omega) (by omega) (by omega)).mono ?_
              rw [HP25.out, HH.out]
              rintro e w26 ⟨⟨A26, c26, zs26, hzs, hcl, hsr, rfl⟩, hb⟩
              dsimp only at hzs ⊢
              have HB26 := Lib.hid (HB25.out.trans (hb.mono HB25.out.size))
              have HSR26 := Lib.hid (HSR25.out.below hb (Nat.le_refl _))
              clear hzs hcl hsr hb
              go_wp2_with fail
              refine (putAll_any a cap ys _ (HR.out.below HB26.out (Nat.le_refl _)) (by omega) (Nat.le_trans HS3.out (by decide))).mono ?_
              rintro e w27 ⟨⟨P4, hP, rfl⟩, hb⟩
              have HB27 := Lib.hid (HB26.out.trans (hb.mono HB26.out.size))
              have hPz : P4.size ≤ 5000 := by rw [Lib.size_eq, hP]; exact HPL.out
              have HP27 := Lib.hid hP
              have HSR27 := Lib.hid (HSR26.out.below hb (Nat.le_refl _))
              clear hP hb
              have hPx : (P4 ++ ⟨#[120]⟩).data.toList = putAll (bl ys) ++ [120] := by rw [app_data, HP27.out]
              have HPX := Lib.hid hPx
              have hPxz : (P4 ++ ⟨#[120]⟩).size ≤ 5001 := by
                have h3 := Lib.size_eq P4
                rw [Lib.size_eq, hPx, List.length_append, ← HP27.out, ← h3]
                simp; omega
              have HPXZ := Lib.hid hPxz
              clear hPx hPxz
              go_wp2_with fail
              obtain ⟨PX, hpx⟩ : ∃ PX, P4 ++ ⟨#[120]⟩ = PX := ⟨_, rfl⟩
              have HPX2 := HPX
              have hpxz := HPXZ.out
              rw [hpx] at HPX2 hpxz ⊢
              clear hpx
              refine (takeAll_any PX (ys.length : Int) (M : Int) _ (by omega) (by omega) (by omega)).mono ?_
              rw [HPX2.out, HI.out]
              rintro e w28 ⟨⟨A28, c28, zs28, hzs, hcl, hsr, rfl⟩, hb⟩
              dsimp only at hzs ⊢
              have HB28 := Lib.hid (HB27.out.trans (hb.mono HB27.out.size))
              have HSR28 := Lib.hid (HSR27.out.below hb (Nat.le_refl _))
              clear hzs hcl hsr hb
              go_wp2_with fail
              refine (same_any _ _ c22 cap zs22 ys _ HSR28.out (HR.out.below HB28.out (Nat.le_refl _)) (by omega)).mono ?_
              rw [HZE.out zs22 HZS.out]
              rintro e w29 ⟨rfl, hb⟩
              have HB29 := Lib.hid (HB28.out.trans (hb.mono HB28.out.size))
              clear hb
              go_wp2
              go_ret
              exact ⟨rfl, HB29.out⟩
end Go.Proofs.Ytfjnelfaighdeaa.Wire
