/-
  THE WALK of WireRow. By an AI agent; no person has read it.
-/
import Derived.Test.YtfjnelfaighdeaaWOne
namespace Go.Proofs.Ytfjnelfaighdeaa.Wire
open Go.RowKit

theorem bl_drop {ys : List ByteArray} {k : Nat} {y : ByteArray} (hk : k < ys.length) (hy : ys.getD k ByteArray.empty = y) : bl (ys.drop k) = y.data.toList :: bl (ys.drop (k + 1)) := by
  have e : ys[k] = y := by rw [← hy]; simp [List.getD, hk]
  rw [List.drop_eq_getElem_cons hk, e]; rfl
theorem all_put {ls : List (List UInt8)} {a m : Int} {q : List UInt8} (hn : (ls.length : Int) ≤ max a 0) (hn2 : ls.length < 18446744073709551616) (hm : ∀ t ∈ ls, t.length < 18446744073709551616 ∧ (t.length : Int) ≤ max m 0) :
    all (putAll ls ++ q) a m = if q = [] then (ls, 0) else ([], 2) := by
  have ht : take (putAll ls ++ q) = some (ls.length, ls.flatMap putText ++ q) := by
    rw [putAll, List.append_assoc, take_put hn2]
  have hx := texts_put ls q m [] hm
  rw [List.nil_append] at hx
  by_cases hq : q = []
  · rw [if_pos hq]
    subst hq
    exact all_ok ht hn hx
  · rw [if_neg hq]
    exact all_left ht hn hx hq

set_option maxHeartbeats 8000000 in
set_option maxRecDepth 1000000 in
theorem row_walk (a : Option Addr) (cap : Nat) (ys : List ByteArray) (rest : ByteArray) (w : World) (hr : SReads w a ys) (hn : ys.length ≤ 9223372036854775807) (hz : ∀ y ∈ ys, y.size ≤ 9223372036854775807) (hrest : rest.size ≤ 140737488355328) :
    Calls Try.prog 8 #[.slice a ys.length cap, .string rest] w fun e w' => e = .returned (.bool true) ∧ Below w.heap.size w w' := by
  have HR := Lib.hid hr
  have HZ := Lib.hid hz
  clear hr hz
  have hsm : ∀ w1, Below w.heap.size w w1 → Calls Try.prog 18 #[.slice a ys.length cap] w1 fun e w' => e = .returned (.bool (smallB ys)) ∧ w1 = w' := fun w1 hb => small_any a cap ys w1 (HR.out.below hb (Nat.le_refl _)) hn HZ.out
  have HSM := Lib.hid hsm
  clear hsm
  cases hsb : smallB ys with
  | false =>
    have HSB := Lib.hid hsb
    clear hsb
    go_enter Try.func8, Try.ntmps8
    go_wp2_with (first
      | (go_at_call 10; refine (shown_any _).mono ?_; rintro e w1 ⟨rfl, hb1⟩; have HB1 := Lib.hid hb1; clear hb1)
      | (go_at_call 18; refine (HSM.out _ HB1.out).mono ?_; rw [HSB.out]; rintro e w' ⟨rfl, rfl⟩))
    go_ret
    exact ⟨rfl, HB1.out⟩
  | true =>
    obtain ⟨hs1, hs2, hs3⟩ := smallB_true hsb
    have HSB := Lib.hid hsb
    have HS2 := Lib.hid hs2
    have HS3 := Lib.hid hs3
    clear hsb hs2 hs3
    by_cases hbig : (1000 : Int) < (rest.size : Int)
    · go_enter Try.func8, Try.ntmps8
      go_wp2_with (first
        | (go_at_call 10; refine (shown_any _).mono ?_; rintro e w1 ⟨rfl, hb1⟩; have HB1 := Lib.hid hb1; clear hb1)
        | (go_at_call 18; refine (HSM.out _ HB1.out).mono ?_; rw [HSB.out]; rintro e w' ⟨rfl, rfl⟩))
      go_ret
      exact ⟨rfl, HB1.out⟩
    · have hwr : IntKind.u64.wrap (ys.length : Int) = (ys.length : Int) := by rw [IntKind.wrap_u64]; omega
      have HPL : Hid ((putAll (bl ys)).length ≤ 5000) := by
        show _ ≤ _
        have h1 := flat_len (bl ys) (fun l hl => by have := bl_each l hl; have := HS3.out; unfold sumz at this; omega)
        have h2 := (put_le (n := (bl ys).length) (by rw [bl_len]; omega)).2
        have h3 := HS3.out
        unfold sumz at h3
        have h4 := bl_len ys
        rw [putAll, List.length_append]; omega
      go_enter Try.func8, Try.ntmps8
      go_wp2_with (first
        | (go_at_call 10; refine (shown_any _).mono ?_; rintro e w1 ⟨rfl, hb1⟩; have HB1 := Lib.hid hb1; clear hb1)
        | (go_at_call 18; refine (HSM.out _ HB1.out).mono ?_; rw [HSB.out]; rintro e w' ⟨rfl, rfl⟩))
      refine (putAll_any a cap ys _ (HR.out.below HB1.out (Nat.le_refl _)) (by omega) (by have := HS3.out; unfold sumz at this; omega)).mono ?_
      rintro e w2 ⟨⟨P, hP, rfl⟩, hb2⟩
      have HB2 := Lib.hid (HB1.out.trans (hb2.mono HB1.out.size))
      have hPz : P.size ≤ 5000 := by rw [Lib.size_eq, hP]; exact HPL.out
      have hPR : (P ++ rest).data.toList = putAll (bl ys) ++ rest.data.toList := by rw [app_data, hP]
      have hPRz : (P ++ rest).size ≤ 6000 := by
        have h1 := HPL.out
        have h2 := Lib.size_eq rest
        rw [Lib.size_eq, hPR, List.length_append, ← h2]; omega
      have HPR := Lib.hid hPR
      clear hP hb2 hPR
      go_wp2_with fail
      obtain ⟨PR, hpr⟩ : ∃ PR, P ++ rest = PR := ⟨_, rfl⟩
      rw [hpr] at HPR hPRz ⊢
      clear hpr
      have htk : tk PR.data.toList = (ys.length, (bl ys).flatMap putText ++ rest.data.toList, 0) := by
        refine tk_some ?_
        rw [HPR.out, putAll, List.append_assoc, bl_len]
        exact take_put (by omega) _
      have HTK := Lib.hid htk
      clear htk
      refine (take_bel _ _ (by omega)).mono ?_
      rw [HTK.out]
      rintro e w3 ⟨⟨R, hR, rfl⟩, hb3⟩
      dsimp only at hR ⊢
      have HB3 := Lib.hid (HB2.out.trans (hb3.mono HB2.out.size))
      have HRR := Lib.hid hR
      clear hR hb3
      go_wp2
      have H0 : Hid (R.data.toList = (bl (ys.drop 0)).flatMap putText ++ rest.data.toList) := by show _ = _; rw [List.drop_zero]; exact HRR.out
      have hRz : R.size ≤ 6000 := by
        have h1 := HPL.out
        have h2 := Lib.size_eq rest
        rw [putAll, List.length_append] at h1
        rw [Lib.size_eq, HRR.out, List.length_append, ← h2]; omega
      go_loopw [9, 11] (fun t i wr => ∃ (k : Nat) (Q : ByteArray), k ≤ ys.length ∧ Q.size ≤ 6000 ∧ i = .int .i64 k ∧ t = .string Q ∧ Hid (Q.data.toList = (bl (ys.drop k)).flatMap putText ++ rest.data.toList) ∧ Hid (Below w.heap.size w wr)) (fun _ i _ => ys.length - (intOf i).toNat)
      case atStart => exact ⟨0, R, Nat.zero_le _, hRz, rfl, rfl, H0, HB3⟩
      case round =>
        clear H0 hRz
        obtain ⟨k, Q, hk, hQz, rfl, rfl, HQ, HBW⟩ := hrel
        by_cases hlt : k < ys.length
        · obtain ⟨b, off, rfl, hblt, hcell⟩ := HR.out k hlt
          obtain ⟨y, hy⟩ : ∃ y, ys.getD k ByteArray.empty = y := ⟨_, rfl⟩
          rw [hy] at hcell
          have hy2 := HS2.out y (getD_mem hlt hy)
          have hdr := bl_drop hlt hy
          have htx : text Q.data.toList (y.size : Int) = (y.data.toList, (bl (ys.drop (k + 1))).flatMap putText ++ rest.data.toList, 0) := by
            have h0 : y.data.toList.length = y.size := (Lib.size_eq y).symm
            rw [HQ.out, hdr, List.flatMap_cons, List.append_assoc]
            exact text_put (by omega) _ _ (by omega)
          have HTX := Lib.hid htx
          rw [← HBW.out.cell (p := ⟨b, off + k, none⟩) hblt] at hcell
          have hcellw := hcell
          clear hy hdr htx hcellw
          go_wp2_with fail
          refine (text_bel _ (y.size : Int) _ (by omega) (by omega)).mono ?_
          rw [HTX.out]
          rintro e w5 ⟨⟨T, U, hT, hU, rfl⟩, hb5⟩
          dsimp only at hT hU ⊢
          have heq : (T.toList == y.toList) = true := eq_bool hT
          have HBW5 := Lib.hid (HBW.out.trans (hb5.mono HBW.out.size))
          rw [← (hb5.mono HBW.out.size).cell (p := ⟨b, off + k, none⟩) hblt] at hcell
          have hUz : U.size ≤ 6000 := by
            have h1 := text_len HTX.out rfl
            have h2 := Lib.size_eq Q
            have h3 := Lib.size_eq U
            rw [hU] at h3
            omega
          have HU := Lib.hid hU
          clear hT hU hb5
          go_wp2
          go_roundw
          case rel => exact ⟨k + 1, U, by omega, hUz, by go_num, rfl, HU, HBW5⟩
          case measure => simp [intOf]; omega
        · obtain rfl : k = ys.length := by omega
          have hq : Q.data.toList = rest.data.toList := by
            rw [HQ.out, List.drop_length]; rfl
          have heq := eq_bool hq
          clear hq
          have hall := all_put (ls := bl ys) (a := (ys.length : Int)) (m := 4000) (q := rest.data.toList) (by rw [bl_len]; omega) (by rw [bl_len]; omega) (fun t ht => by
            obtain ⟨y, hy, rfl⟩ := List.mem_map.1 ht
            have h1 := HS2.out y hy
            rw [Lib.size_eq] at h1
            omega)
          rw [← HPR.out] at hall
          by_cases hrq : rest.data.toList = []
          · rw [if_pos hrq] at hall
            have hre := empty_str hrq
            have HALL := Lib.hid hall
            clear hrq hall
            go_wp2_with fail
            refine (takeAll_any PR (ys.length : Int) 4000 _ (by omega) (by omega) (by omega)).mono ?_
            rw [HALL.out]
            rintro e w6 ⟨⟨A1, c1, zs, hzs, _, hsr, rfl⟩, hb6⟩
            dsimp only at hzs ⊢
            have HB6 := Lib.hid (HBW.out.trans (hb6.mono HBW.out.size))
            clear hzs hsr hb6
            go_wp2
            go_ret
            exact ⟨rfl, HB6.out⟩
          · rw [if_neg hrq] at hall
            have hre := nonempty_str hrq
            have HALL := Lib.hid hall
            clear hrq hall
            go_wp2_with fail
            refine (takeAll_any PR (ys.length : Int) 4000 _ (by omega) (by omega) (by omega)).mono ?_
            rw [HALL.out]
            rintro e w6 ⟨⟨A1, c1, zs, hzs, _, hsr, rfl⟩, hb6⟩
            dsimp only at hzs ⊢
            have HB6 := Lib.hid (HBW.out.trans (hb6.mono HBW.out.size))
            clear hzs hsr hb6
            go_wp2
            go_ret
            exact ⟨rfl, HB6.out⟩
end Go.Proofs.Ytfjnelfaighdeaa.Wire
