/-
  CONTRACTS of the document's has, together (letterlockref4). By an AI agent; no person has read it.
-/
import Derived.Test.YtcplagomhfdoaaaCSpec
import Derived.Test.YtcplagomhfdoaaaTTell
namespace Go.Proofs.Ytcplagomhfdoaaa.Clo
open Go.RowKit Wire Term

theorem parts_right {t : List UInt8} (h : right t = true) : parts t = (pts t, 0) := by unfold pts parts; rw [if_pos h]
set_option maxHeartbeats 2000000 in
set_option maxRecDepth 1000000 in
theorem has_any (a : Option Addr) (c : Nat) (xs : List ByteArray) (t : ByteArray) (w : World) (hr : SReads w a xs) (hn : xs.length ≤ 140737488355328) :
    Calls Try.prog 57 #[.slice a xs.length c, .string t] w fun e w' => e = .returned (.bool (decide (t.data.toList ∈ bl xs))) ∧ w = w' := by
  have HR := Lib.hid hr
  clear hr
  go_enter Try.func57, Try.ntmps57
  go_wp2_with fail
  go_loopw [5] (fun i wr => ∃ k : Nat, k ≤ xs.length ∧ i = .int .i64 k ∧ wr = w ∧ Hid (t.data.toList ∉ bl (xs.take k))) (fun i _ => xs.length - (intOf i).toNat)
  case atStart => exact ⟨0, Nat.zero_le _, rfl, rfl, by show _ ∉ bl (xs.take 0); simp [bl]⟩
  case round =>
    obtain ⟨k, hk, rfl, rfl, HA⟩ := hrel
    by_cases hlt : k < xs.length
    · obtain ⟨b, off, rfl, hblt, hcell⟩ := HR.out k hlt
      obtain ⟨y, hy⟩ : ∃ y, xs.getD k ByteArray.empty = y := ⟨_, rfl⟩
      rw [hy] at hcell
      have HY := Lib.hid hy
      clear hy
      by_cases he : y.data.toList = t.data.toList
      · have hb := eq_bool he
        have HE := Lib.hid he
        clear he
        go_wp2
        go_ret
        refine ⟨ret_bool ?_, rfl⟩
        exact (decide_eq_true (by rw [← HE.out]; exact List.mem_map.2 ⟨y, getD_mem hlt HY.out, rfl⟩)).symm
      · have hb := ne_bool he
        have HE := Lib.hid he
        clear he
        go_wp2
        go_roundw
        case rel =>
          refine ⟨k + 1, by omega, by go_num, by trivial, ?_⟩
          show t.data.toList ∉ bl (xs.take (k + 1))
          have e : xs[k] = y := by rw [← HY.out]; simp [List.getD, hlt]
          rw [List.take_succ_eq_append_getElem hlt, e, show bl (xs.take k ++ [y]) = bl (xs.take k) ++ [y.data.toList] by simp [bl]]
          intro h
          rcases List.mem_append.1 h with h | h
          · exact HA.out h
          · exact HE.out (List.mem_singleton.1 h).symm
        case measure => simp [intOf]; omega
    · obtain rfl : k = xs.length := by omega
      have h := HA.out
      rw [List.take_length] at h
      have HD := Lib.hid h
      clear h
      go_wp2
      go_ret
      exact ⟨ret_bool (decide_eq_false HD.out).symm, rfl⟩

/-- What together answers. -/
def TgE (xs : List ByteArray) (t : List UInt8) (e : Ending) : Prop := ∃ b, (b = true ↔ Tog (fun x => x ∈ bl xs) t) ∧ e = .returned (.bool b)
theorem tgE_of {xs : List ByteArray} {t : List UInt8} {b : Bool} (h : b = true ↔ Tog (fun x => x ∈ bl xs) t) : TgE xs t (.returned (.bool b)) := ⟨b, h, rfl⟩
theorem tgE_yes {xs : List ByteArray} {t : List UInt8} (h : Tog (fun x => x ∈ bl xs) t) : TgE xs t (.returned (.bool true)) := ⟨true, by simp [h], rfl⟩
theorem tgE_no {xs : List ByteArray} {t : List UInt8} (h : ¬ Tog (fun x => x ∈ bl xs) t) : TgE xs t (.returned (.bool false)) := ⟨false, by simp [h], rfl⟩
theorem head_byte {t : ByteArray} (h : right t.data.toList = true) : ∃ h0 : 0 < t.size, t.data.toList.headD 0 = t[0]'h0 := by
  refine ⟨(right_sz h).1, ?_⟩
  have hh := head_get (right_sz h).1
  cases hl : t.data.toList with
  | nil => rw [hl] at hh; cases hh
  | cons x y => rw [hl] at hh; rw [← Option.some.inj hh]; rfl
theorem byte_eq {x y : UInt8} (h : x = y) : ((x.toNat : Int) == (y.toNat : Int)) = true := by rw [h]; exact beq_self_eq_true _
theorem byte_ne {x y : UInt8} (h : x ≠ y) : ((x.toNat : Int) == (y.toNat : Int)) = false := by
  rw [beq_eq_false_iff_ne]; intro h2; exact h (UInt8.toNat_inj.1 (by omega))
set_option maxHeartbeats 4000000 in
set_option maxRecDepth 1000000 in
theorem together_any : ∀ (n : Nat) (a : Option Addr) (c : Nat) (xs : List ByteArray) (t : ByteArray) (w : World), t.size < n → SReads w a xs → xs.length ≤ 140737488355328 → right t.data.toList = true →
    Calls Try.prog 41 #[.slice a xs.length c, .string t] w fun e w' => TgE xs t.data.toList e ∧ Below w.heap.size w w'
  | 0, _, _, _, _, _, h, _, _, _ => absurd h (Nat.not_lt_zero _)
  | n + 1, a, c, xs, t, w, hn, hr, hx, ht => by
    have IH : Hid (∀ (u : ByteArray) (w' : World), u.size < n → SReads w' a xs → right u.data.toList = true → Calls Try.prog 41 #[.slice a xs.length c, .string u] w' fun e w'' => TgE xs u.data.toList e ∧ Below w'.heap.size w' w'') :=
      fun u w' h1 h2 h3 => together_any n a c xs u w' h1 h2 hx h3
    have HR := Lib.hid hr
    have HT := Lib.hid ht
    have hz := (right_sz ht).2
    obtain ⟨h0, hhead⟩ := head_byte ht
    have hz0 : (0 : Int) < (t.size : Int) := by omega
    clear hr ht
    by_cases hm : t.data.toList ∈ bl xs
    · have HM := Lib.hid hm
      clear hm hhead
      go_enter Try.func41, Try.ntmps41
      go_wp2_with (go_at_call 57; refine (has_any a c xs t _ HR.out hx).mono ?_; rw [show decide (t.data.toList ∈ bl xs) = true from decide_eq_true HM.out]; rintro e w1 ⟨rfl, rfl⟩)
      go_ret
      exact ⟨tgE_yes (tog_of HM.out), Below.refl _ _⟩
    have HM := Lib.hid hm
    clear hm
    by_cases h116 : t.data.toList.headD 0 = 116
    · have c1 := byte_eq (hhead.symm.trans h116)
      have c2 : ((t[0].toNat : Int) == 116) = true := c1
      have HH := Lib.hid h116
      clear h116 hhead c1
      go_enter Try.func41, Try.ntmps41
      go_wp2_with (go_at_call 57; refine (has_any a c xs t _ HR.out hx).mono ?_; rw [show decide (t.data.toList ∈ bl xs) = false from decide_eq_false HM.out]; rintro e w1 ⟨rfl, rfl⟩)
      go_ret
      exact ⟨tgE_yes (tog_iff.2 (.inr (.inl HH.out))), Below.refl _ _⟩
    have c2 : ((t[0].toNat : Int) == 116) = false := byte_ne (fun e => h116 (hhead.trans e))
    by_cases h97 : t.data.toList.headD 0 = 97
    · have c1 := byte_eq (hhead.symm.trans h97)
      have c3 : ((t[0].toNat : Int) == 97) = true := c1
      have HH := Lib.hid h97
      have HH2 := Lib.hid h116
      clear h116 hhead c1 h97
      go_enter Try.func41, Try.ntmps41
      go_wp2_with (go_at_call 57; refine (has_any a c xs t _ HR.out hx).mono ?_; rw [show decide (t.data.toList ∈ bl xs) = false from decide_eq_false HM.out]; rintro e w1 ⟨rfl, rfl⟩)
      go_ret
      refine ⟨tgE_no fun h => ?_, Below.refl _ _⟩
      rcases tog_iff.1 h with h | h | ⟨h, _⟩
      · exact HM.out h
      · exact HH2.out h
      · exact h HH.out
    have c3 : ((t[0].toNat : Int) == 97) = false := byte_ne (fun e => h97 (hhead.trans e))
    have HH := Lib.hid h97
    have HH2 := Lib.hid h116
    clear h116 hhead h97
    go_enter Try.func41, Try.ntmps41
    go_wp2_with (go_at_call 57; refine (has_any a c xs t _ HR.out hx).mono ?_; rw [show decide (t.data.toList ∈ bl xs) = false from decide_eq_false HM.out]; rintro e w1 ⟨rfl, rfl⟩)
    refine (parts_any t _ (by omega)).mono ?_
    rw [parts_right HT.out]
    rintro e w2 ⟨⟨P, pc, ps, hps, hpc, hpr, rfl⟩, hb2⟩
    dsimp only at hps ⊢
    have HPS := Lib.hid hps
    have HPR := Lib.hid hpr
    have HB2 := Lib.hid hb2
    have hpl : ps.length ≤ 4000 := by
      have h1 : ps.length = (pts t.data.toList).length := by rw [← hps, bl_len]
      have h2 : (pts t.data.toList).length ≤ 2 := pts_le _
      omega
    clear hps hpr hb2
    go_wp2_with fail
    have BB := Lib.hid (Below.refl w2.heap.size w2)
    go_loopw [7] (fun i wr => ∃ k : Nat, k ≤ ps.length ∧ i = .int .i64 k ∧ Hid (∀ p ∈ ps.take k, Tog (fun x => x ∈ bl xs) p.data.toList) ∧ Hid (Below w2.heap.size w2 wr)) (fun i _ => ps.length - (intOf i).toNat)
    case atStart => exact ⟨0, Nat.zero_le _, rfl, by show ∀ p ∈ ps.take 0, _; simp, BB⟩
    case round =>
      obtain ⟨k, hk, rfl, HA, HW⟩ := hrel
      by_cases hlt : k < ps.length
      · obtain ⟨b, off, rfl, hblt, hcell⟩ := HPR.out k hlt
        obtain ⟨y, hy⟩ : ∃ y, ps.getD k ByteArray.empty = y := ⟨_, rfl⟩
        rw [hy] at hcell
        rw [← HW.out.cell (p := ⟨b, off + k, none⟩) hblt] at hcell
        have hyp : y.data.toList ∈ pts t.data.toList := by rw [← HPS.out]; exact List.mem_map.2 ⟨y, getD_mem hlt hy, rfl⟩
        obtain ⟨hyr, hyl⟩ := pts_right hyp
        rw [← Lib.size_eq, ← Lib.size_eq] at hyl
        have HY := Lib.hid hy
        have HYP := Lib.hid hyp
        have HYR := Lib.hid hyr
        clear hy hyp hyr
        have HCALL := Lib.hid (IH.out y wr (by omega) (HR.out.below (Bel.call HB2.out HW.out) (Nat.le_refl _)) HYR.out)
        go_wp2_with fail
        refine HCALL.out.mono ?_
        rintro e w5 ⟨⟨b5, hb5, rfl⟩, hbel5⟩
        have HB5 := Lib.hid (Bel.call HW.out hbel5)
        have HI5 := Lib.hid hb5
        clear hbel5 hb5 HCALL
        cases b5 with
        | true =>
          go_wp2
          go_roundw
          case rel => exact ⟨k + 1, by omega, by go_num, take_mem_step (p := fun p => Tog (fun x => x ∈ bl xs) p.data.toList) hlt HY.out HA.out (HI5.out.1 (by trivial)), HB5⟩
          case measure => simp [intOf]; omega
        | false =>
          go_wp2
          go_ret
          refine ⟨tgE_no fun h => ?_, Bel.call HB2.out HB5.out⟩
          rcases tog_iff.1 h with h | h | ⟨_, h⟩
          · exact HM.out h
          · exact HH2.out h
          · exact absurd (HI5.out.2 (h _ HYP.out)) (by decide)
      · obtain rfl : k = ps.length := by omega
        have hall := HA.out
        rw [List.take_length] at hall
        have HALL := Lib.hid hall
        clear hall
        go_wp2
        go_ret
        refine ⟨tgE_yes (tog_iff.2 (.inr (.inr ⟨HH.out, fun p hp => ?_⟩))), Bel.call HB2.out HW.out⟩
        rw [← HPS.out] at hp
        obtain ⟨q, hq, rfl⟩ := List.mem_map.1 hp
        exact HALL.out q hq
end Go.Proofs.Ytcplagomhfdoaaa.Clo
