/-
  CONTRACTS of the document's right, Derives (letterlockref4). By an AI agent; no person has read it.
-/
import Derived.Test.YtcplagomhfdoaaaCHad
namespace Go.Proofs.Ytcplagomhfdoaaa.Clo
open Go.RowKit Wire Term

/-- What right answers. -/
def RtE (held : List (List UInt8)) (f : Int) : Prop :=
  ((∃ h ∈ held, right h = false) ∧ f = 1) ∨ ((∀ h ∈ held, right h = true) ∧ 200 < held.length ∧ f = 10) ∨ ((∀ h ∈ held, right h = true) ∧ held.length ≤ 200 ∧ f = 0)
set_option maxHeartbeats 4000000 in
set_option maxRecDepth 1000000 in
theorem right4_any (a : Option Addr) (c : Nat) (xs : List ByteArray) (w : World) (hr : SReads w a xs) (hn : xs.length ≤ 140737488355328) (hz : ∀ y ∈ xs, y.size ≤ 140737488355328) :
    Calls Try.prog 37 #[.slice a xs.length c] w fun e w' => (∃ f, RtE (bl xs) f ∧ e = .returned (.int .i64 f)) ∧ Below w.heap.size w w' := by
  have HR := Lib.hid hr
  have HZ := Lib.hid hz
  clear hr hz
  go_enter Try.func37, Try.ntmps37
  go_wp2_with fail
  go_loopw [3] (fun i wr => ∃ k : Nat, k ≤ xs.length ∧ i = .int .i64 k ∧ Hid (∀ y ∈ xs.take k, right y.data.toList = true) ∧ Hid (Below w.heap.size w wr)) (fun i _ => xs.length - (intOf i).toNat)
  case atStart => exact ⟨0, Nat.zero_le _, rfl, by show ∀ y ∈ xs.take 0, _; simp, Below.refl _ _⟩
  case round =>
    obtain ⟨k, hk, rfl, HA, HW⟩ := hrel
    by_cases hlt : k < xs.length
    · obtain ⟨b, off, rfl, hblt, hcell⟩ := HR.out k hlt
      obtain ⟨y, hy⟩ : ∃ y, xs.getD k ByteArray.empty = y := ⟨_, rfl⟩
      rw [hy] at hcell
      rw [← HW.out.cell (p := ⟨b, off + k, none⟩) hblt] at hcell
      have HY := Lib.hid hy
      have HYS : Hid (y.size ≤ 140737488355328) := HZ.out y (getD_mem hlt hy)
      clear hy
      cases hry : right y.data.toList with
      | true =>
        have HRY := Lib.hid hry
        clear hry
        go_wp2_with (go_at_call 40; refine (right_any y _ HYS.out).mono ?_; rw [HRY.out]; rintro e w1 ⟨rfl, hb1⟩; have HB1 := Lib.hid (Bel.call HW.out hb1); clear hb1)
        go_roundw
        case rel => exact ⟨k + 1, by omega, by go_num, take_mem_step hlt HY.out HA.out HRY.out, HB1⟩
        case measure => simp [intOf]; omega
      | false =>
        have HRY := Lib.hid hry
        clear hry
        go_wp2_with (go_at_call 40; refine (right_any y _ HYS.out).mono ?_; rw [HRY.out]; rintro e w1 ⟨rfl, hb1⟩; have HB1 := Lib.hid (Bel.call HW.out hb1); clear hb1)
        go_ret
        exact ⟨⟨1, .inl ⟨⟨_, List.mem_map.2 ⟨y, getD_mem hlt HY.out, rfl⟩, HRY.out⟩, rfl⟩, rfl⟩, HB1.out⟩
    · obtain rfl : k = xs.length := by omega
      have hall := HA.out
      rw [List.take_length] at hall
      have HALL : Hid (∀ z ∈ bl xs, right z = true) := fun z hz => by
        obtain ⟨y, hy, rfl⟩ := List.mem_map.1 hz
        exact hall y hy
      clear hall HA
      by_cases h2 : (200 : Int) < (xs.length : Int)
      · go_wp2_with fail
        go_ret
        exact ⟨⟨10, .inr (.inl ⟨HALL.out, by rw [bl_len]; omega, rfl⟩), rfl⟩, HW.out⟩
      · go_wp2_with fail
        go_ret
        exact ⟨⟨0, .inr (.inr ⟨HALL.out, by rw [bl_len]; omega, rfl⟩), rfl⟩, HW.out⟩
theorem sum_right {xs : List ByteArray} (h : ∀ z ∈ bl xs, right z = true) (hn : (bl xs).length ≤ 200) : (bl xs).flatten.length ≤ 1000000 := by
  have : ∀ l : List (List UInt8), (∀ z ∈ l, right z = true) → l.flatten.length ≤ 4000 * l.length := fun l hl => by
    induction l with
    | nil => simp
    | cons z r ih =>
      have h1 := ih fun y hy => hl y (List.mem_cons_of_mem _ hy)
      have h2 := (right_len (hl z (by simp))).2
      rw [List.flatten_cons, List.length_append, List.length_cons]
      omega
  have := this _ h
  omega
theorem rt_no {held : List (List UInt8)} {t : List UInt8} {f : Int} (h : RtE held f) (hf : f ≠ 0) : Dv held t false f := by
  rcases h with ⟨h, rfl⟩ | ⟨h, h2, rfl⟩ | ⟨_, _, rfl⟩
  · exact .inl ⟨h, rfl, rfl⟩
  · exact .inr (.inl ⟨h, h2, rfl, rfl⟩)
  · exact absurd rfl hf
theorem rt_ok {held : List (List UInt8)} (h : RtE held 0) : (∀ h ∈ held, right h = true) ∧ held.length ≤ 200 := by
  rcases h with ⟨_, h⟩ | ⟨_, _, h⟩ | ⟨h, h2, _⟩
  · exact absurd h (by decide)
  · exact absurd h (by decide)
  · exact ⟨h, h2⟩
set_option maxHeartbeats 4000000 in
set_option maxRecDepth 1000000 in
theorem derives4_any (a : Option Addr) (c : Nat) (xs : List ByteArray) (t : ByteArray) (w : World) (hr : SReads w a xs) (hn : xs.length ≤ 140737488355328) (hz : ∀ y ∈ xs, y.size ≤ 140737488355328) (ht : t.size ≤ 140737488355328) :
    Calls Try.prog 18 #[.slice a xs.length c, .string t] w fun e w' => DvE (bl xs) t.data.toList e ∧ Below w.heap.size w w' := by
  have HR := Lib.hid hr
  have HZ := Lib.hid hz
  clear hr hz
  go_enter Try.func18, Try.ntmps18
  go_wp2_with fail
  refine (right4_any a c xs _ HR.out hn HZ.out).mono ?_
  rintro e w1 ⟨⟨f, hf, rfl⟩, hb1⟩
  have HF := Lib.hid hf
  have HB1 := Lib.hid hb1
  clear hf hb1
  by_cases h0 : f = 0
  · subst h0
    obtain ⟨hrt, hn2⟩ := rt_ok HF.out
    have HRT := Lib.hid hrt
    have HN2 := Lib.hid hn2
    have HSUM := Lib.hid (sum_right hrt hn2)
    have hn3 : xs.length ≤ 200 := by rwa [bl_len] at hn2
    clear hrt hn2
    cases hry : right t.data.toList with
    | false =>
      have HRY := Lib.hid hry
      clear hry
      go_wp2_with (go_at_call 40; refine (right_any t _ (by omega)).mono ?_; rw [HRY.out]; rintro e w2 ⟨rfl, hb2⟩; have HB2 := Lib.hid (Bel.call HB1.out hb2); clear hb2)
      go_ret2
      exact ⟨⟨false, 1, .inr (.inr (.inl ⟨HRT.out, HN2.out, HRY.out, rfl, rfl⟩)), rfl⟩, HB2.out⟩
    | true =>
      have HRY := Lib.hid hry
      clear hry
      go_wp2_with (go_at_call 40; refine (right_any t _ (by omega)).mono ?_; rw [HRY.out]; rintro e w2 ⟨rfl, hb2⟩; have HB2 := Lib.hid (Bel.call HB1.out hb2); clear hb2)
      refine (had_any a c xs _ (HR.out.below HB2.out (Nat.le_refl _)) HRT.out (by omega) HSUM.out).mono ?_
      rintro e w3 ⟨⟨v, ys, ho, hnd, hiff, rfl⟩, hb3⟩
      obtain ⟨A, cc, rfl⟩ := own_value ho
      have HO := Lib.hid (sreads_own ho).1
      have HI : Hid ((fun z => z ∈ bl ys) = Had (bl xs)) := funext fun z => propext (hiff z)
      have hyl : ys.length ≤ 1000000 := by
        have h1 := had_many HRT.out hnd fun z hz => (hiff z).1 hz
        rw [bl_len] at h1
        exact Nat.le_trans h1 HSUM.out
      have HB3 := Lib.hid (Bel.call HB2.out hb3)
      clear ho hnd hiff hb3
      go_wp2_with fail
      refine (together_any (t.size + 1) A cc ys t _ (by omega) HO.out (by omega) HRY.out).mono ?_
      rw [show TgE ys t.data.toList = fun e => ∃ b, (b = true ↔ Tog (Had (bl xs)) t.data.toList) ∧ e = .returned (.bool b) by unfold TgE; rw [HI.out]]
      rintro e w4 ⟨⟨b, hb, rfl⟩, hb4⟩
      have HBV := Lib.hid hb
      have HB4 := Lib.hid (Bel.call HB3.out hb4)
      clear hb hb4
      go_wp2
      go_ret2
      exact ⟨⟨b, 0, .inr (.inr (.inr ⟨HRT.out, HN2.out, HRY.out, rfl, HBV.out⟩)), rfl⟩, HB4.out⟩
  · have hfb : (f == 0) = false := by simpa using h0
    have hfc : (f != 0) = true := by simpa using h0
    have HF0 := Lib.hid h0
    clear h0
    go_wp2_with fail
    go_ret2
    exact ⟨⟨false, f, rt_no HF.out HF0.out, rfl⟩, HB1.out⟩
end Go.Proofs.Ytcplagomhfdoaaa.Clo
