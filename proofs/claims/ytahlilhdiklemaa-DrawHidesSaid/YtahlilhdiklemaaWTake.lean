/-
  CONTRACTS of wire.Take, takeUpTo, TakeText at this program. By an AI agent; no person has read it.
-/
import Derived.Test.YtahlilhdiklemaaWBase
namespace Go.Proofs.Ytahlilhdiklemaa.Wire
open Go.RowKit

set_option maxHeartbeats 2000000 in
set_option maxRecDepth 1000000 in
theorem take_any (s : ByteArray) (w : World) (hs : s.size ≤ 140737488355328) :
    Calls Try.prog 65 #[.string s] w fun e w' => Tk (tk s.data.toList) e ∧ ∃ k, w' = w.drewN k := by
  by_cases h0 : 0 < s.size
  · have he : s.toList.isEmpty = false := by
      rw [Lib.toList_data, take_hd h0]; rfl
    have hx0 : (0 : Int) < (s.size : Int) := by omega
    have hx1 : (1 : Int) ≤ (s.size : Int) := by omega
    have hsz : (s.extract 1 s.size).size = s.size - 1 := by rw [Lib.size_eq, extract_drop, List.length_drop, ← Lib.size_eq]
    have HZ := Lib.hid hsz
    obtain ⟨t, ht⟩ : ∃ t, (s.extract 1 s.size).data.toList = t := ⟨_, rfl⟩
    have hl : s.data.toList = s[0] :: t := by rw [take_hd h0, ht]
    have htl : t.length = s.size - 1 := by rw [← ht, ← Lib.size_eq, hsz]
    have HL := Lib.hid hl
    have HT := Lib.hid ht
    have HTL := Lib.hid htl
    clear hsz ht hl htl
    obtain ⟨b, hb⟩ : ∃ b : Nat, (s[0]'h0).toNat = b := ⟨_, rfl⟩
    have HB := Lib.hid hb
    have hb1 : (b : Int) < 256 := by have := u8_lt (s[0]'h0); omega
    go_enter Try.func65, Try.ntmps65
    go_wp2
    go_quiet (fail)
    go_wp2
    · rename_i hh
      go_ret3
      refine ⟨⟨⟨#[]⟩, ?_, ?_⟩, nq, rfl⟩ <;> rw [HL.out, tk_no HB.out (by have := HTL.out; omega)] <;> rfl
    · rename_i hh hlt hz
      go_ret3
      have hg : ((s.extract 1 s.size)[0]'(by rw [HZ.out]; omega)) = 0 := u8_zero.2 (by have := beq_iff_eq.1 hz; omega)
      refine ⟨⟨⟨#[]⟩, ?_, ?_⟩, nq, rfl⟩ <;> rw [HL.out, tk_no HB.out (.inr (.inr ⟨by omega, by rw [← HT.out, head_get (by rw [HZ.out]; omega), hg]⟩))] <;> rfl
    rotate_left 2
    · rename_i hh
      go_ret3
      refine ⟨⟨⟨#[]⟩, ?_, ?_⟩, nq, rfl⟩ <;> rw [HL.out, tk_no HB.out (.inl (by omega))] <;> rfl
    all_goals
      have h3 : b = 0 ∨ t.head? ≠ some 0 := by
        first
        | exact .inl (by omega)
        | (have hlt : 0 < s.size - 1 := by assumption
           have hz : ((((s.extract 1 s.size)[0]'(by rw [HZ.out]; exact hlt)).toNat : Int) == 0) = false := by assumption
           refine .inr fun h => ?_
           rw [← HT.out, head_get (by rw [HZ.out]; exact hlt)] at h
           have h := Option.some.inj h
           have := u8_zero.1 h
           rw [this] at hz
           simp at hz)
      have H3 := Lib.hid h3
      clear h3
      go_loop [6, 31] (fun n i => ∃ k : Nat, k ≤ b ∧ i = .int .i64 k ∧ n = .int .u64 (val (t.take k))) (fun _ i => b - (intOf i).toNat)
      case atStart => exact ⟨0, Nat.zero_le _, rfl, rfl⟩
      case round =>
        obtain ⟨k, hk, rfl, rfl⟩ := hrel
        by_cases hlt : k < b
        · have hkl : k < (s.extract 1 s.size).size := by rw [HZ.out]; omega
          have hkt : k < t.length := by rw [HTL.out]; omega
          have hks : (k : Int) < ((s.size - 1 : Nat) : Int) := by omega
          have hv := val_take hkt
          have hvl : val (t.take k) < 72057594037927936 := val_lt7 (by rw [List.length_take]; omega)
          have hgt : (t[k]'hkt) = ((s.extract 1 s.size)[k]'hkl) := by
            have h := HT.out
            subst h
            rfl
          rw [hgt] at hv
          obtain ⟨c, hc⟩ : ∃ c : Nat, ((s.extract 1 s.size)[k]'hkl).toNat = c := ⟨_, rfl⟩
          have hc1 : c < 256 := by have := u8_lt ((s.extract 1 s.size)[k]'hkl); omega
          obtain ⟨v, hvv⟩ : ∃ v : Nat, val (t.take k) = v := ⟨_, rfl⟩
          rw [hvv] at hvl
          rw [hvv, hc] at hv
          have HV := Lib.hid hv
          have HVV := Lib.hid hvv
          rw [hvv]
          clear hv hvv hgt
          have hor := or_add v c hc1 hvl
          have hwr : IntKind.u64.wrap ((v : Int) * 256) = (v : Int) * 256 := by rw [IntKind.wrap_u64]; omega
          go_wp2
          go_round
          case rel => exact ⟨k + 1, by omega, by go_num, by rw [HV.out]; go_num⟩
          case measure => simp [intOf]; omega
        · obtain rfl : k = b := by omega
          have hk0 : (0 : Int) ≤ (k : Int) := by omega
          have hk1 : (k : Int) ≤ ((s.size - 1 : Nat) : Int) := by omega
          go_wp2
          go_quiet (fail)
          go_wp2
          go_ret3
          rw [HL.out, tk_ok HB.out (by omega) (by rw [HTL.out]; omega) H3.out]
          have hd : ((s.extract 1 s.size).extract k (s.size - 1)).data.toList = t.drop k := by
            rw [← HT.out]
            have h := extract_drop (s.extract 1 s.size) k
            rw [HZ.out] at h
            exact h
          exact ⟨⟨_, hd, rfl⟩, _, World.drewN_drewN _ _ _⟩
  · have he : s.toList.isEmpty = true := by
      rw [Lib.toList_data]; rw [Lib.size_eq] at h0
      cases h : s.data.toList with
      | nil => rfl
      | cons a t => rw [h] at h0; simp at h0
    have hn : s.data.toList = [] := by rw [Lib.toList_data] at he; simpa using he
    have HN := Lib.hid hn
    clear hn
    go_enter Try.func65, Try.ntmps65
    go_wp2
    go_ret3
    exact ⟨⟨⟨#[]⟩, by rw [HN.out]; rfl, by rw [HN.out]; rfl⟩, 0, rfl⟩
set_option maxHeartbeats 2000000 in
set_option maxRecDepth 1000000 in
theorem upTo_any (s : ByteArray) (m : Int) (w : World) (hs : s.size ≤ 140737488355328) (hm : -9223372036854775808 ≤ m ∧ m ≤ 9223372036854775807) :
    Calls Try.prog 72 #[.string s, .int .i64 m] w fun e w' => Tk (upTo s.data.toList m) e ∧ ∃ k, w' = w.drewN k := by
  obtain ⟨hm1, hm2⟩ := hm
  rcases take_tk (l := s.data.toList) with ⟨h1, h2⟩ | ⟨n, r, h1, h2, hn⟩
  · have H1 := Lib.hid (upTo_none (m := m) h1)
    have H2 := Lib.hid h2
    clear h1 h2
    go_enter Try.func72, Try.ntmps72
    go_wp2_with (go_at_call 65; refine (take_any _ _ hs).mono ?_; rw [H2.out]; rintro e w' ⟨⟨R, hR, rfl⟩, k, rfl⟩; clear hR; dsimp only)
    go_ret3
    rw [H1.out]
    exact ⟨⟨⟨#[]⟩, rfl, rfl⟩, _, rfl⟩
  · have HN := Lib.hid hn
    clear hn
    have HM : Hid (max m 0 = if m < 0 then 0 else m) := by
      show max m 0 = _
      split <;> omega
    by_cases hb : max m 0 < (n : Int)
    · have H1 := Lib.hid (upTo_big h1 hb)
      have H2 := Lib.hid h2
      clear h1 h2
      by_cases hm0 : m < 0
      · have hb' : (0 : Int) < n := by omega
        clear hb
        go_enter Try.func72, Try.ntmps72
        go_wp2_with (go_at_call 65; refine (take_any _ _ hs).mono ?_; rw [H2.out]; rintro e w' ⟨⟨R, hR, rfl⟩, k, rfl⟩; clear hR; dsimp only)
        go_ret3
        rw [H1.out]
        exact ⟨⟨⟨#[]⟩, rfl, rfl⟩, _, rfl⟩
      · have hb' : m < (n : Int) := by omega
        clear hb
        go_enter Try.func72, Try.ntmps72
        go_wp2_with (go_at_call 65; refine (take_any _ _ hs).mono ?_; rw [H2.out]; rintro e w' ⟨⟨R, hR, rfl⟩, k, rfl⟩; clear hR; dsimp only)
        go_ret3
        rw [H1.out]
        exact ⟨⟨⟨#[]⟩, rfl, rfl⟩, _, rfl⟩
    · have H1 := Lib.hid (upTo_ok h1 hb)
      have H2 := Lib.hid h2
      clear h1 h2
      by_cases hm0 : m < 0
      · have hb' : (n : Int) ≤ 0 := by omega
        clear hb
        go_enter Try.func72, Try.ntmps72
        go_wp2_with (go_at_call 65; refine (take_any _ _ hs).mono ?_; rw [H2.out]; rintro e w' ⟨⟨R, hR, rfl⟩, k, rfl⟩; have HR := Lib.hid hR; clear hR; dsimp only)
        go_ret3
        rw [H1.out]
        exact ⟨⟨R, HR.out, rfl⟩, _, rfl⟩
      · have hb' : (n : Int) ≤ m := by omega
        clear hb
        go_enter Try.func72, Try.ntmps72
        go_wp2_with (go_at_call 65; refine (take_any _ _ hs).mono ?_; rw [H2.out]; rintro e w' ⟨⟨R, hR, rfl⟩, k, rfl⟩; have HR := Lib.hid hR; clear hR; dsimp only)
        go_ret3
        rw [H1.out]
        exact ⟨⟨R, HR.out, rfl⟩, _, rfl⟩
set_option maxHeartbeats 2000000 in
set_option maxRecDepth 1000000 in
theorem text_any (s : ByteArray) (m : Int) (w : World) (hs : s.size ≤ 140737488355328) (hm : -9223372036854775808 ≤ m ∧ m ≤ 9223372036854775807) :
    Calls Try.prog 66 #[.string s, .int .i64 m] w fun e w' => Tx (text s.data.toList m) e ∧ ∃ k, w' = w.drewN k := by
  obtain ⟨n, r, f, hu⟩ : ∃ n r f, upTo s.data.toList m = (n, r, f) := ⟨_, _, _, rfl⟩
  have hf := upTo_err hu
  have HU := Lib.hid hu
  rcases text_upTo hu with ⟨h0, h1⟩ | ⟨rfl, h1⟩
  · have H1 := Lib.hid h1
    have hne : (f != 0) = true := by simpa using h0
    clear h1 hu hf h0
    go_enter Try.func66, Try.ntmps66
    go_wp2_with (go_at_call 72; refine (upTo_any _ _ _ hs hm).mono ?_; rw [HU.out]; rintro e w' ⟨⟨R, hR, rfl⟩, k, rfl⟩; clear hR; dsimp only)
    go_ret3
    rw [H1.out]
    exact ⟨⟨⟨#[]⟩, ⟨#[]⟩, rfl, rfl, rfl⟩, _, rfl⟩
  · have hrl := upTo_len hu
    rw [← Lib.size_eq] at hrl
    clear hu hf
    by_cases hlt : r.length < n
    · rw [if_pos hlt] at h1
      have H1 := Lib.hid h1
      clear h1
      go_enter Try.func66, Try.ntmps66
      go_wp2_with (go_at_call 72; refine (upTo_any _ _ _ hs hm).mono ?_; rw [HU.out]; rintro e w' ⟨⟨R, hR, rfl⟩, k, rfl⟩; have hz : R.size = r.length := (by rw [Lib.size_eq, hR]); have h5 : ((R.size : Nat) : Int) < (n : Int) := (by omega); have h6 : (R.size : Int) ≤ 140737488355328 := (by omega); clear hR hz; dsimp only)
      go_ret3
      rw [H1.out]
      exact ⟨⟨⟨#[]⟩, ⟨#[]⟩, rfl, rfl, rfl⟩, _, rfl⟩
    · rw [if_neg hlt] at h1
      have H1 := Lib.hid h1
      clear h1
      go_enter Try.func66, Try.ntmps66
      go_wp2_with (go_at_call 72; refine (upTo_any _ _ _ hs hm).mono ?_; rw [HU.out]; rintro e w' ⟨⟨R, hR, rfl⟩, k, rfl⟩; have hz : R.size = r.length := (by rw [Lib.size_eq, hR]); have h5 : (n : Int) ≤ ((R.size : Nat) : Int) := (by omega); have h6 : (R.size : Int) ≤ 140737488355328 := (by omega); have HR := Lib.hid hR; clear hR hz; dsimp only)
      have h7 : (0 : Int) ≤ (n : Int) := by omega
      go_quiet (fail)
      go_wp2
      go_ret3
      rw [H1.out]
      refine ⟨⟨_, _, ?_, ?_, rfl⟩, _, World.drewN_drewN _ _ _⟩
      · rw [extract_take, HR.out]
      · rw [extract_drop, HR.out]
theorem take_bel (s : ByteArray) (w : World) (hs : s.size ≤ 140737488355328) :
    Calls Try.prog 65 #[.string s] w fun e w' => Tk (tk s.data.toList) e ∧ Below w.heap.size w w' :=
  (take_any s w hs).mono fun _ _ ⟨h, k, hk⟩ => ⟨h, hk ▸ bdrew w k⟩
theorem text_bel (s : ByteArray) (m : Int) (w : World) (hs : s.size ≤ 140737488355328) (hm : -9223372036854775808 ≤ m ∧ m ≤ 9223372036854775807) :
    Calls Try.prog 66 #[.string s, .int .i64 m] w fun e w' => Tx (text s.data.toList m) e ∧ Below w.heap.size w w' :=
  (text_any s m w hs hm).mono fun _ _ ⟨h, k, hk⟩ => ⟨h, hk ▸ bdrew w k⟩
end Go.Proofs.Ytahlilhdiklemaa.Wire
