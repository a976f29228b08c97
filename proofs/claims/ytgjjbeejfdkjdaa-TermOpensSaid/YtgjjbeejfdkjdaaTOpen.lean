/-
  CONTRACTS of the document's opens, Open, Unbox, Verify (letterlockref3) at this program. By an AI agent; no person has read it.
-/
import Derived.Test.YtgjjbeejfdkjdaaTTell
namespace Go.Proofs.Ytgjjbeejfdkjdaa.Term
open Go.RowKit Wire

theorem u8_ne {b c : UInt8} (h : b ≠ c) : ((b.toNat : Int) != (c.toNat : Int)) = true := by
  rw [bne_iff_ne]; intro he; exact h (UInt8.toNat_inj.1 (by omega))
theorem u8_eq {b c : UInt8} (h : b = c) : ((b.toNat : Int) != (c.toNat : Int)) = false := by rw [h]; simp
theorem cuts_len : ∀ (k : Nat) (l : List UInt8), (cuts k l).length = k
  | 0, _ => rfl
  | k + 1, l => by simp only [cuts, List.length_cons, cuts_len k]

set_option maxHeartbeats 2000000 in
set_option maxRecDepth 1000000 in
theorem opens_any (k : UInt8) (key c : ByteArray) (w : World) (hr : right c.data.toList = true) (ha : arity k = some 2) :
    Calls Try.prog 64 #[.int .u8 (k.toNat : Int), .string key, .string c] w fun e w' => Sr (opens k key.data.toList c.data.toList) e ∧ Below w.heap.size w w' := by
  obtain ⟨h0, b, t, hh, hz⟩ := right_head hr
  have hb := hh.first
  have hz1 : (0 : Int) < (c.size : Int) := by omega
  by_cases hk : b = k
  · have c1 := u8_eq hk
    have hp : parts c.data.toList = (cuts 2 t, 0) := by
      unfold parts; rw [if_pos hr, hh.all]; simp [hk, ha]
    obtain ⟨p0, p1, hcu⟩ : ∃ p0 p1, cuts 2 t = [p0, p1] := ⟨_, _, rfl⟩
    rw [hcu] at hp
    have HP := Lib.hid hp
    by_cases he : p0 = key.data.toList
    · have hm : opens k key.data.toList c.data.toList = (p1, 0) := by
        unfold opens; rw [hp, hh.all]; simp [hk, he]
      have HE := Lib.hid he
      rw [hm]
      clear hr hh hk hp hcu he hm ha
      go_enter Try.func64, Try.ntmps64
      go_wp2_with fail
      refine (parts_any c _ (by omega)).mono ?_
      rw [HP.out]
      rintro e w1 ⟨⟨A, cp, ys, hys, hcl, hsr, rfl⟩, hb1⟩
      dsimp only at hys ⊢
      have HB1 := Lib.hid hb1
      obtain ⟨y0, y1, rfl⟩ : ∃ y0 y1, ys = [y0, y1] := by
        have h2 := congrArg List.length hys
        rw [bl_len] at h2
        match ys, h2 with
        | [y0, y1], _ => exact ⟨y0, y1, rfl⟩
      obtain ⟨hy0, hy1⟩ : y0.data.toList = p0 ∧ y1.data.toList = p1 := by
        simp only [bl, List.map_cons, List.map_nil, List.cons.injEq, and_true] at hys
        exact hys
      obtain ⟨bk, off, rfl, hbk, hc0⟩ := hsr 0 (by simp)
      obtain ⟨bk', off', e1, _, hc1⟩ := hsr 1 (by simp)
      injection e1 with e1
      injection e1 with e2 e3
      subst e2 e3
      have hc0 : w1.cell? ⟨bk, off, none⟩ = some (.string y0) := hc0
      have hc1 : w1.cell? ⟨bk, off + 1, none⟩ = some (.string y1) := hc1
      clear hys hsr hb1
      have heq : (y0.toList == key.toList) = true := eq_bool (hy0.trans HE.out)
      have HY1 := Lib.hid hy1
      clear hy0 hy1
      go_wp2
      go_ret2
      exact ⟨⟨y1, HY1.out, rfl⟩, HB1.out⟩
    · have hm : opens k key.data.toList c.data.toList = ([], 6) := by
        unfold opens; rw [hp, hh.all]; simp [hk, he]
      have HE := Lib.hid he
      rw [hm]
      clear hr hh hk hp hcu he hm ha
      go_enter Try.func64, Try.ntmps64
      go_wp2_with fail
      refine (parts_any c _ (by omega)).mono ?_
      rw [HP.out]
      rintro e w1 ⟨⟨A, cp, ys, hys, hcl, hsr, rfl⟩, hb1⟩
      dsimp only at hys ⊢
      have HB1 := Lib.hid hb1
      obtain ⟨y0, y1, rfl⟩ : ∃ y0 y1, ys = [y0, y1] := by
        have h2 := congrArg List.length hys
        rw [bl_len] at h2
        match ys, h2 with
        | [y0, y1], _ => exact ⟨y0, y1, rfl⟩
      obtain ⟨hy0, hy1⟩ : y0.data.toList = p0 ∧ y1.data.toList = p1 := by
        simp only [bl, List.map_cons, List.map_nil, List.cons.injEq, and_true] at hys
        exact hys
      obtain ⟨bk, off, rfl, hbk, hc0⟩ := hsr 0 (by simp)
      obtain ⟨bk', off', e1, _, hc1⟩ := hsr 1 (by simp)
      injection e1 with e1
      injection e1 with e2 e3
      subst e2 e3
      have hc0 : w1.cell? ⟨bk, off, none⟩ = some (.string y0) := hc0
      have hc1 : w1.cell? ⟨bk, off + 1, none⟩ = some (.string y1) := hc1
      clear hys hsr hb1
      have heq : (y0.toList == key.toList) = false := ne_bool (by rw [hy0]; exact HE.out)
      clear hy0 hy1
      go_wp2
      go_ret2
      exact ⟨sr_nil _, HB1.out⟩
  · have c1 := u8_ne hk
    have hm : opens k key.data.toList c.data.toList = ([], 2) := by unfold opens; rw [hh.all]; simp [hk]
    rw [hm]
    clear hr hh hk hm ha
    go_enter Try.func64, Try.ntmps64
    go_wp2_with fail
    go_ret2
    exact ⟨sr_nil _, Below.refl _ _⟩

set_option maxHeartbeats 2000000 in
set_option maxRecDepth 1000000 in
theorem open_any (key c : ByteArray) (w : World) (hs : key.size ≤ 140737488355328) (hs2 : c.size ≤ 140737488355328) :
    Calls Try.prog 48 #[.string key, .string c] w fun e w' => Sr (open' key.data.toList c.data.toList) e ∧ Below w.heap.size w w' := by
  cases hr : right key.data.toList with
  | true =>
    have HR := Lib.hid hr
    cases hq : right c.data.toList with
    | true =>
      have HQ := Lib.hid hq
      have hm : open' key.data.toList c.data.toList = opens 115 key.data.toList c.data.toList := by unfold open'; rw [if_pos ⟨hr, hq⟩]
      have HC : Hid (∀ w, Calls Try.prog 64 #[.int .u8 115, .string key, .string c] w fun e w' => Sr (opens 115 key.data.toList c.data.toList) e ∧ Below w.heap.size w w') := fun w => opens_any 115 key c w hq rfl
      obtain ⟨x, f, hx⟩ : ∃ x f, opens 115 key.data.toList c.data.toList = (x, f) := ⟨_, _, rfl⟩
      rw [hm]
      rw [hx] at HC ⊢
      clear hr hq hm hx
      go_enter Try.func48, Try.ntmps48
      go_wp2_with (first
        | (go_at_call 64; refine (HC.out _).mono ?_; rintro e w3 ⟨⟨T, hT, rfl⟩, hb3⟩; have HB3 := Lib.hid (HB2.out.trans (hb3.mono HB2.out.size)); have HT := Lib.hid hT; clear hb3 hT; dsimp only)
        | (go_at_call 31; with_reducible refine (right_any c _ hs2).mono ?_; rw [HQ.out]; rintro e w2 ⟨rfl, hb2⟩; have HB2 := Lib.hid (HB1.out.trans (hb2.mono HB1.out.size)); clear hb2)
        | (go_at_call 31; with_reducible refine (right_any key _ hs).mono ?_; rw [HR.out]; rintro e w1 ⟨rfl, hb1⟩; have HB1 := Lib.hid hb1; clear hb1))
      go_ret2
      exact ⟨⟨T, HT.out, rfl⟩, HB3.out⟩
    | false =>
      have HQ := Lib.hid hq
      have hm : open' key.data.toList c.data.toList = ([], 1) := by unfold open'; rw [if_neg (by rw [hq]; simp)]
      rw [hm]
      clear hr hq hm
      go_enter Try.func48, Try.ntmps48
      go_wp2_with (first
        | (go_at_call 31; with_reducible refine (right_any c _ hs2).mono ?_; rw [HQ.out]; rintro e w2 ⟨rfl, hb2⟩; have HB2 := Lib.hid (HB1.out.trans (hb2.mono HB1.out.size)); clear hb2)
        | (go_at_call 31; with_reducible refine (right_any key _ hs).mono ?_; rw [HR.out]; rintro e w1 ⟨rfl, hb1⟩; have HB1 := Lib.hid hb1; clear hb1))
      go_ret2
      exact ⟨sr_nil _, HB2.out⟩
  | false =>
    have HR := Lib.hid hr
    have hm : open' key.data.toList c.data.toList = ([], 1) := by unfold open'; rw [if_neg (by rw [hr]; simp)]
    rw [hm]
    clear hr hm
    go_enter Try.func48, Try.ntmps48
    go_wp2_with (go_at_call 31; refine (right_any key _ hs).mono ?_; rw [HR.out]; rintro e w1 ⟨rfl, hb1⟩; have HB1 := Lib.hid hb1; clear hb1)
    go_ret2
    exact ⟨sr_nil _, HB1.out⟩

set_option maxHeartbeats 2000000 in
set_option maxRecDepth 1000000 in
theorem unbox_any (key c : ByteArray) (w : World) (hs : key.size ≤ 140737488355328) (hs2 : c.size ≤ 140737488355328) :
    Calls Try.prog 49 #[.string key, .string c] w fun e w' => Sr (unbox key.data.toList c.data.toList) e ∧ Below w.heap.size w w' := by
  cases hr : right key.data.toList with
  | true =>
    have HR := Lib.hid hr
    cases hq : right c.data.toList with
    | true =>
      have HQ := Lib.hid hq
      obtain ⟨U, hU⟩ : ∃ U, (ByteArray.mk #[117]) ++ key = U := ⟨_, rfl⟩
      have hUd : U.data.toList = 117 :: key.data.toList := by rw [← hU, app_data]; rfl
      have hkz := (right_sz hr).2
      have hm : unbox key.data.toList c.data.toList = opens 98 U.data.toList c.data.toList := by unfold unbox; rw [if_pos ⟨hr, hq⟩, hUd]
      have HC : Hid (∀ w, Calls Try.prog 64 #[.int .u8 98, .string U, .string c] w fun e w' => Sr (opens 98 U.data.toList c.data.toList) e ∧ Below w.heap.size w w') := fun w => opens_any 98 U c w hq rfl
      obtain ⟨x, f, hx⟩ : ∃ x f, opens 98 U.data.toList c.data.toList = (x, f) := ⟨_, _, rfl⟩
      rw [hm]
      rw [hx] at HC ⊢
      clear hr hq hm hx hUd
      go_enter Try.func49, Try.ntmps49
      go_wp2_with (first
        | (go_at_call 64; refine (HC.out _).mono ?_; rintro e w3 ⟨⟨T, hT, rfl⟩, hb3⟩; have HB3 := Lib.hid (HB2.out.trans (hb3.mono HB2.out.size)); have HT := Lib.hid hT; clear hb3 hT; dsimp only)
        | (go_at_call 31; with_reducible refine (right_any c _ hs2).mono ?_; rw [HQ.out]; rintro e w2 ⟨rfl, hb2⟩; have HB2 := Lib.hid (HB1.out.trans (hb2.mono HB1.out.size)); clear hb2)
        | (go_at_call 31; with_reducible refine (right_any key _ hs).mono ?_; rw [HR.out]; rintro e w1 ⟨rfl, hb1⟩; have HB1 := Lib.hid hb1; clear hb1))
      go_ret2
      exact ⟨⟨T, HT.out, rfl⟩, HB3.out⟩
    | false =>
      have HQ := Lib.hid hq
      have hm : unbox key.data.toList c.data.toList = ([], 1) := by unfold unbox; rw [if_neg (by rw [hq]; simp)]
      rw [hm]
      clear hr hq hm
      go_enter Try.func49, Try.ntmps49
      go_wp2_with (first
        | (go_at_call 31; with_reducible refine (right_any c _ hs2).mono ?_; rw [HQ.out]; rintro e w2 ⟨rfl, hb2⟩; have HB2 := Lib.hid (HB1.out.trans (hb2.mono HB1.out.size)); clear hb2)
        | (go_at_call 31; with_reducible refine (right_any key _ hs).mono ?_; rw [HR.out]; rintro e w1 ⟨rfl, hb1⟩; have HB1 := Lib.hid hb1; clear hb1))
      go_ret2
      exact ⟨sr_nil _, HB2.out⟩
  | false =>
    have HR := Lib.hid hr
    have hm : unbox key.data.toList c.data.toList = ([], 1) := by unfold unbox; rw [if_neg (by rw [hr]; simp)]
    rw [hm]
    clear hr hm
    go_enter Try.func49, Try.ntmps49
    go_wp2_with (go_at_call 31; refine (right_any key _ hs).mono ?_; rw [HR.out]; rintro e w1 ⟨rfl, hb1⟩; have HB1 := Lib.hid hb1; clear hb1)
    go_ret2
    exact ⟨sr_nil _, HB1.out⟩

set_option maxHeartbeats 4000000 in
set_option maxRecDepth 1000000 in
theorem verify_any (p a s : ByteArray) (w : World) (hs : p.size ≤ 140737488355328) (hs2 : a.size ≤ 140737488355328) (hs3 : s.size ≤ 140737488355328) :
    Calls Try.prog 45 #[.string p, .string a, .string s] w fun e w' => e = .returned (.int .i64 (verify p.data.toList a.data.toList s.data.toList)) ∧ Below w.heap.size w w' := by
  cases hr : right p.data.toList with
  | false =>
    have HR := Lib.hid hr
    have hm : verify p.data.toList a.data.toList s.data.toList = 1 := by unfold verify; rw [if_neg (by rw [hr]; simp)]
    rw [hm]
    clear hr hm
    go_enter Try.func45, Try.ntmps45
    go_wp2_with (go_at_call 31; refine (right_any p _ hs).mono ?_; rw [HR.out]; rintro e w1 ⟨rfl, hb1⟩; have HB1 := Lib.hid hb1; clear hb1)
    go_ret
    exact ⟨rfl, HB1.out⟩
  | true =>
    have HR := Lib.hid hr
    cases hq : right a.data.toList with
    | false =>
      have HQ := Lib.hid hq
      have hm : verify p.data.toList a.data.toList s.data.toList = 1 := by unfold verify; rw [if_neg (by rw [hq]; simp)]
      rw [hm]
      clear hr hq hm
      go_enter Try.func45, Try.ntmps45
      go_wp2_with (first
        | (go_at_call 31; with_reducible refine (right_any a _ hs2).mono ?_; rw [HQ.out]; rintro e w2 ⟨rfl, hb2⟩; have HB2 := Lib.hid (HB1.out.trans (hb2.mono HB1.out.size)); clear hb2)
        | (go_at_call 31; with_reducible refine (right_any p _ hs).mono ?_; rw [HR.out]; rintro e w1 ⟨rfl, hb1⟩; have HB1 := Lib.hid hb1; clear hb1))
      go_ret
      exact ⟨rfl, HB2.out⟩
    | true =>
      have HQ := Lib.hid hq
      cases ht : right s.data.toList with
      | false =>
        have HS := Lib.hid ht
        have hm : verify p.data.toList a.data.toList s.data.toList = 1 := by unfold verify; rw [if_neg (by rw [ht]; simp)]
        rw [hm]
        clear hr hq ht hm
        go_enter Try.func45, Try.ntmps45
        go_wp2_with (first
          | (go_at_call 31; with_reducible refine (right_any s _ hs3).mono ?_; rw [HS.out]; rintro e w3 ⟨rfl, hb3⟩; have HB3 := Lib.hid (HB2.out.trans (hb3.mono HB2.out.size)); clear hb3)
          | (go_at_call 31; with_reducible refine (right_any a _ hs2).mono ?_; rw [HQ.out]; rintro e w2 ⟨rfl, hb2⟩; have HB2 := Lib.hid (HB1.out.trans (hb2.mono HB1.out.size)); clear hb2)
          | (go_at_call 31; with_reducible refine (right_any p _ hs).mono ?_; rw [HR.out]; rintro e w1 ⟨rfl, hb1⟩; have HB1 := Lib.hid hb1; clear hb1))
        go_ret
        exact ⟨rfl, HB3.out⟩
      | true =>
        have HS := Lib.hid ht
        obtain ⟨h0, b, t, hh, hz⟩ := right_head hr
        have haz := (right_sz hq).2
        have hb := hh.first
        have hz1 : (0 : Int) < (p.size : Int) := by omega
        have hz2 : (1 : Int) ≤ (p.size : Int) := by omega
        by_cases hu : b = 117
        · have c1 : ((b.toNat : Int) != 117) = false := by rw [hu]; rfl
          obtain ⟨G, hG⟩ : ∃ G, (ByteArray.mk #[103]) ++ p.extract 1 p.size = G := ⟨_, rfl⟩
          have hGd : G.data.toList = 103 :: t := by rw [← hG, app_data, hh.rest]; rfl
          have hGz : G.size ≤ 4001 := by rw [Lib.size_eq, hGd, List.length_cons]; have := hh.len; omega
          obtain ⟨K, hK⟩ : ∃ K, G ++ a = K := ⟨_, rfl⟩
          have hKd : K.data.toList = 103 :: (t ++ a.data.toList) := by rw [← hK, app_data, hGd]; rfl
          have hez : (p.extract 1 p.size).size ≤ 4000 := by
            have h1 := hh.len
            rw [Lib.size_eq, hh.rest]; omega
          by_cases hsk : s.data.toList = K.data.toList
          · have hm : verify p.data.toList a.data.toList s.data.toList = 0 := by unfold verify; rw [if_pos ⟨hr, hq, ht⟩, hh.all, hsk, hKd]; simp [hu]
            have heq := eq_bool hsk
            rw [hm]
            clear hr hq ht hm hh hu hGd hKd hsk
            go_enter Try.func45, Try.ntmps45
            go_wp2_with (first
              | (go_at_call 31; with_reducible refine (right_any s _ hs3).mono ?_; rw [HS.out]; rintro e w3 ⟨rfl, hb3⟩; have HB3 := Lib.hid (HB2.out.trans (hb3.mono HB2.out.size)); clear hb3)
              | (go_at_call 31; with_reducible refine (right_any a _ hs2).mono ?_; rw [HQ.out]; rintro e w2 ⟨rfl, hb2⟩; have HB2 := Lib.hid (HB1.out.trans (hb2.mono HB1.out.size)); clear hb2)
              | (go_at_call 31; with_reducible refine (right_any p _ hs).mono ?_; rw [HR.out]; rintro e w1 ⟨rfl, hb1⟩; have HB1 := Lib.hid hb1; clear hb1))
            go_ret
            exact ⟨rfl, HB3.out⟩
          · have hm : verify p.data.toList a.data.toList s.data.toList = 7 := by unfold verify; rw [if_pos ⟨hr, hq, ht⟩, hh.all, if_neg]; rintro ⟨_, h⟩; exact hsk (h.trans hKd.symm)
            have heq := ne_bool hsk
            rw [hm]
            clear hr hq ht hm hh hu hGd hKd hsk
            go_enter Try.func45, Try.ntmps45
            go_wp2_with (first
              | (go_at_call 31; with_reducible refine (right_any s _ hs3).mono ?_; rw [HS.out]; rintro e w3 ⟨rfl, hb3⟩; have HB3 := Lib.hid (HB2.out.trans (hb3.mono HB2.out.size)); clear hb3)
              | (go_at_call 31; with_reducible refine (right_any a _ hs2).mono ?_; rw [HQ.out]; rintro e w2 ⟨rfl, hb2⟩; have HB2 := Lib.hid (HB1.out.trans (hb2.mono HB1.out.size)); clear hb2)
              | (go_at_call 31; with_reducible refine (right_any p _ hs).mono ?_; rw [HR.out]; rintro e w1 ⟨rfl, hb1⟩; have HB1 := Lib.hid hb1; clear hb1))
            go_ret
            exact ⟨rfl, HB3.out⟩
        · have c1 : ((b.toNat : Int) != 117) = true := u8_ne (c := 117) hu
          have hm : verify p.data.toList a.data.toList s.data.toList = 7 := by unfold verify; rw [if_pos ⟨hr, hq, ht⟩, hh.all, if_neg]; rintro ⟨h, _⟩; exact hu h
          rw [hm]
          clear hr hq ht hm hh hu
          go_enter Try.func45, Try.ntmps45
          go_wp2_with (first
            | (go_at_call 31; with_reducible refine (right_any s _ hs3).mono ?_; rw [HS.out]; rintro e w3 ⟨rfl, hb3⟩; have HB3 := Lib.hid (HB2.out.trans (hb3.mono HB2.out.size)); clear hb3)
            | (go_at_call 31; with_reducible refine (right_any a _ hs2).mono ?_; rw [HQ.out]; rintro e w2 ⟨rfl, hb2⟩; have HB2 := Lib.hid (HB1.out.trans (hb2.mono HB1.out.size)); clear hb2)
            | (go_at_call 31; with_reducible refine (right_any p _ hs).mono ?_; rw [HR.out]; rintro e w1 ⟨rfl, hb1⟩; have HB1 := Lib.hid hb1; clear hb1))
          go_ret
          exact ⟨rfl, HB3.out⟩
end Go.Proofs.Ytgjjbeejfdkjdaa.Term
