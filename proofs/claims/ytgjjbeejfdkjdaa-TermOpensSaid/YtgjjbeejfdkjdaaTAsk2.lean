/-
  CONTRACTS of the code's Read, Open, Verify (package term). By an AI agent; no person has read it.
-/
import Derived.Test.YtgjjbeejfdkjdaaTAsk
import Derived.Test.YtgjjbeejfdkjdaaTFacts
namespace Go.Proofs.Ytgjjbeejfdkjdaa.Term
open Go.RowKit Wire

/-- Of the first 4000 bytes the same term is read, if it has at most so many. -/
theorem size_cut (l : List UInt8) : (size 40 (l.take 4000) = 0 ∧ (size 40 l = 0 ∨ 4000 < size 40 l)) ∨ (size 40 (l.take 4000) ≠ 0 ∧ size 40 l = size 40 (l.take 4000) ∧ size 40 (l.take 4000) ≤ 4000) := by
  have hle := size_le 40 (l.take 4000)
  rw [List.length_take] at hle
  by_cases h0 : size 40 (l.take 4000) = 0
  · refine .inl ⟨h0, ?_⟩
    by_cases h1 : size 40 l = 0
    · exact .inl h1
    · refine .inr ?_
      rw [← Nat.not_le]; intro h4
      have hx := size_ext 40 l ((l.take 4000).drop (size 40 l)) h1
      have e : l.take (size 40 l) ++ (l.take 4000).drop (size 40 l) = l.take 4000 := by
        have e2 : l.take (size 40 l) = (l.take 4000).take (size 40 l) := by rw [List.take_take, Nat.min_eq_left h4]
        rw [e2, List.take_append_drop]
      rw [e] at hx
      omega
  · refine .inr ⟨h0, ?_, by omega⟩
    have hx := size_ext 40 (l.take 4000) (l.drop (size 40 (l.take 4000))) h0
    have e : (l.take 4000).take (size 40 (l.take 4000)) ++ l.drop (size 40 (l.take 4000)) = l := by
      rw [List.take_take, Nat.min_eq_left (by omega), List.take_append_drop]
    rw [e] at hx
    exact hx

set_option maxHeartbeats 2000000 in
theorem read_short (a : ByteArray) (w : World) (hs : (a.size : Int) ≤ 4000) :
    Calls Try.prog 22 #[.string a] w fun e w' => Tx (read a.data.toList) e ∧ Below w.heap.size w w' := by
  have q0 := nil_no
  have q1 := nil_yes
  have hcut : a.data.toList = a.data.toList.take 4000 := (List.take_of_length_le (by rw [← Lib.size_eq]; omega)).symm
  have HC : Hid (∀ w, Calls Try.prog 53 #[.string a, .int .i64 40] w fun e w' => Tks a.data.toList (size 40 a.data.toList) e ∧ Below w.heap.size w w') := fun w => take_at 40 (Nat.le_refl _) _ w (by omega)
  rcases size_cut a.data.toList with ⟨h0, h1⟩ | ⟨h0, h1, h4⟩
  · have hr : read a.data.toList = ([], [], 2) := by unfold read; rw [if_pos h1]
    rw [hr]
    have h00 : size 40 a.data.toList = 0 := (congrArg (size 40) hcut).trans h0
    have H0 := Lib.hid h00
    clear hcut h0 h1 hr h00
    go_enter Try.func22, Try.ntmps22
    go_wp2_with (go_at_call 53; with_reducible refine (HC.out _).mono ?_; rw [H0.out]; rintro e w1 ⟨ht, hb1⟩; obtain rfl := ht.zero rfl; have HB1 := Lib.hid hb1; clear hb1 ht; dsimp only)
    go_ret3
    exact ⟨⟨⟨#[]⟩, ⟨#[]⟩, rfl, rfl, rfl⟩, HB1.out⟩
  · obtain ⟨n, hn⟩ : ∃ n, size 40 (a.data.toList.take 4000) = n := ⟨_, rfl⟩
    rw [hn] at h0 h1 h4
    have hle := size_le 40 (a.data.toList.take 4000)
    rw [hn, List.length_take, ← Lib.size_eq] at hle
    have hr : read a.data.toList = (a.data.toList.take n, a.data.toList.drop n, 0) := by unfold read; rw [if_neg (by omega), h1]
    rw [hr]
    have h00 : size 40 a.data.toList = n := (congrArg (size 40) hcut).trans hn
    have H0 := Lib.hid h00
    have HZ := Lib.hid h0
    have hk0 : (0 : Int) ≤ (n : Int) := by omega
    have hk1 : (n : Int) ≤ (a.size : Int) := by omega
    have hnm : n ≤ a.size := by omega
    clear hcut h0 h1 hr hn hle h4 h00
    go_enter Try.func22, Try.ntmps22
    go_wp2_with (go_at_call 53; with_reducible refine (HC.out _).mono ?_; rw [H0.out]; rintro e w1 ⟨ht, hb1⟩; obtain ⟨T, v, R, hsh, hR, rfl⟩ := ht.pos HZ.out; have hRz : R.size = a.size - n := (by have := rest_size hR; omega); have hkk : (a.size : Int) - (R.size : Int) = (n : Int) := (by omega); have HB1 := Lib.hid hb1; clear hb1 ht hsh hR hRz; dsimp only)
    go_quiet (fail)
    go_wp2
    go_ret3
    exact ⟨⟨_, _, extract_take a n, extract_drop a n, rfl⟩, HB1.out.trans (bdrew _ _)⟩
set_option maxHeartbeats 2000000 in
theorem read_long (a : ByteArray) (w : World) (hs : ¬ (a.size : Int) ≤ 4000) :
    Calls Try.prog 22 #[.string a] w fun e w' => Tx (read a.data.toList) e ∧ Below w.heap.size w w' := by
  have q0 := nil_no
  have q1 := nil_yes
  have hcut : (a.extract 0 4000).data.toList = a.data.toList.take 4000 := extract_take a 4000
  have hcz : (a.extract 0 4000).size = 4000 := by rw [Lib.size_eq, extract_take, List.length_take, ← Lib.size_eq]; omega
  have hm1 : (4000 : Int) ≤ (a.size : Int) := by omega
  have hm2 : (4000 : Int) < (a.size : Int) := by omega
  have HC : Hid (∀ w, Calls Try.prog 53 #[.string (a.extract 0 4000), .int .i64 40] w fun e w' => Tks (a.extract 0 4000).data.toList (size 40 (a.extract 0 4000).data.toList) e ∧ Below w.heap.size w w') := fun w => take_at 40 (Nat.le_refl _) _ w (by omega)
  rcases size_cut a.data.toList with ⟨h0, h1⟩ | ⟨h0, h1, h4⟩
  · have hr : read a.data.toList = ([], [], 2) := by unfold read; rw [if_pos h1]
    rw [hr]
    have h00 : size 40 (a.extract 0 4000).data.toList = 0 := (congrArg (size 40) hcut).trans h0
    have H0 := Lib.hid h00
    clear hcut h0 h1 hr h00
    go_enter Try.func22, Try.ntmps22
    go_wp2_with (go_at_call 53; with_reducible refine (HC.out _).mono ?_; rw [H0.out]; rintro e w1 ⟨ht, hb1⟩; obtain rfl := ht.zero rfl; have HB1 := Lib.hid hb1; clear hb1 ht; dsimp only)
    go_ret3
    exact ⟨⟨⟨#[]⟩, ⟨#[]⟩, rfl, rfl, rfl⟩, HB1.out⟩
  · obtain ⟨n, hn⟩ : ∃ n, size 40 (a.data.toList.take 4000) = n := ⟨_, rfl⟩
    rw [hn] at h0 h1 h4
    have hle := size_le 40 (a.data.toList.take 4000)
    rw [hn, List.length_take, ← Lib.size_eq] at hle
    have hr : read a.data.toList = (a.data.toList.take n, a.data.toList.drop n, 0) := by unfold read; rw [if_neg (by omega), h1]
    rw [hr]
    have h00 : size 40 (a.extract 0 4000).data.toList = n := (congrArg (size 40) hcut).trans hn
    have H0 := Lib.hid h00
    have HZ := Lib.hid h0
    have hk0 : (0 : Int) ≤ (n : Int) := by omega
    have hk1 : (n : Int) ≤ (a.size : Int) := by omega
    have hnm : n ≤ 4000 := by omega
    clear hcut h0 h1 hr hn hle h4 h00
    go_enter Try.func22, Try.ntmps22
    go_wp2_with (go_at_call 53; with_reducible refine (HC.out _).mono ?_; rw [H0.out]; rintro e w1 ⟨ht, hb1⟩; obtain ⟨T, v, R, hsh, hR, rfl⟩ := ht.pos HZ.out; have hRz : R.size = 4000 - n := (by have := rest_size hR; omega); have hkk : (4000 : Int) - (R.size : Int) = (n : Int) := (by omega); have HB1 := Lib.hid hb1; clear hb1 ht hsh hR hRz; dsimp only)
    go_quiet (fail)
    go_wp2
    go_ret3
    exact ⟨⟨_, _, extract_take a n, extract_drop a n, rfl⟩, HB1.out.trans (bdrew _ _)⟩
theorem t_Read (a : ByteArray) (w : World) (_ : a.size ≤ 140737488355328) :
    Calls Try.prog 22 #[.string a] w fun e w' => Tx (read a.data.toList) e ∧ Below w.heap.size w w' := by
  by_cases h : (a.size : Int) ≤ 4000
  · exact read_short a w h
  · exact read_long a w h
theorem sealed_form {l : List UInt8} (h : right l = true) (hx : l.headD 0 = 115) : ∃ P Q : List UInt8, right P = true ∧ right Q = true ∧ l = 115 :: (P ++ Q) := by
  obtain ⟨b, t, m, rfl, ha, _⟩ := right_parts h
  obtain rfl : b = 115 := hx
  obtain ⟨x, y, rfl, _, h1, h2, _⟩ := two_parts h rfl
  exact ⟨x, y, h1, h2, rfl⟩
theorem boxed_form {l : List UInt8} (h : right l = true) (hx : l.headD 0 = 98) : ∃ P Q : List UInt8, right P = true ∧ right Q = true ∧ l = 98 :: (P ++ Q) := by
  obtain ⟨b, t, m, rfl, ha, _⟩ := right_parts h
  obtain rfl : b = 98 := hx
  obtain ⟨x, y, rfl, _, h1, h2, _⟩ := two_parts h rfl
  exact ⟨x, y, h1, h2, rfl⟩
theorem signed_form {l : List UInt8} (h : right l = true) (hx : l.headD 0 = 103) : ∃ P Q : List UInt8, right P = true ∧ right Q = true ∧ l = 103 :: (P ++ Q) := by
  obtain ⟨b, t, m, rfl, ha, _⟩ := right_parts h
  obtain rfl : b = 103 := hx
  obtain ⟨x, y, rfl, _, h1, h2, _⟩ := two_parts h rfl
  exact ⟨x, y, h1, h2, rfl⟩
theorem pub_form {l : List UInt8} (h : right l = true) (hx : l.headD 0 = 117) : ∃ P : List UInt8, right P = true ∧ l = 117 :: P := by
  obtain ⟨b, t, m, rfl, ha, _⟩ := right_parts h
  obtain rfl : b = 117 := hx
  exact ⟨t, (one_part h rfl (by decide)).1, rfl⟩
theorem two_same {k : UInt8} {P Q X Y : List UInt8} (hP : right P = true) (hX : right X = true) (h : k :: (P ++ Q) = k :: (X ++ Y)) : P = X ∧ Q = Y := right_cut hP hX (List.cons.inj h).2
theorem open_wrong {key c : List UInt8} (h : right key = false ∨ right c = false) : open' key c = ([], 1) := by
  unfold open'; rw [if_neg]; rintro ⟨h1, h2⟩
  rcases h with h | h
  · rw [h1] at h; cases h
  · rw [h2] at h; cases h
theorem open_eq {key c : List UInt8} (h : right key = true) (h2 : right c = true) : open' key c = opens 115 key c := by unfold open'; rw [if_pos ⟨h, h2⟩]
theorem verify_wrong {p a s : List UInt8} (h : right p = false ∨ right s = false ∨ right a = false) : verify p a s = 1 := by
  unfold verify; rw [if_neg]; rintro ⟨h1, h2, h3⟩
  rcases h with h | h | h
  · rw [h1] at h; cases h
  · rw [h3] at h; cases h
  · rw [h2] at h; cases h
theorem verify_eq {p a s : List UInt8} (h : right p = true) (h2 : right a = true) (h3 : right s = true) : verify p a s = if p.headD 0 = 117 ∧ s = 103 :: (p.tail ++ a) then 0 else 7 := by unfold verify; rw [if_pos ⟨h, h2, h3⟩]
set_option maxHeartbeats 2000000 in
set_option maxRecDepth 1000000 in
theorem t_Open (a b : ByteArray) (w : World) (_ : a.size ≤ 140737488355328) (_ : b.size ≤ 140737488355328) :
    Calls Try.prog 17 #[.string a, .string b] w fun e w' => Sr (open' a.data.toList b.data.toList) e ∧ Below w.heap.size w w' := by
  have q0 := nil_no
  have q1 := nil_yes
  cases hr : right b.data.toList with
  | false =>
    rw [open_wrong (.inr hr)]
    have HR := Lib.hid hr
    clear hr
    go_enter Try.func17, Try.ntmps17
    go_wp2_with (go_at_call 52; with_reducible refine (whole_any b _).mono ?_; rintro e w1 ⟨ht, hb⟩; obtain rfl := ht.zero HR.out; have HB1 := Lib.hid hb; clear hb ht; dsimp only)
    go_ret2
    exact ⟨sr_nil _, HB1.out⟩
  | true =>
    have HR := Lib.hid hr
    cases hq : right a.data.toList with
    | false =>
      rw [open_wrong (.inl hq)]
      have HQ := Lib.hid hq
      clear hr hq
      go_enter Try.func17, Try.ntmps17
      go_wp2_with (first
        | (go_at_call 52; with_reducible refine (whole_any a _).mono ?_; rintro e w2 ⟨ht, hb⟩; obtain rfl := ht.zero HQ.out; have HB2 := Lib.hid (HB1.out.trans (hb.mono HB1.out.size)); clear hb ht; dsimp only)
        | (go_at_call 52; with_reducible refine (whole_any b _).mono ?_; rintro e w1 ⟨ht, hb⟩; obtain ⟨T, v, hsh, rfl⟩ := ht.pos HR.out; clear hsh; have HB1 := Lib.hid hb; clear hb ht; dsimp only))
      go_ret2
      exact ⟨sr_nil _, HB2.out⟩
    | true =>
      have HQ := Lib.hid hq
      rw [open_eq hq hr]
      by_cases hx : b.data.toList.headD 0 = 115
      · have HX := Lib.hid hx
        have q2 := is_sealed
        have HO : Hid (∀ P Q : List UInt8, right P = true → right Q = true → b.data.toList = 115 :: (P ++ Q) → opens 115 a.data.toList b.data.toList = if P = a.data.toList then (Q, 0) else ([], 6)) := fun P Q h1 h2 h3 => by
          rw [h3]; exact opens_of (by rw [← h3]; exact hr) rfl h1 h2
        obtain ⟨P, Q, hP, hQ, hl⟩ : ∃ P Q : List UInt8, right P = true ∧ right Q = true ∧ b.data.toList = 115 :: (P ++ Q) := sealed_form hr hx
        rw [HO.out P Q hP hQ hl]
        have HL := Lib.hid hl
        have HP := Lib.hid hP
        by_cases hk : P = a.data.toList
        · rw [if_pos hk]
          have HK := Lib.hid hk
          clear hr hq hx hP hQ hl hk
          go_enter Try.func17, Try.ntmps17
          go_wp2_with (first
            | (go_at_call 52; with_reducible refine (whole_any a _).mono ?_; rintro e w2 ⟨ht, hb⟩; obtain ⟨T2, v2, _, rfl⟩ := ht.pos HQ.out; have HB2 := Lib.hid (HB1.out.trans (hb.mono HB1.out.size)); clear hb ht; dsimp only)
            | (go_at_call 52; with_reducible refine (whole_any b _).mono ?_; rintro e w1 ⟨ht, hb⟩; obtain ⟨T, v, hsh, rfl⟩ := ht.pos HR.out; obtain ⟨rfl, X, Y, rfl, hX, hY, hl⟩ := hsh.of_sealed HX.out; have hxy := two_same HP.out hX (HL.out.symm.trans hl); have hkk := eq_bool (s := X) (t := a) (hxy.1.symm.trans HK.out); have HQX := Lib.hid hxy.2.symm; clear hX hY hl hxy hsh; have HB1 := Lib.hid hb; clear hb ht; dsimp only))
          go_ret2
          exact ⟨⟨_, HQX.out, rfl⟩, HB2.out.alloc HB2.out.size _⟩
        · rw [if_neg hk]
          have HK := Lib.hid hk
          clear hr hq hx hP hQ hl hk
          go_enter Try.func17, Try.ntmps17
          go_wp2_with (first
            | (go_at_call 52; with_reducible refine (whole_any a _).mono ?_; rintro e w2 ⟨ht, hb⟩; obtain ⟨T2, v2, _, rfl⟩ := ht.pos HQ.out; have HB2 := Lib.hid (HB1.out.trans (hb.mono HB1.out.size)); clear hb ht; dsimp only)
            | (go_at_call 52; with_reducible refine (whole_any b _).mono ?_; rintro e w1 ⟨ht, hb⟩; obtain ⟨T, v, hsh, rfl⟩ := ht.pos HR.out; obtain ⟨rfl, X, Y, rfl, hX, hY, hl⟩ := hsh.of_sealed HX.out; have hxy := two_same HP.out hX (HL.out.symm.trans hl); have hkk := ne_bool (s := X) (t := a) (fun h => absurd (hxy.1.trans h) HK.out); clear hX hY hl hxy hsh; have HB1 := Lib.hid hb; clear hb ht; dsimp only))
          go_ret2
          exact ⟨sr_nil _, HB2.out.alloc HB2.out.size _⟩
      · rw [opens_not hx]
        have HX := Lib.hid hx
        clear hr hq hx
        go_enter Try.func17, Try.ntmps17
        go_wp2_with (first
          | (go_at_call 52; with_reducible refine (whole_any a _).mono ?_; rintro e w2 ⟨ht, hb⟩; obtain ⟨T2, v2, _, rfl⟩ := ht.pos HQ.out; have HB2 := Lib.hid (HB1.out.trans (hb.mono HB1.out.size)); clear hb ht; dsimp only)
          | (go_at_call 52; with_reducible refine (whole_any b _).mono ?_; rintro e w1 ⟨ht, hb⟩; obtain ⟨T, v, hsh, rfl⟩ := ht.pos HR.out; have q2 := fun w => no_sealed T v w (hsh.no_sealed HX.out); clear hsh; have HB1 := Lib.hid hb; clear hb ht; dsimp only))
        go_ret2
        exact ⟨sr_nil _, HB2.out.alloc HB2.out.size _⟩
end Go.Proofs.Ytgjjbeejfdkjdaa.Term
