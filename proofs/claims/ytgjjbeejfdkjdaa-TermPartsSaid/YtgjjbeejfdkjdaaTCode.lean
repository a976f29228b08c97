/-
  CONTRACTS of the code's OfPair, OfHash, Seal, OfPublic, Box, Sign, OfAtom, OfText, Unbox, Verify (package term). By an AI agent; no person has read it.
-/
import Derived.Test.YtgjjbeejfdkjdaaTJoin
import Derived.Test.YtgjjbeejfdkjdaaTOpen
namespace Go.Proofs.Ytgjjbeejfdkjdaa.Term
open Go.RowKit Wire

theorem glued_two (k : UInt8) (a b : ByteArray) : glued k [a, b] = two k a.data.toList b.data.toList := by
  unfold glued two
  have e : cat [a, b] = a.data.toList ++ b.data.toList := by simp [cat]
  rw [e]
  simp
theorem glued_one (k : UInt8) (a : ByteArray) : glued k [a] = one k a.data.toList := by
  unfold glued one
  have e : cat [a] = a.data.toList := by simp [cat]
  rw [e]
  simp
theorem join_two (k : UInt8) (W w : World) (a b : ByteArray) (g : Nat) (hg : g = W.heap.size) (hb : Below w.heap.size w W) :
    Calls Try.prog 51 #[.int .u8 (k.toNat : Int), .slice (some ⟨g, 0, none⟩) 2 2] (W.alloc (.cells #[.string a, .string b] 9)) fun e w' => Sr (two k a.data.toList b.data.toList) e ∧ Below w.heap.size w w' := by
  refine (join_any k (some ⟨g, 0, none⟩) 2 [a, b] _ (pair_reads' W a b g hg) (Nat.le_refl _) (Nat.le_refl _)).mono fun e w' ⟨h1, h2⟩ => ⟨by rw [← glued_two]; exact h1, after_alloc hb h2⟩
theorem join_one (k : UInt8) (W w : World) (a : ByteArray) (g : Nat) (hg : g = W.heap.size) (hb : Below w.heap.size w W) :
    Calls Try.prog 51 #[.int .u8 (k.toNat : Int), .slice (some ⟨g, 0, none⟩) 1 1] (W.alloc (.cells #[.string a] 9)) fun e w' => Sr (one k a.data.toList) e ∧ Below w.heap.size w w' := by
  refine (join_any k (some ⟨g, 0, none⟩) 1 [a] _ (one_reads W a g hg) (by simp) (Nat.le_refl _)).mono fun e w' ⟨h1, h2⟩ => ⟨by rw [← glued_one]; exact h1, after_alloc hb h2⟩
set_option maxHeartbeats 1000000 in
theorem t_OfPair (a b : ByteArray) (w : World) (_ : a.size ≤ 140737488355328) (_ : b.size ≤ 140737488355328) :
    Calls Try.prog 30 #[.string a, .string b] w fun e w' => Sr (two 112 a.data.toList b.data.toList) e ∧ Below w.heap.size w w' := by
  have HC := Lib.hid (join_two 112 w w a b w.heap.size rfl (Below.refl _ _))
  obtain ⟨x, f, hx⟩ : ∃ x f, two 112 a.data.toList b.data.toList = (x, f) := ⟨_, _, rfl⟩
  rw [hx] at HC ⊢
  clear hx
  go_enter Try.func30, Try.ntmps30
  go_wp2_with (go_at_call 51; refine HC.out.mono ?_; rintro e w1 ⟨⟨T, hT, rfl⟩, hb1⟩; have HB1 := Lib.hid hb1; have HT := Lib.hid hT; clear hb1 hT; dsimp only)
  go_ret2
  exact ⟨⟨T, HT.out, rfl⟩, HB1.out⟩
set_option maxHeartbeats 1000000 in
theorem t_Seal (a b : ByteArray) (w : World) (_ : a.size ≤ 140737488355328) (_ : b.size ≤ 140737488355328) :
    Calls Try.prog 15 #[.string a, .string b] w fun e w' => Sr (two 115 a.data.toList b.data.toList) e ∧ Below w.heap.size w w' := by
  have HC := Lib.hid (join_two 115 w w a b w.heap.size rfl (Below.refl _ _))
  obtain ⟨x, f, hx⟩ : ∃ x f, two 115 a.data.toList b.data.toList = (x, f) := ⟨_, _, rfl⟩
  rw [hx] at HC ⊢
  clear hx
  go_enter Try.func15, Try.ntmps15
  go_wp2_with (go_at_call 51; refine HC.out.mono ?_; rintro e w1 ⟨⟨T, hT, rfl⟩, hb1⟩; have HB1 := Lib.hid hb1; have HT := Lib.hid hT; clear hb1 hT; dsimp only)
  go_ret2
  exact ⟨⟨T, HT.out, rfl⟩, HB1.out⟩
set_option maxHeartbeats 1000000 in
theorem t_Sign (a b : ByteArray) (w : World) (_ : a.size ≤ 140737488355328) (_ : b.size ≤ 140737488355328) :
    Calls Try.prog 19 #[.string a, .string b] w fun e w' => Sr (two 103 a.data.toList b.data.toList) e ∧ Below w.heap.size w w' := by
  have HC := Lib.hid (join_two 103 w w a b w.heap.size rfl (Below.refl _ _))
  obtain ⟨x, f, hx⟩ : ∃ x f, two 103 a.data.toList b.data.toList = (x, f) := ⟨_, _, rfl⟩
  rw [hx] at HC ⊢
  clear hx
  go_enter Try.func19, Try.ntmps19
  go_wp2_with (go_at_call 51; refine HC.out.mono ?_; rintro e w1 ⟨⟨T, hT, rfl⟩, hb1⟩; have HB1 := Lib.hid hb1; have HT := Lib.hid hT; clear hb1 hT; dsimp only)
  go_ret2
  exact ⟨⟨T, HT.out, rfl⟩, HB1.out⟩
set_option maxHeartbeats 1000000 in
theorem t_OfHash (a : ByteArray) (w : World) (_ : a.size ≤ 140737488355328) :
    Calls Try.prog 32 #[.string a] w fun e w' => Sr (one 104 a.data.toList) e ∧ Below w.heap.size w w' := by
  have HC := Lib.hid (join_one 104 w w a w.heap.size rfl (Below.refl _ _))
  obtain ⟨x, f, hx⟩ : ∃ x f, one 104 a.data.toList = (x, f) := ⟨_, _, rfl⟩
  rw [hx] at HC ⊢
  clear hx
  go_enter Try.func32, Try.ntmps32
  go_wp2_with (go_at_call 51; refine HC.out.mono ?_; rintro e w1 ⟨⟨T, hT, rfl⟩, hb1⟩; have HB1 := Lib.hid hb1; have HT := Lib.hid hT; clear hb1 hT; dsimp only)
  go_ret2
  exact ⟨⟨T, HT.out, rfl⟩, HB1.out⟩
set_option maxHeartbeats 1000000 in
theorem t_OfPublic (a : ByteArray) (w : World) (_ : a.size ≤ 140737488355328) :
    Calls Try.prog 16 #[.string a] w fun e w' => Sr (one 117 a.data.toList) e ∧ Below w.heap.size w w' := by
  have HC := Lib.hid (join_one 117 w w a w.heap.size rfl (Below.refl _ _))
  obtain ⟨x, f, hx⟩ : ∃ x f, one 117 a.data.toList = (x, f) := ⟨_, _, rfl⟩
  rw [hx] at HC ⊢
  clear hx
  go_enter Try.func16, Try.ntmps16
  go_wp2_with (go_at_call 51; refine HC.out.mono ?_; rintro e w1 ⟨⟨T, hT, rfl⟩, hb1⟩; have HB1 := Lib.hid hb1; have HT := Lib.hid hT; clear hb1 hT; dsimp only)
  go_ret2
  exact ⟨⟨T, HT.out, rfl⟩, HB1.out⟩
set_option maxHeartbeats 2000000 in
theorem t_Box (a b : ByteArray) (w : World) (_ : a.size ≤ 140737488355328) (_ : b.size ≤ 140737488355328) :
    Calls Try.prog 18 #[.string a, .string b] w fun e w' => Sr (box a.data.toList b.data.toList) e ∧ Below w.heap.size w w' := by
  have q0 := nil_no
  have q1 := nil_yes
  cases hr : right a.data.toList with
  | false =>
    have hm : box a.data.toList b.data.toList = ([], 1) := by unfold box; rw [if_neg (by rw [hr]; simp)]
    rw [hm]
    have HR := Lib.hid hr
    have q2 := nil_publicOne
    clear hr hm
    go_enter Try.func18, Try.ntmps18
    go_wp2_with (go_at_call 52; with_reducible refine (whole_any a _).mono ?_; rintro e w1 ⟨ht, hb⟩; obtain rfl := ht.zero HR.out; have HB1 := Lib.hid hb; clear hb ht; dsimp only)
    go_ret2
    exact ⟨sr_nil _, HB1.out.alloc HB1.out.size _⟩
  | true =>
    have HR := Lib.hid hr
    by_cases hx : a.data.toList.headD 0 = 117
    · have hm : box a.data.toList b.data.toList = two 98 a.data.toList b.data.toList := by
        have hu : a.data.toList.head? = some 117 := by
          cases hl : a.data.toList with
          | nil => rw [hl] at hr; cases hr
          | cons x y => rw [hl] at hx; rw [← hx]; rfl
        unfold box; rw [if_pos ⟨hr, hu⟩]
      have HX := Lib.hid hx
      have q2 := is_publicOne
      have HC : Hid (∀ (w1 : World) (o : Obj) (g : Nat), g = (w1.alloc o).heap.size → Below w.heap.size w w1 → Calls Try.prog 51 #[.int .u8 98, .slice (some ⟨g, 0, none⟩) 2 2] ((w1.alloc o).alloc (.cells #[.string a, .string b] 9)) fun e w' => Sr (two 98 a.data.toList b.data.toList) e ∧ Below w.heap.size w w') := fun w1 o g hg hb => join_two 98 (w1.alloc o) w a b g hg (hb.alloc hb.size o)
      rw [hm]
      obtain ⟨x, f, hx2⟩ : ∃ x f, two 98 a.data.toList b.data.toList = (x, f) := ⟨_, _, rfl⟩
      rw [hx2] at HC ⊢
      clear hr hm hx hx2
      go_enter Try.func18, Try.ntmps18
      go_wp2_with (first
        | (go_at_call 51; refine (HC.out w1 _ _ (by simp) HB1.out).mono ?_; rintro e w2 ⟨⟨T2, hT, rfl⟩, hb2⟩; have HB2 := Lib.hid hb2; have HT := Lib.hid hT; clear hb2 hT; dsimp only)
        | (go_at_call 52; with_reducible refine (whole_any a _).mono ?_; rintro e w1 ⟨ht, hb⟩; obtain ⟨T, v, hsh, rfl⟩ := ht.pos HR.out; obtain ⟨rfl, X, rfl, _, _⟩ := hsh.of_publicOne HX.out; clear hsh; have HB1 := Lib.hid hb; clear hb ht; dsimp only))
      go_ret2
      exact ⟨⟨T2, HT.out, rfl⟩, HB2.out⟩
    · have hm : box a.data.toList b.data.toList = ([], 1) := by
        unfold box; rw [if_neg]; rintro ⟨_, h⟩
        cases hl : a.data.toList with
        | nil => rw [hl] at h; cases h
        | cons x y => rw [hl] at h hx; exact hx (Option.some.inj h)
      have HX := Lib.hid hx
      rw [hm]
      clear hr hm hx
      go_enter Try.func18, Try.ntmps18
      go_wp2_with (go_at_call 52; with_reducible refine (whole_any a _).mono ?_; rintro e w1 ⟨ht, hb⟩; obtain ⟨T, v, hsh, rfl⟩ := ht.pos HR.out; have q2 := fun w => no_publicOne T v w (hsh.no_publicOne HX.out); clear hsh; have HB1 := Lib.hid hb; clear hb ht; dsimp only)
      go_ret2
      exact ⟨sr_nil _, HB1.out.alloc HB1.out.size _⟩
set_option maxHeartbeats 1000000 in
theorem t_OfAtom (n : Nat) (w : World) (hn : n < 18446744073709551616) :
    Calls Try.prog 27 #[.int .u64 n] w fun e w' => St (ofAtom n) e ∧ Below w.heap.size w w' := by
  have HN := Lib.hid hn
  clear hn
  go_enter Try.func27, Try.ntmps27
  go_wp2_with (go_at_call 54; refine (put_any n _ HN.out).mono ?_; rintro e w1 ⟨⟨T, hT, rfl⟩, hb1⟩; have hz : T.size ≤ 9 := (put_size hT HN.out); have HB1 := Lib.hid hb1; have HT := Lib.hid hT; clear hb1 hT)
  go_ret
  exact ⟨⟨_, by rw [app_data, HT.out]; rfl, rfl⟩, HB1.out⟩
set_option maxHeartbeats 1000000 in
theorem t_OfText (a : ByteArray) (w : World) (_ : a.size ≤ 140737488355000) :
    Calls Try.prog 28 #[.string a] w fun e w' => Sr (ofText a.data.toList) e ∧ Below w.heap.size w w' := by
  have q0 := nil_no
  have q1 := nil_yes
  by_cases hl : (a.size : Int) ≤ 4000
  · go_enter Try.func28, Try.ntmps28
    go_wp2_with fail
    refine (putText_any a _ (by omega)).mono ?_
    rintro e w1 ⟨⟨P, hP, rfl⟩, hb1⟩
    have HB1 := Lib.hid hb1
    have hPz : P.size ≤ 5000 := by
      have h1 := (put_le (n := a.data.toList.length) (by rw [← Lib.size_eq]; omega)).2
      have h2 := Lib.size_eq a
      rw [Lib.size_eq, hP, putText_len]; omega
    have htp : ((ByteArray.mk #[116]) ++ P).data.toList = 116 :: putText a.data.toList := by rw [app_data, hP]; rfl
    have HTP := Lib.hid htp
    clear hb1 hP htp
    go_wp2_with fail
    obtain ⟨S, hS⟩ : ∃ S, (ByteArray.mk #[116]) ++ P = S := ⟨_, rfl⟩
    rw [hS] at HTP ⊢
    clear hS
    have e : ofText a.data.toList = made S.data.toList := by unfold ofText; rw [HTP.out]
    have HE := Lib.hid e
    clear e
    refine (whole_any S _).mono ?_
    rintro e w2 ⟨ht, hb2⟩
    have HB2 := Lib.hid (HB1.out.trans (hb2.mono HB1.out.size))
    cases hrs : right S.data.toList with
    | true =>
      obtain ⟨T2, v, hsh, rfl⟩ := ht.pos hrs
      have HRS := Lib.hid hrs
      clear hrs ht hb2 hsh
      dsimp only
      go_wp2
      go_ret2
      rw [HE.out]
      unfold made
      rw [if_pos HRS.out]
      exact ⟨⟨S, rfl, rfl⟩, HB2.out⟩
    | false =>
      obtain rfl := ht.zero hrs
      have HRS := Lib.hid hrs
      clear hrs ht hb2
      dsimp only
      go_wp2
      go_ret2
      rw [HE.out]
      unfold made
      rw [if_neg (by rw [HRS.out]; decide)]
      exact ⟨sr_nil _, HB2.out⟩
  · have hm : ofText a.data.toList = ([], 10) := by
      unfold ofText made
      rw [if_neg]
      intro h
      have h1 := (right_len h).2
      rw [List.length_cons, putText_len, ← Lib.size_eq] at h1
      omega
    rw [hm]
    clear hm
    go_enter Try.func28, Try.ntmps28
    go_wp2_with fail
    go_ret2
    exact ⟨sr_nil _, Below.refl _ _⟩
theorem unbox_wrong {key c : List UInt8} (h : right key = false ∨ right c = false) : unbox key c = ([], 1) := by
  unfold unbox; rw [if_neg]; rintro ⟨h1, h2⟩
  rcases h with h | h
  · rw [h1] at h; cases h
  · rw [h2] at h; cases h
theorem unbox_eq {key c : List UInt8} (h : right key = true) (h2 : right c = true) : unbox key c = opens 98 (117 :: key) c := by unfold unbox; rw [if_pos ⟨h, h2⟩]
set_option maxHeartbeats 2000000 in
theorem t_Unbox (a b : ByteArray) (w : World) (ha : a.size ≤ 140737488355328) (_ : b.size ≤ 140737488355328) :
    Calls Try.prog 20 #[.string a, .string b] w fun e w' => Sr (unbox a.data.toList b.data.toList) e ∧ Below w.heap.size w w' := by
  have q0 := nil_no
  have q1 := nil_yes
  cases hr : right b.data.toList with
  | false =>
    rw [unbox_wrong (.inr hr)]
    have HR := Lib.hid hr
    clear hr
    go_enter Try.func20, Try.ntmps20
    go_wp2_with (go_at_call 52; with_reducible refine (whole_any b _).mono ?_; rintro e w1 ⟨ht, hb⟩; obtain rfl := ht.zero HR.out; have HB1 := Lib.hid hb; clear hb ht; dsimp only)
    go_ret2
    exact ⟨sr_nil _, HB1.out⟩
  | true =>
    have HR := Lib.hid hr
    cases hq : right a.data.toList with
    | false =>
      rw [unbox_wrong (.inl hq)]
      have HQ := Lib.hid hq
      clear hr hq
      go_enter Try.func20, Try.ntmps20
      go_wp2_with (first
        | (go_at_call 52; with_reducible refine (whole_any a _).mono ?_; rintro e w2 ⟨ht, hb⟩; obtain rfl := ht.zero HQ.out; have HB2 := Lib.hid (HB1.out.trans (hb.mono HB1.out.size)); clear hb ht; dsimp only)
        | (go_at_call 52; with_reducible refine (whole_any b _).mono ?_; rintro e w1 ⟨ht, hb⟩; obtain ⟨T, v, hsh, rfl⟩ := ht.pos HR.out; clear hsh; have HB1 := Lib.hid hb; clear hb ht; dsimp only))
      go_ret2
      exact ⟨sr_nil _, HB2.out⟩
    | true =>
      have HQ := Lib.hid hq
      rw [unbox_eq hq hr]
      by_cases hx : b.data.toList.headD 0 = 98
      · have HX := Lib.hid hx
        have q2 := is_boxed
        obtain ⟨P, Q, hP, hQ, hl⟩ := boxed_form hr hx
        have hop : opens 98 (117 :: a.data.toList) b.data.toList = if P = 117 :: a.data.toList then (Q, 0) else ([], 6) := by
          rw [hl]; exact opens_of (by rw [← hl]; exact hr) rfl hP hQ
        rw [hop]
        have ho : one 117 a.data.toList = made (117 :: a.data.toList) := by unfold one; rw [if_pos hq]
        have HL := Lib.hid hl
        have HP := Lib.hid hP
        by_cases hk : P = 117 :: a.data.toList
        · rw [if_pos hk]
          have ho2 : one 117 a.data.toList = (117 :: a.data.toList, 0) := by rw [ho]; unfold made; rw [if_pos (by rw [← hk]; exact hP)]
          have HO := Lib.hid ho2
          have HK := Lib.hid hk
          clear hr hq hx hP hQ hl hk hop ho ho2
          go_enter Try.func20, Try.ntmps20
          go_wp2_with (first
            | (go_at_call 16; refine (t_OfPublic a _ (by assumption)).mono ?_; rw [HO.out]; rintro e w3 ⟨⟨U, hU, rfl⟩, hb⟩; have HB3 := Lib.hid (after_alloc HB2.out hb); have hkk := eq_bool (s := X) (t := U) (HXP.out.trans (HK.out.trans hU.symm)); have hc0 : w3.cell? ⟨w2.heap.size, 0, none⟩ = some (.string X) := (hb.cell (p := ⟨w2.heap.size, 0, none⟩) (by simp)).trans (by simp); have hc1 : w3.cell? ⟨w2.heap.size, 1, none⟩ = some (.string Y) := (hb.cell (p := ⟨w2.heap.size, 1, none⟩) (by simp)).trans (by simp); clear hb hU; dsimp only)
            | (go_at_call 52; with_reducible refine (whole_any a _).mono ?_; rintro e w2 ⟨ht, hb⟩; obtain ⟨T2, v2, _, rfl⟩ := ht.pos HQ.out; have HB2 := Lib.hid (HB1.out.trans (hb.mono HB1.out.size)); clear hb ht; dsimp only)
            | (go_at_call 52; with_reducible refine (whole_any b _).mono ?_; rintro e w1 ⟨ht, hb⟩; obtain ⟨T, v, hsh, rfl⟩ := ht.pos HR.out; obtain ⟨rfl, X, Y, rfl, hX, hY, hl⟩ := hsh.of_boxed HX.out; have hxy := two_same HP.out hX (HL.out.symm.trans hl); have HXP := Lib.hid hxy.1.symm; have HQX := Lib.hid hxy.2.symm; clear hX hY hl hxy hsh; have HB1 := Lib.hid hb; clear hb ht; dsimp only))
          go_ret2
          exact ⟨⟨_, HQX.out, rfl⟩, HB3.out⟩
        · rw [if_neg hk]
          have HK := Lib.hid hk
          cases hz : right (117 :: a.data.toList) with
          | true =>
            have ho2 : one 117 a.data.toList = (117 :: a.data.toList, 0) := by rw [ho]; unfold made; rw [if_pos hz]
            have HO := Lib.hid ho2
            clear hr hq hx hP hQ hl hk hop ho ho2 hz
            go_enter Try.func20, Try.ntmps20
            go_wp2_with (first
              | (go_at_call 16; refine (t_OfPublic a _ (by assumption)).mono ?_; rw [HO.out]; rintro e w3 ⟨⟨U, hU, rfl⟩, hb⟩; have HB3 := Lib.hid (after_alloc HB2.out hb); have hkk := ne_bool (s := X) (t := U) (fun h => absurd (HXP.out.symm.trans (h.trans hU)) HK.out); have hc0 : w3.cell? ⟨w2.heap.size, 0, none⟩ = some (.string X) := (hb.cell (p := ⟨w2.heap.size, 0, none⟩) (by simp)).trans (by simp); have hc1 : w3.cell? ⟨w2.heap.size, 1, none⟩ = some (.string Y) := (hb.cell (p := ⟨w2.heap.size, 1, none⟩) (by simp)).trans (by simp); clear hb hU; dsimp only)
              | (go_at_call 52; with_reducible refine (whole_any a _).mono ?_; rintro e w2 ⟨ht, hb⟩; obtain ⟨T2, v2, _, rfl⟩ := ht.pos HQ.out; have HB2 := Lib.hid (HB1.out.trans (hb.mono HB1.out.size)); clear hb ht; dsimp only)
              | (go_at_call 52; with_reducible refine (whole_any b _).mono ?_; rintro e w1 ⟨ht, hb⟩; obtain ⟨T, v, hsh, rfl⟩ := ht.pos HR.out; obtain ⟨rfl, X, Y, rfl, hX, hY, hl⟩ := hsh.of_boxed HX.out; have hxy := two_same HP.out hX (HL.out.symm.trans hl); have HXP := Lib.hid hxy.1.symm; have HQX := Lib.hid hxy.2.symm; clear hX hY hl hxy hsh; have HB1 := Lib.hid hb; clear hb ht; dsimp only))
            go_ret2
            exact ⟨sr_nil _, HB3.out⟩
          | false =>
            have ho2 : one 117 a.data.toList = ([], 10) := by rw [ho]; unfold made; rw [if_neg (by rw [hz]; decide)]
            have HO := Lib.hid ho2
            clear hr hq hx hP hQ hl hk hop ho ho2 hz
            go_enter Try.func20, Try.ntmps20
            go_wp2_with (first
              | (go_at_call 16; refine (t_OfPublic a _ (by assumption)).mono ?_; rw [HO.out]; rintro e w3 ⟨⟨U, hU, rfl⟩, hb⟩; have HB3 := Lib.hid (after_alloc HB2.out hb); have hc0 : w3.cell? ⟨w2.heap.size, 0, none⟩ = some (.string X) := (hb.cell (p := ⟨w2.heap.size, 0, none⟩) (by simp)).trans (by simp); have hc1 : w3.cell? ⟨w2.heap.size, 1, none⟩ = some (.string Y) := (hb.cell (p := ⟨w2.heap.size, 1, none⟩) (by simp)).trans (by simp); clear hb hU; dsimp only)
              | (go_at_call 52; with_reducible refine (whole_any a _).mono ?_; rintro e w2 ⟨ht, hb⟩; obtain ⟨T2, v2, _, rfl⟩ := ht.pos HQ.out; have HB2 := Lib.hid (HB1.out.trans (hb.mono HB1.out.size)); clear hb ht; dsimp only)
              | (go_at_call 52; with_reducible refine (whole_any b _).mono ?_; rintro e w1 ⟨ht, hb⟩; obtain ⟨T, v, hsh, rfl⟩ := ht.pos HR.out; obtain ⟨rfl, X, Y, rfl, hX, hY, hl⟩ := hsh.of_boxed HX.out; have hxy := two_same HP.out hX (HL.out.symm.trans hl); have HXP := Lib.hid hxy.1.symm; have HQX := Lib.hid hxy.2.symm; clear hX hY hl hxy hsh; have HB1 := Lib.hid hb; clear hb ht; dsimp only))
            go_ret2
            exact ⟨sr_nil _, HB3.out⟩
      · rw [opens_not hx]
        have HX := Lib.hid hx
        clear hr hq hx
        go_enter Try.func20, Try.ntmps20
        go_wp2_with (first
          | (go_at_call 52; with_reducible refine (whole_any a _).mono ?_; rintro e w2 ⟨ht, hb⟩; obtain ⟨T2, v2, _, rfl⟩ := ht.pos HQ.out; have HB2 := Lib.hid (HB1.out.trans (hb.mono HB1.out.size)); clear hb ht; dsimp only)
          | (go_at_call 52; with_reducible refine (whole_any b _).mono ?_; rintro e w1 ⟨ht, hb⟩; obtain ⟨T, v, hsh, rfl⟩ := ht.pos HR.out; have q2 := fun w => no_boxed T v w (hsh.no_boxed HX.out); clear hsh; have HB1 := Lib.hid hb; clear hb ht; dsimp only))
        go_ret2
        exact ⟨sr_nil _, HB2.out.alloc HB2.out.size _⟩
set_option maxHeartbeats 4000000 in
set_option maxRecDepth 1000000 in
theorem t_Verify (p a s : ByteArray) (w : World) (_ : p.size ≤ 140737488355328) (_ : a.size ≤ 140737488355328) (_ : s.size ≤ 140737488355328) :
    Calls Try.prog 21 #[.string p, .string a, .string s] w fun e w' => e = .returned (.int .i64 (verify p.data.toList a.data.toList s.data.toList)) ∧ Below w.heap.size w w' := by
  have q0 := nil_no
  have q1 := nil_yes
  cases hp : right p.data.toList with
  | false =>
    rw [verify_wrong (.inl hp)]
    have HP := Lib.hid hp
    cases hs : right s.data.toList with
    | false =>
      have HS := Lib.hid hs
      clear hp hs
      go_enter Try.func21, Try.ntmps21
      go_wp2_with (first
        | (go_at_call 52; with_reducible refine (whole_any s _).mono ?_; rintro e w2 ⟨ht, hb⟩; obtain rfl := ht.zero HS.out; have HB2 := Lib.hid (HB1.out.trans (hb.mono HB1.out.size)); clear hb ht; dsimp only)
        | (go_at_call 52; with_reducible refine (whole_any p _).mono ?_; rintro e w1 ⟨ht, hb⟩; obtain rfl := ht.zero HP.out; have HB1 := Lib.hid hb; clear hb ht; dsimp only))
      go_ret
      exact ⟨rfl, HB2.out⟩
    | true =>
      have HS := Lib.hid hs
      clear hp hs
      go_enter Try.func21, Try.ntmps21
      go_wp2_with (first
        | (go_at_call 52; with_reducible refine (whole_any s _).mono ?_; rintro e w2 ⟨ht, hb⟩; obtain ⟨T2, v2, _, rfl⟩ := ht.pos HS.out; have HB2 := Lib.hid (HB1.out.trans (hb.mono HB1.out.size)); clear hb ht; dsimp only)
        | (go_at_call 52; with_reducible refine (whole_any p _).mono ?_; rintro e w1 ⟨ht, hb⟩; obtain rfl := ht.zero HP.out; have HB1 := Lib.hid hb; clear hb ht; dsimp only))
      go_ret
      exact ⟨rfl, HB2.out⟩
  | true =>
    have HP := Lib.hid hp
    cases hs : right s.data.toList with
    | false =>
      rw [verify_wrong (.inr (.inl hs))]
      have HS := Lib.hid hs
      clear hp hs
      go_enter Try.func21, Try.ntmps21
      go_wp2_with (first
        | (go_at_call 52; with_reducible refine (whole_any s _).mono ?_; rintro e w2 ⟨ht, hb⟩; obtain rfl := ht.zero HS.out; have HB2 := Lib.hid (HB1.out.trans (hb.mono HB1.out.size)); clear hb ht; dsimp only)
        | (go_at_call 52; with_reducible refine (whole_any p _).mono ?_; rintro e w1 ⟨ht, hb⟩; obtain ⟨T, v, _, rfl⟩ := ht.pos HP.out; have HB1 := Lib.hid hb; clear hb ht; dsimp only))
      go_ret
      exact ⟨rfl, HB2.out⟩
    | true =>
      have HS := Lib.hid hs
      cases hq : right a.data.toList with
      | false =>
        rw [verify_wrong (.inr (.inr hq))]
        have HQ := Lib.hid hq
        clear hp hs hq
        go_enter Try.func21, Try.ntmps21
        go_wp2_with (first
          | (go_at_call 52; with_reducible refine (whole_any a _).mono ?_; rintro e w3 ⟨ht, hb⟩; obtain rfl := ht.zero HQ.out; have HB3 := Lib.hid (HB2.out.trans (hb.mono HB2.out.size)); clear hb ht; dsimp only)
          | (go_at_call 52; with_reducible refine (whole_any s _).mono ?_; rintro e w2 ⟨ht, hb⟩; obtain ⟨T2, v2, _, rfl⟩ := ht.pos HS.out; have HB2 := Lib.hid (HB1.out.trans (hb.mono HB1.out.size)); clear hb ht; dsimp only)
          | (go_at_call 52; with_reducible refine (whole_any p _).mono ?_; rintro e w1 ⟨ht, hb⟩; obtain ⟨T, v, _, rfl⟩ := ht.pos HP.out; have HB1 := Lib.hid hb; clear hb ht; dsimp only))
        go_ret
        exact ⟨rfl, HB3.out⟩
      | true =>
        have HQ := Lib.hid hq
        rw [verify_eq hp hq hs]
        by_cases hx : p.data.toList.headD 0 = 117
        · have HX := Lib.hid hx
          have q2 := is_publicOne
          obtain ⟨P, hP, hpl⟩ := pub_form hp hx
          have HPL := Lib.hid hpl
          have htl : p.data.toList.tail = P := by rw [hpl]; rfl
          rw [htl]
          by_cases hy : s.data.toList.headD 0 = 103
          · have HY := Lib.hid hy
            have q3 := is_signed
            obtain ⟨G, I, hG, hI, hsl⟩ := signed_form hs hy
            have HSL := Lib.hid hsl
            have HG := Lib.hid hG
            by_cases hg : G = P
            · by_cases hi : I = a.data.toList
              · rw [if_pos ⟨hx, by rw [hsl, hg, hi]⟩]
                have HGP := Lib.hid hg
                have HIA := Lib.hid hi
                clear hp hs hq hx hy hP hpl htl hG hI hsl hg hi
                go_enter Try.func21, Try.ntmps21
                go_wp2_with (first
                  | (go_at_call 52; with_reducible refine (whole_any a _).mono ?_; rintro e w3 ⟨ht, hb⟩; obtain ⟨T3, v3, _, rfl⟩ := ht.pos HQ.out; have HB3 := Lib.hid (HB2.out.trans (hb.mono HB2.out.size)); clear hb ht; dsimp only)
                  | (go_at_call 52; with_reducible refine (whole_any s _).mono ?_; rintro e w2 ⟨ht, hb⟩; obtain ⟨T2, v2, hsh2, rfl⟩ := ht.pos HS.out; obtain ⟨rfl, X, Y, rfl, hX, hY, hl⟩ := hsh2.of_signed HY.out; have hxy := two_same HG.out hX (HSL.out.symm.trans hl); have hk1 := eq_bool (s := X) (t := Z) (hxy.1.symm.trans (HGP.out.trans HZ.out)); have hk2 := eq_bool (s := Y) (t := a) (hxy.2.symm.trans HIA.out); clear hX hY hl hxy hsh2; have HB2 := Lib.hid (HB1.out.trans (hb.mono HB1.out.size)); clear hb ht; dsimp only)
                  | (go_at_call 52; with_reducible refine (whole_any p _).mono ?_; rintro e w1 ⟨ht, hb⟩; obtain ⟨T, v, hsh, rfl⟩ := ht.pos HP.out; obtain ⟨rfl, Z, rfl, _, hl⟩ := hsh.of_publicOne HX.out; have hz : P = Z.data.toList := (List.cons.inj (HPL.out.symm.trans hl)).2; have HZ := Lib.hid hz; clear hl hz hsh; have HB1 := Lib.hid hb; clear hb ht; dsimp only))
                go_ret
                exact ⟨rfl, below2 HB3.out _ _⟩
              · rw [if_neg (fun h => hi (by have h2 := h.2; rw [hsl] at h2; exact (two_same hG hP h2).2))]
                have HGP := Lib.hid hg
                have HIA := Lib.hid hi
                clear hp hs hq hx hy hP hpl htl hG hI hsl hg hi
                go_enter Try.func21, Try.ntmps21
                go_wp2_with (first
                  | (go_at_call 52; with_reducible refine (whole_any a _).mono ?_; rintro e w3 ⟨ht, hb⟩; obtain ⟨T3, v3, _, rfl⟩ := ht.pos HQ.out; have HB3 := Lib.hid (HB2.out.trans (hb.mono HB2.out.size)); clear hb ht; dsimp only)
                  | (go_at_call 52; with_reducible refine (whole_any s _).mono ?_; rintro e w2 ⟨ht, hb⟩; obtain ⟨T2, v2, hsh2, rfl⟩ := ht.pos HS.out; obtain ⟨rfl, X, Y, rfl, hX, hY, hl⟩ := hsh2.of_signed HY.out; have hxy := two_same HG.out hX (HSL.out.symm.trans hl); have hk1 := eq_bool (s := X) (t := Z) (hxy.1.symm.trans (HGP.out.trans HZ.out)); have hk2 := ne_bool (s := Y) (t := a) (fun h => absurd (hxy.2.trans h) HIA.out); clear hX hY hl hxy hsh2; have HB2 := Lib.hid (HB1.out.trans (hb.mono HB1.out.size)); clear hb ht; dsimp only)
                  | (go_at_call 52; with_reducible refine (whole_any p _).mono ?_; rintro e w1 ⟨ht, hb⟩; obtain ⟨T, v, hsh, rfl⟩ := ht.pos HP.out; obtain ⟨rfl, Z, rfl, _, hl⟩ := hsh.of_publicOne HX.out; have hz : P = Z.data.toList := (List.cons.inj (HPL.out.symm.trans hl)).2; have HZ := Lib.hid hz; clear hl hz hsh; have HB1 := Lib.hid hb; clear hb ht; dsimp only))
                go_ret
                exact ⟨rfl, below2 HB3.out _ _⟩
            · rw [if_neg (fun h => hg (by have h2 := h.2; rw [hsl] at h2; exact (two_same hG hP h2).1))]
              have HGP := Lib.hid hg
              clear hp hs hq hx hy hP hpl htl hG hI hsl hg
              go_enter Try.func21, Try.ntmps21
              go_wp2_with (first
                | (go_at_call 52; with_reducible refine (whole_any a _).mono ?_; rintro e w3 ⟨ht, hb⟩; obtain ⟨T3, v3, _, rfl⟩ := ht.pos HQ.out; have HB3 := Lib.hid (HB2.out.trans (hb.mono HB2.out.size)); clear hb ht; dsimp only)
                | (go_at_call 52; with_reducible refine (whole_any s _).mono ?_; rintro e w2 ⟨ht, hb⟩; obtain ⟨T2, v2, hsh2, rfl⟩ := ht.pos HS.out; obtain ⟨rfl, X, Y, rfl, hX, hY, hl⟩ := hsh2.of_signed HY.out; have hxy := two_same HG.out hX (HSL.out.symm.trans hl); have hk1 := ne_bool (s := X) (t := Z) (fun h => absurd (hxy.1.trans (h.trans HZ.out.symm)) HGP.out); clear hX hY hl hxy hsh2; have HB2 := Lib.hid (HB1.out.trans (hb.mono HB1.out.size)); clear hb ht; dsimp only)
                | (go_at_call 52; with_reducible refine (whole_any p _).mono ?_; rintro e w1 ⟨ht, hb⟩; obtain ⟨T, v, hsh, rfl⟩ := ht.pos HP.out; obtain ⟨rfl, Z, rfl, _, hl⟩ := hsh.of_publicOne HX.out; have hz : P = Z.data.toList := (List.cons.inj (HPL.out.symm.trans hl)).2; have HZ := Lib.hid hz; clear hl hz hsh; have HB1 := Lib.hid hb; clear hb ht; dsimp only))
              go_ret
              exact ⟨rfl, below2 HB3.out _ _⟩
          · have HY := Lib.hid hy
            rw [if_neg (fun h => hy (by rw [h.2]; rfl))]
            clear hp hs hq hx hy hP hpl htl
            go_enter Try.func21, Try.ntmps21
            go_wp2_with (first
              | (go_at_call 52; with_reducible refine (whole_any a _).mono ?_; rintro e w3 ⟨ht, hb⟩; obtain ⟨T3, v3, _, rfl⟩ := ht.pos HQ.out; have HB3 := Lib.hid (HB2.out.trans (hb.mono HB2.out.size)); clear hb ht; dsimp only)
              | (go_at_call 52; with_reducible refine (whole_any s _).mono ?_; rintro e w2 ⟨ht, hb⟩; obtain ⟨T2, v2, hsh2, rfl⟩ := ht.pos HS.out; have q3 := fun w => no_signed T2 v2 w (hsh2.no_signed HY.out); clear hsh2; have HB2 := Lib.hid (HB1.out.trans (hb.mono HB1.out.size)); clear hb ht; dsimp only)
              | (go_at_call 52; with_reducible refine (whole_any p _).mono ?_; rintro e w1 ⟨ht, hb⟩; obtain ⟨T, v, hsh, rfl⟩ := ht.pos HP.out; obtain ⟨rfl, Z, rfl, _, hl⟩ := hsh.of_publicOne HX.out; have hz : P = Z.data.toList := (List.cons.inj (HPL.out.symm.trans hl)).2; have HZ := Lib.hid hz; clear hl hz hsh; have HB1 := Lib.hid hb; clear hb ht; dsimp only))
            go_ret
            exact ⟨rfl, below2 HB3.out _ _⟩
        · have HX := Lib.hid hx
          rw [if_neg (fun h => hx h.1)]
          clear hp hs hq hx
          go_enter Try.func21, Try.ntmps21
          go_wp2_with (first
            | (go_at_call 52; with_reducible refine (whole_any a _).mono ?_; rintro e w3 ⟨ht, hb⟩; obtain ⟨T3, v3, _, rfl⟩ := ht.pos HQ.out; have HB3 := Lib.hid (HB2.out.trans (hb.mono HB2.out.size)); clear hb ht; dsimp only)
            | (go_at_call 52; with_reducible refine (whole_any s _).mono ?_; rintro e w2 ⟨ht, hb⟩; obtain ⟨T2, v2, _, rfl⟩ := ht.pos HS.out; have HB2 := Lib.hid (HB1.out.trans (hb.mono HB1.out.size)); clear hb ht; dsimp only)
            | (go_at_call 52; with_reducible refine (whole_any p _).mono ?_; rintro e w1 ⟨ht, hb⟩; obtain ⟨T, v, hsh, rfl⟩ := ht.pos HP.out; have q2 := fun w => no_publicOne T v w (hsh.no_publicOne HX.out); clear hsh; have HB1 := Lib.hid hb; clear hb ht; dsimp only))
          go_ret
          exact ⟨rfl, HB3.out.alloc HB3.out.size _⟩
end Go.Proofs.Ytgjjbeejfdkjdaa.Term
