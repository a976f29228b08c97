/-
  CONTRACTS of the code's OfPair, OfHash, Seal, OfPublic, Box, Sign, OfAtom, OfText, Unbox, Verify (package term). By an AI agent; no person has read it.
-/
import Derived.Test.YtcplagomhfdoaaaTJoin
import Derived.Test.YtcplagomhfdoaaaTOpen
namespace Go.Proofs.Ytcplagomhfdoaaa.Term
open Go.RowKit Wire

theorem glued_two (k : UInt8) (a b : ByteArray) : glued k [a, b] = two k a.data.toList b.data.toList := by
  unfold glued two
  have e : cat [a, b] = a.data.toList ++ b.data.toList := by simp [cat]
  rw [e]
  simp
theorem glued_one (k : UInt8) (a : ByteArray) : glued k [a] = one k a.data.toList := by
  unfold glued one
  have e : cat [a] = a.data.toList := by simp [cat]
  rw [e]
  simp
theorem join_two (k : UInt8) (W w : World) (a b : ByteArray) (g : Nat) (hg : g = W.heap.size) (hb : Below w.heap.size w W) :
    Calls Try.prog 43 #[.int .u8 (k.toNat : Int), .slice (some ⟨g, 0, none⟩) 2 2] (W.alloc (.cells #[.string a, .string b] 9)) fun e w' => Sr (two k a.data.toList b.data.toList) e ∧ Below w.heap.size w w' := by
  refine (join_any k (some ⟨g, 0, none⟩) 2 [a, b] _ (pair_reads' W a b g hg) (Nat.le_refl _) (Nat.le_refl _)).mono fun e w' ⟨h1, h2⟩ => ⟨by rw [← glued_two]; exact h1, after_alloc hb h2⟩
theorem join_one (k : UInt8) (W w : World) (a : ByteArray) (g : Nat) (hg : g = W.heap.size) (hb : Below w.heap.size w W) :
    Calls Try.prog 43 #[.int .u8 (k.toNat : Int), .slice (some ⟨g, 0, none⟩) 1 1] (W.alloc (.cells #[.string a] 9)) fun e w' => Sr (one k a.data.toList) e ∧ Below w.heap.size w w' := by
  refine (join_any k (some ⟨g, 0, none⟩) 1 [a] _ (one_reads W a g hg) (by simp) (Nat.le_refl _)).mono fun e w' ⟨h1, h2⟩ => ⟨by rw [← glued_one]; exact h1, after_alloc hb h2⟩
set_option maxHeartbeats 1000000 in
theorem t_OfPair (a b : ByteArray) (w : World) (_ : a.size ≤ 140737488355328) (_ : b.size ≤ 140737488355328) :
    Calls Try.prog 24 #[.string a, .string b] w fun e w' => Sr (two 112 a.data.toList b.data.toList) e ∧ Below w.heap.size w w' := by
  have HC := Lib.hid (join_two 112 w w a b w.heap.size rfl (Below.refl _ _))
  obtain ⟨x, f, hx⟩ : ∃ x f, two 112 a.data.toList b.data.toList = (x, f) := ⟨_, _, rfl⟩
  rw [hx] at HC ⊢
  clear hx
  go_enter Try.func24, Try.ntmps24
  go_wp2_with (go_at_call 43; refine HC.out.mono ?_; rintro e w1 ⟨⟨T, hT, rfl⟩, hb1⟩; have HB1 := Lib.hid hb1; have HT := Lib.hid hT; clear hb1 hT; dsimp only)
  go_ret2
  exact ⟨⟨T, HT.out, rfl⟩, HB1.out⟩
set_option maxHeartbeats 1000000 in
theorem t_Seal (a b : ByteArray) (w : World) (_ : a.size ≤ 140737488355328) (_ : b.size ≤ 140737488355328) :
    Calls Try.prog 20 #[.string a, .string b] w fun e w' => Sr (two 115 a.data.toList b.data.toList) e ∧ Below w.heap.size w w' := by
  have HC := Lib.hid (join_two 115 w w a b w.heap.size rfl (Below.refl _ _))
  obtain ⟨x, f, hx⟩ : ∃ x f, two 115 a.data.toList b.data.toList = (x, f) := ⟨_, _, rfl⟩
  rw [hx] at HC ⊢
  clear hx
  go_enter Try.func20, Try.ntmps20
  go_wp2_with (go_at_call 43; refine HC.out.mono ?_; rintro e w1 ⟨⟨T, hT, rfl⟩, hb1⟩; have HB1 := Lib.hid hb1; have HT := Lib.hid hT; clear hb1 hT; dsimp only)
  go_ret2
  exact ⟨⟨T, HT.out, rfl⟩, HB1.out⟩
set_option maxHeartbeats 1000000 in
theorem t_OfHash (a : ByteArray) (w : World) (_ : a.size ≤ 140737488355328) :
    Calls Try.prog 25 #[.string a] w fun e w' => Sr (one 104 a.data.toList) e ∧ Below w.heap.size w w' := by
  have HC := Lib.hid (join_one 104 w w a w.heap.size rfl (Below.refl _ _))
  obtain ⟨x, f, hx⟩ : ∃ x f, one 104 a.data.toList = (x, f) := ⟨_, _, rfl⟩
  rw [hx] at HC ⊢
  clear hx
  go_enter Try.func25, Try.ntmps25
  go_wp2_with (go_at_call 43; refine HC.out.mono ?_; rintro e w1 ⟨⟨T, hT, rfl⟩, hb1⟩; have HB1 := Lib.hid hb1; have HT := Lib.hid hT; clear hb1 hT; dsimp only)
  go_ret2
  exact ⟨⟨T, HT.out, rfl⟩, HB1.out⟩
set_option maxHeartbeats 1000000 in
theorem t_OfPublic (a : ByteArray) (w : World) (_ : a.size ≤ 140737488355328) :
    Calls Try.prog 21 #[.string a] w fun e w' => Sr (one 117 a.data.toList) e ∧ Below w.heap.size w w' := by
  have HC := Lib.hid (join_one 117 w w a w.heap.size rfl (Below.refl _ _))
  obtain ⟨x, f, hx⟩ : ∃ x f, one 117 a.data.toList = (x, f) := ⟨_, _, rfl⟩
  rw [hx] at HC ⊢
  clear hx
  go_enter Try.func21, Try.ntmps21
  go_wp2_with (go_at_call 43; refine HC.out.mono ?_; rintro e w1 ⟨⟨T, hT, rfl⟩, hb1⟩; have HB1 := Lib.hid hb1; have HT := Lib.hid hT; clear hb1 hT; dsimp only)
  go_ret2
  exact ⟨⟨T, HT.out, rfl⟩, HB1.out⟩
set_option maxHeartbeats 2000000 in
theorem t_Box (a b : ByteArray) (w : World) (_ : a.size ≤ 140737488355328) (_ : b.size ≤ 140737488355328) :
    Calls Try.prog 22 #[.string a, .string b] w fun e w' => Sr (box a.data.toList b.data.toList) e ∧ Below w.heap.size w w' := by
  have q0 := nil_no
  have q1 := nil_yes
  cases hr : right a.data.toList with
  | false =>
    have hm : box a.data.toList b.data.toList = ([], 1) := by unfold box; rw [if_neg (by rw [hr]; simp)]
    rw [hm]
    have HR := Lib.hid hr
    have q2 := nil_publicOne
    clear hr hm
    go_enter Try.func22, Try.ntmps22
    go_wp2_with (go_at_call 44; with_reducible refine (whole_any a _).mono ?_; rintro e w1 ⟨ht, hb⟩; obtain rfl := ht.zero HR.out; have HB1 := Lib.hid hb; clear hb ht; dsimp only)
    go_ret2
    exact ⟨sr_nil _, HB1.out.alloc HB1.out.size _⟩
  | true =>
    have HR := Lib.hid hr
    by_cases hx : a.data.toList.headD 0 = 117
    · have hm : box a.data.toList b.data.toList = two 98 a.data.toList b.data.toList := by
        have hu : a.data.toList.head? = some 117 := by
          cases hl : a.data.toList with
          | nil => rw [hl] at hr; cases hr
          | cons x y => rw [hl] at hx; rw [← hx]; rfl
        unfold box; rw [if_pos ⟨hr, hu⟩]
      have HX := Lib.hid hx
      have q2 := is_publicOne
      have HC : Hid (∀ (w1 : World) (o : Obj) (g : Nat), g = (w1.alloc o).heap.size → Below w.heap.size w w1 → Calls Try.prog 43 #[.int .u8 98, .slice (some ⟨g, 0, none⟩) 2 2] ((w1.alloc o).alloc (.cells #[.string a, .string b] 9)) fun e w' => Sr (two 98 a.data.toList b.data.toList) e ∧ Below w.heap.size w w') := fun w1 o g hg hb => join_two 98 (w1.alloc o) w a b g hg (hb.alloc hb.size o)
      rw [hm]
      obtain ⟨x, f, hx2⟩ : ∃ x f, two 98 a.data.toList b.data.toList = (x, f) := ⟨_, _, rfl⟩
      rw [hx2] at HC ⊢
      clear hr hm hx hx2
      go_enter Try.func22, Try.ntmps22
      go_wp2_with (first
        | (go_at_call 43; refine (HC.out w1 _ _ (by simp) HB1.out).mono ?_; rintro e w2 ⟨⟨T2, hT, rfl⟩, hb2⟩; have HB2 := Lib.hid hb2; have HT := Lib.hid hT; clear hb2 hT; dsimp only)
        | (go_at_call 44; with_reducible refine (whole_any a _).mono ?_; rintro e w1 ⟨ht, hb⟩; obtain ⟨T, v, hsh, rfl⟩ := ht.pos HR.out; obtain ⟨rfl, X, rfl, _, _⟩ := hsh.of_publicOne HX.out; clear hsh; have HB1 := Lib.hid hb; clear hb ht; dsimp only))
      go_ret2
      exact ⟨⟨T2, HT.out, rfl⟩, HB2.out⟩
    · have hm : box a.data.toList b.data.toList = ([], 1) := by
        unfold box; rw [if_neg]; rintro ⟨_, h⟩
        cases hl : a.data.toList with
        | nil => rw [hl] at h; cases h
        | cons x y => rw [hl] at h hx; exact hx (Option.some.inj h)
      have HX := Lib.hid hx
      rw [hm]
      clear hr hm hx
      go_enter Try.func22, Try.ntmps22
      go_wp2_with (go_at_call 44; with_reducible refine (whole_any a _).mono ?_; rintro e w1 ⟨ht, hb⟩; obtain ⟨T, v, hsh, rfl⟩ := ht.pos HR.out; have q2 := fun w => no_publicOne T v w (hsh.no_publicOne HX.out); clear hsh; have HB1 := Lib.hid hb; clear hb ht; dsimp only)
      go_ret2
      exact ⟨sr_nil _, HB1.out.alloc HB1.out.size _⟩
set_option maxHeartbeats 1000000 in
theorem t_OfAtom (n : Nat) (w : World) (hn : n < 18446744073709551616) :
    Calls Try.prog 19 #[.int .u64 n] w fun e w' => St (ofAtom n) e ∧ Below w.heap.size w w' := by
  have HN := Lib.hid hn
  clear hn
  go_enter Try.func19, Try.ntmps19
  go_wp2_with (go_at_call 42; refine (put_any n _ HN.out).mono ?_; rintro e w1 ⟨⟨T, hT, rfl⟩, hb1⟩; have hz : T.size ≤ 9 := (put_size hT HN.out); have HB1 := Lib.hid hb1; have HT := Lib.hid hT; clear hb1 hT)
  go_ret
  exact ⟨⟨_, by rw [app_data, HT.out]; rfl, rfl⟩, HB1.out⟩
theorem unbox_wrong {key c : List UInt8} (h : right key = false ∨ right c = false) : unbox key c = ([], 1) := by
  unfold unbox; rw [if_neg]; rintro ⟨h1, h2⟩
  rcases h with h | h
  · rw [h1] at h; cases h
  · rw [h2] at h; cases h
theorem unbox_eq {key c : List UInt8} (h : right key = true) (h2 : right c = true) : unbox key c = opens 98 (117 :: key) c := by unfold unbox; rw [if_pos ⟨h, h2⟩]
end Go.Proofs.Ytcplagomhfdoaaa.Term
