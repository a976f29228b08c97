/-
  CONTRACTS of the code's OfPair, OfHash, Seal, OfPublic, Box, Sign, OfAtom, OfText, Unbox, Verify (package term). By an AI agent; no person has read it.
-/
import Derived.Test.YtahlilhdiklemaaTJoin
import Derived.Test.YtahlilhdiklemaaTOpen
namespace Go.Proofs.Ytahlilhdiklemaa.Term
open Go.RowKit Wire

theorem glued_two (k : UInt8) (a b : ByteArray) : glued k [a, b] = two k a.data.toList b.data.toList := by
  unfold glued two
  have e : cat [a, b] = a.data.toList ++ b.data.toList := by simp [cat]
  rw [e]
  simp
theorem glued_one (k : UInt8) (a : ByteArray) : glued k [a] = one k a.data.toList := by
  unfold glued one
  have e : cat [a] = a.data.toList := by simp [cat]
  rw [e]
  simp
theorem join_two (k : UInt8) (W w : World) (a b : ByteArray) (g : Nat) (hg : g = W.heap.size) (hb : Below w.heap.size w W) :
    Calls Try.prog 29 #[.int .u8 (k.toNat : Int), .slice (some ⟨g, 0, none⟩) 2 2] (W.alloc (.cells #[.string a, .string b] 9)) fun e w' => Sr (two k a.data.toList b.data.toList) e ∧ Below w.heap.size w w' := by
  refine (join_any k (some ⟨g, 0, none⟩) 2 [a, b] _ (pair_reads' W a b g hg) (Nat.le_refl _) (Nat.le_refl _)).mono fun e w' ⟨h1, h2⟩ => ⟨by rw [← glued_two]; exact h1, after_alloc hb h2⟩
theorem join_one (k : UInt8) (W w : World) (a : ByteArray) (g : Nat) (hg : g = W.heap.size) (hb : Below w.heap.size w W) :
    Calls Try.prog 29 #[.int .u8 (k.toNat : Int), .slice (some ⟨g, 0, none⟩) 1 1] (W.alloc (.cells #[.string a] 9)) fun e w' => Sr (one k a.data.toList) e ∧ Below w.heap.size w w' := by
  refine (join_any k (some ⟨g, 0, none⟩) 1 [a] _ (one_reads W a g hg) (by simp) (Nat.le_refl _)).mono fun e w' ⟨h1, h2⟩ => ⟨by rw [← glued_one]; exact h1, after_alloc hb h2⟩
set_option maxHeartbeats 1000000 in
theorem t_OfPair (a b : ByteArray) (w : World) (_ : a.size ≤ 140737488355328) (_ : b.size ≤ 140737488355328) :
    Calls Try.prog 22 #[.string a, .string b] w fun e w' => Sr (two 112 a.data.toList b.data.toList) e ∧ Below w.heap.size w w' := by
  have HC := Lib.hid (join_two 112 w w a b w.heap.size rfl (Below.refl _ _))
  obtain ⟨x, f, hx⟩ : ∃ x f, two 112 a.data.toList b.data.toList = (x, f) := ⟨_, _, rfl⟩
  rw [hx] at HC ⊢
  clear hx
  go_enter Try.func22, Try.ntmps22
  go_wp2_with (go_at_call 29; refine HC.out.mono ?_; rintro e w1 ⟨⟨T, hT, rfl⟩, hb1⟩; have HB1 := Lib.hid hb1; have HT := Lib.hid hT; clear hb1 hT; dsimp only)
  go_ret2
  exact ⟨⟨T, HT.out, rfl⟩, HB1.out⟩
set_option maxHeartbeats 1000000 in
theorem t_OfHash (a : ByteArray) (w : World) (_ : a.size ≤ 140737488355328) :
    Calls Try.prog 23 #[.string a] w fun e w' => Sr (one 104 a.data.toList) e ∧ Below w.heap.size w w' := by
  have HC := Lib.hid (join_one 104 w w a w.heap.size rfl (Below.refl _ _))
  obtain ⟨x, f, hx⟩ : ∃ x f, one 104 a.data.toList = (x, f) := ⟨_, _, rfl⟩
  rw [hx] at HC ⊢
  clear hx
  go_enter Try.func23, Try.ntmps23
  go_wp2_with (go_at_call 29; refine HC.out.mono ?_; rintro e w1 ⟨⟨T, hT, rfl⟩, hb1⟩; have HB1 := Lib.hid hb1; have HT := Lib.hid hT; clear hb1 hT; dsimp only)
  go_ret2
  exact ⟨⟨T, HT.out, rfl⟩, HB1.out⟩
set_option maxHeartbeats 1000000 in
theorem t_OfPublic (a : ByteArray) (w : World) (_ : a.size ≤ 140737488355328) :
    Calls Try.prog 18 #[.string a] w fun e w' => Sr (one 117 a.data.toList) e ∧ Below w.heap.size w w' := by
  have HC := Lib.hid (join_one 117 w w a w.heap.size rfl (Below.refl _ _))
  obtain ⟨x, f, hx⟩ : ∃ x f, one 117 a.data.toList = (x, f) := ⟨_, _, rfl⟩
  rw [hx] at HC ⊢
  clear hx
  go_enter Try.func18, Try.ntmps18
  go_wp2_with (go_at_call 29; refine HC.out.mono ?_; rintro e w1 ⟨⟨T, hT, rfl⟩, hb1⟩; have HB1 := Lib.hid hb1; have HT := Lib.hid hT; clear hb1 hT; dsimp only)
  go_ret2
  exact ⟨⟨T, HT.out, rfl⟩, HB1.out⟩
set_option maxHeartbeats 1000000 in
theorem t_OfAtom (n : Nat) (w : World) (hn : n < 18446744073709551616) :
    Calls Try.prog 20 #[.int .u64 n] w fun e w' => St (ofAtom n) e ∧ Below w.heap.size w w' := by
  have HN := Lib.hid hn
  clear hn
  go_enter Try.func20, Try.ntmps20
  go_wp2_with (go_at_call 35; refine (put_any n _ HN.out).mono ?_; rintro e w1 ⟨⟨T, hT, rfl⟩, hb1⟩; have hz : T.size ≤ 9 := (put_size hT HN.out); have HB1 := Lib.hid hb1; have HT := Lib.hid hT; clear hb1 hT)
  go_ret
  exact ⟨⟨_, by rw [app_data, HT.out]; rfl, rfl⟩, HB1.out⟩
set_option maxHeartbeats 1000000 in
theorem t_OfText (a : ByteArray) (w : World) (_ : a.size ≤ 140737488355000) :
    Calls Try.prog 21 #[.string a] w fun e w' => Sr (ofText a.data.toList) e ∧ Below w.heap.size w w' := by
  have q0 := nil_no
  have q1 := nil_yes
  by_cases hl : (a.size : Int) ≤ 4000
  · go_enter Try.func21, Try.ntmps21
    go_wp2_with fail
    refine (putText_any a _ (by omega)).mono ?_
    rintro e w1 ⟨⟨P, hP, rfl⟩, hb1⟩
    have HB1 := Lib.hid hb1
    have hPz : P.size ≤ 5000 := by
      have h1 := (put_le (n := a.data.toList.length) (by rw [← Lib.size_eq]; omega)).2
      have h2 := Lib.size_eq a
      rw [Lib.size_eq, hP, putText_len]; omega
    have htp : ((ByteArray.mk #[116]) ++ P).data.toList = 116 :: putText a.data.toList := by rw [app_data, hP]; rfl
    have HTP := Lib.hid htp
    clear hb1 hP htp
    go_wp2_with fail
    obtain ⟨S, hS⟩ : ∃ S, (ByteArray.mk #[116]) ++ P = S := ⟨_, rfl⟩
    rw [hS] at HTP ⊢
    clear hS
    have e : ofText a.data.toList = made S.data.toList := by unfold ofText; rw [HTP.out]
    have HE := Lib.hid e
    clear e
    refine (whole_any S _).mono ?_
    rintro e w2 ⟨ht, hb2⟩
    have HB2 := Lib.hid (HB1.out.trans (hb2.mono HB1.out.size))
    cases hrs : right S.data.toList with
    | true =>
      obtain ⟨T2, v, hsh, rfl⟩ := ht.pos hrs
      have HRS := Lib.hid hrs
      clear hrs ht hb2 hsh
      dsimp only
      go_wp2
      go_ret2
      rw [HE.out]
      unfold made
      rw [if_pos HRS.out]
      exact ⟨⟨S, rfl, rfl⟩, HB2.out⟩
    | false =>
      obtain rfl := ht.zero hrs
      have HRS := Lib.hid hrs
      clear hrs ht hb2
      dsimp only
      go_wp2
      go_ret2
      rw [HE.out]
      unfold made
      rw [if_neg (by rw [HRS.out]; decide)]
      exact ⟨sr_nil _, HB2.out⟩
  · have hm : ofText a.data.toList = ([], 10) := by
      unfold ofText made
      rw [if_neg]
      intro h
      have h1 := (right_len h).2
      rw [List.length_cons, putText_len, ← Lib.size_eq] at h1
      omega
    rw [hm]
    clear hm
    go_enter Try.func21, Try.ntmps21
    go_wp2_with fail
    go_ret2
    exact ⟨sr_nil _, Below.refl _ _⟩
theorem unbox_wrong {key c : List UInt8} (h : right key = false ∨ right c = false) : unbox key c = ([], 1) := by
  unfold unbox; rw [if_neg]; rintro ⟨h1, h2⟩
  rcases h with h | h
  · rw [h1] at h; cases h
  · rw [h2] at h; cases h
theorem unbox_eq {key c : List UInt8} (h : right key = true) (h2 : right c = true) : unbox key c = opens 98 (117 :: key) c := by unfold unbox; rw [if_pos ⟨h, h2⟩]
end Go.Proofs.Ytahlilhdiklemaa.Term
