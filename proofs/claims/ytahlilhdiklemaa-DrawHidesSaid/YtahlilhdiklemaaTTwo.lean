/-
  CONTRACTS of the code's takeTwo (package term). By an AI agent; no person has read it.
-/
import Derived.Test.YtahlilhdiklemaaTTakes
namespace Go.Proofs.Ytahlilhdiklemaa.Term
open Go.RowKit Wire

theorem drew_cell (w : World) (nq : Nat) (v : Value) (t : TypeId) : ((w.drewN nq).alloc (.cells #[v] t)).cell? ⟨w.heap.size, 0, none⟩ = some v := by
  rw [cell_of_row ((w.drewN nq).alloc (.cells #[v] t)) w.heap.size 0 #[v] t (0, 0) (heap_alloc_new (w.drewN nq) _)]
  rfl
theorem drew_frozen (w : World) (nq : Nat) (v : Value) (t : TypeId) : ((w.drewN nq).alloc (.cells #[v] t)).frozen? ⟨w.heap.size, 0, none⟩ = false := by
  have h : ((w.drewN nq).alloc (.cells #[v] t)).heap[w.heap.size]? = some (.cells #[v] t (0, 0)) := heap_alloc_new (w.drewN nq) _
  unfold World.frozen?
  simp only [h]
  rfl
theorem Shp.pub_agg {l : List UInt8} {a : Value} (h : Shp l (.iface 103 a)) : ∃ X : ByteArray, a = .agg #[.string X] := by
  rcases h with ⟨_, _, hl, h⟩ | ⟨_, _, hl, h⟩ | ⟨_, _, hl, h⟩ | ⟨_, _, hl, h⟩ | ⟨_, _, _, hl, h⟩ | ⟨_, _, _, hl, h⟩ | ⟨_, _, _, hl, h⟩ | ⟨_, _, _, hl, h⟩
  case inr.inr.inr.inl => injection h with _ h2; exact ⟨_, h2⟩
  all_goals (injection h with h1 _; exact absurd h1 (by decide))
theorem head_take {l : List UInt8} {n : Nat} (h : n ≠ 0) : (l.take n).head? = l.head? := by
  cases l with
  | nil => simp
  | cons x y =>
    obtain ⟨k, rfl⟩ : ∃ k, n = k + 1 := ⟨n - 1, by omega⟩
    rfl

set_option maxHeartbeats 2000000 in
theorem takeTwoPair (d : Nat) (ih : TakeAt d) (s : ByteArray) (w : World) (hd : d ≤ 40) (hs : s.size ≤ 4000) :
    Calls Try.prog 61 #[.int .u8 112, .string s, .int .i64 (d : Int)] w fun e w' => Ans 112 s.data.toList (sizes (size d) 2 s.data.toList) e ∧ Below w.heap.size w w' := by
  have IH : Hid (∀ (s : ByteArray) (w : World), s.size ≤ 4000 → Calls Try.prog 53 #[.string s, .int .i64 (d : Int)] w fun e w' => Tks s.data.toList (size d s.data.toList) e ∧ Below w.heap.size w w') := ih
  have q0 := nil_no
  have q1 := nil_yes
  obtain ⟨n, hn⟩ : ∃ n, size d s.data.toList = n := ⟨_, rfl⟩
  have HN := Lib.hid hn
  by_cases h0 : n = 0
  · have hm : (sizes (size d) 2 s.data.toList) = none := by
      have hq : sizes (size d) 2 s.data.toList = none := by unfold sizes; rw [if_pos (by rw [hn]; exact h0)]
      exact hq
    rw [hm]
    have H0 := Lib.hid h0
    clear hm ih hn h0
    go_enter Try.func61, Try.ntmps61
    go_wp2_with (go_at_call 53; with_reducible refine (IH.out s _ hs).mono ?_; rw [HN.out]; rintro e w1 ⟨ht, hb1⟩; obtain rfl := ht.zero H0.out; have HB1 := Lib.hid hb1; clear hb1 ht; dsimp only)
    go_ret2
    exact ⟨rfl, HB1.out⟩
  · obtain ⟨m, hmm⟩ : ∃ m, size d (s.data.toList.drop n) = m := ⟨_, rfl⟩
    have HM := Lib.hid hmm
    have hle := size_le d s.data.toList
    rw [hn, ← Lib.size_eq] at hle
    have H0 := Lib.hid h0
    by_cases h1 : m = 0
    · have hm : (sizes (size d) 2 s.data.toList) = none := by
        have hq : sizes (size d) 2 s.data.toList = none := by
          unfold sizes; rw [if_neg (by rw [hn]; exact h0), hn]
          unfold sizes; rw [if_pos (by rw [hmm]; exact h1)]; rfl
        exact hq
      rw [hm]
      have H1 := Lib.hid h1
      clear hm ih hn h0 h1 hmm
      go_enter Try.func61, Try.ntmps61
      go_wp2_with (first
        | (go_at_call 53; with_reducible refine (IH.out R _ hRs).mono ?_; rw [HRR.out, HM.out]; rintro e w2 ⟨ht, hb2⟩; obtain rfl := ht.zero H1.out; have HB2 := Lib.hid (HB1.out.trans (hb2.mono HB1.out.size)); clear hb2 ht; dsimp only)
        | (go_at_call 53; with_reducible refine (IH.out s _ hs).mono ?_; rw [HN.out]; rintro e w1 ⟨ht, hb1⟩; obtain ⟨T, a, R, hsh, hR, rfl⟩ := ht.pos H0.out; have hRz := rest_size hR; have hRs : R.size ≤ 4000 := (by omega); have hk : (s.size : Int) - (R.size : Int) = (n : Int) := (by omega); have HRR := Lib.hid hR; have HSH := Lib.hid hsh; clear hR hsh; have HB1 := Lib.hid hb1; clear hb1 ht; dsimp only))
      go_ret2
      exact ⟨rfl, HB2.out⟩
    · have hq : sizes (size d) 2 s.data.toList = some (n + m) := by
        unfold sizes; rw [if_neg (by rw [hn]; exact h0), hn]
        unfold sizes; rw [if_neg (by rw [hmm]; exact h1), hmm]; rfl
      have hr := part_right hd hs hn h0
      have hlm := size_le d (s.data.toList.drop n)
      rw [hmm, List.length_drop, ← Lib.size_eq] at hlm
      have H1 := Lib.hid h1
      have HRP := Lib.hid hr
      have HR2 : Hid (∀ R : ByteArray, R.data.toList = s.data.toList.drop n → right (R.extract 0 m).data.toList = true) := fun R hR => part_right hd (by rw [Lib.size_eq, hR, List.length_drop, ← Lib.size_eq]; omega) (by rw [hR]; exact hmm) h1
      have n1 : (0 : Int) ≤ (n : Int) := by omega
      have n2 : (n : Int) ≤ (s.size : Int) := by omega
      have n3 : (0 : Int) ≤ (m : Int) := by omega
      have n4 : (m : Int) ≤ (s.size : Int) - (n : Int) := by omega
      rw [hq]
      clear ih hn h0 h1 hmm hr hq
      go_enter Try.func61, Try.ntmps61
      go_wp2_with (first
        | (go_at_call 53; with_reducible refine (IH.out R _ hRs).mono ?_; rw [HRR.out, HM.out]; rintro e w2 ⟨ht, hb2⟩; obtain ⟨T2, a2, R2, _, hR2, rfl⟩ := ht.pos H1.out; have hRz2 : R2.size = R.size - m := (by rw [Lib.size_eq, hR2, List.length_drop, ← HRR.out, ← Lib.size_eq]); have hk2 : (R.size : Int) - (R2.size : Int) = (m : Int) := (by omega); have HRR2 := Lib.hid hR2; clear hR2 hRz2 hRz; have HB2 := Lib.hid (HB1.out.trans (hb2.mono HB1.out.size)); clear hb2 ht; dsimp only)
        | (go_at_call 53; with_reducible refine (IH.out s _ hs).mono ?_; rw [HN.out]; rintro e w1 ⟨ht, hb1⟩; obtain ⟨T, a, R, hsh, hR, rfl⟩ := ht.pos H0.out; have hRz := rest_size hR; have hRs : R.size ≤ 4000 := (by omega); have hk : (s.size : Int) - (R.size : Int) = (n : Int) := (by omega); have HRR := Lib.hid hR; have HSH := Lib.hid hsh; clear hR hsh; have HB1 := Lib.hid hb1; clear hb1 ht; dsimp only))
      go_quiet (fail)
      go_wp2
      go_ret2
      refine ⟨⟨_, _, R2, ?_, ?_, rfl⟩, ?_⟩
      · have e : 112 :: s.data.toList.take (n + m) = 112 :: ((s.extract 0 n).data.toList ++ (R.extract 0 m).data.toList) := by rw [extract_take, extract_take, HRR.out, List.take_add]
        rw [e]
        exact .pair _ _ HRP.out (HR2.out R HRR.out)
      · rw [HRR2.out, List.drop_drop]
      · exact HB2.out.trans (bdrew _ _)

set_option maxHeartbeats 2000000 in
theorem takeTwoSealed (d : Nat) (ih : TakeAt d) (s : ByteArray) (w : World) (hd : d ≤ 40) (hs : s.size ≤ 4000) :
    Calls Try.prog 61 #[.int .u8 115, .string s, .int .i64 (d : Int)] w fun e w' => Ans 115 s.data.toList (sizes (size d) 2 s.data.toList) e ∧ Below w.heap.size w w' := by
  have IH : Hid (∀ (s : ByteArray) (w : World), s.size ≤ 4000 → Calls Try.prog 53 #[.string s, .int .i64 (d : Int)] w fun e w' => Tks s.data.toList (size d s.data.toList) e ∧ Below w.heap.size w w') := ih
  have q0 := nil_no
  have q1 := nil_yes
  obtain ⟨n, hn⟩ : ∃ n, size d s.data.toList = n := ⟨_, rfl⟩
  have HN := Lib.hid hn
  by_cases h0 : n = 0
  · have hm : (sizes (size d) 2 s.data.toList) = none := by
      have hq : sizes (size d) 2 s.data.toList = none := by unfold sizes; rw [if_pos (by rw [hn]; exact h0)]
      exact hq
    rw [hm]
    have H0 := Lib.hid h0
    clear hm ih hn h0
    go_enter Try.func61, Try.ntmps61
    go_wp2_with (go_at_call 53; with_reducible refine (IH.out s _ hs).mono ?_; rw [HN.out]; rintro e w1 ⟨ht, hb1⟩; obtain rfl := ht.zero H0.out; have HB1 := Lib.hid hb1; clear hb1 ht; dsimp only)
    go_ret2
    exact ⟨rfl, HB1.out⟩
  · obtain ⟨m, hmm⟩ : ∃ m, size d (s.data.toList.drop n) = m := ⟨_, rfl⟩
    have HM := Lib.hid hmm
    have hle := size_le d s.data.toList
    rw [hn, ← Lib.size_eq] at hle
    have H0 := Lib.hid h0
    by_cases h1 : m = 0
    · have hm : (sizes (size d) 2 s.data.toList) = none := by
        have hq : sizes (size d) 2 s.data.toList = none := by
          unfold sizes; rw [if_neg (by rw [hn]; exact h0), hn]
          unfold sizes; rw [if_pos (by rw [hmm]; exact h1)]; rfl
        exact hq
      rw [hm]
      have H1 := Lib.hid h1
      clear hm ih hn h0 h1 hmm
      go_enter Try.func61, Try.ntmps61
      go_wp2_with (first
        | (go_at_call 53; with_reducible refine (IH.out R _ hRs).mono ?_; rw [HRR.out, HM.out]; rintro e w2 ⟨ht, hb2⟩; obtain rfl := ht.zero H1.out; have HB2 := Lib.hid (HB1.out.trans (hb2.mono HB1.out.size)); clear hb2 ht; dsimp only)
        | (go_at_call 53; with_reducible refine (IH.out s _ hs).mono ?_; rw [HN.out]; rintro e w1 ⟨ht, hb1⟩; obtain ⟨T, a, R, hsh, hR, rfl⟩ := ht.pos H0.out; have hRz := rest_size hR; have hRs : R.size ≤ 4000 := (by omega); have hk : (s.size : Int) - (R.size : Int) = (n : Int) := (by omega); have HRR := Lib.hid hR; have HSH := Lib.hid hsh; clear hR hsh; have HB1 := Lib.hid hb1; clear hb1 ht; dsimp only))
      go_ret2
      exact ⟨rfl, HB2.out⟩
    · have hq : sizes (size d) 2 s.data.toList = some (n + m) := by
        unfold sizes; rw [if_neg (by rw [hn]; exact h0), hn]
        unfold sizes; rw [if_neg (by rw [hmm]; exact h1), hmm]; rfl
      have hr := part_right hd hs hn h0
      have hlm := size_le d (s.data.toList.drop n)
      rw [hmm, List.length_drop, ← Lib.size_eq] at hlm
      have H1 := Lib.hid h1
      have HRP := Lib.hid hr
      have HR2 : Hid (∀ R : ByteArray, R.data.toList = s.data.toList.drop n → right (R.extract 0 m).data.toList = true) := fun R hR => part_right hd (by rw [Lib.size_eq, hR, List.length_drop, ← Lib.size_eq]; omega) (by rw [hR]; exact hmm) h1
      have n1 : (0 : Int) ≤ (n : Int) := by omega
      have n2 : (n : Int) ≤ (s.size : Int) := by omega
      have n3 : (0 : Int) ≤ (m : Int) := by omega
      have n4 : (m : Int) ≤ (s.size : Int) - (n : Int) := by omega
      rw [hq]
      clear ih hn h0 h1 hmm hr hq
      go_enter Try.func61, Try.ntmps61
      go_wp2_with (first
        | (go_at_call 53; with_reducible refine (IH.out R _ hRs).mono ?_; rw [HRR.out, HM.out]; rintro e w2 ⟨ht, hb2⟩; obtain ⟨T2, a2, R2, _, hR2, rfl⟩ := ht.pos H1.out; have hRz2 : R2.size = R.size - m := (by rw [Lib.size_eq, hR2, List.length_drop, ← HRR.out, ← Lib.size_eq]); have hk2 : (R.size : Int) - (R2.size : Int) = (m : Int) := (by omega); have HRR2 := Lib.hid hR2; clear hR2 hRz2 hRz; have HB2 := Lib.hid (HB1.out.trans (hb2.mono HB1.out.size)); clear hb2 ht; dsimp only)
        | (go_at_call 53; with_reducible refine (IH.out s _ hs).mono ?_; rw [HN.out]; rintro e w1 ⟨ht, hb1⟩; obtain ⟨T, a, R, hsh, hR, rfl⟩ := ht.pos H0.out; have hRz := rest_size hR; have hRs : R.size ≤ 4000 := (by omega); have hk : (s.size : Int) - (R.size : Int) = (n : Int) := (by omega); have HRR := Lib.hid hR; have HSH := Lib.hid hsh; clear hR hsh; have HB1 := Lib.hid hb1; clear hb1 ht; dsimp only))
      go_quiet (fail)
      go_wp2
      go_ret2
      refine ⟨⟨_, _, R2, ?_, ?_, rfl⟩, ?_⟩
      · have e : 115 :: s.data.toList.take (n + m) = 115 :: ((s.extract 0 n).data.toList ++ (R.extract 0 m).data.toList) := by rw [extract_take, extract_take, HRR.out, List.take_add]
        rw [e]
        exact .sealed _ _ HRP.out (HR2.out R HRR.out)
      · rw [HRR2.out, List.drop_drop]
      · exact HB2.out.trans (bdrew _ _)

set_option maxHeartbeats 2000000 in
theorem takeTwoSigned (d : Nat) (ih : TakeAt d) (s : ByteArray) (w : World) (hd : d ≤ 40) (hs : s.size ≤ 4000) :
    Calls Try.prog 61 #[.int .u8 103, .string s, .int .i64 (d : Int)] w fun e w' => Ans 103 s.data.toList (sizes (size d) 2 s.data.toList) e ∧ Below w.heap.size w w' := by
  have IH : Hid (∀ (s : ByteArray) (w : World), s.size ≤ 4000 → Calls Try.prog 53 #[.string s, .int .i64 (d : Int)] w fun e w' => Tks s.data.toList (size d s.data.toList) e ∧ Below w.heap.size w w') := ih
  have q0 := nil_no
  have q1 := nil_yes
  obtain ⟨n, hn⟩ : ∃ n, size d s.data.toList = n := ⟨_, rfl⟩
  have HN := Lib.hid hn
  by_cases h0 : n = 0
  · have hm : (sizes (size d) 2 s.data.toList) = none := by
      have hq : sizes (size d) 2 s.data.toList = none := by unfold sizes; rw [if_pos (by rw [hn]; exact h0)]
      exact hq
    rw [hm]
    have H0 := Lib.hid h0
    clear hm ih hn h0
    go_enter Try.func61, Try.ntmps61
    go_wp2_with (go_at_call 53; with_reducible refine (IH.out s _ hs).mono ?_; rw [HN.out]; rintro e w1 ⟨ht, hb1⟩; obtain rfl := ht.zero H0.out; have HB1 := Lib.hid hb1; clear hb1 ht; dsimp only)
    go_ret2
    exact ⟨rfl, HB1.out⟩
  · obtain ⟨m, hmm⟩ : ∃ m, size d (s.data.toList.drop n) = m := ⟨_, rfl⟩
    have HM := Lib.hid hmm
    have hle := size_le d s.data.toList
    rw [hn, ← Lib.size_eq] at hle
    have H0 := Lib.hid h0
    by_cases h1 : m = 0
    · have hm : (sizes (size d) 2 s.data.toList) = none := by
        have hq : sizes (size d) 2 s.data.toList = none := by
          unfold sizes; rw [if_neg (by rw [hn]; exact h0), hn]
          unfold sizes; rw [if_pos (by rw [hmm]; exact h1)]; rfl
        exact hq
      rw [hm]
      have H1 := Lib.hid h1
      clear hm ih hn h0 h1 hmm
      go_enter Try.func61, Try.ntmps61
      go_wp2_with (first
        | (go_at_call 53; with_reducible refine (IH.out R _ hRs).mono ?_; rw [HRR.out, HM.out]; rintro e w2 ⟨ht, hb2⟩; obtain rfl := ht.zero H1.out; have HB2 := Lib.hid (HB1.out.trans (hb2.mono HB1.out.size)); clear hb2 ht; dsimp only)
        | (go_at_call 53; with_reducible refine (IH.out s _ hs).mono ?_; rw [HN.out]; rintro e w1 ⟨ht, hb1⟩; obtain ⟨T, a, R, hsh, hR, rfl⟩ := ht.pos H0.out; have hRz := rest_size hR; have hRs : R.size ≤ 4000 := (by omega); have hk : (s.size : Int) - (R.size : Int) = (n : Int) := (by omega); have HRR := Lib.hid hR; have HSH := Lib.hid hsh; clear hR hsh; have HB1 := Lib.hid hb1; clear hb1 ht; dsimp only))
      go_ret2
      exact ⟨rfl, HB2.out⟩
    · have hq : sizes (size d) 2 s.data.toList = some (n + m) := by
        unfold sizes; rw [if_neg (by rw [hn]; exact h0), hn]
        unfold sizes; rw [if_neg (by rw [hmm]; exact h1), hmm]; rfl
      have hr := part_right hd hs hn h0
      have hlm := size_le d (s.data.toList.drop n)
      rw [hmm, List.length_drop, ← Lib.size_eq] at hlm
      have H1 := Lib.hid h1
      have HRP := Lib.hid hr
      have HR2 : Hid (∀ R : ByteArray, R.data.toList = s.data.toList.drop n → right (R.extract 0 m).data.toList = true) := fun R hR => part_right hd (by rw [Lib.size_eq, hR, List.length_drop, ← Lib.size_eq]; omega) (by rw [hR]; exact hmm) h1
      have n1 : (0 : Int) ≤ (n : Int) := by omega
      have n2 : (n : Int) ≤ (s.size : Int) := by omega
      have n3 : (0 : Int) ≤ (m : Int) := by omega
      have n4 : (m : Int) ≤ (s.size : Int) - (n : Int) := by omega
      rw [hq]
      clear ih hn h0 h1 hmm hr hq
      go_enter Try.func61, Try.ntmps61
      go_wp2_with (first
        | (go_at_call 53; with_reducible refine (IH.out R _ hRs).mono ?_; rw [HRR.out, HM.out]; rintro e w2 ⟨ht, hb2⟩; obtain ⟨T2, a2, R2, _, hR2, rfl⟩ := ht.pos H1.out; have hRz2 : R2.size = R.size - m := (by rw [Lib.size_eq, hR2, List.length_drop, ← HRR.out, ← Lib.size_eq]); have hk2 : (R.size : Int) - (R2.size : Int) = (m : Int) := (by omega); have HRR2 := Lib.hid hR2; clear hR2 hRz2 hRz; have HB2 := Lib.hid (HB1.out.trans (hb2.mono HB1.out.size)); clear hb2 ht; dsimp only)
        | (go_at_call 53; with_reducible refine (IH.out s _ hs).mono ?_; rw [HN.out]; rintro e w1 ⟨ht, hb1⟩; obtain ⟨T, a, R, hsh, hR, rfl⟩ := ht.pos H0.out; have hRz := rest_size hR; have hRs : R.size ≤ 4000 := (by omega); have hk : (s.size : Int) - (R.size : Int) = (n : Int) := (by omega); have HRR := Lib.hid hR; have HSH := Lib.hid hsh; clear hR hsh; have HB1 := Lib.hid hb1; clear hb1 ht; dsimp only))
      go_quiet (fail)
      go_wp2
      go_ret2
      refine ⟨⟨_, _, R2, ?_, ?_, rfl⟩, ?_⟩
      · have e : 103 :: s.data.toList.take (n + m) = 103 :: ((s.extract 0 n).data.toList ++ (R.extract 0 m).data.toList) := by rw [extract_take, extract_take, HRR.out, List.take_add]
        rw [e]
        exact .signed _ _ HRP.out (HR2.out R HRR.out)
      · rw [HRR2.out, List.drop_drop]
      · exact HB2.out.trans (bdrew _ _)

set_option maxHeartbeats 2000000 in
theorem takeTwoBoxed (d : Nat) (ih : TakeAt d) (s : ByteArray) (w : World) (hd : d ≤ 40) (hs : s.size ≤ 4000) :
    Calls Try.prog 61 #[.int .u8 98, .string s, .int .i64 (d : Int)] w fun e w' => Ans 98 s.data.toList (if s.data.toList.head? ≠ some 117 then none else sizes (size d) 2 s.data.toList) e ∧ Below w.heap.size w w' := by
  have IH : Hid (∀ (s : ByteArray) (w : World), s.size ≤ 4000 → Calls Try.prog 53 #[.string s, .int .i64 (d : Int)] w fun e w' => Tks s.data.toList (size d s.data.toList) e ∧ Below w.heap.size w w') := ih
  have q0 := nil_no
  have q1 := nil_yes
  obtain ⟨n, hn⟩ : ∃ n, size d s.data.toList = n := ⟨_, rfl⟩
  have HN := Lib.hid hn
  by_cases h0 : n = 0
  · have hm : (if s.data.toList.head? ≠ some 117 then none else sizes (size d) 2 s.data.toList) = none := by
      have hq : sizes (size d) 2 s.data.toList = none := by unfold sizes; rw [if_pos (by rw [hn]; exact h0)]
      split <;> first | rfl | exact hq
    rw [hm]
    have H0 := Lib.hid h0
    clear hm ih hn h0
    go_enter Try.func61, Try.ntmps61
    go_wp2_with (go_at_call 53; with_reducible refine (IH.out s _ hs).mono ?_; rw [HN.out]; rintro e w1 ⟨ht, hb1⟩; obtain rfl := ht.zero H0.out; have HB1 := Lib.hid hb1; clear hb1 ht; dsimp only)
    go_ret2
    exact ⟨rfl, HB1.out⟩
  · obtain ⟨m, hmm⟩ : ∃ m, size d (s.data.toList.drop n) = m := ⟨_, rfl⟩
    have HM := Lib.hid hmm
    have hle := size_le d s.data.toList
    rw [hn, ← Lib.size_eq] at hle
    have H0 := Lib.hid h0
    by_cases h1 : m = 0
    · have hm : (if s.data.toList.head? ≠ some 117 then none else sizes (size d) 2 s.data.toList) = none := by
        have hq : sizes (size d) 2 s.data.toList = none := by
          unfold sizes; rw [if_neg (by rw [hn]; exact h0), hn]
          unfold sizes; rw [if_pos (by rw [hmm]; exact h1)]; rfl
        split <;> first | rfl | exact hq
      rw [hm]
      have H1 := Lib.hid h1
      clear hm ih hn h0 h1 hmm
      go_enter Try.func61, Try.ntmps61
      go_wp2_with (first
        | (go_at_call 53; with_reducible refine (IH.out R _ hRs).mono ?_; rw [HRR.out, HM.out]; rintro e w2 ⟨ht, hb2⟩; obtain rfl := ht.zero H1.out; have HB2 := Lib.hid (HB1.out.trans (hb2.mono HB1.out.size)); clear hb2 ht; dsimp only)
        | (go_at_call 53; with_reducible refine (IH.out s _ hs).mono ?_; rw [HN.out]; rintro e w1 ⟨ht, hb1⟩; obtain ⟨T, a, R, hsh, hR, rfl⟩ := ht.pos H0.out; have hRz := rest_size hR; have hRs : R.size ≤ 4000 := (by omega); have hk : (s.size : Int) - (R.size : Int) = (n : Int) := (by omega); have HRR := Lib.hid hR; have HSH := Lib.hid hsh; clear hR hsh; have HB1 := Lib.hid hb1; clear hb1 ht; dsimp only))
      go_ret2
      exact ⟨rfl, HB2.out⟩
    · have hq : sizes (size d) 2 s.data.toList = some (n + m) := by
        unfold sizes; rw [if_neg (by rw [hn]; exact h0), hn]
        unfold sizes; rw [if_neg (by rw [hmm]; exact h1), hmm]; rfl
      have hr := part_right hd hs hn h0
      have hlm := size_le d (s.data.toList.drop n)
      rw [hmm, List.length_drop, ← Lib.size_eq] at hlm
      have H1 := Lib.hid h1
      have HRP := Lib.hid hr
      have HR2 : Hid (∀ R : ByteArray, R.data.toList = s.data.toList.drop n → right (R.extract 0 m).data.toList = true) := fun R hR => part_right hd (by rw [Lib.size_eq, hR, List.length_drop, ← Lib.size_eq]; omega) (by rw [hR]; exact hmm) h1
      have n1 : (0 : Int) ≤ (n : Int) := by omega
      have n2 : (n : Int) ≤ (s.size : Int) := by omega
      have n3 : (0 : Int) ≤ (m : Int) := by omega
      have n4 : (m : Int) ≤ (s.size : Int) - (n : Int) := by omega
      by_cases hu : s.data.toList.head? = some 117
      · rw [if_neg (by simp [hu]), hq]
        have HH : Hid (∀ (T : TypeId) (a : Value), Shp (s.data.toList.take n) (.iface T a) → T = 103 ∧ ∃ X : ByteArray, a = .agg #[.string X]) := fun T a h => by
          rcases h.head with ⟨h1, _⟩ | ⟨_, h⟩
          · subst h1; exact ⟨rfl, h.pub_agg⟩
          · exact absurd (by rw [head_take h0]; exact hu) h
        have HU := Lib.hid hu
        have HZ := Lib.hid h0
        have q2 := is_publicOne
        clear ih hn h0 h1 hmm hr hq hu
        go_enter Try.func61, Try.ntmps61
        go_wp2_with (first
          | (go_at_call 53; with_reducible refine (IH.out R _ hRs).mono ?_; rw [HRR.out, HM.out]; rintro e w2 ⟨ht, hb2⟩; obtain ⟨T2, a2, R2, _, hR2, rfl⟩ := ht.pos H1.out; have hRz2 : R2.size = R.size - m := (by rw [Lib.size_eq, hR2, List.length_drop, ← HRR.out, ← Lib.size_eq]); have hk2 : (R.size : Int) - (R2.size : Int) = (m : Int) := (by omega); have HRR2 := Lib.hid hR2; clear hR2 hRz2 hRz; have HB2 := Lib.hid (HB1.out.trans (hb2.mono HB1.out.size)); clear hb2 ht; dsimp only)
          | (go_at_call 53; with_reducible refine (IH.out s _ hs).mono ?_; rw [HN.out]; rintro e w1 ⟨ht, hb1⟩; obtain ⟨T, a, R, hsh, hR, rfl⟩ := ht.pos H0.out; have hRz := rest_size hR; have hRs : R.size ≤ 4000 := (by omega); have hk : (s.size : Int) - (R.size : Int) = (n : Int) := (by omega); have HRR := Lib.hid hR; have HSH := Lib.hid hsh; clear hR hsh; have HB1 := Lib.hid hb1; clear hb1 ht; dsimp only))
        go_quiet (fail)
        have q5 := drew_cell
        have q6 := drew_frozen
        obtain ⟨rfl, X, rfl⟩ := HH.out _ _ HSH.out
        go_wp2
        go_ret2
        refine ⟨⟨_, _, R2, ?_, ?_, rfl⟩, ?_⟩
        · have e : 98 :: s.data.toList.take (n + m) = 98 :: ((s.extract 0 n).data.toList ++ (R.extract 0 m).data.toList) := by rw [extract_take, extract_take, HRR.out, List.take_add]
          rw [e]
          exact .boxed _ _ HRP.out (HR2.out R HRR.out) (by rw [extract_take, head_take HZ.out]; exact HU.out)
        · rw [HRR2.out, List.drop_drop]
        · exact (((HB2.out.trans (bdrew _ _)).alloc HB2.out.size _).setCell HB2.out.size _)
      · rw [if_pos (by simpa using hu)]
        have HH : Hid (∀ (T : TypeId) (a : Value), Shp (s.data.toList.take n) (.iface T a) → T ≠ 103) := fun T a h => by
          rcases h.head with ⟨_, h⟩ | ⟨h, _⟩
          · rw [head_take h0] at h; exact absurd h hu
          · exact h
        clear ih hn h0 h1 hmm hr hq hu
        go_enter Try.func61, Try.ntmps61
        go_wp2_with (first
          | (go_at_call 53; with_reducible refine (IH.out R _ hRs).mono ?_; rw [HRR.out, HM.out]; rintro e w2 ⟨ht, hb2⟩; obtain ⟨T2, a2, R2, _, hR2, rfl⟩ := ht.pos H1.out; have hRz2 : R2.size = R.size - m := (by rw [Lib.size_eq, hR2, List.length_drop, ← HRR.out, ← Lib.size_eq]); have hk2 : (R.size : Int) - (R2.size : Int) = (m : Int) := (by omega); have HRR2 := Lib.hid hR2; clear hR2 hRz2 hRz; have HB2 := Lib.hid (HB1.out.trans (hb2.mono HB1.out.size)); clear hb2 ht; dsimp only)
          | (go_at_call 53; with_reducible refine (IH.out s _ hs).mono ?_; rw [HN.out]; rintro e w1 ⟨ht, hb1⟩; obtain ⟨T, a, R, hsh, hR, rfl⟩ := ht.pos H0.out; have hRz := rest_size hR; have hRs : R.size ≤ 4000 := (by omega); have hk : (s.size : Int) - (R.size : Int) = (n : Int) := (by omega); have HRR := Lib.hid hR; have HSH := Lib.hid hsh; clear hR hsh; have HB1 := Lib.hid hb1; clear hb1 ht; dsimp only))
        go_quiet (fail)
        have q5 := drew_cell
        have q6 := drew_frozen
        have q2 := fun w => no_publicOne _ a w (HH.out _ _ HSH.out)
        go_wp2
        go_ret2
        exact ⟨rfl, (((HB2.out.trans (bdrew _ _)).alloc HB2.out.size _).setCell HB2.out.size _)⟩
end Go.Proofs.Ytahlilhdiklemaa.Term
