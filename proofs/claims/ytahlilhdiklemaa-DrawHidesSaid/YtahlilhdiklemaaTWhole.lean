/-
  CONTRACTS of the code's take and whole (package term). By an AI agent; no person has read it.
-/
import Derived.Test.YtahlilhdiklemaaTTwo
namespace Go.Proofs.Ytahlilhdiklemaa.Term
open Go.RowKit Wire

theorem Tks.form {l : List UInt8} {n : Nat} {e : Ending} (h : Tks l n e) : ∃ v R, e = .returned (.tuple #[v, .string R]) := by
  rcases h with ⟨_, h⟩ | ⟨_, T, a, R, _, _, h⟩ <;> exact ⟨_, _, h⟩
set_option maxHeartbeats 1000000 in
theorem take_zero : TakeAt 0 := by
  intro s w hs
  rw [size_zero]
  by_cases h : s.data.toList = []
  · have he := empty_str h
    clear h
    go_enter Try.func53, Try.ntmps53
    go_wp2_with fail
    go_ret2
    exact ⟨.inl ⟨rfl, rfl⟩, Below.refl _ _⟩
  · have he := nonempty_str h
    clear h
    go_enter Try.func53, Try.ntmps53
    go_wp2_with fail
    go_ret2
    exact ⟨.inl ⟨rfl, rfl⟩, Below.refl _ _⟩
set_option maxHeartbeats 1000000 in
theorem take_empty (d : Nat) (s : ByteArray) (w : World) (h : s.data.toList = []) : Calls Try.prog 53 #[.string s, .int .i64 (d : Int)] w fun e w' => Tks s.data.toList (size d s.data.toList) e ∧ Below w.heap.size w w' := by
  have h1 : size d s.data.toList = 0 := by rw [h]; exact size_nil d
  rw [h1]
  have he := empty_str h
  clear h h1
  go_enter Try.func53, Try.ntmps53
  go_wp2_with fail
  go_ret2
  exact ⟨.inl ⟨rfl, rfl⟩, Below.refl _ _⟩
set_option maxHeartbeats 2000000 in
theorem takeAtom (d : Nat) (ih : TakeAt d) (s : ByteArray) (w : World) (hd : d + 1 ≤ 40) (hs : s.size ≤ 4000) (h0 : 0 < s.size) (t : List UInt8) (hh : Head s h0 97 t) :
    Calls Try.prog 53 #[.string s, .int .i64 ((d + 1 : Nat) : Int)] w fun e w' => Tks s.data.toList (size (d + 1) s.data.toList) e ∧ Below w.heap.size w w' := by
  have IH := Lib.hid ih
  have hd2 : d ≤ 40 := by omega
  have hdd : (((d : Int) + 1) == 0) = false := by rw [beq_eq_false_iff_ne]; omega
  have he := nonempty_str (s := s) (by rw [hh.all]; simp)
  have hb := hh.first
  have hbn : ((97 : UInt8).toNat : Int) = 97 := rfl
  have hx0 : (0 : Int) < (s.size : Int) := by omega
  have hx1 : (1 : Int) ≤ (s.size : Int) := by omega
  have hez : (s.extract 1 s.size).size ≤ 4000 := by
    have h1 := hh.len
    rw [Lib.size_eq, hh.rest]; omega
  have HG : Hid (∀ e, Ans 97 (s.extract 1 s.size).data.toList (leaf 97 (s.extract 1 s.size).data.toList) e → Tks s.data.toList (size (d + 1) s.data.toList) e) := fun e h => by
    have h2 := h.tks
    have hbody : body (size d) 97 t = leaf 97 t := by
      exact rfl
    rw [hh.all, size_cons, hbody]
    rw [hh.rest] at h2
    exact h2
  clear ih hh
  go_enter Try.func53, Try.ntmps53
  go_wp2_with fail
  go_quiet (fail)
  go_wp2_with (go_at_call 58; refine (takeAtom_any _ _ hez).mono ?_; rintro e w1 ⟨ha, hb1⟩; have ht := HG.out _ ha; obtain ⟨v, R, rfl⟩ := ht.form; have HT := Lib.hid ht; have HB1 := Lib.hid ((bdrew _ _).trans (hb1.mono (Nat.le_refl _))); clear ha hb1 ht; dsimp only)
  go_ret2
  exact ⟨HT.out, HB1.out⟩
set_option maxHeartbeats 2000000 in
theorem takeText (d : Nat) (ih : TakeAt d) (s : ByteArray) (w : World) (hd : d + 1 ≤ 40) (hs : s.size ≤ 4000) (h0 : 0 < s.size) (t : List UInt8) (hh : Head s h0 116 t) :
    Calls Try.prog 53 #[.string s, .int .i64 ((d + 1 : Nat) : Int)] w fun e w' => Tks s.data.toList (size (d + 1) s.data.toList) e ∧ Below w.heap.size w w' := by
  have IH := Lib.hid ih
  have hd2 : d ≤ 40 := by omega
  have hdd : (((d : Int) + 1) == 0) = false := by rw [beq_eq_false_iff_ne]; omega
  have he := nonempty_str (s := s) (by rw [hh.all]; simp)
  have hb := hh.first
  have hbn : ((116 : UInt8).toNat : Int) = 116 := rfl
  have hx0 : (0 : Int) < (s.size : Int) := by omega
  have hx1 : (1 : Int) ≤ (s.size : Int) := by omega
  have hez : (s.extract 1 s.size).size ≤ 4000 := by
    have h1 := hh.len
    rw [Lib.size_eq, hh.rest]; omega
  have HG : Hid (∀ e, Ans 116 (s.extract 1 s.size).data.toList (leaf 116 (s.extract 1 s.size).data.toList) e → Tks s.data.toList (size (d + 1) s.data.toList) e) := fun e h => by
    have h2 := h.tks
    have hbody : body (size d) 116 t = leaf 116 t := by
      exact rfl
    rw [hh.all, size_cons, hbody]
    rw [hh.rest] at h2
    exact h2
  clear ih hh
  go_enter Try.func53, Try.ntmps53
  go_wp2_with fail
  go_quiet (fail)
  go_wp2_with (go_at_call 59; refine (takeText_any _ _ hez).mono ?_; rintro e w1 ⟨ha, hb1⟩; have ht := HG.out _ ha; obtain ⟨v, R, rfl⟩ := ht.form; have HT := Lib.hid ht; have HB1 := Lib.hid ((bdrew _ _).trans (hb1.mono (Nat.le_refl _))); clear ha hb1 ht; dsimp only)
  go_ret2
  exact ⟨HT.out, HB1.out⟩
set_option maxHeartbeats 2000000 in
theorem takeHash (d : Nat) (ih : TakeAt d) (s : ByteArray) (w : World) (hd : d + 1 ≤ 40) (hs : s.size ≤ 4000) (h0 : 0 < s.size) (t : List UInt8) (hh : Head s h0 104 t) :
    Calls Try.prog 53 #[.string s, .int .i64 ((d + 1 : Nat) : Int)] w fun e w' => Tks s.data.toList (size (d + 1) s.data.toList) e ∧ Below w.heap.size w w' := by
  have IH := Lib.hid ih
  have hd2 : d ≤ 40 := by omega
  have hdd : (((d : Int) + 1) == 0) = false := by rw [beq_eq_false_iff_ne]; omega
  have he := nonempty_str (s := s) (by rw [hh.all]; simp)
  have hb := hh.first
  have hbn : ((104 : UInt8).toNat : Int) = 104 := rfl
  have hx0 : (0 : Int) < (s.size : Int) := by omega
  have hx1 : (1 : Int) ≤ (s.size : Int) := by omega
  have hez : (s.extract 1 s.size).size ≤ 4000 := by
    have h1 := hh.len
    rw [Lib.size_eq, hh.rest]; omega
  have HG : Hid (∀ e, Ans 104 (s.extract 1 s.size).data.toList (sizes (size d) 1 (s.extract 1 s.size).data.toList) e → Tks s.data.toList (size (d + 1) s.data.toList) e) := fun e h => by
    have h2 := h.tks
    have hbody : body (size d) 104 t = sizes (size d) 1 t := by
      show (if (104 : UInt8) = 98 ∧ t.head? ≠ some 117 then none else _) = _; exact if_neg (fun h => absurd h.1 (by decide))
    rw [hh.all, size_cons, hbody]
    rw [hh.rest] at h2
    exact h2
  clear ih hh
  go_enter Try.func53, Try.ntmps53
  go_wp2_with fail
  go_quiet (fail)
  go_wp2_with (go_at_call 60; refine (takeOneHash d IH.out _ _ hd2 hez).mono ?_; rintro e w1 ⟨ha, hb1⟩; have ht := HG.out _ ha; obtain ⟨v, R, rfl⟩ := ht.form; have HT := Lib.hid ht; have HB1 := Lib.hid ((bdrew _ _).trans (hb1.mono (Nat.le_refl _))); clear ha hb1 ht; dsimp only)
  go_ret2
  exact ⟨HT.out, HB1.out⟩
set_option maxHeartbeats 2000000 in
theorem takePub (d : Nat) (ih : TakeAt d) (s : ByteArray) (w : World) (hd : d + 1 ≤ 40) (hs : s.size ≤ 4000) (h0 : 0 < s.size) (t : List UInt8) (hh : Head s h0 117 t) :
    Calls Try.prog 53 #[.string s, .int .i64 ((d + 1 : Nat) : Int)] w fun e w' => Tks s.data.toList (size (d + 1) s.data.toList) e ∧ Below w.heap.size w w' := by
  have IH := Lib.hid ih
  have hd2 : d ≤ 40 := by omega
  have hdd : (((d : Int) + 1) == 0) = false := by rw [beq_eq_false_iff_ne]; omega
  have he := nonempty_str (s := s) (by rw [hh.all]; simp)
  have hb := hh.first
  have hbn : ((117 : UInt8).toNat : Int) = 117 := rfl
  have hx0 : (0 : Int) < (s.size : Int) := by omega
  have hx1 : (1 : Int) ≤ (s.size : Int) := by omega
  have hez : (s.extract 1 s.size).size ≤ 4000 := by
    have h1 := hh.len
    rw [Lib.size_eq, hh.rest]; omega
  have HG : Hid (∀ e, Ans 117 (s.extract 1 s.size).data.toList (sizes (size d) 1 (s.extract 1 s.size).data.toList) e → Tks s.data.toList (size (d + 1) s.data.toList) e) := fun e h => by
    have h2 := h.tks
    have hbody : body (size d) 117 t = sizes (size d) 1 t := by
      show (if (117 : UInt8) = 98 ∧ t.head? ≠ some 117 then none else _) = _; exact if_neg (fun h => absurd h.1 (by decide))
    rw [hh.all, size_cons, hbody]
    rw [hh.rest] at h2
    exact h2
  clear ih hh
  go_enter Try.func53, Try.ntmps53
  go_wp2_with fail
  go_quiet (fail)
  go_wp2_with (go_at_call 60; refine (takeOnePub d IH.out _ _ hd2 hez).mono ?_; rintro e w1 ⟨ha, hb1⟩; have ht := HG.out _ ha; obtain ⟨v, R, rfl⟩ := ht.form; have HT := Lib.hid ht; have HB1 := Lib.hid ((bdrew _ _).trans (hb1.mono (Nat.le_refl _))); clear ha hb1 ht; dsimp only)
  go_ret2
  exact ⟨HT.out, HB1.out⟩
set_option maxHeartbeats 2000000 in
theorem takePair (d : Nat) (ih : TakeAt d) (s : ByteArray) (w : World) (hd : d + 1 ≤ 40) (hs : s.size ≤ 4000) (h0 : 0 < s.size) (t : List UInt8) (hh : Head s h0 112 t) :
    Calls Try.prog 53 #[.string s, .int .i64 ((d + 1 : Nat) : Int)] w fun e w' => Tks s.data.toList (size (d + 1) s.data.toList) e ∧ Below w.heap.size w w' := by
  have IH := Lib.hid ih
  have hd2 : d ≤ 40 := by omega
  have hdd : (((d : Int) + 1) == 0) = false := by rw [beq_eq_false_iff_ne]; omega
  have he := nonempty_str (s := s) (by rw [hh.all]; simp)
  have hb := hh.first
  have hbn : ((112 : UInt8).toNat : Int) = 112 := rfl
  have hx0 : (0 : Int) < (s.size : Int) := by omega
  have hx1 : (1 : Int) ≤ (s.size : Int) := by omega
  have hez : (s.extract 1 s.size).size ≤ 4000 := by
    have h1 := hh.len
    rw [Lib.size_eq, hh.rest]; omega
  have HG : Hid (∀ e, Ans 112 (s.extract 1 s.size).data.toList (sizes (size d) 2 (s.extract 1 s.size).data.toList) e → Tks s.data.toList (size (d + 1) s.data.toList) e) := fun e h => by
    have h2 := h.tks
    have hbody : body (size d) 112 t = sizes (size d) 2 t := by
      show (if (112 : UInt8) = 98 ∧ t.head? ≠ some 117 then none else _) = _; exact if_neg (fun h => absurd h.1 (by decide))
    rw [hh.all, size_cons, hbody]
    rw [hh.rest] at h2
    exact h2
  clear ih hh
  go_enter Try.func53, Try.ntmps53
  go_wp2_with fail
  go_quiet (fail)
  go_wp2_with (go_at_call 61; refine (takeTwoPair d IH.out _ _ hd2 hez).mono ?_; rintro e w1 ⟨ha, hb1⟩; have ht := HG.out _ ha; obtain ⟨v, R, rfl⟩ := ht.form; have HT := Lib.hid ht; have HB1 := Lib.hid ((bdrew _ _).trans (hb1.mono (Nat.le_refl _))); clear ha hb1 ht; dsimp only)
  go_ret2
  exact ⟨HT.out, HB1.out⟩
set_option maxHeartbeats 2000000 in
theorem takeSealed (d : Nat) (ih : TakeAt d) (s : ByteArray) (w : World) (hd : d + 1 ≤ 40) (hs : s.size ≤ 4000) (h0 : 0 < s.size) (t : List UInt8) (hh : Head s h0 115 t) :
    Calls Try.prog 53 #[.string s, .int .i64 ((d + 1 : Nat) : Int)] w fun e w' => Tks s.data.toList (size (d + 1) s.data.toList) e ∧ Below w.heap.size w w' := by
  have IH := Lib.hid ih
  have hd2 : d ≤ 40 := by omega
  have hdd : (((d : Int) + 1) == 0) = false := by rw [beq_eq_false_iff_ne]; omega
  have he := nonempty_str (s := s) (by rw [hh.all]; simp)
  have hb := hh.first
  have hbn : ((115 : UInt8).toNat : Int) = 115 := rfl
  have hx0 : (0 : Int) < (s.size : Int) := by omega
  have hx1 : (1 : Int) ≤ (s.size : Int) := by omega
  have hez : (s.extract 1 s.size).size ≤ 4000 := by
    have h1 := hh.len
    rw [Lib.size_eq, hh.rest]; omega
  have HG : Hid (∀ e, Ans 115 (s.extract 1 s.size).data.toList (sizes (size d) 2 (s.extract 1 s.size).data.toList) e → Tks s.data.toList (size (d + 1) s.data.toList) e) := fun e h => by
    have h2 := h.tks
    have hbody : body (size d) 115 t = sizes (size d) 2 t := by
      show (if (115 : UInt8) = 98 ∧ t.head? ≠ some 117 then none else _) = _; exact if_neg (fun h => absurd h.1 (by decide))
    rw [hh.all, size_cons, hbody]
    rw [hh.rest] at h2
    exact h2
  clear ih hh
  go_enter Try.func53, Try.ntmps53
  go_wp2_with fail
  go_quiet (fail)
  go_wp2_with (go_at_call 61; refine (takeTwoSealed d IH.out _ _ hd2 hez).mono ?_; rintro e w1 ⟨ha, hb1⟩; have ht := HG.out _ ha; obtain ⟨v, R, rfl⟩ := ht.form; have HT := Lib.hid ht; have HB1 := Lib.hid ((bdrew _ _).trans (hb1.mono (Nat.le_refl _))); clear ha hb1 ht; dsimp only)
  go_ret2
  exact ⟨HT.out, HB1.out⟩
set_option maxHeartbeats 2000000 in
theorem takeBoxed (d : Nat) (ih : TakeAt d) (s : ByteArray) (w : World) (hd : d + 1 ≤ 40) (hs : s.size ≤ 4000) (h0 : 0 < s.size) (t : List UInt8) (hh : Head s h0 98 t) :
    Calls Try.prog 53 #[.string s, .int .i64 ((d + 1 : Nat) : Int)] w fun e w' => Tks s.data.toList (size (d + 1) s.data.toList) e ∧ Below w.heap.size w w' := by
  have IH := Lib.hid ih
  have hd2 : d ≤ 40 := by omega
  have hdd : (((d : Int) + 1) == 0) = false := by rw [beq_eq_false_iff_ne]; omega
  have he := nonempty_str (s := s) (by rw [hh.all]; simp)
  have hb := hh.first
  have hbn : ((98 : UInt8).toNat : Int) = 98 := rfl
  have hx0 : (0 : Int) < (s.size : Int) := by omega
  have hx1 : (1 : Int) ≤ (s.size : Int) := by omega
  have hez : (s.extract 1 s.size).size ≤ 4000 := by
    have h1 := hh.len
    rw [Lib.size_eq, hh.rest]; omega
  have HG : Hid (∀ e, Ans 98 (s.extract 1 s.size).data.toList (if (s.extract 1 s.size).data.toList.head? ≠ some 117 then none else sizes (size d) 2 (s.extract 1 s.size).data.toList) e → Tks s.data.toList (size (d + 1) s.data.toList) e) := fun e h => by
    have h2 := h.tks
    have hbody : body (size d) 98 t = if t.head? ≠ some 117 then none else sizes (size d) 2 t := by
      show (if (98 : UInt8) = 98 ∧ t.head? ≠ some 117 then none else _) = _; simp only [true_and]
    rw [hh.all, size_cons, hbody]
    rw [hh.rest] at h2
    exact h2
  clear ih hh
  go_enter Try.func53, Try.ntmps53
  go_wp2_with fail
  go_quiet (fail)
  go_wp2_with (go_at_call 61; refine (takeTwoBoxed d IH.out _ _ hd2 hez).mono ?_; rintro e w1 ⟨ha, hb1⟩; have ht := HG.out _ ha; obtain ⟨v, R, rfl⟩ := ht.form; have HT := Lib.hid ht; have HB1 := Lib.hid ((bdrew _ _).trans (hb1.mono (Nat.le_refl _))); clear ha hb1 ht; dsimp only)
  go_ret2
  exact ⟨HT.out, HB1.out⟩
set_option maxHeartbeats 2000000 in
theorem takeSigned (d : Nat) (ih : TakeAt d) (s : ByteArray) (w : World) (hd : d + 1 ≤ 40) (hs : s.size ≤ 4000) (h0 : 0 < s.size) (t : List UInt8) (hh : Head s h0 103 t) :
    Calls Try.prog 53 #[.string s, .int .i64 ((d + 1 : Nat) : Int)] w fun e w' => Tks s.data.toList (size (d + 1) s.data.toList) e ∧ Below w.heap.size w w' := by
  have IH := Lib.hid ih
  have hd2 : d ≤ 40 := by omega
  have hdd : (((d : Int) + 1) == 0) = false := by rw [beq_eq_false_iff_ne]; omega
  have he := nonempty_str (s := s) (by rw [hh.all]; simp)
  have hb := hh.first
  have hbn : ((103 : UInt8).toNat : Int) = 103 := rfl
  have hx0 : (0 : Int) < (s.size : Int) := by omega
  have hx1 : (1 : Int) ≤ (s.size : Int) := by omega
  have hez : (s.extract 1 s.size).size ≤ 4000 := by
    have h1 := hh.len
    rw [Lib.size_eq, hh.rest]; omega
  have HG : Hid (∀ e, Ans 103 (s.extract 1 s.size).data.toList (sizes (size d) 2 (s.extract 1 s.size).data.toList) e → Tks s.data.toList (size (d + 1) s.data.toList) e) := fun e h => by
    have h2 := h.tks
    have hbody : body (size d) 103 t = sizes (size d) 2 t := by
      show (if (103 : UInt8) = 98 ∧ t.head? ≠ some 117 then none else _) = _; exact if_neg (fun h => absurd h.1 (by decide))
    rw [hh.all, size_cons, hbody]
    rw [hh.rest] at h2
    exact h2
  clear ih hh
  go_enter Try.func53, Try.ntmps53
  go_wp2_with fail
  go_quiet (fail)
  go_wp2_with (go_at_call 61; refine (takeTwoSigned d IH.out _ _ hd2 hez).mono ?_; rintro e w1 ⟨ha, hb1⟩; have ht := HG.out _ ha; obtain ⟨v, R, rfl⟩ := ht.form; have HT := Lib.hid ht; have HB1 := Lib.hid ((bdrew _ _).trans (hb1.mono (Nat.le_refl _))); clear ha hb1 ht; dsimp only)
  go_ret2
  exact ⟨HT.out, HB1.out⟩
set_option maxHeartbeats 2000000 in
theorem takeOther (d : Nat) (s : ByteArray) (w : World) (hd : d + 1 ≤ 40) (hs : s.size ≤ 4000) (h0 : 0 < s.size) (b : UInt8) (t : List UInt8) (hh : Head s h0 b t) (ha : arity b = none) :
    Calls Try.prog 53 #[.string s, .int .i64 ((d + 1 : Nat) : Int)] w fun e w' => Tks s.data.toList (size (d + 1) s.data.toList) e ∧ Below w.heap.size w w' := by
  have hz : size (d + 1) s.data.toList = 0 := by
    rw [hh.all, size_cons]; unfold body; rw [ha]; rfl
  rw [hz]
  have hdd : (((d : Int) + 1) == 0) = false := by rw [beq_eq_false_iff_ne]; omega
  have he := nonempty_str (s := s) (by rw [hh.all]; simp)
  have hb := hh.first
  have hx0 : (0 : Int) < (s.size : Int) := by omega
  have hx1 : (1 : Int) ≤ (s.size : Int) := by omega
  have hk : ∀ k : UInt8, arity k ≠ none → ((b.toNat : Int) == (k.toNat : Int)) = false := fun k hk => by
    rw [beq_eq_false_iff_ne]; intro h; exact hk (by rw [← UInt8.toNat_inj.1 (show b.toNat = k.toNat by omega)]; exact ha)
  have c97 : ((b.toNat : Int) == 97) = false := hk 97 (by decide)
  have c116 : ((b.toNat : Int) == 116) = false := hk 116 (by decide)
  have c104 : ((b.toNat : Int) == 104) = false := hk 104 (by decide)
  have c117 : ((b.toNat : Int) == 117) = false := hk 117 (by decide)
  have c112 : ((b.toNat : Int) == 112) = false := hk 112 (by decide)
  have c115 : ((b.toNat : Int) == 115) = false := hk 115 (by decide)
  have c98 : ((b.toNat : Int) == 98) = false := hk 98 (by decide)
  have c103 : ((b.toNat : Int) == 103) = false := hk 103 (by decide)
  clear hh ha hz hk
  go_enter Try.func53, Try.ntmps53
  go_wp2_with fail
  go_quiet (fail)
  go_wp2
  go_ret2
  exact ⟨.inl ⟨rfl, rfl⟩, bdrew _ _⟩
theorem take_at : ∀ d, d ≤ 40 → TakeAt d
  | 0, _ => take_zero
  | d + 1, hd => fun s w hs => by
    by_cases h : s.data.toList = []
    · exact take_empty (d + 1) s w h
    · have h0 : 0 < s.size := by rw [Lib.size_eq]; exact List.length_pos_iff.2 h
      obtain ⟨b, t, hh⟩ := head_of h0
      have ih := take_at d (by omega)
      by_cases k1 : b = 97
      · subst k1; exact takeAtom d ih s w hd hs h0 t hh
      by_cases k2 : b = 116
      · subst k2; exact takeText d ih s w hd hs h0 t hh
      by_cases k3 : b = 104
      · subst k3; exact takeHash d ih s w hd hs h0 t hh
      by_cases k4 : b = 117
      · subst k4; exact takePub d ih s w hd hs h0 t hh
      by_cases k5 : b = 112
      · subst k5; exact takePair d ih s w hd hs h0 t hh
      by_cases k6 : b = 115
      · subst k6; exact takeSealed d ih s w hd hs h0 t hh
      by_cases k7 : b = 98
      · subst k7; exact takeBoxed d ih s w hd hs h0 t hh
      by_cases k8 : b = 103
      · subst k8; exact takeSigned d ih s w hd hs h0 t hh
      exact takeOther d s w hd hs h0 b t hh (by unfold arity; rw [if_neg (by simp [k1, k2]), if_neg (by simp [k3, k4]), if_neg (by simp [k5, k6, k7, k8])])

/-- What whole answers. -/
def Wh (l : List UInt8) (e : Ending) : Prop := (right l = false ∧ e = .returned .nilIface) ∨ (right l = true ∧ ∃ (T : TypeId) (a : Value), Shp l (.iface T a) ∧ e = .returned (.iface T a))
set_option maxHeartbeats 2000000 in
theorem whole_any (s : ByteArray) (w : World) :
    Calls Try.prog 37 #[.string s] w fun e w' => Wh s.data.toList e ∧ Below w.heap.size w w' := by
  by_cases hs : (s.size : Int) ≤ 4000
  · obtain ⟨n, hn⟩ : ∃ n, size 40 s.data.toList = n := ⟨_, rfl⟩
    have HN := Lib.hid hn
    have hle := size_le 40 s.data.toList
    rw [hn, ← Lib.size_eq] at hle
    have HC : Hid (∀ w, Calls Try.prog 53 #[.string s, .int .i64 40] w fun e w' => Tks s.data.toList (size 40 s.data.toList) e ∧ Below w.heap.size w w') := fun w => take_at 40 (Nat.le_refl _) s w (by omega)
    by_cases h0 : n = 0
    · have hr : right s.data.toList = false := by
        rw [← Bool.not_eq_true]; intro h
        obtain ⟨h1, _, h3⟩ := right_iff.1 h
        exact h1 (List.eq_nil_of_length_eq_zero (by omega))
      have HR := Lib.hid hr
      have H0 := Lib.hid h0
      clear hn h0 hr
      go_enter Try.func37, Try.ntmps37
      go_wp2_with (go_at_call 53; refine (HC.out _).mono ?_; rw [HN.out]; rintro e w1 ⟨ht, hb1⟩; obtain rfl := ht.zero H0.out; have HB1 := Lib.hid hb1; clear hb1 ht; dsimp only)
      go_ret
      exact ⟨.inl ⟨HR.out, rfl⟩, HB1.out⟩
    · by_cases hf : n = s.size
      · have hr : right s.data.toList = true := right_iff.2 ⟨fun h => h0 (by rw [← hn, h]; exact size_nil 40), by rw [← Lib.size_eq]; omega, by rw [hn, hf, Lib.size_eq]⟩
        have HR := Lib.hid hr
        have H0 := Lib.hid h0
        have HF := Lib.hid hf
        clear hn h0 hr hf
        go_enter Try.func37, Try.ntmps37
        go_wp2_with (go_at_call 53; refine (HC.out _).mono ?_; rw [HN.out]; rintro e w1 ⟨ht, hb1⟩; obtain ⟨T, a, R, hsh, hR, rfl⟩ := ht.pos H0.out; have hRe := empty_str (s := R) (by rw [hR, HF.out, Lib.size_eq, List.drop_length]); have HSH := Lib.hid hsh; have HB1 := Lib.hid hb1; clear hb1 ht hsh hR; dsimp only)
        go_ret
        refine ⟨.inr ⟨HR.out, T, a, ?_, rfl⟩, HB1.out⟩
        have h := HSH.out
        rw [HF.out, Lib.size_eq, List.take_length] at h
        exact h
      · have hr : right s.data.toList = false := by
          rw [← Bool.not_eq_true]; intro h
          obtain ⟨_, _, h3⟩ := right_iff.1 h
          exact hf (by rw [← hn, h3, Lib.size_eq])
        have HR := Lib.hid hr
        have H0 := Lib.hid h0
        have HF : Hid (n < s.size) := by show n < s.size; omega
        clear hn h0 hr hf
        go_enter Try.func37, Try.ntmps37
        go_wp2_with (go_at_call 53; refine (HC.out _).mono ?_; rw [HN.out]; rintro e w1 ⟨ht, hb1⟩; obtain ⟨T, a, R, hsh, hR, rfl⟩ := ht.pos H0.out; have hRe := nonempty_str (s := R) (by rw [hR]; intro h; have h2 := congrArg List.length h; rw [List.length_drop, ← Lib.size_eq, List.length_nil] at h2; have := HF.out; omega); have HB1 := Lib.hid hb1; clear hb1 ht hsh hR; dsimp only)
        go_ret
        exact ⟨.inl ⟨HR.out, rfl⟩, HB1.out⟩
  · have hr : right s.data.toList = false := by
      rw [← Bool.not_eq_true]; intro h
      have := (right_iff.1 h).2.1
      rw [← Lib.size_eq] at this; omega
    have HR := Lib.hid hr
    clear hr
    go_enter Try.func37, Try.ntmps37
    go_wp2_with fail
    go_ret
    exact ⟨.inl ⟨HR.out, rfl⟩, Below.refl _ _⟩
end Go.Proofs.Ytahlilhdiklemaa.Term
