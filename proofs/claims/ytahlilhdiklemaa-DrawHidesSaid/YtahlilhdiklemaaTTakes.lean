/-
  CONTRACTS of the code's takeAtom, takeText, takeOne, takeTwo, take, whole (package term). By an AI agent; no person has read it.
-/
import Derived.Test.YtahlilhdiklemaaTShape
import Derived.Test.YtahlilhdiklemaaWStrs
namespace Go.Proofs.Ytahlilhdiklemaa.Term
open Go.RowKit Wire

/-- What taking a term off answers, the kind being read: so many bytes behind it, or nothing. -/
def Ans (k : UInt8) (t : List UInt8) : Option Nat → Ending → Prop
  | none, e => e = .returned (.tuple #[.nilIface, .string ⟨#[]⟩])
  | some n, e => ∃ (T : TypeId) (a : Value) (R : ByteArray), Shp (k :: t.take n) (.iface T a) ∧ R.data.toList = t.drop n ∧ e = .returned (.tuple #[.iface T a, .string R])
/-- The same, of a whole term of n bytes. -/
def Tks (l : List UInt8) (n : Nat) (e : Ending) : Prop :=
  (n = 0 ∧ e = .returned (.tuple #[.nilIface, .string ⟨#[]⟩])) ∨
  (n ≠ 0 ∧ ∃ (T : TypeId) (a : Value) (R : ByteArray), Shp (l.take n) (.iface T a) ∧ R.data.toList = l.drop n ∧ e = .returned (.tuple #[.iface T a, .string R]))
theorem Ans.tks {k : UInt8} {t : List UInt8} {o : Option Nat} {e : Ending} (h : Ans k t o e) : Tks (k :: t) (up o) e := by
  cases o with
  | none => exact .inl ⟨rfl, h⟩
  | some n =>
    obtain ⟨T, a, R, h1, h2, h3⟩ := h
    refine .inr ⟨by simp [up], T, a, R, ?_, ?_, h3⟩
    · rw [show up (some n) = n + 1 by simp [up]; omega, List.take_succ_cons]; exact h1
    · rw [show up (some n) = n + 1 by simp [up]; omega, List.drop_succ_cons]; exact h2

set_option maxHeartbeats 1000000 in
theorem takeAtom_any (s : ByteArray) (w : World) (hs : s.size ≤ 4000) :
    Calls Try.prog 58 #[.string s] w fun e w' => Ans 97 s.data.toList (leaf 97 s.data.toList) e ∧ Below w.heap.size w w' := by
  have hl : leaf 97 s.data.toList = (take s.data.toList).map fun p => s.data.toList.length - p.2.length := by unfold leaf; rw [if_pos rfl]
  rcases take_tk (l := s.data.toList) with ⟨h1, h2⟩ | ⟨n, r, h1, h2, hn⟩
  · have H2 := Lib.hid h2
    have hm : leaf 97 s.data.toList = none := by rw [hl, h1]; rfl
    rw [hm]
    clear hl h1 h2 hm
    go_enter Try.func58, Try.ntmps58
    go_wp2_with (go_at_call 65; refine (take_bel s _ (by omega)).mono ?_; rw [H2.out]; rintro e w1 ⟨⟨R, hR, rfl⟩, hb1⟩; have HB1 := Lib.hid hb1; clear hb1 hR; dsimp only)
    go_ret2
    exact ⟨rfl, HB1.out⟩
  · have H2 := Lib.hid h2
    obtain ⟨hp, _⟩ := take_some h1
    have hm : leaf 97 s.data.toList = some (put n).length := by rw [hl, h1, hp]; simp
    rw [hm, hp]
    clear hl h1 h2 hm hp
    go_enter Try.func58, Try.ntmps58
    go_wp2_with (go_at_call 65; refine (take_bel s _ (by omega)).mono ?_; rw [H2.out]; rintro e w1 ⟨⟨R, hR, rfl⟩, hb1⟩; have HB1 := Lib.hid hb1; have HR := Lib.hid hR; clear hb1 hR; dsimp only)
    go_ret2
    refine ⟨⟨_, _, R, ?_, by rw [List.drop_left]; exact HR.out, rfl⟩, HB1.out⟩
    rw [List.take_left]; exact .atom n hn
set_option maxHeartbeats 1000000 in
theorem takeText_any (s : ByteArray) (w : World) (hs : s.size ≤ 4000) :
    Calls Try.prog 59 #[.string s] w fun e w' => Ans 116 s.data.toList (leaf 116 s.data.toList) e ∧ Below w.heap.size w w' := by
  have hl : leaf 116 s.data.toList = if (text s.data.toList 4000).2.2 = 0 then some (s.data.toList.length - (text s.data.toList 4000).2.1.length) else none := by unfold leaf; rw [if_neg (by decide)]
  rcases text_cases s.data.toList 4000 with h | h | ⟨t, r, h, hp, ht, hm4⟩
  · have H2 := Lib.hid h
    have hm : leaf 116 s.data.toList = none := by rw [hl, h]; rfl
    rw [hm]
    clear hl h hm
    go_enter Try.func59, Try.ntmps59
    go_wp2_with (go_at_call 66; refine (text_bel s 4000 _ (by omega) (by omega)).mono ?_; rw [H2.out]; rintro e w1 ⟨⟨X, R, hX, hR, rfl⟩, hb1⟩; have HB1 := Lib.hid hb1; clear hb1 hR hX; dsimp only)
    go_ret2
    exact ⟨rfl, HB1.out⟩
  · have H2 := Lib.hid h
    have hm : leaf 116 s.data.toList = none := by rw [hl, h]; rfl
    rw [hm]
    clear hl h hm
    go_enter Try.func59, Try.ntmps59
    go_wp2_with (go_at_call 66; refine (text_bel s 4000 _ (by omega) (by omega)).mono ?_; rw [H2.out]; rintro e w1 ⟨⟨X, R, hX, hR, rfl⟩, hb1⟩; have HB1 := Lib.hid hb1; clear hb1 hR hX; dsimp only)
    go_ret2
    exact ⟨rfl, HB1.out⟩
  · have H2 := Lib.hid h
    have hm : leaf 116 s.data.toList = some (putText t).length := by rw [hl, h, hp]; simp
    rw [hm, hp]
    have HM := Lib.hid hm4
    clear hl h hm hp hm4 ht
    go_enter Try.func59, Try.ntmps59
    go_wp2_with (go_at_call 66; refine (text_bel s 4000 _ (by omega) (by omega)).mono ?_; rw [H2.out]; rintro e w1 ⟨⟨X, R, hX, hR, rfl⟩, hb1⟩; have HB1 := Lib.hid hb1; have HR := Lib.hid hR; have HX := Lib.hid hX; clear hb1 hR hX; dsimp only)
    go_ret2
    refine ⟨⟨_, _, R, ?_, by rw [List.drop_left]; exact HR.out, rfl⟩, HB1.out⟩
    rw [List.take_left]
    have e : t = X.data.toList := HX.out.symm
    rw [e]
    exact .text X (by have := HM.out; rw [e, ← Lib.size_eq] at this; omega)
theorem Tks.zero {l : List UInt8} {n : Nat} {e : Ending} (h : Tks l n e) (h0 : n = 0) : e = .returned (.tuple #[.nilIface, .string ⟨#[]⟩]) := by
  rcases h with ⟨_, h⟩ | ⟨h, _⟩
  · exact h
  · exact absurd h0 h
theorem Tks.pos {l : List UInt8} {n : Nat} {e : Ending} (h : Tks l n e) (h0 : n ≠ 0) : ∃ (T : TypeId) (a : Value) (R : ByteArray), Shp (l.take n) (.iface T a) ∧ R.data.toList = l.drop n ∧ e = .returned (.tuple #[.iface T a, .string R]) := by
  rcases h with ⟨h, _⟩ | ⟨_, h⟩
  · exact absurd h h0
  · exact h
/-- What take answers, at most d deep. -/
def TakeAt (d : Nat) : Prop := ∀ (s : ByteArray) (w : World), s.size ≤ 4000 → Calls Try.prog 53 #[.string s, .int .i64 (d : Int)] w fun e w' => Tks s.data.toList (size d s.data.toList) e ∧ Below w.heap.size w w'
theorem rest_size {s R : ByteArray} {n : Nat} (hR : R.data.toList = s.data.toList.drop n) : R.size = s.size - n := by
  rw [Lib.size_eq, hR, List.length_drop, ← Lib.size_eq]
theorem part_right {d n : Nat} {s : ByteArray} (hd : d ≤ 40) (hs : s.size ≤ 4000) (hn : size d s.data.toList = n) (h0 : n ≠ 0) : right (s.extract 0 n).data.toList = true := by
  have h1 := size_mono hd (l := s.data.toList) (by rw [hn]; exact h0)
  rw [extract_take, ← hn, ← h1]
  exact right_take (by rw [h1, hn]; exact h0) (by have := size_le 40 s.data.toList; rw [← Lib.size_eq] at this; omega)

set_option maxHeartbeats 1000000 in
theorem takeOneHash (d : Nat) (ih : TakeAt d) (s : ByteArray) (w : World) (hd : d ≤ 40) (hs : s.size ≤ 4000) :
    Calls Try.prog 60 #[.int .u8 104, .string s, .int .i64 (d : Int)] w fun e w' => Ans 104 s.data.toList (sizes (size d) 1 s.data.toList) e ∧ Below w.heap.size w w' := by
  have IH := Lib.hid ih
  have q0 := nil_no
  have q1 := nil_yes
  obtain ⟨n, hn⟩ : ∃ n, size d s.data.toList = n := ⟨_, rfl⟩
  have HN := Lib.hid hn
  by_cases h0 : n = 0
  · have hm : sizes (size d) 1 s.data.toList = none := by unfold sizes; rw [if_pos (by rw [hn]; exact h0)]
    rw [hm]
    have H0 := Lib.hid h0
    clear hm ih hn h0
    go_enter Try.func60, Try.ntmps60
    go_wp2_with (go_at_call 53; refine (IH.out s _ hs).mono ?_; rw [HN.out]; rintro e w1 ⟨ht, hb1⟩; obtain rfl := ht.zero H0.out; have HB1 := Lib.hid hb1; clear hb1 ht; dsimp only)
    go_ret2
    exact ⟨rfl, HB1.out⟩
  · have hm : sizes (size d) 1 s.data.toList = some n := by unfold sizes; rw [if_neg (by rw [hn]; exact h0), hn]; rfl
    rw [hm]
    have hr := part_right hd hs hn h0
    have hle := size_le d s.data.toList
    rw [hn, ← Lib.size_eq] at hle
    have H0 := Lib.hid h0
    have HR := Lib.hid hr
    clear hm ih hn h0 hr
    go_enter Try.func60, Try.ntmps60
    go_wp2_with (go_at_call 53; refine (IH.out s _ hs).mono ?_; rw [HN.out]; rintro e w1 ⟨ht, hb1⟩; obtain ⟨T, a, R, _, hR, rfl⟩ := ht.pos H0.out; have hRz := rest_size hR; have hk : (s.size : Int) - (R.size : Int) = (n : Int) := (by omega); have HB1 := Lib.hid hb1; have HRR := Lib.hid hR; clear hb1 ht hR hRz; dsimp only)
    go_ret2
    refine ⟨⟨_, _, R, ?_, HRR.out, rfl⟩, HB1.out⟩
    rw [← extract_take]
    exact .hash _ HR.out

set_option maxHeartbeats 1000000 in
theorem takeOnePub (d : Nat) (ih : TakeAt d) (s : ByteArray) (w : World) (hd : d ≤ 40) (hs : s.size ≤ 4000) :
    Calls Try.prog 60 #[.int .u8 117, .string s, .int .i64 (d : Int)] w fun e w' => Ans 117 s.data.toList (sizes (size d) 1 s.data.toList) e ∧ Below w.heap.size w w' := by
  have IH := Lib.hid ih
  have q0 := nil_no
  have q1 := nil_yes
  obtain ⟨n, hn⟩ : ∃ n, size d s.data.toList = n := ⟨_, rfl⟩
  have HN := Lib.hid hn
  by_cases h0 : n = 0
  · have hm : sizes (size d) 1 s.data.toList = none := by unfold sizes; rw [if_pos (by rw [hn]; exact h0)]
    rw [hm]
    have H0 := Lib.hid h0
    clear hm ih hn h0
    go_enter Try.func60, Try.ntmps60
    go_wp2_with (go_at_call 53; refine (IH.out s _ hs).mono ?_; rw [HN.out]; rintro e w1 ⟨ht, hb1⟩; obtain rfl := ht.zero H0.out; have HB1 := Lib.hid hb1; clear hb1 ht; dsimp only)
    go_ret2
    exact ⟨rfl, HB1.out⟩
  · have hm : sizes (size d) 1 s.data.toList = some n := by unfold sizes; rw [if_neg (by rw [hn]; exact h0), hn]; rfl
    rw [hm]
    have hr := part_right hd hs hn h0
    have hle := size_le d s.data.toList
    rw [hn, ← Lib.size_eq] at hle
    have H0 := Lib.hid h0
    have HR := Lib.hid hr
    clear hm ih hn h0 hr
    go_enter Try.func60, Try.ntmps60
    go_wp2_with (go_at_call 53; refine (IH.out s _ hs).mono ?_; rw [HN.out]; rintro e w1 ⟨ht, hb1⟩; obtain ⟨T, a, R, _, hR, rfl⟩ := ht.pos H0.out; have hRz := rest_size hR; have hk : (s.size : Int) - (R.size : Int) = (n : Int) := (by omega); have HB1 := Lib.hid hb1; have HRR := Lib.hid hR; clear hb1 ht hR hRz; dsimp only)
    go_ret2
    refine ⟨⟨_, _, R, ?_, HRR.out, rfl⟩, HB1.out⟩
    rw [← extract_take]
    exact .pub _ HR.out
end Go.Proofs.Ytahlilhdiklemaa.Term
