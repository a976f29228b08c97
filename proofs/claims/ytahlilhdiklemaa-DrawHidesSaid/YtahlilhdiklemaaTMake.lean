/-
  CONTRACTS of the document's Right, made, one, two, OfAtom to Sign (letterlockref3) at this program. By an AI agent; no person has read it.
-/
import Derived.Test.YtahlilhdiklemaaTSize
import Derived.Test.YtahlilhdiklemaaWRPut
namespace Go.Proofs.Ytahlilhdiklemaa.Term
open Go.RowKit Wire

/-- A string and an error as an ending. -/
def Sr (x : List UInt8 × Int) (e : Ending) : Prop := ∃ T : ByteArray, T.data.toList = x.1 ∧ e = .returned (.tuple #[.string T, .int .i64 x.2])
theorem sr_nil (f : Int) : Sr ([], f) (.returned (.tuple #[.string ⟨#[]⟩, .int .i64 f])) := ⟨⟨#[]⟩, rfl, rfl⟩
theorem right_len {l : List UInt8} (h : right l = true) : 0 < l.length ∧ l.length ≤ 4000 := by
  obtain ⟨h1, h2, _⟩ := right_iff.1 h
  exact ⟨List.length_pos_iff.2 h1, h2⟩
theorem right_sz {s : ByteArray} (h : right s.data.toList = true) : 0 < s.size ∧ s.size ≤ 4000 := by
  rw [Lib.size_eq]; exact right_len h

set_option maxHeartbeats 2000000 in
set_option maxRecDepth 1000000 in
theorem right_any (s : ByteArray) (w : World) (hs : s.size ≤ 140737488355328) :
    Calls Try.prog 54 #[.string s] w fun e w' => e = .returned (.bool (right s.data.toList)) ∧ Below w.heap.size w w' := by
  by_cases h : s.data.toList = []
  · have he := empty_str h
    have hf : right s.data.toList = false := by rw [h]; rfl
    rw [hf]
    clear h hf
    go_enter Try.func54, Try.ntmps54
    go_wp2_with fail
    go_ret
    exact ⟨rfl, Below.refl _ _⟩
  · have he := nonempty_str h
    have hz := Lib.size_eq s
    by_cases hb : (s.size : Int) ≤ 4000
    · obtain ⟨n, hn⟩ : ∃ n, size 40 s.data.toList = n := ⟨_, rfl⟩
      have HN := Lib.hid hn
      by_cases hl : n = s.size
      · have hf : right s.data.toList = true := right_iff.2 ⟨h, by omega, by rw [hn, hl, hz]⟩
        have hnb : ((n : Int) == (s.size : Int)) = true := by rw [hl]; exact beq_self_eq_true _
        rw [hf]
        clear h hf hz hn hl
        go_enter Try.func54, Try.ntmps54
        go_wp2_with (go_at_call 62; refine (size_any 40 s _ (by omega) hs).mono ?_; rw [HN.out]; rintro e w1 ⟨rfl, hb1⟩; have HB1 := Lib.hid hb1; clear hb1)
        go_ret
        exact ⟨rfl, HB1.out⟩
      · have hf : right s.data.toList = false := by
          rw [← Bool.not_eq_true]; intro hr; exact hl (by rw [← hn, (right_iff.1 hr).2.2, hz])
        have hnb : ((n : Int) == (s.size : Int)) = false := by rw [beq_eq_false_iff_ne]; omega
        rw [hf]
        clear h hf hz hn hl
        go_enter Try.func54, Try.ntmps54
        go_wp2_with (go_at_call 62; refine (size_any 40 s _ (by omega) hs).mono ?_; rw [HN.out]; rintro e w1 ⟨rfl, hb1⟩; have HB1 := Lib.hid hb1; clear hb1)
        go_ret
        exact ⟨rfl, HB1.out⟩
    · have hf : right s.data.toList = false := by
        rw [← Bool.not_eq_true]; intro hr; have := (right_iff.1 hr).2.1; omega
      rw [hf]
      clear h hf hz
      go_enter Try.func54, Try.ntmps54
      go_wp2_with fail
      go_ret
      exact ⟨rfl, Below.refl _ _⟩
set_option maxHeartbeats 2000000 in
set_option maxRecDepth 1000000 in
theorem made_any (s : ByteArray) (w : World) (hs : s.size ≤ 140737488355328) :
    Calls Try.prog 38 #[.string s] w fun e w' => Sr (made s.data.toList) e ∧ Below w.heap.size w w' := by
  cases hr : right s.data.toList with
  | true =>
    have HR := Lib.hid hr
    have hm : made s.data.toList = (s.data.toList, 0) := by unfold made; rw [if_pos hr]
    rw [hm]
    clear hr hm
    go_enter Try.func38, Try.ntmps38
    go_wp2_with (go_at_call 54; refine (right_any s _ hs).mono ?_; rw [HR.out]; rintro e w1 ⟨rfl, hb1⟩; have HB1 := Lib.hid hb1; clear hb1)
    go_ret2
    exact ⟨⟨s, rfl, rfl⟩, HB1.out⟩
  | false =>
    have HR := Lib.hid hr
    have hm : made s.data.toList = ([], 10) := by unfold made; rw [if_neg (by rw [hr]; decide)]
    rw [hm]
    clear hr hm
    go_enter Try.func38, Try.ntmps38
    go_wp2_with (go_at_call 54; refine (right_any s _ hs).mono ?_; rw [HR.out]; rintro e w1 ⟨rfl, hb1⟩; have HB1 := Lib.hid hb1; clear hb1)
    go_ret2
    exact ⟨sr_nil _, HB1.out⟩
set_option maxHeartbeats 2000000 in
set_option maxRecDepth 1000000 in
theorem one_any (k a : ByteArray) (c : UInt8) (w : World) (hk : k.data.toList = [c]) (hs : a.size ≤ 140737488355328) :
    Calls Try.prog 42 #[.string k, .string a] w fun e w' => Sr (one c a.data.toList) e ∧ Below w.heap.size w w' := by
  have hkz : k.size = 1 := by rw [Lib.size_eq, hk]; rfl
  cases hr : right a.data.toList with
  | true =>
    have HR := Lib.hid hr
    have hz := right_sz hr
    have hm : one c a.data.toList = made (k ++ a).data.toList := by unfold one; rw [if_pos hr, app_data, hk]; rfl
    obtain ⟨KA, hka⟩ : ∃ KA, k ++ a = KA := ⟨_, rfl⟩
    have hkaz : KA.size ≤ 140737488355328 := by rw [← hka, Lib.size_eq, app_data, List.length_append, ← Lib.size_eq, ← Lib.size_eq]; omega
    have hadd : k.size + a.size ≤ 9223372036854775807 := by omega
    rw [hm, hka]
    obtain ⟨x, f, hx⟩ : ∃ x f, made KA.data.toList = (x, f) := ⟨_, _, rfl⟩
    have HX := Lib.hid hx
    rw [hx]
    have hkz1 : k.size ≤ 1 := by omega
    have haz1 : a.size ≤ 4000 := by omega
    clear hr hm hz hx hk hkz
    go_enter Try.func42, Try.ntmps42
    go_wp2_with (first
      | (go_at_call 54; with_reducible refine (right_any a _ hs).mono ?_; rw [HR.out]; rintro e w1 ⟨rfl, hb1⟩; have HB1 := Lib.hid hb1; clear hb1)
      | (go_at_call 38; refine (made_any KA _ hkaz).mono ?_; rw [HX.out]; rintro e w2 ⟨⟨T, hT, rfl⟩, hb2⟩; have HB2 := Lib.hid (HB1.out.trans (hb2.mono HB1.out.size)); have HT := Lib.hid hT; clear hb2 hT; dsimp only))
    go_ret2
    exact ⟨⟨T, HT.out, rfl⟩, HB2.out⟩
  | false =>
    have HR := Lib.hid hr
    have hm : one c a.data.toList = ([], 1) := by unfold one; rw [if_neg (by rw [hr]; decide)]
    rw [hm]
    clear hr hm hk
    go_enter Try.func42, Try.ntmps42
    go_wp2_with (go_at_call 54; with_reducible refine (right_any a _ hs).mono ?_; rw [HR.out]; rintro e w1 ⟨rfl, hb1⟩; have HB1 := Lib.hid hb1; clear hb1)
    go_ret2
    exact ⟨sr_nil _, HB1.out⟩
set_option maxHeartbeats 2000000 in
set_option maxRecDepth 1000000 in
theorem two_any (k a b : ByteArray) (c : UInt8) (w : World) (hk : k.data.toList = [c]) (hs : a.size ≤ 140737488355328) (hs2 : b.size ≤ 140737488355328) :
    Calls Try.prog 40 #[.string k, .string a, .string b] w fun e w' => Sr (two c a.data.toList b.data.toList) e ∧ Below w.heap.size w w' := by
  have hkz : k.size = 1 := by rw [Lib.size_eq, hk]; rfl
  cases hr : right a.data.toList with
  | true =>
    have HR := Lib.hid hr
    have hz := right_sz hr
    cases hq : right b.data.toList with
    | true =>
      have HQ := Lib.hid hq
      have hz2 := right_sz hq
      have hm : two c a.data.toList b.data.toList = made (k ++ a ++ b).data.toList := by unfold two; rw [if_pos ⟨hr, hq⟩, app_data, app_data, hk, List.append_assoc]; rfl
      obtain ⟨KA, hka⟩ : ∃ KA, k ++ a = KA := ⟨_, rfl⟩
      have hkaz0 : KA.size ≤ 4001 := by rw [← hka, Lib.size_eq, app_data, List.length_append, ← Lib.size_eq, ← Lib.size_eq]; omega
      obtain ⟨KB, hkb⟩ : ∃ KB, KA ++ b = KB := ⟨_, rfl⟩
      have hkaz : KB.size ≤ 140737488355328 := by rw [← hkb, Lib.size_eq, app_data, List.length_append, ← Lib.size_eq, ← Lib.size_eq]; omega
      rw [hm, hka, hkb]
      obtain ⟨x, f, hx⟩ : ∃ x f, made KB.data.toList = (x, f) := ⟨_, _, rfl⟩
      have HX := Lib.hid hx
      rw [hx]
      have hkz1 : k.size ≤ 1 := by omega
      have haz1 : a.size ≤ 4000 := by omega
      have hbz1 : b.size ≤ 4000 := by omega
      clear hr hq hm hz hz2 hx hk hkz
      go_enter Try.func40, Try.ntmps40
      go_wp2_with (first
        | (go_at_call 38; refine (made_any KB _ hkaz).mono ?_; rw [HX.out]; rintro e w3 ⟨⟨T, hT, rfl⟩, hb3⟩; have HB3 := Lib.hid (HB2.out.trans (hb3.mono HB2.out.size)); have HT := Lib.hid hT; clear hb3 hT; dsimp only)
        | (go_at_call 54; with_reducible refine (right_any b _ hs2).mono ?_; rw [HQ.out]; rintro e w2 ⟨rfl, hb2⟩; have HB2 := Lib.hid (HB1.out.trans (hb2.mono HB1.out.size)); clear hb2)
        | (go_at_call 54; with_reducible refine (right_any a _ hs).mono ?_; rw [HR.out]; rintro e w1 ⟨rfl, hb1⟩; have HB1 := Lib.hid hb1; clear hb1))
      go_ret2
      exact ⟨⟨T, HT.out, rfl⟩, HB3.out⟩
    | false =>
      have HQ := Lib.hid hq
      have hm : two c a.data.toList b.data.toList = ([], 1) := by unfold two; rw [if_neg (by rw [hq]; simp)]
      rw [hm]
      clear hr hq hm hz hk
      go_enter Try.func40, Try.ntmps40
      go_wp2_with (first
        | (go_at_call 54; with_reducible refine (right_any b _ hs2).mono ?_; rw [HQ.out]; rintro e w2 ⟨rfl, hb2⟩; have HB2 := Lib.hid (HB1.out.trans (hb2.mono HB1.out.size)); clear hb2)
        | (go_at_call 54; with_reducible refine (right_any a _ hs).mono ?_; rw [HR.out]; rintro e w1 ⟨rfl, hb1⟩; have HB1 := Lib.hid hb1; clear hb1))
      go_ret2
      exact ⟨sr_nil _, HB2.out⟩
  | false =>
    have HR := Lib.hid hr
    have hm : two c a.data.toList b.data.toList = ([], 1) := by unfold two; rw [if_neg (by rw [hr]; simp)]
    rw [hm]
    clear hr hm hk
    go_enter Try.func40, Try.ntmps40
    go_wp2_with (go_at_call 54; with_reducible refine (right_any a _ hs).mono ?_; rw [HR.out]; rintro e w1 ⟨rfl, hb1⟩; have HB1 := Lib.hid hb1; clear hb1)
    go_ret2
    exact ⟨sr_nil _, HB1.out⟩
set_option maxHeartbeats 1000000 in
theorem ofHash_any (a : ByteArray) (w : World) (hs : a.size ≤ 140737488355328) :
    Calls Try.prog 28 #[.string a] w fun e w' => Sr (one 104 a.data.toList) e ∧ Below w.heap.size w w' := by
  have HC : Hid (∀ w, Calls Try.prog 42 #[.string ⟨#[104]⟩, .string a] w fun e w' => Sr (one 104 a.data.toList) e ∧ Below w.heap.size w w') := fun w => one_any ⟨#[104]⟩ a 104 w rfl hs
  obtain ⟨x, f, hx⟩ : ∃ x f, one 104 a.data.toList = (x, f) := ⟨_, _, rfl⟩
  rw [hx] at HC ⊢
  clear hx
  go_enter Try.func28, Try.ntmps28
  go_wp2_with (go_at_call 42; refine (HC.out _).mono ?_; rintro e w1 ⟨⟨T, hT, rfl⟩, hb1⟩; have HB1 := Lib.hid hb1; have HT := Lib.hid hT; clear hb1 hT; dsimp only)
  go_ret2
  exact ⟨⟨T, HT.out, rfl⟩, HB1.out⟩
set_option maxHeartbeats 1000000 in
theorem ofPair_any (a b : ByteArray) (w : World) (hs : a.size ≤ 140737488355328) (hs2 : b.size ≤ 140737488355328) :
    Calls Try.prog 26 #[.string a, .string b] w fun e w' => Sr (two 112 a.data.toList b.data.toList) e ∧ Below w.heap.size w w' := by
  have HC : Hid (∀ w, Calls Try.prog 40 #[.string ⟨#[112]⟩, .string a, .string b] w fun e w' => Sr (two 112 a.data.toList b.data.toList) e ∧ Below w.heap.size w w') := fun w => two_any ⟨#[112]⟩ a b 112 w rfl hs hs2
  obtain ⟨x, f, hx⟩ : ∃ x f, two 112 a.data.toList b.data.toList = (x, f) := ⟨_, _, rfl⟩
  rw [hx] at HC ⊢
  clear hx
  go_enter Try.func26, Try.ntmps26
  go_wp2_with (go_at_call 40; refine (HC.out _).mono ?_; rintro e w1 ⟨⟨T, hT, rfl⟩, hb1⟩; have HB1 := Lib.hid hb1; have HT := Lib.hid hT; clear hb1 hT; dsimp only)
  go_ret2
  exact ⟨⟨T, HT.out, rfl⟩, HB1.out⟩
set_option maxHeartbeats 1000000 in
theorem ofAtom_any (n : Nat) (w : World) (hn : n < 18446744073709551616) :
    Calls Try.prog 27 #[.int .u64 n] w fun e w' => St (ofAtom n) e ∧ Below w.heap.size w w' := by
  have HN := Lib.hid hn
  clear hn
  go_enter Try.func27, Try.ntmps27
  go_wp2_with (go_at_call 41; refine (refPut_any n _ HN.out).mono ?_; rintro e w1 ⟨⟨T, hT, rfl⟩, hb1⟩; have hz : T.size ≤ 9 := (put_size hT HN.out); have HB1 := Lib.hid hb1; have HT := Lib.hid hT; clear hb1 hT)
  go_ret
  exact ⟨⟨_, by rw [app_data, HT.out]; rfl, rfl⟩, HB1.out⟩
set_option maxHeartbeats 1000000 in
theorem ofText_any (s : ByteArray) (w : World) (hs : s.size ≤ 140737488355000) :
    Calls Try.prog 25 #[.string s] w fun e w' => Sr (ofText s.data.toList) e ∧ Below w.heap.size w w' := by
  obtain ⟨x, f, hx⟩ : ∃ x f, ofText s.data.toList = (x, f) := ⟨_, _, rfl⟩
  have HX := Lib.hid hx
  rw [hx]
  clear hx
  go_enter Try.func25, Try.ntmps25
  go_wp2_with fail
  refine (refPutText_any s _ hs).mono ?_
  rintro e w1 ⟨⟨P, hP, rfl⟩, hb1⟩
  have HB1 := Lib.hid hb1
  have hPz : P.size ≤ 140737488355100 := by
    have h1 := (put_le (n := s.data.toList.length) (by rw [← Lib.size_eq]; omega)).2
    have h2 := Lib.size_eq s
    rw [Lib.size_eq, hP, putText_len]; omega
  have htp : ((ByteArray.mk #[116]) ++ P).data.toList = 116 :: putText s.data.toList := by rw [app_data, hP]; rfl
  have HTP := Lib.hid htp
  clear hb1 hP htp
  go_wp2_with fail
  obtain ⟨TP, hTP⟩ : ∃ TP, (ByteArray.mk #[116]) ++ P = TP := ⟨_, rfl⟩
  have hTz : TP.size ≤ 140737488355328 := by
    have h1 : ((ByteArray.mk #[116]) ++ P).size = 1 + P.size := by rw [Lib.size_eq, app_data, List.length_append, ← Lib.size_eq]; rfl
    rw [← hTP]; omega
  rw [hTP] at HTP ⊢
  clear hTP
  refine (made_any TP _ hTz).mono ?_
  have hm : made TP.data.toList = (x, f) := by rw [HTP.out]; exact HX.out
  rw [hm]
  rintro e w2 ⟨⟨T, hT, rfl⟩, hb2⟩
  dsimp only at hT ⊢
  have HB2 := Lib.hid (HB1.out.trans (hb2.mono HB1.out.size))
  have HT := Lib.hid hT
  clear hb2 hT hm
  go_wp2
  go_ret2
  exact ⟨⟨T, HT.out, rfl⟩, HB2.out⟩
end Go.Proofs.Ytahlilhdiklemaa.Term
