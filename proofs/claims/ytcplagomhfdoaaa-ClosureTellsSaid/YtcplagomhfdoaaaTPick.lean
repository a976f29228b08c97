/-
  CONTRACTS of the laws' own helpers pick, joined (letterlocklaw3) at this program. By an AI agent; no person has read it.
-/
import Derived.Test.YtcplagomhfdoaaaTMake
import Derived.Test.YtcplagomhfdoaaaWStrs
namespace Go.Proofs.Ytcplagomhfdoaaa.Term
open Go.RowKit Wire

def Picked (n : Nat) (e : Ending) : Prop := ∃ m : Nat, m < n ∧ e = .returned (.int .i64 (m : Int))
set_option maxHeartbeats 1000000 in
theorem pick_any (c : Int) (n : Nat) (w : World) (hc : -9223372036854775808 ≤ c ∧ c ≤ 9223372036854775807) (hn : 0 < n) (hn2 : n ≤ 9223372036854775807) :
    Calls Try.prog 23 #[.int .i64 c, .int .i64 (n : Int)] w fun e w' => Picked n e ∧ w = w' := by
  obtain ⟨hc1, hc2⟩ := hc
  have hn0 : (0 : Int) < (n : Int) := by omega
  by_cases hneg : c < 0
  · obtain ⟨q, hq⟩ : ∃ q : Nat, c + 1 = -(q : Int) := ⟨(-(c + 1)).toNat, by omega⟩
    obtain ⟨K, hK⟩ : ∃ K : Nat, q % n = K := ⟨_, rfl⟩
    have hKn : K < n := by rw [← hK]; exact Nat.mod_lt _ hn
    have hrem : (c + 1).tmod (n : Int) = -(K : Int) := by rw [hq, Int.neg_tmod, ← Int.ofNat_tmod, hK]
    clear hq hK
    go_enter Try.func23, Try.ntmps23
    go_wp2
    go_ret
    exact ⟨⟨K, hKn, by simp⟩, rfl⟩
  · obtain ⟨q, hq⟩ : ∃ q : Nat, c = (q : Int) := ⟨c.toNat, by omega⟩
    obtain ⟨K, hK⟩ : ∃ K : Nat, q % n = K := ⟨_, rfl⟩
    have hKn : K < n := by rw [← hK]; exact Nat.mod_lt _ hn
    have hrem : c.tmod (n : Int) = (K : Int) := by rw [hq, ← Int.ofNat_tmod, hK]
    have hrem2 : c % (n : Int) = (K : Int) := by rw [hq, ← Int.natCast_emod, hK]
    have hc0 : 0 ≤ c := by omega
    clear hq hK
    go_enter Try.func23, Try.ntmps23
    go_wp2
    go_ret
    exact ⟨⟨K, hKn, rfl⟩, rfl⟩

theorem made_right {l x : List UInt8} {f : Int} (h : made l = (x, f)) : f = 0 → right x = true := by
  unfold made at h
  split at h
  · rename_i hr
    simp only [Prod.mk.injEq] at h
    intro _
    rw [← h.1]; exact hr
  · simp only [Prod.mk.injEq] at h
    intro h0; omega
theorem one_right {k : UInt8} {a x : List UInt8} {f : Int} (h : one k a = (x, f)) : f = 0 → right x = true := by
  unfold one at h
  split at h
  · exact made_right h
  · simp only [Prod.mk.injEq] at h
    intro h0; omega
theorem two_right {k : UInt8} {a b x : List UInt8} {f : Int} (h : two k a b = (x, f)) : f = 0 → right x = true := by
  unfold two at h
  split at h
  · exact made_right h
  · simp only [Prod.mk.injEq] at h
    intro h0; omega
theorem box_right {a b x : List UInt8} {f : Int} (h : box a b = (x, f)) : f = 0 → right x = true := by
  unfold box at h
  split at h
  · exact two_right h
  · simp only [Prod.mk.injEq] at h
    intro h0; omega
theorem made_err {l x : List UInt8} {f : Int} (h : made l = (x, f)) : (f = 0 ∧ x = l ∧ right l = true) ∨ (f = 10 ∧ x = [] ∧ right l = false) := by
  unfold made at h
  split at h
  · rename_i hr
    simp only [Prod.mk.injEq] at h
    exact .inl ⟨h.2.symm, h.1.symm, hr⟩
  · rename_i hr
    simp only [Prod.mk.injEq] at h
    exact .inr ⟨h.2.symm, h.1.symm, by simpa using hr⟩
def AText (e : Ending) : Prop := ∃ T : ByteArray, right T.data.toList = true ∧ e = .returned (.string T)
theorem ofAtom_right {n : Nat} (hn : n < 18446744073709551616) : right (ofAtom n) = true := by
  have h1 := put_le hn
  refine right_iff.2 ⟨by simp [ofAtom], by simp only [ofAtom, List.length_cons]; omega, ?_⟩
  show up (body (size 39) 97 (put n)) = _
  have h2 : body (size 39) 97 (put n) = some (put n).length := by
    have h3 := take_put hn []
    rw [List.append_nil] at h3
    show leaf 97 (put n) = _
    unfold leaf
    rw [if_pos rfl, h3]
    simp
  rw [h2]
  simp only [up, ofAtom, List.length_cons]; omega
theorem ofText_right {s x : List UInt8} {f : Int} (h : ofText s = (x, f)) : f = 0 → right x = true := made_right h

set_option maxHeartbeats 2000000 in
set_option maxRecDepth 1000000 in
theorem joined_any (c : Int) (a b : ByteArray) (w : World) (hc : -9223372036854775808 ≤ c ∧ c ≤ 9223372036854775807) (ha : right a.data.toList = true) (hb : right b.data.toList = true) :
    Calls Try.prog 32 #[.int .i64 c, .string a, .string b] w fun e w' => AText e ∧ Below w.heap.size w w' := by
  have haz := (right_sz ha).2
  have hbz := (right_sz hb).2
  have HA := Lib.hid ha
  have HB := Lib.hid hb
  clear ha hb
  go_enter Try.func32, Try.ntmps32
  go_wp2_with fail
  refine (pick_any c 4 _ hc (by omega) (by omega)).mono ?_
  rintro e w' ⟨⟨m, hm, rfl⟩, rfl⟩
  dsimp only
  obtain rfl | rfl | rfl | rfl : m = 0 ∨ m = 1 ∨ m = 2 ∨ m = 3 := by omega
  · obtain ⟨x, f, hx⟩ : ∃ x f, two 112 a.data.toList b.data.toList = (x, f) := ⟨_, _, rfl⟩
    have HX := Lib.hid hx
    have HXR := Lib.hid (two_right hx)
    clear hx
    go_wp2_with fail
    refine (ofPair_any a b _ (by omega) (by omega)).mono ?_
    rw [HX.out]
    rintro e w1 ⟨⟨T, hT, rfl⟩, hb1⟩
    dsimp only at hT ⊢
    have HB1 := Lib.hid hb1
    have HT := Lib.hid hT
    clear hT hb1
    by_cases hf : f = 0
    · subst hf
      go_wp2
      go_ret
      exact ⟨⟨T, by rw [HT.out]; exact HXR.out (by trivial), rfl⟩, HB1.out⟩
    · have hfb : (f != 0) = true := by simpa using hf
      clear hf
      go_wp2
      go_ret
      exact ⟨⟨a, HA.out, rfl⟩, HB1.out⟩
  · obtain ⟨x, f, hx⟩ : ∃ x f, two 115 a.data.toList b.data.toList = (x, f) := ⟨_, _, rfl⟩
    have HX := Lib.hid hx
    have HXR := Lib.hid (two_right hx)
    clear hx
    go_wp2_with fail
    refine (seal_any a b _ (by omega) (by omega)).mono ?_
    rw [HX.out]
    rintro e w1 ⟨⟨T, hT, rfl⟩, hb1⟩
    dsimp only at hT ⊢
    have HB1 := Lib.hid hb1
    have HT := Lib.hid hT
    clear hT hb1
    by_cases hf : f = 0
    · subst hf
      go_wp2
      go_ret
      exact ⟨⟨T, by rw [HT.out]; exact HXR.out (by trivial), rfl⟩, HB1.out⟩
    · have hfb : (f != 0) = true := by simpa using hf
      clear hf
      go_wp2
      go_ret
      exact ⟨⟨a, HA.out, rfl⟩, HB1.out⟩
  · obtain ⟨y, g, hy⟩ : ∃ y g, one 117 a.data.toList = (y, g) := ⟨_, _, rfl⟩
    have HY := Lib.hid hy
    have hyz : y.length ≤ 4000 := by
      unfold one at hy
      split at hy
      · rcases made_err hy with ⟨_, rfl, h⟩ | ⟨_, rfl, _⟩
        · exact (right_len h).2
        · simp
      · simp only [Prod.mk.injEq] at hy
        rw [← hy.1]; simp
    clear hy
    obtain ⟨x, f, hx⟩ : ∃ x f, box y b.data.toList = (x, f) := ⟨_, _, rfl⟩
    have HX := Lib.hid hx
    have HXR := Lib.hid (box_right hx)
    clear hx
    go_wp2_with fail
    refine (ofPublic_any a _ (by omega)).mono ?_
    rw [HY.out]
    rintro e w1 ⟨⟨U, hU, rfl⟩, hb1⟩
    dsimp only at hU ⊢
    have HB1 := Lib.hid hb1
    have hUz : U.size ≤ 4000 := by rw [Lib.size_eq, hU]; exact hyz
    have HU := Lib.hid hU
    clear hU hb1
    go_wp2_with fail
    refine (box_any U b _ (by omega) (by omega)).mono ?_
    rw [HU.out, HX.out]
    rintro e w2 ⟨⟨T, hT, rfl⟩, hb2⟩
    dsimp only at hT ⊢
    have HB2 := Lib.hid (HB1.out.trans (hb2.mono HB1.out.size))
    have HT := Lib.hid hT
    clear hT hb2
    by_cases hf : f = 0
    · subst hf
      go_wp2
      go_ret
      exact ⟨⟨T, by rw [HT.out]; exact HXR.out (by trivial), rfl⟩, HB2.out⟩
    · have hfb : (f != 0) = true := by simpa using hf
      clear hf
      go_wp2
      go_ret
      exact ⟨⟨a, HA.out, rfl⟩, HB2.out⟩
  · obtain ⟨x, f, hx⟩ : ∃ x f, two 103 a.data.toList b.data.toList = (x, f) := ⟨_, _, rfl⟩
    have HX := Lib.hid hx
    have HXR := Lib.hid (two_right hx)
    clear hx
    go_wp2_with fail
    refine (sign_any a b _ (by omega) (by omega)).mono ?_
    rw [HX.out]
    rintro e w1 ⟨⟨T, hT, rfl⟩, hb1⟩
    dsimp only at hT ⊢
    have HB1 := Lib.hid hb1
    have HT := Lib.hid hT
    clear hT hb1
    by_cases hf : f = 0
    · subst hf
      go_wp2
      go_ret
      exact ⟨⟨T, by rw [HT.out]; exact HXR.out (by trivial), rfl⟩, HB1.out⟩
    · have hfb : (f != 0) = true := by simpa using hf
      clear hf
      go_wp2
      go_ret
      exact ⟨⟨a, HA.out, rfl⟩, HB1.out⟩
end Go.Proofs.Ytcplagomhfdoaaa.Term
