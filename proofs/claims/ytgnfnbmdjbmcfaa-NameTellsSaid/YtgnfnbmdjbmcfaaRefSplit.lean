/-
  CONTRACTS of the document's Split and Less (letterlockref1) at this program. By an AI agent; no person has read it.
-/
import Derived.Test.YtgnfnbmdjbmcfaaRefCalls
namespace Go.Proofs.Ytgnfnbmdjbmcfaa
open Go.RowKit Txt

theorem at_byte (s : ByteArray) {k : Nat} (h : k < s.size) : s.data.toList[k]? = some (s[k]'h) := by
  have hk : k < s.data.toList.length := by rw [← Lib.size_eq]; exact h
  rw [List.getElem?_eq_getElem hk]
  have e := get_at s k h
  rw [Nat.add_zero, ← Lib.getD_get!'] at e
  rw [← e]
  simp only [List.getD, List.getElem?_eq_getElem hk, Option.getD_some]
theorem extract_take (s : ByteArray) (k : Nat) : (s.extract 0 k).data.toList = s.data.toList.take k := by
  rw [Lib.extract_data, List.drop_zero, Nat.sub_zero]

set_option maxHeartbeats 2000000 in
set_option maxRecDepth 1000000 in
theorem refsplit_any (s : ByteArray) (w : World) (hs : s.size ≤ 1000000) : Calls Try.prog 16 #[.string s] w fun e w' => Parted s.data.toList e ∧ Below w.heap.size w w' := by
  go_enter Try.func16, Try.ntmps16
  go_wp2_with fail
  go_loop [5] (fun i => ∃ k : Nat, k ≤ s.size ∧ i = .int .i64 k ∧ ∀ j, j < k → s.data.toList[j]? ≠ some 47) (fun i => s.size - (intOf i).toNat)
  case atStart => exact ⟨0, Nat.zero_le _, rfl, fun j h => by omega⟩
  case round =>
    obtain ⟨k, hk, rfl, hno⟩ := hrel
    have HNO := Lib.hid hno
    clear hno
    by_cases hlt : k < s.size
    · have hab := at_byte s hlt
      have k0 : (0 : Int) ≤ ↑k := by omega
      have k1 : (↑k : Int) < ↑s.size := by omega
      by_cases h47 : (s[k]'hlt) = 47
      · have ht : (((s[k]'hlt).toNat : Int) == 47) = true := by rw [h47]; rfl
        have hcut := cutAt_take (hab.trans (by rw [h47])) HNO.out
        have HC := Lib.hid hcut
        have k2 : (0 : Int) ≤ ↑k + 1 := by omega
        have k3 : (↑k + 1 : Int) ≤ ↑s.size := by omega
        have k4 : (↑k : Int) ≤ ↑s.size := by omega
        have s1 : (s.extract 0 k).size ≤ 1000000 := by rw [Lib.size_eq, extract_take, List.length_take]; omega
        have s2 : (s.extract (k + 1) s.size).size ≤ 1000000 := by rw [Lib.size_eq, extract_drop, List.length_drop, ← Lib.size_eq]; omega
        clear hab hcut h47
        cases hra : right (s.data.toList.take k) with
        | false =>
          have HA := Lib.hid hra
          clear hra
          go_wp2_with fail
          refine (refright_is _ false (by rw [extract_take]; exact HA.out) _ s1).mono ?_
          rintro e w1 ⟨rfl, b1⟩
          go_wp2_with fail
          go_ret3
          exact ⟨.inl ⟨split_cut_no1 HC.out HA.out, rfl⟩, b1⟩
        | true =>
          have HA := Lib.hid hra
          clear hra
          cases hrb : right (s.data.toList.drop (k + 1)) with
          | false =>
            have HB := Lib.hid hrb
            clear hrb
            go_wp2_with fail
            refine (refright_is _ true (by rw [extract_take]; exact HA.out) _ s1).mono ?_
            rintro e w1 ⟨rfl, b1⟩
            go_wp2_with fail
            refine (refright_is _ false (by rw [extract_drop]; exact HB.out) _ s2).mono ?_
            rintro e w2 ⟨rfl, b2⟩
            go_wp2_with fail
            go_ret3
            exact ⟨.inl ⟨split_cut_no2 HC.out HB.out, rfl⟩, b1.trans (b2.mono b1.size)⟩
          | true =>
            have HB := Lib.hid hrb
            clear hrb
            go_wp2_with fail
            refine (refright_is _ true (by rw [extract_take]; exact HA.out) _ s1).mono ?_
            rintro e w1 ⟨rfl, b1⟩
            go_wp2_with fail
            refine (refright_is _ true (by rw [extract_drop]; exact HB.out) _ s2).mono ?_
            rintro e w2 ⟨rfl, b2⟩
            go_wp2_with fail
            go_ret3
            refine ⟨.inr ⟨_, _, split_cut_yes HC.out HA.out HB.out, ?_⟩, b1.trans (b2.mono b1.size)⟩
            rw [← bytes_of (extract_take s k), ← bytes_of (extract_drop s (k + 1))]
            rfl
      · have ht : (((s[k]'hlt).toNat : Int) == 47) = false := by
          rw [beq_eq_false_iff_ne]
          intro h
          exact h47 (UInt8.toNat_inj.1 (by show (s[k]'hlt).toNat = 47; omega))
        have HAB := Lib.hid hab
        have H47 := Lib.hid h47
        clear hab h47
        go_wp2_with fail
        go_round
        case rel =>
          refine ⟨k + 1, by omega, by go_num, fun j hj => ?_⟩
          by_cases hjk : j < k
          · exact HNO.out j hjk
          · obtain rfl : j = k := by omega
            rw [HAB.out]
            intro h
            exact H47.out (Option.some.inj h)
        case measure => simp [intOf]; omega
    · obtain rfl : k = s.size := by omega
      go_wp2
      go_ret3
      refine ⟨.inl ⟨split_cut_none (cutAt_miss fun j => ?_), rfl⟩, Below.refl _ _⟩
      by_cases hj : j < s.size
      · exact HNO.out j hj
      · rw [List.getElem?_eq_none (by rw [← Lib.size_eq]; omega)]
        simp

theorem bless_at : ∀ {a b : List UInt8} {k : Nat} {x y : UInt8}, a.take k = b.take k → a[k]? = some x → b[k]? = some y → x ≠ y → Op.bytesLess a b = decide (x.toNat < y.toNat)
  | p :: a, q :: b, 0, x, y, _, hx, hy, hne => by
    simp only [List.getElem?_cons_zero, Option.some.injEq] at hx hy
    subst hx hy
    have e1 : decide (p < q) = decide (p.toNat < q.toNat) := decide_eq_decide.2 UInt8.lt_iff_toNat_lt
    have e2 : (p == q) = false := beq_eq_false_iff_ne.2 hne
    simp only [Op.bytesLess, e1, e2, Bool.false_and, Bool.or_false]
  | p :: a, q :: b, k + 1, x, y, ht, hx, hy, hne => by
    simp only [List.take_succ_cons, List.cons.injEq] at ht
    obtain ⟨rfl, ht⟩ := ht
    simp only [List.getElem?_cons_succ] at hx hy
    simp [Op.bytesLess, bless_at ht hx hy hne]
theorem bless_end : ∀ {a b : List UInt8} {k : Nat}, k ≤ a.length → k ≤ b.length → (k = a.length ∨ k = b.length) → a.take k = b.take k → Op.bytesLess a b = decide (a.length < b.length)
  | [], [], _, _, _, _, _ => rfl
  | [], y :: b, _, _, _, _, _ => by simp [Op.bytesLess]
  | x :: a, [], _, _, _, _, _ => by simp [Op.bytesLess]
  | x :: a, y :: b, 0, _, _, h, _ => by simp at h
  | x :: a, y :: b, k + 1, h1, h2, h, ht => by
    simp only [List.take_succ_cons, List.cons.injEq] at ht
    obtain ⟨rfl, ht⟩ := ht
    simp [Op.bytesLess, bless_end (k := k) (by simpa using h1) (by simpa using h2) (by simpa using h) ht]
theorem take_bytes {a b : List UInt8} {k : Nat} {x : UInt8} (ht : a.take k = b.take k) (hx : a[k]? = some x) (hy : b[k]? = some x) : a.take (k + 1) = b.take (k + 1) := by
  rw [List.take_add_one, List.take_add_one, ht, hx, hy]

set_option maxHeartbeats 2000000 in
set_option maxRecDepth 1000000 in
theorem refless_any (a b : ByteArray) (w : World) (sa : a.size ≤ 1000000) : Calls Try.prog 25 #[.string a, .string b] w fun e w' => e = .returned (.bool (Op.bytesLess a.data.toList b.data.toList)) ∧ Below w.heap.size w w' := by
  go_enter Try.func25, Try.ntmps25
  go_wp2_with fail
  go_loopw [5] (fun i wr => ∃ k : Nat, k ≤ a.size ∧ k ≤ b.size ∧ i = .int .i64 k ∧ a.data.toList.take k = b.data.toList.take k ∧ Below w.heap.size w wr) (fun i _ => a.size - (intOf i).toNat)
  case atStart => exact ⟨0, Nat.zero_le _, Nat.zero_le _, rfl, rfl, Below.refl _ _⟩
  case round =>
    obtain ⟨k, hk1, hk2, rfl, htk, hbel⟩ := hrel
    have HTK := Lib.hid htk
    clear htk
    by_cases hlt : k < a.size ∧ k < b.size
    · obtain ⟨hlt1, hlt2⟩ := hlt
      have hx := at_byte a hlt1
      have hy := at_byte b hlt2
      have k0 : (0 : Int) ≤ ↑k := by omega
      have k1 : (↑k : Int) < ↑a.size := by omega
      have k2 : (↑k : Int) < ↑b.size := by omega
      by_cases he : (a[k]'hlt1) = (b[k]'hlt2)
      · have hne : (((a[k]'hlt1).toNat : Int) != ((b[k]'hlt2).toNat : Int)) = false := by rw [he]; simp
        have HT2 := Lib.hid (take_bytes HTK.out hx (by rw [hy, he]))
        clear hx hy he
        go_wp2_with fail
        go_quiet (fail)
        go_wp2
        go_roundw
        case rel => exact ⟨k + 1, by omega, by omega, by go_num, HT2.out, below_drewN hbel _⟩
        case measure => simp [intOf]; omega
      · have hne : (((a[k]'hlt1).toNat : Int) != ((b[k]'hlt2).toNat : Int)) = true := by
          rw [bne_iff_ne]
          intro h
          exact he (UInt8.toNat_inj.1 (by omega))
        have HB := Lib.hid (bless_at HTK.out hx hy he)
        clear hx hy he
        go_wp2_with fail
        go_quiet (fail)
        go_wp2_with fail
        go_quiet (fail)
        go_wp2_with fail
        go_ret
        exact ⟨ret_bool (by rw [HB.out]), below_drewN (below_drewN hbel _) _⟩
    · have hend := bless_end (by rw [← Lib.size_eq]; exact hk1) (by rw [← Lib.size_eq]; exact hk2) (by rw [← Lib.size_eq, ← Lib.size_eq]; omega) HTK.out
      have HE := Lib.hid hend
      clear hend
      by_cases ha : k < a.size
      · have hb : ¬ k < b.size := by omega
        clear hlt
        go_wp2_with fail
        go_ret
        exact ⟨ret_bool (by rw [HE.out, ← Lib.size_eq, ← Lib.size_eq]), hbel⟩
      · clear hlt
        go_wp2_with fail
        go_ret
        exact ⟨ret_bool (by rw [HE.out, ← Lib.size_eq, ← Lib.size_eq]), hbel⟩
end Go.Proofs.Ytgnfnbmdjbmcfaa
