/-
  CONTRACT of the document's Less (letterlockref1), from layer 1's texts. By an AI agent; no person has read it.
-/
import Derived.Test.YtamkepfhlfeiiaaPApp
namespace Go.Proofs.Ytamkepfhlfeiiaa.Sto
open Go Go.RowKit Wire

set_option linter.unusedVariables false
theorem at_byte (s : ByteArray) {k : Nat} (h : k < s.size) : s.data.toList[k]? = some (s[k]'h) := by
  have hk : k < s.data.toList.length := by rw [← Lib.size_eq]; exact h
  rw [List.getElem?_eq_getElem hk]
  rfl
theorem bless_at : ∀ {a b : List UInt8} {k : Nat} {x y : UInt8}, a.take k = b.take k → a[k]? = some x → b[k]? = some y → x ≠ y → Op.bytesLess a b = decide (x.toNat < y.toNat)
  | p :: a, q :: b, 0, x, y, _, hx, hy, hne => by
    simp only [List.getElem?_cons_zero, Option.some.injEq] at hx hy
    subst hx hy
    have e1 : decide (p < q) = decide (p.toNat < q.toNat) := decide_eq_decide.2 UInt8.lt_iff_toNat_lt
    have e2 : (p == q) = false := beq_eq_false_iff_ne.2 hne
    simp only [Op.bytesLess, e1, e2, Bool.false_and, Bool.or_false]
  | p :: a, q :: b, k + 1, x, y, ht, hx, hy, hne => by
    simp only [List.take_succ_cons, List.cons.injEq] at ht
    obtain ⟨rfl, ht⟩ := ht
    simp only [List.getElem?_cons_succ] at hx hy
    simp [Op.bytesLess, bless_at ht hx hy hne]
theorem bless_end : ∀ {a b : List UInt8} {k : Nat}, k ≤ a.length → k ≤ b.length → (k = a.length ∨ k = b.length) → a.take k = b.take k → Op.bytesLess a b = decide (a.length < b.length)
  | [], [], _, _, _, _, _ => rfl
  | [], y :: b, _, _, _, _, _ => by simp [Op.bytesLess]
  | x :: a, [], _, _, _, _, _ => by simp [Op.bytesLess]
  | x :: a, y :: b, 0, _, _, h, _ => by simp at h
  | x :: a, y :: b, k + 1, h1, h2, h, ht => by
    simp only [List.take_succ_cons, List.cons.injEq] at ht
    obtain ⟨rfl, ht⟩ := ht
    simp [Op.bytesLess, bless_end (k := k) (by simpa using h1) (by simpa using h2) (by simpa using h) ht]
theorem take_bytes {a b : List UInt8} {k : Nat} {x : UInt8} (ht : a.take k = b.take k) (hx : a[k]? = some x) (hy : b[k]? = some x) : a.take (k + 1) = b.take (k + 1) := by
  rw [List.take_add_one, List.take_add_one, ht, hx, hy]

set_option maxHeartbeats 2000000 in
set_option maxRecDepth 1000000 in
theorem refless_any (a b : ByteArray) (w : World) (sa : a.size ≤ 1000000) : Calls Try.prog 49 #[.string a, .string b] w fun e w' => e = .returned (.bool (Op.bytesLess a.data.toList b.data.toList)) ∧ Below w.heap.size w w' := by
  go_enter Try.func49, Try.ntmps49
  go_wp2_with fail
  go_loopw [5] (fun i wr => ∃ k : Nat, k ≤ a.size ∧ k ≤ b.size ∧ i = .int .i64 k ∧ a.data.toList.take k = b.data.toList.take k ∧ Below w.heap.size w wr) (fun i _ => a.size - (intOf i).toNat)
  case atStart => exact ⟨0, Nat.zero_le _, Nat.zero_le _, rfl, rfl, Below.refl _ _⟩
  case round =>
    obtain ⟨k, hk1, hk2, rfl, htk, hbel⟩ := hrel
    have HTK := Lib.hid htk
    clear htk
    by_cases hlt : k < a.size ∧ k < b.size
    · obtain ⟨hlt1, hlt2⟩ := hlt
      have hx := at_byte a hlt1
      have hy := at_byte b hlt2
      have k0 : (0 : Int) ≤ ↑k := by omega
      have k1 : (↑k : Int) < ↑a.size := by omega
      have k2 : (↑k : Int) < ↑b.size := by omega
      by_cases he : (a[k]'hlt1) = (b[k]'hlt2)
      · have hne : (((a[k]'hlt1).toNat : Int) != ((b[k]'hlt2).toNat : Int)) = false := by rw [he]; simp
        have HT2 := Lib.hid (take_bytes HTK.out hx (by rw [hy, he]))
        clear hx hy he
        go_wp2_with fail
        go_quiet (fail)
        go_wp2
        go_roundw
        case rel => exact ⟨k + 1, by omega, by omega, by go_num, HT2.out, Below.drewN' hbel _⟩
        case measure => simp [intOf]; omega
      · have hne : (((a[k]'hlt1).toNat : Int) != ((b[k]'hlt2).toNat : Int)) = true := by
          rw [bne_iff_ne]
          intro h
          exact he (UInt8.toNat_inj.1 (by omega))
        have HB := Lib.hid (bless_at HTK.out hx hy he)
        clear hx hy he
        go_wp2_with fail
        go_quiet (fail)
        go_wp2_with fail
        go_quiet (fail)
        go_wp2_with fail
        go_ret
        exact ⟨ret_bool (by rw [HB.out]), Below.drewN' (Below.drewN' hbel _) _⟩
    · have hend := bless_end (by rw [← Lib.size_eq]; exact hk1) (by rw [← Lib.size_eq]; exact hk2) (by rw [← Lib.size_eq, ← Lib.size_eq]; omega) HTK.out
      have HE := Lib.hid hend
      clear hend
      by_cases ha : k < a.size
      · have hb : ¬ k < b.size := by omega
        clear hlt
        go_wp2_with fail
        go_ret
        exact ⟨ret_bool (by rw [HE.out, ← Lib.size_eq, ← Lib.size_eq]), hbel⟩
      · clear hlt
        go_wp2_with fail
        go_ret
        exact ⟨ret_bool (by rw [HE.out, ← Lib.size_eq, ← Lib.size_eq]), hbel⟩
end Go.Proofs.Ytamkepfhlfeiiaa.Sto
