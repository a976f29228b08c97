/-
  WHAT Derives ANSWERS of who holds states and keys of a root's chain (layer 6). By an AI agent; no person has read it.
-/
import Derived.Test.YtjoldkhfkobahaaRSpec
import Derived.Test.YtjoldkhfkobahaaB3
namespace Go.Proofs.Ytjoldkhfkobahaa.Reg
open Go.RowKit Wire Term Clo Draw

/-- Derives, asked with one text that is held. -/
theorem der_one (CD : DerivesOK) (w w1 : World) (U S : ByteArray) (g : Nat) (hg : g = w1.heap.size) (hb : Below w.heap.size w w1) (hU : right U.data.toList = true) (hS : right S.data.toList = true) {p : Prop} [Decidable p] (hp : Der [U.data.toList] S.data.toList ↔ p) :
    Calls Try.prog 20 #[.slice (some ⟨g, 0, none⟩) 1 1, .string S] (w1.alloc (.cells #[.string U] 9)) fun e w' => e = .returned (.tuple #[.bool (decide p), .int .i64 0]) ∧ Below w.heap.size w w' := by
  refine (CD (some ⟨g, 0, none⟩) 1 [U] S _ (one_reads w1 U g hg) (by simp) (by simp) ?_ (by rw [Lib.size_eq]; have := (right_len hS).2; omega)).mono fun e w' ⟨⟨b, f, h, he⟩, hb2⟩ => ⟨?_, after_alloc hb hb2⟩
  · intro y hy
    obtain rfl : y = U := by simpa using hy
    rw [Lib.size_eq]; have := (right_len hU).2; omega
  · have e0 : bl [U] = [U.data.toList] := rfl
    rw [e0] at h
    obtain ⟨h3, h4⟩ := dv_ok h (by
      intro x hx
      obtain rfl : x = U.data.toList := by simpa using hx
      exact hU) (by simp) hS
    rw [hp] at h4
    have h5 : b = decide p := by
      by_cases e : p
      · rw [decide_eq_true e]; exact h4.2 e
      · rw [decide_eq_false e, ← Bool.not_eq_true]; exact fun h => e (h4.1 h)
    rw [he, h3, h5]
/-- Derives, asked with two texts that lie in memory. -/
theorem der_reads (CD : DerivesOK) (w : World) (U T S : ByteArray) (a : Option Addr) (hr : SReads w a [U, T]) (hU : right U.data.toList = true) (hT : right T.data.toList = true) (hS : right S.data.toList = true) {p : Prop} [Decidable p] (hp : Der [U.data.toList, T.data.toList] S.data.toList ↔ p) :
    Calls Try.prog 20 #[.slice a 2 2, .string S] w fun e w' => e = .returned (.tuple #[.bool (decide p), .int .i64 0]) ∧ Below w.heap.size w w' := by
  refine (CD a 2 [U, T] S w hr (Nat.le_refl _) (by simp) ?_ (by rw [Lib.size_eq]; have := (right_len hS).2; omega)).mono fun e w' ⟨⟨b, f, h, he⟩, hb2⟩ => ⟨?_, hb2⟩
  · intro y hy
    have : y = U ∨ y = T := by simpa using hy
    rcases this with rfl | rfl
    · rw [Lib.size_eq]; have := (right_len hU).2; omega
    · rw [Lib.size_eq]; have := (right_len hT).2; omega
  · have e0 : bl [U, T] = [U.data.toList, T.data.toList] := rfl
    rw [e0] at h
    obtain ⟨h3, h4⟩ := dv_ok h (by
      intro x hx
      have : x = U.data.toList ∨ x = T.data.toList := by simpa using hx
      rcases this with rfl | rfl
      · exact hU
      · exact hT) (by simp) hS
    rw [hp] at h4
    have h5 : b = decide p := by
      by_cases e : p
      · rw [decide_eq_true e]; exact h4.2 e
      · rw [decide_eq_false e, ← Bool.not_eq_true]; exact fun h => e (h4.1 h)
    rw [he, h3, h5]
/-! ### what can be told -/
section
variable {n m x y : Nat}
theorem only (hn : n < 18446744073709551616) (hm : m < 18446744073709551616) (hnm : m ≠ n) {s : List UInt8} (hs : s.headD 0 = 104) : (∀ z ∈ [s, ofAtom m], z.headD 0 = 104 ∨ z.headD 0 = 97) ∧ ofAtom n ∉ [s, ofAtom m] := by
  refine ⟨fun z hz => ?_, fun h => ?_⟩
  · have : z = s ∨ z = ofAtom m := by simpa using hz
    rcases this with rfl | rfl
    · exact .inl hs
    · exact .inr rfl
  · have : ofAtom n = s ∨ ofAtom n = ofAtom m := by simpa using h
    rcases this with e | e
    · rw [← e] at hs; exact absurd hs (by show ¬ (97 : UInt8) = 104; decide)
    · have e2 : put n = put m := (List.cons.inj e).2
      exact hnm (Wire.put_inj hm hn (r := []) (q := []) (by rw [e2])).1
/-- Of a state, and another atom: the states ahead of it alone .. -/
theorem hold_state (hn : n < 18446744073709551616) (hm : m < 18446744073709551616) (hnm : m ≠ n) (hx : x ≤ 7) (hy : y ≤ 7) : Der [hs (7 - x) (rootS n), ofAtom m] (hs (7 - y) (rootS n)) ↔ y ≤ x := by
  obtain ⟨h1, h2⟩ := only hn hm hnm (hs_head (7 - x) n)
  rw [der_state hn h1 h2 (by omega)]
  constructor
  · rintro ⟨j, hj, hmem⟩
    have : hs j (rootS n) = hs (7 - x) (rootS n) ∨ hs j (rootS n) = ofAtom m := by simpa using hmem
    rcases this with e | e
    · have := hs_inj e; omega
    · have h3 := hs_head j n
      rw [e] at h3; exact absurd h3 (by show ¬ (97 : UInt8) = 104; decide)
  · exact fun h => ⟨7 - x, by omega, by simp⟩
/-- .. and their keys. -/
theorem hold_key (hn : n < 18446744073709551616) (hm : m < 18446744073709551616) (hnm : m ≠ n) (hx : x ≤ 7) (hy : y ≤ 7) : Der [hs (7 - x) (rootS n), ofAtom m] (keyh (hs (7 - y) (rootS n))) ↔ y ≤ x := by
  obtain ⟨h1, _⟩ := only hn hm hnm (hs_head (7 - x) n)
  rw [der_key hn h1 (by omega), hold_state hn hm hnm hx hy]
  refine ⟨fun h => h.elim (fun h => ?_) id, .inr⟩
  have : keyh (hs (7 - y) (rootS n)) = hs (7 - x) (rootS n) ∨ keyh (hs (7 - y) (rootS n)) = ofAtom m := by simpa using h
  rcases this with e | e
  · exact absurd e key_state
  · exact absurd (congrArg (fun l : List UInt8 => l.headD 0) e) (by show ¬ (104 : UInt8) = 97; decide)
theorem alone (k : Nat) : (∀ z ∈ [keyh (hs k (rootS n))], z.headD 0 = 104 ∨ z.headD 0 = 97) ∧ ofAtom n ∉ [keyh (hs k (rootS n))] := by
  refine ⟨fun z hz => ?_, fun h => ?_⟩
  · rw [List.mem_singleton.1 hz]; exact .inl rfl
  · exact absurd (congrArg (fun l : List UInt8 => l.headD 0) (List.mem_singleton.1 h)) (by show ¬ (97 : UInt8) = 104; decide)
/-- A key alone tells no state .. -/
theorem key_alone (hn : n < 18446744073709551616) (k : Nat) (hy : y ≤ 7) : Der [keyh (hs k (rootS n))] (hs (7 - y) (rootS n)) ↔ False := by
  obtain ⟨h1, h2⟩ := alone (n := n) k
  rw [der_state hn h1 h2 (by omega)]
  refine ⟨fun ⟨j, _, hm⟩ => ?_, False.elim⟩
  exact key_state (List.mem_singleton.1 hm).symm
/-- .. and no other key. -/
theorem key_others (hn : n < 18446744073709551616) (hx : x ≤ 7) (hy : y ≤ 7) : Der [keyh (hs (7 - x) (rootS n))] (keyh (hs (7 - y) (rootS n))) ↔ x = y := by
  obtain ⟨h1, _⟩ := alone (n := n) (7 - x)
  rw [der_key hn h1 (by omega), key_alone hn (7 - x) hy]
  constructor
  · rintro (h | h)
    · have := hs_inj (keyh_inj (List.mem_singleton.1 h)); omega
    · exact h.elim
  · rintro rfl; exact .inl (by simp)
theorem keyh_eq (hx : x ≤ 7) (hy : y ≤ 7) : keyh (hs (7 - x) (rootS n)) = keyh (hs (7 - y) (rootS n)) ↔ x = y :=
  ⟨fun h => by have := hs_inj (keyh_inj h); omega, fun h => by rw [h]⟩
theorem hs_eq (hx : x ≤ 7) (hy : y ≤ 7) : hs (7 - x) (rootS n) = hs (7 - y) (rootS n) ↔ x = y :=
  ⟨fun h => by have := hs_inj h; omega, fun h => by rw [h]⟩
end
end Go.Proofs.Ytjoldkhfkobahaa.Reg
