/-
  PLAIN LEAN, OF NO PROGRAM: texts stand as their runes do. By an AI agent; no person has read it.
-/
import Derived.Test.YtgnfnbmdjbmcfaaNames
namespace Go.Proofs.Ytgnfnbmdjbmcfaa.Txt
open Go.Lib

theorem less_cons {m k : Nat} (hm : m < 256) (hk : k < 256) (s t : List UInt8) : Op.bytesLess (m.toUInt8 :: s) (k.toUInt8 :: t) = (decide (m < k) || (decide (m = k) && Op.bytesLess s t)) := by
  have e1 : decide (m.toUInt8 < k.toUInt8) = decide (m < k) := decide_eq_decide.2 (by rw [UInt8.lt_iff_toNat_lt, u8_of m hm, u8_of k hk])
  have e2 : (m.toUInt8 == k.toUInt8) = decide (m = k) := by
    rw [Bool.eq_iff_iff]
    simp only [beq_iff_eq, decide_eq_true_eq]
    exact ⟨fun h => by have := congrArg UInt8.toNat h; rwa [u8_of m hm, u8_of k hk] at this, fun h => by rw [h]⟩
  simp only [Op.bytesLess, e1, e2]

set_option maxHeartbeats 2000000 in
theorem less_put {x y : Int} (hx : validRune x = true) (hy : validRune y = true) (hne : x ≠ y) (s t : List UInt8) : Op.bytesLess (encodeRune x ++ s) (encodeRune y ++ t) = decide (x < y) := by
  obtain ⟨n, rfl, hn⟩ := valid_nat hx
  obtain ⟨m, rfl, hm⟩ := valid_nat hy
  have hnm : n ≠ m := fun h => hne (by rw [h])
  rw [show decide ((n : Int) < m) = decide (n < m) from decide_eq_decide.2 (by omega)]
  by_cases a1 : n < 128
  · by_cases b1 : m < 128
    · rw [enc_one a1, enc_one b1]
      simp only [List.cons_append, List.nil_append, less_cons (m := n) (k := m) (by omega) (by omega)]
      simp [hnm]
    · have hlt : n < m := by omega
      have hfirst : ∃ c tl, encodeRune (m : Int) = c.toUInt8 :: tl ∧ c < 256 ∧ 192 ≤ c := by
        by_cases b2 : m < 2048
        · exact ⟨_, _, enc_two (by omega) b2, by omega, by omega⟩
        · by_cases b3 : m ≤ 65535
          · exact ⟨_, _, enc_three (by omega), by omega, by omega⟩
          · exact ⟨_, _, enc_four (by omega) (by omega), by omega, by omega⟩
      obtain ⟨c, tl, hc, h1, h2⟩ := hfirst
      rw [enc_one a1, hc]
      simp only [List.cons_append, List.nil_append, less_cons (m := n) (k := c) (by omega) h1]
      rw [decide_eq_true (show n < c by omega), decide_eq_true hlt]; rfl
  · by_cases a2 : n < 2048
    · by_cases b1 : m < 128
      · rw [enc_two (by omega) a2, enc_one b1]
        simp only [List.cons_append, List.nil_append, less_cons (m := 192 + n / 64) (k := m) (by omega) (by omega)]
        rw [decide_eq_false (show ¬ 192 + n / 64 < m by omega), decide_eq_false (show ¬ 192 + n / 64 = m by omega), decide_eq_false (show ¬ n < m by omega)]; rfl
      · by_cases b2 : m < 2048
        · rw [enc_two (by omega) a2, enc_two (by omega) b2]
          simp only [List.cons_append, List.nil_append, less_cons (m := 192 + n / 64) (k := 192 + m / 64) (by omega) (by omega), less_cons (m := 128 + n % 64) (k := 128 + m % 64) (by omega) (by omega)]
          rw [Bool.eq_iff_iff]
          simp only [Bool.or_eq_true, Bool.and_eq_true, decide_eq_true_eq]
          constructor
          · rintro (h | ⟨h, h2 | ⟨h2, _⟩⟩) <;> omega
          · intro h
            by_cases hq : n / 64 = m / 64
            · exact .inr ⟨by omega, .inl (by omega)⟩
            · exact .inl (by omega)
        · have hfirst : ∃ c tl, encodeRune (m : Int) = c.toUInt8 :: tl ∧ c < 256 ∧ 224 ≤ c := by
            by_cases b3 : m ≤ 65535
            · exact ⟨_, _, enc_three (by omega), by omega, by omega⟩
            · exact ⟨_, _, enc_four (by omega) (by omega), by omega, by omega⟩
          obtain ⟨c, tl, hc, h1, h2⟩ := hfirst
          rw [enc_two (by omega) a2, hc]
          simp only [List.cons_append, List.nil_append, less_cons (m := 192 + n / 64) (k := c) (by omega) h1]
          rw [decide_eq_true (show 192 + n / 64 < c by omega), decide_eq_true (show n < m by omega)]; rfl
    · by_cases a3 : n ≤ 65535
      · by_cases b2 : m < 2048
        · have hfirst : ∃ c tl, encodeRune (m : Int) = c.toUInt8 :: tl ∧ c < 224 := by
            by_cases b1 : m < 128
            · exact ⟨_, _, enc_one b1, by omega⟩
            · exact ⟨_, _, enc_two (by omega) b2, by omega⟩
          obtain ⟨c, tl, hc, h1⟩ := hfirst
          rw [enc_three (by omega), hc]
          simp only [List.cons_append, List.nil_append, less_cons (m := 224 + n / 4096) (k := c) (by omega) (by omega)]
          rw [decide_eq_false (show ¬ 224 + n / 4096 < c by omega), decide_eq_false (show ¬ 224 + n / 4096 = c by omega), decide_eq_false (show ¬ n < m by omega)]; rfl
        · by_cases b3 : m ≤ 65535
          · rw [enc_three (n := n) (by omega), enc_three (n := m) (by omega)]
            simp only [List.cons_append, List.nil_append, less_cons (m := 224 + n / 4096) (k := 224 + m / 4096) (by omega) (by omega), less_cons (m := 128 + n / 64 % 64) (k := 128 + m / 64 % 64) (by omega) (by omega), less_cons (m := 128 + n % 64) (k := 128 + m % 64) (by omega) (by omega)]
            rw [Bool.eq_iff_iff]
            simp only [Bool.or_eq_true, Bool.and_eq_true, decide_eq_true_eq]
            constructor
            · rintro (h | ⟨h, h2 | ⟨h2, h3 | ⟨h3, _⟩⟩⟩) <;> omega
            · intro h
              by_cases hq : n / 4096 = m / 4096
              · by_cases hr : n / 64 = m / 64
                · exact .inr ⟨by omega, .inr ⟨by omega, .inl (by omega)⟩⟩
                · exact .inr ⟨by omega, .inl (by omega)⟩
              · exact .inl (by omega)
          · rw [enc_three (n := n) (by omega), enc_four (n := m) (by omega) (by omega)]
            simp only [List.cons_append, List.nil_append, less_cons (m := 224 + n / 4096) (k := 240 + m / 262144) (by omega) (by omega)]
            rw [decide_eq_true (show 224 + n / 4096 < 240 + m / 262144 by omega), decide_eq_true (show n < m by omega)]; rfl
      · by_cases b3 : m ≤ 65535
        · have hfirst : ∃ c tl, encodeRune (m : Int) = c.toUInt8 :: tl ∧ c < 240 := by
            by_cases b1 : m < 128
            · exact ⟨_, _, enc_one b1, by omega⟩
            · by_cases b2 : m < 2048
              · exact ⟨_, _, enc_two (by omega) b2, by omega⟩
              · exact ⟨_, _, enc_three (by omega), by omega⟩
          obtain ⟨c, tl, hc, h1⟩ := hfirst
          rw [enc_four (by omega) (by omega), hc]
          simp only [List.cons_append, List.nil_append, less_cons (m := 240 + n / 262144) (k := c) (by omega) (by omega)]
          rw [decide_eq_false (show ¬ 240 + n / 262144 < c by omega), decide_eq_false (show ¬ 240 + n / 262144 = c by omega), decide_eq_false (show ¬ n < m by omega)]; rfl
        · rw [enc_four (n := n) (by omega) (by omega), enc_four (n := m) (by omega) (by omega)]
          simp only [List.cons_append, List.nil_append, less_cons (m := 240 + n / 262144) (k := 240 + m / 262144) (by omega) (by omega), less_cons (m := 128 + n / 4096 % 64) (k := 128 + m / 4096 % 64) (by omega) (by omega), less_cons (m := 128 + n / 64 % 64) (k := 128 + m / 64 % 64) (by omega) (by omega), less_cons (m := 128 + n % 64) (k := 128 + m % 64) (by omega) (by omega)]
          rw [Bool.eq_iff_iff]
          simp only [Bool.or_eq_true, Bool.and_eq_true, decide_eq_true_eq]
          constructor
          · rintro (h | ⟨h, h2 | ⟨h2, h3 | ⟨h3, h4 | ⟨h4, _⟩⟩⟩⟩) <;> omega
          · intro h
            by_cases hq : n / 262144 = m / 262144
            · by_cases hr : n / 4096 = m / 4096
              · by_cases hs : n / 64 = m / 64
                · exact .inr ⟨by omega, .inr ⟨by omega, .inr ⟨by omega, .inl (by omega)⟩⟩⟩
                · exact .inr ⟨by omega, .inr ⟨by omega, .inl (by omega)⟩⟩
              · exact .inr ⟨by omega, .inl (by omega)⟩
            · exact .inl (by omega)

theorem less_same (p s t : List UInt8) : Op.bytesLess (p ++ s) (p ++ t) = Op.bytesLess s t := by
  induction p with
  | nil => rfl
  | cons a p ih => simp [Op.bytesLess, ih]

/-- Behind a common beginning: the first other rune decides. -/
theorem less_at : ∀ {a b : List Int} {k : Nat}, (∀ r ∈ a, validRune r = true) → (∀ r ∈ b, validRune r = true) → k < a.length → k < b.length → a.take k = b.take k → a.getD k 0 ≠ b.getD k 0 → Op.bytesLess (enc a) (enc b) = decide (a.getD k 0 < b.getD k 0)
  | x :: a, y :: b, 0, ha, hb, _, _, _, hne => by
    simp only [List.getD_cons_zero] at hne ⊢
    rw [enc_cons, enc_cons, less_put (ha x (by simp)) (hb y (by simp)) hne]
  | x :: a, y :: b, k + 1, ha, hb, h1, h2, ht, hne => by
    simp only [List.take_succ_cons, List.cons.injEq] at ht
    obtain ⟨rfl, ht⟩ := ht
    simp only [List.getD_cons_succ] at hne ⊢
    rw [enc_cons, enc_cons, less_same]
    exact less_at (fun r hr => ha r (by simp [hr])) (fun r hr => hb r (by simp [hr])) (by simpa using h1) (by simpa using h2) ht hne
/-- Where there is none, the shorter one stands ahead. -/
theorem less_end : ∀ {a b : List Int} {k : Nat}, k ≤ a.length → k ≤ b.length → (k = a.length ∨ k = b.length) → a.take k = b.take k → Op.bytesLess (enc a) (enc b) = decide (a.length < b.length)
  | [], [], _, _, _, _, _ => rfl
  | [], y :: b, _, _, _, _, _ => by
    rw [enc_nil, enc_cons]
    obtain ⟨c, tl, h⟩ := List.exists_cons_of_ne_nil (enc_ne y)
    rw [h]; simp [Op.bytesLess]
  | x :: a, [], _, _, _, _, _ => by
    rw [enc_nil, enc_cons]
    obtain ⟨c, tl, h⟩ := List.exists_cons_of_ne_nil (enc_ne x)
    rw [h]; simp [Op.bytesLess]
  | x :: a, y :: b, 0, _, _, h, _ => by simp at h
  | x :: a, y :: b, k + 1, h1, h2, h, ht => by
    simp only [List.take_succ_cons, List.cons.injEq] at ht
    obtain ⟨rfl, ht⟩ := ht
    rw [enc_cons, enc_cons, less_same, less_end (k := k) (by simpa using h1) (by simpa using h2) (by simpa using h) ht]
    simp
end Go.Proofs.Ytgnfnbmdjbmcfaa.Txt
