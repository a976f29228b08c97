/-
  PLAIN LEAN, OF NO PROGRAM: bytes and the runes in them, names, texts folded and parted: what layer 1's calls come to, and what follows. By an AI agent; no person has read it.
-/
import Derived.Lib.TrimUEq
import Derived.Lib.RuneBytes
import Derived.Lib.Small
import Derived.Lib.Bytealg
import Derived.Lib.IndexLaws
import Derived.Laws.Cover4
import Derived.Laws.Strings
namespace Go.Proofs.Ytgnfnbmdjbmcfaa.Txt
open Go.Lib

/-! ### one rune: what is put and what is read -/
theorem u8_of (n : Nat) (h : n < 256) : (n.toUInt8).toNat = n := by
  simp [Nat.toUInt8]; omega

theorem enc_one {n : Nat} (h : n < 128) : encodeRune (n : Int) = [n.toUInt8] := by
  rw [encodeRune, encodeRuneZ_one (by omega) (by omega)]; simp
theorem enc_two {n : Nat} (h0 : 128 ≤ n) (h1 : n < 2048) : encodeRune (n : Int) = [(192 + n / 64).toUInt8, (128 + n % 64).toUInt8] := by
  rw [encodeRune, encodeRuneZ_two (by omega) (by omega)]
  simp only [List.map_cons, List.map_nil]
  rw [show (192 + (n : Int) / 64).toNat = 192 + n / 64 by omega, show (128 + (n : Int) % 64).toNat = 128 + n % 64 by omega]
theorem enc_three {n : Nat} (h : (2048 ≤ n ∧ n < 55296) ∨ (57343 < n ∧ n ≤ 65535)) : encodeRune (n : Int) = [(224 + n / 4096).toUInt8, (128 + n / 64 % 64).toUInt8, (128 + n % 64).toUInt8] := by
  rw [encodeRune, encodeRuneZ_three (by omega)]
  simp only [List.map_cons, List.map_nil]
  rw [show (224 + (n : Int) / 4096).toNat = 224 + n / 4096 by omega, show (128 + (n : Int) / 64 % 64).toNat = 128 + n / 64 % 64 by omega, show (128 + (n : Int) % 64).toNat = 128 + n % 64 by omega]
theorem enc_four {n : Nat} (h0 : 65536 ≤ n) (h1 : n ≤ 1114111) : encodeRune (n : Int) = [(240 + n / 262144).toUInt8, (128 + n / 4096 % 64).toUInt8, (128 + n / 64 % 64).toUInt8, (128 + n % 64).toUInt8] := by
  rw [encodeRune, encodeRuneZ_four (by omega) (by omega)]
  simp only [List.map_cons, List.map_nil]
  rw [show (240 + (n : Int) / 262144).toNat = 240 + n / 262144 by omega, show (128 + (n : Int) / 4096 % 64).toNat = 128 + n / 4096 % 64 by omega, show (128 + (n : Int) / 64 % 64).toNat = 128 + n / 64 % 64 by omega, show (128 + (n : Int) % 64).toNat = 128 + n % 64 by omega]

theorem valid_nat {r : Int} (h : validRune r = true) : ∃ n : Nat, r = n ∧ (n < 55296 ∨ (57343 < n ∧ n ≤ 1114111)) := by
  have h' := of_decide_eq_true h
  exact ⟨r.toNat, by omega, by omega⟩
theorem nat_valid {n : Nat} (h : n < 55296 ∨ (57343 < n ∧ n ≤ 1114111)) : validRune (n : Int) = true := decide_eq_true (by omega)

theorem enc_ne (r : Int) : encodeRune r ≠ [] := by
  intro h
  have h1 := runeCells_le r
  rw [runeCells_length, h] at h1
  simp at h1
theorem enc_len (r : Int) : 1 ≤ (encodeRune r).length ∧ (encodeRune r).length ≤ 4 := by
  have h1 := runeCells_le r
  rwa [runeCells_length] at h1

set_option maxRecDepth 100000 in
set_option maxHeartbeats 2000000 in
/-- What was put of a valid rune is read again, whatever stands behind it. -/
theorem dec_enc {r : Int} (h : validRune r = true) (t : List UInt8) : decodeL (encodeRune r ++ t) = (r.toNat, (encodeRune r).length) := by
  obtain ⟨n, rfl, hn⟩ := valid_nat h
  rw [decodeL_N, Int.toNat_natCast]
  by_cases h1 : n < 128
  · rw [enc_one h1]
    simp only [List.cons_append, List.nil_append, List.getD_cons_zero, List.length_cons, List.length_nil, u8_of n (by omega)]
    simp [decodeN, h1]
  · by_cases h2 : n < 2048
    · rw [enc_two (by omega) h2]
      simp only [List.cons_append, List.nil_append, List.getD_cons_zero, List.getD_cons_succ, List.length_cons, List.length_nil, u8_of (192 + n / 64) (by omega), u8_of (128 + n % 64) (by omega)]
      unfold decodeN
      repeat' split
      all_goals first | (exfalso; omega) | (apply Prod.ext <;> simp only <;> omega)
    · by_cases h3 : n ≤ 65535
      · rw [enc_three (by omega)]
        simp only [List.cons_append, List.nil_append, List.getD_cons_zero, List.getD_cons_succ, List.length_cons, List.length_nil, u8_of (224 + n / 4096) (by omega), u8_of (128 + n / 64 % 64) (by omega), u8_of (128 + n % 64) (by omega)]
        unfold decodeN
        repeat' split
        all_goals first | (exfalso; omega) | (apply Prod.ext <;> simp only <;> omega)
      · rw [enc_four (by omega) (by omega)]
        simp only [List.cons_append, List.nil_append, List.getD_cons_zero, List.getD_cons_succ, List.length_cons, List.length_nil, u8_of (240 + n / 262144) (by omega), u8_of (128 + n / 4096 % 64) (by omega), u8_of (128 + n / 64 % 64) (by omega), u8_of (128 + n % 64) (by omega)]
        unfold decodeN
        repeat' split
        all_goals first | (exfalso; omega) | (apply Prod.ext <;> simp only <;> omega)

theorem u8_eq {a : UInt8} {n : Nat} (h : a.toNat = n) : n.toUInt8 = a := by
  subst h; simp

set_option maxRecDepth 100000 in
set_option maxHeartbeats 4000000 in
/-- What is read stood there so: the bytes are the rune's own. -/
theorem enc_dec (l : List UInt8) (hne : l ≠ []) (hb : decodeL l ≠ (65533, 1)) :
    encodeRune ((decodeL l).1 : Int) ++ l.drop (decodeL l).2 = l ∧ (encodeRune ((decodeL l).1 : Int)).length = (decodeL l).2 ∧ validRune ((decodeL l).1 : Int) = true := by
  obtain ⟨a, t, rfl⟩ := List.exists_cons_of_ne_nil hne
  have ha := a.toNat_lt
  rw [decodeL_N] at hb ⊢
  simp only [List.getD_cons_zero, List.getD_cons_succ, List.length_cons] at hb ⊢
  by_cases h1 : a.toNat < 128
  · have e : decodeN (t.length + 1) a.toNat (t.getD 0 0).toNat (t.getD 1 0).toNat (t.getD 2 0).toNat = (a.toNat, 1) := by simp [decodeN, h1]
    rw [e]
    simp only [enc_one h1, u8_eq rfl, List.drop_succ_cons, List.drop_zero, List.cons_append, List.nil_append, List.length_cons, List.length_nil, true_and]
    exact nat_valid (by omega)
  · by_cases h2 : a.toNat / 32 = 6
    · rcases t with _ | ⟨b, t⟩
      · exact absurd (by simp [decodeN, h1]) hb
      · simp only [List.getD_cons_zero, List.getD_cons_succ, List.length_cons] at hb ⊢
        have hB := b.toNat_lt
        by_cases c1 : b.toNat / 64 = 2 ∧ a.toNat % 32 * 64 + b.toNat % 64 ≥ 128
        · have e : decodeN (t.length + 1 + 1) a.toNat b.toNat (t.getD 0 0).toNat (t.getD 1 0).toNat = (a.toNat % 32 * 64 + b.toNat % 64, 2) := by
            unfold decodeN
            repeat' split
            all_goals first | (exfalso; omega) | (apply Prod.ext <;> simp only <;> omega)
          rw [e]
          simp only [enc_two c1.2 (by omega), List.drop_succ_cons, List.drop_zero, List.cons_append, List.nil_append, List.length_cons, List.length_nil, true_and]
          refine ⟨?_, nat_valid (by omega)⟩
          rw [u8_eq (a := a) (by omega), u8_eq (a := b) (by omega)]
        · refine absurd ?_ hb
          unfold decodeN
          repeat' split
          all_goals first | (exfalso; omega) | rfl
    · by_cases h3 : a.toNat / 16 = 14
      · rcases t with _ | ⟨b, _ | ⟨c, t⟩⟩
        · refine absurd ?_ hb
          unfold decodeN
          repeat' split
          all_goals first | (exfalso; simp only [List.length_nil] at *; omega) | rfl
        · refine absurd ?_ hb
          unfold decodeN
          repeat' split
          all_goals first | (exfalso; simp only [List.length_cons, List.length_nil] at *; omega) | rfl
        · simp only [List.getD_cons_zero, List.getD_cons_succ, List.length_cons] at hb ⊢
          have hB := b.toNat_lt
          have hC := c.toNat_lt
          by_cases c1 : b.toNat / 64 = 2 ∧ c.toNat / 64 = 2 ∧ (a.toNat % 16 * 4096 + b.toNat % 64 * 64 + c.toNat % 64 ≥ 2048 ∧ (a.toNat % 16 * 4096 + b.toNat % 64 * 64 + c.toNat % 64 < 55296 ∨ (57344 ≤ a.toNat % 16 * 4096 + b.toNat % 64 * 64 + c.toNat % 64 ∧ a.toNat % 16 * 4096 + b.toNat % 64 * 64 + c.toNat % 64 ≤ 1114111)))
          · have e : decodeN (t.length + 1 + 1 + 1) a.toNat b.toNat c.toNat (t.getD 0 0).toNat = (a.toNat % 16 * 4096 + b.toNat % 64 * 64 + c.toNat % 64, 3) := by
              unfold decodeN
              repeat' split
              all_goals first | (exfalso; omega) | (apply Prod.ext <;> simp only <;> omega)
            rw [e]
            simp only [enc_three (n := a.toNat % 16 * 4096 + b.toNat % 64 * 64 + c.toNat % 64) (by omega), List.drop_succ_cons, List.drop_zero, List.cons_append, List.nil_append, List.length_cons, List.length_nil, true_and]
            refine ⟨?_, nat_valid (by omega)⟩
            rw [u8_eq (a := a) (by omega), u8_eq (a := b) (by omega), u8_eq (a := c) (by omega)]
          · refine absurd ?_ hb
            unfold decodeN
            repeat' split
            all_goals first | (exfalso; omega) | rfl
      · by_cases h4 : a.toNat / 8 = 30
        · rcases t with _ | ⟨b, _ | ⟨c, _ | ⟨d, t⟩⟩⟩
          · refine absurd ?_ hb
            unfold decodeN
            repeat' split
            all_goals first | (exfalso; simp only [List.length_nil] at *; omega) | rfl
          · refine absurd ?_ hb
            unfold decodeN
            repeat' split
            all_goals first | (exfalso; simp only [List.length_cons, List.length_nil] at *; omega) | rfl
          · refine absurd ?_ hb
            unfold decodeN
            repeat' split
            all_goals first | (exfalso; simp only [List.length_cons, List.length_nil] at *; omega) | rfl
          · simp only [List.getD_cons_zero, List.getD_cons_succ, List.length_cons] at hb ⊢
            have hB := b.toNat_lt
            have hC := c.toNat_lt
            have hD := d.toNat_lt
            by_cases c1 : b.toNat / 64 = 2 ∧ c.toNat / 64 = 2 ∧ d.toNat / 64 = 2 ∧ (a.toNat % 8 * 262144 + b.toNat % 64 * 4096 + c.toNat % 64 * 64 + d.toNat % 64 ≥ 65536 ∧ a.toNat % 8 * 262144 + b.toNat % 64 * 4096 + c.toNat % 64 * 64 + d.toNat % 64 ≤ 1114111)
            · have e : decodeN (t.length + 1 + 1 + 1 + 1) a.toNat b.toNat c.toNat d.toNat = (a.toNat % 8 * 262144 + b.toNat % 64 * 4096 + c.toNat % 64 * 64 + d.toNat % 64, 4) := by
                unfold decodeN
                repeat' split
                all_goals first | (exfalso; omega) | (apply Prod.ext <;> simp only <;> omega)
              rw [e]
              simp only [enc_four (n := a.toNat % 8 * 262144 + b.toNat % 64 * 4096 + c.toNat % 64 * 64 + d.toNat % 64) (by omega) (by omega), List.drop_succ_cons, List.drop_zero, List.cons_append, List.nil_append, List.length_cons, List.length_nil, true_and]
              refine ⟨?_, nat_valid (by omega)⟩
              rw [u8_eq (a := a) (by omega), u8_eq (a := b) (by omega), u8_eq (a := c) (by omega), u8_eq (a := d) (by omega)]
            · refine absurd ?_ hb
              unfold decodeN
              repeat' split
              all_goals first | (exfalso; omega) | rfl
        · refine absurd ?_ hb
          unfold decodeN
          repeat' split
          all_goals first | (exfalso; omega) | rfl
end Go.Proofs.Ytgnfnbmdjbmcfaa.Txt
