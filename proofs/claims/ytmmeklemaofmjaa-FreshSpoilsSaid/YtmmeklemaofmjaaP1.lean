/-
  One text of several, in their order: Pure, Names, Shelf, Calls. By an AI agent; no person has read it.
-/
import Derived.Lib.TrimUEq
import Derived.Lib.RuneBytes
import Derived.Lib.Small
import Derived.Lib.Bytealg
import Derived.Lib.IndexLaws
import Derived.Laws.Cover4
import Derived.Laws.Strings
import Derived.Shelf.Strings.OnBuilder
import Derived.Test.YtmmeklemaofmjaaProg
import Derived.WalkKit
import Derived.BigCall
import Derived.BigQuiet
import Derived.Deep.QuietTactic
import Derived.Lib.OthersKept
import Derived.Lib.Hide
/-
  PLAIN LEAN, OF NO PROGRAM: bytes and the runes in them, names, texts folded and parted: what layer 1's calls come to, and what follows. By an AI agent; no person has read it.
-/
namespace Go.Proofs.Ytmmeklemaofmjaa.Txt
open Go.Lib

/-! ### one rune: what is put and what is read -/
theorem u8_of (n : Nat) (h : n < 256) : (n.toUInt8).toNat = n := by
  simp [Nat.toUInt8]; omega

theorem enc_one {n : Nat} (h : n < 128) : encodeRune (n : Int) = [n.toUInt8] := by
  rw [encodeRune, encodeRuneZ_one (by omega) (by omega)]; simp
theorem enc_two {n : Nat} (h0 : 128 ≤ n) (h1 : n < 2048) : encodeRune (n : Int) = [(192 + n / 64).toUInt8, (128 + n % 64).toUInt8] := by
  rw [encodeRune, encodeRuneZ_two (by omega) (by omega)]
  simp only [List.map_cons, List.map_nil]
  rw [show (192 + (n : Int) / 64).toNat = 192 + n / 64 by omega, show (128 + (n : Int) % 64).toNat = 128 + n % 64 by omega]
theorem enc_three {n : Nat} (h : (2048 ≤ n ∧ n < 55296) ∨ (57343 < n ∧ n ≤ 65535)) : encodeRune (n : Int) = [(224 + n / 4096).toUInt8, (128 + n / 64 % 64).toUInt8, (128 + n % 64).toUInt8] := by
  rw [encodeRune, encodeRuneZ_three (by omega)]
  simp only [List.map_cons, List.map_nil]
  rw [show (224 + (n : Int) / 4096).toNat = 224 + n / 4096 by omega, show (128 + (n : Int) / 64 % 64).toNat = 128 + n / 64 % 64 by omega, show (128 + (n : Int) % 64).toNat = 128 + n % 64 by omega]
theorem enc_four {n : Nat} (h0 : 65536 ≤ n) (h1 : n ≤ 1114111) : encodeRune (n : Int) = [(240 + n / 262144).toUInt8, (128 + n / 4096 % 64).toUInt8, (128 + n / 64 % 64).toUInt8, (128 + n % 64).toUInt8] := by
  rw [encodeRune, encodeRuneZ_four (by omega) (by omega)]
  simp only [List.map_cons, List.map_nil]
  rw [show (240 + (n : Int) / 262144).toNat = 240 + n / 262144 by omega, show (128 + (n : Int) / 4096 % 64).toNat = 128 + n / 4096 % 64 by omega, show (128 + (n : Int) / 64 % 64).toNat = 128 + n / 64 % 64 by omega, show (128 + (n : Int) % 64).toNat = 128 + n % 64 by omega]

theorem valid_nat {r : Int} (h : validRune r = true) : ∃ n : Nat, r = n ∧ (n < 55296 ∨ (57343 < n ∧ n ≤ 1114111)) := by
  have h' := of_decide_eq_true h
  exact ⟨r.toNat, by omega, by omega⟩
theorem nat_valid {n : Nat} (h : n < 55296 ∨ (57343 < n ∧ n ≤ 1114111)) : validRune (n : Int) = true := decide_eq_true (by omega)

theorem enc_ne (r : Int) : encodeRune r ≠ [] := by
  intro h
  have h1 := runeCells_le r
  rw [runeCells_length, h] at h1
  simp at h1
theorem enc_len (r : Int) : 1 ≤ (encodeRune r).length ∧ (encodeRune r).length ≤ 4 := by
  have h1 := runeCells_le r
  rwa [runeCells_length] at h1

set_option maxRecDepth 100000 in
set_option maxHeartbeats 2000000 in
/-- What was put of a valid rune is read again, whatever stands behind it. -/
theorem dec_enc {r : Int} (h : validRune r = true) (t : List UInt8) : decodeL (encodeRune r ++ t) = (r.toNat, (encodeRune r).length) := by
  obtain ⟨n, rfl, hn⟩ := valid_nat h
  rw [decodeL_N, Int.toNat_natCast]
  by_cases h1 : n < 128
  · rw [enc_one h1]
    simp only [List.cons_append, List.nil_append, List.getD_cons_zero, List.length_cons, List.length_nil, u8_of n (by omega)]
    simp [decodeN, h1]
  · by_cases h2 : n < 2048
    · rw [enc_two (by omega) h2]
      simp only [List.cons_append, List.nil_append, List.getD_cons_zero, List.getD_cons_succ, List.length_cons, List.length_nil, u8_of (192 + n / 64) (by omega), u8_of (128 + n % 64) (by omega)]
      unfold decodeN
      repeat' split
      all_goals first | (exfalso; omega) | (apply Prod.ext <;> simp only <;> omega)
    · by_cases h3 : n ≤ 65535
      · rw [enc_three (by omega)]
        simp only [List.cons_append, List.nil_append, List.getD_cons_zero, List.getD_cons_succ, List.length_cons, List.length_nil, u8_of (224 + n / 4096) (by omega), u8_of (128 + n / 64 % 64) (by omega), u8_of (128 + n % 64) (by omega)]
        unfold decodeN
        repeat' split
        all_goals first | (exfalso; omega) | (apply Prod.ext <;> simp only <;> omega)
      · rw [enc_four (by omega) (by omega)]
        simp only [List.cons_append, List.nil_append, List.getD_cons_zero, List.getD_cons_succ, List.length_cons, List.length_nil, u8_of (240 + n / 262144) (by omega), u8_of (128 + n / 4096 % 64) (by omega), u8_of (128 + n / 64 % 64) (by omega), u8_of (128 + n % 64) (by omega)]
        unfold decodeN
        repeat' split
        all_goals first | (exfalso; omega) | (apply Prod.ext <;> simp only <;> omega)

theorem u8_eq {a : UInt8} {n : Nat} (h : a.toNat = n) : n.toUInt8 = a := by
  subst h; simp

set_option maxRecDepth 100000 in
set_option maxHeartbeats 4000000 in
/-- What is read stood there so: the bytes are the rune's own. -/
theorem enc_dec (l : List UInt8) (hne : l ≠ []) (hb : decodeL l ≠ (65533, 1)) :
    encodeRune ((decodeL l).1 : Int) ++ l.drop (decodeL l).2 = l ∧ (encodeRune ((decodeL l).1 : Int)).length = (decodeL l).2 ∧ validRune ((decodeL l).1 : Int) = true := by
  obtain ⟨a, t, rfl⟩ := List.exists_cons_of_ne_nil hne
  have ha := a.toNat_lt
  rw [decodeL_N] at hb ⊢
  simp only [List.getD_cons_zero, List.getD_cons_succ, List.length_cons] at hb ⊢
  by_cases h1 : a.toNat < 128
  · have e : decodeN (t.length + 1) a.toNat (t.getD 0 0).toNat (t.getD 1 0).toNat (t.getD 2 0).toNat = (a.toNat, 1) := by simp [decodeN, h1]
    rw [e]
    simp only [enc_one h1, u8_eq rfl, List.drop_succ_cons, List.drop_zero, List.cons_append, List.nil_append, List.length_cons, List.length_nil, true_and]
    exact nat_valid (by omega)
  · by_cases h2 : a.toNat / 32 = 6
    · rcases t with _ | ⟨b, t⟩
      · exact absurd (by simp [decodeN, h1]) hb
      · simp only [List.getD_cons_zero, List.getD_cons_succ, List.length_cons] at hb ⊢
        have hB := b.toNat_lt
        by_cases c1 : b.toNat / 64 = 2 ∧ a.toNat % 32 * 64 + b.toNat % 64 ≥ 128
        · have e : decodeN (t.length + 1 + 1) a.toNat b.toNat (t.getD 0 0).toNat (t.getD 1 0).toNat = (a.toNat % 32 * 64 + b.toNat % 64, 2) := by
            unfold decodeN
            repeat' split
            all_goals first | (exfalso; omega) | (apply Prod.ext <;> simp only <;> omega)
          rw [e]
          simp only [enc_two c1.2 (by omega), List.drop_succ_cons, List.drop_zero, List.cons_append, List.nil_append, List.length_cons, List.length_nil, true_and]
          refine ⟨?_, nat_valid (by omega)⟩
          rw [u8_eq (a := a) (by omega), u8_eq (a := b) (by omega)]
        · refine absurd ?_ hb
          unfold decodeN
          repeat' split
          all_goals first | (exfalso; omega) | rfl
    · by_cases h3 : a.toNat / 16 = 14
      · rcases t with _ | ⟨b, _ | ⟨c, t⟩⟩
        · refine absurd ?_ hb
          unfold decodeN
          repeat' split
          all_goals first | (exfalso; simp only [List.length_nil] at *; omega) | rfl
        · refine absurd ?_ hb
          unfold decodeN
          repeat' split
          all_goals first | (exfalso; simp only [List.length_cons, List.length_nil] at *; omega) | rfl
        · simp only [List.getD_cons_zero, List.getD_cons_succ, List.length_cons] at hb ⊢
          have hB := b.toNat_lt
          have hC := c.toNat_lt
          by_cases c1 : b.toNat / 64 = 2 ∧ c.toNat / 64 = 2 ∧ (a.toNat % 16 * 4096 + b.toNat % 64 * 64 + c.toNat % 64 ≥ 2048 ∧ (a.toNat % 16 * 4096 + b.toNat % 64 * 64 + c.toNat % 64 < 55296 ∨ (57344 ≤ a.toNat % 16 * 4096 + b.toNat % 64 * 64 + c.toNat % 64 ∧ a.toNat % 16 * 4096 + b.toNat % 64 * 64 + c.toNat % 64 ≤ 1114111)))
          · have e : decodeN (t.length + 1 + 1 + 1) a.toNat b.toNat c.toNat (t.getD 0 0).toNat = (a.toNat % 16 * 4096 + b.toNat % 64 * 64 + c.toNat % 64, 3) := by
              unfold decodeN
              repeat' split
              all_goals first | (exfalso; omega) | (apply Prod.ext <;> simp only <;> omega)
            rw [e]
            simp only [enc_three (n := a.toNat % 16 * 4096 + b.toNat % 64 * 64 + c.toNat % 64) (by omega), List.drop_succ_cons, List.drop_zero, List.cons_append, List.nil_append, List.length_cons, List.length_nil, true_and]
            refine ⟨?_, nat_valid (by omega)⟩
            rw [u8_eq (a := a) (by omega), u8_eq (a := b) (by omega), u8_eq (a := c) (by omega)]
          · refine absurd ?_ hb
            unfold decodeN
            repeat' split
            all_goals first | (exfalso; omega) | rfl
      · by_cases h4 : a.toNat / 8 = 30
        · rcases t with _ | ⟨b, _ | ⟨c, _ | ⟨d, t⟩⟩⟩
          · refine absurd ?_ hb
            unfold decodeN
            repeat' split
            all_goals first | (exfalso; simp only [List.length_nil] at *; omega) | rfl
          · refine absurd ?_ hb
            unfold decodeN
            repeat' split
            all_goals first | (exfalso; simp only [List.length_cons, List.length_nil] at *; omega) | rfl
          · refine absurd ?_ hb
            unfold decodeN
            repeat' split
            all_goals first | (exfalso; simp only [List.length_cons, List.length_nil] at *; omega) | rfl
          · simp only [List.getD_cons_zero, List.getD_cons_succ, List.length_cons] at hb ⊢
            have hB := b.toNat_lt
            have hC := c.toNat_lt
            have hD := d.toNat_lt
            by_cases c1 : b.toNat / 64 = 2 ∧ c.toNat / 64 = 2 ∧ d.toNat / 64 = 2 ∧ (a.toNat % 8 * 262144 + b.toNat % 64 * 4096 + c.toNat % 64 * 64 + d.toNat % 64 ≥ 65536 ∧ a.toNat % 8 * 262144 + b.toNat % 64 * 4096 + c.toNat % 64 * 64 + d.toNat % 64 ≤ 1114111)
            · have e : decodeN (t.length + 1 + 1 + 1 + 1) a.toNat b.toNat c.toNat d.toNat = (a.toNat % 8 * 262144 + b.toNat % 64 * 4096 + c.toNat % 64 * 64 + d.toNat % 64, 4) := by
                unfold decodeN
                repeat' split
                all_goals first | (exfalso; omega) | (apply Prod.ext <;> simp only <;> omega)
              rw [e]
              simp only [enc_four (n := a.toNat % 8 * 262144 + b.toNat % 64 * 4096 + c.toNat % 64 * 64 + d.toNat % 64) (by omega) (by omega), List.drop_succ_cons, List.drop_zero, List.cons_append, List.nil_append, List.length_cons, List.length_nil, true_and]
              refine ⟨?_, nat_valid (by omega)⟩
              rw [u8_eq (a := a) (by omega), u8_eq (a := b) (by omega), u8_eq (a := c) (by omega), u8_eq (a := d) (by omega)]
            · refine absurd ?_ hb
              unfold decodeN
              repeat' split
              all_goals first | (exfalso; omega) | rfl
        · refine absurd ?_ hb
          unfold decodeN
          repeat' split
          all_goals first | (exfalso; omega) | rfl
end Go.Proofs.Ytmmeklemaofmjaa.Txt

/-
  PLAIN LEAN, OF NO PROGRAM: the runes of a text, names, paths, and which text stands ahead. By an AI agent; no person has read it.
-/
namespace Go.Proofs.Ytmmeklemaofmjaa.Txt
open Go.Lib

theorem dec_le (l : List UInt8) (hne : l ≠ []) : (decodeL l).2 ≤ l.length := by
  by_cases hb : decodeL l = (65533, 1)
  · have := List.length_pos_iff.2 hne
    rw [hb]; exact this
  · obtain ⟨h1, h2, _⟩ := enc_dec l hne hb
    have := congrArg List.length h1
    rw [List.length_append] at this
    omega
theorem drop_lt (l : List UInt8) (hne : l ≠ []) : (l.drop (decodeL l).2).length < l.length := by
  have h1 := decodeL_width l
  have h2 := List.length_pos_iff.2 hne
  rw [List.length_drop]; omega

/-! ### the runes of a text -/
def runesF : Nat → List UInt8 → Option (List Int)
  | 0, _ => some []
  | f + 1, l => if l = [] then some [] else if decodeL l = (65533, 1) then none else (runesF f (l.drop (decodeL l).2)).map fun rs => ((decodeL l).1 : Int) :: rs
def runes (l : List UInt8) : Option (List Int) := runesF l.length l

theorem runesF_fuel : ∀ (f g : Nat) (l : List UInt8), l.length ≤ f → l.length ≤ g → runesF f l = runesF g l
  | 0, 0, _, _, _ => rfl
  | 0, g + 1, l, hf, _ => by
    have : l = [] := List.eq_nil_of_length_eq_zero (by omega)
    simp [this, runesF]
  | f + 1, 0, l, _, hg => by
    have : l = [] := List.eq_nil_of_length_eq_zero (by omega)
    simp [this, runesF]
  | f + 1, g + 1, l, hf, hg => by
    unfold runesF
    by_cases hne : l = []
    · simp [hne]
    · have := drop_lt l hne
      rw [runesF_fuel f g _ (by omega) (by omega)]

theorem runes_nil : runes [] = some [] := rfl
theorem runes_bad {l : List UInt8} (hne : l ≠ []) (hb : decodeL l = (65533, 1)) : runes l = none := by
  obtain ⟨a, t, rfl⟩ := List.exists_cons_of_ne_nil hne
  simp only [runes, List.length_cons, runesF, if_neg hne, if_pos hb]
theorem runes_step {l : List UInt8} (hne : l ≠ []) (hb : decodeL l ≠ (65533, 1)) : runes l = (runes (l.drop (decodeL l).2)).map fun rs => ((decodeL l).1 : Int) :: rs := by
  have hlt := drop_lt l hne
  obtain ⟨n, hn⟩ : ∃ n, l.length = n + 1 := ⟨l.length - 1, by omega⟩
  unfold runes
  rw [hn]
  simp only [runesF, if_neg hne, if_neg hb]
  rw [runesF_fuel n _ _ (by omega) (Nat.le_refl _)]

def enc (rs : List Int) : List UInt8 := rs.flatMap encodeRune
theorem enc_nil : enc [] = [] := rfl
theorem enc_cons (r : Int) (rs : List Int) : enc (r :: rs) = encodeRune r ++ enc rs := rfl
theorem enc_append (a b : List Int) : enc (a ++ b) = enc a ++ enc b := List.flatMap_append

theorem not_bad {r : Int} (h : validRune r = true) (t : List UInt8) : decodeL (encodeRune r ++ t) ≠ (65533, 1) := by
  rw [dec_enc h t]
  intro he
  obtain ⟨n, rfl, hn⟩ := valid_nat h
  have h1 : n = 65533 := by have := congrArg Prod.fst he; simpa using this
  subst h1
  rw [enc_three (by omega)] at he
  simp at he
theorem runes_put {r : Int} (h : validRune r = true) (t : List UInt8) : runes (encodeRune r ++ t) = (runes t).map fun rs => r :: rs := by
  have hne : encodeRune r ++ t ≠ [] := fun h0 => enc_ne r (List.append_eq_nil_iff.1 h0).1
  rw [runes_step hne (not_bad h t), dec_enc h t]
  obtain ⟨n, rfl, hn⟩ := valid_nat h
  simp
theorem runes_puts : ∀ {rs : List Int} (_ : ∀ r ∈ rs, validRune r = true) (t : List UInt8), runes (enc rs ++ t) = (runes t).map fun q => rs ++ q
  | [], _, t => by simp [enc]
  | r :: rs, h, t => by
    rw [enc_cons, List.append_assoc, runes_put (h r (by simp)), runes_puts (fun x hx => h x (by simp [hx]))]
    simp [Option.map_map, Function.comp_def]
theorem runes_enc {rs : List Int} (h : ∀ r ∈ rs, validRune r = true) : runes (enc rs) = some rs := by
  have := runes_puts h []
  simpa [runes_nil] using this
theorem enc_runes : ∀ (n : Nat) {l : List UInt8} {rs : List Int}, l.length ≤ n → runes l = some rs → enc rs = l ∧ ∀ r ∈ rs, validRune r = true
  | 0, l, rs, hn, h => by
    obtain rfl : l = [] := List.eq_nil_of_length_eq_zero (by omega)
    rw [runes_nil] at h
    obtain rfl := Option.some.inj h
    simp [enc]
  | n + 1, l, rs, hn, h => by
    by_cases hne : l = []
    · subst hne
      rw [runes_nil] at h
      obtain rfl := Option.some.inj h
      simp [enc]
    · by_cases hb : decodeL l = (65533, 1)
      · rw [runes_bad hne hb] at h; cases h
      · rw [runes_step hne hb] at h
        obtain ⟨q, hq, rfl⟩ := Option.map_eq_some_iff.1 h
        have hlt := drop_lt l hne
        obtain ⟨e1, e2⟩ := enc_runes n (by omega) hq
        obtain ⟨d1, _, d3⟩ := enc_dec l hne hb
        refine ⟨by rw [enc_cons, e1, d1], fun r hr => ?_⟩
        rcases List.mem_cons.1 hr with rfl | hr
        · exact d3
        · exact e2 r hr
theorem runes_some {l : List UInt8} {rs : List Int} (h : runes l = some rs) : enc rs = l ∧ ∀ r ∈ rs, validRune r = true := enc_runes _ (Nat.le_refl _) h
theorem enc_inj {a b : List Int} (ha : ∀ r ∈ a, validRune r = true) (hb : ∀ r ∈ b, validRune r = true) (h : enc a = enc b) : a = b := by
  have := runes_enc ha
  rw [h, runes_enc hb] at this
  exact (Option.some.inj this).symm
theorem enc_le (rs : List Int) : rs.length ≤ (enc rs).length ∧ (enc rs).length ≤ 4 * rs.length := by
  induction rs with
  | nil => simp [enc]
  | cons r rs ih =>
    have := enc_len r
    rw [enc_cons, List.length_append, List.length_cons]
    omega
theorem runes_len {l : List UInt8} {rs : List Int} (h : runes l = some rs) : rs.length ≤ l.length := by
  obtain ⟨e, _⟩ := runes_some h
  have := (enc_le rs).1
  rw [e] at this
  exact this

/-! ### names -/
def letter (r : Int) : Bool := decide ((97 ≤ r ∧ r ≤ 122) ∨ (48 ≤ r ∧ r ≤ 57) ∨ r = 45 ∨ (223 ≤ r ∧ r ≤ 246) ∨ (248 ≤ r ∧ r ≤ 255) ∨ (945 ≤ r ∧ r ≤ 969) ∨ (1072 ≤ r ∧ r ≤ 1103))
def great (r : Int) : Bool := decide ((65 ≤ r ∧ r ≤ 90) ∨ (192 ≤ r ∧ r ≤ 214) ∨ (216 ≤ r ∧ r ≤ 222) ∨ (913 ≤ r ∧ r ≤ 929) ∨ (931 ≤ r ∧ r ≤ 937) ∨ (1040 ≤ r ∧ r ≤ 1071))
theorem letter_valid {r : Int} (h : letter r = true) : validRune r = true := by
  have := of_decide_eq_true h
  exact decide_eq_true (by omega)
def nameOf (o : Option (List Int)) : Bool := match o with
  | some rs => decide (1 ≤ rs.length ∧ rs.length ≤ 32) && rs.all letter
  | none => false
def right (l : List UInt8) : Bool := nameOf (runes l)

def rightF : Nat → List UInt8 → Nat → Bool
  | 0, _, many => decide (0 < many)
  | f + 1, l, many => if l = [] then decide (0 < many) else if 32 < many + 1 then false else if letter ((decodeL l).1 : Int) = false then false else rightF f (l.drop (decodeL l).2) (many + 1)
def nameOfN (many : Nat) (o : Option (List Int)) : Bool := match o with
  | some rs => decide (1 ≤ many + rs.length ∧ many + rs.length ≤ 32) && rs.all letter
  | none => false
theorem rightF_eq : ∀ (f : Nat) (l : List UInt8) (many : Nat), l.length ≤ f → many ≤ 32 → rightF f l many = nameOfN many (runes l)
  | 0, l, many, hf, hm => by
    obtain rfl : l = [] := List.eq_nil_of_length_eq_zero (by omega)
    rw [runes_nil]
    simp only [rightF, nameOfN, List.length_nil, List.all_nil, Bool.and_true]
    exact decide_eq_decide.2 (by omega)
  | f + 1, l, many, hf, hm => by
    unfold rightF
    by_cases hne : l = []
    · subst hne
      rw [runes_nil, if_pos rfl]
      simp only [nameOfN, List.length_nil, List.all_nil, Bool.and_true]
      exact decide_eq_decide.2 (by omega)
    · rw [if_neg hne]
      by_cases hb : decodeL l = (65533, 1)
      · rw [runes_bad hne hb, hb]
        simp [nameOfN, letter]
      · rw [runes_step hne hb]
        have hlt := drop_lt l hne
        by_cases h32 : 32 < many + 1
        · rw [if_pos h32]
          cases hq : runes (l.drop (decodeL l).2) with
          | none => rfl
          | some q => simp [nameOfN]; intro _; omega
        · rw [if_neg h32]
          cases hl : letter ((decodeL l).1 : Int) with
          | false =>
            cases hq : runes (l.drop (decodeL l).2) with
            | none => rfl
            | some q => simp [nameOfN, hl]
          | true =>
            rw [if_neg (by simp), rightF_eq f _ (many + 1) (by omega) (by omega)]
            cases hq : runes (l.drop (decodeL l).2) with
            | none => rfl
            | some q =>
              simp only [nameOfN, Option.map_some, List.all_cons, hl, Bool.true_and, List.length_cons]
              congr 1
              apply decide_eq_decide.2
              omega
theorem rightF_right (l : List UInt8) : rightF l.length l 0 = right l := by
  rw [rightF_eq _ _ _ (Nat.le_refl _) (by omega)]
  unfold right nameOf nameOfN
  cases runes l <;> simp

theorem right_runes {l : List UInt8} (h : right l = true) : ∃ rs, runes l = some rs ∧ 1 ≤ rs.length ∧ rs.length ≤ 32 ∧ (∀ r ∈ rs, letter r = true) ∧ enc rs = l := by
  unfold right nameOf at h
  cases hr : runes l with
  | none => rw [hr] at h; cases h
  | some rs =>
    rw [hr] at h
    simp only [Bool.and_eq_true, decide_eq_true_eq, List.all_eq_true] at h
    exact ⟨rs, rfl, h.1.1, h.1.2, h.2, (runes_some hr).1⟩
theorem right_of {rs : List Int} (h1 : 1 ≤ rs.length) (h2 : rs.length ≤ 32) (h : ∀ r ∈ rs, letter r = true) : right (enc rs) = true := by
  unfold right
  rw [runes_enc fun r hr => letter_valid (h r hr)]
  simp only [nameOf, Bool.and_eq_true, decide_eq_true_eq, List.all_eq_true]
  exact ⟨⟨h1, h2⟩, h⟩

theorem decode_drop (s : ByteArray) (pos : Nat) : Utf8.decode s pos = decodeL (s.data.toList.drop pos) := (Lib.decodeL_drop s pos).symm
theorem drop_ne (s : ByteArray) {pos : Nat} (h : pos < s.size) : s.data.toList.drop pos ≠ [] := by
  intro h0
  have := congrArg List.length h0
  rw [List.length_drop, ← Lib.size_eq] at this
  simp at this
  omega
theorem drop_end (s : ByteArray) {pos : Nat} (h : ¬ pos < s.size) : s.data.toList.drop pos = [] := List.drop_eq_nil_of_le (by rw [← Lib.size_eq]; omega)

theorem nameN_step {l : List UInt8} {many : Nat} (hne : l ≠ []) (hl : letter ((decodeL l).1 : Int) = true) : nameOfN many (runes l) = nameOfN (many + 1) (runes (l.drop (decodeL l).2)) := by
  by_cases hb : decodeL l = (65533, 1)
  · rw [hb] at hl; simp [letter] at hl
  · rw [runes_step hne hb]
    cases hq : runes (l.drop (decodeL l).2) with
    | none => rfl
    | some q =>
      simp only [nameOfN, Option.map_some, List.all_cons, hl, Bool.true_and, List.length_cons]
      congr 1
      exact decide_eq_decide.2 (by omega)
theorem nameN_not {l : List UInt8} {many : Nat} (hne : l ≠ []) (hl : letter ((decodeL l).1 : Int) = false) : nameOfN many (runes l) = false := by
  by_cases hb : decodeL l = (65533, 1)
  · rw [runes_bad hne hb]; rfl
  · rw [runes_step hne hb]
    cases hq : runes (l.drop (decodeL l).2) with
    | none => rfl
    | some q => simp [nameOfN, hl]
theorem nameN_many {l : List UInt8} {many : Nat} (hne : l ≠ []) (hm : 32 < many + 1) : nameOfN many (runes l) = false := by
  by_cases hb : decodeL l = (65533, 1)
  · rw [runes_bad hne hb]; rfl
  · rw [runes_step hne hb]
    cases hq : runes (l.drop (decodeL l).2) with
    | none => rfl
    | some q =>
      simp only [nameOfN, Option.map_some, List.length_cons, Bool.and_eq_false_iff]
      exact .inl (decide_eq_false (by omega))
theorem right_N (l : List UInt8) : nameOfN 0 (runes l) = right l := by
  unfold right nameOf nameOfN
  cases runes l <;> simp

/-- A letter's bytes hold no slash. -/
theorem letter_bytes {r : Int} (h : letter r = true) : ∀ b ∈ encodeRune r, b ≠ 47 := by
  have h' := of_decide_eq_true h
  obtain ⟨n, rfl⟩ : ∃ n : Nat, r = n := ⟨r.toNat, by omega⟩
  have key : ∀ {b : UInt8} {k : Nat}, b = k.toUInt8 → k < 256 → k ≠ 47 → b ≠ 47 := by
    intro b k hb hk hne h47
    rw [h47] at hb
    have := congrArg UInt8.toNat hb
    rw [u8_of k hk] at this
    exact hne this.symm
  by_cases h1 : n < 128
  · rw [enc_one h1]
    intro b hb
    have := List.mem_singleton.1 hb
    exact key this (by omega) (by omega)
  · rw [enc_two (by omega) (by omega)]
    intro b hb
    rcases List.mem_cons.1 hb with hb | hb
    · exact key hb (by omega) (by omega)
    · exact key (List.mem_singleton.1 hb) (by omega) (by omega)
theorem right_bytes {l : List UInt8} (h : right l = true) : ∀ b ∈ l, b ≠ 47 := by
  obtain ⟨rs, _, _, _, hl, rfl⟩ := right_runes h
  intro b hb
  obtain ⟨r, hr, hbr⟩ := List.mem_flatMap.1 hb
  exact letter_bytes (hl r hr) b hbr
theorem right_len {l : List UInt8} (h : right l = true) : 1 ≤ l.length ∧ l.length ≤ 128 := by
  obtain ⟨rs, _, h1, h2, _, rfl⟩ := right_runes h
  have := enc_le rs
  omega

/-! ### paths -/
def cutAt : List UInt8 → Option (List UInt8 × List UInt8)
  | [] => none
  | b :: l => if b = 47 then some ([], l) else (cutAt l).map fun p => (b :: p.1, p.2)
theorem cutAt_none {l : List UInt8} (h : ∀ b ∈ l, b ≠ 47) : cutAt l = none := by
  induction l with
  | nil => rfl
  | cons b l ih => simp [cutAt, h b (by simp), ih fun x hx => h x (by simp [hx])]
theorem cutAt_some : ∀ (a b : List UInt8), (∀ x ∈ a, x ≠ 47) → cutAt (a ++ 47 :: b) = some (a, b)
  | [], b, _ => by simp [cutAt]
  | x :: a, b, h => by
    simp [cutAt, h x (by simp), cutAt_some a b fun y hy => h y (by simp [hy])]
theorem cutAt_eq : ∀ {l a b : List UInt8}, cutAt l = some (a, b) → l = a ++ 47 :: b ∧ ∀ x ∈ a, x ≠ 47
  | [], _, _, h => by cases h
  | x :: l, a, b, h => by
    unfold cutAt at h
    split at h
    · rename_i hx
      have h := Option.some.inj h
      obtain ⟨rfl, rfl⟩ := Prod.mk.inj h
      simp [hx]
    · rename_i hx
      obtain ⟨⟨a', b'⟩, hq, he⟩ := Option.map_eq_some_iff.1 h
      obtain ⟨rfl, rfl⟩ := Prod.mk.inj he
      obtain ⟨rfl, h2⟩ := cutAt_eq hq
      refine ⟨rfl, fun y hy => ?_⟩
      rcases List.mem_cons.1 hy with rfl | hy
      · exact hx
      · exact h2 y hy
/-- By the first slash's place. -/
theorem cutAt_take {l : List UInt8} {k : Nat} (hk : l[k]? = some 47) (h : ∀ j, j < k → l[j]? ≠ some 47) : cutAt l = some (l.take k, l.drop (k + 1)) := by
  have hlt : k < l.length := (List.getElem?_eq_some_iff.1 hk).1
  have e : l = l.take k ++ 47 :: l.drop (k + 1) := by
    have h1 := List.take_append_drop k l
    have h2 := List.drop_eq_getElem_cons hlt
    have h3 : l[k] = 47 := by have := List.getElem?_eq_getElem hlt; rw [hk] at this; exact (Option.some.inj this).symm
    rw [h2, h3] at h1
    exact h1.symm
  have h2 : ∀ x ∈ l.take k, x ≠ 47 := by
    intro x hx h47
    obtain ⟨j, hj, hjx⟩ := List.mem_iff_getElem.1 hx
    rw [List.length_take] at hj
    rw [List.getElem_take] at hjx
    exact h j (by omega) (by rw [List.getElem?_eq_getElem (by omega), hjx, h47])
  conv => lhs; rw [e]
  exact cutAt_some _ _ h2
theorem cutAt_miss {l : List UInt8} (h : ∀ j : Nat, l[j]? ≠ some 47) : cutAt l = none :=
  cutAt_none fun b hb h47 => by
    obtain ⟨j, hj⟩ := List.mem_iff_getElem?.1 hb
    exact h j (by rw [hj, h47])
theorem cutAt_index (l : List UInt8) : (indexByte l 47 = -1 ∧ cutAt l = none) ∨ ∃ i : Nat, indexByte l 47 = i ∧ i < l.length ∧ cutAt l = some (l.take i, l.drop (i + 1)) := by
  have hge := indexByte_ge l 47
  by_cases h : indexByte l 47 = -1
  · exact .inl ⟨h, cutAt_miss (indexByte_none h)⟩
  · obtain ⟨i, hi⟩ : ∃ i : Nat, indexByte l 47 = i := ⟨(indexByte l 47).toNat, by omega⟩
    obtain ⟨h1, h2⟩ := indexByte_some hi
    exact .inr ⟨i, hi, (List.getElem?_eq_some_iff.1 h1).1, cutAt_take h1 h2⟩

def split (l : List UInt8) : Option (List UInt8 × List UInt8) := match cutAt l with
  | none => none
  | some (a, b) => if right a = true ∧ right b = true then some (a, b) else none
def path (a b : List UInt8) : Option (List UInt8) := if right a = true ∧ right b = true then some (a ++ 47 :: b) else none
theorem split_some {l a b : List UInt8} : split l = some (a, b) ↔ l = a ++ 47 :: b ∧ right a = true ∧ right b = true := by
  constructor
  · intro h
    unfold split at h
    cases hc : cutAt l with
    | none => rw [hc] at h; cases h
    | some p =>
      obtain ⟨x, y⟩ := p
      rw [hc] at h
      simp only at h
      split at h
      · rename_i hr
        obtain ⟨rfl, rfl⟩ := Prod.mk.inj (Option.some.inj h)
        exact ⟨(cutAt_eq hc).1, hr⟩
      · cases h
  · rintro ⟨rfl, ha, hb⟩
    unfold split
    rw [cutAt_some a b (right_bytes ha)]
    simp [ha, hb]
theorem split_none_of {l : List UInt8} (h : ∀ a b, cutAt l = some (a, b) → ¬ (right a = true ∧ right b = true)) : split l = none := by
  unfold split
  cases hc : cutAt l with
  | none => rfl
  | some p => simp only; rw [if_neg (h p.1 p.2 hc)]

theorem split_cut_no1' {l a b : List UInt8} (h : cutAt l = some (a, b)) (ha : right a = false) : split l = none := by unfold split; rw [h]; simp [ha]
theorem right_slash_mid (a b : List UInt8) : right (a ++ 47 :: b) = false := by
  cases h : right (a ++ 47 :: b) with
  | false => rfl
  | true => exact absurd rfl (right_bytes h 47 (by simp))

/-! ### which stands ahead -/
theorem less_irrefl : ∀ l : List UInt8, Op.bytesLess l l = false
  | [] => rfl
  | a :: l => by simp [Op.bytesLess, less_irrefl l]
theorem less_asymm : ∀ a b : List UInt8, Op.bytesLess a b = true → Op.bytesLess b a = false
  | a, [], h => by cases a <;> cases h
  | [], _ :: _, _ => rfl
  | x :: a, y :: b, h => by
    simp only [Op.bytesLess, Bool.or_eq_true, Bool.and_eq_true, decide_eq_true_eq, beq_iff_eq] at h
    rw [← Bool.not_eq_true]
    simp only [Op.bytesLess, Bool.or_eq_true, Bool.and_eq_true, decide_eq_true_eq, beq_iff_eq]
    rintro (h2 | ⟨rfl, h2⟩)
    · rcases h with h | ⟨rfl, h⟩
      · simp only [UInt8.lt_iff_toNat_lt] at h h2; omega
      · simp only [UInt8.lt_iff_toNat_lt] at h2; omega
    · rcases h with h | ⟨_, h⟩
      · simp only [UInt8.lt_iff_toNat_lt] at h; omega
      · rw [less_asymm a b h] at h2; cases h2
theorem less_total : ∀ a b : List UInt8, Op.bytesLess a b = false → Op.bytesLess b a = false → a = b
  | [], [], _, _ => rfl
  | [], _ :: _, h, _ => by cases h
  | _ :: _, [], _, h => by cases h
  | x :: a, y :: b, h, h2 => by
    simp only [Op.bytesLess, Bool.or_eq_false_iff, Bool.and_eq_false_iff, decide_eq_false_iff_not, beq_eq_false_iff_ne, ne_eq] at h h2
    have hxy : x = y := by
      have h1 := h.1; have h3 := h2.1
      simp only [UInt8.lt_iff_toNat_lt] at h1 h3
      exact UInt8.toNat_inj.1 (by omega)
    subst hxy
    rw [less_total a b (h.2.resolve_left (by simp)) (h2.2.resolve_left (by simp))]
theorem less_trans : ∀ a b c : List UInt8, Op.bytesLess a b = true → Op.bytesLess b c = true → Op.bytesLess a c = true
  | _, b, [], _, h => by cases b <;> cases h
  | a, [], _ :: _, h, _ => by cases a <;> cases h
  | [], _ :: _, _ :: _, _, _ => rfl
  | x :: a, y :: b, z :: c, h, h2 => by
    simp only [Op.bytesLess, Bool.or_eq_true, Bool.and_eq_true, decide_eq_true_eq, beq_iff_eq, UInt8.lt_iff_toNat_lt] at h h2 ⊢
    rcases h with h | ⟨rfl, h⟩
    · rcases h2 with h2 | ⟨rfl, h2⟩
      · exact .inl (by omega)
      · exact .inl h
    · rcases h2 with h2 | ⟨rfl, h2⟩
      · exact .inl h2
      · exact .inr ⟨rfl, less_trans a b c h h2⟩
theorem less_more : ∀ (a : List UInt8) (x : UInt8) (b : List UInt8), Op.bytesLess a (a ++ x :: b) = true
  | [], _, _ => rfl
  | y :: a, x, b => by simp [Op.bytesLess, less_more a x b]
end Go.Proofs.Ytmmeklemaofmjaa.Txt

/-
  LIBRARY CONTRACTS AT THIS PROGRAM, IN PLAIN WORDS (laid by the shelf's own tools off this seat's dump; each by one application).
-/
namespace Go.Proofs
open Go.Shelf
def Try.lays156_ren : Go.Shelf.Ren := ⟨fun | 156 => 67 | 165 => 74 | 166 => 75 | 169 => 76 | 240 => 84 | 241 => 85 | 276 => 89 | 277 => 90 | n => n, fun | 31 => 32 | 9 => 9 | 3 => 3 | 4 => 4 | 0 => 0 | 20 => 20 | 72 => 99 | 76 => 103 | 70 => 97 | 37 => 45 | 75 => 102 | 127 => 113 | 164 => 127 | 5 => 5 | 80 => 105 | n => n, fun | n => n⟩
theorem Try.lays156 : Go.Proofs.Lays.n156 Try.prog Try.lays156_ren := {
  mixed := by kernel_rfl
  f156 := Try.func67.trans (congrArg some (by kernel_rfl))
  f165 := Try.func74.trans (congrArg some (by kernel_rfl))
  f166 := Try.func75.trans (congrArg some (by kernel_rfl))
  f169 := Try.func76.trans (congrArg some (by kernel_rfl))
  f240 := Try.func84.trans (congrArg some (by kernel_rfl))
  f241 := Try.func85.trans (congrArg some (by kernel_rfl))
  f276 := Try.func89.trans (congrArg some (by kernel_rfl))
  f277 := Try.func90.trans (congrArg some (by kernel_rfl))
  t0 := Try.underlying0
  a0 := Try.isAgg0
  z0 := Try.sizeOf0
  v0 := Try.zeroValue0
  t3 := Try.underlying3
  a3 := Try.isAgg3
  z3 := Try.sizeOf3
  v3 := Try.zeroValue3
  t4 := Try.underlying4
  a4 := Try.isAgg4
  z4 := Try.sizeOf4
  v4 := Try.zeroValue4
  t9 := Try.underlying9
  a9 := Try.isAgg9
  z9 := Try.sizeOf9
  v9 := Try.zeroValue9
  t20 := Try.underlying20
  a20 := Try.isAgg20
  z20 := Try.sizeOf20
  v20 := Try.zeroValue20
  t31 := Try.underlying32
  a31 := Try.isAgg32
  z31 := Try.sizeOf32
  v31 := Try.zeroValue32
  t37 := Try.underlying45
  a37 := Try.isAgg45
  z37 := Try.sizeOf45
  v37 := Try.zeroValue45
  t70 := Try.underlying97
  a70 := Try.isAgg97
  z70 := Try.sizeOf97
  v70 := Try.zeroValue97
  t72 := Try.underlying99
  a72 := Try.isAgg99
  z72 := Try.sizeOf99
  v72 := Try.zeroValue99
  t75 := Try.underlying102
  a75 := Try.isAgg102
  z75 := Try.sizeOf102
  v75 := Try.zeroValue102
  t76 := Try.underlying103
  a76 := Try.isAgg103
  z76 := Try.sizeOf103
  v76 := Try.zeroValue103
  t127 := Try.underlying113
  a127 := Try.isAgg113
  z127 := Try.sizeOf113
  v127 := Try.zeroValue113
  t164 := Try.underlying127
  a164 := Try.isAgg127
  z164 := Try.sizeOf127
  v164 := Try.zeroValue127 }
theorem Try.Builder_Extra_156 : Builder.Extra Try.prog Try.lays156_ren := {
  sizeBuilder := by kernel_rfl
  liesBuilder := by kernel_rfl
  t5 := Try.underlying5
  a5 := Try.isAgg5
  z5 := Try.sizeOf5
  v5 := Try.zeroValue5
  infoByte := by kernel_rfl
  cellsByte := by kernel_rfl
  sizeByte := by kernel_rfl
  neB5 := by decide }
open Go.RowKit in
/-- No element: the empty string; the world is as it was. (Whatever the slice's address and capacity: a nil slice too.) (LAID: no walk: one application.) -/
theorem Try.strings_Join_none (a : Option Addr) (c : Nat) (sep : ByteArray) (w : World) :
    Calls Try.prog 67 #[.slice a 0 c, .string sep] w fun e w' => e = .returned (.string ⟨#[]⟩) ∧ w' = w := Any.strings_Join_none Try.lays156 Try.Builder_Extra_156 a c sep w
open Go.RowKit in
/-- strings.Join: "Join concatenates the elements of its first argument to create a single string. The separator string sep is placed between elements in the resulting string.": HOWEVER MANY ELEMENTS. Below the heap's end the world is as it was. (LAID: no walk: one application.) -/
theorem Try.strings_Join (bk o c : Nat) (xs : List ByteArray) (sep : ByteArray) (w : World) (hcells : ∀ (j : Nat) x, xs[j]? = some x → w.cell? ⟨bk, o + j, none⟩ = some (.string x)) (hbk : bk < w.heap.size) (hN : xs.length ≤ 140737488355328) (hcap : xs.length ≤ c) (hlen : (Lib.join (xs.map (·.data.toList)) sep.data.toList).length ≤ 140737488355328) :
    Calls Try.prog 67 #[.slice (some ⟨bk, o, none⟩) xs.length c, .string sep] w fun e w' => e = .returned (.string ⟨(Lib.join (xs.map (·.data.toList)) sep.data.toList).toArray⟩) ∧ Below w.heap.size w w' := Any.strings_Join Try.lays156 Try.Builder_Extra_156 bk o c xs sep w hcells hbk hN hcap hlen
end Go.Proofs

/-
  CONTRACTS of layer 1's calls (package name) at this program: what each comes to. By an AI agent; no person has read it.
-/
namespace Go.Proofs.Ytmmeklemaofmjaa
open Go.RowKit Txt

theorem ret_bool {a b : Bool} (h : a = b) : Ending.returned (.bool a) = .returned (.bool b) := by rw [h]
theorem bdrew {B : Nat} (w : World) (n : Nat) : Below B w (w.drewN n) := ⟨rfl, rfl, rfl, Nat.le_refl _, fun _ _ => rfl⟩
theorem data_list (l : List UInt8) : (⟨l.toArray⟩ : ByteArray).data.toList = l := rfl

theorem app_data (a b : ByteArray) : (a ++ b).data.toList = a.data.toList ++ b.data.toList := by
  show (a.append b).data.toList = _
  simp


theorem eq_bool {s t : ByteArray} (h : s.data.toList = t.data.toList) : (s.toList == t.toList) = true := by
  rw [Lib.toList_data, Lib.toList_data, h]; simp
theorem ne_bool {s t : ByteArray} (h : s.data.toList ≠ t.data.toList) : (s.toList == t.toList) = false := by
  rw [Lib.toList_data, Lib.toList_data]; simpa using h

/-! ### name.small, name.great -/
set_option maxHeartbeats 1000000 in
theorem small_any (r : Int) (w : World) : Calls Try.prog 44 #[.int .i32 r] w fun e w' => e = .returned (.bool (letter r)) ∧ w = w' := by
  go_enter Try.func44, Try.ntmps44
  go_wp2
  all_goals go_ret
  all_goals refine ⟨ret_bool ?_, rfl⟩
  all_goals unfold letter
  all_goals symm
  all_goals try simp only [beq_iff_eq, beq_eq_false_iff_ne, ne_eq] at *
  all_goals first
    | (apply decide_eq_true; omega)
    | (apply decide_eq_false; omega)

/-! ### strings.Cut at one byte -/
/-! ### name.Right -/
set_option maxHeartbeats 2000000 in
set_option maxRecDepth 1000000 in
theorem right_any (s : ByteArray) (w : World) : Calls Try.prog 22 #[.string s] w fun e w' => e = .returned (.bool (right s.data.toList)) ∧ Below w.heap.size w w' := by
  go_enter Try.func22, Try.ntmps22
  go_wp2
  go_loopw [3] (fun n w' => ∃ (pos k : Nat), w' = w.iter s pos ∧ n = .int .i64 k ∧ k ≤ 32 ∧ nameOfN k (runes (s.data.toList.drop pos)) = right s.data.toList) (fun _ w' => s.size - w'.iterPos w.heap.size)
  case atStart => exact ⟨0, 0, rfl, rfl, by omega, by rw [List.drop_zero]; exact right_N _⟩
  case round =>
    obtain ⟨pos, k, rfl, rfl, hk, hr⟩ := hrel
    have HR := Lib.hid hr
    clear hr
    by_cases hp : pos < s.size
    · have hnx : ∀ ty, (Instr.next (.pointer (some ⟨w.heap.size, 0, none⟩)) true ty).run Try.prog (w.iter s pos) = _ := fun ty => run_next_any w s pos ty hp
      have hwd := Lib.width_pos s pos
      have hd1 := decode_le s pos
      have hne := drop_ne s hp
      by_cases h32 : (32 : Int) < ↑k + 1
      · go_wp2_with fail
        go_ret
        refine ⟨ret_bool ?_, (Below.refl _ _).alloc (Nat.le_refl _) _⟩
        rw [← HR.out, nameN_many hne (by omega)]
      · cases hl : letter ((Utf8.decode s pos).1 : Int) with
        | true =>
          have HL := Lib.hid hl
          clear hl
          go_wp2_with (go_at_call 44; refine (small_any _ _).mono ?_; rintro e w' ⟨rfl, rfl⟩; rw [HL.out])
          go_roundw
          case rel =>
            refine ⟨pos + (Utf8.decode s pos).2, k + 1, rfl, by go_num, by omega, ?_⟩
            rw [← HR.out]
            have HL2 := HL.out
            rw [decode_drop] at HL2 ⊢
            rw [nameN_step hne HL2, List.drop_drop]
          case measure =>
            simp
            omega
        | false =>
          have HL := Lib.hid hl
          clear hl
          go_wp2_with (go_at_call 44; refine (small_any _ _).mono ?_; rintro e w' ⟨rfl, rfl⟩; rw [HL.out])
          go_ret
          refine ⟨ret_bool ?_, (Below.refl _ _).alloc (Nat.le_refl _) _⟩
          have HL2 := HL.out
          rw [decode_drop] at HL2
          rw [← HR.out, nameN_not hne HL2]
    · have hnx : ∀ ty, (Instr.next (.pointer (some ⟨w.heap.size, 0, none⟩)) true ty).run Try.prog (w.iter s pos) = _ := fun ty => run_next_end w s pos ty hp
      go_wp2
      go_ret
      refine ⟨ret_bool ?_, (Below.refl _ _).alloc (Nat.le_refl _) _⟩
      rw [← HR.out, drop_end s hp, runes_nil]
      simp only [nameOfN, List.length_nil, List.all_nil, Bool.and_true]
      exact decide_eq_decide.2 (by omega)

/-! ### name.Split, name.Path -/
def Parted (l : List UInt8) (e : Ending) : Prop :=
  (split l = none ∧ e = .returned (.tuple #[.string ⟨#[]⟩, .string ⟨#[]⟩, .int .i64 3])) ∨
  ∃ a b, split l = some (a, b) ∧ e = .returned (.tuple #[.string ⟨a.toArray⟩, .string ⟨b.toArray⟩, .int .i64 0])

theorem right_call (l : List UInt8) (b : Bool) (h : right l = b) (w : World) : Calls Try.prog 22 #[.string ⟨l.toArray⟩] w fun e w' => e = .returned (.bool b) ∧ Below w.heap.size w w' := by
  have := right_any ⟨l.toArray⟩ w
  rw [data_list, h] at this
  exact this

theorem split_cut_none {l : List UInt8} (h : cutAt l = none) : split l = none := by unfold split; rw [h]
theorem split_cut_yes {l a b : List UInt8} (h : cutAt l = some (a, b)) (ha : right a = true) (hb : right b = true) : split l = some (a, b) := by unfold split; rw [h]; simp [ha, hb]
theorem split_cut_no1 {l a b : List UInt8} (h : cutAt l = some (a, b)) (ha : right a = false) : split l = none := by unfold split; rw [h]; simp [ha]
theorem split_cut_no2 {l a b : List UInt8} (h : cutAt l = some (a, b)) (hb : right b = false) : split l = none := by unfold split; rw [h]; simp [hb]

end Go.Proofs.Ytmmeklemaofmjaa
