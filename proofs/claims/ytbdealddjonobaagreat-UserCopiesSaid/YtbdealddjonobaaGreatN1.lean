/-
  One text of several, in their order: Pure, Names, Less, Calls, Order, Make, Named, Runes, Ref. By an AI agent; no person has read it.
-/
import Derived.Lib.TrimUEq
import Derived.Lib.RuneBytes
import Derived.Lib.Small
import Derived.Lib.Bytealg
import Derived.Lib.IndexLaws
import Derived.Laws.Cover4
import Derived.Laws.Strings
import Derived.Test.YtbdealddjonobaaGreatW1
import Derived.WalkKit
import Derived.BigCall
import Derived.BigQuiet
import Derived.Deep.QuietTactic
import Derived.Lib.OthersKept
import Derived.Lib.Hide
import Derived.OpenShut
import Derived.StillTailTactics
import Derived.Laws.Rows
import Derived.OwnWalk
import Derived.IntWalk
import Derived.Deep.RegionHeld3
import Derived.Deep.AppendLies
import Derived.Deep.DeepFit
import Derived.Deep.DeepMust
import Derived.WalkSpells
import Derived.StillTactics
import Derived.Laws.Pointers
import Derived.WalkSmall
/-
  PLAIN LEAN, OF NO PROGRAM: bytes and the runes in them, names, texts folded and parted: what layer 1's calls come to, and what follows. By an AI agent; no person has read it.
-/
namespace Go.Proofs.YtbdealddjonobaaGreat.Txt
open Go.Lib

/-! ### one rune: what is put and what is read -/
theorem u8_of (n : Nat) (h : n < 256) : (n.toUInt8).toNat = n := by
  simp [Nat.toUInt8]; omega

theorem enc_one {n : Nat} (h : n < 128) : encodeRune (n : Int) = [n.toUInt8] := by
  rw [encodeRune, encodeRuneZ_one (by omega) (by omega)]; simp
theorem enc_two {n : Nat} (h0 : 128 ≤ n) (h1 : n < 2048) : encodeRune (n : Int) = [(192 + n / 64).toUInt8, (128 + n % 64).toUInt8] := by
  rw [encodeRune, encodeRuneZ_two (by omega) (by omega)]
  simp only [List.map_cons, List.map_nil]
  rw [show (192 + (n : Int) / 64).toNat = 192 + n / 64 by omega, show (128 + (n : Int) % 64).toNat = 128 + n % 64 by omega]
theorem enc_three {n : Nat} (h : (2048 ≤ n ∧ n < 55296) ∨ (57343 < n ∧ n ≤ 65535)) : encodeRune (n : Int) = [(224 + n / 4096).toUInt8, (128 + n / 64 % 64).toUInt8, (128 + n % 64).toUInt8] := by
  rw [encodeRune, encodeRuneZ_three (by omega)]
  simp only [List.map_cons, List.map_nil]
  rw [show (224 + (n : Int) / 4096).toNat = 224 + n / 4096 by omega, show (128 + (n : Int) / 64 % 64).toNat = 128 + n / 64 % 64 by omega, show (128 + (n : Int) % 64).toNat = 128 + n % 64 by omega]
theorem enc_four {n : Nat} (h0 : 65536 ≤ n) (h1 : n ≤ 1114111) : encodeRune (n : Int) = [(240 + n / 262144).toUInt8, (128 + n / 4096 % 64).toUInt8, (128 + n / 64 % 64).toUInt8, (128 + n % 64).toUInt8] := by
  rw [encodeRune, encodeRuneZ_four (by omega) (by omega)]
  simp only [List.map_cons, List.map_nil]
  rw [show (240 + (n : Int) / 262144).toNat = 240 + n / 262144 by omega, show (128 + (n : Int) / 4096 % 64).toNat = 128 + n / 4096 % 64 by omega, show (128 + (n : Int) / 64 % 64).toNat = 128 + n / 64 % 64 by omega, show (128 + (n : Int) % 64).toNat = 128 + n % 64 by omega]

theorem valid_nat {r : Int} (h : validRune r = true) : ∃ n : Nat, r = n ∧ (n < 55296 ∨ (57343 < n ∧ n ≤ 1114111)) := by
  have h' := of_decide_eq_true h
  exact ⟨r.toNat, by omega, by omega⟩
theorem nat_valid {n : Nat} (h : n < 55296 ∨ (57343 < n ∧ n ≤ 1114111)) : validRune (n : Int) = true := decide_eq_true (by omega)

theorem enc_ne (r : Int) : encodeRune r ≠ [] := by
  intro h
  have h1 := runeCells_le r
  rw [runeCells_length, h] at h1
  simp at h1
theorem enc_len (r : Int) : 1 ≤ (encodeRune r).length ∧ (encodeRune r).length ≤ 4 := by
  have h1 := runeCells_le r
  rwa [runeCells_length] at h1

set_option maxRecDepth 100000 in
set_option maxHeartbeats 2000000 in
/-- What was put of a valid rune is read again, whatever stands behind it. -/
theorem dec_enc {r : Int} (h : validRune r = true) (t : List UInt8) : decodeL (encodeRune r ++ t) = (r.toNat, (encodeRune r).length) := by
  obtain ⟨n, rfl, hn⟩ := valid_nat h
  rw [decodeL_N, Int.toNat_natCast]
  by_cases h1 : n < 128
  · rw [enc_one h1]
    simp only [List.cons_append, List.nil_append, List.getD_cons_zero, List.length_cons, List.length_nil, u8_of n (by omega)]
    simp [decodeN, h1]
  · by_cases h2 : n < 2048
    · rw [enc_two (by omega) h2]
      simp only [List.cons_append, List.nil_append, List.getD_cons_zero, List.getD_cons_succ, List.length_cons, List.length_nil, u8_of (192 + n / 64) (by omega), u8_of (128 + n % 64) (by omega)]
      unfold decodeN
      repeat' split
      all_goals first | (exfalso; omega) | (apply Prod.ext <;> simp only <;> omega)
    · by_cases h3 : n ≤ 65535
      · rw [enc_three (by omega)]
        simp only [List.cons_append, List.nil_append, List.getD_cons_zero, List.getD_cons_succ, List.length_cons, List.length_nil, u8_of (224 + n / 4096) (by omega), u8_of (128 + n / 64 % 64) (by omega), u8_of (128 + n % 64) (by omega)]
        unfold decodeN
        repeat' split
        all_goals first | (exfalso; omega) | (apply Prod.ext <;> simp only <;> omega)
      · rw [enc_four (by omega) (by omega)]
        simp only [List.cons_append, List.nil_append, List.getD_cons_zero, List.getD_cons_succ, List.length_cons, List.length_nil, u8_of (240 + n / 262144) (by omega), u8_of (128 + n / 4096 % 64) (by omega), u8_of (128 + n / 64 % 64) (by omega), u8_of (128 + n % 64) (by omega)]
        unfold decodeN
        repeat' split
        all_goals first | (exfalso; omega) | (apply Prod.ext <;> simp only <;> omega)

theorem u8_eq {a : UInt8} {n : Nat} (h : a.toNat = n) : n.toUInt8 = a := by
  subst h; simp

set_option maxRecDepth 100000 in
set_option maxHeartbeats 4000000 in
/-- What is read stood there so: the bytes are the rune's own. -/
theorem enc_dec (l : List UInt8) (hne : l ≠ []) (hb : decodeL l ≠ (65533, 1)) :
    encodeRune ((decodeL l).1 : Int) ++ l.drop (decodeL l).2 = l ∧ (encodeRune ((decodeL l).1 : Int)).length = (decodeL l).2 ∧ validRune ((decodeL l).1 : Int) = true := by
  obtain ⟨a, t, rfl⟩ := List.exists_cons_of_ne_nil hne
  have ha := a.toNat_lt
  rw [decodeL_N] at hb ⊢
  simp only [List.getD_cons_zero, List.getD_cons_succ, List.length_cons] at hb ⊢
  by_cases h1 : a.toNat < 128
  · have e : decodeN (t.length + 1) a.toNat (t.getD 0 0).toNat (t.getD 1 0).toNat (t.getD 2 0).toNat = (a.toNat, 1) := by simp [decodeN, h1]
    rw [e]
    simp only [enc_one h1, u8_eq rfl, List.drop_succ_cons, List.drop_zero, List.cons_append, List.nil_append, List.length_cons, List.length_nil, true_and]
    exact nat_valid (by omega)
  · by_cases h2 : a.toNat / 32 = 6
    · rcases t with _ | ⟨b, t⟩
      · exact absurd (by simp [decodeN, h1]) hb
      · simp only [List.getD_cons_zero, List.getD_cons_succ, List.length_cons] at hb ⊢
        have hB := b.toNat_lt
        by_cases c1 : b.toNat / 64 = 2 ∧ a.toNat % 32 * 64 + b.toNat % 64 ≥ 128
        · have e : decodeN (t.length + 1 + 1) a.toNat b.toNat (t.getD 0 0).toNat (t.getD 1 0).toNat = (a.toNat % 32 * 64 + b.toNat % 64, 2) := by
            unfold decodeN
            repeat' split
            all_goals first | (exfalso; omega) | (apply Prod.ext <;> simp only <;> omega)
          rw [e]
          simp only [enc_two c1.2 (by omega), List.drop_succ_cons, List.drop_zero, List.cons_append, List.nil_append, List.length_cons, List.length_nil, true_and]
          refine ⟨?_, nat_valid (by omega)⟩
          rw [u8_eq (a := a) (by omega), u8_eq (a := b) (by omega)]
        · refine absurd ?_ hb
          unfold decodeN
          repeat' split
          all_goals first | (exfalso; omega) | rfl
    · by_cases h3 : a.toNat / 16 = 14
      · rcases t with _ | ⟨b, _ | ⟨c, t⟩⟩
        · refine absurd ?_ hb
          unfold decodeN
          repeat' split
          all_goals first | (exfalso; simp only [List.length_nil] at *; omega) | rfl
        · refine absurd ?_ hb
          unfold decodeN
          repeat' split
          all_goals first | (exfalso; simp only [List.length_cons, List.length_nil] at *; omega) | rfl
        · simp only [List.getD_cons_zero, List.getD_cons_succ, List.length_cons] at hb ⊢
          have hB := b.toNat_lt
          have hC := c.toNat_lt
          by_cases c1 : b.toNat / 64 = 2 ∧ c.toNat / 64 = 2 ∧ (a.toNat % 16 * 4096 + b.toNat % 64 * 64 + c.toNat % 64 ≥ 2048 ∧ (a.toNat % 16 * 4096 + b.toNat % 64 * 64 + c.toNat % 64 < 55296 ∨ (57344 ≤ a.toNat % 16 * 4096 + b.toNat % 64 * 64 + c.toNat % 64 ∧ a.toNat % 16 * 4096 + b.toNat % 64 * 64 + c.toNat % 64 ≤ 1114111)))
          · have e : decodeN (t.length + 1 + 1 + 1) a.toNat b.toNat c.toNat (t.getD 0 0).toNat = (a.toNat % 16 * 4096 + b.toNat % 64 * 64 + c.toNat % 64, 3) := by
              unfold decodeN
              repeat' split
              all_goals first | (exfalso; omega) | (apply Prod.ext <;> simp only <;> omega)
            rw [e]
            simp only [enc_three (n := a.toNat % 16 * 4096 + b.toNat % 64 * 64 + c.toNat % 64) (by omega), List.drop_succ_cons, List.drop_zero, List.cons_append, List.nil_append, List.length_cons, List.length_nil, true_and]
            refine ⟨?_, nat_valid (by omega)⟩
            rw [u8_eq (a := a) (by omega), u8_eq (a := b) (by omega), u8_eq (a := c) (by omega)]
          · refine absurd ?_ hb
            unfold decodeN
            repeat' split
            all_goals first | (exfalso; omega) | rfl
      · by_cases h4 : a.toNat / 8 = 30
        · rcases t with _ | ⟨b, _ | ⟨c, _ | ⟨d, t⟩⟩⟩
          · refine absurd ?_ hb
            unfold decodeN
            repeat' split
            all_goals first | (exfalso; simp only [List.length_nil] at *; omega) | rfl
          · refine absurd ?_ hb
            unfold decodeN
            repeat' split
            all_goals first | (exfalso; simp only [List.length_cons, List.length_nil] at *; omega) | rfl
          · refine absurd ?_ hb
            unfold decodeN
            repeat' split
            all_goals first | (exfalso; simp only [List.length_cons, List.length_nil] at *; omega) | rfl
          · simp only [List.getD_cons_zero, List.getD_cons_succ, List.length_cons] at hb ⊢
            have hB := b.toNat_lt
            have hC := c.toNat_lt
            have hD := d.toNat_lt
            by_cases c1 : b.toNat / 64 = 2 ∧ c.toNat / 64 = 2 ∧ d.toNat / 64 = 2 ∧ (a.toNat % 8 * 262144 + b.toNat % 64 * 4096 + c.toNat % 64 * 64 + d.toNat % 64 ≥ 65536 ∧ a.toNat % 8 * 262144 + b.toNat % 64 * 4096 + c.toNat % 64 * 64 + d.toNat % 64 ≤ 1114111)
            · have e : decodeN (t.length + 1 + 1 + 1 + 1) a.toNat b.toNat c.toNat d.toNat = (a.toNat % 8 * 262144 + b.toNat % 64 * 4096 + c.toNat % 64 * 64 + d.toNat % 64, 4) := by
                unfold decodeN
                repeat' split
                all_goals first | (exfalso; omega) | (apply Prod.ext <;> simp only <;> omega)
              rw [e]
              simp only [enc_four (n := a.toNat % 8 * 262144 + b.toNat % 64 * 4096 + c.toNat % 64 * 64 + d.toNat % 64) (by omega) (by omega), List.drop_succ_cons, List.drop_zero, List.cons_append, List.nil_append, List.length_cons, List.length_nil, true_and]
              refine ⟨?_, nat_valid (by omega)⟩
              rw [u8_eq (a := a) (by omega), u8_eq (a := b) (by omega), u8_eq (a := c) (by omega), u8_eq (a := d) (by omega)]
            · refine absurd ?_ hb
              unfold decodeN
              repeat' split
              all_goals first | (exfalso; omega) | rfl
        · refine absurd ?_ hb
          unfold decodeN
          repeat' split
          all_goals first | (exfalso; omega) | rfl
end Go.Proofs.YtbdealddjonobaaGreat.Txt

/-
  PLAIN LEAN, OF NO PROGRAM: the runes of a text, names, paths, and which text stands ahead. By an AI agent; no person has read it.
-/
namespace Go.Proofs.YtbdealddjonobaaGreat.Txt
open Go.Lib

theorem dec_le (l : List UInt8) (hne : l ≠ []) : (decodeL l).2 ≤ l.length := by
  by_cases hb : decodeL l = (65533, 1)
  · have := List.length_pos_iff.2 hne
    rw [hb]; exact this
  · obtain ⟨h1, h2, _⟩ := enc_dec l hne hb
    have := congrArg List.length h1
    rw [List.length_append] at this
    omega
theorem drop_lt (l : List UInt8) (hne : l ≠ []) : (l.drop (decodeL l).2).length < l.length := by
  have h1 := decodeL_width l
  have h2 := List.length_pos_iff.2 hne
  rw [List.length_drop]; omega

/-! ### the runes of a text -/
def runesF : Nat → List UInt8 → Option (List Int)
  | 0, _ => some []
  | f + 1, l => if l = [] then some [] else if decodeL l = (65533, 1) then none else (runesF f (l.drop (decodeL l).2)).map fun rs => ((decodeL l).1 : Int) :: rs
def runes (l : List UInt8) : Option (List Int) := runesF l.length l

theorem runesF_fuel : ∀ (f g : Nat) (l : List UInt8), l.length ≤ f → l.length ≤ g → runesF f l = runesF g l
  | 0, 0, _, _, _ => rfl
  | 0, g + 1, l, hf, _ => by
    have : l = [] := List.eq_nil_of_length_eq_zero (by omega)
    simp [this, runesF]
  | f + 1, 0, l, _, hg => by
    have : l = [] := List.eq_nil_of_length_eq_zero (by omega)
    simp [this, runesF]
  | f + 1, g + 1, l, hf, hg => by
    unfold runesF
    by_cases hne : l = []
    · simp [hne]
    · have := drop_lt l hne
      rw [runesF_fuel f g _ (by omega) (by omega)]

theorem runes_nil : runes [] = some [] := rfl
theorem runes_bad {l : List UInt8} (hne : l ≠ []) (hb : decodeL l = (65533, 1)) : runes l = none := by
  obtain ⟨a, t, rfl⟩ := List.exists_cons_of_ne_nil hne
  simp only [runes, List.length_cons, runesF, if_neg hne, if_pos hb]
theorem runes_step {l : List UInt8} (hne : l ≠ []) (hb : decodeL l ≠ (65533, 1)) : runes l = (runes (l.drop (decodeL l).2)).map fun rs => ((decodeL l).1 : Int) :: rs := by
  have hlt := drop_lt l hne
  obtain ⟨n, hn⟩ : ∃ n, l.length = n + 1 := ⟨l.length - 1, by omega⟩
  unfold runes
  rw [hn]
  simp only [runesF, if_neg hne, if_neg hb]
  rw [runesF_fuel n _ _ (by omega) (Nat.le_refl _)]

def enc (rs : List Int) : List UInt8 := rs.flatMap encodeRune
theorem enc_nil : enc [] = [] := rfl
theorem enc_cons (r : Int) (rs : List Int) : enc (r :: rs) = encodeRune r ++ enc rs := rfl
theorem enc_append (a b : List Int) : enc (a ++ b) = enc a ++ enc b := List.flatMap_append

theorem not_bad {r : Int} (h : validRune r = true) (t : List UInt8) : decodeL (encodeRune r ++ t) ≠ (65533, 1) := by
  rw [dec_enc h t]
  intro he
  obtain ⟨n, rfl, hn⟩ := valid_nat h
  have h1 : n = 65533 := by have := congrArg Prod.fst he; simpa using this
  subst h1
  rw [enc_three (by omega)] at he
  simp at he
theorem runes_put {r : Int} (h : validRune r = true) (t : List UInt8) : runes (encodeRune r ++ t) = (runes t).map fun rs => r :: rs := by
  have hne : encodeRune r ++ t ≠ [] := fun h0 => enc_ne r (List.append_eq_nil_iff.1 h0).1
  rw [runes_step hne (not_bad h t), dec_enc h t]
  obtain ⟨n, rfl, hn⟩ := valid_nat h
  simp
theorem runes_puts : ∀ {rs : List Int} (_ : ∀ r ∈ rs, validRune r = true) (t : List UInt8), runes (enc rs ++ t) = (runes t).map fun q => rs ++ q
  | [], _, t => by simp [enc]
  | r :: rs, h, t => by
    rw [enc_cons, List.append_assoc, runes_put (h r (by simp)), runes_puts (fun x hx => h x (by simp [hx]))]
    simp [Option.map_map, Function.comp_def]
theorem runes_enc {rs : List Int} (h : ∀ r ∈ rs, validRune r = true) : runes (enc rs) = some rs := by
  have := runes_puts h []
  simpa [runes_nil] using this
theorem enc_runes : ∀ (n : Nat) {l : List UInt8} {rs : List Int}, l.length ≤ n → runes l = some rs → enc rs = l ∧ ∀ r ∈ rs, validRune r = true
  | 0, l, rs, hn, h => by
    obtain rfl : l = [] := List.eq_nil_of_length_eq_zero (by omega)
    rw [runes_nil] at h
    obtain rfl := Option.some.inj h
    simp [enc]
  | n + 1, l, rs, hn, h => by
    by_cases hne : l = []
    · subst hne
      rw [runes_nil] at h
      obtain rfl := Option.some.inj h
      simp [enc]
    · by_cases hb : decodeL l = (65533, 1)
      · rw [runes_bad hne hb] at h; cases h
      · rw [runes_step hne hb] at h
        obtain ⟨q, hq, rfl⟩ := Option.map_eq_some_iff.1 h
        have hlt := drop_lt l hne
        obtain ⟨e1, e2⟩ := enc_runes n (by omega) hq
        obtain ⟨d1, _, d3⟩ := enc_dec l hne hb
        refine ⟨by rw [enc_cons, e1, d1], fun r hr => ?_⟩
        rcases List.mem_cons.1 hr with rfl | hr
        · exact d3
        · exact e2 r hr
theorem runes_some {l : List UInt8} {rs : List Int} (h : runes l = some rs) : enc rs = l ∧ ∀ r ∈ rs, validRune r = true := enc_runes _ (Nat.le_refl _) h
theorem enc_inj {a b : List Int} (ha : ∀ r ∈ a, validRune r = true) (hb : ∀ r ∈ b, validRune r = true) (h : enc a = enc b) : a = b := by
  have := runes_enc ha
  rw [h, runes_enc hb] at this
  exact (Option.some.inj this).symm
theorem enc_le (rs : List Int) : rs.length ≤ (enc rs).length ∧ (enc rs).length ≤ 4 * rs.length := by
  induction rs with
  | nil => simp [enc]
  | cons r rs ih =>
    have := enc_len r
    rw [enc_cons, List.length_append, List.length_cons]
    omega
theorem runes_len {l : List UInt8} {rs : List Int} (h : runes l = some rs) : rs.length ≤ l.length := by
  obtain ⟨e, _⟩ := runes_some h
  have := (enc_le rs).1
  rw [e] at this
  exact this

/-! ### names -/
def letter (r : Int) : Bool := decide ((97 ≤ r ∧ r ≤ 122) ∨ (48 ≤ r ∧ r ≤ 57) ∨ r = 45 ∨ (223 ≤ r ∧ r ≤ 246) ∨ (248 ≤ r ∧ r ≤ 255) ∨ (945 ≤ r ∧ r ≤ 969) ∨ (1072 ≤ r ∧ r ≤ 1103))
def great (r : Int) : Bool := decide ((65 ≤ r ∧ r ≤ 90) ∨ (192 ≤ r ∧ r ≤ 214) ∨ (216 ≤ r ∧ r ≤ 222) ∨ (913 ≤ r ∧ r ≤ 929) ∨ (931 ≤ r ∧ r ≤ 937) ∨ (1040 ≤ r ∧ r ≤ 1071))
theorem letter_valid {r : Int} (h : letter r = true) : validRune r = true := by
  have := of_decide_eq_true h
  exact decide_eq_true (by omega)
def nameOf (o : Option (List Int)) : Bool := match o with
  | some rs => decide (1 ≤ rs.length ∧ rs.length ≤ 32) && rs.all letter
  | none => false
def right (l : List UInt8) : Bool := nameOf (runes l)

def rightF : Nat → List UInt8 → Nat → Bool
  | 0, _, many => decide (0 < many)
  | f + 1, l, many => if l = [] then decide (0 < many) else if 32 < many + 1 then false else if letter ((decodeL l).1 : Int) = false then false else rightF f (l.drop (decodeL l).2) (many + 1)
def nameOfN (many : Nat) (o : Option (List Int)) : Bool := match o with
  | some rs => decide (1 ≤ many + rs.length ∧ many + rs.length ≤ 32) && rs.all letter
  | none => false
theorem rightF_eq : ∀ (f : Nat) (l : List UInt8) (many : Nat), l.length ≤ f → many ≤ 32 → rightF f l many = nameOfN many (runes l)
  | 0, l, many, hf, hm => by
    obtain rfl : l = [] := List.eq_nil_of_length_eq_zero (by omega)
    rw [runes_nil]
    simp only [rightF, nameOfN, List.length_nil, List.all_nil, Bool.and_true]
    exact decide_eq_decide.2 (by omega)
  | f + 1, l, many, hf, hm => by
    unfold rightF
    by_cases hne : l = []
    · subst hne
      rw [runes_nil, if_pos rfl]
      simp only [nameOfN, List.length_nil, List.all_nil, Bool.and_true]
      exact decide_eq_decide.2 (by omega)
    · rw [if_neg hne]
      by_cases hb : decodeL l = (65533, 1)
      · rw [runes_bad hne hb, hb]
        simp [nameOfN, letter]
      · rw [runes_step hne hb]
        have hlt := drop_lt l hne
        by_cases h32 : 32 < many + 1
        · rw [if_pos h32]
          cases hq : runes (l.drop (decodeL l).2) with
          | none => rfl
          | some q => simp [nameOfN]; intro _; omega
        · rw [if_neg h32]
          cases hl : letter ((decodeL l).1 : Int) with
          | false =>
            cases hq : runes (l.drop (decodeL l).2) with
            | none => rfl
            | some q => simp [nameOfN, hl]
          | true =>
            rw [if_neg (by simp), rightF_eq f _ (many + 1) (by omega) (by omega)]
            cases hq : runes (l.drop (decodeL l).2) with
            | none => rfl
            | some q =>
              simp only [nameOfN, Option.map_some, List.all_cons, hl, Bool.true_and, List.length_cons]
              congr 1
              apply decide_eq_decide.2
              omega
theorem rightF_right (l : List UInt8) : rightF l.length l 0 = right l := by
  rw [rightF_eq _ _ _ (Nat.le_refl _) (by omega)]
  unfold right nameOf nameOfN
  cases runes l <;> simp

theorem right_runes {l : List UInt8} (h : right l = true) : ∃ rs, runes l = some rs ∧ 1 ≤ rs.length ∧ rs.length ≤ 32 ∧ (∀ r ∈ rs, letter r = true) ∧ enc rs = l := by
  unfold right nameOf at h
  cases hr : runes l with
  | none => rw [hr] at h; cases h
  | some rs =>
    rw [hr] at h
    simp only [Bool.and_eq_true, decide_eq_true_eq, List.all_eq_true] at h
    exact ⟨rs, rfl, h.1.1, h.1.2, h.2, (runes_some hr).1⟩
theorem right_of {rs : List Int} (h1 : 1 ≤ rs.length) (h2 : rs.length ≤ 32) (h : ∀ r ∈ rs, letter r = true) : right (enc rs) = true := by
  unfold right
  rw [runes_enc fun r hr => letter_valid (h r hr)]
  simp only [nameOf, Bool.and_eq_true, decide_eq_true_eq, List.all_eq_true]
  exact ⟨⟨h1, h2⟩, h⟩

theorem decode_drop (s : ByteArray) (pos : Nat) : Utf8.decode s pos = decodeL (s.data.toList.drop pos) := (Lib.decodeL_drop s pos).symm
theorem drop_ne (s : ByteArray) {pos : Nat} (h : pos < s.size) : s.data.toList.drop pos ≠ [] := by
  intro h0
  have := congrArg List.length h0
  rw [List.length_drop, ← Lib.size_eq] at this
  simp at this
  omega
theorem drop_end (s : ByteArray) {pos : Nat} (h : ¬ pos < s.size) : s.data.toList.drop pos = [] := List.drop_eq_nil_of_le (by rw [← Lib.size_eq]; omega)

theorem nameN_step {l : List UInt8} {many : Nat} (hne : l ≠ []) (hl : letter ((decodeL l).1 : Int) = true) : nameOfN many (runes l) = nameOfN (many + 1) (runes (l.drop (decodeL l).2)) := by
  by_cases hb : decodeL l = (65533, 1)
  · rw [hb] at hl; simp [letter] at hl
  · rw [runes_step hne hb]
    cases hq : runes (l.drop (decodeL l).2) with
    | none => rfl
    | some q =>
      simp only [nameOfN, Option.map_some, List.all_cons, hl, Bool.true_and, List.length_cons]
      congr 1
      exact decide_eq_decide.2 (by omega)
theorem nameN_not {l : List UInt8} {many : Nat} (hne : l ≠ []) (hl : letter ((decodeL l).1 : Int) = false) : nameOfN many (runes l) = false := by
  by_cases hb : decodeL l = (65533, 1)
  · rw [runes_bad hne hb]; rfl
  · rw [runes_step hne hb]
    cases hq : runes (l.drop (decodeL l).2) with
    | none => rfl
    | some q => simp [nameOfN, hl]
theorem nameN_many {l : List UInt8} {many : Nat} (hne : l ≠ []) (hm : 32 < many + 1) : nameOfN many (runes l) = false := by
  by_cases hb : decodeL l = (65533, 1)
  · rw [runes_bad hne hb]; rfl
  · rw [runes_step hne hb]
    cases hq : runes (l.drop (decodeL l).2) with
    | none => rfl
    | some q =>
      simp only [nameOfN, Option.map_some, List.length_cons, Bool.and_eq_false_iff]
      exact .inl (decide_eq_false (by omega))
theorem right_N (l : List UInt8) : nameOfN 0 (runes l) = right l := by
  unfold right nameOf nameOfN
  cases runes l <;> simp

/-- A letter's bytes hold no slash. -/
theorem letter_bytes {r : Int} (h : letter r = true) : ∀ b ∈ encodeRune r, b ≠ 47 := by
  have h' := of_decide_eq_true h
  obtain ⟨n, rfl⟩ : ∃ n : Nat, r = n := ⟨r.toNat, by omega⟩
  have key : ∀ {b : UInt8} {k : Nat}, b = k.toUInt8 → k < 256 → k ≠ 47 → b ≠ 47 := by
    intro b k hb hk hne h47
    rw [h47] at hb
    have := congrArg UInt8.toNat hb
    rw [u8_of k hk] at this
    exact hne this.symm
  by_cases h1 : n < 128
  · rw [enc_one h1]
    intro b hb
    have := List.mem_singleton.1 hb
    exact key this (by omega) (by omega)
  · rw [enc_two (by omega) (by omega)]
    intro b hb
    rcases List.mem_cons.1 hb with hb | hb
    · exact key hb (by omega) (by omega)
    · exact key (List.mem_singleton.1 hb) (by omega) (by omega)
theorem right_bytes {l : List UInt8} (h : right l = true) : ∀ b ∈ l, b ≠ 47 := by
  obtain ⟨rs, _, _, _, hl, rfl⟩ := right_runes h
  intro b hb
  obtain ⟨r, hr, hbr⟩ := List.mem_flatMap.1 hb
  exact letter_bytes (hl r hr) b hbr
theorem right_len {l : List UInt8} (h : right l = true) : 1 ≤ l.length ∧ l.length ≤ 128 := by
  obtain ⟨rs, _, h1, h2, _, rfl⟩ := right_runes h
  have := enc_le rs
  omega

/-! ### paths -/
def cutAt : List UInt8 → Option (List UInt8 × List UInt8)
  | [] => none
  | b :: l => if b = 47 then some ([], l) else (cutAt l).map fun p => (b :: p.1, p.2)
theorem cutAt_none {l : List UInt8} (h : ∀ b ∈ l, b ≠ 47) : cutAt l = none := by
  induction l with
  | nil => rfl
  | cons b l ih => simp [cutAt, h b (by simp), ih fun x hx => h x (by simp [hx])]
theorem cutAt_some : ∀ (a b : List UInt8), (∀ x ∈ a, x ≠ 47) → cutAt (a ++ 47 :: b) = some (a, b)
  | [], b, _ => by simp [cutAt]
  | x :: a, b, h => by
    simp [cutAt, h x (by simp), cutAt_some a b fun y hy => h y (by simp [hy])]
theorem cutAt_eq : ∀ {l a b : List UInt8}, cutAt l = some (a, b) → l = a ++ 47 :: b ∧ ∀ x ∈ a, x ≠ 47
  | [], _, _, h => by cases h
  | x :: l, a, b, h => by
    unfold cutAt at h
    split at h
    · rename_i hx
      have h := Option.some.inj h
      obtain ⟨rfl, rfl⟩ := Prod.mk.inj h
      simp [hx]
    · rename_i hx
      obtain ⟨⟨a', b'⟩, hq, he⟩ := Option.map_eq_some_iff.1 h
      obtain ⟨rfl, rfl⟩ := Prod.mk.inj he
      obtain ⟨rfl, h2⟩ := cutAt_eq hq
      refine ⟨rfl, fun y hy => ?_⟩
      rcases List.mem_cons.1 hy with rfl | hy
      · exact hx
      · exact h2 y hy
/-- By the first slash's place. -/
theorem cutAt_take {l : List UInt8} {k : Nat} (hk : l[k]? = some 47) (h : ∀ j, j < k → l[j]? ≠ some 47) : cutAt l = some (l.take k, l.drop (k + 1)) := by
  have hlt : k < l.length := (List.getElem?_eq_some_iff.1 hk).1
  have e : l = l.take k ++ 47 :: l.drop (k + 1) := by
    have h1 := List.take_append_drop k l
    have h2 := List.drop_eq_getElem_cons hlt
    have h3 : l[k] = 47 := by have := List.getElem?_eq_getElem hlt; rw [hk] at this; exact (Option.some.inj this).symm
    rw [h2, h3] at h1
    exact h1.symm
  have h2 : ∀ x ∈ l.take k, x ≠ 47 := by
    intro x hx h47
    obtain ⟨j, hj, hjx⟩ := List.mem_iff_getElem.1 hx
    rw [List.length_take] at hj
    rw [List.getElem_take] at hjx
    exact h j (by omega) (by rw [List.getElem?_eq_getElem (by omega), hjx, h47])
  conv => lhs; rw [e]
  exact cutAt_some _ _ h2
theorem cutAt_miss {l : List UInt8} (h : ∀ j : Nat, l[j]? ≠ some 47) : cutAt l = none :=
  cutAt_none fun b hb h47 => by
    obtain ⟨j, hj⟩ := List.mem_iff_getElem?.1 hb
    exact h j (by rw [hj, h47])
theorem cutAt_index (l : List UInt8) : (indexByte l 47 = -1 ∧ cutAt l = none) ∨ ∃ i : Nat, indexByte l 47 = i ∧ i < l.length ∧ cutAt l = some (l.take i, l.drop (i + 1)) := by
  have hge := indexByte_ge l 47
  by_cases h : indexByte l 47 = -1
  · exact .inl ⟨h, cutAt_miss (indexByte_none h)⟩
  · obtain ⟨i, hi⟩ : ∃ i : Nat, indexByte l 47 = i := ⟨(indexByte l 47).toNat, by omega⟩
    obtain ⟨h1, h2⟩ := indexByte_some hi
    exact .inr ⟨i, hi, (List.getElem?_eq_some_iff.1 h1).1, cutAt_take h1 h2⟩

def split (l : List UInt8) : Option (List UInt8 × List UInt8) := match cutAt l with
  | none => none
  | some (a, b) => if right a = true ∧ right b = true then some (a, b) else none
def path (a b : List UInt8) : Option (List UInt8) := if right a = true ∧ right b = true then some (a ++ 47 :: b) else none
theorem split_some {l a b : List UInt8} : split l = some (a, b) ↔ l = a ++ 47 :: b ∧ right a = true ∧ right b = true := by
  constructor
  · intro h
    unfold split at h
    cases hc : cutAt l with
    | none => rw [hc] at h; cases h
    | some p =>
      obtain ⟨x, y⟩ := p
      rw [hc] at h
      simp only at h
      split at h
      · rename_i hr
        obtain ⟨rfl, rfl⟩ := Prod.mk.inj (Option.some.inj h)
        exact ⟨(cutAt_eq hc).1, hr⟩
      · cases h
  · rintro ⟨rfl, ha, hb⟩
    unfold split
    rw [cutAt_some a b (right_bytes ha)]
    simp [ha, hb]
theorem split_none_of {l : List UInt8} (h : ∀ a b, cutAt l = some (a, b) → ¬ (right a = true ∧ right b = true)) : split l = none := by
  unfold split
  cases hc : cutAt l with
  | none => rfl
  | some p => simp only; rw [if_neg (h p.1 p.2 hc)]

theorem split_cut_no1' {l a b : List UInt8} (h : cutAt l = some (a, b)) (ha : right a = false) : split l = none := by unfold split; rw [h]; simp [ha]
theorem right_slash_mid (a b : List UInt8) : right (a ++ 47 :: b) = false := by
  cases h : right (a ++ 47 :: b) with
  | false => rfl
  | true => exact absurd rfl (right_bytes h 47 (by simp))

/-! ### which stands ahead -/
theorem less_irrefl : ∀ l : List UInt8, Op.bytesLess l l = false
  | [] => rfl
  | a :: l => by simp [Op.bytesLess, less_irrefl l]
theorem less_asymm : ∀ a b : List UInt8, Op.bytesLess a b = true → Op.bytesLess b a = false
  | a, [], h => by cases a <;> cases h
  | [], _ :: _, _ => rfl
  | x :: a, y :: b, h => by
    simp only [Op.bytesLess, Bool.or_eq_true, Bool.and_eq_true, decide_eq_true_eq, beq_iff_eq] at h
    rw [← Bool.not_eq_true]
    simp only [Op.bytesLess, Bool.or_eq_true, Bool.and_eq_true, decide_eq_true_eq, beq_iff_eq]
    rintro (h2 | ⟨rfl, h2⟩)
    · rcases h with h | ⟨rfl, h⟩
      · simp only [UInt8.lt_iff_toNat_lt] at h h2; omega
      · simp only [UInt8.lt_iff_toNat_lt] at h2; omega
    · rcases h with h | ⟨_, h⟩
      · simp only [UInt8.lt_iff_toNat_lt] at h; omega
      · rw [less_asymm a b h] at h2; cases h2
theorem less_total : ∀ a b : List UInt8, Op.bytesLess a b = false → Op.bytesLess b a = false → a = b
  | [], [], _, _ => rfl
  | [], _ :: _, h, _ => by cases h
  | _ :: _, [], _, h => by cases h
  | x :: a, y :: b, h, h2 => by
    simp only [Op.bytesLess, Bool.or_eq_false_iff, Bool.and_eq_false_iff, decide_eq_false_iff_not, beq_eq_false_iff_ne, ne_eq] at h h2
    have hxy : x = y := by
      have h1 := h.1; have h3 := h2.1
      simp only [UInt8.lt_iff_toNat_lt] at h1 h3
      exact UInt8.toNat_inj.1 (by omega)
    subst hxy
    rw [less_total a b (h.2.resolve_left (by simp)) (h2.2.resolve_left (by simp))]
theorem less_trans : ∀ a b c : List UInt8, Op.bytesLess a b = true → Op.bytesLess b c = true → Op.bytesLess a c = true
  | _, b, [], _, h => by cases b <;> cases h
  | a, [], _ :: _, h, _ => by cases a <;> cases h
  | [], _ :: _, _ :: _, _, _ => rfl
  | x :: a, y :: b, z :: c, h, h2 => by
    simp only [Op.bytesLess, Bool.or_eq_true, Bool.and_eq_true, decide_eq_true_eq, beq_iff_eq, UInt8.lt_iff_toNat_lt] at h h2 ⊢
    rcases h with h | ⟨rfl, h⟩
    · rcases h2 with h2 | ⟨rfl, h2⟩
      · exact .inl (by omega)
      · exact .inl h
    · rcases h2 with h2 | ⟨rfl, h2⟩
      · exact .inl h2
      · exact .inr ⟨rfl, less_trans a b c h h2⟩
theorem less_more : ∀ (a : List UInt8) (x : UInt8) (b : List UInt8), Op.bytesLess a (a ++ x :: b) = true
  | [], _, _ => rfl
  | y :: a, x, b => by simp [Op.bytesLess, less_more a x b]
end Go.Proofs.YtbdealddjonobaaGreat.Txt

/-
  PLAIN LEAN, OF NO PROGRAM: texts stand as their runes do. By an AI agent; no person has read it.
-/
namespace Go.Proofs.YtbdealddjonobaaGreat.Txt
open Go.Lib

theorem less_cons {m k : Nat} (hm : m < 256) (hk : k < 256) (s t : List UInt8) : Op.bytesLess (m.toUInt8 :: s) (k.toUInt8 :: t) = (decide (m < k) || (decide (m = k) && Op.bytesLess s t)) := by
  have e1 : decide (m.toUInt8 < k.toUInt8) = decide (m < k) := decide_eq_decide.2 (by rw [UInt8.lt_iff_toNat_lt, u8_of m hm, u8_of k hk])
  have e2 : (m.toUInt8 == k.toUInt8) = decide (m = k) := by
    rw [Bool.eq_iff_iff]
    simp only [beq_iff_eq, decide_eq_true_eq]
    exact ⟨fun h => by have := congrArg UInt8.toNat h; rwa [u8_of m hm, u8_of k hk] at this, fun h => by rw [h]⟩
  simp only [Op.bytesLess, e1, e2]

set_option maxHeartbeats 2000000 in
theorem less_put {x y : Int} (hx : validRune x = true) (hy : validRune y = true) (hne : x ≠ y) (s t : List UInt8) : Op.bytesLess (encodeRune x ++ s) (encodeRune y ++ t) = decide (x < y) := by
  obtain ⟨n, rfl, hn⟩ := valid_nat hx
  obtain ⟨m, rfl, hm⟩ := valid_nat hy
  have hnm : n ≠ m := fun h => hne (by rw [h])
  rw [show decide ((n : Int) < m) = decide (n < m) from decide_eq_decide.2 (by omega)]
  by_cases a1 : n < 128
  · by_cases b1 : m < 128
    · rw [enc_one a1, enc_one b1]
      simp only [List.cons_append, List.nil_append, less_cons (m := n) (k := m) (by omega) (by omega)]
      simp [hnm]
    · have hlt : n < m := by omega
      have hfirst : ∃ c tl, encodeRune (m : Int) = c.toUInt8 :: tl ∧ c < 256 ∧ 192 ≤ c := by
        by_cases b2 : m < 2048
        · exact ⟨_, _, enc_two (by omega) b2, by omega, by omega⟩
        · by_cases b3 : m ≤ 65535
          · exact ⟨_, _, enc_three (by omega), by omega, by omega⟩
          · exact ⟨_, _, enc_four (by omega) (by omega), by omega, by omega⟩
      obtain ⟨c, tl, hc, h1, h2⟩ := hfirst
      rw [enc_one a1, hc]
      simp only [List.cons_append, List.nil_append, less_cons (m := n) (k := c) (by omega) h1]
      rw [decide_eq_true (show n < c by omega), decide_eq_true hlt]; rfl
  · by_cases a2 : n < 2048
    · by_cases b1 : m < 128
      · rw [enc_two (by omega) a2, enc_one b1]
        simp only [List.cons_append, List.nil_append, less_cons (m := 192 + n / 64) (k := m) (by omega) (by omega)]
        rw [decide_eq_false (show ¬ 192 + n / 64 < m by omega), decide_eq_false (show ¬ 192 + n / 64 = m by omega), decide_eq_false (show ¬ n < m by omega)]; rfl
      · by_cases b2 : m < 2048
        · rw [enc_two (by omega) a2, enc_two (by omega) b2]
          simp only [List.cons_append, List.nil_append, less_cons (m := 192 + n / 64) (k := 192 + m / 64) (by omega) (by omega), less_cons (m := 128 + n % 64) (k := 128 + m % 64) (by omega) (by omega)]
          rw [Bool.eq_iff_iff]
          simp only [Bool.or_eq_true, Bool.and_eq_true, decide_eq_true_eq]
          constructor
          · rintro (h | ⟨h, h2 | ⟨h2, _⟩⟩) <;> omega
          · intro h
            by_cases hq : n / 64 = m / 64
            · exact .inr ⟨by omega, .inl (by omega)⟩
            · exact .inl (by omega)
        · have hfirst : ∃ c tl, encodeRune (m : Int) = c.toUInt8 :: tl ∧ c < 256 ∧ 224 ≤ c := by
            by_cases b3 : m ≤ 65535
            · exact ⟨_, _, enc_three (by omega), by omega, by omega⟩
            · exact ⟨_, _, enc_four (by omega) (by omega), by omega, by omega⟩
          obtain ⟨c, tl, hc, h1, h2⟩ := hfirst
          rw [enc_two (by omega) a2, hc]
          simp only [List.cons_append, List.nil_append, less_cons (m := 192 + n / 64) (k := c) (by omega) h1]
          rw [decide_eq_true (show 192 + n / 64 < c by omega), decide_eq_true (show n < m by omega)]; rfl
    · by_cases a3 : n ≤ 65535
      · by_cases b2 : m < 2048
        · have hfirst : ∃ c tl, encodeRune (m : Int) = c.toUInt8 :: tl ∧ c < 224 := by
            by_cases b1 : m < 128
            · exact ⟨_, _, enc_one b1, by omega⟩
            · exact ⟨_, _, enc_two (by omega) b2, by omega⟩
          obtain ⟨c, tl, hc, h1⟩ := hfirst
          rw [enc_three (by omega), hc]
          simp only [List.cons_append, List.nil_append, less_cons (m := 224 + n / 4096) (k := c) (by omega) (by omega)]
          rw [decide_eq_false (show ¬ 224 + n / 4096 < c by omega), decide_eq_false (show ¬ 224 + n / 4096 = c by omega), decide_eq_false (show ¬ n < m by omega)]; rfl
        · by_cases b3 : m ≤ 65535
          · rw [enc_three (n := n) (by omega), enc_three (n := m) (by omega)]
            simp only [List.cons_append, List.nil_append, less_cons (m := 224 + n / 4096) (k := 224 + m / 4096) (by omega) (by omega), less_cons (m := 128 + n / 64 % 64) (k := 128 + m / 64 % 64) (by omega) (by omega), less_cons (m := 128 + n % 64) (k := 128 + m % 64) (by omega) (by omega)]
            rw [Bool.eq_iff_iff]
            simp only [Bool.or_eq_true, Bool.and_eq_true, decide_eq_true_eq]
            constructor
            · rintro (h | ⟨h, h2 | ⟨h2, h3 | ⟨h3, _⟩⟩⟩) <;> omega
            · intro h
              by_cases hq : n / 4096 = m / 4096
              · by_cases hr : n / 64 = m / 64
                · exact .inr ⟨by omega, .inr ⟨by omega, .inl (by omega)⟩⟩
                · exact .inr ⟨by omega, .inl (by omega)⟩
              · exact .inl (by omega)
          · rw [enc_three (n := n) (by omega), enc_four (n := m) (by omega) (by omega)]
            simp only [List.cons_append, List.nil_append, less_cons (m := 224 + n / 4096) (k := 240 + m / 262144) (by omega) (by omega)]
            rw [decide_eq_true (show 224 + n / 4096 < 240 + m / 262144 by omega), decide_eq_true (show n < m by omega)]; rfl
      · by_cases b3 : m ≤ 65535
        · have hfirst : ∃ c tl, encodeRune (m : Int) = c.toUInt8 :: tl ∧ c < 240 := by
            by_cases b1 : m < 128
            · exact ⟨_, _, enc_one b1, by omega⟩
            · by_cases b2 : m < 2048
              · exact ⟨_, _, enc_two (by omega) b2, by omega⟩
              · exact ⟨_, _, enc_three (by omega), by omega⟩
          obtain ⟨c, tl, hc, h1⟩ := hfirst
          rw [enc_four (by omega) (by omega), hc]
          simp only [List.cons_append, List.nil_append, less_cons (m := 240 + n / 262144) (k := c) (by omega) (by omega)]
          rw [decide_eq_false (show ¬ 240 + n / 262144 < c by omega), decide_eq_false (show ¬ 240 + n / 262144 = c by omega), decide_eq_false (show ¬ n < m by omega)]; rfl
        · rw [enc_four (n := n) (by omega) (by omega), enc_four (n := m) (by omega) (by omega)]
          simp only [List.cons_append, List.nil_append, less_cons (m := 240 + n / 262144) (k := 240 + m / 262144) (by omega) (by omega), less_cons (m := 128 + n / 4096 % 64) (k := 128 + m / 4096 % 64) (by omega) (by omega), less_cons (m := 128 + n / 64 % 64) (k := 128 + m / 64 % 64) (by omega) (by omega), less_cons (m := 128 + n % 64) (k := 128 + m % 64) (by omega) (by omega)]
          rw [Bool.eq_iff_iff]
          simp only [Bool.or_eq_true, Bool.and_eq_true, decide_eq_true_eq]
          constructor
          · rintro (h | ⟨h, h2 | ⟨h2, h3 | ⟨h3, h4 | ⟨h4, _⟩⟩⟩⟩) <;> omega
          · intro h
            by_cases hq : n / 262144 = m / 262144
            · by_cases hr : n / 4096 = m / 4096
              · by_cases hs : n / 64 = m / 64
                · exact .inr ⟨by omega, .inr ⟨by omega, .inr ⟨by omega, .inl (by omega)⟩⟩⟩
                · exact .inr ⟨by omega, .inr ⟨by omega, .inl (by omega)⟩⟩
              · exact .inr ⟨by omega, .inl (by omega)⟩
            · exact .inl (by omega)

theorem less_same (p s t : List UInt8) : Op.bytesLess (p ++ s) (p ++ t) = Op.bytesLess s t := by
  induction p with
  | nil => rfl
  | cons a p ih => simp [Op.bytesLess, ih]

/-- Behind a common beginning: the first other rune decides. -/
theorem less_at : ∀ {a b : List Int} {k : Nat}, (∀ r ∈ a, validRune r = true) → (∀ r ∈ b, validRune r = true) → k < a.length → k < b.length → a.take k = b.take k → a.getD k 0 ≠ b.getD k 0 → Op.bytesLess (enc a) (enc b) = decide (a.getD k 0 < b.getD k 0)
  | x :: a, y :: b, 0, ha, hb, _, _, _, hne => by
    simp only [List.getD_cons_zero] at hne ⊢
    rw [enc_cons, enc_cons, less_put (ha x (by simp)) (hb y (by simp)) hne]
  | x :: a, y :: b, k + 1, ha, hb, h1, h2, ht, hne => by
    simp only [List.take_succ_cons, List.cons.injEq] at ht
    obtain ⟨rfl, ht⟩ := ht
    simp only [List.getD_cons_succ] at hne ⊢
    rw [enc_cons, enc_cons, less_same]
    exact less_at (fun r hr => ha r (by simp [hr])) (fun r hr => hb r (by simp [hr])) (by simpa using h1) (by simpa using h2) ht hne
/-- Where there is none, the shorter one stands ahead. -/
theorem less_end : ∀ {a b : List Int} {k : Nat}, k ≤ a.length → k ≤ b.length → (k = a.length ∨ k = b.length) → a.take k = b.take k → Op.bytesLess (enc a) (enc b) = decide (a.length < b.length)
  | [], [], _, _, _, _, _ => rfl
  | [], y :: b, _, _, _, _, _ => by
    rw [enc_nil, enc_cons]
    obtain ⟨c, tl, h⟩ := List.exists_cons_of_ne_nil (enc_ne y)
    rw [h]; simp [Op.bytesLess]
  | x :: a, [], _, _, _, _, _ => by
    rw [enc_nil, enc_cons]
    obtain ⟨c, tl, h⟩ := List.exists_cons_of_ne_nil (enc_ne x)
    rw [h]; simp [Op.bytesLess]
  | x :: a, y :: b, 0, _, _, h, _ => by simp at h
  | x :: a, y :: b, k + 1, h1, h2, h, ht => by
    simp only [List.take_succ_cons, List.cons.injEq] at ht
    obtain ⟨rfl, ht⟩ := ht
    rw [enc_cons, enc_cons, less_same, less_end (k := k) (by simpa using h1) (by simpa using h2) (by simpa using h) ht]
    simp
end Go.Proofs.YtbdealddjonobaaGreat.Txt

/-
  CONTRACTS of layer 1's calls (package name) at this program: what each comes to. By an AI agent; no person has read it.
-/
namespace Go.Proofs.YtbdealddjonobaaGreat
open Go.RowKit Txt

theorem ret_bool {a b : Bool} (h : a = b) : Ending.returned (.bool a) = .returned (.bool b) := by rw [h]
theorem bdrew {B : Nat} (w : World) (n : Nat) : Below B w (w.drewN n) := ⟨rfl, rfl, rfl, Nat.le_refl _, fun _ _ => rfl⟩
theorem data_list (l : List UInt8) : (⟨l.toArray⟩ : ByteArray).data.toList = l := rfl

theorem app_data (a b : ByteArray) : (a ++ b).data.toList = a.data.toList ++ b.data.toList := by
  show (a.append b).data.toList = _
  simp


theorem eq_bool {s t : ByteArray} (h : s.data.toList = t.data.toList) : (s.toList == t.toList) = true := by
  rw [Lib.toList_data, Lib.toList_data, h]; simp
theorem ne_bool {s t : ByteArray} (h : s.data.toList ≠ t.data.toList) : (s.toList == t.toList) = false := by
  rw [Lib.toList_data, Lib.toList_data]; simpa using h

/-! ### name.small, name.great -/
set_option maxHeartbeats 1000000 in
theorem small_any (r : Int) (w : World) : Calls Tryz.prog 135 #[.int .i32 r] w fun e w' => e = .returned (.bool (letter r)) ∧ w = w' := by
  go_enter Tryz.func135, Tryz.ntmps135
  go_wp2
  all_goals go_ret
  all_goals refine ⟨ret_bool ?_, rfl⟩
  all_goals unfold letter
  all_goals symm
  all_goals try simp only [beq_iff_eq, beq_eq_false_iff_ne, ne_eq] at *
  all_goals first
    | (apply decide_eq_true; omega)
    | (apply decide_eq_false; omega)

theorem less_any (a b : ByteArray) (w : World) : Calls Tryz.prog 112 #[.string a, .string b] w fun e w' => e = .returned (.bool (Op.bytesLess a.data.toList b.data.toList)) ∧ w = w' := by
  go_enter Tryz.func112, Tryz.ntmps112
  go_wp2
  go_ret
  exact ⟨by simp [Lib.toList_data], rfl⟩

/-! ### strings.Cut at one byte -/
/-! ### name.Right -/
set_option maxHeartbeats 2000000 in
set_option maxRecDepth 1000000 in
theorem right_any (s : ByteArray) (w : World) : Calls Tryz.prog 85 #[.string s] w fun e w' => e = .returned (.bool (right s.data.toList)) ∧ Below w.heap.size w w' := by
  go_enter Tryz.func85, Tryz.ntmps85
  go_wp2
  go_loopw [3] (fun n w' => ∃ (pos k : Nat), w' = w.iter s pos ∧ n = .int .i64 k ∧ k ≤ 32 ∧ nameOfN k (runes (s.data.toList.drop pos)) = right s.data.toList) (fun _ w' => s.size - w'.iterPos w.heap.size)
  case atStart => exact ⟨0, 0, rfl, rfl, by omega, by rw [List.drop_zero]; exact right_N _⟩
  case round =>
    obtain ⟨pos, k, rfl, rfl, hk, hr⟩ := hrel
    have HR := Lib.hid hr
    clear hr
    by_cases hp : pos < s.size
    · have hnx : ∀ ty, (Instr.next (.pointer (some ⟨w.heap.size, 0, none⟩)) true ty).run Tryz.prog (w.iter s pos) = _ := fun ty => run_next_any w s pos ty hp
      have hwd := Lib.width_pos s pos
      have hd1 := decode_le s pos
      have hne := drop_ne s hp
      by_cases h32 : (32 : Int) < ↑k + 1
      · go_wp2_with fail
        go_ret
        refine ⟨ret_bool ?_, (Below.refl _ _).alloc (Nat.le_refl _) _⟩
        rw [← HR.out, nameN_many hne (by omega)]
      · cases hl : letter ((Utf8.decode s pos).1 : Int) with
        | true =>
          have HL := Lib.hid hl
          clear hl
          go_wp2_with (go_at_call 135; refine (small_any _ _).mono ?_; rintro e w' ⟨rfl, rfl⟩; rw [HL.out])
          go_roundw
          case rel =>
            refine ⟨pos + (Utf8.decode s pos).2, k + 1, rfl, by go_num, by omega, ?_⟩
            rw [← HR.out]
            have HL2 := HL.out
            rw [decode_drop] at HL2 ⊢
            rw [nameN_step hne HL2, List.drop_drop]
          case measure =>
            simp
            omega
        | false =>
          have HL := Lib.hid hl
          clear hl
          go_wp2_with (go_at_call 135; refine (small_any _ _).mono ?_; rintro e w' ⟨rfl, rfl⟩; rw [HL.out])
          go_ret
          refine ⟨ret_bool ?_, (Below.refl _ _).alloc (Nat.le_refl _) _⟩
          have HL2 := HL.out
          rw [decode_drop] at HL2
          rw [← HR.out, nameN_not hne HL2]
    · have hnx : ∀ ty, (Instr.next (.pointer (some ⟨w.heap.size, 0, none⟩)) true ty).run Tryz.prog (w.iter s pos) = _ := fun ty => run_next_end w s pos ty hp
      go_wp2
      go_ret
      refine ⟨ret_bool ?_, (Below.refl _ _).alloc (Nat.le_refl _) _⟩
      rw [← HR.out, drop_end s hp, runes_nil]
      simp only [nameOfN, List.length_nil, List.all_nil, Bool.and_true]
      exact decide_eq_decide.2 (by omega)

/-! ### name.Split, name.Path -/
def Parted (l : List UInt8) (e : Ending) : Prop :=
  (split l = none ∧ e = .returned (.tuple #[.string ⟨#[]⟩, .string ⟨#[]⟩, .int .i64 3])) ∨
  ∃ a b, split l = some (a, b) ∧ e = .returned (.tuple #[.string ⟨a.toArray⟩, .string ⟨b.toArray⟩, .int .i64 0])

theorem right_call (l : List UInt8) (b : Bool) (h : right l = b) (w : World) : Calls Tryz.prog 85 #[.string ⟨l.toArray⟩] w fun e w' => e = .returned (.bool b) ∧ Below w.heap.size w w' := by
  have := right_any ⟨l.toArray⟩ w
  rw [data_list, h] at this
  exact this

theorem split_cut_none {l : List UInt8} (h : cutAt l = none) : split l = none := by unfold split; rw [h]
theorem split_cut_yes {l a b : List UInt8} (h : cutAt l = some (a, b)) (ha : right a = true) (hb : right b = true) : split l = some (a, b) := by unfold split; rw [h]; simp [ha, hb]
theorem split_cut_no1 {l a b : List UInt8} (h : cutAt l = some (a, b)) (ha : right a = false) : split l = none := by unfold split; rw [h]; simp [ha]
theorem split_cut_no2 {l a b : List UInt8} (h : cutAt l = some (a, b)) (hb : right b = false) : split l = none := by unfold split; rw [h]; simp [hb]

end Go.Proofs.YtbdealddjonobaaGreat

/-
  THE WALK OF NameOrder. By an AI agent; no person has read it.
-/
namespace Go.Proofs.YtbdealddjonobaaGreat
open Go.RowKit Txt

theorem less_call (a b : ByteArray) (v : Bool) (h : Op.bytesLess a.data.toList b.data.toList = v) (w : World) : Calls Tryz.prog 112 #[.string a, .string b] w fun e w' => e = .returned (.bool v) ∧ w = w' := by
  have := less_any a b w
  rw [h] at this
  exact this
end Go.Proofs.YtbdealddjonobaaGreat

/-
  CONTRACTS of name.Make and the document's Make at this program, and the walk of NameMakes. By an AI agent; no person has read it.
-/
namespace Go.Proofs.YtbdealddjonobaaGreat
open Go.RowKit Txt

/-- A slice's elements: at each place below the length the address is one of a block that lies, and its cell holds the number. -/
def Reads (k : IntKind) (w : World) (a : Option Addr) (zs : List Int) : Prop :=
  ∀ j, j < zs.length → ∃ b off, a = some ⟨b, off, none⟩ ∧ b < w.heap.size ∧ w.cell? ⟨b, off + j, none⟩ = some (.int k (zs.getD j 0))

theorem Reads.below {k : IntKind} {w w' : World} {a : Option Addr} {zs : List Int} (h : Reads k w a zs) (hb : Below w.heap.size w w') : Reads k w' a zs := fun j hj => by
  obtain ⟨b, off, e, hlt, hc⟩ := h j hj
  exact ⟨b, off, e, Nat.lt_of_lt_of_le hlt hb.size, by rw [hb.cell (p := ⟨b, off + j, none⟩) hlt]; exact hc⟩

/-- What the frame tells of a slice of integers that came in. -/
theorem reads_of {k : IntKind} {w : World} {a : Option Addr} {len cap : Nat} {zs : List Int}
    (h : (a = none ∧ len = 0 ∧ cap = 0 ∧ zs = []) ∨ ∃ x, a = some x ∧ len ≤ cap ∧ cap ≤ maxLen ∧ zs.length = cap ∧ (∀ i, i < zs.length → w.cell? (x.add i) = some (.int k (zs.getD i 0))) ∧ ∀ n ∈ zs, (Lit.int k n).wf = true) :
    ∃ ys : List Int, ys.length = len ∧ Reads k w a ys ∧ ∀ n ∈ ys, (Lit.int k n).wf = true := by
  rcases h with ⟨rfl, rfl, rfl, rfl⟩ | ⟨x, rfl, h1, h2, h3, h4, h5⟩
  · exact ⟨[], rfl, fun j hj => by simp at hj, fun n hn => by simp at hn⟩
  · refine ⟨zs.take len, by rw [List.length_take]; omega, fun j hj => ?_, fun n hn => h5 n (List.mem_of_mem_take hn)⟩
    rw [List.length_take] at hj
    have c0 := h4 0 (by omega)
    have cj := h4 j (by omega)
    obtain ⟨b, off, sp⟩ := x
    have hb : sp = none ∧ b < w.heap.size := by
      have e0 : (⟨b, off, sp⟩ : Addr).add 0 = ⟨b, off, sp⟩ := by simp [Addr.add]
      rw [e0] at c0
      unfold World.cell? at c0
      simp only at c0
      split at c0
      · rename_i h0
        refine ⟨?_, (Array.getElem?_eq_some_iff.1 h0).1⟩
        cases sp with
        | none => rfl
        | some q => simp at c0
      · cases c0
    obtain ⟨rfl, hlt⟩ := hb
    refine ⟨b, off, rfl, hlt, ?_⟩
    have e : (⟨b, off, none⟩ : Addr).add j = ⟨b, off + j, none⟩ := by
      unfold Addr.add
      split
      · rename_i h0; rw [h0]; rfl
      · rfl
    rw [e] at cj
    rw [cj]
    simp only [List.getD, List.getElem?_take_of_lt (show j < len by omega)]

theorem all_take {p : Int → Bool} {zs : List Int} {k : Nat} (hk : k < zs.length) (h : (zs.take k).all p = true) (hp : p (zs.getD k 0) = true) : (zs.take (k + 1)).all p = true := by
  rw [List.take_succ_eq_append_getElem hk, List.all_append, h]
  have : zs.getD k 0 = zs[k] := by simp [List.getD, hk]
  rw [this] at hp
  simp [hp]
theorem all_not {p : Int → Bool} {zs : List Int} {k : Nat} (hk : k < zs.length) (hp : p (zs.getD k 0) = false) : zs.all p = false := by
  have : zs.getD k 0 = zs[k] := by simp [List.getD, hk]
  rw [this] at hp
  exact List.all_eq_false.2 ⟨zs[k], List.getElem_mem hk, by simp [hp]⟩

def Made (zs : List Int) (e : Ending) : Prop :=
  (zs.all Lib.validRune = false ∧ e = .returned (.tuple #[.string ⟨#[]⟩, .int .i64 1])) ∨
  (zs.all Lib.validRune = true ∧ e = .returned (.tuple #[.string ⟨(enc zs).toArray⟩, .int .i64 0]))

/-! ### string(runes) -/
theorem encode_data {r : Int} (h : Lib.validRune r = true) : (Utf8.encode r).data.toList = Lib.encodeRune r := by
  obtain ⟨n, rfl, hn⟩ := valid_nat h
  have hv : Utf8.valid (n : Int) = true := by
    simp only [Utf8.valid, Bool.or_eq_true, Bool.and_eq_true, decide_eq_true_eq]; omega
  simp only [Utf8.encode, hv, if_true, Int.toNat_natCast]
  by_cases h1 : n < 128
  · rw [if_pos h1, enc_one h1]
  · by_cases h2 : n < 2048
    · rw [if_neg h1, if_pos h2, enc_two (by omega) h2]
    · by_cases h3 : n < 65536
      · rw [if_neg h1, if_neg h2, if_pos h3, enc_three (by omega)]
      · rw [if_neg h1, if_neg h2, if_neg h3, enc_four (by omega) (by omega)]
theorem runesBytes_go : ∀ (zs : List Int) (s : ByteArray), zs.all Lib.validRune = true → (zs.foldl (fun r n => r ++ Utf8.encode n) s).data.toList = s.data.toList ++ enc zs
  | [], s, _ => by simp [enc]
  | z :: zs, s, h => by
    rw [List.all_cons, Bool.and_eq_true] at h
    rw [List.foldl_cons, runesBytes_go zs _ h.2, app_data, encode_data h.1, enc_cons, List.append_assoc]
theorem runesBytes_enc {zs : List Int} (h : zs.all Lib.validRune = true) : runesBytes zs = ⟨(enc zs).toArray⟩ := by
  have := runesBytes_go zs ByteArray.empty h
  rw [← Lib.mk_data (runesBytes zs)]
  unfold runesBytes
  rw [this]
  simp
theorem convert_runes (w : World) (a : Option Addr) (cap : Nat) (zs : List Int) (hr : Reads .i32 w a zs) (hv : zs.all Lib.validRune = true) :
    (convert 135 9 (.slice a zs.length cap)).run Tryz.prog w = .ok (.string ⟨(enc zs).toArray⟩) w := by
  cases zs with
  | nil =>
    cases a with
    | none => rw [run_convert_runes_nil w _ _ 21 _ _ Tryz.underlying135 Tryz.underlying21 Tryz.underlying9]; rfl
    | some x =>
      rw [List.length_nil, run_convert_runes w _ _ 21 x 0 cap [] (Nat.le_refl _) Tryz.underlying135 Tryz.underlying21 Tryz.underlying9 (fun j hj => by simp at hj)]
      rfl
  | cons z t =>
    obtain ⟨b, off, rfl, _, _⟩ := hr 0 (by simp)
    rw [run_convert_runes w _ _ 21 _ _ cap (z :: t) (Nat.le_refl _) Tryz.underlying135 Tryz.underlying21 Tryz.underlying9 (fun j hj => ?_)]
    · rw [List.take_length, runesBytes_enc hv]
    · obtain ⟨b', off', he, _, hc⟩ := hr j hj
      obtain ⟨rfl, rfl⟩ : b = b' ∧ off = off' := by simpa using he
      by_cases h0 : j = 0
      · subst h0; exact hc
      · simp only [Addr.add, if_neg h0]; exact hc

/-! ### name.Make -/
/-! ### the document's valid, one, Make -/
set_option maxHeartbeats 1000000 in
theorem refvalid_any (r : Int) (w : World) : Calls Tryz.prog 179 #[.int .i32 r] w fun e w' => e = .returned (.bool (Lib.validRune r)) ∧ w = w' := by
  go_enter Tryz.func179, Tryz.ntmps179
  go_wp2
  all_goals go_ret
  all_goals refine ⟨ret_bool ?_, rfl⟩
  all_goals unfold Lib.validRune
  all_goals symm
  all_goals first
    | (apply decide_eq_true; omega)
    | (apply decide_eq_false; omega)
    | (rw [← Bool.decide_or]; exact decide_eq_decide.2 (by omega))

theorem conv_ints (w : World) (zs : List Int) (h : ∀ z ∈ zs, 0 ≤ z ∧ z < 256) :
    (convert 181 9 (.slice (some ⟨w.heap.size, 0, none⟩) zs.length zs.length)).run Tryz.prog (w.alloc (.cells (zs.map (Value.int .u8)).toArray 5)) =
      .ok (.string ⟨(zs.map fun z => z.toNat.toUInt8).toArray⟩) (w.alloc (.cells (zs.map (Value.int .u8)).toArray 5)) := by
  have := run_convert_bytes_back (P := Tryz.prog) (w.alloc (.cells (zs.map (Value.int .u8)).toArray 5)) 181 9 5 ⟨w.heap.size, 0, none⟩ zs.length (zs.map fun z => z.toNat.toUInt8) Tryz.underlying181 Tryz.underlying5 Tryz.underlying9 (fun j hj => ?_)
  · simpa using this
  · rw [List.length_map] at hj
    have e : (⟨w.heap.size, 0, none⟩ : Addr).add j = ⟨w.heap.size, j, none⟩ := by
      unfold Addr.add
      split
      · rename_i h0; rw [h0]
      · simp
    rw [e, World.cell?_alloc_mark]
    have hz := h zs[j] (List.getElem_mem hj)
    simp [hj]
    omega
theorem ret_str {a b : ByteArray} (h : a = b) : Ending.returned (.string a) = .returned (.string b) := by rw [h]
theorem refvalid_call (r : Int) (v : Bool) (h : Lib.validRune r = v) (w : World) : Calls Tryz.prog 179 #[.int .i32 r] w fun e w' => e = .returned (.bool v) ∧ w = w' := by
  have := refvalid_any r w
  rw [h] at this
  exact this

theorem enc_take {zs : List Int} {k : Nat} (hk : k < zs.length) : enc (zs.take (k + 1)) = enc (zs.take k) ++ Lib.encodeRune (zs.getD k 0) := by
  have : zs.getD k 0 = zs[k] := by simp [List.getD, hk]
  rw [List.take_succ_eq_append_getElem hk, enc_append, this, enc_cons, enc_nil, List.append_nil]
theorem enc_take_le (zs : List Int) (k : Nat) : (enc (zs.take k)).length ≤ 4 * k := by
  have h := (enc_le (zs.take k)).2
  have : (zs.take k).length ≤ k := List.length_take_le _ _
  omega
theorem bytes_of {s : ByteArray} {l : List UInt8} (h : s.data.toList = l) : s = ⟨l.toArray⟩ := by
  rw [← h]

/-! ### NameMakes -/
end Go.Proofs.YtbdealddjonobaaGreat

/-
  CONTRACTS of the statements' own pick and named at this program: what named makes is a name. By an AI agent; no person has read it.
-/
namespace Go.Proofs.YtbdealddjonobaaGreat
open Go.RowKit Txt

theorem ret_int {k : IntKind} {a b : Int} (h : a = b) : Ending.returned (.int k a) = .returned (.int k b) := by rw [h]
def pk (c n : Int) : Int := (if c < 0 then -(c + 1) else c) % n
theorem pk_bd (c : Int) {n : Int} (h : 0 < n) : 0 ≤ pk c n ∧ pk c n < n := ⟨Int.emod_nonneg _ (by omega), Int.emod_lt_of_pos _ h⟩

set_option maxHeartbeats 1000000 in
theorem pick_any (c n : Int) (w : World) (h0 : -9223372036854775808 ≤ c) (h1 : c ≤ 9223372036854775807) (hn : 0 < n) (hn2 : n ≤ 1000000) :
    Calls Tryz.prog 15 #[.int .i64 c, .int .i64 n] w fun e w' => e = .returned (.int .i64 (pk c n)) ∧ w' = w := by
  have hd : ¬ n = 0 := by omega
  by_cases hc : c < 0
  · go_enter Tryz.func15, Tryz.ntmps15
    go_wp2
    go_ret
    refine ⟨ret_int ?_, rfl⟩
    rw [pk, if_pos hc, ← Int.tmod_eq_emod_of_nonneg (by omega), Int.neg_tmod]
  · have hc' : 0 ≤ c := by omega
    go_enter Tryz.func15, Tryz.ntmps15
    go_wp2
    go_ret
    exact ⟨ret_int (by rw [pk, if_neg (by omega)]), rfl⟩

def fr (k : Nat) : Int := [97, 48, 223, 248, 945, 1072, 45].getD k 0
def mn (k : Nat) : Int := [26, 10, 24, 8, 25, 32, 1].getD k 0

theorem own_ne {w : World} {base : Nat} {e : TypeId} {size : Nat} {v : Value} {n : Nat} {xs : List Value} (h : w.ownsRow base e size v n xs) {c : Nat} (hc : c < base) : v.ownBlock ≠ some c := fun he => by
  have := (h.lt c he).1
  omega
/-- What an own row of integers reads as. -/
theorem own_reads {k : IntKind} {w : World} {base : Nat} {e : TypeId} {v : Value} {n : Nat} {zs : List Int} (h : w.ownsRow base e 1 v n (zs.map (Value.int k))) :
    zs.length = n ∧ ∃ a cap, v = .slice a zs.length cap ∧ zs.length ≤ cap ∧ Reads k w a zs := by
  have hl : zs.length = n := by have := h.1; simpa using this
  refine ⟨hl, ?_⟩
  rcases h.2 with ⟨rfl, rfl⟩ | ⟨g, cap, cur, rfl, _, hgg, hnc, _, _, _⟩
  · exact ⟨none, 0, by rw [hl], by omega, fun j hj => by omega⟩
  · refine ⟨some ⟨g, 0, none⟩, cap, by rw [hl], by omega, fun j hj => ⟨g, 0, rfl, (Array.getElem?_eq_some_iff.1 hgg).1, ?_⟩⟩
    have := h.cells (g := g) rfl j (.int k (zs.getD j 0)) (by simp [List.getD, hj])
    rw [show ((⟨g, 0, none⟩ : Addr).add j) = ⟨g, 0 + j, none⟩ from by unfold Addr.add; split <;> simp_all] at this
    exact this
theorem tdiv7 {z : Int} (h0 : -9223372036854775808 ≤ z) (h1 : z ≤ 9223372036854775807) : -9223372036854775808 ≤ z.tdiv 7 ∧ z.tdiv 7 ≤ 9223372036854775807 := by
  by_cases h : 0 ≤ z
  · rw [Int.tdiv_eq_ediv_of_nonneg h]; omega
  · have e : z.tdiv 7 = -((-z).tdiv 7) := by rw [Int.neg_tdiv, Int.neg_neg]
    rw [e, Int.tdiv_eq_ediv_of_nonneg (by omega)]; omega
theorem letter_fr {k : Nat} (hk : k < 7) {x : Int} (h0 : 0 ≤ x) (h1 : x < mn k) : letter (fr k + x) = true := by
  unfold letter
  apply decide_eq_true
  match k, hk with
  | 0, _ | 1, _ | 2, _ | 3, _ | 4, _ | 5, _ | 6, _ => simp [fr, mn] at *; omega
theorem mn_bd {k : Nat} (hk : k < 7) : 0 < mn k ∧ mn k ≤ 1000000 := by
  match k, hk with
  | 0, _ | 1, _ | 2, _ | 3, _ | 4, _ | 5, _ | 6, _ => simp [mn]
theorem fr_bd {k : Nat} (hk : k < 7) : 0 ≤ fr k ∧ fr k ≤ 1000000 := by
  match k, hk with
  | 0, _ | 1, _ | 2, _ | 3, _ | 4, _ | 5, _ | 6, _ => simp [fr]
theorem info32 : (Tryz.prog.info? 21).map (fun i => (i.zero, i.size, i.bytes)) = some (some (.int .i32 0), 1, 4) := by kernel_rfl

def w3 (w : World) : World := ((w.alloc (.cells #[.int .i32 97, .int .i32 48, .int .i32 223, .int .i32 248, .int .i32 945, .int .i32 1072, .int .i32 45] 21)).alloc
  (.cells #[.int .i64 26, .int .i64 10, .int .i64 24, .int .i64 8, .int .i64 25, .int .i64 32, .int .i64 1] 3)).alloc (.cells #[.int .i32 110] 21)
theorem w3_size (w : World) : (w3 w).heap.size = w.heap.size + 3 := by simp [w3]
theorem w3_below (w : World) : Below w.heap.size w (w3 w) := (((Below.refl _ _).alloc (Nat.le_refl _) _).alloc (by simp) _).alloc (by simp; omega) _
theorem w3_fr (w : World) {k : Nat} (hk : k < 7) : (w3 w).cell? ⟨w.heap.size, k, none⟩ = some (.int .i32 (fr k)) := by
  unfold w3
  rw [World.cell?_alloc_past _ _ _ (by simp; omega), World.cell?_alloc_past _ _ _ (by simp), World.cell?_alloc_at _ _ _ _ rfl]
  match k, hk with
  | 0, _ | 1, _ | 2, _ | 3, _ | 4, _ | 5, _ | 6, _ => rfl
theorem w3_mn (w : World) {k : Nat} (hk : k < 7) : (w3 w).cell? ⟨w.heap.size + 1, k, none⟩ = some (.int .i64 (mn k)) := by
  unfold w3
  rw [World.cell?_alloc_past _ _ _ (by simp), World.cell?_alloc_at _ _ _ _ (by simp)]
  match k, hk with
  | 0, _ | 1, _ | 2, _ | 3, _ | 4, _ | 5, _ | 6, _ => rfl
theorem w3_own (w : World) : (w3 w).ownsRow (w.heap.size + 2) 21 1 (.slice (some ⟨w.heap.size + 1 + 1, 0, none⟩) 1 1) 1 [.int .i32 110] := by
  have := World.ownsRow_lit (base := w.heap.size + 2) (e := 21) (size := 1) ((w.alloc (.cells #[.int .i32 97, .int .i32 48, .int .i32 223, .int .i32 248, .int .i32 945, .int .i32 1072, .int .i32 45] 21)).alloc
    (.cells #[.int .i64 26, .int .i64 10, .int .i64 24, .int .i64 8, .int .i64 25, .int .i64 32, .int .i64 1] 3)) #[.int .i32 110] 1 (by simp) (by decide) (by decide)
  simpa [w3] using this

end Go.Proofs.YtbdealddjonobaaGreat

/-
  CONTRACTS of name.broken and name.Runes at this program. By an AI agent; no person has read it.
-/
namespace Go.Proofs.YtbdealddjonobaaGreat
open Go.RowKit Txt

def brk (l : List UInt8) (r : Int) : Bool := r == 65533 && !(Lib.hasPrefix l [239, 191, 189])
theorem brk_is {l : List UInt8} (hne : l ≠ []) : brk l ((Lib.decodeL l).1 : Int) = decide (Lib.decodeL l = (65533, 1)) := by
  have e3 : Lib.encodeRune 65533 = [239, 191, 189] := by decide
  by_cases hb : Lib.decodeL l = (65533, 1)
  · rw [decide_eq_true hb, hb]
    have : Lib.hasPrefix l [239, 191, 189] = false := by
      cases hp : Lib.hasPrefix l [239, 191, 189] with
      | false => rfl
      | true =>
        exfalso
        obtain ⟨t, rfl⟩ := List.isPrefixOf_iff_prefix.1 hp
        have h1 := dec_enc (r := 65533) (by decide) t
        rw [e3, hb] at h1
        simp at h1
    simp [brk, this]
  · rw [decide_eq_false hb]
    cases hr : (((Lib.decodeL l).1 : Int) == 65533) with
    | false => simp [brk, hr]
    | true =>
      have h1 := (enc_dec l hne hb).1
      have hr2 : ((Lib.decodeL l).1 : Int) = 65533 := by simpa using hr
      rw [hr2, e3] at h1
      have : Lib.hasPrefix l [239, 191, 189] = true := List.isPrefixOf_iff_prefix.2 ⟨_, h1⟩
      simp [brk, this]
def Runed (w : World) (base : Nat) (l : List UInt8) (e : Ending) : Prop :=
  (runes l = none ∧ e = .returned (.tuple #[.slice none 0 0, .int .i64 2])) ∨
  ∃ rs v, runes l = some rs ∧ e = .returned (.tuple #[v, .int .i64 0]) ∧ w.ownsRow base 21 1 v rs.length (rs.map (Value.int .i32))

theorem extract_drop (s : ByteArray) (pos : Nat) : (s.extract pos s.size).data.toList = s.data.toList.drop pos := by
  rw [Lib.extract_data, List.take_of_length_le (by rw [List.length_drop, ← Lib.size_eq]; exact Nat.le_refl _)]

end Go.Proofs.YtbdealddjonobaaGreat

/-
  CONTRACTS of the document's own calls of layer 1 (letterlockref1) at this program. By an AI agent; no person has read it.
-/
namespace Go.Proofs.YtbdealddjonobaaGreat
open Go.RowKit Txt

set_option maxHeartbeats 1000000 in
theorem in_any (r a b : Int) (w : World) : Calls Tryz.prog 137 #[.int .i32 r, .int .i32 a, .int .i32 b] w fun e w' => e = .returned (.bool (decide (a ≤ r) && decide (r ≤ b))) ∧ w = w' := by
  go_enter Tryz.func137, Tryz.ntmps137
  go_wp2
  all_goals go_ret
  all_goals refine ⟨ret_bool ?_, rfl⟩
  all_goals symm
  all_goals first
    | (rw [decide_eq_true (show a ≤ r by omega)]; rfl)
    | (rw [decide_eq_false (show ¬ a ≤ r by omega)]; rfl)
    | (rw [decide_eq_true (show a ≤ r by omega), decide_eq_true (show r ≤ b by omega)]; rfl)
    | (rw [decide_eq_true (show a ≤ r by omega), decide_eq_false (show ¬ r ≤ b by omega)]; rfl)

/-! ### the first rune of bytes -/
def firstR (l : List UInt8) : Nat × Nat := if l = [] then (0, 0) else if Lib.decodeL l = (65533, 1) then (0, 0) else Lib.decodeL l
theorem firstR_bad {l : List UInt8} (h : Lib.decodeL l = (65533, 1)) : firstR l = (0, 0) := by
  unfold firstR
  by_cases hl : l = []
  · rw [if_pos hl]
  · rw [if_neg hl, if_pos h]
theorem firstR_ok {l : List UInt8} {p : Nat × Nat} (hne : l ≠ []) (h : Lib.decodeL l = p) (hp : p ≠ (65533, 1)) : firstR l = p := by
  unfold firstR
  rw [if_neg hne, if_neg (by rw [h]; exact hp), h]

def accN (c : Nat) (b : Nat → Nat) : Nat → Nat
  | 0 => c
  | k + 1 => 64 * accN c b k + (b (k + 1) - 128)
theorem accN_le (c : Nat) (b : Nat → Nat) (hc : c < 32) (hb : ∀ k, b k < 256) : accN c b 1 < 4096 ∧ accN c b 2 < 300000 ∧ accN c b 3 < 20000000 := by
  have h1 := hb 1; have h2 := hb 2; have h3 := hb 3
  have e1 : accN c b 1 = 64 * c + (b 1 - 128) := rfl
  have e2 : accN c b 2 = 64 * accN c b 1 + (b 2 - 128) := rfl
  have e3 : accN c b 3 = 64 * accN c b 2 + (b 3 - 128) := rfl
  omega

def byteAt (s : ByteArray) (k : Nat) : Nat := (s.data.toList.getD k 0).toNat
theorem byteAt_lt (s : ByteArray) (k : Nat) : byteAt s k < 256 := UInt8.toNat_lt _
theorem byteAt_is (s : ByteArray) {k : Nat} (h : k < s.size) : (s[k]'h).toNat = byteAt s k := by
  unfold byteAt
  rw [Lib.getD_get!', ← get_at s k h]
  rfl
theorem dec_bytes (s : ByteArray) : Lib.decodeL s.data.toList = Lib.decodeN s.size (byteAt s 0) (byteAt s 1) (byteAt s 2) (byteAt s 3) := by
  rw [Lib.decodeL_N, ← Lib.size_eq]; rfl
theorem list_ne {s : ByteArray} (h0 : 0 < s.size) : s.data.toList ≠ [] := by
  intro h
  have h1 : s.size = 0 := by rw [Lib.size_eq, h]; rfl
  omega
theorem not_empty {s : ByteArray} (h0 : 0 < s.size) : (s.toList == []) = false := by
  rw [Lib.toList_data]
  cases h : s.data.toList with
  | nil => exact absurd h (list_ne h0)
  | cons a t => rfl
def Firsts (s : ByteArray) (e : Ending) : Prop := e = .returned (.tuple #[.int .i32 ((firstR s.data.toList).1 : Int), .int .i64 ((firstR s.data.toList).2 : Int)])
theorem firsts_bad {s : ByteArray} (h : Lib.decodeL s.data.toList = (65533, 1)) : Firsts s (.returned (.tuple #[.int .i32 0, .int .i64 0])) := by
  unfold Firsts
  rw [firstR_bad h]; rfl
theorem firsts_ok {s : ByteArray} {r n : Nat} (hne : s.data.toList ≠ []) (h : Lib.decodeL s.data.toList = (r, n)) (hp : (r, n) ≠ (65533, 1)) : Firsts s (.returned (.tuple #[.int .i32 r, .int .i64 n])) := by
  unfold Firsts
  rw [firstR_ok hne h hp]

end Go.Proofs.YtbdealddjonobaaGreat
