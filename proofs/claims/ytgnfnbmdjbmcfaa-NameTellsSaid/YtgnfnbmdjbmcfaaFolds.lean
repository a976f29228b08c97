/-
  PLAIN LEAN, OF NO PROGRAM: a text folded. By an AI agent; no person has read it.
-/
import Derived.Test.YtgnfnbmdjbmcfaaNames
namespace Go.Proofs.Ytgnfnbmdjbmcfaa.Txt
open Go.Lib

def low (r : Int) : Int := if great r = true then r + 32 else r
def piece (l : List UInt8) : List UInt8 := if decodeL l = (65533, 1) then [45] else encodeRune (low (decodeL l).1)
def foldF : Nat → List UInt8 → List UInt8
  | 0, _ => []
  | f + 1, l => if l = [] then [] else piece l ++ foldF f (l.drop (decodeL l).2)
def fold (l : List UInt8) : List UInt8 := foldF l.length l

theorem foldF_fuel : ∀ (f g : Nat) (l : List UInt8), l.length ≤ f → l.length ≤ g → foldF f l = foldF g l
  | 0, 0, _, _, _ => rfl
  | 0, g + 1, l, hf, _ => by
    have : l = [] := List.eq_nil_of_length_eq_zero (by omega)
    simp [this, foldF]
  | f + 1, 0, l, _, hg => by
    have : l = [] := List.eq_nil_of_length_eq_zero (by omega)
    simp [this, foldF]
  | f + 1, g + 1, l, hf, hg => by
    unfold foldF
    by_cases hne : l = []
    · simp [hne]
    · have := drop_lt l hne
      rw [foldF_fuel f g _ (by omega) (by omega)]
theorem fold_nil : fold [] = [] := rfl
theorem fold_step {l : List UInt8} (hne : l ≠ []) : fold l = piece l ++ fold (l.drop (decodeL l).2) := by
  have hlt := drop_lt l hne
  obtain ⟨n, hn⟩ : ∃ n, l.length = n + 1 := ⟨l.length - 1, by omega⟩
  unfold fold
  rw [hn]
  simp only [foldF, if_neg hne]
  rw [foldF_fuel n _ _ (by omega) (Nat.le_refl _)]

theorem low_valid {r : Int} (h : validRune r = true) : validRune (low r) = true := by
  unfold low
  split
  · rename_i hg
    have := of_decide_eq_true hg
    exact decide_eq_true (by omega)
  · exact h
theorem low_low (r : Int) : low (low r) = low r := by
  unfold low
  by_cases hg : great r = true
  · rw [if_pos hg]
    have h := of_decide_eq_true hg
    have : great (r + 32) = false := decide_eq_false (by omega)
    rw [this]; simp
  · rw [if_neg hg, if_neg hg]
theorem low_letter {r : Int} (h : letter r = true) : low r = r := by
  have h1 := of_decide_eq_true h
  have : great r = false := decide_eq_false (by omega)
  simp [low, this]
theorem low_len {r : Int} (h : validRune r = true) : (encodeRune (low r)).length = (encodeRune r).length := by
  unfold low
  split
  · rename_i hg
    have h1 := of_decide_eq_true hg
    obtain ⟨n, rfl, hn⟩ := valid_nat h
    by_cases ha : n < 128
    · rw [enc_one ha, show ((n : Int) + 32) = ((n + 32 : Nat) : Int) by omega, enc_one (by omega)]; rfl
    · rw [enc_two (by omega) (by omega), show ((n : Int) + 32) = ((n + 32 : Nat) : Int) by omega, enc_two (by omega) (by omega)]; rfl
  · rfl
theorem piece_len {l : List UInt8} (hne : l ≠ []) : (piece l).length = (decodeL l).2 := by
  unfold piece
  split
  · rename_i hb; rw [hb]; rfl
  · rename_i hb
    obtain ⟨_, h2, h3⟩ := enc_dec l hne hb
    rw [low_len h3, h2]
theorem fold_len : ∀ (n : Nat) (l : List UInt8), l.length ≤ n → (fold l).length = l.length
  | 0, l, hn => by
    obtain rfl : l = [] := List.eq_nil_of_length_eq_zero (by omega)
    rfl
  | n + 1, l, hn => by
    by_cases hne : l = []
    · subst hne; rfl
    · have := drop_lt l hne
      have h2 := dec_le l hne
      rw [fold_step hne, List.length_append, piece_len hne, fold_len n _ (by omega), List.length_drop]
      omega
theorem fold_length (l : List UInt8) : (fold l).length = l.length := fold_len _ l (Nat.le_refl _)

theorem fold_put {r : Int} (h : validRune r = true) (t : List UInt8) : fold (encodeRune r ++ t) = encodeRune (low r) ++ fold t := by
  have hne : encodeRune r ++ t ≠ [] := fun h0 => enc_ne r (List.append_eq_nil_iff.1 h0).1
  rw [fold_step hne]
  unfold piece
  rw [if_neg (not_bad h t), dec_enc h t]
  obtain ⟨n, rfl, hn⟩ := valid_nat h
  simp
theorem fold_puts : ∀ {rs : List Int} (_ : ∀ r ∈ rs, validRune r = true) (t : List UInt8), fold (enc rs ++ t) = enc (rs.map low) ++ fold t
  | [], _, t => by simp [enc]
  | r :: rs, h, t => by
    rw [enc_cons, List.append_assoc, fold_put (h r (by simp)), fold_puts (fun x hx => h x (by simp [hx]))]
    rw [List.map_cons, enc_cons, List.append_assoc]
theorem fold_enc {rs : List Int} (h : ∀ r ∈ rs, validRune r = true) : fold (enc rs) = enc (rs.map low) := by
  have := fold_puts h []
  simpa [fold_nil] using this

/-- The runes of what is folded. -/
theorem fold_runes : ∀ (n : Nat) (l : List UInt8), l.length ≤ n → ∃ qs, fold l = enc qs ∧ (∀ r ∈ qs, validRune r = true) ∧ qs.map low = qs
  | 0, l, hn => by
    obtain rfl : l = [] := List.eq_nil_of_length_eq_zero (by omega)
    exact ⟨[], rfl, by simp, rfl⟩
  | n + 1, l, hn => by
    by_cases hne : l = []
    · subst hne; exact ⟨[], rfl, by simp, rfl⟩
    · have hlt := drop_lt l hne
      obtain ⟨qs, h1, h2, h3⟩ := fold_runes n (l.drop (decodeL l).2) (by omega)
      rw [fold_step hne, h1]
      unfold piece
      split
      · refine ⟨45 :: qs, by rw [enc_cons]; rfl, fun r hr => ?_, by rw [List.map_cons, h3]; rfl⟩
        rcases List.mem_cons.1 hr with rfl | hr
        · decide
        · exact h2 r hr
      · rename_i hb
        obtain ⟨_, _, d3⟩ := enc_dec l hne hb
        refine ⟨low (decodeL l).1 :: qs, by rw [enc_cons], fun r hr => ?_, by rw [List.map_cons, h3, low_low]⟩
        rcases List.mem_cons.1 hr with rfl | hr
        · exact low_valid d3
        · exact h2 r hr
theorem fold_valid (l : List UInt8) : ∃ qs, runes (fold l) = some qs ∧ fold (fold l) = fold l := by
  obtain ⟨qs, h1, h2, h3⟩ := fold_runes _ l (Nat.le_refl _)
  exact ⟨qs, by rw [h1, runes_enc h2], by rw [h1, fold_enc h2, h3]⟩
theorem map_low {rs : List Int} (h : ∀ r ∈ rs, letter r = true) : rs.map low = rs := by
  induction rs with
  | nil => rfl
  | cons r rs ih => rw [List.map_cons, low_letter (h r (by simp)), ih fun x hx => h x (by simp [hx])]
theorem fold_name {l : List UInt8} (h : right l = true) : fold l = l := by
  obtain ⟨rs, _, _, _, hl, rfl⟩ := right_runes h
  rw [fold_enc fun r hr => letter_valid (hl r hr), map_low hl]
theorem fold_path {a b : List UInt8} (ha : right a = true) (hb : right b = true) : fold (a ++ 47 :: b) = a ++ 47 :: b := by
  obtain ⟨rs, _, _, _, hl, rfl⟩ := right_runes ha
  obtain ⟨qs, _, _, _, hq, rfl⟩ := right_runes hb
  have e : enc rs ++ 47 :: enc qs = enc (rs ++ 47 :: qs) := by rw [enc_append, enc_cons]; rfl
  have hv : ∀ r ∈ rs ++ 47 :: qs, validRune r = true := by
    intro r hr
    rcases List.mem_append.1 hr with h | h
    · exact letter_valid (hl r h)
    · rcases List.mem_cons.1 h with rfl | h
      · decide
      · exact letter_valid (hq r h)
  have h47 : low 47 = 47 := by decide
  rw [e, fold_enc hv, List.map_append, List.map_cons, map_low hl, map_low hq, h47]
end Go.Proofs.Ytgnfnbmdjbmcfaa.Txt
