/-
  PLAIN LEAN, OF NO PROGRAM: the runes of a text, names, paths, and which text stands ahead. By an AI agent; no person has read it.
-/
import Derived.Test.YtgnfnbmdjbmcfaaPure
namespace Go.Proofs.Ytgnfnbmdjbmcfaa.Txt
open Go.Lib

theorem dec_le (l : List UInt8) (hne : l ≠ []) : (decodeL l).2 ≤ l.length := by
  by_cases hb : decodeL l = (65533, 1)
  · have := List.length_pos_iff.2 hne
    rw [hb]; exact this
  · obtain ⟨h1, h2, _⟩ := enc_dec l hne hb
    have := congrArg List.length h1
    rw [List.length_append] at this
    omega
theorem drop_lt (l : List UInt8) (hne : l ≠ []) : (l.drop (decodeL l).2).length < l.length := by
  have h1 := decodeL_width l
  have h2 := List.length_pos_iff.2 hne
  rw [List.length_drop]; omega

/-! ### the runes of a text -/
def runesF : Nat → List UInt8 → Option (List Int)
  | 0, _ => some []
  | f + 1, l => if l = [] then some [] else if decodeL l = (65533, 1) then none else (runesF f (l.drop (decodeL l).2)).map fun rs => ((decodeL l).1 : Int) :: rs
def runes (l : List UInt8) : Option (List Int) := runesF l.length l

theorem runesF_fuel : ∀ (f g : Nat) (l : List UInt8), l.length ≤ f → l.length ≤ g → runesF f l = runesF g l
  | 0, 0, _, _, _ => rfl
  | 0, g + 1, l, hf, _ => by
    have : l = [] := List.eq_nil_of_length_eq_zero (by omega)
    simp [this, runesF]
  | f + 1, 0, l, _, hg => by
    have : l = [] := List.eq_nil_of_length_eq_zero (by omega)
    simp [this, runesF]
  | f + 1, g + 1, l, hf, hg => by
    unfold runesF
    by_cases hne : l = []
    · simp [hne]
    · have := drop_lt l hne
      rw [runesF_fuel f g _ (by omega) (by omega)]

theorem runes_nil : runes [] = some [] := rfl
theorem runes_bad {l : List UInt8} (hne : l ≠ []) (hb : decodeL l = (65533, 1)) : runes l = none := by
  obtain ⟨a, t, rfl⟩ := List.exists_cons_of_ne_nil hne
  simp only [runes, List.length_cons, runesF, if_neg hne, if_pos hb]
theorem runes_step {l : List UInt8} (hne : l ≠ []) (hb : decodeL l ≠ (65533, 1)) : runes l = (runes (l.drop (decodeL l).2)).map fun rs => ((decodeL l).1 : Int) :: rs := by
  have hlt := drop_lt l hne
  obtain ⟨n, hn⟩ : ∃ n, l.length = n + 1 := ⟨l.length - 1, by omega⟩
  unfold runes
  rw [hn]
  simp only [runesF, if_neg hne, if_neg hb]
  rw [runesF_fuel n _ _ (by omega) (Nat.le_refl _)]

def enc (rs : List Int) : List UInt8 := rs.flatMap encodeRune
theorem enc_nil : enc [] = [] := rfl
theorem enc_cons (r : Int) (rs : List Int) : enc (r :: rs) = encodeRune r ++ enc rs := rfl
theorem enc_append (a b : List Int) : enc (a ++ b) = enc a ++ enc b := List.flatMap_append

theorem not_bad {r : Int} (h : validRune r = true) (t : List UInt8) : decodeL (encodeRune r ++ t) ≠ (65533, 1) := by
  rw [dec_enc h t]
  intro he
  obtain ⟨n, rfl, hn⟩ := valid_nat h
  have h1 : n = 65533 := by have := congrArg Prod.fst he; simpa using this
  subst h1
  rw [enc_three (by omega)] at he
  simp at he
theorem runes_put {r : Int} (h : validRune r = true) (t : List UInt8) : runes (encodeRune r ++ t) = (runes t).map fun rs => r :: rs := by
  have hne : encodeRune r ++ t ≠ [] := fun h0 => enc_ne r (List.append_eq_nil_iff.1 h0).1
  rw [runes_step hne (not_bad h t), dec_enc h t]
  obtain ⟨n, rfl, hn⟩ := valid_nat h
  simp
theorem runes_puts : ∀ {rs : List Int} (_ : ∀ r ∈ rs, validRune r = true) (t : List UInt8), runes (enc rs ++ t) = (runes t).map fun q => rs ++ q
  | [], _, t => by simp [enc]
  | r :: rs, h, t => by
    rw [enc_cons, List.append_assoc, runes_put (h r (by simp)), runes_puts (fun x hx => h x (by simp [hx]))]
    simp [Option.map_map, Function.comp_def]
theorem runes_enc {rs : List Int} (h : ∀ r ∈ rs, validRune r = true) : runes (enc rs) = some rs := by
  have := runes_puts h []
  simpa [runes_nil] using this
theorem enc_runes : ∀ (n : Nat) {l : List UInt8} {rs : List Int}, l.length ≤ n → runes l = some rs → enc rs = l ∧ ∀ r ∈ rs, validRune r = true
  | 0, l, rs, hn, h => by
    obtain rfl : l = [] := List.eq_nil_of_length_eq_zero (by omega)
    rw [runes_nil] at h
    obtain rfl := Option.some.inj h
    simp [enc]
  | n + 1, l, rs, hn, h => by
    by_cases hne : l = []
    · subst hne
      rw [runes_nil] at h
      obtain rfl := Option.some.inj h
      simp [enc]
    · by_cases hb : decodeL l = (65533, 1)
      · rw [runes_bad hne hb] at h; cases h
      · rw [runes_step hne hb] at h
        obtain ⟨q, hq, rfl⟩ := Option.map_eq_some_iff.1 h
        have hlt := drop_lt l hne
        obtain ⟨e1, e2⟩ := enc_runes n (by omega) hq
        obtain ⟨d1, _, d3⟩ := enc_dec l hne hb
        refine ⟨by rw [enc_cons, e1, d1], fun r hr => ?_⟩
        rcases List.mem_cons.1 hr with rfl | hr
        · exact d3
        · exact e2 r hr
theorem runes_some {l : List UInt8} {rs : List Int} (h : runes l = some rs) : enc rs = l ∧ ∀ r ∈ rs, validRune r = true := enc_runes _ (Nat.le_refl _) h
theorem enc_inj {a b : List Int} (ha : ∀ r ∈ a, validRune r = true) (hb : ∀ r ∈ b, validRune r = true) (h : enc a = enc b) : a = b := by
  have := runes_enc ha
  rw [h, runes_enc hb] at this
  exact (Option.some.inj this).symm
theorem enc_le (rs : List Int) : rs.length ≤ (enc rs).length ∧ (enc rs).length ≤ 4 * rs.length := by
  induction rs with
  | nil => simp [enc]
  | cons r rs ih =>
    have := enc_len r
    rw [enc_cons, List.length_append, List.length_cons]
    omega
theorem runes_len {l : List UInt8} {rs : List Int} (h : runes l = some rs) : rs.length ≤ l.length := by
  obtain ⟨e, _⟩ := runes_some h
  have := (enc_le rs).1
  rw [e] at this
  exact this

/-! ### names -/
def letter (r : Int) : Bool := decide ((97 ≤ r ∧ r ≤ 122) ∨ (48 ≤ r ∧ r ≤ 57) ∨ r = 45 ∨ (223 ≤ r ∧ r ≤ 246) ∨ (248 ≤ r ∧ r ≤ 255) ∨ (945 ≤ r ∧ r ≤ 969) ∨ (1072 ≤ r ∧ r ≤ 1103))
def great (r : Int) : Bool := decide ((65 ≤ r ∧ r ≤ 90) ∨ (192 ≤ r ∧ r ≤ 214) ∨ (216 ≤ r ∧ r ≤ 222) ∨ (913 ≤ r ∧ r ≤ 929) ∨ (931 ≤ r ∧ r ≤ 937) ∨ (1040 ≤ r ∧ r ≤ 1071))
theorem letter_valid {r : Int} (h : letter r = true) : validRune r = true := by
  have := of_decide_eq_true h
  exact decide_eq_true (by omega)
def nameOf (o : Option (List Int)) : Bool := match o with
  | some rs => decide (1 ≤ rs.length ∧ rs.length ≤ 32) && rs.all letter
  | none => false
def right (l : List UInt8) : Bool := nameOf (runes l)

def rightF : Nat → List UInt8 → Nat → Bool
  | 0, _, many => decide (0 < many)
  | f + 1, l, many => if l = [] then decide (0 < many) else if 32 < many + 1 then false else if letter ((decodeL l).1 : Int) = false then false else rightF f (l.drop (decodeL l).2) (many + 1)
def nameOfN (many : Nat) (o : Option (List Int)) : Bool := match o with
  | some rs => decide (1 ≤ many + rs.length ∧ many + rs.length ≤ 32) && rs.all letter
  | none => false
theorem rightF_eq : ∀ (f : Nat) (l : List UInt8) (many : Nat), l.length ≤ f → many ≤ 32 → rightF f l many = nameOfN many (runes l)
  | 0, l, many, hf, hm => by
    obtain rfl : l = [] := List.eq_nil_of_length_eq_zero (by omega)
    rw [runes_nil]
    simp only [rightF, nameOfN, List.length_nil, List.all_nil, Bool.and_true]
    exact decide_eq_decide.2 (by omega)
  | f + 1, l, many, hf, hm => by
    unfold rightF
    by_cases hne : l = []
    · subst hne
      rw [runes_nil, if_pos rfl]
      simp only [nameOfN, List.length_nil, List.all_nil, Bool.and_true]
      exact decide_eq_decide.2 (by omega)
    · rw [if_neg hne]
      by_cases hb : decodeL l = (65533, 1)
      · rw [runes_bad hne hb, hb]
        simp [nameOfN, letter]
      · rw [runes_step hne hb]
        have hlt := drop_lt l hne
        by_cases h32 : 32 < many + 1
        · rw [if_pos h32]
          cases hq : runes (l.drop (decodeL l).2) with
          | none => rfl
          | some q => simp [nameOfN]; intro _; omega
        · rw [if_neg h32]
          cases hl : letter ((decodeL l).1 : Int) with
          | false =>
            cases hq : runes (l.drop (decodeL l).2) with
            | none => rfl
            | some q => simp [nameOfN, hl]
          | true =>
            rw [if_neg (by simp), rightF_eq f _ (many + 1) (by omega) (by omega)]
            cases hq : runes (l.drop (decodeL l).2) with
            | none => rfl
            | some q =>
              simp only [nameOfN, Option.map_some, List.all_cons, hl, Bool.true_and, List.length_cons]
              congr 1
              apply decide_eq_decide.2
              omega
theorem rightF_right (l : List UInt8) : rightF l.length l 0 = right l := by
  rw [rightF_eq _ _ _ (Nat.le_refl _) (by omega)]
  unfold right nameOf nameOfN
  cases runes l <;> simp

theorem right_runes {l : List UInt8} (h : right l = true) : ∃ rs, runes l = some rs ∧ 1 ≤ rs.length ∧ rs.length ≤ 32 ∧ (∀ r ∈ rs, letter r = true) ∧ enc rs = l := by
  unfold right nameOf at h
  cases hr : runes l with
  | none => rw [hr] at h; cases h
  | some rs =>
    rw [hr] at h
    simp only [Bool.and_eq_true, decide_eq_true_eq, List.all_eq_true] at h
    exact ⟨rs, rfl, h.1.1, h.1.2, h.2, (runes_some hr).1⟩
theorem right_of {rs : List Int} (h1 : 1 ≤ rs.length) (h2 : rs.length ≤ 32) (h : ∀ r ∈ rs, letter r = true) : right (enc rs) = true := by
  unfold right
  rw [runes_enc fun r hr => letter_valid (h r hr)]
  simp only [nameOf, Bool.and_eq_true, decide_eq_true_eq, List.all_eq_true]
  exact ⟨⟨h1, h2⟩, h⟩

theorem decode_drop (s : ByteArray) (pos : Nat) : Utf8.decode s pos = decodeL (s.data.toList.drop pos) := (Lib.decodeL_drop s pos).symm
theorem drop_ne (s : ByteArray) {pos : Nat} (h : pos < s.size) : s.data.toList.drop pos ≠ [] := by
  intro h0
  have := congrArg List.length h0
  rw [List.length_drop, ← Lib.size_eq] at this
  simp at this
  omega
theorem drop_end (s : ByteArray) {pos : Nat} (h : ¬ pos < s.size) : s.data.toList.drop pos = [] := List.drop_eq_nil_of_le (by rw [← Lib.size_eq]; omega)

theorem nameN_step {l : List UInt8} {many : Nat} (hne : l ≠ []) (hl : letter ((decodeL l).1 : Int) = true) : nameOfN many (runes l) = nameOfN (many + 1) (runes (l.drop (decodeL l).2)) := by
  by_cases hb : decodeL l = (65533, 1)
  · rw [hb] at hl; simp [letter] at hl
  · rw [runes_step hne hb]
    cases hq : runes (l.drop (decodeL l).2) with
    | none => rfl
    | some q =>
      simp only [nameOfN, Option.map_some, List.all_cons, hl, Bool.true_and, List.length_cons]
      congr 1
      exact decide_eq_decide.2 (by omega)
theorem nameN_not {l : List UInt8} {many : Nat} (hne : l ≠ []) (hl : letter ((decodeL l).1 : Int) = false) : nameOfN many (runes l) = false := by
  by_cases hb : decodeL l = (65533, 1)
  · rw [runes_bad hne hb]; rfl
  · rw [runes_step hne hb]
    cases hq : runes (l.drop (decodeL l).2) with
    | none => rfl
    | some q => simp [nameOfN, hl]
theorem nameN_many {l : List UInt8} {many : Nat} (hne : l ≠ []) (hm : 32 < many + 1) : nameOfN many (runes l) = false := by
  by_cases hb : decodeL l = (65533, 1)
  · rw [runes_bad hne hb]; rfl
  · rw [runes_step hne hb]
    cases hq : runes (l.drop (decodeL l).2) with
    | none => rfl
    | some q =>
      simp only [nameOfN, Option.map_some, List.length_cons, Bool.and_eq_false_iff]
      exact .inl (decide_eq_false (by omega))
theorem right_N (l : List UInt8) : nameOfN 0 (runes l) = right l := by
  unfold right nameOf nameOfN
  cases runes l <;> simp

/-- A letter's bytes hold no slash. -/
theorem letter_bytes {r : Int} (h : letter r = true) : ∀ b ∈ encodeRune r, b ≠ 47 := by
  have h' := of_decide_eq_true h
  obtain ⟨n, rfl⟩ : ∃ n : Nat, r = n := ⟨r.toNat, by omega⟩
  have key : ∀ {b : UInt8} {k : Nat}, b = k.toUInt8 → k < 256 → k ≠ 47 → b ≠ 47 := by
    intro b k hb hk hne h47
    rw [h47] at hb
    have := congrArg UInt8.toNat hb
    rw [u8_of k hk] at this
    exact hne this.symm
  by_cases h1 : n < 128
  · rw [enc_one h1]
    intro b hb
    have := List.mem_singleton.1 hb
    exact key this (by omega) (by omega)
  · rw [enc_two (by omega) (by omega)]
    intro b hb
    rcases List.mem_cons.1 hb with hb | hb
    · exact key hb (by omega) (by omega)
    · exact key (List.mem_singleton.1 hb) (by omega) (by omega)
theorem right_bytes {l : List UInt8} (h : right l = true) : ∀ b ∈ l, b ≠ 47 := by
  obtain ⟨rs, _, _, _, hl, rfl⟩ := right_runes h
  intro b hb
  obtain ⟨r, hr, hbr⟩ := List.mem_flatMap.1 hb
  exact letter_bytes (hl r hr) b hbr
theorem right_len {l : List UInt8} (h : right l = true) : 1 ≤ l.length ∧ l.length ≤ 128 := by
  obtain ⟨rs, _, h1, h2, _, rfl⟩ := right_runes h
  have := enc_le rs
  omega

/-! ### paths -/
def cutAt : List UInt8 → Option (List UInt8 × List UInt8)
  | [] => none
  | b :: l => if b = 47 then some ([], l) else (cutAt l).map fun p => (b :: p.1, p.2)
theorem cutAt_none {l : List UInt8} (h : ∀ b ∈ l, b ≠ 47) : cutAt l = none := by
  induction l with
  | nil => rfl
  | cons b l ih => simp [cutAt, h b (by simp), ih fun x hx => h x (by simp [hx])]
theorem cutAt_some : ∀ (a b : List UInt8), (∀ x ∈ a, x ≠ 47) → cutAt (a ++ 47 :: b) = some (a, b)
  | [], b, _ => by simp [cutAt]
  | x :: a, b, h => by
    simp [cutAt, h x (by simp), cutAt_some a b fun y hy => h y (by simp [hy])]
theorem cutAt_eq : ∀ {l a b : List UInt8}, cutAt l = some (a, b) → l = a ++ 47 :: b ∧ ∀ x ∈ a, x ≠ 47
  | [], _, _, h => by cases h
  | x :: l, a, b, h => by
    unfold cutAt at h
    split at h
    · rename_i hx
      have h := Option.some.inj h
      obtain ⟨rfl, rfl⟩ := Prod.mk.inj h
      simp [hx]
    · rename_i hx
      obtain ⟨⟨a', b'⟩, hq, he⟩ := Option.map_eq_some_iff.1 h
      obtain ⟨rfl, rfl⟩ := Prod.mk.inj he
      obtain ⟨rfl, h2⟩ := cutAt_eq hq
      refine ⟨rfl, fun y hy => ?_⟩
      rcases List.mem_cons.1 hy with rfl | hy
      · exact hx
      · exact h2 y hy
/-- By the first slash's place. -/
theorem cutAt_take {l : List UInt8} {k : Nat} (hk : l[k]? = some 47) (h : ∀ j, j < k → l[j]? ≠ some 47) : cutAt l = some (l.take k, l.drop (k + 1)) := by
  have hlt : k < l.length := (List.getElem?_eq_some_iff.1 hk).1
  have e : l = l.take k ++ 47 :: l.drop (k + 1) := by
    have h1 := List.take_append_drop k l
    have h2 := List.drop_eq_getElem_cons hlt
    have h3 : l[k] = 47 := by have := List.getElem?_eq_getElem hlt; rw [hk] at this; exact (Option.some.inj this).symm
    rw [h2, h3] at h1
    exact h1.symm
  have h2 : ∀ x ∈ l.take k, x ≠ 47 := by
    intro x hx h47
    obtain ⟨j, hj, hjx⟩ := List.mem_iff_getElem.1 hx
    rw [List.length_take] at hj
    rw [List.getElem_take] at hjx
    exact h j (by omega) (by rw [List.getElem?_eq_getElem (by omega), hjx, h47])
  conv => lhs; rw [e]
  exact cutAt_some _ _ h2
theorem cutAt_miss {l : List UInt8} (h : ∀ j : Nat, l[j]? ≠ some 47) : cutAt l = none :=
  cutAt_none fun b hb h47 => by
    obtain ⟨j, hj⟩ := List.mem_iff_getElem?.1 hb
    exact h j (by rw [hj, h47])
theorem cutAt_index (l : List UInt8) : (indexByte l 47 = -1 ∧ cutAt l = none) ∨ ∃ i : Nat, indexByte l 47 = i ∧ i < l.length ∧ cutAt l = some (l.take i, l.drop (i + 1)) := by
  have hge := indexByte_ge l 47
  by_cases h : indexByte l 47 = -1
  · exact .inl ⟨h, cutAt_miss (indexByte_none h)⟩
  · obtain ⟨i, hi⟩ : ∃ i : Nat, indexByte l 47 = i := ⟨(indexByte l 47).toNat, by omega⟩
    obtain ⟨h1, h2⟩ := indexByte_some hi
    exact .inr ⟨i, hi, (List.getElem?_eq_some_iff.1 h1).1, cutAt_take h1 h2⟩

def split (l : List UInt8) : Option (List UInt8 × List UInt8) := match cutAt l with
  | none => none
  | some (a, b) => if right a = true ∧ right b = true then some (a, b) else none
def path (a b : List UInt8) : Option (List UInt8) := if right a = true ∧ right b = true then some (a ++ 47 :: b) else none
theorem split_some {l a b : List UInt8} : split l = some (a, b) ↔ l = a ++ 47 :: b ∧ right a = true ∧ right b = true := by
  constructor
  · intro h
    unfold split at h
    cases hc : cutAt l with
    | none => rw [hc] at h; cases h
    | some p =>
      obtain ⟨x, y⟩ := p
      rw [hc] at h
      simp only at h
      split at h
      · rename_i hr
        obtain ⟨rfl, rfl⟩ := Prod.mk.inj (Option.some.inj h)
        exact ⟨(cutAt_eq hc).1, hr⟩
      · cases h
  · rintro ⟨rfl, ha, hb⟩
    unfold split
    rw [cutAt_some a b (right_bytes ha)]
    simp [ha, hb]
theorem split_none_of {l : List UInt8} (h : ∀ a b, cutAt l = some (a, b) → ¬ (right a = true ∧ right b = true)) : split l = none := by
  unfold split
  cases hc : cutAt l with
  | none => rfl
  | some p => simp only; rw [if_neg (h p.1 p.2 hc)]

theorem split_cut_no1' {l a b : List UInt8} (h : cutAt l = some (a, b)) (ha : right a = false) : split l = none := by unfold split; rw [h]; simp [ha]
theorem right_slash_mid (a b : List UInt8) : right (a ++ 47 :: b) = false := by
  cases h : right (a ++ 47 :: b) with
  | false => rfl
  | true => exact absurd rfl (right_bytes h 47 (by simp))

/-! ### which stands ahead -/
theorem less_irrefl : ∀ l : List UInt8, Op.bytesLess l l = false
  | [] => rfl
  | a :: l => by simp [Op.bytesLess, less_irrefl l]
theorem less_asymm : ∀ a b : List UInt8, Op.bytesLess a b = true → Op.bytesLess b a = false
  | a, [], h => by cases a <;> cases h
  | [], _ :: _, _ => rfl
  | x :: a, y :: b, h => by
    simp only [Op.bytesLess, Bool.or_eq_true, Bool.and_eq_true, decide_eq_true_eq, beq_iff_eq] at h
    rw [← Bool.not_eq_true]
    simp only [Op.bytesLess, Bool.or_eq_true, Bool.and_eq_true, decide_eq_true_eq, beq_iff_eq]
    rintro (h2 | ⟨rfl, h2⟩)
    · rcases h with h | ⟨rfl, h⟩
      · simp only [UInt8.lt_iff_toNat_lt] at h h2; omega
      · simp only [UInt8.lt_iff_toNat_lt] at h2; omega
    · rcases h with h | ⟨_, h⟩
      · simp only [UInt8.lt_iff_toNat_lt] at h; omega
      · rw [less_asymm a b h] at h2; cases h2
theorem less_total : ∀ a b : List UInt8, Op.bytesLess a b = false → Op.bytesLess b a = false → a = b
  | [], [], _, _ => rfl
  | [], _ :: _, h, _ => by cases h
  | _ :: _, [], _, h => by cases h
  | x :: a, y :: b, h, h2 => by
    simp only [Op.bytesLess, Bool.or_eq_false_iff, Bool.and_eq_false_iff, decide_eq_false_iff_not, beq_eq_false_iff_ne, ne_eq] at h h2
    have hxy : x = y := by
      have h1 := h.1; have h3 := h2.1
      simp only [UInt8.lt_iff_toNat_lt] at h1 h3
      exact UInt8.toNat_inj.1 (by omega)
    subst hxy
    rw [less_total a b (h.2.resolve_left (by simp)) (h2.2.resolve_left (by simp))]
theorem less_trans : ∀ a b c : List UInt8, Op.bytesLess a b = true → Op.bytesLess b c = true → Op.bytesLess a c = true
  | _, b, [], _, h => by cases b <;> cases h
  | a, [], _ :: _, h, _ => by cases a <;> cases h
  | [], _ :: _, _ :: _, _, _ => rfl
  | x :: a, y :: b, z :: c, h, h2 => by
    simp only [Op.bytesLess, Bool.or_eq_true, Bool.and_eq_true, decide_eq_true_eq, beq_iff_eq, UInt8.lt_iff_toNat_lt] at h h2 ⊢
    rcases h with h | ⟨rfl, h⟩
    · rcases h2 with h2 | ⟨rfl, h2⟩
      · exact .inl (by omega)
      · exact .inl h
    · rcases h2 with h2 | ⟨rfl, h2⟩
      · exact .inl h2
      · exact .inr ⟨rfl, less_trans a b c h h2⟩
theorem less_more : ∀ (a : List UInt8) (x : UInt8) (b : List UInt8), Op.bytesLess a (a ++ x :: b) = true
  | [], _, _ => rfl
  | y :: a, x, b => by simp [Op.bytesLess, less_more a x b]
end Go.Proofs.Ytgnfnbmdjbmcfaa.Txt
