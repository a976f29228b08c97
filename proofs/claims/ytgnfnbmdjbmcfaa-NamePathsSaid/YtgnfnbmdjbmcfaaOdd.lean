/-
  PLAIN LEAN, OF NO PROGRAM: a name with something odd in it is none. By an AI agent; no person has read it.
-/
import Derived.Test.YtgnfnbmdjbmcfaaFolds
namespace Go.Proofs.Ytgnfnbmdjbmcfaa.Txt
open Go.Lib

def od (j : Nat) : List UInt8 := [[65], [32], [47], [95], [128], [195], [195, 151], [207, 130, 204, 129]].getD j []

theorem right_mid {a o b : List Int} (ha : ∀ r ∈ a, letter r = true) (ho : ∀ r ∈ o, validRune r = true) (hb : ∀ r ∈ b, letter r = true) (hx : o.all letter = false) : right (enc a ++ enc o ++ enc b) = false := by
  rw [← enc_append, ← enc_append]
  unfold right
  rw [runes_enc fun r hr => by
    rcases List.mem_append.1 hr with h | h
    · rcases List.mem_append.1 h with h | h
      · exact letter_valid (ha r h)
      · exact ho r h
    · exact letter_valid (hb r h)]
  have : (a ++ o ++ b).all letter = false := by rw [List.all_append, List.all_append, hx]; simp
  simp only [nameOf, this, Bool.and_false]
theorem right_broken {a : List Int} {t : List UInt8} (ha : ∀ r ∈ a, letter r = true) (ht : t ≠ []) (hb : decodeL t = (65533, 1)) : right (enc a ++ t) = false := by
  unfold right
  rw [runes_puts fun r hr => letter_valid (ha r hr), runes_bad ht hb]
  rfl
/-- A letter's first byte goes on with nothing. -/
theorem letter_first {r : Int} (h : letter r = true) (t : List UInt8) : ((encodeRune r ++ t).getD 0 0).toNat / 64 ≠ 2 := by
  have h' := of_decide_eq_true h
  obtain ⟨n, rfl⟩ : ∃ n : Nat, r = n := ⟨r.toNat, by omega⟩
  by_cases h1 : n < 128
  · rw [enc_one h1]
    simp only [List.cons_append, List.nil_append, List.getD_cons_zero, u8_of n (by omega)]
    omega
  · rw [enc_two (by omega) (by omega)]
    simp only [List.cons_append, List.nil_append, List.getD_cons_zero, u8_of (192 + n / 64) (by omega)]
    omega
theorem names_first {b : List Int} (hb : ∀ r ∈ b, letter r = true) : enc b = [] ∨ ((enc b).getD 0 0).toNat / 64 ≠ 2 := by
  cases b with
  | nil => exact .inl rfl
  | cons r b => exact .inr (letter_first (hb r (by simp)) _)
theorem right_odd {a b : List Int} (ha : ∀ r ∈ a, letter r = true) (hb : ∀ r ∈ b, letter r = true) {j : Nat} (hj : j < 8) : right (enc a ++ od j ++ enc b) = false := by
  have cont : decodeL (128 :: enc b) = (65533, 1) := by
    rw [decodeL_N]; exact decodeN_cont _ _ _ _ _ (by simp)
  have lead : decodeL (195 :: enc b) = (65533, 1) := by
    rw [decodeL_N]
    refine decodeN_alone _ _ _ _ _ (by simp) ?_
    rcases names_first hb with h | h
    · rw [h]; exact .inl (by simp)
    · exact .inr (by simpa using h)
  match j, hj with
  | 0, _ => exact right_mid (o := [65]) ha (by decide) hb (by decide)
  | 1, _ => exact right_mid (o := [32]) ha (by decide) hb (by decide)
  | 2, _ => exact right_mid (o := [47]) ha (by decide) hb (by decide)
  | 3, _ => exact right_mid (o := [95]) ha (by decide) hb (by decide)
  | 4, _ =>
    rw [List.append_assoc]
    exact right_broken (t := 128 :: enc b) ha (by simp) cont
  | 5, _ =>
    rw [List.append_assoc]
    exact right_broken (t := 195 :: enc b) ha (by simp) lead
  | 6, _ => exact right_mid (o := [215]) ha (by decide) hb (by decide)
  | 7, _ => exact right_mid (o := [962, 769]) ha (by decide) hb (by decide)
theorem enc_bytes {a : List Int} (ha : ∀ r ∈ a, letter r = true) : ∀ x ∈ enc a, x ≠ 47 := fun x hx => by
  obtain ⟨r, hr, hxr⟩ := List.mem_flatMap.1 hx
  exact letter_bytes (ha r hr) x hxr
theorem od_bytes {j : Nat} (hj : j < 8) (h2 : j ≠ 2) : ∀ x ∈ od j, x ≠ 47 := by
  match j, hj with
  | 0, _ | 1, _ | 3, _ | 4, _ | 5, _ | 6, _ | 7, _ => decide
  | 2, _ => exact absurd rfl h2
theorem split_odd {a b : List Int} (ha : ∀ r ∈ a, letter r = true) (hb : ∀ r ∈ b, letter r = true) {j : Nat} (hj : j < 8) (q : List UInt8) : split (enc a ++ od j ++ enc b ++ 47 :: q) = none := by
  by_cases h2 : j = 2
  · subst h2
    refine split_none_of fun x y hc => ?_
    rw [show enc a ++ od 2 ++ enc b ++ 47 :: q = enc a ++ 47 :: (enc b ++ 47 :: q) by simp [od], cutAt_some _ _ (enc_bytes ha)] at hc
    obtain ⟨rfl, rfl⟩ := Prod.mk.inj (Option.some.inj hc)
    rw [right_slash_mid]; simp
  · have hno : ∀ x ∈ enc a ++ od j ++ enc b, x ≠ 47 := by
      intro x hx
      rcases List.mem_append.1 hx with h | h
      · rcases List.mem_append.1 h with h | h
        · exact enc_bytes ha x h
        · exact od_bytes hj h2 x h
      · exact enc_bytes hb x h
    exact split_cut_no1' (cutAt_some _ _ hno) (right_odd ha hb hj)
theorem od_len {j : Nat} (hj : j < 8) : (od j).length ≤ 4 := by
  match j, hj with
  | 0, _ | 1, _ | 2, _ | 3, _ | 4, _ | 5, _ | 6, _ | 7, _ => simp [od]
theorem right_more {a : List Int} (ha : ∀ r ∈ a, letter r = true) (h : 32 ≤ a.length) : right (enc a ++ [97]) = false := by
  have e : enc a ++ [97] = enc (a ++ [97]) := by rw [enc_append]; rfl
  rw [e]
  unfold right
  rw [runes_enc fun r hr => by
    rcases List.mem_append.1 hr with h | h
    · exact letter_valid (ha r h)
    · rw [List.mem_singleton.1 h]; decide]
  simp only [nameOf, List.length_append, List.length_singleton, Bool.and_eq_false_iff]
  exact .inl (decide_eq_false (by omega))
end Go.Proofs.Ytgnfnbmdjbmcfaa.Txt
