/-
  CONTRACTS of the code's Read, Open, Verify (package term). By an AI agent; no person has read it.
-/
import Derived.Test.YtahlilhdiklemaaTAsk
import Derived.Test.YtahlilhdiklemaaTPure
namespace Go.Proofs.Ytahlilhdiklemaa.Term
open Go.RowKit Wire

/-- Of the first 4000 bytes the same term is read, if it has at most so many. -/
theorem size_cut (l : List UInt8) : (size 40 (l.take 4000) = 0 ∧ (size 40 l = 0 ∨ 4000 < size 40 l)) ∨ (size 40 (l.take 4000) ≠ 0 ∧ size 40 l = size 40 (l.take 4000) ∧ size 40 (l.take 4000) ≤ 4000) := by
  have hle := size_le 40 (l.take 4000)
  rw [List.length_take] at hle
  by_cases h0 : size 40 (l.take 4000) = 0
  · refine .inl ⟨h0, ?_⟩
    by_cases h1 : size 40 l = 0
    · exact .inl h1
    · refine .inr ?_
      rw [← Nat.not_le]; intro h4
      have hx := size_ext 40 l ((l.take 4000).drop (size 40 l)) h1
      have e : l.take (size 40 l) ++ (l.take 4000).drop (size 40 l) = l.take 4000 := by
        have e2 : l.take (size 40 l) = (l.take 4000).take (size 40 l) := by rw [List.take_take, Nat.min_eq_left h4]
        rw [e2, List.take_append_drop]
      rw [e] at hx
      omega
  · refine .inr ⟨h0, ?_, by omega⟩
    have hx := size_ext 40 (l.take 4000) (l.drop (size 40 (l.take 4000))) h0
    have e : (l.take 4000).take (size 40 (l.take 4000)) ++ l.drop (size 40 (l.take 4000)) = l := by
      rw [List.take_take, Nat.min_eq_left (by omega), List.take_append_drop]
    rw [e] at hx
    exact hx

theorem sealed_form {l : List UInt8} (h : right l = true) (hx : l.headD 0 = 115) : ∃ P Q : List UInt8, right P = true ∧ right Q = true ∧ l = 115 :: (P ++ Q) := by
  obtain ⟨b, t, m, rfl, ha, _⟩ := right_parts h
  obtain rfl : b = 115 := hx
  obtain ⟨x, y, rfl, _, h1, h2, _⟩ := two_parts h rfl
  exact ⟨x, y, h1, h2, rfl⟩
theorem boxed_form {l : List UInt8} (h : right l = true) (hx : l.headD 0 = 98) : ∃ P Q : List UInt8, right P = true ∧ right Q = true ∧ l = 98 :: (P ++ Q) := by
  obtain ⟨b, t, m, rfl, ha, _⟩ := right_parts h
  obtain rfl : b = 98 := hx
  obtain ⟨x, y, rfl, _, h1, h2, _⟩ := two_parts h rfl
  exact ⟨x, y, h1, h2, rfl⟩
theorem signed_form {l : List UInt8} (h : right l = true) (hx : l.headD 0 = 103) : ∃ P Q : List UInt8, right P = true ∧ right Q = true ∧ l = 103 :: (P ++ Q) := by
  obtain ⟨b, t, m, rfl, ha, _⟩ := right_parts h
  obtain rfl : b = 103 := hx
  obtain ⟨x, y, rfl, _, h1, h2, _⟩ := two_parts h rfl
  exact ⟨x, y, h1, h2, rfl⟩
theorem pub_form {l : List UInt8} (h : right l = true) (hx : l.headD 0 = 117) : ∃ P : List UInt8, right P = true ∧ l = 117 :: P := by
  obtain ⟨b, t, m, rfl, ha, _⟩ := right_parts h
  obtain rfl : b = 117 := hx
  exact ⟨t, (one_part h rfl (by decide)).1, rfl⟩
theorem two_same {k : UInt8} {P Q X Y : List UInt8} (hP : right P = true) (hX : right X = true) (h : k :: (P ++ Q) = k :: (X ++ Y)) : P = X ∧ Q = Y := right_cut hP hX (List.cons.inj h).2
theorem open_wrong {key c : List UInt8} (h : right key = false ∨ right c = false) : open' key c = ([], 1) := by
  unfold open'; rw [if_neg]; rintro ⟨h1, h2⟩
  rcases h with h | h
  · rw [h1] at h; cases h
  · rw [h2] at h; cases h
theorem open_eq {key c : List UInt8} (h : right key = true) (h2 : right c = true) : open' key c = opens 115 key c := by unfold open'; rw [if_pos ⟨h, h2⟩]
theorem verify_wrong {p a s : List UInt8} (h : right p = false ∨ right s = false ∨ right a = false) : verify p a s = 1 := by
  unfold verify; rw [if_neg]; rintro ⟨h1, h2, h3⟩
  rcases h with h | h | h
  · rw [h1] at h; cases h
  · rw [h3] at h; cases h
  · rw [h2] at h; cases h
theorem verify_eq {p a s : List UInt8} (h : right p = true) (h2 : right a = true) (h3 : right s = true) : verify p a s = if p.headD 0 = 117 ∧ s = 103 :: (p.tail ++ a) then 0 else 7 := by unfold verify; rw [if_pos ⟨h, h2, h3⟩]
end Go.Proofs.Ytahlilhdiklemaa.Term
