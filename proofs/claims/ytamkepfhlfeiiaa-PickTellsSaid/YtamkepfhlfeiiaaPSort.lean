/-
  ROWS PUT IN ORDER by swaps of neighbours, pure. By an AI agent; no person has read it.
-/
import Derived.Test.YtamkepfhlfeiiaaPLess
namespace Go.Proofs.Ytamkepfhlfeiiaa.Sto
open Go Go.RowKit Wire

theorem bless_trans : ∀ {a b c : List UInt8}, Op.bytesLess a b = true → Op.bytesLess b c = true → Op.bytesLess a c = true
  | _, [], _, h, _ => by rw [show Op.bytesLess _ [] = false by unfold Op.bytesLess; rfl] at h; cases h
  | _, _ :: _, [], _, h => by rw [show Op.bytesLess _ [] = false by unfold Op.bytesLess; rfl] at h; cases h
  | [], _ :: _, _ :: _, _, _ => rfl
  | x :: a, y :: b, z :: c, h1, h2 => by
    unfold Op.bytesLess at h1 h2 ⊢
    simp only [Bool.or_eq_true, decide_eq_true_eq, Bool.and_eq_true, beq_iff_eq] at h1 h2 ⊢
    rcases h1 with h1 | ⟨rfl, h1⟩
    · rcases h2 with h2 | ⟨rfl, h2⟩
      · exact .inl (UInt8.lt_trans h1 h2)
      · exact .inl h1
    · rcases h2 with h2 | ⟨rfl, h2⟩
      · exact .inl h2
      · exact .inr ⟨rfl, bless_trans h1 h2⟩
theorem bless_tri : ∀ a b : List UInt8, Op.bytesLess a b = true ∨ a = b ∨ Op.bytesLess b a = true
  | [], [] => .inr (.inl rfl)
  | [], _ :: _ => .inl rfl
  | _ :: _, [] => .inr (.inr rfl)
  | x :: a, y :: b => by
    unfold Op.bytesLess
    simp only [Bool.or_eq_true, decide_eq_true_eq, Bool.and_eq_true, beq_iff_eq, List.cons.injEq]
    by_cases h : x = y
    · subst h
      rcases bless_tri a b with h | h | h
      · exact .inl (.inr ⟨rfl, h⟩)
      · exact .inr (.inl ⟨rfl, h⟩)
      · exact .inr (.inr (.inr ⟨rfl, h⟩))
    · have h' : x.toNat ≠ y.toNat := fun e => h (UInt8.toNat_inj.1 e)
      rcases Nat.lt_or_gt_of_ne h' with h2 | h2
      · exact .inl (.inl (UInt8.lt_iff_toNat_lt.2 h2))
      · exact .inr (.inr (.inl (UInt8.lt_iff_toNat_lt.2 h2)))
/-- Is the text at place b less than the one at place a? -/
def lsAt (l : List Tm) (b a : Nat) : Bool := Op.bytesLess (l.getD b []) (l.getD a [])
/-- Up to place i all stands in order, but for what stands at place k. -/
def Hole (l : List Tm) (i k : Nat) : Prop := ∀ a b, a < b → b ≤ i → b ≠ k → lsAt l b a = false
def swapAt (l : List Tm) (k : Nat) : List Tm := (l.set k (l.getD (k - 1) [])).set (k - 1) (l.getD k [])
theorem swap_len (l : List Tm) (k : Nat) : (swapAt l k).length = l.length := by simp [swapAt]
theorem swap_get (l : List Tm) {k : Nat} (h0 : 0 < k) (hk : k < l.length) (j : Nat) : (swapAt l k).getD j [] = if j = k then l.getD (k - 1) [] else if j = k - 1 then l.getD k [] else l.getD j [] := by
  unfold swapAt
  simp only [List.getD_eq_getElem?_getD, List.getElem?_set, List.length_set]
  by_cases h1 : j = k
  · subst h1
    rw [if_pos rfl, if_neg (by omega), if_pos rfl, if_pos hk]; rfl
  · rw [if_neg h1]
    by_cases h2 : j = k - 1
    · subst h2
      rw [if_pos rfl, if_pos rfl, if_pos (by omega)]; rfl
    · rw [if_neg h2, if_neg (fun e => h2 e.symm), if_neg (fun e => h1 e.symm)]
theorem hole_start {l : List Tm} {i : Nat} (h : ∀ a b, a < b → b < i → lsAt l b a = false) : Hole l i i := fun a b h1 h2 h3 => h a b h1 (by omega)
theorem hole_swap {l : List Tm} {i k : Nat} (h : Hole l i k) (h0 : 0 < k) (hi : k ≤ i) (hl : i < l.length) (hs : lsAt l k (k - 1) = true) : Hole (swapAt l k) i (k - 1) := fun a b h1 h2 h3 => by
  unfold lsAt at hs ⊢
  have G := swap_get l h0 (by omega : k < l.length)
  rw [G b, G a]
  have H := fun a b h1 h2 h3 => h a b h1 h2 h3
  unfold lsAt at H
  by_cases hb : b = k
  · subst hb
    rw [if_pos rfl, if_neg (by omega)]
    by_cases ha : a = b - 1
    · rw [if_pos ha]
      cases e : Op.bytesLess (l.getD (b - 1) []) (l.getD b []) with
      | false => rfl
      | true => exact (less_asymm e hs).elim
    · rw [if_neg ha]; exact H a (b - 1) (by omega) (by omega) (by omega)
  · rw [if_neg hb, if_neg h3]
    by_cases ha : a = k
    · rw [if_pos ha]; exact H (k - 1) b (by omega) h2 hb
    · rw [if_neg ha]
      by_cases ha2 : a = k - 1
      · rw [if_pos ha2]; exact H k b (by omega) h2 hb
      · rw [if_neg ha2]; exact H a b h1 h2 hb
theorem hole_zero {l : List Tm} {i : Nat} (h : Hole l i 0) : ∀ a b, a < b → b < i + 1 → lsAt l b a = false := fun a b h1 h2 => h a b h1 (by omega) (by omega)
theorem hole_end {l : List Tm} {i k : Nat} (h : Hole l i k) (h0 : 0 < k) (hi : k ≤ i) (hs : lsAt l k (k - 1) = false) : ∀ a b, a < b → b < i + 1 → lsAt l b a = false := fun a b h1 h2 => by
  by_cases hb : b = k
  · subst hb
    by_cases ha : a = b - 1
    · rw [ha]; exact hs
    · have h3 := h a (b - 1) (by omega) (by omega) (by omega)
      unfold lsAt at hs h3 ⊢
      cases e : Op.bytesLess (l.getD b []) (l.getD a []) with
      | false => rfl
      | true =>
        rcases bless_tri (l.getD (b - 1) []) (l.getD b []) with h4 | h4 | h4
        · rw [bless_trans h4 e] at h3; cases h3
        · rw [h4, e] at h3; cases h3
        · rw [h4] at hs; cases hs
  · exact h a b h1 (by omega) hb
theorem swap_perm (l : List Tm) {k : Nat} (h0 : 0 < k) (hk : k < l.length) : (swapAt l k).Perm l := by
  have h1 : k - 1 < l.length := by omega
  unfold swapAt
  rw [List.getD_eq_getElem?_getD, List.getD_eq_getElem?_getD, List.getElem?_eq_getElem hk, List.getElem?_eq_getElem h1]
  exact List.set_set_perm hk h1
/-- In order, and each once: rising. -/
theorem rising_of {l : List Tm} (hn : l.Nodup) (h : ∀ a b, a < b → b < l.length → lsAt l b a = false) : Rising l := by
  unfold Rising
  rw [List.pairwise_iff_getElem]
  intro i j hi hj hij
  have h1 := h i j hij hj
  unfold lsAt at h1
  rw [List.getD_eq_getElem?_getD, List.getD_eq_getElem?_getD, List.getElem?_eq_getElem hi, List.getElem?_eq_getElem hj] at h1
  simp only [Option.getD_some] at h1
  rcases bless_tri l[i] l[j] with h2 | h2 | h2
  · exact h2
  · exact absurd h2 (List.pairwise_iff_getElem.1 hn i j hi hj hij)
  · rw [h2] at h1; cases h1
end Go.Proofs.Ytamkepfhlfeiiaa.Sto
