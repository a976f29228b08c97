/-
  THE DOCUMENT's STORE AS A LAW HOLDS IT: what it tells. By an AI agent; no person has read it.
-/
import Derived.Test.YtamkepfhlfeiiaaKBox
namespace Go.Proofs.Ytamkepfhlfeiiaa.Sto
open Go Go.RowKit Wire

set_option linter.unusedVariables false
theorem sts_any {D : DPred} {w : World} {a : Addr} {X : Nat → Prop} {s : Stt} (h : D w a X s) (hf : Fine s) : ∃ w0, Sts D w0 w a X s :=
  ⟨{ w with heap := #[] }, h, (fun b _ => Nat.zero_le _), hf, ⟨rfl, rfl, rfl, Nat.zero_le _, fun k hk => absurd hk (Nat.not_lt_zero _)⟩⟩
section
variable {w0 w : World} {a : Addr} {X : Nat → Prop} {s : Stt}
theorem sr_get (h : Sts DR w0 w a X s) {K : ByteArray} {k : Tm} (hk : K.data.toList = k) : Calls Try.prog 33 #[.pointer (some a), .string K] w fun e w' => Sr (getS s k) e ∧ Below w.heap.size w w' := by
  have := getr_c a X s K w h.d h.f
  rw [hk] at this
  exact this
theorem sr_vers (h : Sts DR w0 w a X s) {K : ByteArray} {k : Tm} (hk : K.data.toList = k) : Calls Try.prog 32 #[.pointer (some a), .string K] w fun e w' => Told w0 w' X (s.ver k) e ∧ Below w.heap.size w w' := by
  have := versr_c a X s K w h.d h.f
  rw [hk] at this
  exact this.mono fun e w' hh => ⟨told_P h (dr_old h.d) hh.1, hh.2⟩
theorem sr_list (h : Sts DR w0 w a X s) {K : ByteArray} {k : Tm} (hk : K.data.toList = k) (h1 : K.size ≤ 140737488351232) : Calls Try.prog 34 #[.pointer (some a), .string K] w fun e w' => (∃ l, Lists s k l ∧ Told w0 w' X l e) ∧ Below w.heap.size w w' := by
  have := listr_c a X s K w h.d h.f h1
  rw [hk] at this
  exact this.mono fun e w' hh => by
    obtain ⟨⟨l, h2, h3⟩, h4⟩ := hh
    exact ⟨⟨l, h2, told_P h (dr_old h.d) h3⟩, h4⟩
end
theorem pick_in {s : Stt} {k : Tm} {ys : List ByteArray} {b m n : Nat} {Y Z : ByteArray} (hq : bl ys = s.ver k) (hn : ys.length = n) (hm : n = m + 1 + b) : pickG s k ⟨115, (b : Int), Y, Z⟩ = ((ys.getD m ByteArray.empty).data.toList, 0) := by
  have hl : (s.ver k).length = ys.length := by rw [← hq, bl_len]
  unfold pickG
  simp only [if_true]
  rw [if_neg (by rw [hl]; omega), ← hq, bl_get (by rw [bl_len]; omega), bl_len, show ys.length - 1 - (b : Int).toNat = m by omega]
theorem pick_else {s : Stt} {k : Tm} {kd b : Int} {Y Z : ByteArray} (h1 : kd ≠ 115) (h2 : kd ≠ 100) (h3 : kd ≠ 120) (h4 : kd ≠ 98) : pickG s k ⟨kd, b, Y, Z⟩ = getS s k := by
  unfold pickG
  rw [if_neg h1, if_neg h2, if_neg h3, if_neg h4]
theorem lie_is {s : Stt} {k : Tm} {c : Ch} {T1 T2 : ByteArray} (h1 : T1.data.toList = (pickG s k c).1) (h2 : T2.data.toList = (getS s k).1) : pickLie s k c = !(decide (T1.data.toList = T2.data.toList) && decide ((pickG s k c).2 = (getS s k).2)) := by
  unfold pickLie
  rw [h1, h2]
  generalize pickG s k c = p
  generalize getS s k = q
  obtain ⟨p1, p2⟩ := p
  obtain ⟨q1, q2⟩ := q
  by_cases ha : p1 = q1 <;> by_cases hb : p2 = q2 <;> simp [ha, hb]
theorem pl_same {s : Stt} {k : Tm} {c : Ch} {l m : List Tm} (h1 : PL s k c l) (h2 : PL s k c m) : l = m := by
  unfold PL at h1 h2
  by_cases h : c.kind = 100
  · rw [if_pos h] at h1 h2; rw [h1, h2]
  · rw [if_neg h] at h1 h2; exact lists_same (fun _ => rfl) h1 h2
theorem own_low {w : World} {base b' : Nat} {v : Value} {n : Nat} {xs : List Value} (h : w.ownsRow base 9 1 v n xs) (hb : b' ≤ base) : w.ownsRow b' 9 1 v n xs := by
  refine ⟨h.1, ?_⟩
  rcases h.2 with h1 | ⟨g, cap, cur, hv, h2, rest⟩
  · exact .inl h1
  · exact .inr ⟨g, cap, cur, hv, Nat.le_trans hb h2, rest⟩
end Go.Proofs.Ytamkepfhlfeiiaa.Sto
