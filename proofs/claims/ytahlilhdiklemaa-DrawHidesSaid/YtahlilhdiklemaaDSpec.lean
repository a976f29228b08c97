/-
  WHAT THE CODE OF package draw IS HELD TO, as propositions that the laws' walks take: Mix, Secret, and draws of a seed behind a pointer, whatever they are made of. By an AI agent; no person has read it.
-/
import Derived.Test.YtahlilhdiklemaaDRef
namespace Go.Proofs.Ytahlilhdiklemaa.Draw
open Go.RowKit Wire Term Clo

/-- In this world, behind this address: draws of a seed, so many drawn, that lie in blocks X. -/
abbrev DPred := World → Addr → (Nat → Prop) → Nat → Nat → Prop
/-- Of what was there blocks X alone may have turned. -/
structure Fr (X : Nat → Prop) (w w' : World) : Prop where
  os : w'.os = w.os
  tape : w'.tape = w.tape
  output : w'.output = w.output
  size : w.heap.size ≤ w'.heap.size
  block : ∀ b, b < w.heap.size → ¬ X b → w'.heap[b]? = w.heap[b]?
theorem Fr.below {X : Nat → Prop} {w0 w w' : World} (h : Fr X w w') (hb : Below w0.heap.size w0 w) (hX : ∀ b, X b → w0.heap.size ≤ b) : Below w0.heap.size w0 w' :=
  ⟨h.os.trans hb.os, h.tape.trans hb.tape, h.output.trans hb.output, Nat.le_trans hb.size h.size, fun b hlt => (h.block b (Nat.lt_of_lt_of_le hlt hb.size) fun hx => by have := hX b hx; omega).trans (hb.block b hlt)⟩
def MixOK : Prop := ∀ (n : Nat) (w : World), n < 18446744073709551616 → Calls Try.prog 16 #[.int .u64 (n : Int)] w fun e w' => e = .returned (.int .u64 ((mix n : Nat) : Int)) ∧ Below w.heap.size w w'
def SecretOK : Prop := ∀ (use who : ByteArray) (n : Nat) (w : World), use.size ≤ 140737488300000 → who.size ≤ 140737488300000 → use.size + who.size ≤ 140737488300000 → n < 18446744073709551616 →
  Calls Try.prog 14 #[.string use, .string who, .int .u64 (n : Int)] w fun e w' => Sr (secret use.data.toList who.data.toList n) e ∧ Below w.heap.size w w'
structure DrawsOK (D : DPred) : Prop where
  old : ∀ {w : World} {a : Addr} {X : Nat → Prop} {s k : Nat}, D w a X s k → ∀ b, X b → b < w.heap.size
  keep : ∀ {w w' : World} {a : Addr} {X : Nat → Prop} {s k : Nat}, D w a X s k → w.heap.size ≤ w'.heap.size → (∀ b, X b → w'.heap[b]? = w.heap[b]?) → D w' a X s k
  new : ∀ (s : Nat) (w : World), s < 18446744073709551616 → Calls Try.prog 10 #[.int .u64 (s : Int)] w fun e w' => ∃ (a : Addr) (X : Nat → Prop), e = .returned (.pointer (some a)) ∧ D w' a X s 0 ∧ (∀ b, X b → w.heap.size ≤ b) ∧ Below w.heap.size w w'
  next : ∀ (a : Addr) (X : Nat → Prop) (s k : Nat) (w : World), D w a X s k → k ≤ 1000000 → Calls Try.prog 12 #[.pointer (some a)] w fun e w' => e = .returned (.int .u64 ((draw s k : Nat) : Int)) ∧ (∃ X', D w' a X' s (k + 1) ∧ ∀ b, X' b → X b ∨ w.heap.size ≤ b) ∧ Fr X w w'
  many : ∀ (a : Addr) (X : Nat → Prop) (s k : Nat) (w : World), D w a X s k → k ≤ 1000000 → Calls Try.prog 11 #[.pointer (some a)] w fun e w' => e = .returned (.int .i64 (k : Int)) ∧ Below w.heap.size w w'
/-- Draws beside which nothing old turned. -/
theorem DrawsOK.below {D : DPred} (d : DrawsOK D) {w w' : World} {a : Addr} {X : Nat → Prop} {s k : Nat} (h : D w a X s k) (hb : Below w.heap.size w w') : D w' a X s k := d.keep h hb.size fun b hx => hb.block b (d.old h b hx)
/-- Draws beside which others drew. -/
theorem DrawsOK.beside {D : DPred} (d : DrawsOK D) {w w' : World} {a : Addr} {X Y : Nat → Prop} {s k : Nat} (h : D w a Y s k) (hf : Fr X w w') (hd : ∀ b, Y b → ¬ X b) : D w' a Y s k := d.keep h hf.size fun b hy => hf.block b (d.old h b hy) (hd b hy)
/-- What is apart stays apart. -/
theorem DrawsOK.apart {D : DPred} (d : DrawsOK D) {w : World} {a : Addr} {X X' Y : Nat → Prop} {s k : Nat} (h : D w a Y s k) (hd : ∀ b, Y b → ¬ X b) (hX : ∀ b, X' b → X b ∨ w.heap.size ≤ b) : ∀ b, Y b → ¬ X' b := fun b hy hx => by
  rcases hX b hx with h1 | h1
  · exact hd b hy h1
  · have := d.old h b hy; omega
set_option maxHeartbeats 2000000 in
set_option maxRecDepth 1000000 in
theorem shown5_any {D : DPred} (MO : MixOK) (d : DrawsOK D) (w : World) : Calls Try.prog 9 #[] w fun e w' => e = .returned (.bool true) ∧ Below w.heap.size w w' := by
  have HM := Lib.hid (MO 0)
  rw [mix_zero] at HM
  have HD := Lib.hid d
  go_enter Try.func9, Try.ntmps9
  go_wp2_with fail
  refine (HM.out w (by decide)).mono ?_
  rintro e w1 ⟨rfl, hb1⟩
  have HB1 := Lib.hid hb1
  clear hb1
  dsimp only
  go_wp2_with fail
  refine (HD.out.new 0 _ (by decide)).mono ?_
  rintro e w2 ⟨a, X, rfl, _, _, hb2⟩
  have HB2 := Lib.hid (HB1.out.trans (hb2.mono HB1.out.size))
  clear hb2
  dsimp only
  go_wp2
  go_ret
  exact ⟨rfl, HB2.out⟩
/-! ### several draws side by side -/
/-- Draws, each behind its address, of its seed, so many drawn; each in blocks of its own, none below base. -/
def Fam (D : DPred) (base : Nat) (w : World) (l : List (Addr × Nat × Nat)) : Prop :=
  ∃ Xs : Nat → Nat → Prop, (∀ i t, l[i]? = some t → D w t.1 (Xs i) t.2.1 t.2.2 ∧ ∀ b, Xs i b → base ≤ b) ∧ ∀ i j, i < l.length → j < l.length → i ≠ j → ∀ b, Xs i b → ¬ Xs j b
theorem fam_nil (D : DPred) (base : Nat) (w : World) : Fam D base w [] := ⟨fun _ _ => False, fun i t h => by simp at h, fun i j hi => absurd hi (Nat.not_lt_zero _)⟩
section
variable {D : DPred} {base : Nat} {w : World} {l : List (Addr × Nat × Nat)}
theorem fam_below (d : DrawsOK D) (h : Fam D base w l) {w' : World} (hb : Below w.heap.size w w') : Fam D base w' l := by
  obtain ⟨Xs, h1, h2⟩ := h
  exact ⟨Xs, fun i t ht => ⟨d.below (h1 i t ht).1 hb, (h1 i t ht).2⟩, h2⟩
theorem fam_next (d : DrawsOK D) (h : Fam D base w l) (hbase : base ≤ w.heap.size) (i : Nat) {x : Addr} {s k : Nat} (ht : l[i]? = some (x, s, k)) (hk : k ≤ 1000000) :
    Calls Try.prog 12 #[.pointer (some x)] w fun e w' => e = .returned (.int .u64 ((draw s k : Nat) : Int)) ∧ Fam D base w' (l.set i (x, s, k + 1)) ∧ Below base w w' := by
  obtain ⟨Xs, h1, h2⟩ := h
  obtain ⟨hd, hx⟩ := h1 i _ ht
  have hi : i < l.length := (List.getElem?_eq_some_iff.1 ht).1
  refine (d.next x (Xs i) s k w hd hk).mono ?_
  rintro e w' ⟨rfl, ⟨X', hd', hX'⟩, hf⟩
  refine ⟨rfl, ⟨fun j => if j = i then X' else Xs j, fun j t hj => ?_, fun j m hj hm hne b hb => ?_⟩, ⟨hf.os, hf.tape, hf.output, hf.size, fun b hb => hf.block b (by omega) fun hxb => by have := hx b hxb; omega⟩⟩
  · by_cases e : j = i
    · subst e
      rw [List.getElem?_set_self hi] at hj
      obtain rfl := Option.some.inj hj
      simp only [if_pos]
      refine ⟨hd', fun b hb => ?_⟩
      rcases hX' b hb with h3 | h3
      · exact hx b h3
      · omega
    · rw [List.getElem?_set_ne (fun e2 => e e2.symm)] at hj
      simp only [if_neg e]
      obtain ⟨h3, h4⟩ := h1 j t hj
      have hjl : j < l.length := (List.getElem?_eq_some_iff.1 hj).1
      exact ⟨d.beside h3 hf (h2 j i hjl hi e), h4⟩
  · rw [List.length_set] at hj hm
    show ¬ (if m = i then X' else Xs m) b
    replace hb : (if j = i then X' else Xs j) b := hb
    by_cases e : j = i
    · subst e
      rw [if_pos rfl] at hb
      rw [if_neg (fun e2 : m = j => hne e2.symm)]
      intro hb2
      obtain ⟨t, hmt⟩ : ∃ t, l[m]? = some t := ⟨_, List.getElem?_eq_getElem hm⟩
      rcases hX' b hb with h3 | h3
      · exact h2 j m hj hm hne b h3 hb2
      · have := d.old (h1 m t hmt).1 b hb2; omega
    · rw [if_neg e] at hb
      by_cases e2 : m = i
      · rw [if_pos e2]
        intro hb2
        obtain ⟨t, hjt⟩ : ∃ t, l[j]? = some t := ⟨_, List.getElem?_eq_getElem hj⟩
        rcases hX' b hb2 with h3 | h3
        · exact h2 j i hj hi e b hb h3
        · have := d.old (h1 j t hjt).1 b hb; omega
      · rw [if_neg e2]; exact h2 j m hj hm hne b hb
theorem fam_many (d : DrawsOK D) (h : Fam D base w l) (i : Nat) {x : Addr} {s k : Nat} (ht : l[i]? = some (x, s, k)) (hk : k ≤ 1000000) :
    Calls Try.prog 11 #[.pointer (some x)] w fun e w' => e = .returned (.int .i64 (k : Int)) ∧ Fam D base w' l ∧ Below w.heap.size w w' := by
  have h' := h
  obtain ⟨Xs, h1, _⟩ := h
  refine (d.many x (Xs i) s k w (h1 i _ ht).1 hk).mono ?_
  rintro e w' ⟨rfl, hb⟩
  exact ⟨rfl, fam_below d h' hb, hb⟩
theorem fam_new (d : DrawsOK D) (h : Fam D base w l) (hbase : base ≤ w.heap.size) (s : Nat) (hs : s < 18446744073709551616) :
    Calls Try.prog 10 #[.int .u64 (s : Int)] w fun e w' => ∃ x : Addr, e = .returned (.pointer (some x)) ∧ Fam D base w' (l ++ [(x, s, 0)]) ∧ Below w.heap.size w w' := by
  obtain ⟨Xs, h1, h2⟩ := h
  refine (d.new s w hs).mono ?_
  rintro e w' ⟨x, X, rfl, hd, hX, hb⟩
  refine ⟨x, rfl, ⟨fun j => if j = l.length then X else Xs j, fun j t hj => ?_, fun j m hj hm hne b hbj => ?_⟩, hb⟩
  · by_cases e : j = l.length
    · subst e
      rw [List.getElem?_append_right (Nat.le_refl _), Nat.sub_self] at hj
      obtain rfl := Option.some.inj hj
      simp only [if_pos]
      exact ⟨hd, fun b hb => Nat.le_trans hbase (hX b hb)⟩
    · simp only [if_neg e]
      have hjl : j < l.length := by
        have := (List.getElem?_eq_some_iff.1 hj).1
        rw [List.length_append, List.length_singleton] at this
        omega
      rw [List.getElem?_append_left hjl] at hj
      exact ⟨d.below (h1 j t hj).1 hb, (h1 j t hj).2⟩
  · rw [List.length_append, List.length_singleton] at hj hm
    show ¬ (if m = l.length then X else Xs m) b
    replace hbj : (if j = l.length then X else Xs j) b := hbj
    by_cases e : j = l.length
    · rw [if_pos e] at hbj
      rw [if_neg (by omega)]
      intro hb2
      obtain ⟨t, hmt⟩ : ∃ t, l[m]? = some t := ⟨_, List.getElem?_eq_getElem (by omega)⟩
      have h3 := d.old (h1 m t hmt).1 b hb2
      have := hX b hbj
      omega
    · rw [if_neg e] at hbj
      by_cases e2 : m = l.length
      · rw [if_pos e2]
        intro hb2
        obtain ⟨t, hjt⟩ : ∃ t, l[j]? = some t := ⟨_, List.getElem?_eq_getElem (by omega)⟩
        have h3 := d.old (h1 j t hjt).1 b hbj
        have := hX b hb2
        omega
      · rw [if_neg e2]; exact h2 j m (by omega) (by omega) hne b hbj
end
end Go.Proofs.Ytahlilhdiklemaa.Draw
