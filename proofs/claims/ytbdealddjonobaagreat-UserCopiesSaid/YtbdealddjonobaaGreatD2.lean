/-
  One text of several, in their order: DSpec, DSec, DCode. By an AI agent; no person has read it.
-/
import Derived.Test.YtbdealddjonobaaGreatD1
import Derived.Test.YtbdealddjonobaaGreatT2
import Derived.Deep.QuietTactic
import Derived.BigQuiet
/-
  WHAT THE CODE OF package draw IS HELD TO, as propositions that the laws' walks take: Mix, Secret, and draws of a seed behind a pointer, whatever they are made of. By an AI agent; no person has read it.
-/
namespace Go.Proofs.YtbdealddjonobaaGreat.Draw
open Go.RowKit Wire Term Clo

/-- In this world, behind this address: draws of a seed, so many drawn, that lie in blocks X. -/
abbrev DPred := World → Addr → (Nat → Prop) → Nat → Nat → Prop
/-- Of what was there blocks X alone may have turned. -/
structure Fr (X : Nat → Prop) (w w' : World) : Prop where
  os : w'.os = w.os
  tape : w'.tape = w.tape
  output : w'.output = w.output
  size : w.heap.size ≤ w'.heap.size
  block : ∀ b, b < w.heap.size → ¬ X b → w'.heap[b]? = w.heap[b]?
theorem Fr.below {X : Nat → Prop} {w0 w w' : World} (h : Fr X w w') (hb : Below w0.heap.size w0 w) (hX : ∀ b, X b → w0.heap.size ≤ b) : Below w0.heap.size w0 w' :=
  ⟨h.os.trans hb.os, h.tape.trans hb.tape, h.output.trans hb.output, Nat.le_trans hb.size h.size, fun b hlt => (h.block b (Nat.lt_of_lt_of_le hlt hb.size) fun hx => by have := hX b hx; omega).trans (hb.block b hlt)⟩
def MixOK : Prop := ∀ (n : Nat) (w : World), n < 18446744073709551616 → Calls Tryz.prog 87 #[.int .u64 (n : Int)] w fun e w' => e = .returned (.int .u64 ((mix n : Nat) : Int)) ∧ Below w.heap.size w w'
def SecretOK : Prop := ∀ (use who : ByteArray) (n : Nat) (w : World), use.size ≤ 140737488300000 → who.size ≤ 140737488300000 → use.size + who.size ≤ 140737488300000 → n < 18446744073709551616 →
  Calls Tryz.prog 45 #[.string use, .string who, .int .u64 (n : Int)] w fun e w' => Sr (secret use.data.toList who.data.toList n) e ∧ Below w.heap.size w w'
structure DrawsOK (D : DPred) : Prop where
  old : ∀ {w : World} {a : Addr} {X : Nat → Prop} {s k : Nat}, D w a X s k → ∀ b, X b → b < w.heap.size
  keep : ∀ {w w' : World} {a : Addr} {X : Nat → Prop} {s k : Nat}, D w a X s k → w.heap.size ≤ w'.heap.size → (∀ b, X b → w'.heap[b]? = w.heap[b]?) → D w' a X s k
  new : ∀ (s : Nat) (w : World), s < 18446744073709551616 → Calls Tryz.prog 44 #[.int .u64 (s : Int)] w fun e w' => ∃ (a : Addr) (X : Nat → Prop), e = .returned (.pointer (some a)) ∧ D w' a X s 0 ∧ (∀ b, X b → w.heap.size ≤ b) ∧ Below w.heap.size w w'
  next : ∀ (a : Addr) (X : Nat → Prop) (s k : Nat) (w : World), D w a X s k → k ≤ 1000000 → Calls Tryz.prog 46 #[.pointer (some a)] w fun e w' => e = .returned (.int .u64 ((draw s k : Nat) : Int)) ∧ (∃ X', D w' a X' s (k + 1) ∧ ∀ b, X' b → X b ∨ w.heap.size ≤ b) ∧ Fr X w w'
  many : ∀ (a : Addr) (X : Nat → Prop) (s k : Nat) (w : World), D w a X s k → k ≤ 1000000 → Calls Tryz.prog 53 #[.pointer (some a)] w fun e w' => e = .returned (.int .i64 (k : Int)) ∧ Below w.heap.size w w'
/-- Draws beside which nothing old turned. -/
theorem DrawsOK.below {D : DPred} (d : DrawsOK D) {w w' : World} {a : Addr} {X : Nat → Prop} {s k : Nat} (h : D w a X s k) (hb : Below w.heap.size w w') : D w' a X s k := d.keep h hb.size fun b hx => hb.block b (d.old h b hx)
/-- Draws beside which others drew. -/
theorem DrawsOK.beside {D : DPred} (d : DrawsOK D) {w w' : World} {a : Addr} {X Y : Nat → Prop} {s k : Nat} (h : D w a Y s k) (hf : Fr X w w') (hd : ∀ b, Y b → ¬ X b) : D w' a Y s k := d.keep h hf.size fun b hy => hf.block b (d.old h b hy) (hd b hy)
/-- What is apart stays apart. -/
theorem DrawsOK.apart {D : DPred} (d : DrawsOK D) {w : World} {a : Addr} {X X' Y : Nat → Prop} {s k : Nat} (h : D w a Y s k) (hd : ∀ b, Y b → ¬ X b) (hX : ∀ b, X' b → X b ∨ w.heap.size ≤ b) : ∀ b, Y b → ¬ X' b := fun b hy hx => by
  rcases hX b hx with h1 | h1
  · exact hd b hy h1
  · have := d.old h b hy; omega
/-! ### several draws side by side -/
/-- Draws, each behind its address, of its seed, so many drawn; each in blocks of its own, none below base. -/
def Fam (D : DPred) (base : Nat) (w : World) (l : List (Addr × Nat × Nat)) : Prop :=
  ∃ Xs : Nat → Nat → Prop, (∀ i t, l[i]? = some t → D w t.1 (Xs i) t.2.1 t.2.2 ∧ ∀ b, Xs i b → base ≤ b) ∧ ∀ i j, i < l.length → j < l.length → i ≠ j → ∀ b, Xs i b → ¬ Xs j b
theorem fam_nil (D : DPred) (base : Nat) (w : World) : Fam D base w [] := ⟨fun _ _ => False, fun i t h => by simp at h, fun i j hi => absurd hi (Nat.not_lt_zero _)⟩
section
variable {D : DPred} {base : Nat} {w : World} {l : List (Addr × Nat × Nat)}
theorem fam_below (d : DrawsOK D) (h : Fam D base w l) {w' : World} (hb : Below w.heap.size w w') : Fam D base w' l := by
  obtain ⟨Xs, h1, h2⟩ := h
  exact ⟨Xs, fun i t ht => ⟨d.below (h1 i t ht).1 hb, (h1 i t ht).2⟩, h2⟩
theorem fam_next (d : DrawsOK D) (h : Fam D base w l) (hbase : base ≤ w.heap.size) (i : Nat) {x : Addr} {s k : Nat} (ht : l[i]? = some (x, s, k)) (hk : k ≤ 1000000) :
    Calls Tryz.prog 46 #[.pointer (some x)] w fun e w' => e = .returned (.int .u64 ((draw s k : Nat) : Int)) ∧ Fam D base w' (l.set i (x, s, k + 1)) ∧ Below base w w' := by
  obtain ⟨Xs, h1, h2⟩ := h
  obtain ⟨hd, hx⟩ := h1 i _ ht
  have hi : i < l.length := (List.getElem?_eq_some_iff.1 ht).1
  refine (d.next x (Xs i) s k w hd hk).mono ?_
  rintro e w' ⟨rfl, ⟨X', hd', hX'⟩, hf⟩
  refine ⟨rfl, ⟨fun j => if j = i then X' else Xs j, fun j t hj => ?_, fun j m hj hm hne b hb => ?_⟩, ⟨hf.os, hf.tape, hf.output, hf.size, fun b hb => hf.block b (by omega) fun hxb => by have := hx b hxb; omega⟩⟩
  · by_cases e : j = i
    · subst e
      rw [List.getElem?_set_self hi] at hj
      obtain rfl := Option.some.inj hj
      simp only [if_pos]
      refine ⟨hd', fun b hb => ?_⟩
      rcases hX' b hb with h3 | h3
      · exact hx b h3
      · omega
    · rw [List.getElem?_set_ne (fun e2 => e e2.symm)] at hj
      simp only [if_neg e]
      obtain ⟨h3, h4⟩ := h1 j t hj
      have hjl : j < l.length := (List.getElem?_eq_some_iff.1 hj).1
      exact ⟨d.beside h3 hf (h2 j i hjl hi e), h4⟩
  · rw [List.length_set] at hj hm
    show ¬ (if m = i then X' else Xs m) b
    replace hb : (if j = i then X' else Xs j) b := hb
    by_cases e : j = i
    · subst e
      rw [if_pos rfl] at hb
      rw [if_neg (fun e2 : m = j => hne e2.symm)]
      intro hb2
      obtain ⟨t, hmt⟩ : ∃ t, l[m]? = some t := ⟨_, List.getElem?_eq_getElem hm⟩
      rcases hX' b hb with h3 | h3
      · exact h2 j m hj hm hne b h3 hb2
      · have := d.old (h1 m t hmt).1 b hb2; omega
    · rw [if_neg e] at hb
      by_cases e2 : m = i
      · rw [if_pos e2]
        intro hb2
        obtain ⟨t, hjt⟩ : ∃ t, l[j]? = some t := ⟨_, List.getElem?_eq_getElem hj⟩
        rcases hX' b hb2 with h3 | h3
        · exact h2 j i hj hi e b hb h3
        · have := d.old (h1 j t hjt).1 b hb; omega
      · rw [if_neg e2]; exact h2 j m hj hm hne b hb
theorem fam_many (d : DrawsOK D) (h : Fam D base w l) (i : Nat) {x : Addr} {s k : Nat} (ht : l[i]? = some (x, s, k)) (hk : k ≤ 1000000) :
    Calls Tryz.prog 53 #[.pointer (some x)] w fun e w' => e = .returned (.int .i64 (k : Int)) ∧ Fam D base w' l ∧ Below w.heap.size w w' := by
  have h' := h
  obtain ⟨Xs, h1, _⟩ := h
  refine (d.many x (Xs i) s k w (h1 i _ ht).1 hk).mono ?_
  rintro e w' ⟨rfl, hb⟩
  exact ⟨rfl, fam_below d h' hb, hb⟩
theorem fam_new (d : DrawsOK D) (h : Fam D base w l) (hbase : base ≤ w.heap.size) (s : Nat) (hs : s < 18446744073709551616) :
    Calls Tryz.prog 44 #[.int .u64 (s : Int)] w fun e w' => ∃ x : Addr, e = .returned (.pointer (some x)) ∧ Fam D base w' (l ++ [(x, s, 0)]) ∧ Below w.heap.size w w' := by
  obtain ⟨Xs, h1, h2⟩ := h
  refine (d.new s w hs).mono ?_
  rintro e w' ⟨x, X, rfl, hd, hX, hb⟩
  refine ⟨x, rfl, ⟨fun j => if j = l.length then X else Xs j, fun j t hj => ?_, fun j m hj hm hne b hbj => ?_⟩, hb⟩
  · by_cases e : j = l.length
    · subst e
      rw [List.getElem?_append_right (Nat.le_refl _), Nat.sub_self] at hj
      obtain rfl := Option.some.inj hj
      simp only [if_pos]
      exact ⟨hd, fun b hb => Nat.le_trans hbase (hX b hb)⟩
    · simp only [if_neg e]
      have hjl : j < l.length := by
        have := (List.getElem?_eq_some_iff.1 hj).1
        rw [List.length_append, List.length_singleton] at this
        omega
      rw [List.getElem?_append_left hjl] at hj
      exact ⟨d.below (h1 j t hj).1 hb, (h1 j t hj).2⟩
  · rw [List.length_append, List.length_singleton] at hj hm
    show ¬ (if m = l.length then X else Xs m) b
    replace hbj : (if j = l.length then X else Xs j) b := hbj
    by_cases e : j = l.length
    · rw [if_pos e] at hbj
      rw [if_neg (by omega)]
      intro hb2
      obtain ⟨t, hmt⟩ : ∃ t, l[m]? = some t := ⟨_, List.getElem?_eq_getElem (by omega)⟩
      have h3 := d.old (h1 m t hmt).1 b hb2
      have := hX b hbj
      omega
    · rw [if_neg e] at hbj
      by_cases e2 : m = l.length
      · rw [if_pos e2]
        intro hb2
        obtain ⟨t, hjt⟩ : ∃ t, l[j]? = some t := ⟨_, List.getElem?_eq_getElem (by omega)⟩
        have h3 := d.old (h1 j t hjt).1 b hbj
        have := hX b hb2
        omega
      · rw [if_neg e2]; exact h2 j m (by omega) (by omega) hne b hbj
end
end Go.Proofs.YtbdealddjonobaaGreat.Draw

/-
  What l5's DSec says stands in DSecR here. By an AI agent; no person has read it.
-/
namespace Go.Proofs.YtbdealddjonobaaGreat.Draw
end Go.Proofs.YtbdealddjonobaaGreat.Draw

/-
  THE CODE's Mix, Secret, New, Next, Many (package draw: draws that come from a closure in a field) are as DSpec asks. By an AI agent; no person has read it.
-/
namespace Go.Proofs.YtbdealddjonobaaGreat.Draw
open Go.RowKit Wire Term Clo

/-- The code's draws in memory: a struct of a closure over the seed's own box, and how many were drawn. -/
def D0 (w : World) (a : Addr) (X : Nat → Prop) (s k : Nat) : Prop :=
  ∃ b c, a = ⟨b, 0, none⟩ ∧ X = (fun x => x = b ∨ x = c) ∧ b ≠ c ∧ w.heap[b]? = some (.cells #[.func (.func 86) #[] #[.pointer (some ⟨c, 0, none⟩)], .int .i64 (k : Int)] 133) ∧ w.heap[c]? = some (.cells #[.int .u64 (s : Int)] 22)
theorem D0.lt {w : World} {a : Addr} {X : Nat → Prop} {s k : Nat} (h : D0 w a X s k) : ∀ b, X b → b < w.heap.size := by
  obtain ⟨b, c, rfl, rfl, _, hb, hc⟩ := h
  rintro x (rfl | rfl)
  · exact (Array.getElem?_eq_some_iff.1 hb).1
  · exact (Array.getElem?_eq_some_iff.1 hc).1
theorem D0.keep {w w' : World} {a : Addr} {X : Nat → Prop} {s k : Nat} (h : D0 w a X s k) (hx : ∀ b, X b → w'.heap[b]? = w.heap[b]?) : D0 w' a X s k := by
  obtain ⟨b, c, rfl, rfl, hne, hb, hc⟩ := h
  exact ⟨b, c, rfl, rfl, hne, (hx b (.inl rfl)).trans hb, (hx c (.inr rfl)).trans hc⟩
theorem two_setCell {w : World} {b : Nat} {v0 v1 u : Value} {t : TypeId} (h : w.heap[b]? = some (.cells #[v0, v1] t)) : (w.setCell ⟨b, 1, none⟩ u).heap[b]? = some (.cells #[v0, u] t) := by
  have hlt := (Array.getElem?_eq_some_iff.1 h).1
  have h' : w.heap[b] = .cells #[v0, v1] t := by simpa [Array.getElem?_eq_getElem hlt] using h
  show (w.heap.modify b _)[b]? = _
  rw [Array.getElem?_eq_getElem (by simpa using hlt), Array.getElem_modify_self, h']
  rfl
theorem fr_setCell {w : World} {X : Nat → Prop} {b j : Nat} {u : Value} (n : Nat) (hX : X b) : Fr X w ((w.drewN n).setCell ⟨b, j, none⟩ u) :=
  have hb := Below.setCell (Below.drewN' (Below.refl 0 w) n) (p := ⟨b, j, none⟩) (Nat.zero_le _) u
  ⟨hb.os, hb.tape, hb.output, hb.size, fun c _ hc => (Below.heap_setCell (w.drewN n) ⟨b, j, none⟩ u c (fun e => hc (by rw [e]; exact hX)))⟩
set_option maxHeartbeats 2000000 in
set_option maxRecDepth 1000000 in
theorem mix_any (n : Nat) (w : World) : Calls Tryz.prog 87 #[.int .u64 (n : Int)] w fun e w' => e = .returned (.int .u64 ((mix n : Nat) : Int)) ∧ w' = w := by
  obtain ⟨a, ha⟩ : ∃ a, mixA n = a := ⟨_, rfl⟩
  obtain ⟨b, hb⟩ : ∃ b, mixB a = b := ⟨_, rfl⟩
  obtain ⟨c, hc⟩ : ∃ c, mixC b = c := ⟨_, rfl⟩
  obtain ⟨d, hd⟩ : ∃ d, mixD c = d := ⟨_, rfl⟩
  have h1 : IntKind.u64.wrap ((n : Int) + 11400714819323198485) = (a : Int) := by rw [← ha]; exact mixA_eq
  have h2 : IntKind.u64.wrap (bits .xor .u64 (a : Int) ((a : Int) / 1073741824) * 13787848793156543929) = (b : Int) := by rw [← hb]; exact mixB_eq (by rw [← ha]; exact mixA_lt n)
  have h3 : IntKind.u64.wrap (bits .xor .u64 (b : Int) ((b : Int) / 134217728) * 10723151780598845931) = (c : Int) := by rw [← hc]; exact mixC_eq (by rw [← hb]; exact mixB_lt a)
  have h4 : bits .xor .u64 (c : Int) ((c : Int) / 2147483648) = (d : Int) := by rw [← hd]; exact mixD_eq (by rw [← hc]; exact mixC_lt b)
  have HM : Hid (mix n = d) := by show mixD (mixC (mixB (mixA n))) = d; rw [ha, hb, hc, hd]
  clear ha hb hc hd
  go_enter Tryz.func87, Tryz.ntmps87
  go_wp2
  go_ret
  exact ⟨by rw [HM.out]; rfl, rfl⟩
theorem mixok : MixOK := fun n w _ => (mix_any n w).mono fun _ _ h => ⟨h.1, by rw [h.2]; exact Below.refl _ _⟩
set_option maxHeartbeats 2000000 in
set_option maxRecDepth 1000000 in
theorem clo_any (s k c : Nat) (w : World) (h : w.cell? ⟨c, 0, none⟩ = some (.int .u64 (s : Int))) : Calls Tryz.prog 86 #[.int .u64 (k : Int), .pointer (some ⟨c, 0, none⟩)] w fun e w' => e = .returned (.int .u64 ((draw s k : Nat) : Int)) ∧ w' = w := by
  obtain ⟨m, hm⟩ : ∃ m, IntKind.u64.wrap ((k : Int) * 11400714819323198485) = m := ⟨_, rfl⟩
  obtain ⟨x, hx⟩ : ∃ x, (s + k * 11400714819323198485) % 18446744073709551616 = x := ⟨_, rfl⟩
  have h1 : IntKind.u64.wrap ((s : Int) + m) = (x : Int) := by rw [← hm, ← hx]; exact draw_eq
  have HX : Hid (draw s k = mix x) := by show mix _ = _; rw [hx]
  clear hx
  go_enter Tryz.func86, Tryz.ntmps86
  go_wp2_with (go_at_call 87; refine (mix_any x _).mono ?_; rintro e w1 ⟨rfl, rfl⟩)
  go_ret
  exact ⟨by rw [HX.out]; rfl, rfl⟩
set_option maxHeartbeats 2000000 in
set_option maxRecDepth 1000000 in
theorem new_ok (s : Nat) (w : World) : Calls Tryz.prog 44 #[.int .u64 (s : Int)] w fun e w' => ∃ (a : Addr) (X : Nat → Prop), e = .returned (.pointer (some a)) ∧ D0 w' a X s 0 ∧ (∀ b, X b → w.heap.size ≤ b) ∧ Below w.heap.size w w' := by
  have hmf : ∀ (fn : Fn) (first cap : Array Value) (w : World), (Instr.makeFunc fn first cap).run Tryz.prog w = .ok (.func fn first cap) w := fun _ _ _ _ => rfl
  go_enter Tryz.func44, Tryz.ntmps44
  go_wp2
  go_ret
  refine ⟨⟨w.heap.size + 1, 0, none⟩, fun x => x = w.heap.size + 1 ∨ x = w.heap.size, rfl, ⟨_, _, rfl, rfl, by omega, ?_, ?_⟩, ?_, ((Below.refl _ _).alloc (Nat.le_refl _) _).alloc (by simp) _⟩
  · show ((w.heap.push _).push _)[w.heap.size + 1]? = _
    rw [show w.heap.size + 1 = (w.heap.push (.cells #[.int .u64 (s : Int)] 22)).size by simp, Array.getElem?_push_size]
    rfl
  · show ((w.heap.push _).push _)[w.heap.size]? = _
    rw [Array.getElem?_push_lt (by simp), ← Array.getElem?_eq_getElem, Array.getElem?_push_size]
  · rintro b (rfl | rfl)
    · exact Nat.le_succ _
    · exact Nat.le_refl _
set_option maxHeartbeats 2000000 in
set_option maxRecDepth 1000000 in
theorem many_ok (a : Addr) (X : Nat → Prop) (s k : Nat) (w : World) (h : D0 w a X s k) : Calls Tryz.prog 53 #[.pointer (some a)] w fun e w' => e = .returned (.int .i64 (k : Int)) ∧ Below w.heap.size w w' := by
  obtain ⟨b, c, rfl, rfl, hne, hb, hc⟩ := h
  have c1 : w.cell? ⟨b, 1, none⟩ = some (.int .i64 (k : Int)) := by unfold World.cell?; simp only [hb]; rfl
  clear hb hc
  go_enter Tryz.func53, Tryz.ntmps53
  go_wp2
  go_ret
  exact ⟨rfl, Below.refl _ _⟩
set_option maxHeartbeats 2000000 in
set_option maxRecDepth 1000000 in
theorem next_ok (a : Addr) (X : Nat → Prop) (s k : Nat) (w : World) (h : D0 w a X s k) (hk : k ≤ 1000000) : Calls Tryz.prog 46 #[.pointer (some a)] w fun e w' => e = .returned (.int .u64 ((draw s k : Nat) : Int)) ∧ (∃ X', D0 w' a X' s (k + 1) ∧ ∀ b, X' b → X b ∨ w.heap.size ≤ b) ∧ Fr X w w' := by
  obtain ⟨b, c, rfl, rfl, hne, hb, hc⟩ := h
  have c0 : w.cell? ⟨b, 0, none⟩ = some (.func (.func 86) #[] #[.pointer (some ⟨c, 0, none⟩)]) := by unfold World.cell?; simp only [hb]; rfl
  have c1 : w.cell? ⟨b, 1, none⟩ = some (.int .i64 (k : Int)) := by unfold World.cell?; simp only [hb]; rfl
  have hcs : w.cell? ⟨c, 0, none⟩ = some (.int .u64 (s : Int)) := by unfold World.cell?; simp only [hc]; rfl
  have fz : w.frozen? ⟨b, 1, none⟩ = false := by simp [World.frozen?, hb]
  have h0 : IntKind.u64.wrap (k : Int) = (k : Int) := by rw [IntKind.wrap_u64]; omega
  have h1 : IntKind.i64.wrap ((k : Int) + 1) = ((k : Int) + 1) := by rw [IntKind.wrap_i64]; omega
  have HCS := Lib.hid hcs
  have HB := Lib.hid hb
  have HC := Lib.hid hc
  obtain ⟨dr, hdr⟩ : ∃ dr, draw s k = dr := ⟨_, rfl⟩
  have HD := Lib.hid hdr
  clear hb hc hcs hdr
  go_enter Tryz.func46, Tryz.ntmps46
  go_wp2
  go_quiet (first | (go_at_call 86; exact Calls.quiet_of_same (clo_any s k c _ (by simpa using HCS.out))))
  go_wp2
  go_ret
  refine ⟨rfl, ⟨_, ⟨b, c, rfl, rfl, hne, ?_, ?_⟩, fun x hx => .inl hx⟩, fr_setCell nq (.inl rfl)⟩
  · have := two_setCell (w := w.drewN nq) (u := .int .i64 ((k : Int) + 1)) HB.out
    rw [this]
    rfl
  · rw [Below.heap_setCell (w.drewN nq) ⟨b, 1, none⟩ _ c (fun e => hne e.symm)]
    exact HC.out
set_option maxHeartbeats 4000000 in
set_option maxRecDepth 1000000 in
theorem secret_any (use who : ByteArray) (n : Nat) (w : World) (hu : use.size ≤ 140737488300000) (hw : who.size ≤ 140737488300000) (huw : use.size + who.size ≤ 140737488300000) (hn : n < 18446744073709551616) :
    Calls Tryz.prog 45 #[.string use, .string who, .int .u64 (n : Int)] w fun e w' => Sr (secret use.data.toList who.data.toList n) e ∧ Below w.heap.size w w' := by
  by_cases hl : (use.size : Int) + (who.size : Int) ≤ 4000
  case neg =>
    have hno : ¬ right (txt use.data.toList who.data.toList) = true := fun h => by
      have h1 := (right_len h).2
      have h2 : (txt use.data.toList who.data.toList).length = 1 + (putText (use.data.toList ++ 58 :: who.data.toList)).length := by unfold txt; rw [List.length_cons]; omega
      rw [putText_len, List.length_append, List.length_cons, ← Lib.size_eq, ← Lib.size_eq] at h2
      omega
    rw [secret_no hn (fun h => hno h.1)]
    clear hno hn
    go_enter Tryz.func45, Tryz.ntmps45
    go_wp2
    go_ret2
    exact ⟨sr_nil _, Below.refl _ _⟩
  obtain ⟨UC, huc⟩ : ∃ UC, use ++ (ByteArray.mk #[58]) = UC := ⟨_, rfl⟩
  obtain ⟨X, hX⟩ : ∃ X, UC ++ who = X := ⟨_, rfl⟩
  obtain ⟨hXd, hucz, hXz⟩ := colon_text use who huc hX
  have hucz1 : UC.size ≤ 140737488300001 := by omega
  have hXz1 : X.size ≤ 140737488355000 := by omega
  have HC := Lib.hid (t_OfText X w hXz1)
  rw [hXd, ofText_eq] at HC
  clear hXd hucz hXz hXz1
  by_cases h1 : right (txt use.data.toList who.data.toList) = true
  · have hz1 := (right_len h1).2
    have HC2 : Hid (∀ (T A : ByteArray) (w : World), T.data.toList = txt use.data.toList who.data.toList → A.data.toList = ofAtom n → Calls Tryz.prog 88 #[.string T, .string A] w fun e w' => Sr (made (prs use.data.toList who.data.toList n)) e ∧ Below w.heap.size w w') := by
      intro T A w hT hA
      have := t_OfPair T A w (by rw [Lib.size_eq, hT]; omega) (by rw [Lib.size_eq, hA]; have := (right_len (atom_ok hn)).2; omega)
      rw [hT, hA, two_eq hn h1] at this
      exact this
    rw [made_yes h1] at HC
    by_cases h2 : right (prs use.data.toList who.data.toList n) = true
    · have HS : secret use.data.toList who.data.toList n = made (sech use.data.toList who.data.toList n) := by
        by_cases h3 : right (sech use.data.toList who.data.toList n) = true
        · rw [secret_ok hn h1 h2 h3, made_yes h3]
        · rw [secret_no hn (fun h => h3 h.2.2), made_no h3]
      have HC3 : Hid (∀ (T : ByteArray) (w : World), T.data.toList = prs use.data.toList who.data.toList n → Calls Tryz.prog 90 #[.string T] w fun e w' => Sr (made (sech use.data.toList who.data.toList n)) e ∧ Below w.heap.size w w') := by
        intro T w hT
        have := t_OfHash T w (by rw [Lib.size_eq, hT]; have := (right_len h2).2; omega)
        rw [hT, one_eq h2] at this
        exact this
      rw [made_yes h2] at HC2
      rw [HS]
      obtain ⟨x, f, hx⟩ : ∃ x f, made (sech use.data.toList who.data.toList n) = (x, f) := ⟨_, _, rfl⟩
      rw [hx] at HC3 ⊢
      have HN := Lib.hid hn
      clear HS h1 h2 hz1 hx hn
      go_enter Tryz.func45, Tryz.ntmps45
      go_wp2_with fail
      refine HC.out.mono ?_
      rintro e w1 ⟨⟨T, hT, rfl⟩, hb1⟩
      have HB1 := Lib.hid hb1
      have HT := Lib.hid hT
      clear hb1 hT
      dsimp only
      go_wp2_with fail
      refine (t_OfAtom n _ HN.out).mono ?_
      rintro e w2 ⟨⟨A, hA, rfl⟩, hb2⟩
      have HB2 := Lib.hid (HB1.out.trans (hb2.mono HB1.out.size))
      have HA := Lib.hid hA
      clear hb2 hA
      dsimp only
      go_wp2_with fail
      refine (HC2.out T A _ HT.out HA.out).mono ?_
      rintro e w3 ⟨⟨P, hP, rfl⟩, hb3⟩
      have HB3 := Lib.hid (HB2.out.trans (hb3.mono HB2.out.size))
      have HP := Lib.hid hP
      clear hb3 hP
      dsimp only
      go_wp2_with fail
      refine (HC3.out P _ HP.out).mono ?_
      rintro e w4 ⟨⟨H, hH, rfl⟩, hb4⟩
      have HB4 := Lib.hid (HB3.out.trans (hb4.mono HB3.out.size))
      have HH := Lib.hid hH
      clear hb4 hH
      dsimp only
      go_wp2
      go_ret2
      exact ⟨⟨H, HH.out, rfl⟩, HB4.out⟩
    · rw [secret_no hn (fun h => h2 h.2.1)]
      rw [made_no h2] at HC2
      have HN := Lib.hid hn
      clear h1 h2 hz1 hn
      go_enter Tryz.func45, Tryz.ntmps45
      go_wp2_with fail
      refine HC.out.mono ?_
      rintro e w1 ⟨⟨T, hT, rfl⟩, hb1⟩
      have HB1 := Lib.hid hb1
      have HT := Lib.hid hT
      clear hb1 hT
      dsimp only
      go_wp2_with fail
      refine (t_OfAtom n _ HN.out).mono ?_
      rintro e w2 ⟨⟨A, hA, rfl⟩, hb2⟩
      have HB2 := Lib.hid (HB1.out.trans (hb2.mono HB1.out.size))
      have HA := Lib.hid hA
      clear hb2 hA
      dsimp only
      go_wp2_with fail
      refine (HC2.out T A _ HT.out HA.out).mono ?_
      rintro e w3 ⟨⟨P, hP, rfl⟩, hb3⟩
      have HB3 := Lib.hid (HB2.out.trans (hb3.mono HB2.out.size))
      clear hb3 hP
      dsimp only
      go_wp2
      go_ret2
      exact ⟨sr_nil _, HB3.out⟩
  · rw [secret_no hn (fun h => h1 h.1)]
    rw [made_no h1] at HC
    clear h1 hn
    go_enter Tryz.func45, Tryz.ntmps45
    go_wp2_with fail
    refine HC.out.mono ?_
    rintro e w1 ⟨⟨T, hT, rfl⟩, hb1⟩
    have HB1 := Lib.hid hb1
    clear hb1 hT
    dsimp only
    go_wp2
    go_ret2
    exact ⟨sr_nil _, HB1.out⟩
theorem drawsok : DrawsOK D0 where
  old h := h.lt
  keep h _ hx := h.keep hx
  new s w _ := new_ok s w
  next a X s k w h hk := next_ok a X s k w h hk
  many a X s k w h _ := many_ok a X s k w h
theorem secretok : SecretOK := fun use who n w h1 h2 h3 hn => secret_any use who n w h1 h2 h3 hn
end Go.Proofs.YtbdealddjonobaaGreat.Draw
