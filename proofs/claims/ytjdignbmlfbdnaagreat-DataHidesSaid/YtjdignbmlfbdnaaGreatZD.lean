/-
  One text of several, in their order: CLaw. By an AI agent; no person has read it.
-/
import Derived.Test.YtjdignbmlfbdnaaGreatZB
import Derived.Laws.AppendOwnNone
/-
  PLAIN FACTS on small terms; rows of strings that a call lays; Derives and Apart at such rows. By an AI agent; no person has read it.
-/
namespace Go.Proofs.YtjdignbmlfbdnaaGreat.Clo
open Go.RowKit Wire Term

/-! ### small terms are right -/
def Ok (d : Nat) (l : List UInt8) : Prop := l ≠ [] ∧ size d l = l.length
theorem ok_size {d : Nat} {l : List UInt8} (h : Ok d l) (q : List UInt8) : size d (l ++ q) = l.length := by
  have hne : size d l ≠ 0 := by rw [h.2]; exact fun h0 => h.1 (List.eq_nil_of_length_eq_zero h0)
  have := size_ext d l q hne
  rw [h.2, List.take_length] at this
  exact this
theorem ok_right {d : Nat} {l : List UInt8} (h : Ok d l) (hd : d ≤ 40) (hl : l.length ≤ 4000) : right l = true := by
  refine right_iff.2 ⟨h.1, hl, ?_⟩
  have hne : size d l ≠ 0 := by rw [h.2]; exact fun h0 => h.1 (List.eq_nil_of_length_eq_zero h0)
  rw [size_mono hd hne, h.2]
theorem ok_atom (d : Nat) {n : Nat} (hn : n < 18446744073709551616) : Ok (d + 1) (ofAtom n) := by
  refine ⟨by simp [ofAtom], ?_⟩
  show up (body (size d) 97 (put n)) = _
  have h2 : body (size d) 97 (put n) = some (put n).length := by
    have h3 := take_put hn []
    rw [List.append_nil] at h3
    show leaf 97 (put n) = _
    unfold leaf
    rw [if_pos rfl, h3]
    simp
  rw [h2]
  simp only [up, ofAtom, List.length_cons]; omega
theorem ok_un {d : Nat} {k : UInt8} {l : List UInt8} (hk : k = 104 ∨ k = 117) (h : Ok d l) : Ok (d + 1) (k :: l) := by
  refine ⟨by simp, ?_⟩
  rw [size_cons]
  have h0 : l.length ≠ 0 := fun h0 => h.1 (List.eq_nil_of_length_eq_zero h0)
  have h2 : body (size d) k l = some l.length := by
    have h3 : sizes (size d) 1 l = some l.length := by unfold sizes; rw [h.2, if_neg h0]; rfl
    rcases hk with rfl | rfl
    · show (if (104 : UInt8) = 98 ∧ l.head? ≠ some 117 then none else sizes (size d) 1 l) = _
      rw [h3]; exact if_neg (fun h => absurd h.1 (by decide))
    · show (if (117 : UInt8) = 98 ∧ l.head? ≠ some 117 then none else sizes (size d) 1 l) = _
      rw [h3]; exact if_neg (fun h => absurd h.1 (by decide))
  rw [h2]
  simp only [up, List.length_cons]; omega
theorem ok_two {d : Nat} {a b : List UInt8} (ha : Ok d a) (hb : Ok d b) : sizes (size d) 2 (a ++ b) = some (a ++ b).length := by
  have h0 : a.length ≠ 0 := fun h0 => ha.1 (List.eq_nil_of_length_eq_zero h0)
  have h1 : b.length ≠ 0 := fun h0 => hb.1 (List.eq_nil_of_length_eq_zero h0)
  unfold sizes
  rw [ok_size ha, if_neg h0, List.drop_left]
  unfold sizes
  rw [hb.2, if_neg h1]
  simp [sizes]
theorem ok_bi {d : Nat} {k : UInt8} {a b : List UInt8} (hk : k = 112 ∨ k = 115 ∨ k = 103) (ha : Ok d a) (hb : Ok d b) : Ok (d + 1) (k :: (a ++ b)) := by
  refine ⟨by simp, ?_⟩
  rw [size_cons]
  have h2 : body (size d) k (a ++ b) = some (a ++ b).length := by
    rcases hk with rfl | rfl | rfl
    · show (if (112 : UInt8) = 98 ∧ (a ++ b).head? ≠ some 117 then none else sizes (size d) 2 (a ++ b)) = _
      rw [ok_two ha hb]; exact if_neg (fun h => absurd h.1 (by decide))
    · show (if (115 : UInt8) = 98 ∧ (a ++ b).head? ≠ some 117 then none else sizes (size d) 2 (a ++ b)) = _
      rw [ok_two ha hb]; exact if_neg (fun h => absurd h.1 (by decide))
    · show (if (103 : UInt8) = 98 ∧ (a ++ b).head? ≠ some 117 then none else sizes (size d) 2 (a ++ b)) = _
      rw [ok_two ha hb]; exact if_neg (fun h => absurd h.1 (by decide))
  rw [h2]
  simp only [up, List.length_cons]; omega
theorem ok_box {d : Nat} {a b : List UInt8} (hu : a.head? = some 117) (ha : Ok d a) (hb : Ok d b) : Ok (d + 1) (98 :: (a ++ b)) := by
  refine ⟨by simp, ?_⟩
  rw [size_cons]
  have h2 : body (size d) 98 (a ++ b) = some (a ++ b).length := by
    show (if (98 : UInt8) = 98 ∧ (a ++ b).head? ≠ some 117 then none else sizes (size d) 2 (a ++ b)) = _
    rw [ok_two ha hb, if_neg]
    rintro ⟨_, h⟩
    cases a with
    | nil => cases hu
    | cons x y => exact h hu
  rw [h2]
  simp only [up, List.length_cons]; omega
theorem atom_len {n : Nat} (hn : n < 18446744073709551616) : (ofAtom n).length ≤ 10 := by
  have := (put_le hn).2
  simp only [ofAtom, List.length_cons]; omega
theorem atom_inj {n m : Nat} (hn : n < 18446744073709551616) (hm : m < 18446744073709551616) (h : ofAtom n = ofAtom m) : n = m := put_inj hn hm (by injection h)

/-! ### rows of strings that a call lays -/
theorem lit_reads (W : World) (ys : List ByteArray) (cs : Array Value) (hcs : cs = (sv ys).toArray) (g : Nat) (hg : g = W.heap.size) : SReads (W.alloc (.cells cs 9)) (some ⟨g, 0, none⟩) ys := by
  subst hg hcs
  intro j hj
  refine ⟨_, 0, rfl, by simp, ?_⟩
  have h : (W.alloc (.cells (sv ys).toArray 9)).cell? ⟨W.heap.size, 0 + j, none⟩ = (sv ys).toArray[0 + j]? := cell_of_row _ _ _ _ _ (0, 0) (heap_alloc_new W _)
  refine Eq.trans h ?_
  simp [sv, List.getD, List.getElem?_eq_getElem hj]
/-- 'append(own, came in...)' of strings, the slice that came in nil or not: an own row of both; below the base all stands. -/
theorem append_strs {w : World} {ops : Array Oper} {rest : List Oper} {o : Oper} {a : Act} {Q : Exit → Act → World → Prop} (hgd : o.guard = none) (s x : Operand)
    (ho : o.op = .call { callee := .builtin .append, args := #[s, x], argTypes := #[24, 24] }) (base : Nat)
    (v : Value) (n : Nat) (xs ys : List ByteArray) (hn : xs.length = n) (hs : a.eval s = v) (hown : w.ownsRow base 9 1 v n (sv xs))
    (b : Option Addr) (m c : Nat) (hm : ys.length = m) (hx : a.eval x = .slice b m c) (hnil : b = none → c = 0) (hr : SReads w b ys)
    (hlen : n + m ≤ 4194304) (hbase : base ≤ w.heap.size)
    (h : ∀ v' w', w'.ownsRow base 9 1 v' (n + m) (sv (xs ++ ys)) → Below base w w' → wpList Tryz.prog ops Q rest (a.put o.dst v') w') : wpList Tryz.prog ops Q (o :: rest) a w := by
  obtain ⟨i0, hi, hz0, hz1, hz2⟩ := info_parts str_info
  subst hn hm
  cases b with
  | none =>
    have hz : ys = [] := by
      cases ys with
      | nil => rfl
      | cons z t => obtain ⟨_, _, he, _⟩ := hr 0 (by simp); cases he
    subst hz
    rw [hnil rfl] at hx
    refine wpList_append_own_none hgd s x 24 ho base 9 i0 1 Tryz.underlying24 hi v xs.length (sv xs) hs hown hx ?_
    exact h v w (by simpa [sv] using hown) (Below.refl _ _)
  | some ad =>
    refine wpList_append_own _ hgd s x 24 ho base 9 i0 (.string ⟨#[]⟩) 1 16 Tryz.underlying24 hi hz0 hz1 hz2 rfl (by decide) v xs.length (sv xs) hs hown ad ys.length c (sv ys) hx (by simp [sv]) ?_ ?_ (by unfold maxLen; omega) (by omega) hbase ?_
    · intro j u hj
      have hjl : j < ys.length := by have := (List.getElem?_eq_some_iff.1 hj).1; simpa [sv] using this
      obtain ⟨b', o', he, _, hc⟩ := hr j hjl
      obtain rfl := Option.some.inj he
      have hu : u = .string (ys.getD j ByteArray.empty) := by
        simp [sv, hjl] at hj
        rw [← hj]; simp [List.getD, hjl]
      rw [hu, add_none]
      exact hc
    · exact sv_one ys
    · intro v' w' hown' hgrow _
      exact h v' w' (by simpa [sv] using hown') (Below.grown (Below.refl _ _) hgrow hbase fun k hk => (hown.lt k hk).1)
/-- An empty row that has just been laid. -/
theorem own_empty (w : World) (base : Nat) (h : base ≤ w.heap.size) : (w.alloc (.cells #[] 9)).ownsRow base 9 1 (.slice (some ⟨w.heap.size, 0, none⟩) 0 0) 0 (sv []) :=
  World.ownsRow_lit (e := 9) (size := 1) (base := base) w #[] 0 h (by decide) rfl
/-- Derives at a row of one's own. -/
theorem der_own (CD : DerivesOK) {w0 W : World} {base : Nat} (A : Option Addr) (n c : Nat) (ys : List ByteArray) (t : ByteArray) (hn : ys.length = n) (ho : W.ownsRow base 9 1 (.slice A n c) n (sv ys)) (hb : Below w0.heap.size w0 W)
    (h1 : ys.length ≤ 100000) (h2 : ∀ y ∈ ys, y.size ≤ 140737488355328) (h3 : t.size ≤ 140737488355328) :
    Calls Tryz.prog 25 #[.slice A n c, .string t] W fun e w' => DvE (bl ys) t.data.toList e ∧ Below w0.heap.size w0 w' := by
  subst hn
  obtain ⟨g1, _, g3⟩ := sreads_own ho
  exact (CD A c ys t W g1 g3 (by omega) h2 h3).mono fun e w' ⟨h, h4⟩ => ⟨h, Bel.call hb h4⟩
theorem der_reads (CD : DerivesOK) {w0 W : World} (A : Option Addr) (c : Nat) (ys : List ByteArray) (t : ByteArray) (hr : SReads w0 A ys) (hc : ys.length ≤ c) (hb : Below w0.heap.size w0 W)
    (h1 : ys.length ≤ 100000) (h2 : ∀ y ∈ ys, y.size ≤ 140737488355328) (h3 : t.size ≤ 140737488355328) :
    Calls Tryz.prog 25 #[.slice A ys.length c, .string t] W fun e w' => DvE (bl ys) t.data.toList e ∧ Below w0.heap.size w0 w' :=
  (CD A c ys t W (hr.below hb (Nat.le_refl _)) hc (by omega) h2 h3).mono fun e w' ⟨h, h4⟩ => ⟨h, Bel.call hb h4⟩
theorem good_bl {ys : List ByteArray} (h : ∀ y ∈ ys, Good y.data.toList) : ∀ z ∈ bl ys, Good z := fun z hz => by
  obtain ⟨y, hy, rfl⟩ := List.mem_map.1 hz
  exact h y hy
theorem good_size {y : ByteArray} (h : Good y.data.toList) : y.size ≤ 4000 := (right_sz h.1).2
/-- Derives at a row that has just been laid. -/
theorem der_lit (CD : DerivesOK) {w W : World} (ys : List ByteArray) (n : Nat) (cs : Array Value) (t : ByteArray) (hn : ys.length = n) (hcs : cs = (sv ys).toArray) (g : Nat) (hg : g = W.heap.size) (hb : Below w.heap.size w W)
    (h1 : ys.length ≤ 100) (h2 : ∀ y ∈ ys, y.size ≤ 140737488355328) (h3 : t.size ≤ 140737488355328) :
    Calls Tryz.prog 25 #[.slice (some ⟨g, 0, none⟩) n n, .string t] (W.alloc (.cells cs 9)) fun e w' => DvE (bl ys) t.data.toList e ∧ Below w.heap.size w w' := by
  subst hn
  exact (CD (some ⟨g, 0, none⟩) ys.length ys t _ (lit_reads W ys cs hcs g hg) (Nat.le_refl _) (by omega) h2 h3).mono fun e w' ⟨h, h4⟩ => ⟨h, after_alloc hb h4⟩
/-- What is held gives nothing that isn't held: nothing more is had. -/
theorem had_only {held : List (List UInt8)} (h : ∀ t ∈ held, ∀ x, Gives (fun x => x ∈ held) t x → x ∈ held) {x : List UInt8} (hx : Had held x) : x ∈ held := hx (fun x => x ∈ held) (fun _ h => h) (fun t x ht hg => h t ht x hg)
/-- An atom that isn't held can't be put together of what is held alone. -/
theorem tog_atom {S : List UInt8 → Prop} {a : List UInt8} (ha : a.headD 0 = 97) (h : Tog S a) : S a := by
  rcases tog_iff.1 h with h | h | ⟨h, _⟩
  · exact h
  · rw [ha] at h; exact absurd h (by decide)
  · exact absurd ha h
end Go.Proofs.YtjdignbmlfbdnaaGreat.Clo
