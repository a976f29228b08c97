/-
  PLAIN FACTS on terms: what is told of right terms. By an AI agent; no person has read it.
-/
import Derived.Test.YtahlilhdiklemaaTMake
namespace Go.Proofs.Ytahlilhdiklemaa.Term
open Go.RowKit Wire

/-- A right term's bytes: its kind and what it holds. -/
theorem right_parts {l : List UInt8} (h : right l = true) : ∃ b t m, l = b :: t ∧ arity b = some m ∧ body (size 39) b t = some t.length := by
  obtain ⟨h1, _, h3⟩ := right_iff.1 h
  obtain ⟨b, t, rfl⟩ := List.exists_cons_of_ne_nil h1
  rw [size_cons] at h3
  cases hb : body (size 39) b t with
  | none => rw [hb] at h3; simp [up] at h3
  | some n =>
    rw [hb] at h3
    simp only [up, List.length_cons] at h3
    obtain rfl : n = t.length := by omega
    cases ha : arity b with
    | none => unfold body at hb; rw [ha] at hb; cases hb
    | some m => exact ⟨b, t, m, rfl, ha, hb⟩
theorem kind_right {l : List UInt8} (h : right l = true) : kind l = (l.headD 0).toNat := by unfold kind; rw [if_pos h]
theorem kind_wrong {l : List UInt8} (h : right l = false) : kind l = 0 := by unfold kind; rw [if_neg (by rw [h]; decide)]
theorem kind_pos {l : List UInt8} (h : right l = true) : kind l ≠ 0 := by
  obtain ⟨b, t, m, rfl, ha, _⟩ := right_parts h
  rw [kind_right h]
  intro h0
  have : b = 0 := u8_zero.2 h0
  rw [this] at ha
  have : arity 0 = none := rfl
  rw [this] at ha; cases ha
theorem atom_tk {t : List UInt8} (h : right (97 :: t) = true) : ∃ n, take t = some (n, []) ∧ t = put n ∧ n < 18446744073709551616 := by
  obtain ⟨b, t', m, he, ha, hb⟩ := right_parts h
  obtain ⟨rfl, rfl⟩ : 97 = b ∧ t = t' := by simpa using he
  have h2 : body (size 39) 97 t = leaf 97 t := rfl
  rw [h2] at hb
  unfold leaf at hb
  rw [if_pos rfl] at hb
  obtain ⟨⟨n, r⟩, hp, hlen⟩ := Option.map_eq_some_iff.1 hb
  obtain ⟨e, hn⟩ := take_some hp
  have hl := (take_len hp).1
  simp only at hlen
  have hr : r = [] := List.eq_nil_of_length_eq_zero (by omega)
  subst hr
  exact ⟨n, hp, by simpa using e, hn⟩
theorem text_tx {t : List UInt8} (h : right (116 :: t) = true) : ∃ s, text t 4000 = (s, [], 0) ∧ t = putText s ∧ s.length ≤ 4000 := by
  obtain ⟨b, t', m, he, ha, hb⟩ := right_parts h
  obtain ⟨rfl, rfl⟩ : 116 = b ∧ t = t' := by simpa using he
  have h2 : body (size 39) 116 t = leaf 116 t := rfl
  rw [h2] at hb
  unfold leaf at hb
  rw [if_neg (by decide)] at hb
  rcases text_cases t 4000 with h' | h' | ⟨s, r, h', hl, hs, hm⟩
  · rw [h'] at hb; simp at hb
  · rw [h'] at hb; simp at hb
  · rw [h'] at hb
    simp only [if_pos] at hb
    have hlen := Option.some.inj hb
    have hz := text_len h' rfl
    have hr : r = [] := List.eq_nil_of_length_eq_zero (by omega)
    subst hr
    exact ⟨s, h', by simpa using hl, by omega⟩
/-- What stands in a term of two parts. -/
theorem two_parts {b : UInt8} {t : List UInt8} (h : right (b :: t) = true) (ha : arity b = some 2) : ∃ x y, t = x ++ y ∧ cuts 2 t = [x, y] ∧ right x = true ∧ right y = true ∧ (b = 98 → x.head? = some 117) := by
  obtain ⟨b', t', m, he, ha', hb⟩ := right_parts h
  obtain ⟨rfl, rfl⟩ : b = b' ∧ t = t' := by simpa using he
  have hlen := (right_len h).2
  simp only [List.length_cons] at hlen
  unfold body at hb
  rw [ha] at hb
  simp only at hb
  split at hb
  · cases hb
  · rename_i hbx
    unfold sizes at hb
    split at hb
    · cases hb
    · rename_i h0
      obtain ⟨q, hq, hsum⟩ := Option.map_eq_some_iff.1 hb
      unfold sizes at hq
      split at hq
      · cases hq
      · rename_i h1
        obtain ⟨z, hz, rfl⟩ := Option.map_eq_some_iff.1 hq
        have hz0 : z = 0 := by
          have := Option.some.inj (show some 0 = some z from hz)
          exact this.symm
        subst hz0
        have hle1 := size_le 39 t
        have m1 := size_mono (d := 39) (e := 40) (by omega) h0
        have m2 := size_mono (d := 39) (e := 40) (by omega) h1
        have r1 : right (t.take (size 40 t)) = true := right_take (by rw [m1]; exact h0) (by rw [m1]; omega)
        have hd : (t.drop (size 40 t)).length = size 40 (t.drop (size 40 t)) := by
          rw [List.length_drop, m1, m2]; omega
        have r2 : right (t.drop (size 40 t)) = true := by
          have h2 := right_take (l := t.drop (size 40 t)) (by rw [m1, m2]; exact h1) (by rw [← hd, List.length_drop]; omega)
          rw [← hd, List.take_length] at h2
          exact h2
        refine ⟨t.take (size 40 t), t.drop (size 40 t), (List.take_append_drop _ _).symm, ?_, r1, r2, fun hb98 => ?_⟩
        · show [t.take (size 40 t), (t.drop (size 40 t)).take (size 40 (t.drop (size 40 t)))] = _
          rw [← hd, List.take_length]
        · have hh : t.head? = some 117 := by
            cases hx : t.head? with
            | none => exact absurd ⟨hb98, by rw [hx]; simp⟩ hbx
            | some c =>
              by_cases hc : c = 117
              · rw [hc]
              · exact absurd ⟨hb98, by rw [hx]; simpa using hc⟩ hbx
          have hpos : 0 < size 40 t := by rw [m1]; omega
          cases t with
          | nil => simp at hh
          | cons c u =>
            obtain ⟨j, hj⟩ : ∃ j, size 40 (c :: u) = j + 1 := ⟨size 40 (c :: u) - 1, by omega⟩
            rw [hj, List.take_succ_cons]
            simpa using hh
theorem one_part {b : UInt8} {t : List UInt8} (h : right (b :: t) = true) (ha : arity b = some 1) (hb8 : b ≠ 98) : right t = true ∧ cuts 1 t = [t] := by
  obtain ⟨b', t', m, he, ha', hb⟩ := right_parts h
  obtain ⟨rfl, rfl⟩ : b = b' ∧ t = t' := by simpa using he
  have hlen := (right_len h).2
  simp only [List.length_cons] at hlen
  unfold body at hb
  rw [ha] at hb
  simp only at hb
  rw [if_neg (fun h => hb8 h.1)] at hb
  unfold sizes at hb
  split at hb
  · cases hb
  · rename_i h0
    obtain ⟨q, hq, hsum⟩ := Option.map_eq_some_iff.1 hb
    have hz0 : q = 0 := (Option.some.inj (show some 0 = some q from hq)).symm
    subst hz0
    have m1 := size_mono (d := 39) (e := 40) (by omega) h0
    have hs : size 40 t = t.length := by omega
    have r1 := right_take (l := t) (by rw [m1]; exact h0) (by rw [hs]; omega)
    rw [hs, List.take_length] at r1
    refine ⟨r1, ?_⟩
    show [t.take (size 40 t)] = _
    rw [hs, List.take_length]

/-- When it is no form. -/
theorem open_form {a b x : List UInt8} {e : Int} (ha : right a = true) (hb : right b = true) (h : open' a b = (x, e)) : (e == 2) = ((kind b : Int) != 115) := by
  obtain ⟨k, t, m, rfl, hm, _⟩ := right_parts hb
  rw [kind_right hb]
  unfold open' opens at h
  rw [if_pos ⟨ha, hb⟩] at h
  simp only [List.headD_cons]
  by_cases hk : k = 115
  · rw [if_pos (show (k :: t).headD 0 = 115 from hk)] at h
    have h2 : e ≠ 2 := by
      split at h <;> simp only [Prod.mk.injEq] at h <;> omega
    rw [hk]
    simpa using h2
  · rw [if_neg (show ¬ (k :: t).headD 0 = 115 from hk)] at h
    simp only [Prod.mk.injEq] at h
    have : (k.toNat : Int) ≠ 115 := fun h => hk (UInt8.toNat_inj.1 (by have : (115 : UInt8).toNat = 115 := rfl; omega))
    rw [← h.2, bne_iff_ne.2 this]; rfl
theorem unbox_form {a b x : List UInt8} {e : Int} (ha : right a = true) (hb : right b = true) (h : unbox a b = (x, e)) : (e == 2) = ((kind b : Int) != 98) := by
  obtain ⟨k, t, m, rfl, hm, _⟩ := right_parts hb
  rw [kind_right hb]
  unfold unbox opens at h
  rw [if_pos ⟨ha, hb⟩] at h
  simp only [List.headD_cons]
  by_cases hk : k = 98
  · rw [if_pos (show (k :: t).headD 0 = 98 from hk)] at h
    have h2 : e ≠ 2 := by
      split at h <;> simp only [Prod.mk.injEq] at h <;> omega
    rw [hk]
    simpa using h2
  · rw [if_neg (show ¬ (k :: t).headD 0 = 98 from hk)] at h
    simp only [Prod.mk.injEq] at h
    have : (k.toNat : Int) ≠ 98 := fun h => hk (UInt8.toNat_inj.1 (by have : (98 : UInt8).toNat = 98 := rfl; omega))
    rw [← h.2, bne_iff_ne.2 this]; rfl
theorem number_form {b : List UInt8} {n : Nat} {e : Int} (hb : right b = true) (h : number b = (n, e)) : (e == 2) = ((kind b : Int) != 97) := by
  obtain ⟨k, t, m, rfl, hm, _⟩ := right_parts hb
  rw [kind_right hb]
  unfold number at h
  rw [if_pos hb] at h
  simp only [List.headD_cons]
  by_cases hk : k = 97
  · subst hk
    obtain ⟨v, hv, _⟩ := atom_tk hb
    rw [if_pos (show ((97 : UInt8) :: t).headD 0 = 97 from rfl), List.tail_cons, tk_some hv] at h
    simp only [Prod.mk.injEq] at h
    rw [← h.2]; rfl
  · rw [if_neg (show ¬ (k :: t).headD 0 = 97 from hk)] at h
    simp only [Prod.mk.injEq] at h
    have : (k.toNat : Int) ≠ 97 := fun h => hk (UInt8.toNat_inj.1 (by have : (97 : UInt8).toNat = 97 := rfl; omega))
    rw [← h.2, bne_iff_ne.2 this]; rfl
theorem words_form {b x : List UInt8} {e : Int} (hb : right b = true) (h : words b = (x, e)) : (e == 2) = ((kind b : Int) != 116) := by
  obtain ⟨k, t, m, rfl, hm, _⟩ := right_parts hb
  rw [kind_right hb]
  unfold words at h
  rw [if_pos hb] at h
  simp only [List.headD_cons]
  by_cases hk : k = 116
  · subst hk
    obtain ⟨v, hv, _⟩ := text_tx hb
    rw [if_pos (show ((116 : UInt8) :: t).headD 0 = 116 from rfl), List.tail_cons, hv] at h
    simp only [Prod.mk.injEq] at h
    rw [← h.2]; rfl
  · rw [if_neg (show ¬ (k :: t).headD 0 = 116 from hk)] at h
    simp only [Prod.mk.injEq] at h
    have : (k.toNat : Int) ≠ 116 := fun h => hk (UInt8.toNat_inj.1 (by have : (116 : UInt8).toNat = 116 := rfl; omega))
    rw [← h.2, bne_iff_ne.2 this]; rfl
end Go.Proofs.Ytahlilhdiklemaa.Term
