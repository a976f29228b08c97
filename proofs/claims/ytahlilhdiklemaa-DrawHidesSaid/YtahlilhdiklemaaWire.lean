/-
  PLAIN LEAN, OF NO PROGRAM: numbers, texts and rows as bytes (layer 2). By an AI agent; no person has read it.
-/
import Derived.Test.YtahlilhdiklemaaProg
namespace Go.Proofs.Ytahlilhdiklemaa.Wire

theorem u8_nat (k : Nat) (h : k < 256) : (k.toUInt8).toNat = k := by
  simp [Nat.toUInt8, Nat.mod_eq_of_lt h]
theorem nat_u8 (b : UInt8) : b.toNat.toUInt8 = b := by simp [Nat.toUInt8]
theorem u8_lt (b : UInt8) : b.toNat < 256 := b.toNat_lt
theorem u8_zero {b : UInt8} : b = 0 ↔ b.toNat = 0 := by
  constructor
  · rintro rfl; rfl
  · intro h; exact UInt8.toNat_inj.1 h

/-! ### a number's bytes -/
def dig (n : Nat) : List UInt8 := if _h : n = 0 then [] else dig (n / 256) ++ [(n % 256).toUInt8]
termination_by n
decreasing_by omega

theorem dig_zero : dig 0 = [] := by rw [dig]; simp
theorem dig_pos {n : Nat} (h : n ≠ 0) : dig n = dig (n / 256) ++ [(n % 256).toUInt8] := by rw [dig]; simp [h]

def val (l : List UInt8) : Nat := l.foldl (fun a b => a * 256 + b.toNat) 0
theorem val_nil : val [] = 0 := rfl
theorem val_snoc (l : List UInt8) (b : UInt8) : val (l ++ [b]) = val l * 256 + b.toNat := by simp [val]
theorem val_take {l : List UInt8} {k : Nat} (hk : k < l.length) : val (l.take (k + 1)) = val (l.take k) * 256 + l[k].toNat := by
  rw [List.take_succ_eq_append_getElem hk, val_snoc]
theorem val_lt : ∀ (k : Nat) (l : List UInt8), l.length = k → val l < 256 ^ k
  | 0, l, h => by
    obtain rfl := List.eq_nil_of_length_eq_zero h
    simp [val]
  | k + 1, l, h => by
    have hne : l ≠ [] := by intro e; simp [e] at h
    obtain ⟨a, b, rfl⟩ : ∃ a b, l = a ++ [b] := ⟨l.dropLast, l.getLast hne, (List.dropLast_concat_getLast hne).symm⟩
    have ha : a.length = k := by simpa using h
    have := val_lt k a ha
    rw [val_snoc, Nat.pow_succ]
    have := u8_lt b
    omega
theorem val_lt8 {l : List UInt8} (h : l.length ≤ 8) : val l < 18446744073709551616 := by
  have h1 := val_lt _ l rfl
  have h2 : 256 ^ l.length ≤ 256 ^ 8 := Nat.pow_le_pow_right (by omega) h
  have h3 : (256 : Nat) ^ 8 = 18446744073709551616 := by decide
  omega
theorem val_lt7 {l : List UInt8} (h : l.length ≤ 7) : val l < 72057594037927936 := by
  have h1 := val_lt _ l rfl
  have h2 : 256 ^ l.length ≤ 256 ^ 7 := Nat.pow_le_pow_right (by omega) h
  have h3 : (256 : Nat) ^ 7 = 72057594037927936 := by decide
  omega

theorem val_dig (n : Nat) : val (dig n) = n := by
  induction n using Nat.strongRecOn with
  | _ n ih =>
    by_cases h : n = 0
    · subst h; rw [dig_zero]; rfl
    · rw [dig_pos h, val_snoc, ih (n / 256) (by omega), u8_nat _ (by omega)]; omega
theorem dig_len : ∀ (k n : Nat), n < 256 ^ k → (dig n).length ≤ k
  | 0, n, h => by
    have : n = 0 := by simpa using h
    subst this; simp [dig_zero]
  | k + 1, n, h => by
    by_cases h0 : n = 0
    · subst h0; simp [dig_zero]
    · rw [dig_pos h0, List.length_append]
      have := dig_len k (n / 256) (by rw [Nat.pow_succ] at h; omega)
      simp; omega
theorem dig_len8 {n : Nat} (h : n < 18446744073709551616) : (dig n).length ≤ 8 := dig_len 8 n (by
  have h3 : (256 : Nat) ^ 8 = 18446744073709551616 := by decide
  omega)
theorem dig_len_lt (k n : Nat) (h : (dig n).length ≤ k) : n < 256 ^ k := by
  have h1 := val_lt _ (dig n) rfl
  rw [val_dig] at h1
  exact Nat.lt_of_lt_of_le h1 (Nat.pow_le_pow_right (by omega) h)
theorem dig_head {n : Nat} {b : UInt8} {t : List UInt8} (h : dig n = b :: t) : b ≠ 0 := by
  induction n using Nat.strongRecOn generalizing b t with
  | _ n ih =>
    by_cases h0 : n = 0
    · subst h0; rw [dig_zero] at h; cases h
    · rw [dig_pos h0] at h
      by_cases h1 : n / 256 = 0
      · rw [h1, dig_zero] at h
        simp at h
        intro hb
        rw [← h.1] at hb
        have := congrArg UInt8.toNat hb
        rw [u8_nat _ (by omega)] at this
        have h3 : (0 : UInt8).toNat = 0 := rfl
        omega
      · cases hd : dig (n / 256) with
        | nil =>
          have := val_dig (n / 256)
          rw [hd] at this
          exact absurd this.symm h1
        | cons c u =>
          rw [hd] at h
          simp at h
          rw [← h.1]
          exact ih (n / 256) (by omega) hd
theorem val_cons_pos {b : UInt8} {t : List UInt8} (hb : b ≠ 0) : 256 ^ t.length ≤ val (b :: t) := by
  have key : ∀ (m : Nat) (t : List UInt8), t.length = m → 256 ^ m ≤ val (b :: t) := by
    intro m
    induction m with
    | zero =>
      intro t ht
      obtain rfl := List.eq_nil_of_length_eq_zero ht
      have : b.toNat ≠ 0 := fun h => hb (u8_zero.2 h)
      simp [val]; omega
    | succ m ih =>
      intro t ht
      have hne : t ≠ [] := by intro e; simp [e] at ht
      obtain ⟨a, c, rfl⟩ : ∃ a c, t = a ++ [c] := ⟨t.dropLast, t.getLast hne, (List.dropLast_concat_getLast hne).symm⟩
      have := ih a (by simpa using ht)
      rw [← List.cons_append, val_snoc, Nat.pow_succ]
      omega
  exact key _ t rfl
theorem dig_val : ∀ (m : Nat) (l : List UInt8), l.length = m → (∀ b t, l = b :: t → b ≠ 0) → dig (val l) = l
  | 0, l, h, _ => by
    obtain rfl := List.eq_nil_of_length_eq_zero h
    simp [val, dig_zero]
  | m + 1, l, h, hb => by
    have hne : l ≠ [] := by intro e; simp [e] at h
    obtain ⟨a, c, rfl⟩ : ∃ a c, l = a ++ [c] := ⟨l.dropLast, l.getLast hne, (List.dropLast_concat_getLast hne).symm⟩
    have hc := u8_lt c
    have hpos : val (a ++ [c]) ≠ 0 := by
      cases hl : a ++ [c] with
      | nil => simp at hl
      | cons b t =>
        have := val_cons_pos (t := t) (hb b t hl)
        have : 0 < 256 ^ t.length := Nat.pos_of_ne_zero (by simp)
        omega
    rw [dig_pos hpos, val_snoc]
    have e1 : (val a * 256 + c.toNat) / 256 = val a := by omega
    have e2 : (val a * 256 + c.toNat) % 256 = c.toNat := by omega
    rw [e1, e2, nat_u8, dig_val m a (by simpa using h) (fun b t ht => hb b (t ++ [c]) (by rw [ht]; rfl))]

def put (n : Nat) : List UInt8 := (dig n).length.toUInt8 :: dig n
theorem put_zero : put 0 = [0] := by rw [put, dig_zero]; rfl
theorem put_len (n : Nat) : (put n).length = 1 + (dig n).length := by simp [put]; omega
theorem put_le {n : Nat} (h : n < 18446744073709551616) : 1 ≤ (put n).length ∧ (put n).length ≤ 9 := by
  have := dig_len8 h
  rw [put_len]; omega
theorem put_258 : put 258 = [2, 1, 2] := by
  have h : dig 258 = [1, 2] := by
    rw [dig_pos (by decide), show 258 / 256 = 1 from rfl, dig_pos (by decide), show 1 / 256 = 0 from rfl, dig_zero]; rfl
  rw [put, h]; rfl

def take (l : List UInt8) : Option (Nat × List UInt8) := match l with
  | [] => none
  | b :: t => if 8 < b.toNat ∨ t.length < b.toNat ∨ (0 < b.toNat ∧ t.head? = some 0) then none else some (val (t.take b.toNat), t.drop b.toNat)

theorem take_put {n : Nat} (h : n < 18446744073709551616) (r : List UInt8) : take (put n ++ r) = some (n, r) := by
  have h8 := dig_len8 h
  have hu : ((dig n).length.toUInt8).toNat = (dig n).length := u8_nat _ (by omega)
  unfold put take
  simp only [List.cons_append, hu]
  rw [if_neg]
  · rw [List.take_left, List.drop_left, val_dig]
  · rintro (h1 | h1 | ⟨h1, h2⟩)
    · omega
    · rw [List.length_append] at h1; omega
    · cases hd : dig n with
      | nil => rw [hd] at h1; simp at h1
      | cons b t =>
        rw [hd] at h2
        simp at h2
        exact dig_head hd h2
theorem take_some {l : List UInt8} {n : Nat} {r : List UInt8} (h : take l = some (n, r)) : l = put n ++ r ∧ n < 18446744073709551616 := by
  unfold take at h
  cases l with
  | nil => cases h
  | cons b t =>
    simp only at h
    split at h
    · cases h
    · rename_i hc
      have h := Option.some.inj h
      obtain ⟨rfl, rfl⟩ := Prod.mk.inj h
      have h8 : b.toNat ≤ 8 := by omega
      have hl : b.toNat ≤ t.length := by omega
      have hlen : (t.take b.toNat).length = b.toNat := by rw [List.length_take]; omega
      have hd : dig (val (t.take b.toNat)) = t.take b.toNat := dig_val _ _ rfl (by
        intro c u hcu hc0
        refine hc (.inr (.inr ⟨?_, ?_⟩))
        · have := congrArg List.length hcu
          simp [hlen] at this; omega
        · cases t with
          | nil => simp at hcu
          | cons x y =>
            cases hb : b.toNat with
            | zero => rw [hb] at hcu; simp at hcu
            | succ m =>
              rw [hb] at hcu
              simp at hcu
              simp [hcu.1, hc0])
      refine ⟨?_, val_lt8 (by omega)⟩
      unfold put
      rw [hd, hlen, nat_u8]
      simp
theorem take_len {l : List UInt8} {n : Nat} {r : List UInt8} (h : take l = some (n, r)) : r.length < l.length ∧ l.length ≤ r.length + 9 := by
  obtain ⟨rfl, hn⟩ := take_some h
  have := put_le hn
  rw [List.length_append]; omega
theorem put_inj {a b : Nat} (ha : a < 18446744073709551616) (hb : b < 18446744073709551616) {r q : List UInt8} (h : put a ++ r = put b ++ q) : a = b ∧ r = q := by
  have h1 := take_put ha r
  rw [h, take_put hb q] at h1
  have := Prod.mk.inj (Option.some.inj h1)
  exact ⟨this.1.symm, this.2.symm⟩

/-- Take's answer: the number, what is behind, the error. -/
def tk (l : List UInt8) : Nat × List UInt8 × Int := match take l with
  | none => (0, [], 2)
  | some (n, r) => (n, r, 0)
def upTo (l : List UInt8) (most : Int) : Nat × List UInt8 × Int := match take l with
  | none => (0, [], 2)
  | some (n, r) => if max most 0 < (n : Int) then (0, [], 10) else (n, r, 0)
def text (l : List UInt8) (most : Int) : List UInt8 × List UInt8 × Int := match take l with
  | none => ([], [], 2)
  | some (n, r) => if max most 0 < (n : Int) then ([], [], 10) else if r.length < n then ([], [], 2) else (r.take n, r.drop n, 0)
def putText (t : List UInt8) : List UInt8 := put t.length ++ t
def putAll (l : List (List UInt8)) : List UInt8 := put l.length ++ l.flatMap putText

theorem tk_none {l : List UInt8} (h : take l = none) : tk l = (0, [], 2) := by unfold tk; rw [h]
theorem tk_some {l : List UInt8} {n : Nat} {r : List UInt8} (h : take l = some (n, r)) : tk l = (n, r, 0) := by unfold tk; rw [h]
theorem text_cases (l : List UInt8) (most : Int) : (text l most = ([], [], 2)) ∨ (text l most = ([], [], 10)) ∨ (∃ t r, text l most = (t, r, 0) ∧ l = putText t ++ r ∧ t.length < 18446744073709551616 ∧ (t.length : Int) ≤ max most 0) := by
  unfold text
  cases h : take l with
  | none => exact .inl rfl
  | some p =>
    obtain ⟨n, r⟩ := p
    simp only
    by_cases h1 : max most 0 < (n : Int)
    · rw [if_pos h1]; exact .inr (.inl rfl)
    · rw [if_neg h1]
      by_cases h2 : r.length < n
      · rw [if_pos h2]; exact .inl rfl
      · rw [if_neg h2]
        obtain ⟨rfl, hn⟩ := take_some h
        have hl : (r.take n).length = n := by rw [List.length_take]; omega
        refine .inr (.inr ⟨_, _, rfl, ?_, by omega, by omega⟩)
        unfold putText
        rw [hl, List.append_assoc, List.take_append_drop]
theorem text_put {t : List UInt8} (ht : t.length < 18446744073709551616) (r : List UInt8) (most : Int) (hm : (t.length : Int) ≤ max most 0) : text (putText t ++ r) most = (t, r, 0) := by
  unfold text putText
  rw [List.append_assoc, take_put ht]
  simp only
  rw [if_neg (by omega), if_neg (by rw [List.length_append]; omega)]
  simp
theorem text_big {t : List UInt8} (ht : t.length < 18446744073709551616) (r : List UInt8) (most : Int) (hm : max most 0 < (t.length : Int)) : text (putText t ++ r) most = ([], [], 10) := by
  unfold text putText
  rw [List.append_assoc, take_put ht]
  simp only
  rw [if_pos hm]
theorem text_len {l t r : List UInt8} {most : Int} {e : Int} (h : text l most = (t, r, e)) (he : e = 0) : r.length + t.length < l.length := by
  subst he
  rcases text_cases l most with h' | h' | ⟨t', r', h', hl, ht, _⟩
  · rw [h'] at h; simp at h
  · rw [h'] at h; simp at h
  · rw [h'] at h
    simp only [Prod.mk.injEq] at h
    obtain ⟨rfl, rfl, _⟩ := h
    have := put_le ht
    rw [hl, putText, List.length_append, List.length_append]; omega
theorem putText_len (t : List UInt8) : (putText t).length = (put t.length).length + t.length := by simp [putText]

/-! ### rows -/
def texts : Nat → List UInt8 → Int → List (List UInt8) → List (List UInt8) × List UInt8 × Int
  | 0, r, _, acc => (acc, r, 0)
  | k + 1, r, m, acc => if (text r m).2.2 = 0 then texts k (text r m).2.1 m (acc ++ [(text r m).1]) else ([], [], (text r m).2.2)
def all (l : List UInt8) (many most : Int) : List (List UInt8) × Int := match take l with
  | none => ([], 2)
  | some (n, r) => if max many 0 < (n : Int) then ([], 10) else
    if (texts n r most []).2.2 = 0 then (if (texts n r most []).2.1 = [] then ((texts n r most []).1, 0) else ([], 2)) else ([], (texts n r most []).2.2)

theorem texts_zero (r : List UInt8) (m : Int) (acc : List (List UInt8)) : texts 0 r m acc = (acc, r, 0) := rfl
theorem texts_yes {k : Nat} {r : List UInt8} {m : Int} {acc : List (List UInt8)} {t q : List UInt8} (h : text r m = (t, q, 0)) : texts (k + 1) r m acc = texts k q m (acc ++ [t]) := by
  simp [texts, h]
theorem texts_no {k : Nat} {r : List UInt8} {m : Int} {acc : List (List UInt8)} {t q : List UInt8} {e : Int} (h : text r m = (t, q, e)) (he : e ≠ 0) : texts (k + 1) r m acc = ([], [], e) := by
  simp [texts, h, he]
theorem text_err {l t r : List UInt8} {m e : Int} (h : text l m = (t, r, e)) : e = 0 ∨ e = 2 ∨ e = 10 := by
  rcases text_cases l m with h' | h' | ⟨_, _, h', _⟩ <;> rw [h'] at h <;> simp only [Prod.mk.injEq] at h <;> simp [← h.2.2]
theorem text_no {l t r : List UInt8} {m e : Int} (h : text l m = (t, r, e)) (he : e ≠ 0) : t = [] ∧ r = [] := by
  rcases text_cases l m with h' | h' | ⟨_, _, h', _⟩ <;> rw [h'] at h <;> simp only [Prod.mk.injEq] at h
  · exact ⟨h.1.symm, h.2.1.symm⟩
  · exact ⟨h.1.symm, h.2.1.symm⟩
  · exact absurd h.2.2.symm he
/-- What texts takes was put so. -/
theorem texts_some : ∀ (k : Nat) {r : List UInt8} {m : Int} {acc l : List (List UInt8)} {q : List UInt8}, texts k r m acc = (l, q, 0) →
    ∃ l', l = acc ++ l' ∧ l'.length = k ∧ r = l'.flatMap putText ++ q
  | 0, r, m, acc, l, q, h => by
    simp only [texts_zero, Prod.mk.injEq] at h
    obtain ⟨rfl, rfl, _⟩ := h
    exact ⟨[], by simp, rfl, by simp⟩
  | k + 1, r, m, acc, l, q, h => by
    rcases text_cases r m with h' | h' | ⟨t, r', h', hr, ht, hm⟩
    · rw [texts_no h' (by decide)] at h; simp at h
    · rw [texts_no h' (by decide)] at h; simp at h
    · rw [texts_yes h'] at h
      obtain ⟨l', rfl, hl, he⟩ := texts_some k h
      refine ⟨t :: l', by simp, by simp [hl], ?_⟩
      rw [hr, he]; simp
theorem texts_put : ∀ (l : List (List UInt8)) (q : List UInt8) (m : Int) (acc : List (List UInt8)), (∀ t ∈ l, t.length < 18446744073709551616 ∧ (t.length : Int) ≤ max m 0) →
    texts l.length (l.flatMap putText ++ q) m acc = (acc ++ l, q, 0)
  | [], q, m, acc, _ => by simp [texts]
  | t :: l, q, m, acc, h => by
    have ht := h t (by simp)
    have h' : text ((t :: l).flatMap putText ++ q) m = (t, l.flatMap putText ++ q, 0) := by
      rw [List.flatMap_cons, List.append_assoc, text_put ht.1 _ _ ht.2]
    rw [List.length_cons, texts_yes h', texts_put l q m (acc ++ [t]) fun x hx => h x (by simp [hx])]
    simp
/-- A row of which a text is too long. -/
theorem texts_big : ∀ (l : List (List UInt8)) (q : List UInt8) (m : Int) (acc : List (List UInt8)), (∀ t ∈ l, t.length < 18446744073709551616) → (∃ t ∈ l, max m 0 < (t.length : Int)) →
    texts l.length (l.flatMap putText ++ q) m acc = ([], [], 10)
  | [], _, _, _, _, h => by obtain ⟨_, h, _⟩ := h; cases h
  | t :: l, q, m, acc, h, hb => by
    have ht := h t (by simp)
    by_cases hm : max m 0 < (t.length : Int)
    · have h' : text ((t :: l).flatMap putText ++ q) m = ([], [], 10) := by
        rw [List.flatMap_cons, List.append_assoc, text_big ht _ _ hm]
      rw [List.length_cons, texts_no h' (by decide)]
    · have h' : text ((t :: l).flatMap putText ++ q) m = (t, l.flatMap putText ++ q, 0) := by
        rw [List.flatMap_cons, List.append_assoc, text_put ht _ _ (by omega)]
      rw [List.length_cons, texts_yes h']
      refine texts_big l q m _ (fun x hx => h x (by simp [hx])) ?_
      obtain ⟨x, hx, hxb⟩ := hb
      rcases List.mem_cons.1 hx with rfl | hx
      · exact absurd hxb hm
      · exact ⟨x, hx, hxb⟩
theorem all_none {l : List UInt8} {a b : Int} (h : take l = none) : all l a b = ([], 2) := by unfold all; rw [h]
theorem all_big {l : List UInt8} {a b : Int} {n : Nat} {r : List UInt8} (h : take l = some (n, r)) (hb : max a 0 < (n : Int)) : all l a b = ([], 10) := by unfold all; rw [h]; simp only; rw [if_pos hb]
theorem all_err {l : List UInt8} {a b : Int} {n : Nat} {r : List UInt8} {x : List (List UInt8)} {q : List UInt8} {e : Int} (h : take l = some (n, r)) (hb : (n : Int) ≤ max a 0) (ht : texts n r b [] = (x, q, e)) (he : e ≠ 0) : all l a b = ([], e) := by
  unfold all; rw [h]; simp only; rw [if_neg (by omega), ht]; simp [he]
theorem all_left {l : List UInt8} {a b : Int} {n : Nat} {r : List UInt8} {x : List (List UInt8)} {q : List UInt8} (h : take l = some (n, r)) (hb : (n : Int) ≤ max a 0) (ht : texts n r b [] = (x, q, 0)) (hq : q ≠ []) : all l a b = ([], 2) := by
  unfold all; rw [h]; simp only; rw [if_neg (by omega), ht]; simp [hq]
theorem all_ok {l : List UInt8} {a b : Int} {n : Nat} {r : List UInt8} {x : List (List UInt8)} (h : take l = some (n, r)) (hb : (n : Int) ≤ max a 0) (ht : texts n r b [] = (x, [], 0)) : all l a b = (x, 0) := by
  unfold all; rw [h]; simp only; rw [if_neg (by omega), ht]; simp
/-- What TakeAll takes was put so; what it does not, has no texts. -/
theorem all_back {l : List UInt8} {a b : Int} {x : List (List UInt8)} {e : Int} (h : all l a b = (x, e)) : (e = 0 → l = putAll x ∧ x.length < 18446744073709551616) ∧ (e ≠ 0 → x = []) := by
  cases ht : take l with
  | none =>
    rw [all_none ht] at h
    simp only [Prod.mk.injEq] at h
    obtain ⟨rfl, rfl⟩ := h
    exact ⟨fun h => absurd h (by decide), fun _ => rfl⟩
  | some p =>
    obtain ⟨n, r⟩ := p
    by_cases hb : max a 0 < (n : Int)
    · rw [all_big ht hb] at h
      simp only [Prod.mk.injEq] at h
      obtain ⟨rfl, rfl⟩ := h
      exact ⟨fun h => absurd h (by decide), fun _ => rfl⟩
    · obtain ⟨y, q, f, hy⟩ : ∃ y q f, texts n r b [] = (y, q, f) := ⟨_, _, _, rfl⟩
      by_cases hf : f = 0
      · subst hf
        by_cases hq : q = []
        · subst hq
          rw [all_ok ht (by omega) hy] at h
          simp only [Prod.mk.injEq] at h
          obtain ⟨rfl, rfl⟩ := h
          obtain ⟨l', hl', hn, hr⟩ := texts_some n hy
          obtain rfl : y = l' := by simpa using hl'
          obtain ⟨rfl, hlt⟩ := take_some ht
          refine ⟨fun _ => ⟨?_, by omega⟩, fun h => absurd rfl h⟩
          rw [putAll, hr, hn]; simp
        · rw [all_left ht (by omega) hy hq] at h
          simp only [Prod.mk.injEq] at h
          obtain ⟨rfl, rfl⟩ := h
          exact ⟨fun h => absurd h (by decide), fun _ => rfl⟩
      · rw [all_err ht (by omega) hy hf] at h
        simp only [Prod.mk.injEq] at h
        obtain ⟨rfl, rfl⟩ := h
        exact ⟨fun h => absurd h hf, fun _ => rfl⟩
end Go.Proofs.Ytahlilhdiklemaa.Wire
