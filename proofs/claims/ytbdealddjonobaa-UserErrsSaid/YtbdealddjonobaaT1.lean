/-
  One text of several, in their order: Term, TSize, TMake, TPure, TTell, TPick, TReads, TOpen. By an AI agent; no person has read it.
-/
import Derived.Test.YtbdealddjonobaaW0
import Derived.Deep.RegionHeld3
import Derived.IntWalk
/-
  PLAIN LEAN, OF NO PROGRAM: terms as bytes (layer 3). By an AI agent; no person has read it.
-/
namespace Go.Proofs.Ytbdealddjonobaa.Term
open Wire

/-- How many parts a kind has. -/
def arity (b : UInt8) : Option Nat :=
  if b = 97 ∨ b = 116 then some 0 else if b = 104 ∨ b = 117 then some 1 else if b = 112 ∨ b = 115 ∨ b = 98 ∨ b = 103 then some 2 else none
/-- How many bytes so many terms have, one behind the other. -/
def sizes (rec : List UInt8 → Nat) : Nat → List UInt8 → Option Nat
  | 0, _ => some 0
  | k + 1, l => if rec l = 0 then none else (sizes rec k (l.drop (rec l))).map (rec l + ·)
/-- How many bytes an atom or a text has, behind its kind. -/
def leaf (b : UInt8) (t : List UInt8) : Option Nat :=
  if b = 97 then (take t).map fun p => t.length - p.2.length
  else if (text t 4000).2.2 = 0 then some (t.length - (text t 4000).2.1.length) else none
def body (rec : List UInt8 → Nat) (b : UInt8) (t : List UInt8) : Option Nat := match arity b with
  | none => none
  | some 0 => leaf b t
  | some (m + 1) => if b = 98 ∧ t.head? ≠ some 117 then none else sizes rec (m + 1) t
def up : Option Nat → Nat
  | none => 0
  | some n => 1 + n
/-- How many bytes the term has that l begins with, at most d deep; 0: it begins with none. -/
def size : Nat → List UInt8 → Nat
  | 0, _ => 0
  | _ + 1, [] => 0
  | d + 1, b :: t => up (body (size d) b t)

theorem take_ext {l : List UInt8} {n : Nat} {r : List UInt8} (h : take l = some (n, r)) (q : List UInt8) : take (l.take (l.length - r.length) ++ q) = some (n, q) := by
  obtain ⟨rfl, hn⟩ := take_some h
  rw [List.length_append, show (put n).length + r.length - r.length = (put n).length by omega, List.take_left, take_put hn]
theorem text_ext {l t r : List UInt8} {m : Int} (h : text l m = (t, r, 0)) (q : List UInt8) : text (l.take (l.length - r.length) ++ q) m = (t, q, 0) := by
  rcases text_cases l m with h' | h' | ⟨t', r', h', hl, ht, hm⟩
  · rw [h'] at h; simp at h
  · rw [h'] at h; simp at h
  · rw [h'] at h
    simp only [Prod.mk.injEq] at h
    obtain ⟨rfl, rfl, _⟩ := h
    rw [hl, List.length_append, show (putText t').length + r'.length - r'.length = (putText t').length by omega, List.take_left, text_put ht _ _ hm]
theorem leaf_le {b : UInt8} {t : List UInt8} {n : Nat} (h : leaf b t = some n) : n ≤ t.length := by
  unfold leaf at h
  split at h
  · obtain ⟨p, _, rfl⟩ := Option.map_eq_some_iff.1 h; omega
  · split at h
    · have := Option.some.inj h; omega
    · cases h
theorem leaf_ext {b : UInt8} {t : List UInt8} {n : Nat} (h : leaf b t = some n) (q : List UInt8) : leaf b (t.take n ++ q) = some n := by
  have hle := leaf_le h
  unfold leaf at h ⊢
  split at h
  · rename_i hb
    rw [if_pos hb]
    obtain ⟨⟨v, r⟩, hp, rfl⟩ := Option.map_eq_some_iff.1 h
    rw [take_ext hp q]
    have := (Wire.take_len hp).1
    simp only [Option.map_some, List.length_append, List.length_take]
    congr 1; omega
  · rename_i hb
    rw [if_neg hb]
    split at h
    · rename_i h0
      obtain ⟨x, r, e, hx⟩ : ∃ x r e, text t 4000 = (x, r, e) := ⟨_, _, _, rfl⟩
      rw [hx] at h0 h
      simp only at h0 h
      subst h0
      have h1 := Option.some.inj h
      have h2 := text_len hx rfl
      rw [← h1, text_ext hx q]
      simp only [if_pos, List.length_append, List.length_take]
      congr 1; omega
    · cases h
theorem sizes_le {rec : List UInt8 → Nat} (hrec : ∀ l, rec l ≤ l.length) : ∀ (k : Nat) {l : List UInt8} {n : Nat}, sizes rec k l = some n → n ≤ l.length
  | 0, l, n, h => by have := Option.some.inj h; omega
  | k + 1, l, n, h => by
    unfold sizes at h
    split at h
    · cases h
    · obtain ⟨m, hm, rfl⟩ := Option.map_eq_some_iff.1 h
      have := sizes_le hrec k hm
      have := hrec l
      rw [List.length_drop] at *
      omega
theorem body_le {rec : List UInt8 → Nat} (hrec : ∀ l, rec l ≤ l.length) {b : UInt8} {t : List UInt8} {n : Nat} (h : body rec b t = some n) : n ≤ t.length := by
  unfold body at h
  split at h
  · cases h
  · exact leaf_le h
  · split at h
    · cases h
    · exact sizes_le hrec _ h
theorem size_le : ∀ (d : Nat) (l : List UInt8), size d l ≤ l.length
  | 0, _ => Nat.zero_le _
  | d + 1, [] => Nat.zero_le _
  | d + 1, b :: t => by
    show up (body (size d) b t) ≤ _
    cases h : body (size d) b t with
    | none => exact Nat.zero_le _
    | some n =>
      have := body_le (size_le d) h
      simp only [up, List.length_cons]; omega

/-- What the size says hangs on the term's own bytes alone. -/
def Ext (rec : List UInt8 → Nat) : Prop := ∀ l q, rec l ≠ 0 → rec (l.take (rec l) ++ q) = rec l
theorem sizes_ext {rec : List UInt8 → Nat} (hrec : ∀ l, rec l ≤ l.length) (hx : Ext rec) : ∀ (k : Nat) {l : List UInt8} {n : Nat} (q : List UInt8), sizes rec k l = some n → sizes rec k (l.take n ++ q) = some n
  | 0, l, n, q, h => h
  | k + 1, l, n, q, h => by
    unfold sizes at h
    split at h
    · cases h
    · rename_i h0
      obtain ⟨m, hm, rfl⟩ := Option.map_eq_some_iff.1 h
      have hle := hrec l
      have hm' := sizes_le hrec k hm
      rw [List.length_drop] at hm'
      have e : l.take (rec l + m) ++ q = l.take (rec l) ++ ((l.drop (rec l)).take m ++ q) := by
        rw [← List.append_assoc, List.take_add]
      have hr : rec (l.take (rec l + m) ++ q) = rec l := by rw [e]; exact hx l _ h0
      unfold sizes
      rw [hr, if_neg h0]
      have e2 : (l.take (rec l + m) ++ q).drop (rec l) = (l.drop (rec l)).take m ++ q := by
        rw [e, List.drop_append_of_le_length (by rw [List.length_take]; omega), List.drop_of_length_le (by rw [List.length_take]; omega), List.nil_append]
      rw [e2, sizes_ext hrec hx k q hm]
      rfl
theorem body_ext {rec : List UInt8 → Nat} (hrec : ∀ l, rec l ≤ l.length) (hx : Ext rec) {b : UInt8} {t : List UInt8} {n : Nat} (h : body rec b t = some n) (q : List UInt8) : body rec b (t.take n ++ q) = some n := by
  unfold body at h ⊢
  split at h
  · cases h
  · exact leaf_ext h q
  · split at h
    · cases h
    · rename_i m _ hb
      rw [if_neg]
      · exact sizes_ext hrec hx _ q h
      · rintro ⟨h1, h2⟩
        refine hb ⟨h1, fun h3 => h2 ?_⟩
        have hn : 0 < n := by
          unfold sizes at h
          split at h
          · cases h
          · obtain ⟨m', _, rfl⟩ := Option.map_eq_some_iff.1 h; omega
        cases t with
        | nil => simp at h3
        | cons x y =>
          obtain ⟨j, rfl⟩ : ∃ j, n = j + 1 := ⟨n - 1, by omega⟩
          simpa using h3
theorem size_ext : ∀ d, Ext (size d)
  | 0, l, q, h => absurd rfl h
  | d + 1, [], q, h => absurd rfl h
  | d + 1, b :: t, q, h => by
    have h' : up (body (size d) b t) ≠ 0 := h
    show size (d + 1) ((b :: t).take (up (body (size d) b t)) ++ q) = up (body (size d) b t)
    cases hb : body (size d) b t with
    | none => rw [hb] at h'; exact absurd rfl h'
    | some n =>
      have e : (b :: t).take (up (some n)) = b :: t.take n := by simp only [up]; rw [Nat.add_comm, List.take_succ_cons]
      rw [e, List.cons_append]
      show up (body (size d) b (t.take n ++ q)) = _
      rw [body_ext (size_le d) (size_ext d) hb q]

/-- Deeper is allowed: the same. -/
theorem sizes_mono {r1 r2 : List UInt8 → Nat} (h12 : ∀ l, r1 l ≠ 0 → r2 l = r1 l) : ∀ (k : Nat) {l : List UInt8} {n : Nat}, sizes r1 k l = some n → sizes r2 k l = some n
  | 0, l, n, h => h
  | k + 1, l, n, h => by
    unfold sizes at h ⊢
    split at h
    · cases h
    · rename_i h0
      obtain ⟨m, hm, rfl⟩ := Option.map_eq_some_iff.1 h
      rw [h12 l h0, if_neg h0, sizes_mono h12 k hm]
      rfl
theorem body_mono {r1 r2 : List UInt8 → Nat} (h12 : ∀ l, r1 l ≠ 0 → r2 l = r1 l) {b : UInt8} {t : List UInt8} {n : Nat} (h : body r1 b t = some n) : body r2 b t = some n := by
  unfold body at h ⊢
  split at h
  · cases h
  · exact h
  · split at h
    · cases h
    · rename_i hb; rw [if_neg hb]; exact sizes_mono h12 _ h
theorem size_mono1 : ∀ (d : Nat) (l : List UInt8), size d l ≠ 0 → size (d + 1) l = size d l
  | 0, l, h => absurd rfl h
  | d + 1, [], h => absurd rfl h
  | d + 1, b :: t, h => by
    have h' : up (body (size d) b t) ≠ 0 := h
    show up (body (size (d + 1)) b t) = up (body (size d) b t)
    cases hb : body (size d) b t with
    | none => rw [hb] at h'; exact absurd rfl h'
    | some n => rw [body_mono (size_mono1 d) hb]
theorem size_mono {d e : Nat} (hde : d ≤ e) {l : List UInt8} (h : size d l ≠ 0) : size e l = size d l := by
  induction e with
  | zero => obtain rfl : d = 0 := by omega
            rfl
  | succ e ih =>
    by_cases hd : d = e + 1
    · rw [hd]
    · have h1 := ih (by omega)
      rw [size_mono1 e l (by rw [h1]; exact h), h1]

/-! ### right terms -/
def right (l : List UInt8) : Bool := decide (l ≠ [] ∧ l.length ≤ 4000 ∧ size 40 l = l.length)
theorem right_iff {l : List UInt8} : right l = true ↔ l ≠ [] ∧ l.length ≤ 4000 ∧ size 40 l = l.length := by simp [right]
theorem right_size {l : List UInt8} (h : right l = true) (q : List UInt8) : size 40 (l ++ q) = l.length := by
  obtain ⟨h1, _, h3⟩ := right_iff.1 h
  have hne : size 40 l ≠ 0 := by rw [h3]; exact fun h => h1 (List.eq_nil_of_length_eq_zero h)
  have := size_ext 40 l q hne
  rw [h3, List.take_length] at this
  exact this
/-- Two terms one behind the other are told apart. -/
theorem right_cut {a b c d : List UInt8} (ha : right a = true) (hc : right c = true) (h : a ++ b = c ++ d) : a = c ∧ b = d := by
  have h1 := right_size ha b
  rw [h, right_size hc d] at h1
  have := List.append_inj h h1.symm
  exact this
theorem right_take {l : List UInt8} (h0 : size 40 l ≠ 0) (hn : size 40 l ≤ 4000) : right (l.take (size 40 l)) = true := by
  have hle := size_le 40 l
  have hx := size_ext 40 l [] h0
  rw [List.append_nil] at hx
  refine right_iff.2 ⟨fun h => ?_, ?_, ?_⟩
  · have := congrArg List.length h
    rw [List.length_take, List.length_nil] at this; omega
  · rw [List.length_take]; omega
  · rw [hx, List.length_take]; omega

/-! ### what the calls answer -/
def made (l : List UInt8) : List UInt8 × Int := if right l = true then (l, 0) else ([], 10)
def one (k : UInt8) (a : List UInt8) : List UInt8 × Int := if right a = true then made (k :: a) else ([], 1)
def two (k : UInt8) (a b : List UInt8) : List UInt8 × Int := if right a = true ∧ right b = true then made (k :: (a ++ b)) else ([], 1)
def box (p a : List UInt8) : List UInt8 × Int := if right p = true ∧ p.head? = some 117 then two 98 p a else ([], 1)
def ofAtom (n : Nat) : List UInt8 := 97 :: put n
def ofText (s : List UInt8) : List UInt8 × Int := made (116 :: putText s)
def read (l : List UInt8) : List UInt8 × List UInt8 × Int := if size 40 l = 0 ∨ 4000 < size 40 l then ([], [], 2) else (l.take (size 40 l), l.drop (size 40 l), 0)
def kind (l : List UInt8) : Nat := if right l = true then (l.headD 0).toNat else 0
def cuts : Nat → List UInt8 → List (List UInt8)
  | 0, _ => []
  | k + 1, l => l.take (size 40 l) :: cuts k (l.drop (size 40 l))
def parts (l : List UInt8) : List (List UInt8) × Int := if right l = true then (cuts ((arity (l.headD 0)).getD 0) l.tail, 0) else ([], 1)
def number (l : List UInt8) : Nat × Int := if right l = true then (if l.headD 0 = 97 then ((tk l.tail).1, (tk l.tail).2.2) else (0, 2)) else (0, 1)
def words (l : List UInt8) : List UInt8 × Int := if right l = true then (if l.headD 0 = 116 then ((text l.tail 4000).1, (text l.tail 4000).2.2) else ([], 2)) else ([], 1)
def opens (k : UInt8) (key c : List UInt8) : List UInt8 × Int := if c.headD 0 = k then (if (parts c).1.headD [] = key then ((parts c).1.getD 1 [], 0) else ([], 6)) else ([], 2)
def open' (key c : List UInt8) : List UInt8 × Int := if right key = true ∧ right c = true then opens 115 key c else ([], 1)
def unbox (secret c : List UInt8) : List UInt8 × Int := if right secret = true ∧ right c = true then opens 98 (117 :: secret) c else ([], 1)
def verify (p a s : List UInt8) : Int := if right p = true ∧ right a = true ∧ right s = true then (if p.headD 0 = 117 ∧ s = 103 :: (p.tail ++ a) then 0 else 7) else 1
end Go.Proofs.Ytbdealddjonobaa.Term

/-
  CONTRACTS of the document's many, size, Right (letterlockref3) at this program. By an AI agent; no person has read it.
-/
namespace Go.Proofs.Ytbdealddjonobaa.Term
open Go.RowKit Wire

theorem ret_i64 {a b : Int} (h : a = b) : Ending.returned (.int .i64 a) = .returned (.int .i64 b) := by rw [h]
def manyI (b : UInt8) : Int := match arity b with | none => -1 | some n => (n : Int)
theorem arity_nat (b : UInt8) : arity b = if b.toNat = 97 ∨ b.toNat = 116 then some 0 else if b.toNat = 104 ∨ b.toNat = 117 then some 1 else if b.toNat = 112 ∨ b.toNat = 115 ∨ b.toNat = 98 ∨ b.toNat = 103 then some 2 else none := by
  have h : ∀ c : UInt8, b = c ↔ b.toNat = c.toNat := fun c => UInt8.toNat_inj.symm
  unfold arity
  simp only [h]
  rfl
/-! ### size -/
/-- What is known of a text's first byte and what is behind it. -/
structure Head (s : ByteArray) (h0 : 0 < s.size) (b : UInt8) (t : List UInt8) : Prop where
  first : s[0] = b
  all : s.data.toList = b :: t
  rest : (s.extract 1 s.size).data.toList = t
  len : t.length + 1 = s.size
  get : ∀ i (hi : i + 1 < s.size), t[i]? = some (s[i + 1]'hi)
theorem head_of {s : ByteArray} (h0 : 0 < s.size) : ∃ b t, Head s h0 b t := by
  obtain ⟨t, ht⟩ : ∃ t, (s.extract 1 s.size).data.toList = t := ⟨_, rfl⟩
  have hl : s.data.toList = s[0] :: t := by rw [take_hd h0, ht]
  have hlen : t.length + 1 = s.size := by rw [Lib.size_eq, hl]; rfl
  refine ⟨s[0], t, rfl, hl, ht, hlen, fun i hi => ?_⟩
  have h1 : (s.data.toList)[i + 1]? = some (s[i + 1]'hi) := by
    rw [List.getElem?_eq_getElem (by rw [← Lib.size_eq]; exact hi)]; rfl
  rw [hl, List.getElem?_cons_succ] at h1
  exact h1
theorem size_zero (l : List UInt8) : size 0 l = 0 := rfl
theorem size_nil (d : Nat) : size d [] = 0 := by cases d <;> rfl
theorem size_cons (d : Nat) (b : UInt8) (t : List UInt8) : size (d + 1) (b :: t) = up (body (size d) b t) := rfl

end Go.Proofs.Ytbdealddjonobaa.Term

/-
  CONTRACTS of the document's Right, made, one, two, OfAtom to Sign (letterlockref3) at this program. By an AI agent; no person has read it.
-/
namespace Go.Proofs.Ytbdealddjonobaa.Term
open Go.RowKit Wire

/-- A string and an error as an ending. -/
def Sr (x : List UInt8 × Int) (e : Ending) : Prop := ∃ T : ByteArray, T.data.toList = x.1 ∧ e = .returned (.tuple #[.string T, .int .i64 x.2])
theorem sr_nil (f : Int) : Sr ([], f) (.returned (.tuple #[.string ⟨#[]⟩, .int .i64 f])) := ⟨⟨#[]⟩, rfl, rfl⟩
theorem right_len {l : List UInt8} (h : right l = true) : 0 < l.length ∧ l.length ≤ 4000 := by
  obtain ⟨h1, h2, _⟩ := right_iff.1 h
  exact ⟨List.length_pos_iff.2 h1, h2⟩
theorem right_sz {s : ByteArray} (h : right s.data.toList = true) : 0 < s.size ∧ s.size ≤ 4000 := by
  rw [Lib.size_eq]; exact right_len h

end Go.Proofs.Ytbdealddjonobaa.Term

/-
  PLAIN FACTS on terms: what is told of right terms. By an AI agent; no person has read it.
-/
namespace Go.Proofs.Ytbdealddjonobaa.Term
open Go.RowKit Wire

/-- A right term's bytes: its kind and what it holds. -/
theorem right_parts {l : List UInt8} (h : right l = true) : ∃ b t m, l = b :: t ∧ arity b = some m ∧ body (size 39) b t = some t.length := by
  obtain ⟨h1, _, h3⟩ := right_iff.1 h
  obtain ⟨b, t, rfl⟩ := List.exists_cons_of_ne_nil h1
  rw [size_cons] at h3
  cases hb : body (size 39) b t with
  | none => rw [hb] at h3; simp [up] at h3
  | some n =>
    rw [hb] at h3
    simp only [up, List.length_cons] at h3
    obtain rfl : n = t.length := by omega
    cases ha : arity b with
    | none => unfold body at hb; rw [ha] at hb; cases hb
    | some m => exact ⟨b, t, m, rfl, ha, hb⟩
theorem kind_right {l : List UInt8} (h : right l = true) : kind l = (l.headD 0).toNat := by unfold kind; rw [if_pos h]
theorem kind_wrong {l : List UInt8} (h : right l = false) : kind l = 0 := by unfold kind; rw [if_neg (by rw [h]; decide)]
theorem kind_pos {l : List UInt8} (h : right l = true) : kind l ≠ 0 := by
  obtain ⟨b, t, m, rfl, ha, _⟩ := right_parts h
  rw [kind_right h]
  intro h0
  have : b = 0 := u8_zero.2 h0
  rw [this] at ha
  have : arity 0 = none := rfl
  rw [this] at ha; cases ha
theorem atom_tk {t : List UInt8} (h : right (97 :: t) = true) : ∃ n, take t = some (n, []) ∧ t = put n ∧ n < 18446744073709551616 := by
  obtain ⟨b, t', m, he, ha, hb⟩ := right_parts h
  obtain ⟨rfl, rfl⟩ : 97 = b ∧ t = t' := by simpa using he
  have h2 : body (size 39) 97 t = leaf 97 t := rfl
  rw [h2] at hb
  unfold leaf at hb
  rw [if_pos rfl] at hb
  obtain ⟨⟨n, r⟩, hp, hlen⟩ := Option.map_eq_some_iff.1 hb
  obtain ⟨e, hn⟩ := take_some hp
  have hl := (Wire.take_len hp).1
  simp only at hlen
  have hr : r = [] := List.eq_nil_of_length_eq_zero (by omega)
  subst hr
  exact ⟨n, hp, by simpa using e, hn⟩
theorem text_tx {t : List UInt8} (h : right (116 :: t) = true) : ∃ s, text t 4000 = (s, [], 0) ∧ t = putText s ∧ s.length ≤ 4000 := by
  obtain ⟨b, t', m, he, ha, hb⟩ := right_parts h
  obtain ⟨rfl, rfl⟩ : 116 = b ∧ t = t' := by simpa using he
  have h2 : body (size 39) 116 t = leaf 116 t := rfl
  rw [h2] at hb
  unfold leaf at hb
  rw [if_neg (by decide)] at hb
  rcases text_cases t 4000 with h' | h' | ⟨s, r, h', hl, hs, hm⟩
  · rw [h'] at hb; simp at hb
  · rw [h'] at hb; simp at hb
  · rw [h'] at hb
    simp only [if_pos] at hb
    have hlen := Option.some.inj hb
    have hz := text_len h' rfl
    have hr : r = [] := List.eq_nil_of_length_eq_zero (by omega)
    subst hr
    exact ⟨s, h', by simpa using hl, by omega⟩
/-- What stands in a term of two parts. -/
theorem two_parts {b : UInt8} {t : List UInt8} (h : right (b :: t) = true) (ha : arity b = some 2) : ∃ x y, t = x ++ y ∧ cuts 2 t = [x, y] ∧ right x = true ∧ right y = true ∧ (b = 98 → x.head? = some 117) := by
  obtain ⟨b', t', m, he, ha', hb⟩ := right_parts h
  obtain ⟨rfl, rfl⟩ : b = b' ∧ t = t' := by simpa using he
  have hlen := (right_len h).2
  simp only [List.length_cons] at hlen
  unfold body at hb
  rw [ha] at hb
  simp only at hb
  split at hb
  · cases hb
  · rename_i hbx
    unfold sizes at hb
    split at hb
    · cases hb
    · rename_i h0
      obtain ⟨q, hq, hsum⟩ := Option.map_eq_some_iff.1 hb
      unfold sizes at hq
      split at hq
      · cases hq
      · rename_i h1
        obtain ⟨z, hz, rfl⟩ := Option.map_eq_some_iff.1 hq
        have hz0 : z = 0 := by
          have := Option.some.inj (show some 0 = some z from hz)
          exact this.symm
        subst hz0
        have hle1 := size_le 39 t
        have m1 := size_mono (d := 39) (e := 40) (by omega) h0
        have m2 := size_mono (d := 39) (e := 40) (by omega) h1
        have r1 : right (t.take (size 40 t)) = true := right_take (by rw [m1]; exact h0) (by rw [m1]; omega)
        have hd : (t.drop (size 40 t)).length = size 40 (t.drop (size 40 t)) := by
          rw [List.length_drop, m1, m2]; omega
        have r2 : right (t.drop (size 40 t)) = true := by
          have h2 := right_take (l := t.drop (size 40 t)) (by rw [m1, m2]; exact h1) (by rw [← hd, List.length_drop]; omega)
          rw [← hd, List.take_length] at h2
          exact h2
        refine ⟨t.take (size 40 t), t.drop (size 40 t), (List.take_append_drop _ _).symm, ?_, r1, r2, fun hb98 => ?_⟩
        · show [t.take (size 40 t), (t.drop (size 40 t)).take (size 40 (t.drop (size 40 t)))] = _
          rw [← hd, List.take_length]
        · have hh : t.head? = some 117 := by
            cases hx : t.head? with
            | none => exact absurd ⟨hb98, by rw [hx]; simp⟩ hbx
            | some c =>
              by_cases hc : c = 117
              · rw [hc]
              · exact absurd ⟨hb98, by rw [hx]; simpa using hc⟩ hbx
          have hpos : 0 < size 40 t := by rw [m1]; omega
          cases t with
          | nil => simp at hh
          | cons c u =>
            obtain ⟨j, hj⟩ : ∃ j, size 40 (c :: u) = j + 1 := ⟨size 40 (c :: u) - 1, by omega⟩
            rw [hj, List.take_succ_cons]
            simpa using hh
theorem one_part {b : UInt8} {t : List UInt8} (h : right (b :: t) = true) (ha : arity b = some 1) (hb8 : b ≠ 98) : right t = true ∧ cuts 1 t = [t] := by
  obtain ⟨b', t', m, he, ha', hb⟩ := right_parts h
  obtain ⟨rfl, rfl⟩ : b = b' ∧ t = t' := by simpa using he
  have hlen := (right_len h).2
  simp only [List.length_cons] at hlen
  unfold body at hb
  rw [ha] at hb
  simp only at hb
  rw [if_neg (fun h => hb8 h.1)] at hb
  unfold sizes at hb
  split at hb
  · cases hb
  · rename_i h0
    obtain ⟨q, hq, hsum⟩ := Option.map_eq_some_iff.1 hb
    have hz0 : q = 0 := (Option.some.inj (show some 0 = some q from hq)).symm
    subst hz0
    have m1 := size_mono (d := 39) (e := 40) (by omega) h0
    have hs : size 40 t = t.length := by omega
    have r1 := right_take (l := t) (by rw [m1]; exact h0) (by rw [hs]; omega)
    rw [hs, List.take_length] at r1
    refine ⟨r1, ?_⟩
    show [t.take (size 40 t)] = _
    rw [hs, List.take_length]

/-- When it is no form. -/
theorem open_form {a b x : List UInt8} {e : Int} (ha : right a = true) (hb : right b = true) (h : open' a b = (x, e)) : (e == 2) = ((kind b : Int) != 115) := by
  obtain ⟨k, t, m, rfl, hm, _⟩ := right_parts hb
  rw [kind_right hb]
  unfold open' opens at h
  rw [if_pos ⟨ha, hb⟩] at h
  simp only [List.headD_cons]
  by_cases hk : k = 115
  · rw [if_pos (show (k :: t).headD 0 = 115 from hk)] at h
    have h2 : e ≠ 2 := by
      split at h <;> simp only [Prod.mk.injEq] at h <;> omega
    rw [hk]
    simpa using h2
  · rw [if_neg (show ¬ (k :: t).headD 0 = 115 from hk)] at h
    simp only [Prod.mk.injEq] at h
    have : (k.toNat : Int) ≠ 115 := fun h => hk (UInt8.toNat_inj.1 (by have : (115 : UInt8).toNat = 115 := rfl; omega))
    rw [← h.2, bne_iff_ne.2 this]; rfl
theorem unbox_form {a b x : List UInt8} {e : Int} (ha : right a = true) (hb : right b = true) (h : unbox a b = (x, e)) : (e == 2) = ((kind b : Int) != 98) := by
  obtain ⟨k, t, m, rfl, hm, _⟩ := right_parts hb
  rw [kind_right hb]
  unfold unbox opens at h
  rw [if_pos ⟨ha, hb⟩] at h
  simp only [List.headD_cons]
  by_cases hk : k = 98
  · rw [if_pos (show (k :: t).headD 0 = 98 from hk)] at h
    have h2 : e ≠ 2 := by
      split at h <;> simp only [Prod.mk.injEq] at h <;> omega
    rw [hk]
    simpa using h2
  · rw [if_neg (show ¬ (k :: t).headD 0 = 98 from hk)] at h
    simp only [Prod.mk.injEq] at h
    have : (k.toNat : Int) ≠ 98 := fun h => hk (UInt8.toNat_inj.1 (by have : (98 : UInt8).toNat = 98 := rfl; omega))
    rw [← h.2, bne_iff_ne.2 this]; rfl
theorem number_form {b : List UInt8} {n : Nat} {e : Int} (hb : right b = true) (h : number b = (n, e)) : (e == 2) = ((kind b : Int) != 97) := by
  obtain ⟨k, t, m, rfl, hm, _⟩ := right_parts hb
  rw [kind_right hb]
  unfold number at h
  rw [if_pos hb] at h
  simp only [List.headD_cons]
  by_cases hk : k = 97
  · subst hk
    obtain ⟨v, hv, _⟩ := atom_tk hb
    rw [if_pos (show ((97 : UInt8) :: t).headD 0 = 97 from rfl), List.tail_cons, tk_some hv] at h
    simp only [Prod.mk.injEq] at h
    rw [← h.2]; rfl
  · rw [if_neg (show ¬ (k :: t).headD 0 = 97 from hk)] at h
    simp only [Prod.mk.injEq] at h
    have : (k.toNat : Int) ≠ 97 := fun h => hk (UInt8.toNat_inj.1 (by have : (97 : UInt8).toNat = 97 := rfl; omega))
    rw [← h.2, bne_iff_ne.2 this]; rfl
theorem words_form {b x : List UInt8} {e : Int} (hb : right b = true) (h : words b = (x, e)) : (e == 2) = ((kind b : Int) != 116) := by
  obtain ⟨k, t, m, rfl, hm, _⟩ := right_parts hb
  rw [kind_right hb]
  unfold words at h
  rw [if_pos hb] at h
  simp only [List.headD_cons]
  by_cases hk : k = 116
  · subst hk
    obtain ⟨v, hv, _⟩ := text_tx hb
    rw [if_pos (show ((116 : UInt8) :: t).headD 0 = 116 from rfl), List.tail_cons, hv] at h
    simp only [Prod.mk.injEq] at h
    rw [← h.2]; rfl
  · rw [if_neg (show ¬ (k :: t).headD 0 = 116 from hk)] at h
    simp only [Prod.mk.injEq] at h
    have : (k.toNat : Int) ≠ 116 := fun h => hk (UInt8.toNat_inj.1 (by have : (116 : UInt8).toNat = 116 := rfl; omega))
    rw [← h.2, bne_iff_ne.2 this]; rfl
end Go.Proofs.Ytbdealddjonobaa.Term

/-
  CONTRACTS of the document's Read, Kind, Number, Words, Parts, opens, Open, Unbox, Verify (letterlockref3) at this program. By an AI agent; no person has read it.
-/
namespace Go.Proofs.Ytbdealddjonobaa.Term
open Go.RowKit Wire

/-- What is known of a right text. -/
theorem right_head {s : ByteArray} (h : right s.data.toList = true) : ∃ (h0 : 0 < s.size) (b : UInt8) (t : List UInt8), Head s h0 b t ∧ s.size ≤ 4000 := by
  obtain ⟨h0, h1⟩ := right_sz h
  obtain ⟨b, t, hh⟩ := head_of h0
  exact ⟨h0, b, t, hh, h1⟩

/-! ### Parts -/
theorem arity_of_right {s : ByteArray} (h : right s.data.toList = true) {h0 : 0 < s.size} {b : UInt8} {t : List UInt8} (hh : Head s h0 b t) : ∃ m, arity b = some m ∧ m ≤ 2 := by
  have h3 := (right_iff.1 h).2.2
  rw [hh.all, size_cons] at h3
  cases ha : arity b with
  | none => unfold body at h3; rw [ha] at h3; simp [up] at h3
  | some m =>
    refine ⟨m, rfl, ?_⟩
    unfold arity at ha
    split at ha
    · have := Option.some.inj ha; omega
    · split at ha
      · have := Option.some.inj ha; omega
      · split at ha
        · have := Option.some.inj ha; omega
        · cases ha
/-- Parts' loop: so many parts are taken off. -/
def Parted (w : World) (t : List UInt8) (m k : Nat) (R : ByteArray) (v : Value) (wr : World) : Prop :=
  ∃ ys : List ByteArray, wr.ownsRow w.heap.size 9 1 v k (sv ys) ∧ ys.length = k ∧ cuts m t = bl ys ++ cuts (m - k) R.data.toList ∧ Below w.heap.size w wr

/-- A list that can be read, in memory from B on. -/
def TaF (B : Nat) (x : List (List UInt8) × Int) (e : Ending) (w' : World) : Prop := ∃ (A : Option Addr) (c : Nat) (ys : List ByteArray), bl ys = x.1 ∧ ys.length ≤ c ∧ SReads w' A ys ∧ (∀ b off, A = some ⟨b, off, none⟩ → B ≤ b) ∧ e = .returned (.tuple #[.slice A ys.length c, .int .i64 x.2])
theorem taF_nil (B : Nat) (f : Int) (w' : World) : TaF B ([], f) (.returned (.tuple #[.slice none 0 0, .int .i64 f])) w' := ⟨none, 0, [], rfl, Nat.le_refl _, SReads.nil _ _, (fun _ _ h => by cases h), rfl⟩
theorem own_fresh {w : World} {base : Nat} {e : TypeId} {a : Option Addr} {n c : Nat} {xs : List Value} (h : w.ownsRow base e 1 (.slice a n c) n xs) : ∀ b off, a = some ⟨b, off, none⟩ → base ≤ b := by
  rintro b off rfl
  rcases h.2 with ⟨hv, _⟩ | ⟨g, cap, cur, hv, hg, _⟩
  · injection hv with h1; cases h1
  · injection hv with h1
    injection h1 with h1
    injection h1 with h1
    subst h1
    exact hg
end Go.Proofs.Ytbdealddjonobaa.Term

/-
  CONTRACTS of the laws' own helpers pick, joined (letterlocklaw3) at this program. By an AI agent; no person has read it.
-/
namespace Go.Proofs.Ytbdealddjonobaa.Term
open Go.RowKit Wire

def Picked (n : Nat) (e : Ending) : Prop := ∃ m : Nat, m < n ∧ e = .returned (.int .i64 (m : Int))
set_option maxHeartbeats 1000000 in
theorem pick_any (c : Int) (n : Nat) (w : World) (hc : -9223372036854775808 ≤ c ∧ c ≤ 9223372036854775807) (hn : 0 < n) (hn2 : n ≤ 9223372036854775807) :
    Calls Try.prog 18 #[.int .i64 c, .int .i64 (n : Int)] w fun e w' => Picked n e ∧ w = w' := by
  obtain ⟨hc1, hc2⟩ := hc
  have hn0 : (0 : Int) < (n : Int) := by omega
  by_cases hneg : c < 0
  · obtain ⟨q, hq⟩ : ∃ q : Nat, c + 1 = -(q : Int) := ⟨(-(c + 1)).toNat, by omega⟩
    obtain ⟨K, hK⟩ : ∃ K : Nat, q % n = K := ⟨_, rfl⟩
    have hKn : K < n := by rw [← hK]; exact Nat.mod_lt _ hn
    have hrem : (c + 1).tmod (n : Int) = -(K : Int) := by rw [hq, Int.neg_tmod, ← Int.ofNat_tmod, hK]
    clear hq hK
    go_enter Try.func18, Try.ntmps18
    go_wp2
    go_ret
    exact ⟨⟨K, hKn, by simp⟩, rfl⟩
  · obtain ⟨q, hq⟩ : ∃ q : Nat, c = (q : Int) := ⟨c.toNat, by omega⟩
    obtain ⟨K, hK⟩ : ∃ K : Nat, q % n = K := ⟨_, rfl⟩
    have hKn : K < n := by rw [← hK]; exact Nat.mod_lt _ hn
    have hrem : c.tmod (n : Int) = (K : Int) := by rw [hq, ← Int.ofNat_tmod, hK]
    have hrem2 : c % (n : Int) = (K : Int) := by rw [hq, ← Int.natCast_emod, hK]
    have hc0 : 0 ≤ c := by omega
    clear hq hK
    go_enter Try.func18, Try.ntmps18
    go_wp2
    go_ret
    exact ⟨⟨K, hKn, rfl⟩, rfl⟩

theorem made_right {l x : List UInt8} {f : Int} (h : made l = (x, f)) : f = 0 → right x = true := by
  unfold made at h
  split at h
  · rename_i hr
    simp only [Prod.mk.injEq] at h
    intro _
    rw [← h.1]; exact hr
  · simp only [Prod.mk.injEq] at h
    intro h0; omega
theorem one_right {k : UInt8} {a x : List UInt8} {f : Int} (h : one k a = (x, f)) : f = 0 → right x = true := by
  unfold one at h
  split at h
  · exact made_right h
  · simp only [Prod.mk.injEq] at h
    intro h0; omega
theorem two_right {k : UInt8} {a b x : List UInt8} {f : Int} (h : two k a b = (x, f)) : f = 0 → right x = true := by
  unfold two at h
  split at h
  · exact made_right h
  · simp only [Prod.mk.injEq] at h
    intro h0; omega
theorem box_right {a b x : List UInt8} {f : Int} (h : box a b = (x, f)) : f = 0 → right x = true := by
  unfold box at h
  split at h
  · exact two_right h
  · simp only [Prod.mk.injEq] at h
    intro h0; omega
theorem made_err {l x : List UInt8} {f : Int} (h : made l = (x, f)) : (f = 0 ∧ x = l ∧ right l = true) ∨ (f = 10 ∧ x = [] ∧ right l = false) := by
  unfold made at h
  split at h
  · rename_i hr
    simp only [Prod.mk.injEq] at h
    exact .inl ⟨h.2.symm, h.1.symm, hr⟩
  · rename_i hr
    simp only [Prod.mk.injEq] at h
    exact .inr ⟨h.2.symm, h.1.symm, by simpa using hr⟩
def AText (e : Ending) : Prop := ∃ T : ByteArray, right T.data.toList = true ∧ e = .returned (.string T)
theorem ofAtom_right {n : Nat} (hn : n < 18446744073709551616) : right (ofAtom n) = true := by
  have h1 := put_le hn
  refine right_iff.2 ⟨by simp [ofAtom], by simp only [ofAtom, List.length_cons]; omega, ?_⟩
  show up (body (size 39) 97 (put n)) = _
  have h2 : body (size 39) 97 (put n) = some (put n).length := by
    have h3 := take_put hn []
    rw [List.append_nil] at h3
    show leaf 97 (put n) = _
    unfold leaf
    rw [if_pos rfl, h3]
    simp
  rw [h2]
  simp only [up, ofAtom, List.length_cons]; omega
theorem ofText_right {s x : List UInt8} {f : Int} (h : ofText s = (x, f)) : f = 0 → right x = true := made_right h

end Go.Proofs.Ytbdealddjonobaa.Term

/-
  SLICES OF NUMBERS that came in, rows of strings of one's own; of the laws' helpers. By an AI agent; no person has read it.
-/
namespace Go.Proofs.Ytbdealddjonobaa.Term
open Go.RowKit Wire

/-- A slice of ints that can be read. -/
def IReads (w : World) (a : Option Addr) (zs : List Int) : Prop :=
  ∀ j, j < zs.length → ∃ b off, a = some ⟨b, off, none⟩ ∧ b < w.heap.size ∧ w.cell? ⟨b, off + j, none⟩ = some (.int .i64 (zs.getD j 0)) ∧ -9223372036854775808 ≤ zs.getD j 0 ∧ zs.getD j 0 ≤ 9223372036854775807
theorem IReads.below {w w' : World} {B : Nat} {a : Option Addr} {zs : List Int} (h : IReads w a zs) (hb : Below B w w') (hB : w.heap.size ≤ B) : IReads w' a zs := fun j hj => by
  obtain ⟨b, off, e, hlt, hc, hz⟩ := h j hj
  exact ⟨b, off, e, Nat.lt_of_lt_of_le hlt hb.size, by rw [hb.cell (p := ⟨b, off + j, none⟩) (Nat.lt_of_lt_of_le hlt hB)]; exact hc, hz⟩
theorem ireads_of {w : World} {a : Option Addr} {len cap : Nat} {zs : List Int}
    (h : (a = none ∧ len = 0 ∧ cap = 0 ∧ zs = []) ∨ ∃ x, a = some x ∧ len ≤ cap ∧ cap ≤ maxLen ∧ zs.length = cap ∧ (∀ i, i < zs.length → w.cell? (x.add i) = some (.int .i64 (zs.getD i 0))) ∧ ∀ n ∈ zs, (Lit.int .i64 n).wf = true) :
    ∃ ys : List Int, ys.length = len ∧ len ≤ cap ∧ cap ≤ maxLen ∧ IReads w a ys := by
  rcases h with ⟨rfl, rfl, rfl, rfl⟩ | ⟨x, rfl, h1, h2, h3, h4, h5⟩
  · exact ⟨[], rfl, Nat.le_refl _, Nat.zero_le _, fun j hj => by simp at hj⟩
  · refine ⟨zs.take len, by rw [List.length_take]; omega, h1, h2, fun j hj => ?_⟩
    rw [List.length_take] at hj
    have c0 := h4 0 (by omega)
    have cj := h4 j (by omega)
    obtain ⟨b, off, sp⟩ := x
    have hb : sp = none ∧ b < w.heap.size := by
      have e0 : (⟨b, off, sp⟩ : Addr).add 0 = ⟨b, off, sp⟩ := by simp [Addr.add]
      rw [e0] at c0
      unfold World.cell? at c0
      simp only at c0
      split at c0
      · rename_i h0
        refine ⟨?_, (Array.getElem?_eq_some_iff.1 h0).1⟩
        cases sp with
        | none => rfl
        | some q => simp at c0
      · cases c0
    obtain ⟨rfl, hlt⟩ := hb
    rw [add_none] at cj
    have e : (zs.take len).getD j 0 = zs.getD j 0 := by simp only [List.getD, List.getElem?_take_of_lt (show j < len by omega)]
    rw [e]
    have hw := int_i64 (h5 (zs.getD j 0) (by simp only [List.getD, List.getElem?_eq_getElem (show j < zs.length by omega), Option.getD_some]; exact List.getElem_mem _))
    exact ⟨b, off, rfl, hlt, cj, hw⟩
theorem tdiv_in {z : Int} (h1 : -9223372036854775808 ≤ z) (h2 : z ≤ 9223372036854775807) : -9223372036854775808 ≤ z.tdiv 10 ∧ z.tdiv 10 ≤ 9223372036854775807 := by
  by_cases h : 0 ≤ z
  · rw [Int.tdiv_eq_ediv_of_nonneg h]; omega
  · obtain ⟨q, rfl⟩ : ∃ q : Int, z = -q := ⟨-z, by omega⟩
    rw [Int.neg_tdiv, Int.tdiv_eq_ediv_of_nonneg (by omega)]; omega
theorem ofText_small {s : List UInt8} (h : s.length ≤ 3000) : ofText s = (116 :: putText s, 0) := by
  have h1 := (put_le (n := s.length) (by omega))
  have hr : right (116 :: putText s) = true := by
    refine right_iff.2 ⟨by simp, by simp only [List.length_cons, putText_len]; omega, ?_⟩
    show up (body (size 39) 116 (putText s)) = _
    have h2 : body (size 39) 116 (putText s) = some (putText s).length := by
      have h3 := text_put (t := s) (by omega) [] 4000 (by omega)
      rw [List.append_nil] at h3
      show leaf 116 (putText s) = _
      unfold leaf
      rw [if_neg (by decide), h3]
      simp
    rw [h2]
    simp only [up, List.length_cons]; omega
  unfold ofText made
  rw [if_pos hr]
theorem ofText_small_right {s : List UInt8} (h : s.length ≤ 3000) : right (116 :: putText s) = true := by
  have h1 := ofText_small h
  exact ofText_right h1 rfl
theorem own_get {w : World} {base : Nat} {e : TypeId} {g n c : Nat} {ys : List ByteArray} (h : w.ownsRow base e 1 (.slice (some ⟨g, 0, none⟩) n c) n (sv ys)) (hy : ys.length = n) {j : Nat} (hj : j < n) : w.cell? ⟨g, j, none⟩ = some (.string (ys.getD j ByteArray.empty)) := by
  rw [h.cellAt j (by omega)]
  simp [sv, List.getD, List.getElem?_eq_getElem (show j < ys.length by omega)]
end Go.Proofs.Ytbdealddjonobaa.Term

/-
  CONTRACTS of the document's opens, Open, Unbox, Verify (letterlockref3) at this program. By an AI agent; no person has read it.
-/
namespace Go.Proofs.Ytbdealddjonobaa.Term
open Go.RowKit Wire

theorem u8_ne {b c : UInt8} (h : b ≠ c) : ((b.toNat : Int) != (c.toNat : Int)) = true := by
  rw [bne_iff_ne]; intro he; exact h (UInt8.toNat_inj.1 (by omega))
theorem u8_eq {b c : UInt8} (h : b = c) : ((b.toNat : Int) != (c.toNat : Int)) = false := by rw [h]; simp
theorem cuts_len : ∀ (k : Nat) (l : List UInt8), (cuts k l).length = k
  | 0, _ => rfl
  | k + 1, l => by simp only [cuts, List.length_cons, cuts_len k]

end Go.Proofs.Ytbdealddjonobaa.Term
