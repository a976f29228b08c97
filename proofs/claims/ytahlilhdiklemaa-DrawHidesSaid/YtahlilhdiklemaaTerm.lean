/-
  PLAIN LEAN, OF NO PROGRAM: terms as bytes (layer 3). By an AI agent; no person has read it.
-/
import Derived.Test.YtahlilhdiklemaaWire
namespace Go.Proofs.Ytahlilhdiklemaa.Term
open Wire

/-- How many parts a kind has. -/
def arity (b : UInt8) : Option Nat :=
  if b = 97 ∨ b = 116 then some 0 else if b = 104 ∨ b = 117 then some 1 else if b = 112 ∨ b = 115 ∨ b = 98 ∨ b = 103 then some 2 else none
/-- How many bytes so many terms have, one behind the other. -/
def sizes (rec : List UInt8 → Nat) : Nat → List UInt8 → Option Nat
  | 0, _ => some 0
  | k + 1, l => if rec l = 0 then none else (sizes rec k (l.drop (rec l))).map (rec l + ·)
/-- How many bytes an atom or a text has, behind its kind. -/
def leaf (b : UInt8) (t : List UInt8) : Option Nat :=
  if b = 97 then (take t).map fun p => t.length - p.2.length
  else if (text t 4000).2.2 = 0 then some (t.length - (text t 4000).2.1.length) else none
def body (rec : List UInt8 → Nat) (b : UInt8) (t : List UInt8) : Option Nat := match arity b with
  | none => none
  | some 0 => leaf b t
  | some (m + 1) => if b = 98 ∧ t.head? ≠ some 117 then none else sizes rec (m + 1) t
def up : Option Nat → Nat
  | none => 0
  | some n => 1 + n
/-- How many bytes the term has that l begins with, at most d deep; 0: it begins with none. -/
def size : Nat → List UInt8 → Nat
  | 0, _ => 0
  | _ + 1, [] => 0
  | d + 1, b :: t => up (body (size d) b t)

theorem take_ext {l : List UInt8} {n : Nat} {r : List UInt8} (h : take l = some (n, r)) (q : List UInt8) : take (l.take (l.length - r.length) ++ q) = some (n, q) := by
  obtain ⟨rfl, hn⟩ := take_some h
  rw [List.length_append, show (put n).length + r.length - r.length = (put n).length by omega, List.take_left, take_put hn]
theorem text_ext {l t r : List UInt8} {m : Int} (h : text l m = (t, r, 0)) (q : List UInt8) : text (l.take (l.length - r.length) ++ q) m = (t, q, 0) := by
  rcases text_cases l m with h' | h' | ⟨t', r', h', hl, ht, hm⟩
  · rw [h'] at h; simp at h
  · rw [h'] at h; simp at h
  · rw [h'] at h
    simp only [Prod.mk.injEq] at h
    obtain ⟨rfl, rfl, _⟩ := h
    rw [hl, List.length_append, show (putText t').length + r'.length - r'.length = (putText t').length by omega, List.take_left, text_put ht _ _ hm]
theorem leaf_le {b : UInt8} {t : List UInt8} {n : Nat} (h : leaf b t = some n) : n ≤ t.length := by
  unfold leaf at h
  split at h
  · obtain ⟨p, _, rfl⟩ := Option.map_eq_some_iff.1 h; omega
  · split at h
    · have := Option.some.inj h; omega
    · cases h
theorem leaf_ext {b : UInt8} {t : List UInt8} {n : Nat} (h : leaf b t = some n) (q : List UInt8) : leaf b (t.take n ++ q) = some n := by
  have hle := leaf_le h
  unfold leaf at h ⊢
  split at h
  · rename_i hb
    rw [if_pos hb]
    obtain ⟨⟨v, r⟩, hp, rfl⟩ := Option.map_eq_some_iff.1 h
    rw [take_ext hp q]
    have := (take_len hp).1
    simp only [Option.map_some, List.length_append, List.length_take]
    congr 1; omega
  · rename_i hb
    rw [if_neg hb]
    split at h
    · rename_i h0
      obtain ⟨x, r, e, hx⟩ : ∃ x r e, text t 4000 = (x, r, e) := ⟨_, _, _, rfl⟩
      rw [hx] at h0 h
      simp only at h0 h
      subst h0
      have h1 := Option.some.inj h
      have h2 := text_len hx rfl
      rw [← h1, text_ext hx q]
      simp only [if_pos, List.length_append, List.length_take]
      congr 1; omega
    · cases h
theorem sizes_le {rec : List UInt8 → Nat} (hrec : ∀ l, rec l ≤ l.length) : ∀ (k : Nat) {l : List UInt8} {n : Nat}, sizes rec k l = some n → n ≤ l.length
  | 0, l, n, h => by have := Option.some.inj h; omega
  | k + 1, l, n, h => by
    unfold sizes at h
    split at h
    · cases h
    · obtain ⟨m, hm, rfl⟩ := Option.map_eq_some_iff.1 h
      have := sizes_le hrec k hm
      have := hrec l
      rw [List.length_drop] at *
      omega
theorem body_le {rec : List UInt8 → Nat} (hrec : ∀ l, rec l ≤ l.length) {b : UInt8} {t : List UInt8} {n : Nat} (h : body rec b t = some n) : n ≤ t.length := by
  unfold body at h
  split at h
  · cases h
  · exact leaf_le h
  · split at h
    · cases h
    · exact sizes_le hrec _ h
theorem size_le : ∀ (d : Nat) (l : List UInt8), size d l ≤ l.length
  | 0, _ => Nat.zero_le _
  | d + 1, [] => Nat.zero_le _
  | d + 1, b :: t => by
    show up (body (size d) b t) ≤ _
    cases h : body (size d) b t with
    | none => exact Nat.zero_le _
    | some n =>
      have := body_le (size_le d) h
      simp only [up, List.length_cons]; omega

/-- What the size says hangs on the term's own bytes alone. -/
def Ext (rec : List UInt8 → Nat) : Prop := ∀ l q, rec l ≠ 0 → rec (l.take (rec l) ++ q) = rec l
theorem sizes_ext {rec : List UInt8 → Nat} (hrec : ∀ l, rec l ≤ l.length) (hx : Ext rec) : ∀ (k : Nat) {l : List UInt8} {n : Nat} (q : List UInt8), sizes rec k l = some n → sizes rec k (l.take n ++ q) = some n
  | 0, l, n, q, h => h
  | k + 1, l, n, q, h => by
    unfold sizes at h
    split at h
    · cases h
    · rename_i h0
      obtain ⟨m, hm, rfl⟩ := Option.map_eq_some_iff.1 h
      have hle := hrec l
      have hm' := sizes_le hrec k hm
      rw [List.length_drop] at hm'
      have e : l.take (rec l + m) ++ q = l.take (rec l) ++ ((l.drop (rec l)).take m ++ q) := by
        rw [← List.append_assoc, List.take_add]
      have hr : rec (l.take (rec l + m) ++ q) = rec l := by rw [e]; exact hx l _ h0
      unfold sizes
      rw [hr, if_neg h0]
      have e2 : (l.take (rec l + m) ++ q).drop (rec l) = (l.drop (rec l)).take m ++ q := by
        rw [e, List.drop_append_of_le_length (by rw [List.length_take]; omega), List.drop_of_length_le (by rw [List.length_take]; omega), List.nil_append]
      rw [e2, sizes_ext hrec hx k q hm]
      rfl
theorem body_ext {rec : List UInt8 → Nat} (hrec : ∀ l, rec l ≤ l.length) (hx : Ext rec) {b : UInt8} {t : List UInt8} {n : Nat} (h : body rec b t = some n) (q : List UInt8) : body rec b (t.take n ++ q) = some n := by
  unfold body at h ⊢
  split at h
  · cases h
  · exact leaf_ext h q
  · split at h
    · cases h
    · rename_i m _ hb
      rw [if_neg]
      · exact sizes_ext hrec hx _ q h
      · rintro ⟨h1, h2⟩
        refine hb ⟨h1, fun h3 => h2 ?_⟩
        have hn : 0 < n := by
          unfold sizes at h
          split at h
          · cases h
          · obtain ⟨m', _, rfl⟩ := Option.map_eq_some_iff.1 h; omega
        cases t with
        | nil => simp at h3
        | cons x y =>
          obtain ⟨j, rfl⟩ : ∃ j, n = j + 1 := ⟨n - 1, by omega⟩
          simpa using h3
theorem size_ext : ∀ d, Ext (size d)
  | 0, l, q, h => absurd rfl h
  | d + 1, [], q, h => absurd rfl h
  | d + 1, b :: t, q, h => by
    have h' : up (body (size d) b t) ≠ 0 := h
    show size (d + 1) ((b :: t).take (up (body (size d) b t)) ++ q) = up (body (size d) b t)
    cases hb : body (size d) b t with
    | none => rw [hb] at h'; exact absurd rfl h'
    | some n =>
      have e : (b :: t).take (up (some n)) = b :: t.take n := by simp only [up]; rw [Nat.add_comm, List.take_succ_cons]
      rw [e, List.cons_append]
      show up (body (size d) b (t.take n ++ q)) = _
      rw [body_ext (size_le d) (size_ext d) hb q]

/-- Deeper is allowed: the same. -/
theorem sizes_mono {r1 r2 : List UInt8 → Nat} (h12 : ∀ l, r1 l ≠ 0 → r2 l = r1 l) : ∀ (k : Nat) {l : List UInt8} {n : Nat}, sizes r1 k l = some n → sizes r2 k l = some n
  | 0, l, n, h => h
  | k + 1, l, n, h => by
    unfold sizes at h ⊢
    split at h
    · cases h
    · rename_i h0
      obtain ⟨m, hm, rfl⟩ := Option.map_eq_some_iff.1 h
      rw [h12 l h0, if_neg h0, sizes_mono h12 k hm]
      rfl
theorem body_mono {r1 r2 : List UInt8 → Nat} (h12 : ∀ l, r1 l ≠ 0 → r2 l = r1 l) {b : UInt8} {t : List UInt8} {n : Nat} (h : body r1 b t = some n) : body r2 b t = some n := by
  unfold body at h ⊢
  split at h
  · cases h
  · exact h
  · split at h
    · cases h
    · rename_i hb; rw [if_neg hb]; exact sizes_mono h12 _ h
theorem size_mono1 : ∀ (d : Nat) (l : List UInt8), size d l ≠ 0 → size (d + 1) l = size d l
  | 0, l, h => absurd rfl h
  | d + 1, [], h => absurd rfl h
  | d + 1, b :: t, h => by
    have h' : up (body (size d) b t) ≠ 0 := h
    show up (body (size (d + 1)) b t) = up (body (size d) b t)
    cases hb : body (size d) b t with
    | none => rw [hb] at h'; exact absurd rfl h'
    | some n => rw [body_mono (size_mono1 d) hb]
theorem size_mono {d e : Nat} (hde : d ≤ e) {l : List UInt8} (h : size d l ≠ 0) : size e l = size d l := by
  induction e with
  | zero => obtain rfl : d = 0 := by omega
            rfl
  | succ e ih =>
    by_cases hd : d = e + 1
    · rw [hd]
    · have h1 := ih (by omega)
      rw [size_mono1 e l (by rw [h1]; exact h), h1]

/-! ### right terms -/
def right (l : List UInt8) : Bool := decide (l ≠ [] ∧ l.length ≤ 4000 ∧ size 40 l = l.length)
theorem right_iff {l : List UInt8} : right l = true ↔ l ≠ [] ∧ l.length ≤ 4000 ∧ size 40 l = l.length := by simp [right]
theorem right_size {l : List UInt8} (h : right l = true) (q : List UInt8) : size 40 (l ++ q) = l.length := by
  obtain ⟨h1, _, h3⟩ := right_iff.1 h
  have hne : size 40 l ≠ 0 := by rw [h3]; exact fun h => h1 (List.eq_nil_of_length_eq_zero h)
  have := size_ext 40 l q hne
  rw [h3, List.take_length] at this
  exact this
/-- Two terms one behind the other are told apart. -/
theorem right_cut {a b c d : List UInt8} (ha : right a = true) (hc : right c = true) (h : a ++ b = c ++ d) : a = c ∧ b = d := by
  have h1 := right_size ha b
  rw [h, right_size hc d] at h1
  have := List.append_inj h h1.symm
  exact this
theorem right_take {l : List UInt8} (h0 : size 40 l ≠ 0) (hn : size 40 l ≤ 4000) : right (l.take (size 40 l)) = true := by
  have hle := size_le 40 l
  have hx := size_ext 40 l [] h0
  rw [List.append_nil] at hx
  refine right_iff.2 ⟨fun h => ?_, ?_, ?_⟩
  · have := congrArg List.length h
    rw [List.length_take, List.length_nil] at this; omega
  · rw [List.length_take]; omega
  · rw [hx, List.length_take]; omega

/-! ### what the calls answer -/
def made (l : List UInt8) : List UInt8 × Int := if right l = true then (l, 0) else ([], 10)
def one (k : UInt8) (a : List UInt8) : List UInt8 × Int := if right a = true then made (k :: a) else ([], 1)
def two (k : UInt8) (a b : List UInt8) : List UInt8 × Int := if right a = true ∧ right b = true then made (k :: (a ++ b)) else ([], 1)
def box (p a : List UInt8) : List UInt8 × Int := if right p = true ∧ p.head? = some 117 then two 98 p a else ([], 1)
def ofAtom (n : Nat) : List UInt8 := 97 :: put n
def ofText (s : List UInt8) : List UInt8 × Int := made (116 :: putText s)
def read (l : List UInt8) : List UInt8 × List UInt8 × Int := if size 40 l = 0 ∨ 4000 < size 40 l then ([], [], 2) else (l.take (size 40 l), l.drop (size 40 l), 0)
def kind (l : List UInt8) : Nat := if right l = true then (l.headD 0).toNat else 0
def cuts : Nat → List UInt8 → List (List UInt8)
  | 0, _ => []
  | k + 1, l => l.take (size 40 l) :: cuts k (l.drop (size 40 l))
def parts (l : List UInt8) : List (List UInt8) × Int := if right l = true then (cuts ((arity (l.headD 0)).getD 0) l.tail, 0) else ([], 1)
def number (l : List UInt8) : Nat × Int := if right l = true then (if l.headD 0 = 97 then ((tk l.tail).1, (tk l.tail).2.2) else (0, 2)) else (0, 1)
def words (l : List UInt8) : List UInt8 × Int := if right l = true then (if l.headD 0 = 116 then ((text l.tail 4000).1, (text l.tail 4000).2.2) else ([], 2)) else ([], 1)
def opens (k : UInt8) (key c : List UInt8) : List UInt8 × Int := if c.headD 0 = k then (if (parts c).1.headD [] = key then ((parts c).1.getD 1 [], 0) else ([], 6)) else ([], 2)
def open' (key c : List UInt8) : List UInt8 × Int := if right key = true ∧ right c = true then opens 115 key c else ([], 1)
def unbox (secret c : List UInt8) : List UInt8 × Int := if right secret = true ∧ right c = true then opens 98 (117 :: secret) c else ([], 1)
def verify (p a s : List UInt8) : Int := if right p = true ∧ right a = true ∧ right s = true then (if p.headD 0 = 117 ∧ s = 103 :: (p.tail ++ a) then 0 else 7) else 1
end Go.Proofs.Ytahlilhdiklemaa.Term
