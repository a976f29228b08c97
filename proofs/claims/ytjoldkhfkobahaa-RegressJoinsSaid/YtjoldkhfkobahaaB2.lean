/-
  One text of several, in their order: Term, TSize, TMake, TPure, TTell, TPick, TReads, TGrown, TShape, TTakes, TTwo, TWhole, TAsk, TAsk2, TParts1, TJoin, TOpen, TCode. By an AI agent; no person has read it.
-/
import Derived.Test.YtjoldkhfkobahaaB1
import Derived.Deep.RegionHeld3
import Derived.IntWalk
/-
  PLAIN LEAN, OF NO PROGRAM: terms as bytes (layer 3). By an AI agent; no person has read it.
-/
namespace Go.Proofs.Ytjoldkhfkobahaa.Term
open Wire

/-- How many parts a kind has. -/
def arity (b : UInt8) : Option Nat :=
  if b = 97 ∨ b = 116 then some 0 else if b = 104 ∨ b = 117 then some 1 else if b = 112 ∨ b = 115 ∨ b = 98 ∨ b = 103 then some 2 else none
/-- How many bytes so many terms have, one behind the other. -/
def sizes (rec : List UInt8 → Nat) : Nat → List UInt8 → Option Nat
  | 0, _ => some 0
  | k + 1, l => if rec l = 0 then none else (sizes rec k (l.drop (rec l))).map (rec l + ·)
/-- How many bytes an atom or a text has, behind its kind. -/
def leaf (b : UInt8) (t : List UInt8) : Option Nat :=
  if b = 97 then (take t).map fun p => t.length - p.2.length
  else if (text t 4000).2.2 = 0 then some (t.length - (text t 4000).2.1.length) else none
def body (rec : List UInt8 → Nat) (b : UInt8) (t : List UInt8) : Option Nat := match arity b with
  | none => none
  | some 0 => leaf b t
  | some (m + 1) => if b = 98 ∧ t.head? ≠ some 117 then none else sizes rec (m + 1) t
def up : Option Nat → Nat
  | none => 0
  | some n => 1 + n
/-- How many bytes the term has that l begins with, at most d deep; 0: it begins with none. -/
def size : Nat → List UInt8 → Nat
  | 0, _ => 0
  | _ + 1, [] => 0
  | d + 1, b :: t => up (body (size d) b t)

theorem take_ext {l : List UInt8} {n : Nat} {r : List UInt8} (h : take l = some (n, r)) (q : List UInt8) : take (l.take (l.length - r.length) ++ q) = some (n, q) := by
  obtain ⟨rfl, hn⟩ := take_some h
  rw [List.length_append, show (put n).length + r.length - r.length = (put n).length by omega, List.take_left, take_put hn]
theorem text_ext {l t r : List UInt8} {m : Int} (h : text l m = (t, r, 0)) (q : List UInt8) : text (l.take (l.length - r.length) ++ q) m = (t, q, 0) := by
  rcases text_cases l m with h' | h' | ⟨t', r', h', hl, ht, hm⟩
  · rw [h'] at h; simp at h
  · rw [h'] at h; simp at h
  · rw [h'] at h
    simp only [Prod.mk.injEq] at h
    obtain ⟨rfl, rfl, _⟩ := h
    rw [hl, List.length_append, show (putText t').length + r'.length - r'.length = (putText t').length by omega, List.take_left, text_put ht _ _ hm]
theorem leaf_le {b : UInt8} {t : List UInt8} {n : Nat} (h : leaf b t = some n) : n ≤ t.length := by
  unfold leaf at h
  split at h
  · obtain ⟨p, _, rfl⟩ := Option.map_eq_some_iff.1 h; omega
  · split at h
    · have := Option.some.inj h; omega
    · cases h
theorem leaf_ext {b : UInt8} {t : List UInt8} {n : Nat} (h : leaf b t = some n) (q : List UInt8) : leaf b (t.take n ++ q) = some n := by
  have hle := leaf_le h
  unfold leaf at h ⊢
  split at h
  · rename_i hb
    rw [if_pos hb]
    obtain ⟨⟨v, r⟩, hp, rfl⟩ := Option.map_eq_some_iff.1 h
    rw [take_ext hp q]
    have := (take_len hp).1
    simp only [Option.map_some, List.length_append, List.length_take]
    congr 1; omega
  · rename_i hb
    rw [if_neg hb]
    split at h
    · rename_i h0
      obtain ⟨x, r, e, hx⟩ : ∃ x r e, text t 4000 = (x, r, e) := ⟨_, _, _, rfl⟩
      rw [hx] at h0 h
      simp only at h0 h
      subst h0
      have h1 := Option.some.inj h
      have h2 := text_len hx rfl
      rw [← h1, text_ext hx q]
      simp only [if_pos, List.length_append, List.length_take]
      congr 1; omega
    · cases h
theorem sizes_le {rec : List UInt8 → Nat} (hrec : ∀ l, rec l ≤ l.length) : ∀ (k : Nat) {l : List UInt8} {n : Nat}, sizes rec k l = some n → n ≤ l.length
  | 0, l, n, h => by have := Option.some.inj h; omega
  | k + 1, l, n, h => by
    unfold sizes at h
    split at h
    · cases h
    · obtain ⟨m, hm, rfl⟩ := Option.map_eq_some_iff.1 h
      have := sizes_le hrec k hm
      have := hrec l
      rw [List.length_drop] at *
      omega
theorem body_le {rec : List UInt8 → Nat} (hrec : ∀ l, rec l ≤ l.length) {b : UInt8} {t : List UInt8} {n : Nat} (h : body rec b t = some n) : n ≤ t.length := by
  unfold body at h
  split at h
  · cases h
  · exact leaf_le h
  · split at h
    · cases h
    · exact sizes_le hrec _ h
theorem size_le : ∀ (d : Nat) (l : List UInt8), size d l ≤ l.length
  | 0, _ => Nat.zero_le _
  | d + 1, [] => Nat.zero_le _
  | d + 1, b :: t => by
    show up (body (size d) b t) ≤ _
    cases h : body (size d) b t with
    | none => exact Nat.zero_le _
    | some n =>
      have := body_le (size_le d) h
      simp only [up, List.length_cons]; omega

/-- What the size says hangs on the term's own bytes alone. -/
def Ext (rec : List UInt8 → Nat) : Prop := ∀ l q, rec l ≠ 0 → rec (l.take (rec l) ++ q) = rec l
theorem sizes_ext {rec : List UInt8 → Nat} (hrec : ∀ l, rec l ≤ l.length) (hx : Ext rec) : ∀ (k : Nat) {l : List UInt8} {n : Nat} (q : List UInt8), sizes rec k l = some n → sizes rec k (l.take n ++ q) = some n
  | 0, l, n, q, h => h
  | k + 1, l, n, q, h => by
    unfold sizes at h
    split at h
    · cases h
    · rename_i h0
      obtain ⟨m, hm, rfl⟩ := Option.map_eq_some_iff.1 h
      have hle := hrec l
      have hm' := sizes_le hrec k hm
      rw [List.length_drop] at hm'
      have e : l.take (rec l + m) ++ q = l.take (rec l) ++ ((l.drop (rec l)).take m ++ q) := by
        rw [← List.append_assoc, List.take_add]
      have hr : rec (l.take (rec l + m) ++ q) = rec l := by rw [e]; exact hx l _ h0
      unfold sizes
      rw [hr, if_neg h0]
      have e2 : (l.take (rec l + m) ++ q).drop (rec l) = (l.drop (rec l)).take m ++ q := by
        rw [e, List.drop_append_of_le_length (by rw [List.length_take]; omega), List.drop_of_length_le (by rw [List.length_take]; omega), List.nil_append]
      rw [e2, sizes_ext hrec hx k q hm]
      rfl
theorem body_ext {rec : List UInt8 → Nat} (hrec : ∀ l, rec l ≤ l.length) (hx : Ext rec) {b : UInt8} {t : List UInt8} {n : Nat} (h : body rec b t = some n) (q : List UInt8) : body rec b (t.take n ++ q) = some n := by
  unfold body at h ⊢
  split at h
  · cases h
  · exact leaf_ext h q
  · split at h
    · cases h
    · rename_i m _ hb
      rw [if_neg]
      · exact sizes_ext hrec hx _ q h
      · rintro ⟨h1, h2⟩
        refine hb ⟨h1, fun h3 => h2 ?_⟩
        have hn : 0 < n := by
          unfold sizes at h
          split at h
          · cases h
          · obtain ⟨m', _, rfl⟩ := Option.map_eq_some_iff.1 h; omega
        cases t with
        | nil => simp at h3
        | cons x y =>
          obtain ⟨j, rfl⟩ : ∃ j, n = j + 1 := ⟨n - 1, by omega⟩
          simpa using h3
theorem size_ext : ∀ d, Ext (size d)
  | 0, l, q, h => absurd rfl h
  | d + 1, [], q, h => absurd rfl h
  | d + 1, b :: t, q, h => by
    have h' : up (body (size d) b t) ≠ 0 := h
    show size (d + 1) ((b :: t).take (up (body (size d) b t)) ++ q) = up (body (size d) b t)
    cases hb : body (size d) b t with
    | none => rw [hb] at h'; exact absurd rfl h'
    | some n =>
      have e : (b :: t).take (up (some n)) = b :: t.take n := by simp only [up]; rw [Nat.add_comm, List.take_succ_cons]
      rw [e, List.cons_append]
      show up (body (size d) b (t.take n ++ q)) = _
      rw [body_ext (size_le d) (size_ext d) hb q]

/-- Deeper is allowed: the same. -/
theorem sizes_mono {r1 r2 : List UInt8 → Nat} (h12 : ∀ l, r1 l ≠ 0 → r2 l = r1 l) : ∀ (k : Nat) {l : List UInt8} {n : Nat}, sizes r1 k l = some n → sizes r2 k l = some n
  | 0, l, n, h => h
  | k + 1, l, n, h => by
    unfold sizes at h ⊢
    split at h
    · cases h
    · rename_i h0
      obtain ⟨m, hm, rfl⟩ := Option.map_eq_some_iff.1 h
      rw [h12 l h0, if_neg h0, sizes_mono h12 k hm]
      rfl
theorem body_mono {r1 r2 : List UInt8 → Nat} (h12 : ∀ l, r1 l ≠ 0 → r2 l = r1 l) {b : UInt8} {t : List UInt8} {n : Nat} (h : body r1 b t = some n) : body r2 b t = some n := by
  unfold body at h ⊢
  split at h
  · cases h
  · exact h
  · split at h
    · cases h
    · rename_i hb; rw [if_neg hb]; exact sizes_mono h12 _ h
theorem size_mono1 : ∀ (d : Nat) (l : List UInt8), size d l ≠ 0 → size (d + 1) l = size d l
  | 0, l, h => absurd rfl h
  | d + 1, [], h => absurd rfl h
  | d + 1, b :: t, h => by
    have h' : up (body (size d) b t) ≠ 0 := h
    show up (body (size (d + 1)) b t) = up (body (size d) b t)
    cases hb : body (size d) b t with
    | none => rw [hb] at h'; exact absurd rfl h'
    | some n => rw [body_mono (size_mono1 d) hb]
theorem size_mono {d e : Nat} (hde : d ≤ e) {l : List UInt8} (h : size d l ≠ 0) : size e l = size d l := by
  induction e with
  | zero => obtain rfl : d = 0 := by omega
            rfl
  | succ e ih =>
    by_cases hd : d = e + 1
    · rw [hd]
    · have h1 := ih (by omega)
      rw [size_mono1 e l (by rw [h1]; exact h), h1]

/-! ### right terms -/
def right (l : List UInt8) : Bool := decide (l ≠ [] ∧ l.length ≤ 4000 ∧ size 40 l = l.length)
theorem right_iff {l : List UInt8} : right l = true ↔ l ≠ [] ∧ l.length ≤ 4000 ∧ size 40 l = l.length := by simp [right]
theorem right_size {l : List UInt8} (h : right l = true) (q : List UInt8) : size 40 (l ++ q) = l.length := by
  obtain ⟨h1, _, h3⟩ := right_iff.1 h
  have hne : size 40 l ≠ 0 := by rw [h3]; exact fun h => h1 (List.eq_nil_of_length_eq_zero h)
  have := size_ext 40 l q hne
  rw [h3, List.take_length] at this
  exact this
/-- Two terms one behind the other are told apart. -/
theorem right_cut {a b c d : List UInt8} (ha : right a = true) (hc : right c = true) (h : a ++ b = c ++ d) : a = c ∧ b = d := by
  have h1 := right_size ha b
  rw [h, right_size hc d] at h1
  have := List.append_inj h h1.symm
  exact this
theorem right_take {l : List UInt8} (h0 : size 40 l ≠ 0) (hn : size 40 l ≤ 4000) : right (l.take (size 40 l)) = true := by
  have hle := size_le 40 l
  have hx := size_ext 40 l [] h0
  rw [List.append_nil] at hx
  refine right_iff.2 ⟨fun h => ?_, ?_, ?_⟩
  · have := congrArg List.length h
    rw [List.length_take, List.length_nil] at this; omega
  · rw [List.length_take]; omega
  · rw [hx, List.length_take]; omega

/-! ### what the calls answer -/
def made (l : List UInt8) : List UInt8 × Int := if right l = true then (l, 0) else ([], 10)
def one (k : UInt8) (a : List UInt8) : List UInt8 × Int := if right a = true then made (k :: a) else ([], 1)
def two (k : UInt8) (a b : List UInt8) : List UInt8 × Int := if right a = true ∧ right b = true then made (k :: (a ++ b)) else ([], 1)
def box (p a : List UInt8) : List UInt8 × Int := if right p = true ∧ p.head? = some 117 then two 98 p a else ([], 1)
def ofAtom (n : Nat) : List UInt8 := 97 :: put n
def ofText (s : List UInt8) : List UInt8 × Int := made (116 :: putText s)
def read (l : List UInt8) : List UInt8 × List UInt8 × Int := if size 40 l = 0 ∨ 4000 < size 40 l then ([], [], 2) else (l.take (size 40 l), l.drop (size 40 l), 0)
def kind (l : List UInt8) : Nat := if right l = true then (l.headD 0).toNat else 0
def cuts : Nat → List UInt8 → List (List UInt8)
  | 0, _ => []
  | k + 1, l => l.take (size 40 l) :: cuts k (l.drop (size 40 l))
def parts (l : List UInt8) : List (List UInt8) × Int := if right l = true then (cuts ((arity (l.headD 0)).getD 0) l.tail, 0) else ([], 1)
def number (l : List UInt8) : Nat × Int := if right l = true then (if l.headD 0 = 97 then ((tk l.tail).1, (tk l.tail).2.2) else (0, 2)) else (0, 1)
def words (l : List UInt8) : List UInt8 × Int := if right l = true then (if l.headD 0 = 116 then ((text l.tail 4000).1, (text l.tail 4000).2.2) else ([], 2)) else ([], 1)
def opens (k : UInt8) (key c : List UInt8) : List UInt8 × Int := if c.headD 0 = k then (if (parts c).1.headD [] = key then ((parts c).1.getD 1 [], 0) else ([], 6)) else ([], 2)
def open' (key c : List UInt8) : List UInt8 × Int := if right key = true ∧ right c = true then opens 115 key c else ([], 1)
def unbox (secret c : List UInt8) : List UInt8 × Int := if right secret = true ∧ right c = true then opens 98 (117 :: secret) c else ([], 1)
def verify (p a s : List UInt8) : Int := if right p = true ∧ right a = true ∧ right s = true then (if p.headD 0 = 117 ∧ s = 103 :: (p.tail ++ a) then 0 else 7) else 1
end Go.Proofs.Ytjoldkhfkobahaa.Term

/-
  CONTRACTS of the document's many, size, Right (letterlockref3) at this program. By an AI agent; no person has read it.
-/
namespace Go.Proofs.Ytjoldkhfkobahaa.Term
open Go.RowKit Wire

theorem ret_i64 {a b : Int} (h : a = b) : Ending.returned (.int .i64 a) = .returned (.int .i64 b) := by rw [h]
def manyI (b : UInt8) : Int := match arity b with | none => -1 | some n => (n : Int)
theorem arity_nat (b : UInt8) : arity b = if b.toNat = 97 ∨ b.toNat = 116 then some 0 else if b.toNat = 104 ∨ b.toNat = 117 then some 1 else if b.toNat = 112 ∨ b.toNat = 115 ∨ b.toNat = 98 ∨ b.toNat = 103 then some 2 else none := by
  have h : ∀ c : UInt8, b = c ↔ b.toNat = c.toNat := fun c => UInt8.toNat_inj.symm
  unfold arity
  simp only [h]
  rfl
set_option maxHeartbeats 2000000 in
theorem many_any (b : UInt8) (w : World) : Calls Try.prog 59 #[.int .u8 (b.toNat : Int)] w fun e w' => e = .returned (.int .i64 (manyI b)) ∧ w = w' := by
  have HA := Lib.hid (arity_nat b)
  obtain ⟨c, hc⟩ : ∃ c : Nat, b.toNat = c := ⟨_, rfl⟩
  rw [hc] at HA ⊢
  clear hc
  go_enter Try.func59, Try.ntmps59
  go_wp2
  all_goals go_ret
  all_goals refine ⟨ret_i64 ?_, rfl⟩
  all_goals unfold manyI
  all_goals rw [HA.out]
  all_goals simp only [beq_iff_eq, beq_eq_false_iff_ne, ne_eq] at *
  all_goals first
    | (rw [if_pos (by omega)] <;> rfl)
    | (rw [if_neg (by omega), if_pos (by omega)] <;> rfl)
    | (rw [if_neg (by omega), if_neg (by omega), if_pos (by omega)] <;> rfl)
    | (rw [if_neg (by omega), if_neg (by omega), if_neg (by omega)] <;> rfl)

/-! ### size -/
/-- What is known of a text's first byte and what is behind it. -/
structure Head (s : ByteArray) (h0 : 0 < s.size) (b : UInt8) (t : List UInt8) : Prop where
  first : s[0] = b
  all : s.data.toList = b :: t
  rest : (s.extract 1 s.size).data.toList = t
  len : t.length + 1 = s.size
  get : ∀ i (hi : i + 1 < s.size), t[i]? = some (s[i + 1]'hi)
theorem head_of {s : ByteArray} (h0 : 0 < s.size) : ∃ b t, Head s h0 b t := by
  obtain ⟨t, ht⟩ : ∃ t, (s.extract 1 s.size).data.toList = t := ⟨_, rfl⟩
  have hl : s.data.toList = s[0] :: t := by rw [take_hd h0, ht]
  have hlen : t.length + 1 = s.size := by rw [Lib.size_eq, hl]; rfl
  refine ⟨s[0], t, rfl, hl, ht, hlen, fun i hi => ?_⟩
  have h1 : (s.data.toList)[i + 1]? = some (s[i + 1]'hi) := by
    rw [List.getElem?_eq_getElem (by rw [← Lib.size_eq]; exact hi)]; rfl
  rw [hl, List.getElem?_cons_succ] at h1
  exact h1
theorem size_zero (l : List UInt8) : size 0 l = 0 := rfl
theorem size_nil (d : Nat) : size d [] = 0 := by cases d <;> rfl
theorem size_cons (d : Nat) (b : UInt8) (t : List UInt8) : size (d + 1) (b :: t) = up (body (size d) b t) := rfl

set_option maxHeartbeats 4000000 in
set_option maxRecDepth 1000000 in
theorem size_empty (s : ByteArray) (d : Int) (w : World) (h : s.data.toList = []) : Calls Try.prog 46 #[.string s, .int .i64 d] w fun e w' => e = .returned (.int .i64 0) ∧ Below w.heap.size w w' := by
  have he := empty_str h
  clear h
  go_enter Try.func46, Try.ntmps46
  go_wp2_with fail
  go_ret
  exact ⟨rfl, Below.refl _ _⟩
set_option maxHeartbeats 4000000 in
set_option maxRecDepth 1000000 in
theorem size_none (s : ByteArray) (w : World) (h : s.data.toList ≠ []) : Calls Try.prog 46 #[.string s, .int .i64 0] w fun e w' => e = .returned (.int .i64 0) ∧ Below w.heap.size w w' := by
  have he := nonempty_str h
  clear h
  go_enter Try.func46, Try.ntmps46
  go_wp2_with fail
  go_ret
  exact ⟨rfl, Below.refl _ _⟩

set_option maxHeartbeats 1000000 in
set_option maxRecDepth 1000000 in
theorem size_rest (d : Nat) (s : ByteArray) (w : World) (h0 : 0 < s.size) (b : UInt8) (t : List UInt8) (m : Nat) (hd : d + 1 ≤ 40) (hs : s.size ≤ 140737488355328) (hh : Head s h0 b t) (ha : arity b = some m) (hm : ¬ m = 0)
    (ih : ∀ (s : ByteArray) (w : World), s.size ≤ 140737488355328 → Calls Try.prog 46 #[.string s, .int .i64 (d : Int)] w fun e w' => e = .returned (.int .i64 (size d s.data.toList : Nat)) ∧ Below w.heap.size w w') :
    Calls Try.prog 46 #[.string s, .int .i64 ((d + 1 : Nat) : Int)] w fun e w' => e = .returned (.int .i64 (size (d + 1) s.data.toList : Nat)) ∧ Below w.heap.size w w' := by
  have IH := Lib.hid ih
  have HH := Lib.hid hh
  have he := nonempty_str (s := s) (by rw [hh.all]; simp)
  have hb := hh.first
  have hx0 : (0 : Int) < (s.size : Int) := by omega
  have hdd : (((d : Int) + 1) == 0) = false := by rw [beq_eq_false_iff_ne]; omega
  have HM : Hid (manyI b = (m : Int)) := by show _ = _; unfold manyI; rw [ha]
  have hbn : ∀ c : UInt8, b = c ↔ (b.toNat : Int) = (c.toNat : Int) := fun c => ⟨fun h => by rw [h], fun h => UInt8.toNat_inj.1 (by omega)⟩
  have HBN := Lib.hid hbn
  obtain ⟨Z, hZ⟩ : ∃ Z, size (d + 1) s.data.toList = Z := ⟨_, rfl⟩
  rw [hZ]
  have HZ := Lib.hid hZ
  clear hbn ih hh hZ
  have hm2 : 0 < m ∧ m ≤ 2 := by
    unfold arity at ha
    split at ha
    · have := Option.some.inj ha; omega
    · split at ha
      · have := Option.some.inj ha; omega
      · split at ha
        · have := Option.some.inj ha; omega
        · cases ha
  obtain ⟨hm0, hm2⟩ := hm2
  have hc : b ≠ 97 ∧ b ≠ 116 := by
    constructor
    · rintro rfl; have : arity 97 = some 0 := rfl
      rw [this] at ha; have := Option.some.inj ha; omega
    · rintro rfl; have : arity 116 = some 0 := rfl
      rw [this] at ha; have := Option.some.inj ha; omega
  have c1 : ((b.toNat : Int) == 97) = false := by
    rw [beq_eq_false_iff_ne]; intro h; exact hc.1 ((HBN.out 97).2 h)
  have c2 : ((b.toNat : Int) == 116) = false := by
    rw [beq_eq_false_iff_ne]; intro h; exact hc.2 ((HBN.out 116).2 h)
  have hbody : body (size d) b t = if b = 98 ∧ t.head? ≠ some 117 then none else sizes (size d) m t := by
    unfold body; rw [ha]
    obtain ⟨k, rfl⟩ : ∃ k, m = k + 1 := ⟨m - 1, by omega⟩
    rfl
  clear hc ha hm
  by_cases hbx : b = 98
  · have c3 : ((b.toNat : Int) == 98) = true := by rw [hbx]; rfl
    by_cases hu : t.head? = some 117
    · rw [if_neg (by simp [hu])] at hbody
      have HBODY := Lib.hid hbody
      have ht1 : 1 < s.size := by
        have := HH.out.len
        cases t with
        | nil => simp at hu
        | cons x y => simp only [List.length_cons] at this; omega
      have c4 : (((s[1]'ht1).toNat : Int) != 117) = false := by
        have h := HH.out.get 0 ht1
        rw [List.head?_eq_getElem?, h] at hu
        rw [Option.some.inj hu]; rfl
      have ht1' : (1 : Int) < (s.size : Int) := by omega
      clear hbody hbx hu
      go_enter Try.func46, Try.ntmps46
      go_wp2_with (go_at_call 59; refine (many_any b _).mono ?_; rw [HM.out]; rintro e w' ⟨rfl, rfl⟩)
      go_loopw [8, 9] (fun p q wr => ∃ i a : Nat, i ≤ m ∧ 1 ≤ a ∧ a ≤ s.size ∧ q = .int .i64 i ∧ p = .int .i64 a ∧ Hid (i = 0 → a = 1) ∧ Hid (sizes (size d) m t = (sizes (size d) (m - i) (t.drop (a - 1))).map ((a - 1) + ·)) ∧ Hid (Below w.heap.size w wr)) (fun _ q _ => m - (intOf q).toNat)
      case atStart => exact ⟨0, 1, Nat.zero_le _, Nat.le_refl _, by omega, rfl, rfl, fun _ => rfl, by show _ = _; simp, Below.refl _ _⟩
      case round =>
        obtain ⟨i, a, hi, ha1, ha2, rfl, rfl, H0, HS, HW⟩ := hrel
        by_cases hlt : i < m
        · obtain ⟨n, hn⟩ : ∃ n, size d (t.drop (a - 1)) = n := ⟨_, rfl⟩
          have hxd : (s.extract a s.size).data.toList = t.drop (a - 1) := by
            rw [extract_drop, HH.out.all]
            obtain ⟨a', rfl⟩ : ∃ a', a = a' + 1 := ⟨a - 1, by omega⟩
            simp
          have hxz : (s.extract a s.size).size ≤ 140737488355328 := by rw [Lib.size_eq, extract_drop, List.length_drop, ← Lib.size_eq]; omega
          have hnle : a + n ≤ s.size := by
            have h1 := size_le d (t.drop (a - 1))
            rw [hn, List.length_drop] at h1
            have := HH.out.len
            omega
          have hst : sizes (size d) (m - i) (t.drop (a - 1)) = if n = 0 then none else (sizes (size d) (m - (i + 1)) ((t.drop (a - 1)).drop n)).map (n + ·) := by
            rw [show m - i = (m - (i + 1)) + 1 by omega]
            show (if size d (t.drop (a - 1)) = 0 then none else _) = _
            rw [hn]
          have HXD := Lib.hid hxd
          have HN := Lib.hid hn
          have ha3 : (0 : Int) ≤ (a : Int) := by omega
          have ha4 : (a : Int) ≤ (s.size : Int) := by omega
          clear hxd hn
          by_cases hn0 : n = 0
          · subst hn0
            rw [if_pos rfl] at hst
            have HSZ : Hid (size (d + 1) s.data.toList = 0) := by
              show _ = _
              rw [HH.out.all, size_cons, HBODY.out, HS.out, hst]; rfl
            clear hst
            by_cases hi0 : i = 0
            · have ha0 := H0.out hi0
              subst hi0 ha0
              go_wp2_with (first
                | (go_at_call 59; refine (many_any b _).mono ?_; rw [HM.out]; rintro e w' ⟨rfl, rfl⟩)
                | (go_at_call 46; refine (IH.out _ _ hxz).mono ?_; rw [HXD.out, HN.out]; rintro e w5 ⟨rfl, hb5⟩; have HB5 := Lib.hid (HW.out.trans (hb5.mono HW.out.size)); clear hb5))
              go_ret
              exact ⟨ret_i64 (by have h1 := HSZ.out; have h2 := HZ.out; omega), HB5.out⟩
            · have hib : ((i : Int) == 0) = false := by rw [beq_eq_false_iff_ne]; omega
              go_wp2_with (first
                | (go_at_call 59; refine (many_any b _).mono ?_; rw [HM.out]; rintro e w' ⟨rfl, rfl⟩)
                | (go_at_call 46; refine (IH.out _ _ hxz).mono ?_; rw [HXD.out, HN.out]; rintro e w5 ⟨rfl, hb5⟩; have HB5 := Lib.hid (HW.out.trans (hb5.mono HW.out.size)); clear hb5))
              go_ret
              exact ⟨ret_i64 (by have h1 := HSZ.out; have h2 := HZ.out; omega), HB5.out⟩
          · have hnb : ((n : Int) == 0) = false := by rw [beq_eq_false_iff_ne]; omega
            rw [if_neg hn0] at hst
            have HST := Lib.hid hst
            clear hst hn0
            by_cases hi0 : i = 0
            · have ha0 := H0.out hi0
              subst hi0 ha0
              go_wp2_with (first
                | (go_at_call 59; refine (many_any b _).mono ?_; rw [HM.out]; rintro e w' ⟨rfl, rfl⟩)
                | (go_at_call 46; refine (IH.out _ _ hxz).mono ?_; rw [HXD.out, HN.out]; rintro e w5 ⟨rfl, hb5⟩; have HB5 := Lib.hid (HW.out.trans (hb5.mono HW.out.size)); clear hb5))
              go_roundw
              case rel =>
                refine ⟨0 + 1, 1 + n, by omega, by omega, hnle, by go_num, by go_num, fun h => absurd h (by omega), ?_, HB5⟩
                show _ = _
                rw [HS.out, HST.out, List.drop_drop, show 1 - 1 + n = 1 + n - 1 by omega]
                cases sizes (size d) (m - (0 + 1)) (t.drop (1 + n - 1)) with
                | none => rfl
                | some z =>
                  simp only [Option.map_some]
                  congr 1
                  omega
              case measure => simp [intOf]; omega
            · have hib : ((i : Int) == 0) = false := by rw [beq_eq_false_iff_ne]; omega
              go_wp2_with (first
                | (go_at_call 59; refine (many_any b _).mono ?_; rw [HM.out]; rintro e w' ⟨rfl, rfl⟩)
                | (go_at_call 46; refine (IH.out _ _ hxz).mono ?_; rw [HXD.out, HN.out]; rintro e w5 ⟨rfl, hb5⟩; have HB5 := Lib.hid (HW.out.trans (hb5.mono HW.out.size)); clear hb5))
              go_roundw
              case rel =>
                refine ⟨i + 1, a + n, by omega, by omega, hnle, by go_num, by go_num, fun h => absurd h (by omega), ?_, HB5⟩
                show _ = _
                rw [HS.out, HST.out, List.drop_drop, show a - 1 + n = a + n - 1 by omega]
                cases sizes (size d) (m - (i + 1)) (t.drop (a + n - 1)) with
                | none => rfl
                | some z =>
                  simp only [Option.map_some]
                  congr 1
                  omega
              case measure => simp [intOf]; omega
        · obtain rfl : i = m := by omega
          have hsz : size (d + 1) s.data.toList = a := by
            have h := HS.out
            rw [Nat.sub_self] at h
            have h2 : sizes (size d) i t = some (a - 1) := by rw [h]; rfl
            rw [HH.out.all, size_cons, HBODY.out, h2]
            show 1 + (a - 1) = a
            omega
          have HSZ := Lib.hid hsz
          clear hsz
          go_wp2_with (go_at_call 59; refine (many_any b _).mono ?_; rw [HM.out]; rintro e w' ⟨rfl, rfl⟩)
          go_ret
          exact ⟨ret_i64 (by have h1 := HSZ.out; have h2 := HZ.out; omega), HW.out⟩
    · rw [if_pos ⟨hbx, hu⟩] at hbody
      have HSZ : Hid (size (d + 1) s.data.toList = 0) := by
        show _ = _
        rw [HH.out.all, size_cons, hbody]; rfl
      clear hbody hbx
      by_cases ht1 : 1 < s.size
      · have c4 : (((s[1]'ht1).toNat : Int) != 117) = true := by
          have h := HH.out.get 0 ht1
          rw [List.head?_eq_getElem?, h] at hu
          have : (s[1]'ht1).toNat ≠ 117 := fun h => hu (by rw [UInt8.toNat_inj.1 (show (s[1]'ht1).toNat = (117 : UInt8).toNat from h)])
          rw [bne_iff_ne]; omega
        have ht1' : (1 : Int) < (s.size : Int) := by omega
        clear hu
        go_enter Try.func46, Try.ntmps46
        go_wp2_with (go_at_call 59; refine (many_any b _).mono ?_; rw [HM.out]; rintro e w' ⟨rfl, rfl⟩)
        go_loopw [8, 9] (fun p q wr => p = .int .i64 1 ∧ q = .int .i64 0 ∧ wr = w) (fun _ _ _ => 0)
        case atStart => exact ⟨rfl, rfl, rfl⟩
        case round =>
          obtain ⟨rfl, rfl, rfl⟩ := hrel
          go_wp2_with (go_at_call 59; refine (many_any b _).mono ?_; rw [HM.out]; rintro e w' ⟨rfl, rfl⟩)
          go_ret
          exact ⟨ret_i64 (by have h1 := HSZ.out; have h2 := HZ.out; omega), Below.refl _ _⟩
      · have ht1' : (s.size : Int) ≤ 1 := by omega
        clear hu
        go_enter Try.func46, Try.ntmps46
        go_wp2_with (go_at_call 59; refine (many_any b _).mono ?_; rw [HM.out]; rintro e w' ⟨rfl, rfl⟩)
        go_loopw [8, 9] (fun p q wr => p = .int .i64 1 ∧ q = .int .i64 0 ∧ wr = w) (fun _ _ _ => 0)
        case atStart => exact ⟨rfl, rfl, rfl⟩
        case round =>
          obtain ⟨rfl, rfl, rfl⟩ := hrel
          go_wp2_with (go_at_call 59; refine (many_any b _).mono ?_; rw [HM.out]; rintro e w' ⟨rfl, rfl⟩)
          go_ret
          exact ⟨ret_i64 (by have h1 := HSZ.out; have h2 := HZ.out; omega), Below.refl _ _⟩
  · rw [if_neg (fun h => hbx h.1)] at hbody
    have HBODY := Lib.hid hbody
    have c3 : ((b.toNat : Int) == 98) = false := by
      rw [beq_eq_false_iff_ne]; intro h; exact hbx ((HBN.out 98).2 h)
    clear hbody hbx
    go_enter Try.func46, Try.ntmps46
    go_wp2_with (go_at_call 59; refine (many_any b _).mono ?_; rw [HM.out]; rintro e w' ⟨rfl, rfl⟩)
    go_loopw [8, 9] (fun p q wr => ∃ i a : Nat, i ≤ m ∧ 1 ≤ a ∧ a ≤ s.size ∧ q = .int .i64 i ∧ p = .int .i64 a ∧ Hid (i = 0 → a = 1) ∧ Hid (sizes (size d) m t = (sizes (size d) (m - i) (t.drop (a - 1))).map ((a - 1) + ·)) ∧ Hid (Below w.heap.size w wr)) (fun _ q _ => m - (intOf q).toNat)
    case atStart => exact ⟨0, 1, Nat.zero_le _, Nat.le_refl _, by omega, rfl, rfl, fun _ => rfl, by show _ = _; simp, Below.refl _ _⟩
    case round =>
      obtain ⟨i, a, hi, ha1, ha2, rfl, rfl, H0, HS, HW⟩ := hrel
      by_cases hlt : i < m
      · obtain ⟨n, hn⟩ : ∃ n, size d (t.drop (a - 1)) = n := ⟨_, rfl⟩
        have hxd : (s.extract a s.size).data.toList = t.drop (a - 1) := by
          rw [extract_drop, HH.out.all]
          obtain ⟨a', rfl⟩ : ∃ a', a = a' + 1 := ⟨a - 1, by omega⟩
          simp
        have hxz : (s.extract a s.size).size ≤ 140737488355328 := by rw [Lib.size_eq, extract_drop, List.length_drop, ← Lib.size_eq]; omega
        have hnle : a + n ≤ s.size := by
          have h1 := size_le d (t.drop (a - 1))
          rw [hn, List.length_drop] at h1
          have := HH.out.len
          omega
        have hst : sizes (size d) (m - i) (t.drop (a - 1)) = if n = 0 then none else (sizes (size d) (m - (i + 1)) ((t.drop (a - 1)).drop n)).map (n + ·) := by
          rw [show m - i = (m - (i + 1)) + 1 by omega]
          show (if size d (t.drop (a - 1)) = 0 then none else _) = _
          rw [hn]
        have HXD := Lib.hid hxd
        have HN := Lib.hid hn
        have ha3 : (0 : Int) ≤ (a : Int) := by omega
        have ha4 : (a : Int) ≤ (s.size : Int) := by omega
        clear hxd hn
        by_cases hn0 : n = 0
        · subst hn0
          rw [if_pos rfl] at hst
          have HSZ : Hid (size (d + 1) s.data.toList = 0) := by
            show _ = _
            rw [HH.out.all, size_cons, HBODY.out, HS.out, hst]; rfl
          clear hst
          go_wp2_with (first
            | (go_at_call 59; refine (many_any b _).mono ?_; rw [HM.out]; rintro e w' ⟨rfl, rfl⟩)
            | (go_at_call 46; refine (IH.out _ _ hxz).mono ?_; rw [HXD.out, HN.out]; rintro e w5 ⟨rfl, hb5⟩; have HB5 := Lib.hid (HW.out.trans (hb5.mono HW.out.size)); clear hb5))
          go_ret
          exact ⟨ret_i64 (by have h1 := HSZ.out; have h2 := HZ.out; omega), HB5.out⟩
        · have hnb : ((n : Int) == 0) = false := by rw [beq_eq_false_iff_ne]; omega
          rw [if_neg hn0] at hst
          have HST := Lib.hid hst
          clear hst hn0
          go_wp2_with (first
            | (go_at_call 59; refine (many_any b _).mono ?_; rw [HM.out]; rintro e w' ⟨rfl, rfl⟩)
            | (go_at_call 46; refine (IH.out _ _ hxz).mono ?_; rw [HXD.out, HN.out]; rintro e w5 ⟨rfl, hb5⟩; have HB5 := Lib.hid (HW.out.trans (hb5.mono HW.out.size)); clear hb5))
          go_roundw
          case rel =>
            refine ⟨i + 1, a + n, by omega, by omega, hnle, by go_num, by go_num, fun h => absurd h (by omega), ?_, HB5⟩
            show _ = _
            rw [HS.out, HST.out, List.drop_drop, show a - 1 + n = a + n - 1 by omega]
            cases sizes (size d) (m - (i + 1)) (t.drop (a + n - 1)) with
            | none => rfl
            | some z =>
              simp only [Option.map_some]
              congr 1
              omega
          case measure => simp [intOf]; omega
      · obtain rfl : i = m := by omega
        have hsz : size (d + 1) s.data.toList = a := by
          have h := HS.out
          rw [Nat.sub_self] at h
          have h2 : sizes (size d) i t = some (a - 1) := by rw [h]; rfl
          rw [HH.out.all, size_cons, HBODY.out, h2]
          show 1 + (a - 1) = a
          omega
        have HSZ := Lib.hid hsz
        clear hsz
        go_wp2_with (go_at_call 59; refine (many_any b _).mono ?_; rw [HM.out]; rintro e w' ⟨rfl, rfl⟩)
        go_ret
        exact ⟨ret_i64 (by have h1 := HSZ.out; have h2 := HZ.out; omega), HW.out⟩

set_option maxHeartbeats 4000000 in
set_option maxRecDepth 1000000 in
theorem size_any : ∀ (d : Nat) (s : ByteArray) (w : World), d ≤ 40 → s.size ≤ 140737488355328 →
    Calls Try.prog 46 #[.string s, .int .i64 (d : Int)] w fun e w' => e = .returned (.int .i64 (size d s.data.toList : Nat)) ∧ Below w.heap.size w w'
  | 0, s, w, _, hs => by
    by_cases h : s.data.toList = []
    · exact size_empty s _ w h
    · exact size_none s w h
  | d + 1, s, w, hd, hs => by
    by_cases h : s.data.toList = []
    · rw [h, size_nil]; exact size_empty s _ w h
    · have h0 : 0 < s.size := by
        rw [Lib.size_eq]; exact List.length_pos_iff.2 h
      have IH : Hid (∀ (s : ByteArray) (w : World), s.size ≤ 140737488355328 → Calls Try.prog 46 #[.string s, .int .i64 (d : Int)] w fun e w' => e = .returned (.int .i64 (size d s.data.toList : Nat)) ∧ Below w.heap.size w w') := fun s w hs => size_any d s w (by omega) hs
      obtain ⟨b, t, hh⟩ := head_of h0
      have he := nonempty_str h
      have HH := Lib.hid hh
      have hb := hh.first
      have hx0 : (0 : Int) < (s.size : Int) := by omega
      have hx1 : (1 : Int) ≤ (s.size : Int) := by omega
      have hez : (s.extract 1 s.size).size ≤ 140737488355328 := by
        have h1 := hh.len
        rw [Lib.size_eq, hh.rest]; omega
      have hdd : (((d : Int) + 1) == 0) = false := by rw [beq_eq_false_iff_ne]; omega
      clear h hh
      have hbn : ∀ c : UInt8, b = c ↔ (b.toNat : Int) = (c.toNat : Int) := fun c => ⟨fun h => by rw [h], fun h => UInt8.toNat_inj.1 (by omega)⟩
      have HBN := Lib.hid hbn
      clear hbn
      cases ha : arity b with
      | none =>
        have HSZ : Hid (size (d + 1) s.data.toList = 0) := by
          show _ = _
          rw [HH.out.all, size_cons]; unfold body; rw [ha]; rfl
        have HM : Hid (manyI b = -1) := by show _ = _; unfold manyI; rw [ha]
        clear ha
        rw [HSZ.out]
        go_enter Try.func46, Try.ntmps46
        go_wp2_with (go_at_call 59; refine (many_any b _).mono ?_; rw [HM.out]; rintro e w' ⟨rfl, rfl⟩)
        go_ret
        exact ⟨rfl, Below.refl _ _⟩
      | some m =>
        have HM : Hid (manyI b = (m : Int)) := by show _ = _; unfold manyI; rw [ha]
        by_cases hm : m = 0
        · subst hm
          have hc : b = 97 ∨ b = 116 := by
            unfold arity at ha
            split at ha
            · assumption
            · split at ha
              · cases ha
              · split at ha <;> cases ha
          have hbody : body (size d) b t = leaf b t := by unfold body; rw [ha]
          clear ha
          rcases hc with hc | hc
          · have c1 : ((b.toNat : Int) == 97) = true := by rw [hc]; rfl
            have c2 : ((b.toNat : Int) == 116) = false := by rw [hc]; rfl
            rcases take_tk (l := t) with ⟨h1, h2⟩ | ⟨n, r, h1, h2, h3⟩
            · have HSZ : Hid (size (d + 1) s.data.toList = 0) := by
                show _ = _
                rw [HH.out.all, size_cons, hbody]; unfold leaf; rw [if_pos hc, h1]; rfl
              have HTK := Lib.hid h2
              clear hbody hc h1 h2
              rw [HSZ.out]
              go_enter Try.func46, Try.ntmps46
              go_wp2_with (go_at_call 59; refine (many_any b _).mono ?_; rw [HM.out]; rintro e w' ⟨rfl, rfl⟩)
              refine (refTake_any _ _ hez).mono ?_
              rw [HH.out.rest, HTK.out]
              rintro e w1 ⟨⟨R, hR, rfl⟩, hbl⟩
              dsimp only at hR ⊢
              have HBL := Lib.hid hbl
              clear hR hbl
              go_wp2
              go_ret
              exact ⟨rfl, HBL.out⟩
            · have hr := (take_len h1).1
              have HSZ : Hid (size (d + 1) s.data.toList = 1 + (t.length - r.length)) := by
                show _ = _
                rw [HH.out.all, size_cons, hbody]; unfold leaf; rw [if_pos hc, h1]; rfl
              have HTK := Lib.hid h2
              clear hbody hc h1 h2 h3
              rw [HSZ.out]
              go_enter Try.func46, Try.ntmps46
              go_wp2_with (go_at_call 59; refine (many_any b _).mono ?_; rw [HM.out]; rintro e w' ⟨rfl, rfl⟩)
              refine (refTake_any _ _ hez).mono ?_
              rw [HH.out.rest, HTK.out]
              rintro e w1 ⟨⟨R, hR, rfl⟩, hbl⟩
              dsimp only at hR ⊢
              have HBL := Lib.hid hbl
              have hRz : R.size = r.length := by rw [Lib.size_eq, hR]
              have hRle : R.size ≤ s.size := by have := HH.out.len; omega
              have HRZ := Lib.hid hRz
              clear hR hbl hRz
              go_wp2
              go_ret
              exact ⟨ret_i64 (by have := HRZ.out; have := HH.out.len; omega), HBL.out⟩
          · have c1 : ((b.toNat : Int) == 97) = false := by rw [hc]; rfl
            have c2 : ((b.toNat : Int) == 116) = true := by rw [hc]; rfl
            obtain ⟨x, y, f, htk⟩ : ∃ x y f, tk t = (x, y, f) := ⟨_, _, _, rfl⟩
            have HTK := Lib.hid htk
            clear htk
            rcases text_cases t 4000 with h | h | ⟨q, r, h, hl, _⟩
            · have HSZ : Hid (size (d + 1) s.data.toList = 0) := by
                show _ = _
                rw [HH.out.all, size_cons, hbody]; unfold leaf; rw [if_neg (by rw [hc]; decide), h]; rfl
              have HTX := Lib.hid h
              clear hbody hc h
              rw [HSZ.out]
              go_enter Try.func46, Try.ntmps46
              go_wp2_with (go_at_call 59; refine (many_any b _).mono ?_; rw [HM.out]; rintro e w' ⟨rfl, rfl⟩)
              refine (refTake_any _ _ hez).mono ?_
              rw [HH.out.rest, HTK.out]
              rintro e w1 ⟨⟨R0, hR0, rfl⟩, hbl⟩
              dsimp only at hR0 ⊢
              have HBL := Lib.hid hbl
              clear hR0 hbl
              go_wp2_with fail
              refine (refText_any _ 4000 _ hez (by omega)).mono ?_
              rw [HH.out.rest, HTX.out]
              rintro e w2 ⟨⟨Q, R, hQ, hR, rfl⟩, hbl⟩
              dsimp only at hQ hR ⊢
              have HBL2 := Lib.hid (HBL.out.trans (hbl.mono HBL.out.size))
              clear hQ hR hbl
              go_wp2
              go_ret
              exact ⟨rfl, HBL2.out⟩
            · have HSZ : Hid (size (d + 1) s.data.toList = 0) := by
                show _ = _
                rw [HH.out.all, size_cons, hbody]; unfold leaf; rw [if_neg (by rw [hc]; decide), h]; rfl
              have HTX := Lib.hid h
              clear hbody hc h
              rw [HSZ.out]
              go_enter Try.func46, Try.ntmps46
              go_wp2_with (go_at_call 59; refine (many_any b _).mono ?_; rw [HM.out]; rintro e w' ⟨rfl, rfl⟩)
              refine (refTake_any _ _ hez).mono ?_
              rw [HH.out.rest, HTK.out]
              rintro e w1 ⟨⟨R0, hR0, rfl⟩, hbl⟩
              dsimp only at hR0 ⊢
              have HBL := Lib.hid hbl
              clear hR0 hbl
              go_wp2_with fail
              refine (refText_any _ 4000 _ hez (by omega)).mono ?_
              rw [HH.out.rest, HTX.out]
              rintro e w2 ⟨⟨Q, R, hQ, hR, rfl⟩, hbl⟩
              dsimp only at hQ hR ⊢
              have HBL2 := Lib.hid (HBL.out.trans (hbl.mono HBL.out.size))
              clear hQ hR hbl
              go_wp2
              go_ret
              exact ⟨rfl, HBL2.out⟩
            · have hr := text_len h rfl
              have HSZ : Hid (size (d + 1) s.data.toList = 1 + (t.length - r.length)) := by
                show _ = _
                rw [HH.out.all, size_cons, hbody]; unfold leaf; rw [if_neg (by rw [hc]; decide), h]; rfl
              have HTX := Lib.hid h
              clear hbody hc h hl
              rw [HSZ.out]
              go_enter Try.func46, Try.ntmps46
              go_wp2_with (go_at_call 59; refine (many_any b _).mono ?_; rw [HM.out]; rintro e w' ⟨rfl, rfl⟩)
              refine (refTake_any _ _ hez).mono ?_
              rw [HH.out.rest, HTK.out]
              rintro e w1 ⟨⟨R0, hR0, rfl⟩, hbl⟩
              dsimp only at hR0 ⊢
              have HBL := Lib.hid hbl
              clear hR0 hbl
              go_wp2_with fail
              refine (refText_any _ 4000 _ hez (by omega)).mono ?_
              rw [HH.out.rest, HTX.out]
              rintro e w2 ⟨⟨Q, R, hQ, hR, rfl⟩, hbl⟩
              dsimp only at hQ hR ⊢
              have HBL2 := Lib.hid (HBL.out.trans (hbl.mono HBL.out.size))
              have hRz : R.size = r.length := by rw [Lib.size_eq, hR]
              have hRle : R.size ≤ s.size := by have := HH.out.len; omega
              have HRZ := Lib.hid hRz
              clear hQ hR hbl hRz
              go_wp2
              go_ret
              exact ⟨ret_i64 (by have := HRZ.out; have := HH.out.len; omega), HBL2.out⟩
        · exact size_rest d s w h0 b t m hd hs HH.out ha hm IH.out
end Go.Proofs.Ytjoldkhfkobahaa.Term

/-
  CONTRACTS of the document's Right, made, one, two, OfAtom to Sign (letterlockref3) at this program. By an AI agent; no person has read it.
-/
namespace Go.Proofs.Ytjoldkhfkobahaa.Term
open Go.RowKit Wire

/-- A string and an error as an ending. -/
def Sr (x : List UInt8 × Int) (e : Ending) : Prop := ∃ T : ByteArray, T.data.toList = x.1 ∧ e = .returned (.tuple #[.string T, .int .i64 x.2])
theorem sr_nil (f : Int) : Sr ([], f) (.returned (.tuple #[.string ⟨#[]⟩, .int .i64 f])) := ⟨⟨#[]⟩, rfl, rfl⟩
theorem right_len {l : List UInt8} (h : right l = true) : 0 < l.length ∧ l.length ≤ 4000 := by
  obtain ⟨h1, h2, _⟩ := right_iff.1 h
  exact ⟨List.length_pos_iff.2 h1, h2⟩
theorem right_sz {s : ByteArray} (h : right s.data.toList = true) : 0 < s.size ∧ s.size ≤ 4000 := by
  rw [Lib.size_eq]; exact right_len h

set_option maxHeartbeats 2000000 in
set_option maxRecDepth 1000000 in
theorem right_any (s : ByteArray) (w : World) (hs : s.size ≤ 140737488355328) :
    Calls Try.prog 28 #[.string s] w fun e w' => e = .returned (.bool (right s.data.toList)) ∧ Below w.heap.size w w' := by
  by_cases h : s.data.toList = []
  · have he := empty_str h
    have hf : right s.data.toList = false := by rw [h]; rfl
    rw [hf]
    clear h hf
    go_enter Try.func28, Try.ntmps28
    go_wp2_with fail
    go_ret
    exact ⟨rfl, Below.refl _ _⟩
  · have he := nonempty_str h
    have hz := Lib.size_eq s
    by_cases hb : (s.size : Int) ≤ 4000
    · obtain ⟨n, hn⟩ : ∃ n, size 40 s.data.toList = n := ⟨_, rfl⟩
      have HN := Lib.hid hn
      by_cases hl : n = s.size
      · have hf : right s.data.toList = true := right_iff.2 ⟨h, by omega, by rw [hn, hl, hz]⟩
        have hnb : ((n : Int) == (s.size : Int)) = true := by rw [hl]; exact beq_self_eq_true _
        rw [hf]
        clear h hf hz hn hl
        go_enter Try.func28, Try.ntmps28
        go_wp2_with (go_at_call 46; refine (size_any 40 s _ (by omega) hs).mono ?_; rw [HN.out]; rintro e w1 ⟨rfl, hb1⟩; have HB1 := Lib.hid hb1; clear hb1)
        go_ret
        exact ⟨rfl, HB1.out⟩
      · have hf : right s.data.toList = false := by
          rw [← Bool.not_eq_true]; intro hr; exact hl (by rw [← hn, (right_iff.1 hr).2.2, hz])
        have hnb : ((n : Int) == (s.size : Int)) = false := by rw [beq_eq_false_iff_ne]; omega
        rw [hf]
        clear h hf hz hn hl
        go_enter Try.func28, Try.ntmps28
        go_wp2_with (go_at_call 46; refine (size_any 40 s _ (by omega) hs).mono ?_; rw [HN.out]; rintro e w1 ⟨rfl, hb1⟩; have HB1 := Lib.hid hb1; clear hb1)
        go_ret
        exact ⟨rfl, HB1.out⟩
    · have hf : right s.data.toList = false := by
        rw [← Bool.not_eq_true]; intro hr; have := (right_iff.1 hr).2.1; omega
      rw [hf]
      clear h hf hz
      go_enter Try.func28, Try.ntmps28
      go_wp2_with fail
      go_ret
      exact ⟨rfl, Below.refl _ _⟩
set_option maxHeartbeats 2000000 in
set_option maxRecDepth 1000000 in
theorem made_any (s : ByteArray) (w : World) (hs : s.size ≤ 140737488355328) :
    Calls Try.prog 40 #[.string s] w fun e w' => Sr (made s.data.toList) e ∧ Below w.heap.size w w' := by
  cases hr : right s.data.toList with
  | true =>
    have HR := Lib.hid hr
    have hm : made s.data.toList = (s.data.toList, 0) := by unfold made; rw [if_pos hr]
    rw [hm]
    clear hr hm
    go_enter Try.func40, Try.ntmps40
    go_wp2_with (go_at_call 28; refine (right_any s _ hs).mono ?_; rw [HR.out]; rintro e w1 ⟨rfl, hb1⟩; have HB1 := Lib.hid hb1; clear hb1)
    go_ret2
    exact ⟨⟨s, rfl, rfl⟩, HB1.out⟩
  | false =>
    have HR := Lib.hid hr
    have hm : made s.data.toList = ([], 10) := by unfold made; rw [if_neg (by rw [hr]; decide)]
    rw [hm]
    clear hr hm
    go_enter Try.func40, Try.ntmps40
    go_wp2_with (go_at_call 28; refine (right_any s _ hs).mono ?_; rw [HR.out]; rintro e w1 ⟨rfl, hb1⟩; have HB1 := Lib.hid hb1; clear hb1)
    go_ret2
    exact ⟨sr_nil _, HB1.out⟩
set_option maxHeartbeats 2000000 in
set_option maxRecDepth 1000000 in
theorem one_any (k a : ByteArray) (c : UInt8) (w : World) (hk : k.data.toList = [c]) (hs : a.size ≤ 140737488355328) :
    Calls Try.prog 42 #[.string k, .string a] w fun e w' => Sr (one c a.data.toList) e ∧ Below w.heap.size w w' := by
  have hkz : k.size = 1 := by rw [Lib.size_eq, hk]; rfl
  cases hr : right a.data.toList with
  | true =>
    have HR := Lib.hid hr
    have hz := right_sz hr
    have hm : one c a.data.toList = made (k ++ a).data.toList := by unfold one; rw [if_pos hr, app_data, hk]; rfl
    obtain ⟨KA, hka⟩ : ∃ KA, k ++ a = KA := ⟨_, rfl⟩
    have hkaz : KA.size ≤ 140737488355328 := by rw [← hka, Lib.size_eq, app_data, List.length_append, ← Lib.size_eq, ← Lib.size_eq]; omega
    have hadd : k.size + a.size ≤ 9223372036854775807 := by omega
    rw [hm, hka]
    obtain ⟨x, f, hx⟩ : ∃ x f, made KA.data.toList = (x, f) := ⟨_, _, rfl⟩
    have HX := Lib.hid hx
    rw [hx]
    have hkz1 : k.size ≤ 1 := by omega
    have haz1 : a.size ≤ 4000 := by omega
    clear hr hm hz hx hk hkz
    go_enter Try.func42, Try.ntmps42
    go_wp2_with (first
      | (go_at_call 28; with_reducible refine (right_any a _ hs).mono ?_; rw [HR.out]; rintro e w1 ⟨rfl, hb1⟩; have HB1 := Lib.hid hb1; clear hb1)
      | (go_at_call 40; refine (made_any KA _ hkaz).mono ?_; rw [HX.out]; rintro e w2 ⟨⟨T, hT, rfl⟩, hb2⟩; have HB2 := Lib.hid (HB1.out.trans (hb2.mono HB1.out.size)); have HT := Lib.hid hT; clear hb2 hT; dsimp only))
    go_ret2
    exact ⟨⟨T, HT.out, rfl⟩, HB2.out⟩
  | false =>
    have HR := Lib.hid hr
    have hm : one c a.data.toList = ([], 1) := by unfold one; rw [if_neg (by rw [hr]; decide)]
    rw [hm]
    clear hr hm hk
    go_enter Try.func42, Try.ntmps42
    go_wp2_with (go_at_call 28; with_reducible refine (right_any a _ hs).mono ?_; rw [HR.out]; rintro e w1 ⟨rfl, hb1⟩; have HB1 := Lib.hid hb1; clear hb1)
    go_ret2
    exact ⟨sr_nil _, HB1.out⟩
set_option maxHeartbeats 2000000 in
set_option maxRecDepth 1000000 in
theorem two_any (k a b : ByteArray) (c : UInt8) (w : World) (hk : k.data.toList = [c]) (hs : a.size ≤ 140737488355328) (hs2 : b.size ≤ 140737488355328) :
    Calls Try.prog 49 #[.string k, .string a, .string b] w fun e w' => Sr (two c a.data.toList b.data.toList) e ∧ Below w.heap.size w w' := by
  have hkz : k.size = 1 := by rw [Lib.size_eq, hk]; rfl
  cases hr : right a.data.toList with
  | true =>
    have HR := Lib.hid hr
    have hz := right_sz hr
    cases hq : right b.data.toList with
    | true =>
      have HQ := Lib.hid hq
      have hz2 := right_sz hq
      have hm : two c a.data.toList b.data.toList = made (k ++ a ++ b).data.toList := by unfold two; rw [if_pos ⟨hr, hq⟩, app_data, app_data, hk, List.append_assoc]; rfl
      obtain ⟨KA, hka⟩ : ∃ KA, k ++ a = KA := ⟨_, rfl⟩
      have hkaz0 : KA.size ≤ 4001 := by rw [← hka, Lib.size_eq, app_data, List.length_append, ← Lib.size_eq, ← Lib.size_eq]; omega
      obtain ⟨KB, hkb⟩ : ∃ KB, KA ++ b = KB := ⟨_, rfl⟩
      have hkaz : KB.size ≤ 140737488355328 := by rw [← hkb, Lib.size_eq, app_data, List.length_append, ← Lib.size_eq, ← Lib.size_eq]; omega
      rw [hm, hka, hkb]
      obtain ⟨x, f, hx⟩ : ∃ x f, made KB.data.toList = (x, f) := ⟨_, _, rfl⟩
      have HX := Lib.hid hx
      rw [hx]
      have hkz1 : k.size ≤ 1 := by omega
      have haz1 : a.size ≤ 4000 := by omega
      have hbz1 : b.size ≤ 4000 := by omega
      clear hr hq hm hz hz2 hx hk hkz
      go_enter Try.func49, Try.ntmps49
      go_wp2_with (first
        | (go_at_call 40; refine (made_any KB _ hkaz).mono ?_; rw [HX.out]; rintro e w3 ⟨⟨T, hT, rfl⟩, hb3⟩; have HB3 := Lib.hid (HB2.out.trans (hb3.mono HB2.out.size)); have HT := Lib.hid hT; clear hb3 hT; dsimp only)
        | (go_at_call 28; with_reducible refine (right_any b _ hs2).mono ?_; rw [HQ.out]; rintro e w2 ⟨rfl, hb2⟩; have HB2 := Lib.hid (HB1.out.trans (hb2.mono HB1.out.size)); clear hb2)
        | (go_at_call 28; with_reducible refine (right_any a _ hs).mono ?_; rw [HR.out]; rintro e w1 ⟨rfl, hb1⟩; have HB1 := Lib.hid hb1; clear hb1))
      go_ret2
      exact ⟨⟨T, HT.out, rfl⟩, HB3.out⟩
    | false =>
      have HQ := Lib.hid hq
      have hm : two c a.data.toList b.data.toList = ([], 1) := by unfold two; rw [if_neg (by rw [hq]; simp)]
      rw [hm]
      clear hr hq hm hz hk
      go_enter Try.func49, Try.ntmps49
      go_wp2_with (first
        | (go_at_call 28; with_reducible refine (right_any b _ hs2).mono ?_; rw [HQ.out]; rintro e w2 ⟨rfl, hb2⟩; have HB2 := Lib.hid (HB1.out.trans (hb2.mono HB1.out.size)); clear hb2)
        | (go_at_call 28; with_reducible refine (right_any a _ hs).mono ?_; rw [HR.out]; rintro e w1 ⟨rfl, hb1⟩; have HB1 := Lib.hid hb1; clear hb1))
      go_ret2
      exact ⟨sr_nil _, HB2.out⟩
  | false =>
    have HR := Lib.hid hr
    have hm : two c a.data.toList b.data.toList = ([], 1) := by unfold two; rw [if_neg (by rw [hr]; simp)]
    rw [hm]
    clear hr hm hk
    go_enter Try.func49, Try.ntmps49
    go_wp2_with (go_at_call 28; with_reducible refine (right_any a _ hs).mono ?_; rw [HR.out]; rintro e w1 ⟨rfl, hb1⟩; have HB1 := Lib.hid hb1; clear hb1)
    go_ret2
    exact ⟨sr_nil _, HB1.out⟩
set_option maxHeartbeats 1000000 in
theorem ofHash_any (a : ByteArray) (w : World) (hs : a.size ≤ 140737488355328) :
    Calls Try.prog 25 #[.string a] w fun e w' => Sr (one 104 a.data.toList) e ∧ Below w.heap.size w w' := by
  have HC : Hid (∀ w, Calls Try.prog 42 #[.string ⟨#[104]⟩, .string a] w fun e w' => Sr (one 104 a.data.toList) e ∧ Below w.heap.size w w') := fun w => one_any ⟨#[104]⟩ a 104 w rfl hs
  obtain ⟨x, f, hx⟩ : ∃ x f, one 104 a.data.toList = (x, f) := ⟨_, _, rfl⟩
  rw [hx] at HC ⊢
  clear hx
  go_enter Try.func25, Try.ntmps25
  go_wp2_with (go_at_call 42; refine (HC.out _).mono ?_; rintro e w1 ⟨⟨T, hT, rfl⟩, hb1⟩; have HB1 := Lib.hid hb1; have HT := Lib.hid hT; clear hb1 hT; dsimp only)
  go_ret2
  exact ⟨⟨T, HT.out, rfl⟩, HB1.out⟩
set_option maxHeartbeats 1000000 in
theorem ofPublic_any (a : ByteArray) (w : World) (hs : a.size ≤ 140737488355328) :
    Calls Try.prog 26 #[.string a] w fun e w' => Sr (one 117 a.data.toList) e ∧ Below w.heap.size w w' := by
  have HC : Hid (∀ w, Calls Try.prog 42 #[.string ⟨#[117]⟩, .string a] w fun e w' => Sr (one 117 a.data.toList) e ∧ Below w.heap.size w w') := fun w => one_any ⟨#[117]⟩ a 117 w rfl hs
  obtain ⟨x, f, hx⟩ : ∃ x f, one 117 a.data.toList = (x, f) := ⟨_, _, rfl⟩
  rw [hx] at HC ⊢
  clear hx
  go_enter Try.func26, Try.ntmps26
  go_wp2_with (go_at_call 42; refine (HC.out _).mono ?_; rintro e w1 ⟨⟨T, hT, rfl⟩, hb1⟩; have HB1 := Lib.hid hb1; have HT := Lib.hid hT; clear hb1 hT; dsimp only)
  go_ret2
  exact ⟨⟨T, HT.out, rfl⟩, HB1.out⟩
set_option maxHeartbeats 1000000 in
theorem ofPair_any (a b : ByteArray) (w : World) (hs : a.size ≤ 140737488355328) (hs2 : b.size ≤ 140737488355328) :
    Calls Try.prog 32 #[.string a, .string b] w fun e w' => Sr (two 112 a.data.toList b.data.toList) e ∧ Below w.heap.size w w' := by
  have HC : Hid (∀ w, Calls Try.prog 49 #[.string ⟨#[112]⟩, .string a, .string b] w fun e w' => Sr (two 112 a.data.toList b.data.toList) e ∧ Below w.heap.size w w') := fun w => two_any ⟨#[112]⟩ a b 112 w rfl hs hs2
  obtain ⟨x, f, hx⟩ : ∃ x f, two 112 a.data.toList b.data.toList = (x, f) := ⟨_, _, rfl⟩
  rw [hx] at HC ⊢
  clear hx
  go_enter Try.func32, Try.ntmps32
  go_wp2_with (go_at_call 49; refine (HC.out _).mono ?_; rintro e w1 ⟨⟨T, hT, rfl⟩, hb1⟩; have HB1 := Lib.hid hb1; have HT := Lib.hid hT; clear hb1 hT; dsimp only)
  go_ret2
  exact ⟨⟨T, HT.out, rfl⟩, HB1.out⟩
set_option maxHeartbeats 1000000 in
theorem seal_any (a b : ByteArray) (w : World) (hs : a.size ≤ 140737488355328) (hs2 : b.size ≤ 140737488355328) :
    Calls Try.prog 43 #[.string a, .string b] w fun e w' => Sr (two 115 a.data.toList b.data.toList) e ∧ Below w.heap.size w w' := by
  have HC : Hid (∀ w, Calls Try.prog 49 #[.string ⟨#[115]⟩, .string a, .string b] w fun e w' => Sr (two 115 a.data.toList b.data.toList) e ∧ Below w.heap.size w w') := fun w => two_any ⟨#[115]⟩ a b 115 w rfl hs hs2
  obtain ⟨x, f, hx⟩ : ∃ x f, two 115 a.data.toList b.data.toList = (x, f) := ⟨_, _, rfl⟩
  rw [hx] at HC ⊢
  clear hx
  go_enter Try.func43, Try.ntmps43
  go_wp2_with (go_at_call 49; refine (HC.out _).mono ?_; rintro e w1 ⟨⟨T, hT, rfl⟩, hb1⟩; have HB1 := Lib.hid hb1; have HT := Lib.hid hT; clear hb1 hT; dsimp only)
  go_ret2
  exact ⟨⟨T, HT.out, rfl⟩, HB1.out⟩
set_option maxHeartbeats 1000000 in
theorem sign_any (a b : ByteArray) (w : World) (hs : a.size ≤ 140737488355328) (hs2 : b.size ≤ 140737488355328) :
    Calls Try.prog 45 #[.string a, .string b] w fun e w' => Sr (two 103 a.data.toList b.data.toList) e ∧ Below w.heap.size w w' := by
  have HC : Hid (∀ w, Calls Try.prog 49 #[.string ⟨#[103]⟩, .string a, .string b] w fun e w' => Sr (two 103 a.data.toList b.data.toList) e ∧ Below w.heap.size w w') := fun w => two_any ⟨#[103]⟩ a b 103 w rfl hs hs2
  obtain ⟨x, f, hx⟩ : ∃ x f, two 103 a.data.toList b.data.toList = (x, f) := ⟨_, _, rfl⟩
  rw [hx] at HC ⊢
  clear hx
  go_enter Try.func45, Try.ntmps45
  go_wp2_with (go_at_call 49; refine (HC.out _).mono ?_; rintro e w1 ⟨⟨T, hT, rfl⟩, hb1⟩; have HB1 := Lib.hid hb1; have HT := Lib.hid hT; clear hb1 hT; dsimp only)
  go_ret2
  exact ⟨⟨T, HT.out, rfl⟩, HB1.out⟩

set_option maxHeartbeats 1000000 in
theorem ofAtom_any (n : Nat) (w : World) (hn : n < 18446744073709551616) :
    Calls Try.prog 23 #[.int .u64 n] w fun e w' => St (ofAtom n) e ∧ Below w.heap.size w w' := by
  have HN := Lib.hid hn
  clear hn
  go_enter Try.func23, Try.ntmps23
  go_wp2_with (go_at_call 39; refine (refPut_any n _ HN.out).mono ?_; rintro e w1 ⟨⟨T, hT, rfl⟩, hb1⟩; have hz : T.size ≤ 9 := (put_size hT HN.out); have HB1 := Lib.hid hb1; have HT := Lib.hid hT; clear hb1 hT)
  go_ret
  exact ⟨⟨_, by rw [app_data, HT.out]; rfl, rfl⟩, HB1.out⟩
set_option maxHeartbeats 1000000 in
theorem ofText_any (s : ByteArray) (w : World) (hs : s.size ≤ 140737488355000) :
    Calls Try.prog 24 #[.string s] w fun e w' => Sr (ofText s.data.toList) e ∧ Below w.heap.size w w' := by
  obtain ⟨x, f, hx⟩ : ∃ x f, ofText s.data.toList = (x, f) := ⟨_, _, rfl⟩
  have HX := Lib.hid hx
  rw [hx]
  clear hx
  go_enter Try.func24, Try.ntmps24
  go_wp2_with fail
  refine (refPutText_any s _ hs).mono ?_
  rintro e w1 ⟨⟨P, hP, rfl⟩, hb1⟩
  have HB1 := Lib.hid hb1
  have hPz : P.size ≤ 140737488355100 := by
    have h1 := (put_le (n := s.data.toList.length) (by rw [← Lib.size_eq]; omega)).2
    have h2 := Lib.size_eq s
    rw [Lib.size_eq, hP, putText_len]; omega
  have htp : ((ByteArray.mk #[116]) ++ P).data.toList = 116 :: putText s.data.toList := by rw [app_data, hP]; rfl
  have HTP := Lib.hid htp
  clear hb1 hP htp
  go_wp2_with fail
  obtain ⟨TP, hTP⟩ : ∃ TP, (ByteArray.mk #[116]) ++ P = TP := ⟨_, rfl⟩
  have hTz : TP.size ≤ 140737488355328 := by
    have h1 : ((ByteArray.mk #[116]) ++ P).size = 1 + P.size := by rw [Lib.size_eq, app_data, List.length_append, ← Lib.size_eq]; rfl
    rw [← hTP]; omega
  rw [hTP] at HTP ⊢
  clear hTP
  refine (made_any TP _ hTz).mono ?_
  have hm : made TP.data.toList = (x, f) := by rw [HTP.out]; exact HX.out
  rw [hm]
  rintro e w2 ⟨⟨T, hT, rfl⟩, hb2⟩
  dsimp only at hT ⊢
  have HB2 := Lib.hid (HB1.out.trans (hb2.mono HB1.out.size))
  have HT := Lib.hid hT
  clear hb2 hT hm
  go_wp2
  go_ret2
  exact ⟨⟨T, HT.out, rfl⟩, HB2.out⟩
set_option maxHeartbeats 2000000 in
set_option maxRecDepth 1000000 in
theorem box_any (a b : ByteArray) (w : World) (hs : a.size ≤ 140737488355328) (hs2 : b.size ≤ 140737488355328) :
    Calls Try.prog 44 #[.string a, .string b] w fun e w' => Sr (box a.data.toList b.data.toList) e ∧ Below w.heap.size w w' := by
  cases hr : right a.data.toList with
  | true =>
    have HR := Lib.hid hr
    have hz := (right_sz hr).1
    have hz1 : (0 : Int) < (a.size : Int) := by omega
    have hh := head_get hz
    by_cases hu : a[0]'hz = 117
    · have hm : box a.data.toList b.data.toList = two 98 a.data.toList b.data.toList := by unfold box; rw [if_pos ⟨hr, by rw [hh, hu]⟩]
      have c1 : (((a[0]'hz).toNat : Int) != 117) = false := by rw [hu]; rfl
      have HC : Hid (∀ w, Calls Try.prog 49 #[.string ⟨#[98]⟩, .string a, .string b] w fun e w' => Sr (two 98 a.data.toList b.data.toList) e ∧ Below w.heap.size w w') := fun w => two_any ⟨#[98]⟩ a b 98 w rfl hs hs2
      rw [hm]
      obtain ⟨x, f, hx⟩ : ∃ x f, two 98 a.data.toList b.data.toList = (x, f) := ⟨_, _, rfl⟩
      rw [hx] at HC ⊢
      clear hr hm hh hu hx
      go_enter Try.func44, Try.ntmps44
      go_wp2_with (first
        | (go_at_call 28; with_reducible refine (right_any a _ hs).mono ?_; rw [HR.out]; rintro e w1 ⟨rfl, hb1⟩; have HB1 := Lib.hid hb1; clear hb1)
        | (go_at_call 49; refine (HC.out _).mono ?_; rintro e w2 ⟨⟨T, hT, rfl⟩, hb2⟩; have HB2 := Lib.hid (HB1.out.trans (hb2.mono HB1.out.size)); have HT := Lib.hid hT; clear hb2 hT; dsimp only))
      go_ret2
      exact ⟨⟨T, HT.out, rfl⟩, HB2.out⟩
    · have hm : box a.data.toList b.data.toList = ([], 1) := by unfold box; rw [if_neg]; rintro ⟨_, h⟩; rw [hh] at h; exact hu (Option.some.inj h)
      have c1 : (((a[0]'hz).toNat : Int) != 117) = true := by
        rw [bne_iff_ne]; intro h; exact hu (UInt8.toNat_inj.1 (by have : (117 : UInt8).toNat = 117 := rfl; omega))
      rw [hm]
      clear hr hm hh hu
      go_enter Try.func44, Try.ntmps44
      go_wp2_with (go_at_call 28; with_reducible refine (right_any a _ hs).mono ?_; rw [HR.out]; rintro e w1 ⟨rfl, hb1⟩; have HB1 := Lib.hid hb1; clear hb1)
      go_ret2
      exact ⟨sr_nil _, HB1.out⟩
  | false =>
    have HR := Lib.hid hr
    have hm : box a.data.toList b.data.toList = ([], 1) := by unfold box; rw [if_neg (by rw [hr]; simp)]
    rw [hm]
    clear hr hm
    go_enter Try.func44, Try.ntmps44
    go_wp2_with (go_at_call 28; with_reducible refine (right_any a _ hs).mono ?_; rw [HR.out]; rintro e w1 ⟨rfl, hb1⟩; have HB1 := Lib.hid hb1; clear hb1)
    go_ret2
    exact ⟨sr_nil _, HB1.out⟩
end Go.Proofs.Ytjoldkhfkobahaa.Term

/-
  PLAIN FACTS on terms: what is told of right terms. By an AI agent; no person has read it.
-/
namespace Go.Proofs.Ytjoldkhfkobahaa.Term
open Go.RowKit Wire

/-- A right term's bytes: its kind and what it holds. -/
theorem right_parts {l : List UInt8} (h : right l = true) : ∃ b t m, l = b :: t ∧ arity b = some m ∧ body (size 39) b t = some t.length := by
  obtain ⟨h1, _, h3⟩ := right_iff.1 h
  obtain ⟨b, t, rfl⟩ := List.exists_cons_of_ne_nil h1
  rw [size_cons] at h3
  cases hb : body (size 39) b t with
  | none => rw [hb] at h3; simp [up] at h3
  | some n =>
    rw [hb] at h3
    simp only [up, List.length_cons] at h3
    obtain rfl : n = t.length := by omega
    cases ha : arity b with
    | none => unfold body at hb; rw [ha] at hb; cases hb
    | some m => exact ⟨b, t, m, rfl, ha, hb⟩
theorem kind_right {l : List UInt8} (h : right l = true) : kind l = (l.headD 0).toNat := by unfold kind; rw [if_pos h]
theorem kind_wrong {l : List UInt8} (h : right l = false) : kind l = 0 := by unfold kind; rw [if_neg (by rw [h]; decide)]
theorem kind_pos {l : List UInt8} (h : right l = true) : kind l ≠ 0 := by
  obtain ⟨b, t, m, rfl, ha, _⟩ := right_parts h
  rw [kind_right h]
  intro h0
  have : b = 0 := u8_zero.2 h0
  rw [this] at ha
  have : arity 0 = none := rfl
  rw [this] at ha; cases ha
theorem atom_tk {t : List UInt8} (h : right (97 :: t) = true) : ∃ n, take t = some (n, []) ∧ t = put n ∧ n < 18446744073709551616 := by
  obtain ⟨b, t', m, he, ha, hb⟩ := right_parts h
  obtain ⟨rfl, rfl⟩ : 97 = b ∧ t = t' := by simpa using he
  have h2 : body (size 39) 97 t = leaf 97 t := rfl
  rw [h2] at hb
  unfold leaf at hb
  rw [if_pos rfl] at hb
  obtain ⟨⟨n, r⟩, hp, hlen⟩ := Option.map_eq_some_iff.1 hb
  obtain ⟨e, hn⟩ := take_some hp
  have hl := (take_len hp).1
  simp only at hlen
  have hr : r = [] := List.eq_nil_of_length_eq_zero (by omega)
  subst hr
  exact ⟨n, hp, by simpa using e, hn⟩
theorem text_tx {t : List UInt8} (h : right (116 :: t) = true) : ∃ s, text t 4000 = (s, [], 0) ∧ t = putText s ∧ s.length ≤ 4000 := by
  obtain ⟨b, t', m, he, ha, hb⟩ := right_parts h
  obtain ⟨rfl, rfl⟩ : 116 = b ∧ t = t' := by simpa using he
  have h2 : body (size 39) 116 t = leaf 116 t := rfl
  rw [h2] at hb
  unfold leaf at hb
  rw [if_neg (by decide)] at hb
  rcases text_cases t 4000 with h' | h' | ⟨s, r, h', hl, hs, hm⟩
  · rw [h'] at hb; simp at hb
  · rw [h'] at hb; simp at hb
  · rw [h'] at hb
    simp only [if_pos] at hb
    have hlen := Option.some.inj hb
    have hz := text_len h' rfl
    have hr : r = [] := List.eq_nil_of_length_eq_zero (by omega)
    subst hr
    exact ⟨s, h', by simpa using hl, by omega⟩
/-- What stands in a term of two parts. -/
theorem two_parts {b : UInt8} {t : List UInt8} (h : right (b :: t) = true) (ha : arity b = some 2) : ∃ x y, t = x ++ y ∧ cuts 2 t = [x, y] ∧ right x = true ∧ right y = true ∧ (b = 98 → x.head? = some 117) := by
  obtain ⟨b', t', m, he, ha', hb⟩ := right_parts h
  obtain ⟨rfl, rfl⟩ : b = b' ∧ t = t' := by simpa using he
  have hlen := (right_len h).2
  simp only [List.length_cons] at hlen
  unfold body at hb
  rw [ha] at hb
  simp only at hb
  split at hb
  · cases hb
  · rename_i hbx
    unfold sizes at hb
    split at hb
    · cases hb
    · rename_i h0
      obtain ⟨q, hq, hsum⟩ := Option.map_eq_some_iff.1 hb
      unfold sizes at hq
      split at hq
      · cases hq
      · rename_i h1
        obtain ⟨z, hz, rfl⟩ := Option.map_eq_some_iff.1 hq
        have hz0 : z = 0 := by
          have := Option.some.inj (show some 0 = some z from hz)
          exact this.symm
        subst hz0
        have hle1 := size_le 39 t
        have m1 := size_mono (d := 39) (e := 40) (by omega) h0
        have m2 := size_mono (d := 39) (e := 40) (by omega) h1
        have r1 : right (t.take (size 40 t)) = true := right_take (by rw [m1]; exact h0) (by rw [m1]; omega)
        have hd : (t.drop (size 40 t)).length = size 40 (t.drop (size 40 t)) := by
          rw [List.length_drop, m1, m2]; omega
        have r2 : right (t.drop (size 40 t)) = true := by
          have h2 := right_take (l := t.drop (size 40 t)) (by rw [m1, m2]; exact h1) (by rw [← hd, List.length_drop]; omega)
          rw [← hd, List.take_length] at h2
          exact h2
        refine ⟨t.take (size 40 t), t.drop (size 40 t), (List.take_append_drop _ _).symm, ?_, r1, r2, fun hb98 => ?_⟩
        · show [t.take (size 40 t), (t.drop (size 40 t)).take (size 40 (t.drop (size 40 t)))] = _
          rw [← hd, List.take_length]
        · have hh : t.head? = some 117 := by
            cases hx : t.head? with
            | none => exact absurd ⟨hb98, by rw [hx]; simp⟩ hbx
            | some c =>
              by_cases hc : c = 117
              · rw [hc]
              · exact absurd ⟨hb98, by rw [hx]; simpa using hc⟩ hbx
          have hpos : 0 < size 40 t := by rw [m1]; omega
          cases t with
          | nil => simp at hh
          | cons c u =>
            obtain ⟨j, hj⟩ : ∃ j, size 40 (c :: u) = j + 1 := ⟨size 40 (c :: u) - 1, by omega⟩
            rw [hj, List.take_succ_cons]
            simpa using hh
theorem one_part {b : UInt8} {t : List UInt8} (h : right (b :: t) = true) (ha : arity b = some 1) (hb8 : b ≠ 98) : right t = true ∧ cuts 1 t = [t] := by
  obtain ⟨b', t', m, he, ha', hb⟩ := right_parts h
  obtain ⟨rfl, rfl⟩ : b = b' ∧ t = t' := by simpa using he
  have hlen := (right_len h).2
  simp only [List.length_cons] at hlen
  unfold body at hb
  rw [ha] at hb
  simp only at hb
  rw [if_neg (fun h => hb8 h.1)] at hb
  unfold sizes at hb
  split at hb
  · cases hb
  · rename_i h0
    obtain ⟨q, hq, hsum⟩ := Option.map_eq_some_iff.1 hb
    have hz0 : q = 0 := (Option.some.inj (show some 0 = some q from hq)).symm
    subst hz0
    have m1 := size_mono (d := 39) (e := 40) (by omega) h0
    have hs : size 40 t = t.length := by omega
    have r1 := right_take (l := t) (by rw [m1]; exact h0) (by rw [hs]; omega)
    rw [hs, List.take_length] at r1
    refine ⟨r1, ?_⟩
    show [t.take (size 40 t)] = _
    rw [hs, List.take_length]

/-- When it is no form. -/
theorem open_form {a b x : List UInt8} {e : Int} (ha : right a = true) (hb : right b = true) (h : open' a b = (x, e)) : (e == 2) = ((kind b : Int) != 115) := by
  obtain ⟨k, t, m, rfl, hm, _⟩ := right_parts hb
  rw [kind_right hb]
  unfold open' opens at h
  rw [if_pos ⟨ha, hb⟩] at h
  simp only [List.headD_cons]
  by_cases hk : k = 115
  · rw [if_pos (show (k :: t).headD 0 = 115 from hk)] at h
    have h2 : e ≠ 2 := by
      split at h <;> simp only [Prod.mk.injEq] at h <;> omega
    rw [hk]
    simpa using h2
  · rw [if_neg (show ¬ (k :: t).headD 0 = 115 from hk)] at h
    simp only [Prod.mk.injEq] at h
    have : (k.toNat : Int) ≠ 115 := fun h => hk (UInt8.toNat_inj.1 (by have : (115 : UInt8).toNat = 115 := rfl; omega))
    rw [← h.2, bne_iff_ne.2 this]; rfl
theorem unbox_form {a b x : List UInt8} {e : Int} (ha : right a = true) (hb : right b = true) (h : unbox a b = (x, e)) : (e == 2) = ((kind b : Int) != 98) := by
  obtain ⟨k, t, m, rfl, hm, _⟩ := right_parts hb
  rw [kind_right hb]
  unfold unbox opens at h
  rw [if_pos ⟨ha, hb⟩] at h
  simp only [List.headD_cons]
  by_cases hk : k = 98
  · rw [if_pos (show (k :: t).headD 0 = 98 from hk)] at h
    have h2 : e ≠ 2 := by
      split at h <;> simp only [Prod.mk.injEq] at h <;> omega
    rw [hk]
    simpa using h2
  · rw [if_neg (show ¬ (k :: t).headD 0 = 98 from hk)] at h
    simp only [Prod.mk.injEq] at h
    have : (k.toNat : Int) ≠ 98 := fun h => hk (UInt8.toNat_inj.1 (by have : (98 : UInt8).toNat = 98 := rfl; omega))
    rw [← h.2, bne_iff_ne.2 this]; rfl
theorem number_form {b : List UInt8} {n : Nat} {e : Int} (hb : right b = true) (h : number b = (n, e)) : (e == 2) = ((kind b : Int) != 97) := by
  obtain ⟨k, t, m, rfl, hm, _⟩ := right_parts hb
  rw [kind_right hb]
  unfold number at h
  rw [if_pos hb] at h
  simp only [List.headD_cons]
  by_cases hk : k = 97
  · subst hk
    obtain ⟨v, hv, _⟩ := atom_tk hb
    rw [if_pos (show ((97 : UInt8) :: t).headD 0 = 97 from rfl), List.tail_cons, tk_some hv] at h
    simp only [Prod.mk.injEq] at h
    rw [← h.2]; rfl
  · rw [if_neg (show ¬ (k :: t).headD 0 = 97 from hk)] at h
    simp only [Prod.mk.injEq] at h
    have : (k.toNat : Int) ≠ 97 := fun h => hk (UInt8.toNat_inj.1 (by have : (97 : UInt8).toNat = 97 := rfl; omega))
    rw [← h.2, bne_iff_ne.2 this]; rfl
theorem words_form {b x : List UInt8} {e : Int} (hb : right b = true) (h : words b = (x, e)) : (e == 2) = ((kind b : Int) != 116) := by
  obtain ⟨k, t, m, rfl, hm, _⟩ := right_parts hb
  rw [kind_right hb]
  unfold words at h
  rw [if_pos hb] at h
  simp only [List.headD_cons]
  by_cases hk : k = 116
  · subst hk
    obtain ⟨v, hv, _⟩ := text_tx hb
    rw [if_pos (show ((116 : UInt8) :: t).headD 0 = 116 from rfl), List.tail_cons, hv] at h
    simp only [Prod.mk.injEq] at h
    rw [← h.2]; rfl
  · rw [if_neg (show ¬ (k :: t).headD 0 = 116 from hk)] at h
    simp only [Prod.mk.injEq] at h
    have : (k.toNat : Int) ≠ 116 := fun h => hk (UInt8.toNat_inj.1 (by have : (116 : UInt8).toNat = 116 := rfl; omega))
    rw [← h.2, bne_iff_ne.2 this]; rfl
end Go.Proofs.Ytjoldkhfkobahaa.Term

/-
  CONTRACTS of the document's Read, Kind, Number, Words, Parts, opens, Open, Unbox, Verify (letterlockref3) at this program. By an AI agent; no person has read it.
-/
namespace Go.Proofs.Ytjoldkhfkobahaa.Term
open Go.RowKit Wire

/-- What is known of a right text. -/
theorem right_head {s : ByteArray} (h : right s.data.toList = true) : ∃ (h0 : 0 < s.size) (b : UInt8) (t : List UInt8), Head s h0 b t ∧ s.size ≤ 4000 := by
  obtain ⟨h0, h1⟩ := right_sz h
  obtain ⟨b, t, hh⟩ := head_of h0
  exact ⟨h0, b, t, hh, h1⟩

/-! ### Parts -/
theorem arity_of_right {s : ByteArray} (h : right s.data.toList = true) {h0 : 0 < s.size} {b : UInt8} {t : List UInt8} (hh : Head s h0 b t) : ∃ m, arity b = some m ∧ m ≤ 2 := by
  have h3 := (right_iff.1 h).2.2
  rw [hh.all, size_cons] at h3
  cases ha : arity b with
  | none => unfold body at h3; rw [ha] at h3; simp [up] at h3
  | some m =>
    refine ⟨m, rfl, ?_⟩
    unfold arity at ha
    split at ha
    · have := Option.some.inj ha; omega
    · split at ha
      · have := Option.some.inj ha; omega
      · split at ha
        · have := Option.some.inj ha; omega
        · cases ha
/-- Parts' loop: so many parts are taken off. -/
def Parted (w : World) (t : List UInt8) (m k : Nat) (R : ByteArray) (v : Value) (wr : World) : Prop :=
  ∃ ys : List ByteArray, wr.ownsRow w.heap.size 9 1 v k (sv ys) ∧ ys.length = k ∧ cuts m t = bl ys ++ cuts (m - k) R.data.toList ∧ Below w.heap.size w wr

/-- A list that can be read, in memory from B on. -/
def TaF (B : Nat) (x : List (List UInt8) × Int) (e : Ending) (w' : World) : Prop := ∃ (A : Option Addr) (c : Nat) (ys : List ByteArray), bl ys = x.1 ∧ ys.length ≤ c ∧ SReads w' A ys ∧ (∀ b off, A = some ⟨b, off, none⟩ → B ≤ b) ∧ e = .returned (.tuple #[.slice A ys.length c, .int .i64 x.2])
theorem taF_nil (B : Nat) (f : Int) (w' : World) : TaF B ([], f) (.returned (.tuple #[.slice none 0 0, .int .i64 f])) w' := ⟨none, 0, [], rfl, Nat.le_refl _, SReads.nil _ _, (fun _ _ h => by cases h), rfl⟩
theorem own_fresh {w : World} {base : Nat} {e : TypeId} {a : Option Addr} {n c : Nat} {xs : List Value} (h : w.ownsRow base e 1 (.slice a n c) n xs) : ∀ b off, a = some ⟨b, off, none⟩ → base ≤ b := by
  rintro b off rfl
  rcases h.2 with ⟨hv, _⟩ | ⟨g, cap, cur, hv, hg, _⟩
  · injection hv with h1; cases h1
  · injection hv with h1
    injection h1 with h1
    injection h1 with h1
    subst h1
    exact hg
end Go.Proofs.Ytjoldkhfkobahaa.Term

/-
  CONTRACTS of the laws' own helpers pick, joined (letterlocklaw3) at this program. By an AI agent; no person has read it.
-/
namespace Go.Proofs.Ytjoldkhfkobahaa.Term
open Go.RowKit Wire

def Picked (n : Nat) (e : Ending) : Prop := ∃ m : Nat, m < n ∧ e = .returned (.int .i64 (m : Int))
set_option maxHeartbeats 1000000 in
theorem pick_any (c : Int) (n : Nat) (w : World) (hc : -9223372036854775808 ≤ c ∧ c ≤ 9223372036854775807) (hn : 0 < n) (hn2 : n ≤ 9223372036854775807) :
    Calls Try.prog 18 #[.int .i64 c, .int .i64 (n : Int)] w fun e w' => Picked n e ∧ w = w' := by
  obtain ⟨hc1, hc2⟩ := hc
  have hn0 : (0 : Int) < (n : Int) := by omega
  by_cases hneg : c < 0
  · obtain ⟨q, hq⟩ : ∃ q : Nat, c + 1 = -(q : Int) := ⟨(-(c + 1)).toNat, by omega⟩
    obtain ⟨K, hK⟩ : ∃ K : Nat, q % n = K := ⟨_, rfl⟩
    have hKn : K < n := by rw [← hK]; exact Nat.mod_lt _ hn
    have hrem : (c + 1).tmod (n : Int) = -(K : Int) := by rw [hq, Int.neg_tmod, ← Int.ofNat_tmod, hK]
    clear hq hK
    go_enter Try.func18, Try.ntmps18
    go_wp2
    go_ret
    exact ⟨⟨K, hKn, by simp⟩, rfl⟩
  · obtain ⟨q, hq⟩ : ∃ q : Nat, c = (q : Int) := ⟨c.toNat, by omega⟩
    obtain ⟨K, hK⟩ : ∃ K : Nat, q % n = K := ⟨_, rfl⟩
    have hKn : K < n := by rw [← hK]; exact Nat.mod_lt _ hn
    have hrem : c.tmod (n : Int) = (K : Int) := by rw [hq, ← Int.ofNat_tmod, hK]
    have hrem2 : c % (n : Int) = (K : Int) := by rw [hq, ← Int.natCast_emod, hK]
    have hc0 : 0 ≤ c := by omega
    clear hq hK
    go_enter Try.func18, Try.ntmps18
    go_wp2
    go_ret
    exact ⟨⟨K, hKn, rfl⟩, rfl⟩

theorem made_right {l x : List UInt8} {f : Int} (h : made l = (x, f)) : f = 0 → right x = true := by
  unfold made at h
  split at h
  · rename_i hr
    simp only [Prod.mk.injEq] at h
    intro _
    rw [← h.1]; exact hr
  · simp only [Prod.mk.injEq] at h
    intro h0; omega
theorem one_right {k : UInt8} {a x : List UInt8} {f : Int} (h : one k a = (x, f)) : f = 0 → right x = true := by
  unfold one at h
  split at h
  · exact made_right h
  · simp only [Prod.mk.injEq] at h
    intro h0; omega
theorem two_right {k : UInt8} {a b x : List UInt8} {f : Int} (h : two k a b = (x, f)) : f = 0 → right x = true := by
  unfold two at h
  split at h
  · exact made_right h
  · simp only [Prod.mk.injEq] at h
    intro h0; omega
theorem box_right {a b x : List UInt8} {f : Int} (h : box a b = (x, f)) : f = 0 → right x = true := by
  unfold box at h
  split at h
  · exact two_right h
  · simp only [Prod.mk.injEq] at h
    intro h0; omega
theorem made_err {l x : List UInt8} {f : Int} (h : made l = (x, f)) : (f = 0 ∧ x = l ∧ right l = true) ∨ (f = 10 ∧ x = [] ∧ right l = false) := by
  unfold made at h
  split at h
  · rename_i hr
    simp only [Prod.mk.injEq] at h
    exact .inl ⟨h.2.symm, h.1.symm, hr⟩
  · rename_i hr
    simp only [Prod.mk.injEq] at h
    exact .inr ⟨h.2.symm, h.1.symm, by simpa using hr⟩
def AText (e : Ending) : Prop := ∃ T : ByteArray, right T.data.toList = true ∧ e = .returned (.string T)
theorem ofAtom_right {n : Nat} (hn : n < 18446744073709551616) : right (ofAtom n) = true := by
  have h1 := put_le hn
  refine right_iff.2 ⟨by simp [ofAtom], by simp only [ofAtom, List.length_cons]; omega, ?_⟩
  show up (body (size 39) 97 (put n)) = _
  have h2 : body (size 39) 97 (put n) = some (put n).length := by
    have h3 := take_put hn []
    rw [List.append_nil] at h3
    show leaf 97 (put n) = _
    unfold leaf
    rw [if_pos rfl, h3]
    simp
  rw [h2]
  simp only [up, ofAtom, List.length_cons]; omega
theorem ofText_right {s x : List UInt8} {f : Int} (h : ofText s = (x, f)) : f = 0 → right x = true := made_right h

set_option maxHeartbeats 2000000 in
set_option maxRecDepth 1000000 in
theorem joined_any (c : Int) (a b : ByteArray) (w : World) (hc : -9223372036854775808 ≤ c ∧ c ≤ 9223372036854775807) (ha : right a.data.toList = true) (hb : right b.data.toList = true) :
    Calls Try.prog 27 #[.int .i64 c, .string a, .string b] w fun e w' => AText e ∧ Below w.heap.size w w' := by
  have haz := (right_sz ha).2
  have hbz := (right_sz hb).2
  have HA := Lib.hid ha
  have HB := Lib.hid hb
  clear ha hb
  go_enter Try.func27, Try.ntmps27
  go_wp2_with fail
  refine (pick_any c 4 _ hc (by omega) (by omega)).mono ?_
  rintro e w' ⟨⟨m, hm, rfl⟩, rfl⟩
  dsimp only
  obtain rfl | rfl | rfl | rfl : m = 0 ∨ m = 1 ∨ m = 2 ∨ m = 3 := by omega
  · obtain ⟨x, f, hx⟩ : ∃ x f, two 112 a.data.toList b.data.toList = (x, f) := ⟨_, _, rfl⟩
    have HX := Lib.hid hx
    have HXR := Lib.hid (two_right hx)
    clear hx
    go_wp2_with fail
    refine (ofPair_any a b _ (by omega) (by omega)).mono ?_
    rw [HX.out]
    rintro e w1 ⟨⟨T, hT, rfl⟩, hb1⟩
    dsimp only at hT ⊢
    have HB1 := Lib.hid hb1
    have HT := Lib.hid hT
    clear hT hb1
    by_cases hf : f = 0
    · subst hf
      go_wp2
      go_ret
      exact ⟨⟨T, by rw [HT.out]; exact HXR.out (by trivial), rfl⟩, HB1.out⟩
    · have hfb : (f != 0) = true := by simpa using hf
      clear hf
      go_wp2
      go_ret
      exact ⟨⟨a, HA.out, rfl⟩, HB1.out⟩
  · obtain ⟨x, f, hx⟩ : ∃ x f, two 115 a.data.toList b.data.toList = (x, f) := ⟨_, _, rfl⟩
    have HX := Lib.hid hx
    have HXR := Lib.hid (two_right hx)
    clear hx
    go_wp2_with fail
    refine (seal_any a b _ (by omega) (by omega)).mono ?_
    rw [HX.out]
    rintro e w1 ⟨⟨T, hT, rfl⟩, hb1⟩
    dsimp only at hT ⊢
    have HB1 := Lib.hid hb1
    have HT := Lib.hid hT
    clear hT hb1
    by_cases hf : f = 0
    · subst hf
      go_wp2
      go_ret
      exact ⟨⟨T, by rw [HT.out]; exact HXR.out (by trivial), rfl⟩, HB1.out⟩
    · have hfb : (f != 0) = true := by simpa using hf
      clear hf
      go_wp2
      go_ret
      exact ⟨⟨a, HA.out, rfl⟩, HB1.out⟩
  · obtain ⟨y, g, hy⟩ : ∃ y g, one 117 a.data.toList = (y, g) := ⟨_, _, rfl⟩
    have HY := Lib.hid hy
    have hyz : y.length ≤ 4000 := by
      unfold one at hy
      split at hy
      · rcases made_err hy with ⟨_, rfl, h⟩ | ⟨_, rfl, _⟩
        · exact (right_len h).2
        · simp
      · simp only [Prod.mk.injEq] at hy
        rw [← hy.1]; simp
    clear hy
    obtain ⟨x, f, hx⟩ : ∃ x f, box y b.data.toList = (x, f) := ⟨_, _, rfl⟩
    have HX := Lib.hid hx
    have HXR := Lib.hid (box_right hx)
    clear hx
    go_wp2_with fail
    refine (ofPublic_any a _ (by omega)).mono ?_
    rw [HY.out]
    rintro e w1 ⟨⟨U, hU, rfl⟩, hb1⟩
    dsimp only at hU ⊢
    have HB1 := Lib.hid hb1
    have hUz : U.size ≤ 4000 := by rw [Lib.size_eq, hU]; exact hyz
    have HU := Lib.hid hU
    clear hU hb1
    go_wp2_with fail
    refine (box_any U b _ (by omega) (by omega)).mono ?_
    rw [HU.out, HX.out]
    rintro e w2 ⟨⟨T, hT, rfl⟩, hb2⟩
    dsimp only at hT ⊢
    have HB2 := Lib.hid (HB1.out.trans (hb2.mono HB1.out.size))
    have HT := Lib.hid hT
    clear hT hb2
    by_cases hf : f = 0
    · subst hf
      go_wp2
      go_ret
      exact ⟨⟨T, by rw [HT.out]; exact HXR.out (by trivial), rfl⟩, HB2.out⟩
    · have hfb : (f != 0) = true := by simpa using hf
      clear hf
      go_wp2
      go_ret
      exact ⟨⟨a, HA.out, rfl⟩, HB2.out⟩
  · obtain ⟨x, f, hx⟩ : ∃ x f, two 103 a.data.toList b.data.toList = (x, f) := ⟨_, _, rfl⟩
    have HX := Lib.hid hx
    have HXR := Lib.hid (two_right hx)
    clear hx
    go_wp2_with fail
    refine (sign_any a b _ (by omega) (by omega)).mono ?_
    rw [HX.out]
    rintro e w1 ⟨⟨T, hT, rfl⟩, hb1⟩
    dsimp only at hT ⊢
    have HB1 := Lib.hid hb1
    have HT := Lib.hid hT
    clear hT hb1
    by_cases hf : f = 0
    · subst hf
      go_wp2
      go_ret
      exact ⟨⟨T, by rw [HT.out]; exact HXR.out (by trivial), rfl⟩, HB1.out⟩
    · have hfb : (f != 0) = true := by simpa using hf
      clear hf
      go_wp2
      go_ret
      exact ⟨⟨a, HA.out, rfl⟩, HB1.out⟩
end Go.Proofs.Ytjoldkhfkobahaa.Term

/-
  SLICES OF NUMBERS that came in, rows of strings of one's own; of the laws' helpers. By an AI agent; no person has read it.
-/
namespace Go.Proofs.Ytjoldkhfkobahaa.Term
open Go.RowKit Wire

/-- A slice of ints that can be read. -/
def IReads (w : World) (a : Option Addr) (zs : List Int) : Prop :=
  ∀ j, j < zs.length → ∃ b off, a = some ⟨b, off, none⟩ ∧ b < w.heap.size ∧ w.cell? ⟨b, off + j, none⟩ = some (.int .i64 (zs.getD j 0)) ∧ -9223372036854775808 ≤ zs.getD j 0 ∧ zs.getD j 0 ≤ 9223372036854775807
theorem IReads.below {w w' : World} {B : Nat} {a : Option Addr} {zs : List Int} (h : IReads w a zs) (hb : Below B w w') (hB : w.heap.size ≤ B) : IReads w' a zs := fun j hj => by
  obtain ⟨b, off, e, hlt, hc, hz⟩ := h j hj
  exact ⟨b, off, e, Nat.lt_of_lt_of_le hlt hb.size, by rw [hb.cell (p := ⟨b, off + j, none⟩) (Nat.lt_of_lt_of_le hlt hB)]; exact hc, hz⟩
theorem ireads_of {w : World} {a : Option Addr} {len cap : Nat} {zs : List Int}
    (h : (a = none ∧ len = 0 ∧ cap = 0 ∧ zs = []) ∨ ∃ x, a = some x ∧ len ≤ cap ∧ cap ≤ maxLen ∧ zs.length = cap ∧ (∀ i, i < zs.length → w.cell? (x.add i) = some (.int .i64 (zs.getD i 0))) ∧ ∀ n ∈ zs, (Lit.int .i64 n).wf = true) :
    ∃ ys : List Int, ys.length = len ∧ len ≤ cap ∧ cap ≤ maxLen ∧ IReads w a ys := by
  rcases h with ⟨rfl, rfl, rfl, rfl⟩ | ⟨x, rfl, h1, h2, h3, h4, h5⟩
  · exact ⟨[], rfl, Nat.le_refl _, Nat.zero_le _, fun j hj => by simp at hj⟩
  · refine ⟨zs.take len, by rw [List.length_take]; omega, h1, h2, fun j hj => ?_⟩
    rw [List.length_take] at hj
    have c0 := h4 0 (by omega)
    have cj := h4 j (by omega)
    obtain ⟨b, off, sp⟩ := x
    have hb : sp = none ∧ b < w.heap.size := by
      have e0 : (⟨b, off, sp⟩ : Addr).add 0 = ⟨b, off, sp⟩ := by simp [Addr.add]
      rw [e0] at c0
      unfold World.cell? at c0
      simp only at c0
      split at c0
      · rename_i h0
        refine ⟨?_, (Array.getElem?_eq_some_iff.1 h0).1⟩
        cases sp with
        | none => rfl
        | some q => simp at c0
      · cases c0
    obtain ⟨rfl, hlt⟩ := hb
    rw [add_none] at cj
    have e : (zs.take len).getD j 0 = zs.getD j 0 := by simp only [List.getD, List.getElem?_take_of_lt (show j < len by omega)]
    rw [e]
    have hw := int_i64 (h5 (zs.getD j 0) (by simp only [List.getD, List.getElem?_eq_getElem (show j < zs.length by omega), Option.getD_some]; exact List.getElem_mem _))
    exact ⟨b, off, rfl, hlt, cj, hw⟩
theorem tdiv_in {z : Int} (h1 : -9223372036854775808 ≤ z) (h2 : z ≤ 9223372036854775807) : -9223372036854775808 ≤ z.tdiv 10 ∧ z.tdiv 10 ≤ 9223372036854775807 := by
  by_cases h : 0 ≤ z
  · rw [Int.tdiv_eq_ediv_of_nonneg h]; omega
  · obtain ⟨q, rfl⟩ : ∃ q : Int, z = -q := ⟨-z, by omega⟩
    rw [Int.neg_tdiv, Int.tdiv_eq_ediv_of_nonneg (by omega)]; omega
theorem ofText_small {s : List UInt8} (h : s.length ≤ 3000) : ofText s = (116 :: putText s, 0) := by
  have h1 := (put_le (n := s.length) (by omega))
  have hr : right (116 :: putText s) = true := by
    refine right_iff.2 ⟨by simp, by simp only [List.length_cons, putText_len]; omega, ?_⟩
    show up (body (size 39) 116 (putText s)) = _
    have h2 : body (size 39) 116 (putText s) = some (putText s).length := by
      have h3 := text_put (t := s) (by omega) [] 4000 (by omega)
      rw [List.append_nil] at h3
      show leaf 116 (putText s) = _
      unfold leaf
      rw [if_neg (by decide), h3]
      simp
    rw [h2]
    simp only [up, List.length_cons]; omega
  unfold ofText made
  rw [if_pos hr]
theorem ofText_small_right {s : List UInt8} (h : s.length ≤ 3000) : right (116 :: putText s) = true := by
  have h1 := ofText_small h
  exact ofText_right h1 rfl
theorem own_get {w : World} {base : Nat} {e : TypeId} {g n c : Nat} {ys : List ByteArray} (h : w.ownsRow base e 1 (.slice (some ⟨g, 0, none⟩) n c) n (sv ys)) (hy : ys.length = n) {j : Nat} (hj : j < n) : w.cell? ⟨g, j, none⟩ = some (.string (ys.getD j ByteArray.empty)) := by
  rw [h.cellAt j (by omega)]
  simp [sv, List.getD, List.getElem?_eq_getElem (show j < ys.length by omega)]
end Go.Proofs.Ytjoldkhfkobahaa.Term

/-
  CONTRACT of the laws' own helper grown at this program. By an AI agent; no person has read it.
-/
namespace Go.Proofs.Ytjoldkhfkobahaa.Term
open Go.RowKit Wire

/-- The stack of right terms. -/
def Stack (w : World) (n : Nat) (v : Value) (wr : World) : Prop := ∃ ys : List ByteArray, ys.length = n ∧ wr.ownsRow w.heap.size 9 1 v n (sv ys) ∧ (∀ y ∈ ys, right y.data.toList = true) ∧ Below w.heap.size w wr
theorem getD_right {ys : List ByteArray} {n j : Nat} (hy : ys.length = n) (hj : j < n) (h : ∀ y ∈ ys, right y.data.toList = true) : right (ys.getD j ByteArray.empty).data.toList = true :=
  h _ (getD_mem (by omega) rfl)

set_option maxHeartbeats 4000000 in
set_option maxRecDepth 1000000 in
theorem grown_any (a : Option Addr) (cap : Nat) (zs : List Int) (w : World) (hr : IReads w a zs) :
    Calls Try.prog 10 #[.slice a zs.length cap] w fun e w' => AText e ∧ Below w.heap.size w w' := by
  have HR := Lib.hid hr
  clear hr
  obtain ⟨i0, hi0, hz0, hz1, hz2⟩ := info_parts str_info
  go_enter Try.func10, Try.ntmps10
  go_wp2_with fail
  refine (ofAtom_any 0 _ (by decide)).mono ?_
  rintro e w1 ⟨⟨T, hT, rfl⟩, hb1⟩
  have HB1 := Lib.hid hb1
  have HTR : Hid (right T.data.toList = true) := by show _ = _; rw [hT]; exact ofAtom_right (by decide)
  clear hT hb1
  go_wp2
  have hst : Stack w 1 (.slice (some ⟨w1.heap.size, 0, none⟩) 1 1) (w1.alloc (.cells #[.string T] 9)) :=
    ⟨[T], rfl, World.ownsRow_lit (e := 9) (size := 1) (base := w.heap.size) w1 #[.string T] 1 HB1.out.size (by decide) rfl, fun y hy => by rw [List.mem_singleton.1 hy]; exact HTR.out, HB1.out.alloc HB1.out.size _⟩
  have HST := Lib.hid hst
  clear hst
  go_loopw [3, 4] (fun v i wr => ∃ k n : Nat, k ≤ zs.length ∧ k ≤ 40 ∧ 1 ≤ n ∧ n ≤ k + 1 ∧ i = .int .i64 k ∧ Hid (Stack w n v wr)) (fun _ i _ => zs.length - (intOf i).toNat)
  case atStart => exact ⟨0, 1, Nat.zero_le _, Nat.zero_le _, Nat.le_refl _, Nat.le_refl _, rfl, HST⟩
  case round =>
    obtain ⟨k, n, hk, hk40, hn1, hn2, rfl, HS⟩ := hrel
    clear HST HTR HB1
    obtain ⟨ys, hyl, ho, hright, hbel⟩ := HS.out
    obtain ⟨g, c, rfl, _, hg⟩ := ho.form (by omega)
    have HO := Lib.hid ho
    have HYL := Lib.hid hyl
    have HRT := Lib.hid hright
    have HBL := Lib.hid hbel
    clear ho hyl hright hbel HS
    by_cases hlt : k < zs.length
    · by_cases h40 : (k : Int) < 40
      · obtain ⟨b, off, rfl, hblt, hcell, hzl, hzh⟩ := HR.out k hlt
        obtain ⟨z, hz⟩ : ∃ z, zs.getD k 0 = z := ⟨_, rfl⟩
        rw [hz] at hcell hzl hzh
        rw [← HBL.out.cell (p := ⟨b, off + k, none⟩) hblt] at hcell
        obtain ⟨hq1, hq2⟩ := tdiv_in hzl hzh
        clear hz
        have hcy := own_get HO.out HYL.out (j := n - 1) (by omega)
        obtain ⟨y, hy⟩ : ∃ y, ys.getD (n - 1) ByteArray.empty = y := ⟨_, rfl⟩
        have hyr := getD_right HYL.out (j := n - 1) (by omega) HRT.out
        rw [hy] at hcy hyr
        have hyz := (right_sz hyr).2
        have hfz := HO.out.frozenAt (n - 1)
        have HYR := Lib.hid hyr
        clear hy hyr
        go_wp2_with fail
        refine (pick_any z 10 _ ⟨hzl, hzh⟩ (by omega) (by omega)).mono ?_
        rintro e w' ⟨⟨m, hm, rfl⟩, rfl⟩
        dsimp only
        go_wp2_with fail
        refine (pick_any (z.tdiv 10) 5 _ ⟨hq1, hq2⟩ (by omega) (by omega)).mono ?_
        rintro e w' ⟨⟨v, hv, rfl⟩, rfl⟩
        dsimp only
        by_cases hm3 : (m : Int) < 3
        · have hwv : IntKind.u64.wrap (v : Int) = (v : Int) := by rw [IntKind.wrap_u64]; omega
          go_wp2_with fail
          refine (ofAtom_any v _ (by omega)).mono ?_
          rintro e w5 ⟨⟨T, hT, rfl⟩, hb5⟩
          have HTR : Hid (right T.data.toList = true) := by show _ = _; rw [hT]; exact ofAtom_right (by omega)
          have HB5 := Lib.hid (HBL.out.trans (hb5.mono HBL.out.size))
          have HB5' := Lib.hid hb5
          clear hT hb5
          go_wp2_with (
            at_builtin
            refine wpList_append_own _ rfl _ _ _ rfl w.heap.size 9 i0 _ 1 16 Try.underlying35 hi0 hz0 hz1 hz2 rfl (by decide) _ n (sv ys) rfl ?c1 _ 1 1 [.string T] rfl rfl ?c2 ?c3 ?c4 ?c5 ?c6 ?_
            case c1 => exact (own_below HO.out HB5'.out (Nat.le_refl _)).alloc _
            case c2 => exact lit_cells _ _ _
            case c3 => exact sv_one [T]
            case c4 => simp only [maxLen]; omega
            case c5 => omega
            case c6 =>
              have h := HB5.out.size
              simp only [World.alloc, Array.size_push]
              exact Nat.le_succ_of_le h
            intro v6 w6 hown hgrow _
            have HO6 := Lib.hid hown
            have HG6 := Lib.hid hgrow
            clear hown hgrow)
          go_roundw
          case rel =>
            refine ⟨k + 1, n + 1, by omega, by omega, by omega, by omega, by go_num, ys ++ [T], by simp [HYL.out], by simpa [sv] using HO6.out, fun x hx => ?_, ?_⟩
            · rcases List.mem_append.1 hx with hx | hx
              · exact HRT.out x hx
              · rw [List.mem_singleton.1 hx]; exact HTR.out
            · refine (HB5.out.alloc HB5.out.size (.cells #[.string T] 9)).grown HG6.out (by
                have := HB5.out.size
                simp only [World.alloc, Array.size_push]
                omega) fun g' hg' => ?_
              exact (HO.out.lt g' hg').1
          case measure => simp [intOf]; omega
        · have hm3' : (3 : Int) ≤ (m : Int) := by omega
          clear hm3
          by_cases e3 : m = 3
          · have c3 : ((m : Int) == 3) = true := by rw [e3]; rfl
            have hX : ((ByteArray.mk #[97, 98, 99, 100, 101]).extract 0 v).data.toList.length ≤ 5 := by rw [extract_take, List.length_take]; omega
            have hXz : ((ByteArray.mk #[97, 98, 99, 100, 101]).extract 0 v).size ≤ 5 := by rw [Lib.size_eq]; exact hX
            have HOT := Lib.hid (ofText_small (Nat.le_trans hX (by decide)))
            have HOR := Lib.hid (ofText_small_right (Nat.le_trans hX (by decide)))
            have hv0 : (0 : Int) ≤ (v : Int) := by omega
            have hv5 : (v : Int) ≤ 5 := by omega
            clear hX e3
            go_wp2_with fail
            obtain ⟨X, hXX⟩ : ∃ X, (ByteArray.mk #[97, 98, 99, 100, 101]).extract 0 v = X := ⟨_, rfl⟩
            rw [hXX] at hXz HOT HOR ⊢
            clear hXX
            refine (ofText_any X _ (by omega)).mono ?_
            rw [HOT.out]
            rintro e w5 ⟨⟨T, hT, rfl⟩, hb5⟩
            dsimp only at hT ⊢
            have HTR : Hid (right T.data.toList = true) := by show _ = _; rw [hT]; exact HOR.out
            have HB5 := Lib.hid (HBL.out.trans (hb5.mono HBL.out.size))
            have HB5' := Lib.hid hb5
            clear hT hb5
            go_wp2_with (
              at_builtin
              refine wpList_append_own _ rfl _ _ _ rfl w.heap.size 9 i0 _ 1 16 Try.underlying35 hi0 hz0 hz1 hz2 rfl (by decide) _ n (sv ys) rfl ?c1 _ 1 1 [.string T] rfl rfl ?c2 ?c3 ?c4 ?c5 ?c6 ?_
              case c1 => exact (own_below HO.out HB5'.out (Nat.le_refl _)).alloc _
              case c2 => exact lit_cells _ _ _
              case c3 => exact sv_one [T]
              case c4 => simp only [maxLen]; omega
              case c5 => omega
              case c6 =>
                have h := HB5.out.size
                simp only [World.alloc, Array.size_push]
                exact Nat.le_succ_of_le h
              intro v6 w6 hown hgrow _
              have HO6 := Lib.hid hown
              have HG6 := Lib.hid hgrow
              clear hown hgrow)
            go_roundw
            case rel =>
              refine ⟨k + 1, n + 1, by omega, by omega, by omega, by omega, by go_num, ys ++ [T], by simp [HYL.out], by simpa [sv] using HO6.out, fun x hx => ?_, ?_⟩
              · rcases List.mem_append.1 hx with hx | hx
                · exact HRT.out x hx
                · rw [List.mem_singleton.1 hx]; exact HTR.out
              · refine (HB5.out.alloc HB5.out.size (.cells #[.string T] 9)).grown HG6.out (by
                  have := HB5.out.size
                  simp only [World.alloc, Array.size_push]
                  omega) fun g' hg' => ?_
                exact (HO.out.lt g' hg').1
            case measure => simp [intOf]; omega
          · have c3 : ((m : Int) == 3) = false := by rw [beq_eq_false_iff_ne]; omega
            by_cases e4 : m = 4
            · have c4 : ((m : Int) == 4) = true := by rw [e4]; rfl
              clear e3 e4
              obtain ⟨x, f, hx⟩ : ∃ x f, one 104 y.data.toList = (x, f) := ⟨_, _, rfl⟩
              have HX := Lib.hid hx
              have HXR := Lib.hid (one_right hx)
              clear hx
              go_wp2_with fail
              refine (ofHash_any y _ (by omega)).mono ?_
              rw [HX.out]
              rintro e w5 ⟨⟨T, hT, rfl⟩, hb5⟩
              dsimp only at hT ⊢
              have HB5 := Lib.hid (HBL.out.trans (hb5.mono HBL.out.size))
              have HO5 := Lib.hid (own_below HO.out hb5 (Nat.le_refl _))
              have hc5 := own_get HO5.out HYL.out (j := n - 1) (by omega)
              have hf5 := HO5.out.frozenAt (n - 1)
              have HT := Lib.hid hT
              clear hT hb5
              by_cases hf : f = 0
              · subst hf
                have HTR : Hid (right T.data.toList = true) := by show _ = _; rw [HT.out]; exact HXR.out rfl
                go_wp2
                go_roundw
                case rel =>
                  have h6 := HO5.out.stored (n - 1) (.string T)
                  refine ⟨k + 1, n, by omega, by omega, hn1, by omega, by go_num, ys.set (n - 1) T, by rw [List.length_set]; exact HYL.out, ?_, fun x hx => ?_, ?_⟩
                  · have h7 := h6.1
                    have e : (sv ys).set (n - 1) (.string T) = sv (ys.set (n - 1) T) := by simp only [sv, List.map_set]
                    rw [e] at h7
                    exact h7
                  · rcases List.mem_or_eq_of_mem_set hx with hx | hx
                    · exact HRT.out x hx
                    · rw [hx]; exact HTR.out
                  · exact HB5.out.grown h6.2 HB5.out.size fun g' hg' => by
                      injection hg' with hg'
                      subst hg'
                      exact (HO.out.lt g rfl).1
                case measure => simp [intOf]; omega
              · have hfb : (f == 0) = false := by simpa using hf
                clear hf
                go_wp2
                go_roundw
                case rel => exact ⟨k + 1, n, by omega, by omega, hn1, by omega, by go_num, ys, HYL.out, HO5.out, HRT.out, HB5.out⟩
                case measure => simp [intOf]; omega
            · have c4 : ((m : Int) == 4) = false := by rw [beq_eq_false_iff_ne]; omega
              by_cases e5 : m = 5
              · have c5 : ((m : Int) == 5) = true := by rw [e5]; rfl
                clear e3 e4 e5
                obtain ⟨x, f, hx⟩ : ∃ x f, one 117 y.data.toList = (x, f) := ⟨_, _, rfl⟩
                have HX := Lib.hid hx
                have HXR := Lib.hid (one_right hx)
                clear hx
                go_wp2_with fail
                refine (ofPublic_any y _ (by omega)).mono ?_
                rw [HX.out]
                rintro e w5 ⟨⟨T, hT, rfl⟩, hb5⟩
                dsimp only at hT ⊢
                have HB5 := Lib.hid (HBL.out.trans (hb5.mono HBL.out.size))
                have HO5 := Lib.hid (own_below HO.out hb5 (Nat.le_refl _))
                have hc5 := own_get HO5.out HYL.out (j := n - 1) (by omega)
                have hf5 := HO5.out.frozenAt (n - 1)
                have HT := Lib.hid hT
                clear hT hb5
                by_cases hf : f = 0
                · subst hf
                  have HTR : Hid (right T.data.toList = true) := by show _ = _; rw [HT.out]; exact HXR.out rfl
                  go_wp2
                  go_roundw
                  case rel =>
                    have h6 := HO5.out.stored (n - 1) (.string T)
                    refine ⟨k + 1, n, by omega, by omega, hn1, by omega, by go_num, ys.set (n - 1) T, by rw [List.length_set]; exact HYL.out, ?_, fun x hx => ?_, ?_⟩
                    · have h7 := h6.1
                      have e : (sv ys).set (n - 1) (.string T) = sv (ys.set (n - 1) T) := by simp only [sv, List.map_set]
                      rw [e] at h7
                      exact h7
                    · rcases List.mem_or_eq_of_mem_set hx with hx | hx
                      · exact HRT.out x hx
                      · rw [hx]; exact HTR.out
                    · exact HB5.out.grown h6.2 HB5.out.size fun g' hg' => by
                        injection hg' with hg'
                        subst hg'
                        exact (HO.out.lt g rfl).1
                  case measure => simp [intOf]; omega
                · have hfb : (f == 0) = false := by simpa using hf
                  clear hf
                  go_wp2
                  go_roundw
                  case rel => exact ⟨k + 1, n, by omega, by omega, hn1, by omega, by go_num, ys, HYL.out, HO5.out, HRT.out, HB5.out⟩
                  case measure => simp [intOf]; omega
              · have c5 : ((m : Int) == 5) = false := by rw [beq_eq_false_iff_ne]; omega
                clear e3 e4 e5
                by_cases hn2' : (1 : Int) < (n : Int)
                · have hcy2 := own_get HO.out HYL.out (j := n - 2) (by omega)
                  obtain ⟨y2, hy2⟩ : ∃ y2, ys.getD (n - 2) ByteArray.empty = y2 := ⟨_, rfl⟩
                  have hyr2 := getD_right HYL.out (j := n - 2) (by omega) HRT.out
                  rw [hy2] at hcy2 hyr2
                  have HYR2 := Lib.hid hyr2
                  have hyz2 := (right_sz hyr2).2
                  obtain ⟨_, _, hnc⟩ := sreads_own HO.out
                  have hi1 : (0 : Int) ≤ (n : Int) - 1 := by omega
                  have hi2 : (n : Int) - 1 < (n : Int) := by omega
                  have hi3 : (0 : Int) ≤ (n : Int) - 2 := by omega
                  have hi4 : (n : Int) - 2 < (n : Int) := by omega
                  have hi5 : IntKind.i64.wrap ((n : Int) - 1) = (n : Int) - 1 := by rw [IntKind.wrap_i64]; omega
                  have hi6 : IntKind.i64.wrap ((n : Int) - 2) = (n : Int) - 2 := by rw [IntKind.wrap_i64]; omega
                  have hi7 : (n : Int) - 2 ≤ (c : Int) := by omega
                  have hi8 : (1 : Int) ≤ (n : Int) := by omega
                  have hi9 : (2 : Int) ≤ (n : Int) := by omega
                  have hia : ((n : Int) - 1).toNat = n - 1 := by omega
                  have hib : ((n : Int) - 2).toNat = n - 2 := by omega
                  clear hy2 hyr2
                  go_wp2
                  go_region_held3 (fun w' => w'.cell? ⟨g, n - 2, none⟩ = some (.string y2) ∧ w'.cell? ⟨g, n - 1, none⟩ = some (.string y))
                    (first | go_keep | exact ⟨hcA, hcB⟩)
                    (first
                      | (go_simp
                         go_at_call 27
                         refine (joined_any m y2 y _ (by omega) HYR2.out HYR.out).mono ?_
                         rintro e w5 ⟨⟨T, hT, rfl⟩, hb5⟩
                         have HTR := Lib.hid hT
                         have HB5 := Lib.hid (HBL.out.drew.trans (hb5.mono HBL.out.size))
                         have hcA : w5.cell? ⟨g, n - 2, none⟩ = some (.string y2) := (hb5.cell (p := ⟨g, n - 2, none⟩) hg).trans hcy2
                         have hcB : w5.cell? ⟨g, n - 1, none⟩ = some (.string y) := (hb5.cell (p := ⟨g, n - 1, none⟩) hg).trans hcy
                         have HO5 := Lib.hid (own_below (own_below HO.out ((Below.refl wr.heap.size wr).drew) (Nat.le_refl _)) hb5 (Nat.le_refl _))
                         clear hT hb5
                         dsimp only))
                  have HL0 := Lib.hid (World.ownsRow_lit (e := 9) (size := 1) (base := w.heap.size) w5 #[] 0 HB5.out.size (by decide) rfl)
                  go_wp2_with (first
                    | (at_builtin
                       refine wpList_append_own _ rfl _ _ _ rfl w.heap.size 9 i0 _ 1 16 Try.underlying35 hi0 hz0 hz1 hz2 rfl (by decide) v6 (0 + (n - 2)) ([] ++ sv (ys.take (n - 2))) rfl ?d1 _ 1 1 [.string T] rfl rfl ?d2 ?d3 ?d4 ?d5 ?d6 ?_
                       case d1 => exact HO6.out.alloc _
                       case d2 => exact lit_cells _ _ _
                       case d3 => exact sv_one [T]
                       case d4 => simp only [maxLen]; omega
                       case d5 => omega
                       case d6 =>
                         have h := HB6.out.size
                         simp only [World.alloc, Array.size_push]
                         exact Nat.le_succ_of_le h
                       intro v7 w7 hown hgrow _
                       have HO7 := Lib.hid hown
                       have HG7 := Lib.hid hgrow
                       clear hown hgrow)
                    | (at_builtin
                       refine wpList_append_own _ rfl _ _ _ rfl w.heap.size 9 i0 _ 1 16 Try.underlying35 hi0 hz0 hz1 hz2 rfl (by decide) _ 0 [] rfl ?c1 ⟨g, 0, none⟩ (n - 2) c (sv (ys.take (n - 2))) rfl ?c0 ?c2 ?c3 ?c4 ?c5 ?c6 ?_
                       case c0 => simp only [sv, List.length_map, List.length_take]; have := HYL.out; omega
                       case c1 => exact HL0.out
                       case c2 =>
                         intro j u hu
                         have hj : j < n - 2 := by
                           have := (List.getElem?_eq_some_iff.1 hu).1
                           simp only [sv, List.length_map, List.length_take] at this
                           omega
                         have h9 := own_get (HO5.out.alloc (.cells #[] 9)) HYL.out (j := j) (by omega)
                         rw [add_none, Nat.zero_add, h9]
                         simp only [sv, List.getElem?_map, List.getElem?_take_of_lt hj] at hu
                         rw [List.getElem?_eq_getElem (by have := HYL.out; omega)] at hu
                         rw [← hu]
                         simp [List.getD, List.getElem?_eq_getElem (show j < ys.length by have := HYL.out; omega)]
                       case c3 => exact sv_one _
                       case c4 => simp only [maxLen]; omega
                       case c5 => omega
                       case c6 =>
                         have h := HB5.out.size
                         simp only [World.alloc, Array.size_push]
                         exact Nat.le_succ_of_le h
                       intro v6 w6 hown hgrow _
                       have HO6 := Lib.hid hown
                       have HB6 := Lib.hid ((HB5.out.alloc HB5.out.size (.cells #[] 9)).grown hgrow (by
                         have := HB5.out.size
                         simp only [World.alloc, Array.size_push]
                         omega) fun g' hg' => (HL0.out.lt g' hg').1)
                       clear hown hgrow))
                  go_roundw
                  case rel =>
                    refine ⟨k + 1, 0 + (n - 2) + 1, by omega, by omega, by omega, by omega, by go_num, ys.take (n - 2) ++ [T], ?_, ?_, fun x hx => ?_, ?_⟩
                    · have := HYL.out
                      rw [List.length_append, List.length_take, List.length_singleton]; omega
                    · have h := HO7.out
                      simpa [sv] using h
                    · rcases List.mem_append.1 hx with hx | hx
                      · exact HRT.out x (List.mem_of_mem_take hx)
                      · rw [List.mem_singleton.1 hx]; exact HTR.out
                    · refine (HB6.out.alloc HB6.out.size (.cells #[.string T] 9)).grown HG7.out (by
                        have := HB6.out.size
                        simp only [World.alloc, Array.size_push]
                        omega) fun g' hg' => ?_
                      exact (HO6.out.lt g' hg').1
                  case measure => simp [intOf]; omega
                · go_wp2
                  go_roundw
                  case rel => exact ⟨k + 1, n, by omega, by omega, hn1, by omega, by go_num, ys, HYL.out, HO.out, HRT.out, HBL.out⟩
                  case measure => simp [intOf]; omega
      · have hcy := own_get HO.out HYL.out (j := n - 1) (by omega)
        obtain ⟨y, hy⟩ : ∃ y, ys.getD (n - 1) ByteArray.empty = y := ⟨_, rfl⟩
        have hyr := getD_right HYL.out (j := n - 1) (by omega) HRT.out
        rw [hy] at hcy hyr
        have HYR := Lib.hid hyr
        clear hy hyr
        go_wp2
        go_ret
        exact ⟨⟨_, HYR.out, rfl⟩, HBL.out⟩
    · have hcy := own_get HO.out HYL.out (j := n - 1) (by omega)
      obtain ⟨y, hy⟩ : ∃ y, ys.getD (n - 1) ByteArray.empty = y := ⟨_, rfl⟩
      have hyr := getD_right HYL.out (j := n - 1) (by omega) HRT.out
      rw [hy] at hcy hyr
      have HYR := Lib.hid hyr
      clear hy hyr
      go_wp2
      go_ret
      exact ⟨⟨_, HYR.out, rfl⟩, HBL.out⟩
end Go.Proofs.Ytjoldkhfkobahaa.Term

/-
  THE CODE's term.shape: what a right term is read into (an interface whose type tells the kind), and what its type assertions and comparisons with nil come to. By an AI agent; no person has read it.
-/
namespace Go.Proofs.Ytjoldkhfkobahaa.Term
open Go.RowKit Wire

/-- The shape of a right term: the value that the code keeps of it. -/
def Shp (l : List UInt8) (v : Value) : Prop :=
  (∃ n : Nat, n < 18446744073709551616 ∧ l = 97 :: put n ∧ v = .iface 91 (.agg #[.int .u64 n])) ∨
  (∃ W : ByteArray, W.size ≤ 4000 ∧ l = 116 :: putText W.data.toList ∧ v = .iface 93 (.agg #[.string W])) ∨
  (∃ P : ByteArray, right P.data.toList = true ∧ l = 104 :: P.data.toList ∧ v = .iface 95 (.agg #[.string P])) ∨
  (∃ P : ByteArray, right P.data.toList = true ∧ l = 117 :: P.data.toList ∧ v = .iface 97 (.agg #[.string P])) ∨
  (∃ P Q : ByteArray, (right P.data.toList = true ∧ right Q.data.toList = true) ∧ l = 112 :: (P.data.toList ++ Q.data.toList) ∧ v = .iface 99 (.agg #[.string P, .string Q])) ∨
  (∃ P Q : ByteArray, (right P.data.toList = true ∧ right Q.data.toList = true) ∧ l = 115 :: (P.data.toList ++ Q.data.toList) ∧ v = .iface 101 (.agg #[.string P, .string Q])) ∨
  (∃ P Q : ByteArray, (right P.data.toList = true ∧ right Q.data.toList = true) ∧ l = 103 :: (P.data.toList ++ Q.data.toList) ∧ v = .iface 103 (.agg #[.string P, .string Q])) ∨
  (∃ P Q : ByteArray, (right P.data.toList = true ∧ right Q.data.toList = true ∧ P.data.toList.head? = some 117) ∧ l = 98 :: (P.data.toList ++ Q.data.toList) ∧ v = .iface 106 (.agg #[.string P, .string Q]))
theorem Shp.atom (n : Nat) (hn : n < 18446744073709551616) : Shp (97 :: put n) (.iface 91 (.agg #[.int .u64 n])) := .inl ⟨n, hn, rfl, rfl⟩
theorem Shp.text (W : ByteArray) (h : W.size ≤ 4000) : Shp (116 :: putText W.data.toList) (.iface 93 (.agg #[.string W])) := .inr (.inl ⟨W, h, rfl, rfl⟩)
theorem Shp.hash (P : ByteArray) (h : right P.data.toList = true) : Shp (104 :: P.data.toList) (.iface 95 (.agg #[.string P])) := .inr (.inr (.inl ⟨P, h, rfl, rfl⟩))
theorem Shp.pub (P : ByteArray) (h : right P.data.toList = true) : Shp (117 :: P.data.toList) (.iface 97 (.agg #[.string P])) := .inr (.inr (.inr (.inl ⟨P, h, rfl, rfl⟩)))
theorem Shp.pair (P Q : ByteArray) (h : right P.data.toList = true) (h2 : right Q.data.toList = true) : Shp (112 :: (P.data.toList ++ Q.data.toList)) (.iface 99 (.agg #[.string P, .string Q])) := .inr (.inr (.inr (.inr (.inl ⟨P, Q, ⟨h, h2⟩, rfl, rfl⟩))))
theorem Shp.sealed (P Q : ByteArray) (h : right P.data.toList = true) (h2 : right Q.data.toList = true) : Shp (115 :: (P.data.toList ++ Q.data.toList)) (.iface 101 (.agg #[.string P, .string Q])) := .inr (.inr (.inr (.inr (.inr (.inl ⟨P, Q, ⟨h, h2⟩, rfl, rfl⟩)))))
theorem Shp.signed (P Q : ByteArray) (h : right P.data.toList = true) (h2 : right Q.data.toList = true) : Shp (103 :: (P.data.toList ++ Q.data.toList)) (.iface 103 (.agg #[.string P, .string Q])) := .inr (.inr (.inr (.inr (.inr (.inr (.inl ⟨P, Q, ⟨h, h2⟩, rfl, rfl⟩))))))
theorem Shp.boxed (P Q : ByteArray) (h : right P.data.toList = true) (h2 : right Q.data.toList = true) (h3 : P.data.toList.head? = some 117) : Shp (98 :: (P.data.toList ++ Q.data.toList)) (.iface 106 (.agg #[.string P, .string Q])) := .inr (.inr (.inr (.inr (.inr (.inr (.inr ⟨P, Q, ⟨h, h2, h3⟩, rfl, rfl⟩))))))
theorem Shp.isIface {l : List UInt8} {v : Value} (h : Shp l v) : ∃ T a, v = .iface T a := by
  rcases h with ⟨_, _, _, h⟩ | ⟨_, _, _, h⟩ | ⟨_, _, _, h⟩ | ⟨_, _, _, h⟩ | ⟨_, _, _, _, h⟩ | ⟨_, _, _, _, h⟩ | ⟨_, _, _, _, h⟩ | ⟨_, _, _, _, h⟩ <;> exact ⟨_, _, h⟩
theorem Shp.head {l : List UInt8} {T : TypeId} {a : Value} (h : Shp l (.iface T a)) : (T = 97 ∧ l.head? = some 117) ∨ (T ≠ 97 ∧ l.head? ≠ some 117) := by
  rcases h with ⟨_, _, hl, h⟩ | ⟨_, _, hl, h⟩ | ⟨_, _, hl, h⟩ | ⟨_, _, hl, h⟩ | ⟨_, _, _, hl, h⟩ | ⟨_, _, _, hl, h⟩ | ⟨_, _, _, hl, h⟩ | ⟨_, _, _, hl, h⟩
  case inr.inr.inr.inl => injection h with h1 _; exact .inl ⟨h1, by rw [hl]; rfl⟩
  all_goals (injection h with h1 _; exact .inr ⟨by rw [h1]; decide, by rw [hl]; simp⟩)

theorem nil_no (w : World) (T : TypeId) (a : Value) : (binOp .eql 56 (.iface T a) .nilIface).run Try.prog w = .ok (.bool false) w := by kernel_rfl
theorem nil_yes (w : World) : (binOp .eql 56 .nilIface .nilIface).run Try.prog w = .ok (.bool true) w := by kernel_rfl
theorem zero_publicOne (w : World) : (do pure (Value.tuple #[← zeroValue 97, .bool false]) : Sem Value).run Try.prog w = .ok (.tuple #[.agg #[.string ⟨#[]⟩], .bool false]) w := by kernel_rfl
theorem is_publicOne (v : Value) (w : World) : (Instr.typeAssert (.iface 97 v) 56 97 true).run Try.prog w = .ok (.tuple #[v, .bool true]) w := by kernel_rfl
theorem no_publicOne (u : TypeId) (v : Value) (w : World) (h : u ≠ 97) : (Instr.typeAssert (.iface u v) 56 97 true).run Try.prog w = .ok (.tuple #[.agg #[.string ⟨#[]⟩], .bool false]) w := by
  have e : (Instr.typeAssert (.iface u v) 56 97 true).run Try.prog w = (if u = 97 then (pure (Value.tuple #[v, .bool true]) : Sem Value) else (do pure (Value.tuple #[← zeroValue 97, .bool false]))).run Try.prog w := by kernel_rfl
  rw [e, if_neg h]
  exact zero_publicOne w
theorem nil_publicOne (w : World) : (Instr.typeAssert .nilIface 56 97 true).run Try.prog w = .ok (.tuple #[.agg #[.string ⟨#[]⟩], .bool false]) w := by kernel_rfl
theorem zero_atom (w : World) : (do pure (Value.tuple #[← zeroValue 91, .bool false]) : Sem Value).run Try.prog w = .ok (.tuple #[.agg #[.int .u64 0], .bool false]) w := by kernel_rfl
theorem is_atom (v : Value) (w : World) : (Instr.typeAssert (.iface 91 v) 56 91 true).run Try.prog w = .ok (.tuple #[v, .bool true]) w := by kernel_rfl
theorem no_atom (u : TypeId) (v : Value) (w : World) (h : u ≠ 91) : (Instr.typeAssert (.iface u v) 56 91 true).run Try.prog w = .ok (.tuple #[.agg #[.int .u64 0], .bool false]) w := by
  have e : (Instr.typeAssert (.iface u v) 56 91 true).run Try.prog w = (if u = 91 then (pure (Value.tuple #[v, .bool true]) : Sem Value) else (do pure (Value.tuple #[← zeroValue 91, .bool false]))).run Try.prog w := by kernel_rfl
  rw [e, if_neg h]
  exact zero_atom w
theorem nil_atom (w : World) : (Instr.typeAssert .nilIface 56 91 true).run Try.prog w = .ok (.tuple #[.agg #[.int .u64 0], .bool false]) w := by kernel_rfl
theorem zero_text (w : World) : (do pure (Value.tuple #[← zeroValue 93, .bool false]) : Sem Value).run Try.prog w = .ok (.tuple #[.agg #[.string ⟨#[]⟩], .bool false]) w := by kernel_rfl
theorem is_text (v : Value) (w : World) : (Instr.typeAssert (.iface 93 v) 56 93 true).run Try.prog w = .ok (.tuple #[v, .bool true]) w := by kernel_rfl
theorem no_text (u : TypeId) (v : Value) (w : World) (h : u ≠ 93) : (Instr.typeAssert (.iface u v) 56 93 true).run Try.prog w = .ok (.tuple #[.agg #[.string ⟨#[]⟩], .bool false]) w := by
  have e : (Instr.typeAssert (.iface u v) 56 93 true).run Try.prog w = (if u = 93 then (pure (Value.tuple #[v, .bool true]) : Sem Value) else (do pure (Value.tuple #[← zeroValue 93, .bool false]))).run Try.prog w := by kernel_rfl
  rw [e, if_neg h]
  exact zero_text w
theorem nil_text (w : World) : (Instr.typeAssert .nilIface 56 93 true).run Try.prog w = .ok (.tuple #[.agg #[.string ⟨#[]⟩], .bool false]) w := by kernel_rfl
theorem zero_sealed (w : World) : (do pure (Value.tuple #[← zeroValue 101, .bool false]) : Sem Value).run Try.prog w = .ok (.tuple #[.agg #[.string ⟨#[]⟩, .string ⟨#[]⟩], .bool false]) w := by kernel_rfl
theorem is_sealed (v : Value) (w : World) : (Instr.typeAssert (.iface 101 v) 56 101 true).run Try.prog w = .ok (.tuple #[v, .bool true]) w := by kernel_rfl
theorem no_sealed (u : TypeId) (v : Value) (w : World) (h : u ≠ 101) : (Instr.typeAssert (.iface u v) 56 101 true).run Try.prog w = .ok (.tuple #[.agg #[.string ⟨#[]⟩, .string ⟨#[]⟩], .bool false]) w := by
  have e : (Instr.typeAssert (.iface u v) 56 101 true).run Try.prog w = (if u = 101 then (pure (Value.tuple #[v, .bool true]) : Sem Value) else (do pure (Value.tuple #[← zeroValue 101, .bool false]))).run Try.prog w := by kernel_rfl
  rw [e, if_neg h]
  exact zero_sealed w
theorem nil_sealed (w : World) : (Instr.typeAssert .nilIface 56 101 true).run Try.prog w = .ok (.tuple #[.agg #[.string ⟨#[]⟩, .string ⟨#[]⟩], .bool false]) w := by kernel_rfl
theorem zero_boxed (w : World) : (do pure (Value.tuple #[← zeroValue 106, .bool false]) : Sem Value).run Try.prog w = .ok (.tuple #[.agg #[.string ⟨#[]⟩, .string ⟨#[]⟩], .bool false]) w := by kernel_rfl
theorem is_boxed (v : Value) (w : World) : (Instr.typeAssert (.iface 106 v) 56 106 true).run Try.prog w = .ok (.tuple #[v, .bool true]) w := by kernel_rfl
theorem no_boxed (u : TypeId) (v : Value) (w : World) (h : u ≠ 106) : (Instr.typeAssert (.iface u v) 56 106 true).run Try.prog w = .ok (.tuple #[.agg #[.string ⟨#[]⟩, .string ⟨#[]⟩], .bool false]) w := by
  have e : (Instr.typeAssert (.iface u v) 56 106 true).run Try.prog w = (if u = 106 then (pure (Value.tuple #[v, .bool true]) : Sem Value) else (do pure (Value.tuple #[← zeroValue 106, .bool false]))).run Try.prog w := by kernel_rfl
  rw [e, if_neg h]
  exact zero_boxed w
theorem nil_boxed (w : World) : (Instr.typeAssert .nilIface 56 106 true).run Try.prog w = .ok (.tuple #[.agg #[.string ⟨#[]⟩, .string ⟨#[]⟩], .bool false]) w := by kernel_rfl
theorem zero_signed (w : World) : (do pure (Value.tuple #[← zeroValue 103, .bool false]) : Sem Value).run Try.prog w = .ok (.tuple #[.agg #[.string ⟨#[]⟩, .string ⟨#[]⟩], .bool false]) w := by kernel_rfl
theorem is_signed (v : Value) (w : World) : (Instr.typeAssert (.iface 103 v) 56 103 true).run Try.prog w = .ok (.tuple #[v, .bool true]) w := by kernel_rfl
theorem no_signed (u : TypeId) (v : Value) (w : World) (h : u ≠ 103) : (Instr.typeAssert (.iface u v) 56 103 true).run Try.prog w = .ok (.tuple #[.agg #[.string ⟨#[]⟩, .string ⟨#[]⟩], .bool false]) w := by
  have e : (Instr.typeAssert (.iface u v) 56 103 true).run Try.prog w = (if u = 103 then (pure (Value.tuple #[v, .bool true]) : Sem Value) else (do pure (Value.tuple #[← zeroValue 103, .bool false]))).run Try.prog w := by kernel_rfl
  rw [e, if_neg h]
  exact zero_signed w
theorem nil_signed (w : World) : (Instr.typeAssert .nilIface 56 103 true).run Try.prog w = .ok (.tuple #[.agg #[.string ⟨#[]⟩, .string ⟨#[]⟩], .bool false]) w := by kernel_rfl
end Go.Proofs.Ytjoldkhfkobahaa.Term

/-
  CONTRACTS of the code's takeAtom, takeText, takeOne, takeTwo, take, whole (package term). By an AI agent; no person has read it.
-/
namespace Go.Proofs.Ytjoldkhfkobahaa.Term
open Go.RowKit Wire

/-- What taking a term off answers, the kind being read: so many bytes behind it, or nothing. -/
def Ans (k : UInt8) (t : List UInt8) : Option Nat → Ending → Prop
  | none, e => e = .returned (.tuple #[.nilIface, .string ⟨#[]⟩])
  | some n, e => ∃ (T : TypeId) (a : Value) (R : ByteArray), Shp (k :: t.take n) (.iface T a) ∧ R.data.toList = t.drop n ∧ e = .returned (.tuple #[.iface T a, .string R])
/-- The same, of a whole term of n bytes. -/
def Tks (l : List UInt8) (n : Nat) (e : Ending) : Prop :=
  (n = 0 ∧ e = .returned (.tuple #[.nilIface, .string ⟨#[]⟩])) ∨
  (n ≠ 0 ∧ ∃ (T : TypeId) (a : Value) (R : ByteArray), Shp (l.take n) (.iface T a) ∧ R.data.toList = l.drop n ∧ e = .returned (.tuple #[.iface T a, .string R]))
theorem Ans.tks {k : UInt8} {t : List UInt8} {o : Option Nat} {e : Ending} (h : Ans k t o e) : Tks (k :: t) (up o) e := by
  cases o with
  | none => exact .inl ⟨rfl, h⟩
  | some n =>
    obtain ⟨T, a, R, h1, h2, h3⟩ := h
    refine .inr ⟨by simp [up], T, a, R, ?_, ?_, h3⟩
    · rw [show up (some n) = n + 1 by simp [up]; omega, List.take_succ_cons]; exact h1
    · rw [show up (some n) = n + 1 by simp [up]; omega, List.drop_succ_cons]; exact h2

set_option maxHeartbeats 1000000 in
theorem takeAtom_any (s : ByteArray) (w : World) (hs : s.size ≤ 4000) :
    Calls Try.prog 63 #[.string s] w fun e w' => Ans 97 s.data.toList (leaf 97 s.data.toList) e ∧ Below w.heap.size w w' := by
  have hl : leaf 97 s.data.toList = (take s.data.toList).map fun p => s.data.toList.length - p.2.length := by unfold leaf; rw [if_pos rfl]
  rcases take_tk (l := s.data.toList) with ⟨h1, h2⟩ | ⟨n, r, h1, h2, hn⟩
  · have H2 := Lib.hid h2
    have hm : leaf 97 s.data.toList = none := by rw [hl, h1]; rfl
    rw [hm]
    clear hl h1 h2 hm
    go_enter Try.func63, Try.ntmps63
    go_wp2_with (go_at_call 70; refine (take_bel s _ (by omega)).mono ?_; rw [H2.out]; rintro e w1 ⟨⟨R, hR, rfl⟩, hb1⟩; have HB1 := Lib.hid hb1; clear hb1 hR; dsimp only)
    go_ret2
    exact ⟨rfl, HB1.out⟩
  · have H2 := Lib.hid h2
    obtain ⟨hp, _⟩ := take_some h1
    have hm : leaf 97 s.data.toList = some (put n).length := by rw [hl, h1, hp]; simp
    rw [hm, hp]
    clear hl h1 h2 hm hp
    go_enter Try.func63, Try.ntmps63
    go_wp2_with (go_at_call 70; refine (take_bel s _ (by omega)).mono ?_; rw [H2.out]; rintro e w1 ⟨⟨R, hR, rfl⟩, hb1⟩; have HB1 := Lib.hid hb1; have HR := Lib.hid hR; clear hb1 hR; dsimp only)
    go_ret2
    refine ⟨⟨_, _, R, ?_, by rw [List.drop_left]; exact HR.out, rfl⟩, HB1.out⟩
    rw [List.take_left]; exact .atom n hn
set_option maxHeartbeats 1000000 in
theorem takeText_any (s : ByteArray) (w : World) (hs : s.size ≤ 4000) :
    Calls Try.prog 64 #[.string s] w fun e w' => Ans 116 s.data.toList (leaf 116 s.data.toList) e ∧ Below w.heap.size w w' := by
  have hl : leaf 116 s.data.toList = if (text s.data.toList 4000).2.2 = 0 then some (s.data.toList.length - (text s.data.toList 4000).2.1.length) else none := by unfold leaf; rw [if_neg (by decide)]
  rcases text_cases s.data.toList 4000 with h | h | ⟨t, r, h, hp, ht, hm4⟩
  · have H2 := Lib.hid h
    have hm : leaf 116 s.data.toList = none := by rw [hl, h]; rfl
    rw [hm]
    clear hl h hm
    go_enter Try.func64, Try.ntmps64
    go_wp2_with (go_at_call 71; refine (text_bel s 4000 _ (by omega) (by omega)).mono ?_; rw [H2.out]; rintro e w1 ⟨⟨X, R, hX, hR, rfl⟩, hb1⟩; have HB1 := Lib.hid hb1; clear hb1 hR hX; dsimp only)
    go_ret2
    exact ⟨rfl, HB1.out⟩
  · have H2 := Lib.hid h
    have hm : leaf 116 s.data.toList = none := by rw [hl, h]; rfl
    rw [hm]
    clear hl h hm
    go_enter Try.func64, Try.ntmps64
    go_wp2_with (go_at_call 71; refine (text_bel s 4000 _ (by omega) (by omega)).mono ?_; rw [H2.out]; rintro e w1 ⟨⟨X, R, hX, hR, rfl⟩, hb1⟩; have HB1 := Lib.hid hb1; clear hb1 hR hX; dsimp only)
    go_ret2
    exact ⟨rfl, HB1.out⟩
  · have H2 := Lib.hid h
    have hm : leaf 116 s.data.toList = some (putText t).length := by rw [hl, h, hp]; simp
    rw [hm, hp]
    have HM := Lib.hid hm4
    clear hl h hm hp hm4 ht
    go_enter Try.func64, Try.ntmps64
    go_wp2_with (go_at_call 71; refine (text_bel s 4000 _ (by omega) (by omega)).mono ?_; rw [H2.out]; rintro e w1 ⟨⟨X, R, hX, hR, rfl⟩, hb1⟩; have HB1 := Lib.hid hb1; have HR := Lib.hid hR; have HX := Lib.hid hX; clear hb1 hR hX; dsimp only)
    go_ret2
    refine ⟨⟨_, _, R, ?_, by rw [List.drop_left]; exact HR.out, rfl⟩, HB1.out⟩
    rw [List.take_left]
    have e : t = X.data.toList := HX.out.symm
    rw [e]
    exact .text X (by have := HM.out; rw [e, ← Lib.size_eq] at this; omega)
theorem Tks.zero {l : List UInt8} {n : Nat} {e : Ending} (h : Tks l n e) (h0 : n = 0) : e = .returned (.tuple #[.nilIface, .string ⟨#[]⟩]) := by
  rcases h with ⟨_, h⟩ | ⟨h, _⟩
  · exact h
  · exact absurd h0 h
theorem Tks.pos {l : List UInt8} {n : Nat} {e : Ending} (h : Tks l n e) (h0 : n ≠ 0) : ∃ (T : TypeId) (a : Value) (R : ByteArray), Shp (l.take n) (.iface T a) ∧ R.data.toList = l.drop n ∧ e = .returned (.tuple #[.iface T a, .string R]) := by
  rcases h with ⟨h, _⟩ | ⟨_, h⟩
  · exact absurd h h0
  · exact h
/-- What take answers, at most d deep. -/
def TakeAt (d : Nat) : Prop := ∀ (s : ByteArray) (w : World), s.size ≤ 4000 → Calls Try.prog 58 #[.string s, .int .i64 (d : Int)] w fun e w' => Tks s.data.toList (size d s.data.toList) e ∧ Below w.heap.size w w'
theorem rest_size {s R : ByteArray} {n : Nat} (hR : R.data.toList = s.data.toList.drop n) : R.size = s.size - n := by
  rw [Lib.size_eq, hR, List.length_drop, ← Lib.size_eq]
theorem part_right {d n : Nat} {s : ByteArray} (hd : d ≤ 40) (hs : s.size ≤ 4000) (hn : size d s.data.toList = n) (h0 : n ≠ 0) : right (s.extract 0 n).data.toList = true := by
  have h1 := size_mono hd (l := s.data.toList) (by rw [hn]; exact h0)
  rw [extract_take, ← hn, ← h1]
  exact right_take (by rw [h1, hn]; exact h0) (by have := size_le 40 s.data.toList; rw [← Lib.size_eq] at this; omega)

set_option maxHeartbeats 1000000 in
theorem takeOneHash (d : Nat) (ih : TakeAt d) (s : ByteArray) (w : World) (hd : d ≤ 40) (hs : s.size ≤ 4000) :
    Calls Try.prog 65 #[.int .u8 104, .string s, .int .i64 (d : Int)] w fun e w' => Ans 104 s.data.toList (sizes (size d) 1 s.data.toList) e ∧ Below w.heap.size w w' := by
  have IH := Lib.hid ih
  have q0 := nil_no
  have q1 := nil_yes
  obtain ⟨n, hn⟩ : ∃ n, size d s.data.toList = n := ⟨_, rfl⟩
  have HN := Lib.hid hn
  by_cases h0 : n = 0
  · have hm : sizes (size d) 1 s.data.toList = none := by unfold sizes; rw [if_pos (by rw [hn]; exact h0)]
    rw [hm]
    have H0 := Lib.hid h0
    clear hm ih hn h0
    go_enter Try.func65, Try.ntmps65
    go_wp2_with (go_at_call 58; refine (IH.out s _ hs).mono ?_; rw [HN.out]; rintro e w1 ⟨ht, hb1⟩; obtain rfl := ht.zero H0.out; have HB1 := Lib.hid hb1; clear hb1 ht; dsimp only)
    go_ret2
    exact ⟨rfl, HB1.out⟩
  · have hm : sizes (size d) 1 s.data.toList = some n := by unfold sizes; rw [if_neg (by rw [hn]; exact h0), hn]; rfl
    rw [hm]
    have hr := part_right hd hs hn h0
    have hle := size_le d s.data.toList
    rw [hn, ← Lib.size_eq] at hle
    have H0 := Lib.hid h0
    have HR := Lib.hid hr
    clear hm ih hn h0 hr
    go_enter Try.func65, Try.ntmps65
    go_wp2_with (go_at_call 58; refine (IH.out s _ hs).mono ?_; rw [HN.out]; rintro e w1 ⟨ht, hb1⟩; obtain ⟨T, a, R, _, hR, rfl⟩ := ht.pos H0.out; have hRz := rest_size hR; have hk : (s.size : Int) - (R.size : Int) = (n : Int) := (by omega); have HB1 := Lib.hid hb1; have HRR := Lib.hid hR; clear hb1 ht hR hRz; dsimp only)
    go_ret2
    refine ⟨⟨_, _, R, ?_, HRR.out, rfl⟩, HB1.out⟩
    rw [← extract_take]
    exact .hash _ HR.out

set_option maxHeartbeats 1000000 in
theorem takeOnePub (d : Nat) (ih : TakeAt d) (s : ByteArray) (w : World) (hd : d ≤ 40) (hs : s.size ≤ 4000) :
    Calls Try.prog 65 #[.int .u8 117, .string s, .int .i64 (d : Int)] w fun e w' => Ans 117 s.data.toList (sizes (size d) 1 s.data.toList) e ∧ Below w.heap.size w w' := by
  have IH := Lib.hid ih
  have q0 := nil_no
  have q1 := nil_yes
  obtain ⟨n, hn⟩ : ∃ n, size d s.data.toList = n := ⟨_, rfl⟩
  have HN := Lib.hid hn
  by_cases h0 : n = 0
  · have hm : sizes (size d) 1 s.data.toList = none := by unfold sizes; rw [if_pos (by rw [hn]; exact h0)]
    rw [hm]
    have H0 := Lib.hid h0
    clear hm ih hn h0
    go_enter Try.func65, Try.ntmps65
    go_wp2_with (go_at_call 58; refine (IH.out s _ hs).mono ?_; rw [HN.out]; rintro e w1 ⟨ht, hb1⟩; obtain rfl := ht.zero H0.out; have HB1 := Lib.hid hb1; clear hb1 ht; dsimp only)
    go_ret2
    exact ⟨rfl, HB1.out⟩
  · have hm : sizes (size d) 1 s.data.toList = some n := by unfold sizes; rw [if_neg (by rw [hn]; exact h0), hn]; rfl
    rw [hm]
    have hr := part_right hd hs hn h0
    have hle := size_le d s.data.toList
    rw [hn, ← Lib.size_eq] at hle
    have H0 := Lib.hid h0
    have HR := Lib.hid hr
    clear hm ih hn h0 hr
    go_enter Try.func65, Try.ntmps65
    go_wp2_with (go_at_call 58; refine (IH.out s _ hs).mono ?_; rw [HN.out]; rintro e w1 ⟨ht, hb1⟩; obtain ⟨T, a, R, _, hR, rfl⟩ := ht.pos H0.out; have hRz := rest_size hR; have hk : (s.size : Int) - (R.size : Int) = (n : Int) := (by omega); have HB1 := Lib.hid hb1; have HRR := Lib.hid hR; clear hb1 ht hR hRz; dsimp only)
    go_ret2
    refine ⟨⟨_, _, R, ?_, HRR.out, rfl⟩, HB1.out⟩
    rw [← extract_take]
    exact .pub _ HR.out
end Go.Proofs.Ytjoldkhfkobahaa.Term

/-
  CONTRACTS of the code's takeTwo (package term). By an AI agent; no person has read it.
-/
namespace Go.Proofs.Ytjoldkhfkobahaa.Term
open Go.RowKit Wire

theorem drew_cell (w : World) (nq : Nat) (v : Value) (t : TypeId) : ((w.drewN nq).alloc (.cells #[v] t)).cell? ⟨w.heap.size, 0, none⟩ = some v := by
  rw [cell_of_row ((w.drewN nq).alloc (.cells #[v] t)) w.heap.size 0 #[v] t (0, 0) (heap_alloc_new (w.drewN nq) _)]
  rfl
theorem drew_frozen (w : World) (nq : Nat) (v : Value) (t : TypeId) : ((w.drewN nq).alloc (.cells #[v] t)).frozen? ⟨w.heap.size, 0, none⟩ = false := by
  have h : ((w.drewN nq).alloc (.cells #[v] t)).heap[w.heap.size]? = some (.cells #[v] t (0, 0)) := heap_alloc_new (w.drewN nq) _
  unfold World.frozen?
  simp only [h]
  rfl
theorem Shp.pub_agg {l : List UInt8} {a : Value} (h : Shp l (.iface 97 a)) : ∃ X : ByteArray, a = .agg #[.string X] := by
  rcases h with ⟨_, _, hl, h⟩ | ⟨_, _, hl, h⟩ | ⟨_, _, hl, h⟩ | ⟨_, _, hl, h⟩ | ⟨_, _, _, hl, h⟩ | ⟨_, _, _, hl, h⟩ | ⟨_, _, _, hl, h⟩ | ⟨_, _, _, hl, h⟩
  case inr.inr.inr.inl => injection h with _ h2; exact ⟨_, h2⟩
  all_goals (injection h with h1 _; exact absurd h1 (by decide))
theorem head_take {l : List UInt8} {n : Nat} (h : n ≠ 0) : (l.take n).head? = l.head? := by
  cases l with
  | nil => simp
  | cons x y =>
    obtain ⟨k, rfl⟩ : ∃ k, n = k + 1 := ⟨n - 1, by omega⟩
    rfl

set_option maxHeartbeats 2000000 in
theorem takeTwoPair (d : Nat) (ih : TakeAt d) (s : ByteArray) (w : World) (hd : d ≤ 40) (hs : s.size ≤ 4000) :
    Calls Try.prog 66 #[.int .u8 112, .string s, .int .i64 (d : Int)] w fun e w' => Ans 112 s.data.toList (sizes (size d) 2 s.data.toList) e ∧ Below w.heap.size w w' := by
  have IH : Hid (∀ (s : ByteArray) (w : World), s.size ≤ 4000 → Calls Try.prog 58 #[.string s, .int .i64 (d : Int)] w fun e w' => Tks s.data.toList (size d s.data.toList) e ∧ Below w.heap.size w w') := ih
  have q0 := nil_no
  have q1 := nil_yes
  obtain ⟨n, hn⟩ : ∃ n, size d s.data.toList = n := ⟨_, rfl⟩
  have HN := Lib.hid hn
  by_cases h0 : n = 0
  · have hm : (sizes (size d) 2 s.data.toList) = none := by
      have hq : sizes (size d) 2 s.data.toList = none := by unfold sizes; rw [if_pos (by rw [hn]; exact h0)]
      exact hq
    rw [hm]
    have H0 := Lib.hid h0
    clear hm ih hn h0
    go_enter Try.func66, Try.ntmps66
    go_wp2_with (go_at_call 58; with_reducible refine (IH.out s _ hs).mono ?_; rw [HN.out]; rintro e w1 ⟨ht, hb1⟩; obtain rfl := ht.zero H0.out; have HB1 := Lib.hid hb1; clear hb1 ht; dsimp only)
    go_ret2
    exact ⟨rfl, HB1.out⟩
  · obtain ⟨m, hmm⟩ : ∃ m, size d (s.data.toList.drop n) = m := ⟨_, rfl⟩
    have HM := Lib.hid hmm
    have hle := size_le d s.data.toList
    rw [hn, ← Lib.size_eq] at hle
    have H0 := Lib.hid h0
    by_cases h1 : m = 0
    · have hm : (sizes (size d) 2 s.data.toList) = none := by
        have hq : sizes (size d) 2 s.data.toList = none := by
          unfold sizes; rw [if_neg (by rw [hn]; exact h0), hn]
          unfold sizes; rw [if_pos (by rw [hmm]; exact h1)]; rfl
        exact hq
      rw [hm]
      have H1 := Lib.hid h1
      clear hm ih hn h0 h1 hmm
      go_enter Try.func66, Try.ntmps66
      go_wp2_with (first
        | (go_at_call 58; with_reducible refine (IH.out R _ hRs).mono ?_; rw [HRR.out, HM.out]; rintro e w2 ⟨ht, hb2⟩; obtain rfl := ht.zero H1.out; have HB2 := Lib.hid (HB1.out.trans (hb2.mono HB1.out.size)); clear hb2 ht; dsimp only)
        | (go_at_call 58; with_reducible refine (IH.out s _ hs).mono ?_; rw [HN.out]; rintro e w1 ⟨ht, hb1⟩; obtain ⟨T, a, R, hsh, hR, rfl⟩ := ht.pos H0.out; have hRz := rest_size hR; have hRs : R.size ≤ 4000 := (by omega); have hk : (s.size : Int) - (R.size : Int) = (n : Int) := (by omega); have HRR := Lib.hid hR; have HSH := Lib.hid hsh; clear hR hsh; have HB1 := Lib.hid hb1; clear hb1 ht; dsimp only))
      go_ret2
      exact ⟨rfl, HB2.out⟩
    · have hq : sizes (size d) 2 s.data.toList = some (n + m) := by
        unfold sizes; rw [if_neg (by rw [hn]; exact h0), hn]
        unfold sizes; rw [if_neg (by rw [hmm]; exact h1), hmm]; rfl
      have hr := part_right hd hs hn h0
      have hlm := size_le d (s.data.toList.drop n)
      rw [hmm, List.length_drop, ← Lib.size_eq] at hlm
      have H1 := Lib.hid h1
      have HRP := Lib.hid hr
      have HR2 : Hid (∀ R : ByteArray, R.data.toList = s.data.toList.drop n → right (R.extract 0 m).data.toList = true) := fun R hR => part_right hd (by rw [Lib.size_eq, hR, List.length_drop, ← Lib.size_eq]; omega) (by rw [hR]; exact hmm) h1
      have n1 : (0 : Int) ≤ (n : Int) := by omega
      have n2 : (n : Int) ≤ (s.size : Int) := by omega
      have n3 : (0 : Int) ≤ (m : Int) := by omega
      have n4 : (m : Int) ≤ (s.size : Int) - (n : Int) := by omega
      rw [hq]
      clear ih hn h0 h1 hmm hr hq
      go_enter Try.func66, Try.ntmps66
      go_wp2_with (first
        | (go_at_call 58; with_reducible refine (IH.out R _ hRs).mono ?_; rw [HRR.out, HM.out]; rintro e w2 ⟨ht, hb2⟩; obtain ⟨T2, a2, R2, _, hR2, rfl⟩ := ht.pos H1.out; have hRz2 : R2.size = R.size - m := (by rw [Lib.size_eq, hR2, List.length_drop, ← HRR.out, ← Lib.size_eq]); have hk2 : (R.size : Int) - (R2.size : Int) = (m : Int) := (by omega); have HRR2 := Lib.hid hR2; clear hR2 hRz2 hRz; have HB2 := Lib.hid (HB1.out.trans (hb2.mono HB1.out.size)); clear hb2 ht; dsimp only)
        | (go_at_call 58; with_reducible refine (IH.out s _ hs).mono ?_; rw [HN.out]; rintro e w1 ⟨ht, hb1⟩; obtain ⟨T, a, R, hsh, hR, rfl⟩ := ht.pos H0.out; have hRz := rest_size hR; have hRs : R.size ≤ 4000 := (by omega); have hk : (s.size : Int) - (R.size : Int) = (n : Int) := (by omega); have HRR := Lib.hid hR; have HSH := Lib.hid hsh; clear hR hsh; have HB1 := Lib.hid hb1; clear hb1 ht; dsimp only))
      go_quiet (fail)
      go_wp2
      go_ret2
      refine ⟨⟨_, _, R2, ?_, ?_, rfl⟩, ?_⟩
      · have e : 112 :: s.data.toList.take (n + m) = 112 :: ((s.extract 0 n).data.toList ++ (R.extract 0 m).data.toList) := by rw [extract_take, extract_take, HRR.out, List.take_add]
        rw [e]
        exact .pair _ _ HRP.out (HR2.out R HRR.out)
      · rw [HRR2.out, List.drop_drop]
      · exact HB2.out.trans (bdrew _ _)

set_option maxHeartbeats 2000000 in
theorem takeTwoSealed (d : Nat) (ih : TakeAt d) (s : ByteArray) (w : World) (hd : d ≤ 40) (hs : s.size ≤ 4000) :
    Calls Try.prog 66 #[.int .u8 115, .string s, .int .i64 (d : Int)] w fun e w' => Ans 115 s.data.toList (sizes (size d) 2 s.data.toList) e ∧ Below w.heap.size w w' := by
  have IH : Hid (∀ (s : ByteArray) (w : World), s.size ≤ 4000 → Calls Try.prog 58 #[.string s, .int .i64 (d : Int)] w fun e w' => Tks s.data.toList (size d s.data.toList) e ∧ Below w.heap.size w w') := ih
  have q0 := nil_no
  have q1 := nil_yes
  obtain ⟨n, hn⟩ : ∃ n, size d s.data.toList = n := ⟨_, rfl⟩
  have HN := Lib.hid hn
  by_cases h0 : n = 0
  · have hm : (sizes (size d) 2 s.data.toList) = none := by
      have hq : sizes (size d) 2 s.data.toList = none := by unfold sizes; rw [if_pos (by rw [hn]; exact h0)]
      exact hq
    rw [hm]
    have H0 := Lib.hid h0
    clear hm ih hn h0
    go_enter Try.func66, Try.ntmps66
    go_wp2_with (go_at_call 58; with_reducible refine (IH.out s _ hs).mono ?_; rw [HN.out]; rintro e w1 ⟨ht, hb1⟩; obtain rfl := ht.zero H0.out; have HB1 := Lib.hid hb1; clear hb1 ht; dsimp only)
    go_ret2
    exact ⟨rfl, HB1.out⟩
  · obtain ⟨m, hmm⟩ : ∃ m, size d (s.data.toList.drop n) = m := ⟨_, rfl⟩
    have HM := Lib.hid hmm
    have hle := size_le d s.data.toList
    rw [hn, ← Lib.size_eq] at hle
    have H0 := Lib.hid h0
    by_cases h1 : m = 0
    · have hm : (sizes (size d) 2 s.data.toList) = none := by
        have hq : sizes (size d) 2 s.data.toList = none := by
          unfold sizes; rw [if_neg (by rw [hn]; exact h0), hn]
          unfold sizes; rw [if_pos (by rw [hmm]; exact h1)]; rfl
        exact hq
      rw [hm]
      have H1 := Lib.hid h1
      clear hm ih hn h0 h1 hmm
      go_enter Try.func66, Try.ntmps66
      go_wp2_with (first
        | (go_at_call 58; with_reducible refine (IH.out R _ hRs).mono ?_; rw [HRR.out, HM.out]; rintro e w2 ⟨ht, hb2⟩; obtain rfl := ht.zero H1.out; have HB2 := Lib.hid (HB1.out.trans (hb2.mono HB1.out.size)); clear hb2 ht; dsimp only)
        | (go_at_call 58; with_reducible refine (IH.out s _ hs).mono ?_; rw [HN.out]; rintro e w1 ⟨ht, hb1⟩; obtain ⟨T, a, R, hsh, hR, rfl⟩ := ht.pos H0.out; have hRz := rest_size hR; have hRs : R.size ≤ 4000 := (by omega); have hk : (s.size : Int) - (R.size : Int) = (n : Int) := (by omega); have HRR := Lib.hid hR; have HSH := Lib.hid hsh; clear hR hsh; have HB1 := Lib.hid hb1; clear hb1 ht; dsimp only))
      go_ret2
      exact ⟨rfl, HB2.out⟩
    · have hq : sizes (size d) 2 s.data.toList = some (n + m) := by
        unfold sizes; rw [if_neg (by rw [hn]; exact h0), hn]
        unfold sizes; rw [if_neg (by rw [hmm]; exact h1), hmm]; rfl
      have hr := part_right hd hs hn h0
      have hlm := size_le d (s.data.toList.drop n)
      rw [hmm, List.length_drop, ← Lib.size_eq] at hlm
      have H1 := Lib.hid h1
      have HRP := Lib.hid hr
      have HR2 : Hid (∀ R : ByteArray, R.data.toList = s.data.toList.drop n → right (R.extract 0 m).data.toList = true) := fun R hR => part_right hd (by rw [Lib.size_eq, hR, List.length_drop, ← Lib.size_eq]; omega) (by rw [hR]; exact hmm) h1
      have n1 : (0 : Int) ≤ (n : Int) := by omega
      have n2 : (n : Int) ≤ (s.size : Int) := by omega
      have n3 : (0 : Int) ≤ (m : Int) := by omega
      have n4 : (m : Int) ≤ (s.size : Int) - (n : Int) := by omega
      rw [hq]
      clear ih hn h0 h1 hmm hr hq
      go_enter Try.func66, Try.ntmps66
      go_wp2_with (first
        | (go_at_call 58; with_reducible refine (IH.out R _ hRs).mono ?_; rw [HRR.out, HM.out]; rintro e w2 ⟨ht, hb2⟩; obtain ⟨T2, a2, R2, _, hR2, rfl⟩ := ht.pos H1.out; have hRz2 : R2.size = R.size - m := (by rw [Lib.size_eq, hR2, List.length_drop, ← HRR.out, ← Lib.size_eq]); have hk2 : (R.size : Int) - (R2.size : Int) = (m : Int) := (by omega); have HRR2 := Lib.hid hR2; clear hR2 hRz2 hRz; have HB2 := Lib.hid (HB1.out.trans (hb2.mono HB1.out.size)); clear hb2 ht; dsimp only)
        | (go_at_call 58; with_reducible refine (IH.out s _ hs).mono ?_; rw [HN.out]; rintro e w1 ⟨ht, hb1⟩; obtain ⟨T, a, R, hsh, hR, rfl⟩ := ht.pos H0.out; have hRz := rest_size hR; have hRs : R.size ≤ 4000 := (by omega); have hk : (s.size : Int) - (R.size : Int) = (n : Int) := (by omega); have HRR := Lib.hid hR; have HSH := Lib.hid hsh; clear hR hsh; have HB1 := Lib.hid hb1; clear hb1 ht; dsimp only))
      go_quiet (fail)
      go_wp2
      go_ret2
      refine ⟨⟨_, _, R2, ?_, ?_, rfl⟩, ?_⟩
      · have e : 115 :: s.data.toList.take (n + m) = 115 :: ((s.extract 0 n).data.toList ++ (R.extract 0 m).data.toList) := by rw [extract_take, extract_take, HRR.out, List.take_add]
        rw [e]
        exact .sealed _ _ HRP.out (HR2.out R HRR.out)
      · rw [HRR2.out, List.drop_drop]
      · exact HB2.out.trans (bdrew _ _)

set_option maxHeartbeats 2000000 in
theorem takeTwoSigned (d : Nat) (ih : TakeAt d) (s : ByteArray) (w : World) (hd : d ≤ 40) (hs : s.size ≤ 4000) :
    Calls Try.prog 66 #[.int .u8 103, .string s, .int .i64 (d : Int)] w fun e w' => Ans 103 s.data.toList (sizes (size d) 2 s.data.toList) e ∧ Below w.heap.size w w' := by
  have IH : Hid (∀ (s : ByteArray) (w : World), s.size ≤ 4000 → Calls Try.prog 58 #[.string s, .int .i64 (d : Int)] w fun e w' => Tks s.data.toList (size d s.data.toList) e ∧ Below w.heap.size w w') := ih
  have q0 := nil_no
  have q1 := nil_yes
  obtain ⟨n, hn⟩ : ∃ n, size d s.data.toList = n := ⟨_, rfl⟩
  have HN := Lib.hid hn
  by_cases h0 : n = 0
  · have hm : (sizes (size d) 2 s.data.toList) = none := by
      have hq : sizes (size d) 2 s.data.toList = none := by unfold sizes; rw [if_pos (by rw [hn]; exact h0)]
      exact hq
    rw [hm]
    have H0 := Lib.hid h0
    clear hm ih hn h0
    go_enter Try.func66, Try.ntmps66
    go_wp2_with (go_at_call 58; with_reducible refine (IH.out s _ hs).mono ?_; rw [HN.out]; rintro e w1 ⟨ht, hb1⟩; obtain rfl := ht.zero H0.out; have HB1 := Lib.hid hb1; clear hb1 ht; dsimp only)
    go_ret2
    exact ⟨rfl, HB1.out⟩
  · obtain ⟨m, hmm⟩ : ∃ m, size d (s.data.toList.drop n) = m := ⟨_, rfl⟩
    have HM := Lib.hid hmm
    have hle := size_le d s.data.toList
    rw [hn, ← Lib.size_eq] at hle
    have H0 := Lib.hid h0
    by_cases h1 : m = 0
    · have hm : (sizes (size d) 2 s.data.toList) = none := by
        have hq : sizes (size d) 2 s.data.toList = none := by
          unfold sizes; rw [if_neg (by rw [hn]; exact h0), hn]
          unfold sizes; rw [if_pos (by rw [hmm]; exact h1)]; rfl
        exact hq
      rw [hm]
      have H1 := Lib.hid h1
      clear hm ih hn h0 h1 hmm
      go_enter Try.func66, Try.ntmps66
      go_wp2_with (first
        | (go_at_call 58; with_reducible refine (IH.out R _ hRs).mono ?_; rw [HRR.out, HM.out]; rintro e w2 ⟨ht, hb2⟩; obtain rfl := ht.zero H1.out; have HB2 := Lib.hid (HB1.out.trans (hb2.mono HB1.out.size)); clear hb2 ht; dsimp only)
        | (go_at_call 58; with_reducible refine (IH.out s _ hs).mono ?_; rw [HN.out]; rintro e w1 ⟨ht, hb1⟩; obtain ⟨T, a, R, hsh, hR, rfl⟩ := ht.pos H0.out; have hRz := rest_size hR; have hRs : R.size ≤ 4000 := (by omega); have hk : (s.size : Int) - (R.size : Int) = (n : Int) := (by omega); have HRR := Lib.hid hR; have HSH := Lib.hid hsh; clear hR hsh; have HB1 := Lib.hid hb1; clear hb1 ht; dsimp only))
      go_ret2
      exact ⟨rfl, HB2.out⟩
    · have hq : sizes (size d) 2 s.data.toList = some (n + m) := by
        unfold sizes; rw [if_neg (by rw [hn]; exact h0), hn]
        unfold sizes; rw [if_neg (by rw [hmm]; exact h1), hmm]; rfl
      have hr := part_right hd hs hn h0
      have hlm := size_le d (s.data.toList.drop n)
      rw [hmm, List.length_drop, ← Lib.size_eq] at hlm
      have H1 := Lib.hid h1
      have HRP := Lib.hid hr
      have HR2 : Hid (∀ R : ByteArray, R.data.toList = s.data.toList.drop n → right (R.extract 0 m).data.toList = true) := fun R hR => part_right hd (by rw [Lib.size_eq, hR, List.length_drop, ← Lib.size_eq]; omega) (by rw [hR]; exact hmm) h1
      have n1 : (0 : Int) ≤ (n : Int) := by omega
      have n2 : (n : Int) ≤ (s.size : Int) := by omega
      have n3 : (0 : Int) ≤ (m : Int) := by omega
      have n4 : (m : Int) ≤ (s.size : Int) - (n : Int) := by omega
      rw [hq]
      clear ih hn h0 h1 hmm hr hq
      go_enter Try.func66, Try.ntmps66
      go_wp2_with (first
        | (go_at_call 58; with_reducible refine (IH.out R _ hRs).mono ?_; rw [HRR.out, HM.out]; rintro e w2 ⟨ht, hb2⟩; obtain ⟨T2, a2, R2, _, hR2, rfl⟩ := ht.pos H1.out; have hRz2 : R2.size = R.size - m := (by rw [Lib.size_eq, hR2, List.length_drop, ← HRR.out, ← Lib.size_eq]); have hk2 : (R.size : Int) - (R2.size : Int) = (m : Int) := (by omega); have HRR2 := Lib.hid hR2; clear hR2 hRz2 hRz; have HB2 := Lib.hid (HB1.out.trans (hb2.mono HB1.out.size)); clear hb2 ht; dsimp only)
        | (go_at_call 58; with_reducible refine (IH.out s _ hs).mono ?_; rw [HN.out]; rintro e w1 ⟨ht, hb1⟩; obtain ⟨T, a, R, hsh, hR, rfl⟩ := ht.pos H0.out; have hRz := rest_size hR; have hRs : R.size ≤ 4000 := (by omega); have hk : (s.size : Int) - (R.size : Int) = (n : Int) := (by omega); have HRR := Lib.hid hR; have HSH := Lib.hid hsh; clear hR hsh; have HB1 := Lib.hid hb1; clear hb1 ht; dsimp only))
      go_quiet (fail)
      go_wp2
      go_ret2
      refine ⟨⟨_, _, R2, ?_, ?_, rfl⟩, ?_⟩
      · have e : 103 :: s.data.toList.take (n + m) = 103 :: ((s.extract 0 n).data.toList ++ (R.extract 0 m).data.toList) := by rw [extract_take, extract_take, HRR.out, List.take_add]
        rw [e]
        exact .signed _ _ HRP.out (HR2.out R HRR.out)
      · rw [HRR2.out, List.drop_drop]
      · exact HB2.out.trans (bdrew _ _)

set_option maxHeartbeats 2000000 in
theorem takeTwoBoxed (d : Nat) (ih : TakeAt d) (s : ByteArray) (w : World) (hd : d ≤ 40) (hs : s.size ≤ 4000) :
    Calls Try.prog 66 #[.int .u8 98, .string s, .int .i64 (d : Int)] w fun e w' => Ans 98 s.data.toList (if s.data.toList.head? ≠ some 117 then none else sizes (size d) 2 s.data.toList) e ∧ Below w.heap.size w w' := by
  have IH : Hid (∀ (s : ByteArray) (w : World), s.size ≤ 4000 → Calls Try.prog 58 #[.string s, .int .i64 (d : Int)] w fun e w' => Tks s.data.toList (size d s.data.toList) e ∧ Below w.heap.size w w') := ih
  have q0 := nil_no
  have q1 := nil_yes
  obtain ⟨n, hn⟩ : ∃ n, size d s.data.toList = n := ⟨_, rfl⟩
  have HN := Lib.hid hn
  by_cases h0 : n = 0
  · have hm : (if s.data.toList.head? ≠ some 117 then none else sizes (size d) 2 s.data.toList) = none := by
      have hq : sizes (size d) 2 s.data.toList = none := by unfold sizes; rw [if_pos (by rw [hn]; exact h0)]
      split <;> first | rfl | exact hq
    rw [hm]
    have H0 := Lib.hid h0
    clear hm ih hn h0
    go_enter Try.func66, Try.ntmps66
    go_wp2_with (go_at_call 58; with_reducible refine (IH.out s _ hs).mono ?_; rw [HN.out]; rintro e w1 ⟨ht, hb1⟩; obtain rfl := ht.zero H0.out; have HB1 := Lib.hid hb1; clear hb1 ht; dsimp only)
    go_ret2
    exact ⟨rfl, HB1.out⟩
  · obtain ⟨m, hmm⟩ : ∃ m, size d (s.data.toList.drop n) = m := ⟨_, rfl⟩
    have HM := Lib.hid hmm
    have hle := size_le d s.data.toList
    rw [hn, ← Lib.size_eq] at hle
    have H0 := Lib.hid h0
    by_cases h1 : m = 0
    · have hm : (if s.data.toList.head? ≠ some 117 then none else sizes (size d) 2 s.data.toList) = none := by
        have hq : sizes (size d) 2 s.data.toList = none := by
          unfold sizes; rw [if_neg (by rw [hn]; exact h0), hn]
          unfold sizes; rw [if_pos (by rw [hmm]; exact h1)]; rfl
        split <;> first | rfl | exact hq
      rw [hm]
      have H1 := Lib.hid h1
      clear hm ih hn h0 h1 hmm
      go_enter Try.func66, Try.ntmps66
      go_wp2_with (first
        | (go_at_call 58; with_reducible refine (IH.out R _ hRs).mono ?_; rw [HRR.out, HM.out]; rintro e w2 ⟨ht, hb2⟩; obtain rfl := ht.zero H1.out; have HB2 := Lib.hid (HB1.out.trans (hb2.mono HB1.out.size)); clear hb2 ht; dsimp only)
        | (go_at_call 58; with_reducible refine (IH.out s _ hs).mono ?_; rw [HN.out]; rintro e w1 ⟨ht, hb1⟩; obtain ⟨T, a, R, hsh, hR, rfl⟩ := ht.pos H0.out; have hRz := rest_size hR; have hRs : R.size ≤ 4000 := (by omega); have hk : (s.size : Int) - (R.size : Int) = (n : Int) := (by omega); have HRR := Lib.hid hR; have HSH := Lib.hid hsh; clear hR hsh; have HB1 := Lib.hid hb1; clear hb1 ht; dsimp only))
      go_ret2
      exact ⟨rfl, HB2.out⟩
    · have hq : sizes (size d) 2 s.data.toList = some (n + m) := by
        unfold sizes; rw [if_neg (by rw [hn]; exact h0), hn]
        unfold sizes; rw [if_neg (by rw [hmm]; exact h1), hmm]; rfl
      have hr := part_right hd hs hn h0
      have hlm := size_le d (s.data.toList.drop n)
      rw [hmm, List.length_drop, ← Lib.size_eq] at hlm
      have H1 := Lib.hid h1
      have HRP := Lib.hid hr
      have HR2 : Hid (∀ R : ByteArray, R.data.toList = s.data.toList.drop n → right (R.extract 0 m).data.toList = true) := fun R hR => part_right hd (by rw [Lib.size_eq, hR, List.length_drop, ← Lib.size_eq]; omega) (by rw [hR]; exact hmm) h1
      have n1 : (0 : Int) ≤ (n : Int) := by omega
      have n2 : (n : Int) ≤ (s.size : Int) := by omega
      have n3 : (0 : Int) ≤ (m : Int) := by omega
      have n4 : (m : Int) ≤ (s.size : Int) - (n : Int) := by omega
      by_cases hu : s.data.toList.head? = some 117
      · rw [if_neg (by simp [hu]), hq]
        have HH : Hid (∀ (T : TypeId) (a : Value), Shp (s.data.toList.take n) (.iface T a) → T = 97 ∧ ∃ X : ByteArray, a = .agg #[.string X]) := fun T a h => by
          rcases h.head with ⟨h1, _⟩ | ⟨_, h⟩
          · subst h1; exact ⟨rfl, h.pub_agg⟩
          · exact absurd (by rw [head_take h0]; exact hu) h
        have HU := Lib.hid hu
        have HZ := Lib.hid h0
        have q2 := is_publicOne
        clear ih hn h0 h1 hmm hr hq hu
        go_enter Try.func66, Try.ntmps66
        go_wp2_with (first
          | (go_at_call 58; with_reducible refine (IH.out R _ hRs).mono ?_; rw [HRR.out, HM.out]; rintro e w2 ⟨ht, hb2⟩; obtain ⟨T2, a2, R2, _, hR2, rfl⟩ := ht.pos H1.out; have hRz2 : R2.size = R.size - m := (by rw [Lib.size_eq, hR2, List.length_drop, ← HRR.out, ← Lib.size_eq]); have hk2 : (R.size : Int) - (R2.size : Int) = (m : Int) := (by omega); have HRR2 := Lib.hid hR2; clear hR2 hRz2 hRz; have HB2 := Lib.hid (HB1.out.trans (hb2.mono HB1.out.size)); clear hb2 ht; dsimp only)
          | (go_at_call 58; with_reducible refine (IH.out s _ hs).mono ?_; rw [HN.out]; rintro e w1 ⟨ht, hb1⟩; obtain ⟨T, a, R, hsh, hR, rfl⟩ := ht.pos H0.out; have hRz := rest_size hR; have hRs : R.size ≤ 4000 := (by omega); have hk : (s.size : Int) - (R.size : Int) = (n : Int) := (by omega); have HRR := Lib.hid hR; have HSH := Lib.hid hsh; clear hR hsh; have HB1 := Lib.hid hb1; clear hb1 ht; dsimp only))
        go_quiet (fail)
        have q5 := drew_cell
        have q6 := drew_frozen
        obtain ⟨rfl, X, rfl⟩ := HH.out _ _ HSH.out
        go_wp2
        go_ret2
        refine ⟨⟨_, _, R2, ?_, ?_, rfl⟩, ?_⟩
        · have e : 98 :: s.data.toList.take (n + m) = 98 :: ((s.extract 0 n).data.toList ++ (R.extract 0 m).data.toList) := by rw [extract_take, extract_take, HRR.out, List.take_add]
          rw [e]
          exact .boxed _ _ HRP.out (HR2.out R HRR.out) (by rw [extract_take, head_take HZ.out]; exact HU.out)
        · rw [HRR2.out, List.drop_drop]
        · exact (((HB2.out.trans (bdrew _ _)).alloc HB2.out.size _).setCell HB2.out.size _)
      · rw [if_pos (by simpa using hu)]
        have HH : Hid (∀ (T : TypeId) (a : Value), Shp (s.data.toList.take n) (.iface T a) → T ≠ 97) := fun T a h => by
          rcases h.head with ⟨_, h⟩ | ⟨h, _⟩
          · rw [head_take h0] at h; exact absurd h hu
          · exact h
        clear ih hn h0 h1 hmm hr hq hu
        go_enter Try.func66, Try.ntmps66
        go_wp2_with (first
          | (go_at_call 58; with_reducible refine (IH.out R _ hRs).mono ?_; rw [HRR.out, HM.out]; rintro e w2 ⟨ht, hb2⟩; obtain ⟨T2, a2, R2, _, hR2, rfl⟩ := ht.pos H1.out; have hRz2 : R2.size = R.size - m := (by rw [Lib.size_eq, hR2, List.length_drop, ← HRR.out, ← Lib.size_eq]); have hk2 : (R.size : Int) - (R2.size : Int) = (m : Int) := (by omega); have HRR2 := Lib.hid hR2; clear hR2 hRz2 hRz; have HB2 := Lib.hid (HB1.out.trans (hb2.mono HB1.out.size)); clear hb2 ht; dsimp only)
          | (go_at_call 58; with_reducible refine (IH.out s _ hs).mono ?_; rw [HN.out]; rintro e w1 ⟨ht, hb1⟩; obtain ⟨T, a, R, hsh, hR, rfl⟩ := ht.pos H0.out; have hRz := rest_size hR; have hRs : R.size ≤ 4000 := (by omega); have hk : (s.size : Int) - (R.size : Int) = (n : Int) := (by omega); have HRR := Lib.hid hR; have HSH := Lib.hid hsh; clear hR hsh; have HB1 := Lib.hid hb1; clear hb1 ht; dsimp only))
        go_quiet (fail)
        have q5 := drew_cell
        have q6 := drew_frozen
        have q2 := fun w => no_publicOne _ a w (HH.out _ _ HSH.out)
        go_wp2
        go_ret2
        exact ⟨rfl, (((HB2.out.trans (bdrew _ _)).alloc HB2.out.size _).setCell HB2.out.size _)⟩
end Go.Proofs.Ytjoldkhfkobahaa.Term

/-
  CONTRACTS of the code's take and whole (package term). By an AI agent; no person has read it.
-/
namespace Go.Proofs.Ytjoldkhfkobahaa.Term
open Go.RowKit Wire

theorem Tks.form {l : List UInt8} {n : Nat} {e : Ending} (h : Tks l n e) : ∃ v R, e = .returned (.tuple #[v, .string R]) := by
  rcases h with ⟨_, h⟩ | ⟨_, T, a, R, _, _, h⟩ <;> exact ⟨_, _, h⟩
set_option maxHeartbeats 1000000 in
theorem take_zero : TakeAt 0 := by
  intro s w hs
  rw [size_zero]
  by_cases h : s.data.toList = []
  · have he := empty_str h
    clear h
    go_enter Try.func58, Try.ntmps58
    go_wp2_with fail
    go_ret2
    exact ⟨.inl ⟨rfl, rfl⟩, Below.refl _ _⟩
  · have he := nonempty_str h
    clear h
    go_enter Try.func58, Try.ntmps58
    go_wp2_with fail
    go_ret2
    exact ⟨.inl ⟨rfl, rfl⟩, Below.refl _ _⟩
set_option maxHeartbeats 1000000 in
theorem take_empty (d : Nat) (s : ByteArray) (w : World) (h : s.data.toList = []) : Calls Try.prog 58 #[.string s, .int .i64 (d : Int)] w fun e w' => Tks s.data.toList (size d s.data.toList) e ∧ Below w.heap.size w w' := by
  have h1 : size d s.data.toList = 0 := by rw [h]; exact size_nil d
  rw [h1]
  have he := empty_str h
  clear h h1
  go_enter Try.func58, Try.ntmps58
  go_wp2_with fail
  go_ret2
  exact ⟨.inl ⟨rfl, rfl⟩, Below.refl _ _⟩
set_option maxHeartbeats 2000000 in
theorem takeAtom (d : Nat) (ih : TakeAt d) (s : ByteArray) (w : World) (hd : d + 1 ≤ 40) (hs : s.size ≤ 4000) (h0 : 0 < s.size) (t : List UInt8) (hh : Head s h0 97 t) :
    Calls Try.prog 58 #[.string s, .int .i64 ((d + 1 : Nat) : Int)] w fun e w' => Tks s.data.toList (size (d + 1) s.data.toList) e ∧ Below w.heap.size w w' := by
  have IH := Lib.hid ih
  have hd2 : d ≤ 40 := by omega
  have hdd : (((d : Int) + 1) == 0) = false := by rw [beq_eq_false_iff_ne]; omega
  have he := nonempty_str (s := s) (by rw [hh.all]; simp)
  have hb := hh.first
  have hbn : ((97 : UInt8).toNat : Int) = 97 := rfl
  have hx0 : (0 : Int) < (s.size : Int) := by omega
  have hx1 : (1 : Int) ≤ (s.size : Int) := by omega
  have hez : (s.extract 1 s.size).size ≤ 4000 := by
    have h1 := hh.len
    rw [Lib.size_eq, hh.rest]; omega
  have HG : Hid (∀ e, Ans 97 (s.extract 1 s.size).data.toList (leaf 97 (s.extract 1 s.size).data.toList) e → Tks s.data.toList (size (d + 1) s.data.toList) e) := fun e h => by
    have h2 := h.tks
    have hbody : body (size d) 97 t = leaf 97 t := by
      exact rfl
    rw [hh.all, size_cons, hbody]
    rw [hh.rest] at h2
    exact h2
  clear ih hh
  go_enter Try.func58, Try.ntmps58
  go_wp2_with fail
  go_quiet (fail)
  go_wp2_with (go_at_call 63; refine (takeAtom_any _ _ hez).mono ?_; rintro e w1 ⟨ha, hb1⟩; have ht := HG.out _ ha; obtain ⟨v, R, rfl⟩ := ht.form; have HT := Lib.hid ht; have HB1 := Lib.hid ((bdrew _ _).trans (hb1.mono (Nat.le_refl _))); clear ha hb1 ht; dsimp only)
  go_ret2
  exact ⟨HT.out, HB1.out⟩
set_option maxHeartbeats 2000000 in
theorem takeText (d : Nat) (ih : TakeAt d) (s : ByteArray) (w : World) (hd : d + 1 ≤ 40) (hs : s.size ≤ 4000) (h0 : 0 < s.size) (t : List UInt8) (hh : Head s h0 116 t) :
    Calls Try.prog 58 #[.string s, .int .i64 ((d + 1 : Nat) : Int)] w fun e w' => Tks s.data.toList (size (d + 1) s.data.toList) e ∧ Below w.heap.size w w' := by
  have IH := Lib.hid ih
  have hd2 : d ≤ 40 := by omega
  have hdd : (((d : Int) + 1) == 0) = false := by rw [beq_eq_false_iff_ne]; omega
  have he := nonempty_str (s := s) (by rw [hh.all]; simp)
  have hb := hh.first
  have hbn : ((116 : UInt8).toNat : Int) = 116 := rfl
  have hx0 : (0 : Int) < (s.size : Int) := by omega
  have hx1 : (1 : Int) ≤ (s.size : Int) := by omega
  have hez : (s.extract 1 s.size).size ≤ 4000 := by
    have h1 := hh.len
    rw [Lib.size_eq, hh.rest]; omega
  have HG : Hid (∀ e, Ans 116 (s.extract 1 s.size).data.toList (leaf 116 (s.extract 1 s.size).data.toList) e → Tks s.data.toList (size (d + 1) s.data.toList) e) := fun e h => by
    have h2 := h.tks
    have hbody : body (size d) 116 t = leaf 116 t := by
      exact rfl
    rw [hh.all, size_cons, hbody]
    rw [hh.rest] at h2
    exact h2
  clear ih hh
  go_enter Try.func58, Try.ntmps58
  go_wp2_with fail
  go_quiet (fail)
  go_wp2_with (go_at_call 64; refine (takeText_any _ _ hez).mono ?_; rintro e w1 ⟨ha, hb1⟩; have ht := HG.out _ ha; obtain ⟨v, R, rfl⟩ := ht.form; have HT := Lib.hid ht; have HB1 := Lib.hid ((bdrew _ _).trans (hb1.mono (Nat.le_refl _))); clear ha hb1 ht; dsimp only)
  go_ret2
  exact ⟨HT.out, HB1.out⟩
set_option maxHeartbeats 2000000 in
theorem takeHash (d : Nat) (ih : TakeAt d) (s : ByteArray) (w : World) (hd : d + 1 ≤ 40) (hs : s.size ≤ 4000) (h0 : 0 < s.size) (t : List UInt8) (hh : Head s h0 104 t) :
    Calls Try.prog 58 #[.string s, .int .i64 ((d + 1 : Nat) : Int)] w fun e w' => Tks s.data.toList (size (d + 1) s.data.toList) e ∧ Below w.heap.size w w' := by
  have IH := Lib.hid ih
  have hd2 : d ≤ 40 := by omega
  have hdd : (((d : Int) + 1) == 0) = false := by rw [beq_eq_false_iff_ne]; omega
  have he := nonempty_str (s := s) (by rw [hh.all]; simp)
  have hb := hh.first
  have hbn : ((104 : UInt8).toNat : Int) = 104 := rfl
  have hx0 : (0 : Int) < (s.size : Int) := by omega
  have hx1 : (1 : Int) ≤ (s.size : Int) := by omega
  have hez : (s.extract 1 s.size).size ≤ 4000 := by
    have h1 := hh.len
    rw [Lib.size_eq, hh.rest]; omega
  have HG : Hid (∀ e, Ans 104 (s.extract 1 s.size).data.toList (sizes (size d) 1 (s.extract 1 s.size).data.toList) e → Tks s.data.toList (size (d + 1) s.data.toList) e) := fun e h => by
    have h2 := h.tks
    have hbody : body (size d) 104 t = sizes (size d) 1 t := by
      show (if (104 : UInt8) = 98 ∧ t.head? ≠ some 117 then none else _) = _; exact if_neg (fun h => absurd h.1 (by decide))
    rw [hh.all, size_cons, hbody]
    rw [hh.rest] at h2
    exact h2
  clear ih hh
  go_enter Try.func58, Try.ntmps58
  go_wp2_with fail
  go_quiet (fail)
  go_wp2_with (go_at_call 65; refine (takeOneHash d IH.out _ _ hd2 hez).mono ?_; rintro e w1 ⟨ha, hb1⟩; have ht := HG.out _ ha; obtain ⟨v, R, rfl⟩ := ht.form; have HT := Lib.hid ht; have HB1 := Lib.hid ((bdrew _ _).trans (hb1.mono (Nat.le_refl _))); clear ha hb1 ht; dsimp only)
  go_ret2
  exact ⟨HT.out, HB1.out⟩
set_option maxHeartbeats 2000000 in
theorem takePub (d : Nat) (ih : TakeAt d) (s : ByteArray) (w : World) (hd : d + 1 ≤ 40) (hs : s.size ≤ 4000) (h0 : 0 < s.size) (t : List UInt8) (hh : Head s h0 117 t) :
    Calls Try.prog 58 #[.string s, .int .i64 ((d + 1 : Nat) : Int)] w fun e w' => Tks s.data.toList (size (d + 1) s.data.toList) e ∧ Below w.heap.size w w' := by
  have IH := Lib.hid ih
  have hd2 : d ≤ 40 := by omega
  have hdd : (((d : Int) + 1) == 0) = false := by rw [beq_eq_false_iff_ne]; omega
  have he := nonempty_str (s := s) (by rw [hh.all]; simp)
  have hb := hh.first
  have hbn : ((117 : UInt8).toNat : Int) = 117 := rfl
  have hx0 : (0 : Int) < (s.size : Int) := by omega
  have hx1 : (1 : Int) ≤ (s.size : Int) := by omega
  have hez : (s.extract 1 s.size).size ≤ 4000 := by
    have h1 := hh.len
    rw [Lib.size_eq, hh.rest]; omega
  have HG : Hid (∀ e, Ans 117 (s.extract 1 s.size).data.toList (sizes (size d) 1 (s.extract 1 s.size).data.toList) e → Tks s.data.toList (size (d + 1) s.data.toList) e) := fun e h => by
    have h2 := h.tks
    have hbody : body (size d) 117 t = sizes (size d) 1 t := by
      show (if (117 : UInt8) = 98 ∧ t.head? ≠ some 117 then none else _) = _; exact if_neg (fun h => absurd h.1 (by decide))
    rw [hh.all, size_cons, hbody]
    rw [hh.rest] at h2
    exact h2
  clear ih hh
  go_enter Try.func58, Try.ntmps58
  go_wp2_with fail
  go_quiet (fail)
  go_wp2_with (go_at_call 65; refine (takeOnePub d IH.out _ _ hd2 hez).mono ?_; rintro e w1 ⟨ha, hb1⟩; have ht := HG.out _ ha; obtain ⟨v, R, rfl⟩ := ht.form; have HT := Lib.hid ht; have HB1 := Lib.hid ((bdrew _ _).trans (hb1.mono (Nat.le_refl _))); clear ha hb1 ht; dsimp only)
  go_ret2
  exact ⟨HT.out, HB1.out⟩
set_option maxHeartbeats 2000000 in
theorem takePair (d : Nat) (ih : TakeAt d) (s : ByteArray) (w : World) (hd : d + 1 ≤ 40) (hs : s.size ≤ 4000) (h0 : 0 < s.size) (t : List UInt8) (hh : Head s h0 112 t) :
    Calls Try.prog 58 #[.string s, .int .i64 ((d + 1 : Nat) : Int)] w fun e w' => Tks s.data.toList (size (d + 1) s.data.toList) e ∧ Below w.heap.size w w' := by
  have IH := Lib.hid ih
  have hd2 : d ≤ 40 := by omega
  have hdd : (((d : Int) + 1) == 0) = false := by rw [beq_eq_false_iff_ne]; omega
  have he := nonempty_str (s := s) (by rw [hh.all]; simp)
  have hb := hh.first
  have hbn : ((112 : UInt8).toNat : Int) = 112 := rfl
  have hx0 : (0 : Int) < (s.size : Int) := by omega
  have hx1 : (1 : Int) ≤ (s.size : Int) := by omega
  have hez : (s.extract 1 s.size).size ≤ 4000 := by
    have h1 := hh.len
    rw [Lib.size_eq, hh.rest]; omega
  have HG : Hid (∀ e, Ans 112 (s.extract 1 s.size).data.toList (sizes (size d) 2 (s.extract 1 s.size).data.toList) e → Tks s.data.toList (size (d + 1) s.data.toList) e) := fun e h => by
    have h2 := h.tks
    have hbody : body (size d) 112 t = sizes (size d) 2 t := by
      show (if (112 : UInt8) = 98 ∧ t.head? ≠ some 117 then none else _) = _; exact if_neg (fun h => absurd h.1 (by decide))
    rw [hh.all, size_cons, hbody]
    rw [hh.rest] at h2
    exact h2
  clear ih hh
  go_enter Try.func58, Try.ntmps58
  go_wp2_with fail
  go_quiet (fail)
  go_wp2_with (go_at_call 66; refine (takeTwoPair d IH.out _ _ hd2 hez).mono ?_; rintro e w1 ⟨ha, hb1⟩; have ht := HG.out _ ha; obtain ⟨v, R, rfl⟩ := ht.form; have HT := Lib.hid ht; have HB1 := Lib.hid ((bdrew _ _).trans (hb1.mono (Nat.le_refl _))); clear ha hb1 ht; dsimp only)
  go_ret2
  exact ⟨HT.out, HB1.out⟩
set_option maxHeartbeats 2000000 in
theorem takeSealed (d : Nat) (ih : TakeAt d) (s : ByteArray) (w : World) (hd : d + 1 ≤ 40) (hs : s.size ≤ 4000) (h0 : 0 < s.size) (t : List UInt8) (hh : Head s h0 115 t) :
    Calls Try.prog 58 #[.string s, .int .i64 ((d + 1 : Nat) : Int)] w fun e w' => Tks s.data.toList (size (d + 1) s.data.toList) e ∧ Below w.heap.size w w' := by
  have IH := Lib.hid ih
  have hd2 : d ≤ 40 := by omega
  have hdd : (((d : Int) + 1) == 0) = false := by rw [beq_eq_false_iff_ne]; omega
  have he := nonempty_str (s := s) (by rw [hh.all]; simp)
  have hb := hh.first
  have hbn : ((115 : UInt8).toNat : Int) = 115 := rfl
  have hx0 : (0 : Int) < (s.size : Int) := by omega
  have hx1 : (1 : Int) ≤ (s.size : Int) := by omega
  have hez : (s.extract 1 s.size).size ≤ 4000 := by
    have h1 := hh.len
    rw [Lib.size_eq, hh.rest]; omega
  have HG : Hid (∀ e, Ans 115 (s.extract 1 s.size).data.toList (sizes (size d) 2 (s.extract 1 s.size).data.toList) e → Tks s.data.toList (size (d + 1) s.data.toList) e) := fun e h => by
    have h2 := h.tks
    have hbody : body (size d) 115 t = sizes (size d) 2 t := by
      show (if (115 : UInt8) = 98 ∧ t.head? ≠ some 117 then none else _) = _; exact if_neg (fun h => absurd h.1 (by decide))
    rw [hh.all, size_cons, hbody]
    rw [hh.rest] at h2
    exact h2
  clear ih hh
  go_enter Try.func58, Try.ntmps58
  go_wp2_with fail
  go_quiet (fail)
  go_wp2_with (go_at_call 66; refine (takeTwoSealed d IH.out _ _ hd2 hez).mono ?_; rintro e w1 ⟨ha, hb1⟩; have ht := HG.out _ ha; obtain ⟨v, R, rfl⟩ := ht.form; have HT := Lib.hid ht; have HB1 := Lib.hid ((bdrew _ _).trans (hb1.mono (Nat.le_refl _))); clear ha hb1 ht; dsimp only)
  go_ret2
  exact ⟨HT.out, HB1.out⟩
set_option maxHeartbeats 2000000 in
theorem takeBoxed (d : Nat) (ih : TakeAt d) (s : ByteArray) (w : World) (hd : d + 1 ≤ 40) (hs : s.size ≤ 4000) (h0 : 0 < s.size) (t : List UInt8) (hh : Head s h0 98 t) :
    Calls Try.prog 58 #[.string s, .int .i64 ((d + 1 : Nat) : Int)] w fun e w' => Tks s.data.toList (size (d + 1) s.data.toList) e ∧ Below w.heap.size w w' := by
  have IH := Lib.hid ih
  have hd2 : d ≤ 40 := by omega
  have hdd : (((d : Int) + 1) == 0) = false := by rw [beq_eq_false_iff_ne]; omega
  have he := nonempty_str (s := s) (by rw [hh.all]; simp)
  have hb := hh.first
  have hbn : ((98 : UInt8).toNat : Int) = 98 := rfl
  have hx0 : (0 : Int) < (s.size : Int) := by omega
  have hx1 : (1 : Int) ≤ (s.size : Int) := by omega
  have hez : (s.extract 1 s.size).size ≤ 4000 := by
    have h1 := hh.len
    rw [Lib.size_eq, hh.rest]; omega
  have HG : Hid (∀ e, Ans 98 (s.extract 1 s.size).data.toList (if (s.extract 1 s.size).data.toList.head? ≠ some 117 then none else sizes (size d) 2 (s.extract 1 s.size).data.toList) e → Tks s.data.toList (size (d + 1) s.data.toList) e) := fun e h => by
    have h2 := h.tks
    have hbody : body (size d) 98 t = if t.head? ≠ some 117 then none else sizes (size d) 2 t := by
      show (if (98 : UInt8) = 98 ∧ t.head? ≠ some 117 then none else _) = _; simp only [true_and]
    rw [hh.all, size_cons, hbody]
    rw [hh.rest] at h2
    exact h2
  clear ih hh
  go_enter Try.func58, Try.ntmps58
  go_wp2_with fail
  go_quiet (fail)
  go_wp2_with (go_at_call 66; refine (takeTwoBoxed d IH.out _ _ hd2 hez).mono ?_; rintro e w1 ⟨ha, hb1⟩; have ht := HG.out _ ha; obtain ⟨v, R, rfl⟩ := ht.form; have HT := Lib.hid ht; have HB1 := Lib.hid ((bdrew _ _).trans (hb1.mono (Nat.le_refl _))); clear ha hb1 ht; dsimp only)
  go_ret2
  exact ⟨HT.out, HB1.out⟩
set_option maxHeartbeats 2000000 in
theorem takeSigned (d : Nat) (ih : TakeAt d) (s : ByteArray) (w : World) (hd : d + 1 ≤ 40) (hs : s.size ≤ 4000) (h0 : 0 < s.size) (t : List UInt8) (hh : Head s h0 103 t) :
    Calls Try.prog 58 #[.string s, .int .i64 ((d + 1 : Nat) : Int)] w fun e w' => Tks s.data.toList (size (d + 1) s.data.toList) e ∧ Below w.heap.size w w' := by
  have IH := Lib.hid ih
  have hd2 : d ≤ 40 := by omega
  have hdd : (((d : Int) + 1) == 0) = false := by rw [beq_eq_false_iff_ne]; omega
  have he := nonempty_str (s := s) (by rw [hh.all]; simp)
  have hb := hh.first
  have hbn : ((103 : UInt8).toNat : Int) = 103 := rfl
  have hx0 : (0 : Int) < (s.size : Int) := by omega
  have hx1 : (1 : Int) ≤ (s.size : Int) := by omega
  have hez : (s.extract 1 s.size).size ≤ 4000 := by
    have h1 := hh.len
    rw [Lib.size_eq, hh.rest]; omega
  have HG : Hid (∀ e, Ans 103 (s.extract 1 s.size).data.toList (sizes (size d) 2 (s.extract 1 s.size).data.toList) e → Tks s.data.toList (size (d + 1) s.data.toList) e) := fun e h => by
    have h2 := h.tks
    have hbody : body (size d) 103 t = sizes (size d) 2 t := by
      show (if (103 : UInt8) = 98 ∧ t.head? ≠ some 117 then none else _) = _; exact if_neg (fun h => absurd h.1 (by decide))
    rw [hh.all, size_cons, hbody]
    rw [hh.rest] at h2
    exact h2
  clear ih hh
  go_enter Try.func58, Try.ntmps58
  go_wp2_with fail
  go_quiet (fail)
  go_wp2_with (go_at_call 66; refine (takeTwoSigned d IH.out _ _ hd2 hez).mono ?_; rintro e w1 ⟨ha, hb1⟩; have ht := HG.out _ ha; obtain ⟨v, R, rfl⟩ := ht.form; have HT := Lib.hid ht; have HB1 := Lib.hid ((bdrew _ _).trans (hb1.mono (Nat.le_refl _))); clear ha hb1 ht; dsimp only)
  go_ret2
  exact ⟨HT.out, HB1.out⟩
set_option maxHeartbeats 2000000 in
theorem takeOther (d : Nat) (s : ByteArray) (w : World) (hd : d + 1 ≤ 40) (hs : s.size ≤ 4000) (h0 : 0 < s.size) (b : UInt8) (t : List UInt8) (hh : Head s h0 b t) (ha : arity b = none) :
    Calls Try.prog 58 #[.string s, .int .i64 ((d + 1 : Nat) : Int)] w fun e w' => Tks s.data.toList (size (d + 1) s.data.toList) e ∧ Below w.heap.size w w' := by
  have hz : size (d + 1) s.data.toList = 0 := by
    rw [hh.all, size_cons]; unfold body; rw [ha]; rfl
  rw [hz]
  have hdd : (((d : Int) + 1) == 0) = false := by rw [beq_eq_false_iff_ne]; omega
  have he := nonempty_str (s := s) (by rw [hh.all]; simp)
  have hb := hh.first
  have hx0 : (0 : Int) < (s.size : Int) := by omega
  have hx1 : (1 : Int) ≤ (s.size : Int) := by omega
  have hk : ∀ k : UInt8, arity k ≠ none → ((b.toNat : Int) == (k.toNat : Int)) = false := fun k hk => by
    rw [beq_eq_false_iff_ne]; intro h; exact hk (by rw [← UInt8.toNat_inj.1 (show b.toNat = k.toNat by omega)]; exact ha)
  have c97 : ((b.toNat : Int) == 97) = false := hk 97 (by decide)
  have c116 : ((b.toNat : Int) == 116) = false := hk 116 (by decide)
  have c104 : ((b.toNat : Int) == 104) = false := hk 104 (by decide)
  have c117 : ((b.toNat : Int) == 117) = false := hk 117 (by decide)
  have c112 : ((b.toNat : Int) == 112) = false := hk 112 (by decide)
  have c115 : ((b.toNat : Int) == 115) = false := hk 115 (by decide)
  have c98 : ((b.toNat : Int) == 98) = false := hk 98 (by decide)
  have c103 : ((b.toNat : Int) == 103) = false := hk 103 (by decide)
  clear hh ha hz hk
  go_enter Try.func58, Try.ntmps58
  go_wp2_with fail
  go_quiet (fail)
  go_wp2
  go_ret2
  exact ⟨.inl ⟨rfl, rfl⟩, bdrew _ _⟩
theorem take_at : ∀ d, d ≤ 40 → TakeAt d
  | 0, _ => take_zero
  | d + 1, hd => fun s w hs => by
    by_cases h : s.data.toList = []
    · exact take_empty (d + 1) s w h
    · have h0 : 0 < s.size := by rw [Lib.size_eq]; exact List.length_pos_iff.2 h
      obtain ⟨b, t, hh⟩ := head_of h0
      have ih := take_at d (by omega)
      by_cases k1 : b = 97
      · subst k1; exact takeAtom d ih s w hd hs h0 t hh
      by_cases k2 : b = 116
      · subst k2; exact takeText d ih s w hd hs h0 t hh
      by_cases k3 : b = 104
      · subst k3; exact takeHash d ih s w hd hs h0 t hh
      by_cases k4 : b = 117
      · subst k4; exact takePub d ih s w hd hs h0 t hh
      by_cases k5 : b = 112
      · subst k5; exact takePair d ih s w hd hs h0 t hh
      by_cases k6 : b = 115
      · subst k6; exact takeSealed d ih s w hd hs h0 t hh
      by_cases k7 : b = 98
      · subst k7; exact takeBoxed d ih s w hd hs h0 t hh
      by_cases k8 : b = 103
      · subst k8; exact takeSigned d ih s w hd hs h0 t hh
      exact takeOther d s w hd hs h0 b t hh (by unfold arity; rw [if_neg (by simp [k1, k2]), if_neg (by simp [k3, k4]), if_neg (by simp [k5, k6, k7, k8])])

/-- What whole answers. -/
def Wh (l : List UInt8) (e : Ending) : Prop := (right l = false ∧ e = .returned .nilIface) ∨ (right l = true ∧ ∃ (T : TypeId) (a : Value), Shp l (.iface T a) ∧ e = .returned (.iface T a))
set_option maxHeartbeats 2000000 in
theorem whole_any (s : ByteArray) (w : World) :
    Calls Try.prog 38 #[.string s] w fun e w' => Wh s.data.toList e ∧ Below w.heap.size w w' := by
  by_cases hs : (s.size : Int) ≤ 4000
  · obtain ⟨n, hn⟩ : ∃ n, size 40 s.data.toList = n := ⟨_, rfl⟩
    have HN := Lib.hid hn
    have hle := size_le 40 s.data.toList
    rw [hn, ← Lib.size_eq] at hle
    have HC : Hid (∀ w, Calls Try.prog 58 #[.string s, .int .i64 40] w fun e w' => Tks s.data.toList (size 40 s.data.toList) e ∧ Below w.heap.size w w') := fun w => take_at 40 (Nat.le_refl _) s w (by omega)
    by_cases h0 : n = 0
    · have hr : right s.data.toList = false := by
        rw [← Bool.not_eq_true]; intro h
        obtain ⟨h1, _, h3⟩ := right_iff.1 h
        exact h1 (List.eq_nil_of_length_eq_zero (by omega))
      have HR := Lib.hid hr
      have H0 := Lib.hid h0
      clear hn h0 hr
      go_enter Try.func38, Try.ntmps38
      go_wp2_with (go_at_call 58; refine (HC.out _).mono ?_; rw [HN.out]; rintro e w1 ⟨ht, hb1⟩; obtain rfl := ht.zero H0.out; have HB1 := Lib.hid hb1; clear hb1 ht; dsimp only)
      go_ret
      exact ⟨.inl ⟨HR.out, rfl⟩, HB1.out⟩
    · by_cases hf : n = s.size
      · have hr : right s.data.toList = true := right_iff.2 ⟨fun h => h0 (by rw [← hn, h]; exact size_nil 40), by rw [← Lib.size_eq]; omega, by rw [hn, hf, Lib.size_eq]⟩
        have HR := Lib.hid hr
        have H0 := Lib.hid h0
        have HF := Lib.hid hf
        clear hn h0 hr hf
        go_enter Try.func38, Try.ntmps38
        go_wp2_with (go_at_call 58; refine (HC.out _).mono ?_; rw [HN.out]; rintro e w1 ⟨ht, hb1⟩; obtain ⟨T, a, R, hsh, hR, rfl⟩ := ht.pos H0.out; have hRe := empty_str (s := R) (by rw [hR, HF.out, Lib.size_eq, List.drop_length]); have HSH := Lib.hid hsh; have HB1 := Lib.hid hb1; clear hb1 ht hsh hR; dsimp only)
        go_ret
        refine ⟨.inr ⟨HR.out, T, a, ?_, rfl⟩, HB1.out⟩
        have h := HSH.out
        rw [HF.out, Lib.size_eq, List.take_length] at h
        exact h
      · have hr : right s.data.toList = false := by
          rw [← Bool.not_eq_true]; intro h
          obtain ⟨_, _, h3⟩ := right_iff.1 h
          exact hf (by rw [← hn, h3, Lib.size_eq])
        have HR := Lib.hid hr
        have H0 := Lib.hid h0
        have HF : Hid (n < s.size) := by show n < s.size; omega
        clear hn h0 hr hf
        go_enter Try.func38, Try.ntmps38
        go_wp2_with (go_at_call 58; refine (HC.out _).mono ?_; rw [HN.out]; rintro e w1 ⟨ht, hb1⟩; obtain ⟨T, a, R, hsh, hR, rfl⟩ := ht.pos H0.out; have hRe := nonempty_str (s := R) (by rw [hR]; intro h; have h2 := congrArg List.length h; rw [List.length_drop, ← Lib.size_eq, List.length_nil] at h2; have := HF.out; omega); have HB1 := Lib.hid hb1; clear hb1 ht hsh hR; dsimp only)
        go_ret
        exact ⟨.inl ⟨HR.out, rfl⟩, HB1.out⟩
  · have hr : right s.data.toList = false := by
      rw [← Bool.not_eq_true]; intro h
      have := (right_iff.1 h).2.1
      rw [← Lib.size_eq] at this; omega
    have HR := Lib.hid hr
    clear hr
    go_enter Try.func38, Try.ntmps38
    go_wp2_with fail
    go_ret
    exact ⟨.inl ⟨HR.out, rfl⟩, Below.refl _ _⟩
end Go.Proofs.Ytjoldkhfkobahaa.Term

/-
  CONTRACTS of the code's Kind, Number, Words, Read, Open, Verify (package term). By an AI agent; no person has read it.
-/
namespace Go.Proofs.Ytjoldkhfkobahaa.Term
open Go.RowKit Wire

theorem cuts_one {P : List UInt8} (h : right P = true) : cuts 1 P = [P] := by
  have h1 := right_size h []
  rw [List.append_nil] at h1
  show P.take (size 40 P) :: [] = _
  rw [h1, List.take_length]
theorem cuts_two {P Q : List UInt8} (h : right P = true) (h2 : right Q = true) : cuts 2 (P ++ Q) = [P, Q] := by
  have h1 := right_size h Q
  show (P ++ Q).take (size 40 (P ++ Q)) :: cuts 1 ((P ++ Q).drop (size 40 (P ++ Q))) = _
  rw [h1, List.take_left, List.drop_left, cuts_one h2]
theorem Wh.zero {l : List UInt8} {e : Ending} (h : Wh l e) (h0 : right l = false) : e = .returned .nilIface := by
  rcases h with ⟨_, h⟩ | ⟨h, _⟩
  · exact h
  · rw [h0] at h; cases h
theorem Wh.pos {l : List UInt8} {e : Ending} (h : Wh l e) (h0 : right l = true) : ∃ (T : TypeId) (a : Value), Shp l (.iface T a) ∧ e = .returned (.iface T a) := by
  rcases h with ⟨h, _⟩ | ⟨_, h⟩
  · rw [h0] at h; cases h
  · exact h
theorem Shp.of_atom {l : List UInt8} {T : TypeId} {a : Value} (h : Shp l (.iface T a)) (hx : l.headD 0 = 97) : T = 91 ∧ ∃ n : Nat, a = .agg #[.int .u64 n] ∧ n < 18446744073709551616 ∧ l = 97 :: put n := by
  rcases h with ⟨_, hp, hl, h⟩ | ⟨_, hp, hl, h⟩ | ⟨_, hp, hl, h⟩ | ⟨_, hp, hl, h⟩ | ⟨_, _, hp, hl, h⟩ | ⟨_, _, hp, hl, h⟩ | ⟨_, _, hp, hl, h⟩ | ⟨_, _, hp, hl, h⟩
  case inl => injection h with h1 h2; exact ⟨h1, _, h2, hp, hl⟩
  all_goals (rw [hl] at hx; simp at hx)
theorem Shp.no_atom {l : List UInt8} {T : TypeId} {a : Value} (h : Shp l (.iface T a)) (hx : l.headD 0 ≠ 97) : T ≠ 91 := by
  rcases h with ⟨_, hp, hl, h⟩ | ⟨_, hp, hl, h⟩ | ⟨_, hp, hl, h⟩ | ⟨_, hp, hl, h⟩ | ⟨_, _, hp, hl, h⟩ | ⟨_, _, hp, hl, h⟩ | ⟨_, _, hp, hl, h⟩ | ⟨_, _, hp, hl, h⟩
  case inl => exact absurd (by rw [hl]; rfl) hx
  all_goals (injection h with h1 _; rw [h1]; decide)
theorem Shp.of_text {l : List UInt8} {T : TypeId} {a : Value} (h : Shp l (.iface T a)) (hx : l.headD 0 = 116) : T = 93 ∧ ∃ W : ByteArray, a = .agg #[.string W] ∧ W.size ≤ 4000 ∧ l = 116 :: putText W.data.toList := by
  rcases h with ⟨_, hp, hl, h⟩ | ⟨_, hp, hl, h⟩ | ⟨_, hp, hl, h⟩ | ⟨_, hp, hl, h⟩ | ⟨_, _, hp, hl, h⟩ | ⟨_, _, hp, hl, h⟩ | ⟨_, _, hp, hl, h⟩ | ⟨_, _, hp, hl, h⟩
  case inr.inl => injection h with h1 h2; exact ⟨h1, _, h2, hp, hl⟩
  all_goals (rw [hl] at hx; simp at hx)
theorem Shp.no_text {l : List UInt8} {T : TypeId} {a : Value} (h : Shp l (.iface T a)) (hx : l.headD 0 ≠ 116) : T ≠ 93 := by
  rcases h with ⟨_, hp, hl, h⟩ | ⟨_, hp, hl, h⟩ | ⟨_, hp, hl, h⟩ | ⟨_, hp, hl, h⟩ | ⟨_, _, hp, hl, h⟩ | ⟨_, _, hp, hl, h⟩ | ⟨_, _, hp, hl, h⟩ | ⟨_, _, hp, hl, h⟩
  case inr.inl => exact absurd (by rw [hl]; rfl) hx
  all_goals (injection h with h1 _; rw [h1]; decide)
theorem Shp.of_publicOne {l : List UInt8} {T : TypeId} {a : Value} (h : Shp l (.iface T a)) (hx : l.headD 0 = 117) : T = 97 ∧ ∃ P : ByteArray, a = .agg #[.string P] ∧ right P.data.toList = true ∧ l = 117 :: P.data.toList := by
  rcases h with ⟨_, hp, hl, h⟩ | ⟨_, hp, hl, h⟩ | ⟨_, hp, hl, h⟩ | ⟨_, hp, hl, h⟩ | ⟨_, _, hp, hl, h⟩ | ⟨_, _, hp, hl, h⟩ | ⟨_, _, hp, hl, h⟩ | ⟨_, _, hp, hl, h⟩
  case inr.inr.inr.inl => injection h with h1 h2; exact ⟨h1, _, h2, hp, hl⟩
  all_goals (rw [hl] at hx; simp at hx)
theorem Shp.no_publicOne {l : List UInt8} {T : TypeId} {a : Value} (h : Shp l (.iface T a)) (hx : l.headD 0 ≠ 117) : T ≠ 97 := by
  rcases h with ⟨_, hp, hl, h⟩ | ⟨_, hp, hl, h⟩ | ⟨_, hp, hl, h⟩ | ⟨_, hp, hl, h⟩ | ⟨_, _, hp, hl, h⟩ | ⟨_, _, hp, hl, h⟩ | ⟨_, _, hp, hl, h⟩ | ⟨_, _, hp, hl, h⟩
  case inr.inr.inr.inl => exact absurd (by rw [hl]; rfl) hx
  all_goals (injection h with h1 _; rw [h1]; decide)
theorem Shp.of_sealed {l : List UInt8} {T : TypeId} {a : Value} (h : Shp l (.iface T a)) (hx : l.headD 0 = 115) : T = 101 ∧ ∃ P Q : ByteArray, a = .agg #[.string P, .string Q] ∧ right P.data.toList = true ∧ right Q.data.toList = true ∧ l = 115 :: (P.data.toList ++ Q.data.toList) := by
  rcases h with ⟨_, hp, hl, h⟩ | ⟨_, hp, hl, h⟩ | ⟨_, hp, hl, h⟩ | ⟨_, hp, hl, h⟩ | ⟨_, _, hp, hl, h⟩ | ⟨_, _, hp, hl, h⟩ | ⟨_, _, hp, hl, h⟩ | ⟨_, _, hp, hl, h⟩
  case inr.inr.inr.inr.inr.inl => injection h with h1 h2; exact ⟨h1, _, _, h2, hp.1, hp.2, hl⟩
  all_goals (rw [hl] at hx; simp at hx)
theorem Shp.no_sealed {l : List UInt8} {T : TypeId} {a : Value} (h : Shp l (.iface T a)) (hx : l.headD 0 ≠ 115) : T ≠ 101 := by
  rcases h with ⟨_, hp, hl, h⟩ | ⟨_, hp, hl, h⟩ | ⟨_, hp, hl, h⟩ | ⟨_, hp, hl, h⟩ | ⟨_, _, hp, hl, h⟩ | ⟨_, _, hp, hl, h⟩ | ⟨_, _, hp, hl, h⟩ | ⟨_, _, hp, hl, h⟩
  case inr.inr.inr.inr.inr.inl => exact absurd (by rw [hl]; rfl) hx
  all_goals (injection h with h1 _; rw [h1]; decide)
theorem Shp.of_boxed {l : List UInt8} {T : TypeId} {a : Value} (h : Shp l (.iface T a)) (hx : l.headD 0 = 98) : T = 106 ∧ ∃ P Q : ByteArray, a = .agg #[.string P, .string Q] ∧ right P.data.toList = true ∧ right Q.data.toList = true ∧ l = 98 :: (P.data.toList ++ Q.data.toList) := by
  rcases h with ⟨_, hp, hl, h⟩ | ⟨_, hp, hl, h⟩ | ⟨_, hp, hl, h⟩ | ⟨_, hp, hl, h⟩ | ⟨_, _, hp, hl, h⟩ | ⟨_, _, hp, hl, h⟩ | ⟨_, _, hp, hl, h⟩ | ⟨_, _, hp, hl, h⟩
  case inr.inr.inr.inr.inr.inr.inr => injection h with h1 h2; exact ⟨h1, _, _, h2, hp.1, hp.2.1, hl⟩
  all_goals (rw [hl] at hx; simp at hx)
theorem Shp.no_boxed {l : List UInt8} {T : TypeId} {a : Value} (h : Shp l (.iface T a)) (hx : l.headD 0 ≠ 98) : T ≠ 106 := by
  rcases h with ⟨_, hp, hl, h⟩ | ⟨_, hp, hl, h⟩ | ⟨_, hp, hl, h⟩ | ⟨_, hp, hl, h⟩ | ⟨_, _, hp, hl, h⟩ | ⟨_, _, hp, hl, h⟩ | ⟨_, _, hp, hl, h⟩ | ⟨_, _, hp, hl, h⟩
  case inr.inr.inr.inr.inr.inr.inr => exact absurd (by rw [hl]; rfl) hx
  all_goals (injection h with h1 _; rw [h1]; decide)
theorem Shp.of_signed {l : List UInt8} {T : TypeId} {a : Value} (h : Shp l (.iface T a)) (hx : l.headD 0 = 103) : T = 103 ∧ ∃ P Q : ByteArray, a = .agg #[.string P, .string Q] ∧ right P.data.toList = true ∧ right Q.data.toList = true ∧ l = 103 :: (P.data.toList ++ Q.data.toList) := by
  rcases h with ⟨_, hp, hl, h⟩ | ⟨_, hp, hl, h⟩ | ⟨_, hp, hl, h⟩ | ⟨_, hp, hl, h⟩ | ⟨_, _, hp, hl, h⟩ | ⟨_, _, hp, hl, h⟩ | ⟨_, _, hp, hl, h⟩ | ⟨_, _, hp, hl, h⟩
  case inr.inr.inr.inr.inr.inr.inl => injection h with h1 h2; exact ⟨h1, _, _, h2, hp.1, hp.2, hl⟩
  all_goals (rw [hl] at hx; simp at hx)
theorem Shp.no_signed {l : List UInt8} {T : TypeId} {a : Value} (h : Shp l (.iface T a)) (hx : l.headD 0 ≠ 103) : T ≠ 103 := by
  rcases h with ⟨_, hp, hl, h⟩ | ⟨_, hp, hl, h⟩ | ⟨_, hp, hl, h⟩ | ⟨_, hp, hl, h⟩ | ⟨_, _, hp, hl, h⟩ | ⟨_, _, hp, hl, h⟩ | ⟨_, _, hp, hl, h⟩ | ⟨_, _, hp, hl, h⟩
  case inr.inr.inr.inr.inr.inr.inl => exact absurd (by rw [hl]; rfl) hx
  all_goals (injection h with h1 _; rw [h1]; decide)
theorem Shp.of_hash {l : List UInt8} {T : TypeId} {a : Value} (h : Shp l (.iface T a)) (hx : l.headD 0 = 104) : T = 95 ∧ ∃ P : ByteArray, a = .agg #[.string P] ∧ right P.data.toList = true ∧ l = 104 :: P.data.toList := by
  rcases h with ⟨_, hp, hl, h⟩ | ⟨_, hp, hl, h⟩ | ⟨_, hp, hl, h⟩ | ⟨_, hp, hl, h⟩ | ⟨_, _, hp, hl, h⟩ | ⟨_, _, hp, hl, h⟩ | ⟨_, _, hp, hl, h⟩ | ⟨_, _, hp, hl, h⟩
  case inr.inr.inl => injection h with h1 h2; exact ⟨h1, _, h2, hp, hl⟩
  all_goals (rw [hl] at hx; simp at hx)
theorem Shp.no_hash {l : List UInt8} {T : TypeId} {a : Value} (h : Shp l (.iface T a)) (hx : l.headD 0 ≠ 104) : T ≠ 95 := by
  rcases h with ⟨_, hp, hl, h⟩ | ⟨_, hp, hl, h⟩ | ⟨_, hp, hl, h⟩ | ⟨_, hp, hl, h⟩ | ⟨_, _, hp, hl, h⟩ | ⟨_, _, hp, hl, h⟩ | ⟨_, _, hp, hl, h⟩ | ⟨_, _, hp, hl, h⟩
  case inr.inr.inl => exact absurd (by rw [hl]; rfl) hx
  all_goals (injection h with h1 _; rw [h1]; decide)
theorem Shp.of_pair {l : List UInt8} {T : TypeId} {a : Value} (h : Shp l (.iface T a)) (hx : l.headD 0 = 112) : T = 99 ∧ ∃ P Q : ByteArray, a = .agg #[.string P, .string Q] ∧ right P.data.toList = true ∧ right Q.data.toList = true ∧ l = 112 :: (P.data.toList ++ Q.data.toList) := by
  rcases h with ⟨_, hp, hl, h⟩ | ⟨_, hp, hl, h⟩ | ⟨_, hp, hl, h⟩ | ⟨_, hp, hl, h⟩ | ⟨_, _, hp, hl, h⟩ | ⟨_, _, hp, hl, h⟩ | ⟨_, _, hp, hl, h⟩ | ⟨_, _, hp, hl, h⟩
  case inr.inr.inr.inr.inl => injection h with h1 h2; exact ⟨h1, _, _, h2, hp.1, hp.2, hl⟩
  all_goals (rw [hl] at hx; simp at hx)
theorem Shp.no_pair {l : List UInt8} {T : TypeId} {a : Value} (h : Shp l (.iface T a)) (hx : l.headD 0 ≠ 112) : T ≠ 99 := by
  rcases h with ⟨_, hp, hl, h⟩ | ⟨_, hp, hl, h⟩ | ⟨_, hp, hl, h⟩ | ⟨_, hp, hl, h⟩ | ⟨_, _, hp, hl, h⟩ | ⟨_, _, hp, hl, h⟩ | ⟨_, _, hp, hl, h⟩ | ⟨_, _, hp, hl, h⟩
  case inr.inr.inr.inr.inl => exact absurd (by rw [hl]; rfl) hx
  all_goals (injection h with h1 _; rw [h1]; decide)
theorem number_of {l : List UInt8} {n : Nat} (hr : right l = true) (h : l = 97 :: put n) (hn : n < 18446744073709551616) : number l = (n, 0) := by
  have h2 := take_put hn (r := [])
  rw [List.append_nil] at h2
  subst h
  unfold number
  rw [if_pos hr, if_pos (show (97 :: put n).headD 0 = 97 from rfl)]
  show ((tk (put n)).1, (tk (put n)).2.2) = _
  rw [tk_some h2]
theorem number_not {l : List UInt8} (hr : right l = true) (h : l.headD 0 ≠ 97) : number l = (0, 2) := by unfold number; rw [if_pos hr, if_neg h]
theorem number_wrong {l : List UInt8} (hr : right l = false) : number l = (0, 1) := by unfold number; rw [if_neg (by rw [hr]; decide)]
theorem words_of {l : List UInt8} {W : List UInt8} (hr : right l = true) (h : l = 116 :: putText W) (hn : W.length ≤ 4000) : words l = (W, 0) := by
  have h2 := text_put (t := W) (by omega) [] 4000 (by omega)
  rw [List.append_nil] at h2
  subst h
  unfold words
  rw [if_pos hr, if_pos (show (116 :: putText W).headD 0 = 116 from rfl)]
  show ((text (putText W) 4000).1, (text (putText W) 4000).2.2) = _
  rw [h2]
theorem words_not {l : List UInt8} (hr : right l = true) (h : l.headD 0 ≠ 116) : words l = ([], 2) := by unfold words; rw [if_pos hr, if_neg h]
theorem words_wrong {l : List UInt8} (hr : right l = false) : words l = ([], 1) := by unfold words; rw [if_neg (by rw [hr]; decide)]
theorem opens_of {k : UInt8} {key P Q : List UInt8} (hr : right (k :: (P ++ Q)) = true) (hk : arity k = some 2) (h : right P = true) (h2 : right Q = true) : opens k key (k :: (P ++ Q)) = if P = key then (Q, 0) else ([], 6) := by
  have hp : parts (k :: (P ++ Q)) = ([P, Q], 0) := by
    unfold parts
    rw [if_pos hr]
    show (cuts ((arity k).getD 0) (P ++ Q), 0) = _
    rw [hk]
    show (cuts 2 (P ++ Q), 0) = _
    rw [cuts_two h h2]
  unfold opens
  rw [if_pos (show (k :: (P ++ Q)).headD 0 = k from rfl), hp]
  rfl
theorem opens_not {k : UInt8} {key c : List UInt8} (h : c.headD 0 ≠ k) : opens k key c = ([], 2) := by unfold opens; rw [if_neg h]

set_option maxHeartbeats 1000000 in
theorem t_Kind (a : ByteArray) (w : World) (_ : a.size ≤ 140737488355328) :
    Calls Try.prog 22 #[.string a] w fun e w' => e = .returned (.int .u8 (kind a.data.toList : Nat)) ∧ Below w.heap.size w w' := by
  have q0 := nil_no
  have q1 := nil_yes
  cases hr : right a.data.toList with
  | true =>
    have HR := Lib.hid hr
    have hz := (right_sz hr).1
    have hz1 : (0 : Int) < (a.size : Int) := by omega
    have hh := head_get hz
    have hm : kind a.data.toList = (a[0]'hz).toNat := by
      unfold kind; rw [if_pos hr]
      cases hl : a.data.toList with
      | nil => rw [hl] at hh; cases hh
      | cons x y => rw [hl] at hh; rw [← Option.some.inj hh]; rfl
    rw [hm]
    clear hr hm hh
    go_enter Try.func22, Try.ntmps22
    go_wp2_with (go_at_call 38; refine (whole_any a _).mono ?_; rintro e w1 ⟨ht, hb1⟩; obtain ⟨T, v, hsh, rfl⟩ := ht.pos HR.out; have HB1 := Lib.hid hb1; clear hb1 ht hsh)
    go_ret
    exact ⟨rfl, HB1.out⟩
  | false =>
    have HR := Lib.hid hr
    have hm : kind a.data.toList = 0 := by unfold kind; rw [if_neg (by rw [hr]; decide)]
    rw [hm]
    clear hr hm
    go_enter Try.func22, Try.ntmps22
    go_wp2_with (go_at_call 38; refine (whole_any a _).mono ?_; rintro e w1 ⟨ht, hb1⟩; obtain rfl := ht.zero HR.out; have HB1 := Lib.hid hb1; clear hb1 ht)
    go_ret
    exact ⟨rfl, HB1.out⟩
end Go.Proofs.Ytjoldkhfkobahaa.Term

/-
  CONTRACTS of the code's Read, Open, Verify (package term). By an AI agent; no person has read it.
-/
namespace Go.Proofs.Ytjoldkhfkobahaa.Term
open Go.RowKit Wire

/-- Of the first 4000 bytes the same term is read, if it has at most so many. -/
theorem size_cut (l : List UInt8) : (size 40 (l.take 4000) = 0 ∧ (size 40 l = 0 ∨ 4000 < size 40 l)) ∨ (size 40 (l.take 4000) ≠ 0 ∧ size 40 l = size 40 (l.take 4000) ∧ size 40 (l.take 4000) ≤ 4000) := by
  have hle := size_le 40 (l.take 4000)
  rw [List.length_take] at hle
  by_cases h0 : size 40 (l.take 4000) = 0
  · refine .inl ⟨h0, ?_⟩
    by_cases h1 : size 40 l = 0
    · exact .inl h1
    · refine .inr ?_
      rw [← Nat.not_le]; intro h4
      have hx := size_ext 40 l ((l.take 4000).drop (size 40 l)) h1
      have e : l.take (size 40 l) ++ (l.take 4000).drop (size 40 l) = l.take 4000 := by
        have e2 : l.take (size 40 l) = (l.take 4000).take (size 40 l) := by rw [List.take_take, Nat.min_eq_left h4]
        rw [e2, List.take_append_drop]
      rw [e] at hx
      omega
  · refine .inr ⟨h0, ?_, by omega⟩
    have hx := size_ext 40 (l.take 4000) (l.drop (size 40 (l.take 4000))) h0
    have e : (l.take 4000).take (size 40 (l.take 4000)) ++ l.drop (size 40 (l.take 4000)) = l := by
      rw [List.take_take, Nat.min_eq_left (by omega), List.take_append_drop]
    rw [e] at hx
    exact hx

theorem sealed_form {l : List UInt8} (h : right l = true) (hx : l.headD 0 = 115) : ∃ P Q : List UInt8, right P = true ∧ right Q = true ∧ l = 115 :: (P ++ Q) := by
  obtain ⟨b, t, m, rfl, ha, _⟩ := right_parts h
  obtain rfl : b = 115 := hx
  obtain ⟨x, y, rfl, _, h1, h2, _⟩ := two_parts h rfl
  exact ⟨x, y, h1, h2, rfl⟩
theorem boxed_form {l : List UInt8} (h : right l = true) (hx : l.headD 0 = 98) : ∃ P Q : List UInt8, right P = true ∧ right Q = true ∧ l = 98 :: (P ++ Q) := by
  obtain ⟨b, t, m, rfl, ha, _⟩ := right_parts h
  obtain rfl : b = 98 := hx
  obtain ⟨x, y, rfl, _, h1, h2, _⟩ := two_parts h rfl
  exact ⟨x, y, h1, h2, rfl⟩
theorem signed_form {l : List UInt8} (h : right l = true) (hx : l.headD 0 = 103) : ∃ P Q : List UInt8, right P = true ∧ right Q = true ∧ l = 103 :: (P ++ Q) := by
  obtain ⟨b, t, m, rfl, ha, _⟩ := right_parts h
  obtain rfl : b = 103 := hx
  obtain ⟨x, y, rfl, _, h1, h2, _⟩ := two_parts h rfl
  exact ⟨x, y, h1, h2, rfl⟩
theorem pub_form {l : List UInt8} (h : right l = true) (hx : l.headD 0 = 117) : ∃ P : List UInt8, right P = true ∧ l = 117 :: P := by
  obtain ⟨b, t, m, rfl, ha, _⟩ := right_parts h
  obtain rfl : b = 117 := hx
  exact ⟨t, (one_part h rfl (by decide)).1, rfl⟩
theorem two_same {k : UInt8} {P Q X Y : List UInt8} (hP : right P = true) (hX : right X = true) (h : k :: (P ++ Q) = k :: (X ++ Y)) : P = X ∧ Q = Y := right_cut hP hX (List.cons.inj h).2
theorem open_wrong {key c : List UInt8} (h : right key = false ∨ right c = false) : open' key c = ([], 1) := by
  unfold open'; rw [if_neg]; rintro ⟨h1, h2⟩
  rcases h with h | h
  · rw [h1] at h; cases h
  · rw [h2] at h; cases h
theorem open_eq {key c : List UInt8} (h : right key = true) (h2 : right c = true) : open' key c = opens 115 key c := by unfold open'; rw [if_pos ⟨h, h2⟩]
theorem verify_wrong {p a s : List UInt8} (h : right p = false ∨ right s = false ∨ right a = false) : verify p a s = 1 := by
  unfold verify; rw [if_neg]; rintro ⟨h1, h2, h3⟩
  rcases h with h | h | h
  · rw [h1] at h; cases h
  · rw [h3] at h; cases h
  · rw [h2] at h; cases h
theorem verify_eq {p a s : List UInt8} (h : right p = true) (h2 : right a = true) (h3 : right s = true) : verify p a s = if p.headD 0 = 117 ∧ s = 103 :: (p.tail ++ a) then 0 else 7 := by unfold verify; rw [if_pos ⟨h, h2, h3⟩]
end Go.Proofs.Ytjoldkhfkobahaa.Term

/-
  CONTRACTS of the methods parts, and of Parts (package term). By an AI agent; no person has read it.
-/
namespace Go.Proofs.Ytjoldkhfkobahaa.Term
open Go.RowKit Wire

/-- A row of one string that the call has just laid. -/
theorem one_reads (W : World) (X : ByteArray) (g : Nat) (hg : g = W.heap.size) : SReads (W.alloc (.cells #[.string X] 9)) (some ⟨g, 0, none⟩) [X] := by
  subst hg
  intro j hj
  refine ⟨_, 0, rfl, by simp, ?_⟩
  have h : (W.alloc (.cells #[.string X] 9)).cell? ⟨W.heap.size, 0 + j, none⟩ = (#[.string X] : Array Value)[0 + j]? := cell_of_row _ _ _ _ _ (0, 0) (heap_alloc_new W _)
  refine Eq.trans h ?_
  match j, hj with
  | 0, _ => rfl
/-- A slice of these strings as an answer. -/
def Sl (ys : List ByteArray) (e : Ending) (w' : World) : Prop := ∃ (A : Option Addr) (c : Nat), ys.length ≤ c ∧ SReads w' A ys ∧ e = .returned (.slice A ys.length c)
theorem below2 {w w1 : World} (h : Below w.heap.size w w1) (o1 o2 : Obj) : Below w.heap.size w ((w1.alloc o1).alloc o2) := by
  have h1 := h.alloc h.size o1
  exact h1.alloc h1.size o2
theorem parts_atom (n : Int) (w : World) : Calls Try.prog 94 #[.agg #[.int .u64 n]] w fun e w' => Sl [] e w' ∧ Below w.heap.size w w' := by
  go_enter Try.func94, Try.ntmps94
  go_wp2
  go_ret
  exact ⟨⟨none, 0, Nat.le_refl _, SReads.nil _ _, rfl⟩, (Below.refl _ _).alloc (Nat.le_refl _) _⟩
theorem parts_text (n : ByteArray) (w : World) : Calls Try.prog 95 #[.agg #[.string n]] w fun e w' => Sl [] e w' ∧ Below w.heap.size w w' := by
  go_enter Try.func95, Try.ntmps95
  go_wp2
  go_ret
  exact ⟨⟨none, 0, Nat.le_refl _, SReads.nil _ _, rfl⟩, (Below.refl _ _).alloc (Nat.le_refl _) _⟩
theorem parts_hash (P : ByteArray) (w : World) : Calls Try.prog 96 #[.agg #[.string P]] w fun e w' => Sl [P] e w' ∧ Below w.heap.size w w' := by
  go_enter Try.func96, Try.ntmps96
  go_wp2
  go_ret
  exact ⟨⟨_, 1, Nat.le_refl _, one_reads _ P _ (by simp), rfl⟩, below2 (Below.refl _ _) _ _⟩
theorem parts_publicOne (P : ByteArray) (w : World) : Calls Try.prog 97 #[.agg #[.string P]] w fun e w' => Sl [P] e w' ∧ Below w.heap.size w w' := by
  go_enter Try.func97, Try.ntmps97
  go_wp2
  go_ret
  exact ⟨⟨_, 1, Nat.le_refl _, one_reads _ P _ (by simp), rfl⟩, below2 (Below.refl _ _) _ _⟩
theorem parts_pair (P Q : ByteArray) (w : World) : Calls Try.prog 98 #[.agg #[.string P, .string Q]] w fun e w' => Sl [P, Q] e w' ∧ Below w.heap.size w w' := by
  go_enter Try.func98, Try.ntmps98
  go_wp2
  go_ret
  exact ⟨⟨_, 2, Nat.le_refl _, pair_reads' _ P Q _ (by simp), rfl⟩, below2 (Below.refl _ _) _ _⟩
theorem parts_sealed (P Q : ByteArray) (w : World) : Calls Try.prog 99 #[.agg #[.string P, .string Q]] w fun e w' => Sl [P, Q] e w' ∧ Below w.heap.size w w' := by
  go_enter Try.func99, Try.ntmps99
  go_wp2
  go_ret
  exact ⟨⟨_, 2, Nat.le_refl _, pair_reads' _ P Q _ (by simp), rfl⟩, below2 (Below.refl _ _) _ _⟩
theorem parts_boxed (P Q : ByteArray) (w : World) : Calls Try.prog 101 #[.agg #[.string P, .string Q]] w fun e w' => Sl [P, Q] e w' ∧ Below w.heap.size w w' := by
  go_enter Try.func101, Try.ntmps101
  go_wp2
  go_ret
  exact ⟨⟨_, 2, Nat.le_refl _, pair_reads' _ P Q _ (by simp), rfl⟩, below2 (Below.refl _ _) _ _⟩
theorem parts_signed (P Q : ByteArray) (w : World) : Calls Try.prog 100 #[.agg #[.string P, .string Q]] w fun e w' => Sl [P, Q] e w' ∧ Below w.heap.size w w' := by
  go_enter Try.func100, Try.ntmps100
  go_wp2
  go_ret
  exact ⟨⟨_, 2, Nat.le_refl _, pair_reads' _ P Q _ (by simp), rfl⟩, below2 (Below.refl _ _) _ _⟩
/-! The name of the method parts is taken off the program's own table of types. -/
theorem method_atom (n : Nat) (v : Value) (w : World) (nm : String) (h : (Try.prog.info? 91).map (fun i => (i.methods.toList.map (fun m => m.name)).head?) = some (some nm)) : (method (n + 1) 91 v nm).run Try.prog w = .ok (94, v) w := by
  have e : nm = (((Try.prog.info? 91).map (fun i => (i.methods.toList.map (fun m => m.name)).head?)).getD none).getD default := by rw [h]; rfl
  have aux : (method (n + 1) 91 v ((((Try.prog.info? 91).map (fun i => (i.methods.toList.map (fun m => m.name)).head?)).getD none).getD default)).run Try.prog w = .ok (94, v) w := by kernel_rfl
  rw [e]
  exact aux
theorem method_text (n : Nat) (v : Value) (w : World) (nm : String) (h : (Try.prog.info? 93).map (fun i => (i.methods.toList.map (fun m => m.name)).head?) = some (some nm)) : (method (n + 1) 93 v nm).run Try.prog w = .ok (95, v) w := by
  have e : nm = (((Try.prog.info? 93).map (fun i => (i.methods.toList.map (fun m => m.name)).head?)).getD none).getD default := by rw [h]; rfl
  have aux : (method (n + 1) 93 v ((((Try.prog.info? 93).map (fun i => (i.methods.toList.map (fun m => m.name)).head?)).getD none).getD default)).run Try.prog w = .ok (95, v) w := by kernel_rfl
  rw [e]
  exact aux
theorem method_hash (n : Nat) (v : Value) (w : World) (nm : String) (h : (Try.prog.info? 95).map (fun i => (i.methods.toList.map (fun m => m.name)).head?) = some (some nm)) : (method (n + 1) 95 v nm).run Try.prog w = .ok (96, v) w := by
  have e : nm = (((Try.prog.info? 95).map (fun i => (i.methods.toList.map (fun m => m.name)).head?)).getD none).getD default := by rw [h]; rfl
  have aux : (method (n + 1) 95 v ((((Try.prog.info? 95).map (fun i => (i.methods.toList.map (fun m => m.name)).head?)).getD none).getD default)).run Try.prog w = .ok (96, v) w := by kernel_rfl
  rw [e]
  exact aux
theorem method_publicOne (n : Nat) (v : Value) (w : World) (nm : String) (h : (Try.prog.info? 97).map (fun i => (i.methods.toList.map (fun m => m.name)).head?) = some (some nm)) : (method (n + 1) 97 v nm).run Try.prog w = .ok (97, v) w := by
  have e : nm = (((Try.prog.info? 97).map (fun i => (i.methods.toList.map (fun m => m.name)).head?)).getD none).getD default := by rw [h]; rfl
  have aux : (method (n + 1) 97 v ((((Try.prog.info? 97).map (fun i => (i.methods.toList.map (fun m => m.name)).head?)).getD none).getD default)).run Try.prog w = .ok (97, v) w := by kernel_rfl
  rw [e]
  exact aux
theorem method_pair (n : Nat) (v : Value) (w : World) (nm : String) (h : (Try.prog.info? 99).map (fun i => (i.methods.toList.map (fun m => m.name)).head?) = some (some nm)) : (method (n + 1) 99 v nm).run Try.prog w = .ok (98, v) w := by
  have e : nm = (((Try.prog.info? 99).map (fun i => (i.methods.toList.map (fun m => m.name)).head?)).getD none).getD default := by rw [h]; rfl
  have aux : (method (n + 1) 99 v ((((Try.prog.info? 99).map (fun i => (i.methods.toList.map (fun m => m.name)).head?)).getD none).getD default)).run Try.prog w = .ok (98, v) w := by kernel_rfl
  rw [e]
  exact aux
theorem method_sealed (n : Nat) (v : Value) (w : World) (nm : String) (h : (Try.prog.info? 101).map (fun i => (i.methods.toList.map (fun m => m.name)).head?) = some (some nm)) : (method (n + 1) 101 v nm).run Try.prog w = .ok (99, v) w := by
  have e : nm = (((Try.prog.info? 101).map (fun i => (i.methods.toList.map (fun m => m.name)).head?)).getD none).getD default := by rw [h]; rfl
  have aux : (method (n + 1) 101 v ((((Try.prog.info? 101).map (fun i => (i.methods.toList.map (fun m => m.name)).head?)).getD none).getD default)).run Try.prog w = .ok (99, v) w := by kernel_rfl
  rw [e]
  exact aux
theorem method_boxed (n : Nat) (v : Value) (w : World) (nm : String) (h : (Try.prog.info? 106).map (fun i => (i.methods.toList.map (fun m => m.name)).head?) = some (some nm)) : (method (n + 1) 106 v nm).run Try.prog w = .ok (101, v) w := by
  have e : nm = (((Try.prog.info? 106).map (fun i => (i.methods.toList.map (fun m => m.name)).head?)).getD none).getD default := by rw [h]; rfl
  have aux : (method (n + 1) 106 v ((((Try.prog.info? 106).map (fun i => (i.methods.toList.map (fun m => m.name)).head?)).getD none).getD default)).run Try.prog w = .ok (101, v) w := by kernel_rfl
  rw [e]
  exact aux
theorem method_signed (n : Nat) (v : Value) (w : World) (nm : String) (h : (Try.prog.info? 103).map (fun i => (i.methods.toList.map (fun m => m.name)).head?) = some (some nm)) : (method (n + 1) 103 v nm).run Try.prog w = .ok (100, v) w := by
  have e : nm = (((Try.prog.info? 103).map (fun i => (i.methods.toList.map (fun m => m.name)).head?)).getD none).getD default := by rw [h]; rfl
  have aux : (method (n + 1) 103 v ((((Try.prog.info? 103).map (fun i => (i.methods.toList.map (fun m => m.name)).head?)).getD none).getD default)).run Try.prog w = .ok (100, v) w := by kernel_rfl
  rw [e]
  exact aux
theorem heads {l : List UInt8} (h : right l = true) : l.headD 0 = 97 ∨ l.headD 0 = 116 ∨ l.headD 0 = 104 ∨ l.headD 0 = 117 ∨ l.headD 0 = 112 ∨ l.headD 0 = 115 ∨ l.headD 0 = 98 ∨ l.headD 0 = 103 := by
  obtain ⟨b, t, m, rfl, ha, _⟩ := right_parts h
  show b = 97 ∨ b = 116 ∨ b = 104 ∨ b = 117 ∨ b = 112 ∨ b = 115 ∨ b = 98 ∨ b = 103
  unfold arity at ha
  split at ha
  · rename_i h; rcases h with h | h <;> simp [h]
  · split at ha
    · rename_i h; rcases h with h | h <;> simp [h]
    · split at ha
      · rename_i h; rcases h with h | h | h | h <;> simp [h]
      · cases ha
theorem parts_leaf {l : List UInt8} (hr : right l = true) (h : l.headD 0 = 97 ∨ l.headD 0 = 116) : parts l = ([], 0) := by
  unfold parts
  rw [if_pos hr]
  have : arity (l.headD 0) = some 0 := by unfold arity; rw [if_pos h]
  rw [this]; rfl
theorem parts_un {k : UInt8} {P : List UInt8} (hr : right (k :: P) = true) (hk : arity k = some 1) (h : right P = true) : parts (k :: P) = ([P], 0) := by
  unfold parts
  rw [if_pos hr]
  show (cuts ((arity k).getD 0) P, 0) = _
  rw [hk]
  show (cuts 1 P, 0) = _
  rw [cuts_one h]
theorem parts_bi {k : UInt8} {P Q : List UInt8} (hr : right (k :: (P ++ Q)) = true) (hk : arity k = some 2) (h : right P = true) (h2 : right Q = true) : parts (k :: (P ++ Q)) = ([P, Q], 0) := by
  unfold parts
  rw [if_pos hr]
  show (cuts ((arity k).getD 0) (P ++ Q), 0) = _
  rw [hk]
  show (cuts 2 (P ++ Q), 0) = _
  rw [cuts_two h h2]
theorem parts_wrong {l : List UInt8} (hr : right l = false) : parts l = ([], 1) := by unfold parts; rw [if_neg (by rw [hr]; decide)]
theorem ta_of {ys : List ByteArray} {x : List (List UInt8) × Int} {w' : World} {A : Option Addr} {c : Nat} (hx : x = (bl ys, 0)) (hc : ys.length ≤ c) (hs : SReads w' A ys) : Ta x (.returned (.tuple #[.slice A ys.length c, .int .i64 0])) w' := by
  subst hx
  exact ⟨A, c, ys, rfl, hc, hs, rfl⟩
set_option maxHeartbeats 2000000 in
set_option maxRecDepth 1000000 in
theorem partsOf_atom (a : ByteArray) (w : World) (hr : right a.data.toList = true) (hx : a.data.toList.headD 0 = 97) :
    Calls Try.prog 21 #[.string a] w fun e w' => Ta (parts a.data.toList) e w' ∧ Below w.heap.size w w' := by
  have q0 := nil_no
  have q1 := nil_yes
  have HR := Lib.hid hr
  have HX := Lib.hid hx
  clear hr hx
  go_enter Try.func21, Try.ntmps21
  go_wp2_with (go_at_call 38; refine (whole_any a _).mono ?_; rintro e w1 ⟨ht, hb1⟩; obtain ⟨T, v, hsh, rfl⟩ := ht.pos HR.out; obtain ⟨rfl, n, rfl, _, hl⟩ := hsh.of_atom HX.out; have HL := Lib.hid hl; clear hl; have HB1 := Lib.hid hb1; clear hb1 ht hsh; dsimp only)
  rw [method_atom _ _ _ _ (by kernel_rfl)]
  go_wp2_with fail
  refine (parts_atom n _).mono ?_
  rintro e w2 ⟨⟨A, c, hc, hs, rfl⟩, hb2⟩
  have HB2 := Lib.hid (HB1.out.trans (hb2.mono HB1.out.size))
  have HS := Lib.hid hs
  have HC := Lib.hid hc
  clear hb2 hs hc
  dsimp only
  go_wp2
  go_ret2
  exact ⟨ta_of (ys := []) (parts_leaf HR.out (.inl HX.out)) HC.out HS.out, HB2.out⟩
set_option maxHeartbeats 2000000 in
set_option maxRecDepth 1000000 in
theorem partsOf_text (a : ByteArray) (w : World) (hr : right a.data.toList = true) (hx : a.data.toList.headD 0 = 116) :
    Calls Try.prog 21 #[.string a] w fun e w' => Ta (parts a.data.toList) e w' ∧ Below w.heap.size w w' := by
  have q0 := nil_no
  have q1 := nil_yes
  have HR := Lib.hid hr
  have HX := Lib.hid hx
  clear hr hx
  go_enter Try.func21, Try.ntmps21
  go_wp2_with (go_at_call 38; refine (whole_any a _).mono ?_; rintro e w1 ⟨ht, hb1⟩; obtain ⟨T, v, hsh, rfl⟩ := ht.pos HR.out; obtain ⟨rfl, n, rfl, _, hl⟩ := hsh.of_text HX.out; have HL := Lib.hid hl; clear hl; have HB1 := Lib.hid hb1; clear hb1 ht hsh; dsimp only)
  rw [method_text _ _ _ _ (by kernel_rfl)]
  go_wp2_with fail
  refine (parts_text n _).mono ?_
  rintro e w2 ⟨⟨A, c, hc, hs, rfl⟩, hb2⟩
  have HB2 := Lib.hid (HB1.out.trans (hb2.mono HB1.out.size))
  have HS := Lib.hid hs
  have HC := Lib.hid hc
  clear hb2 hs hc
  dsimp only
  go_wp2
  go_ret2
  exact ⟨ta_of (ys := []) (parts_leaf HR.out (.inr HX.out)) HC.out HS.out, HB2.out⟩
set_option maxHeartbeats 2000000 in
set_option maxRecDepth 1000000 in
theorem partsOf_hash (a : ByteArray) (w : World) (hr : right a.data.toList = true) (hx : a.data.toList.headD 0 = 104) :
    Calls Try.prog 21 #[.string a] w fun e w' => Ta (parts a.data.toList) e w' ∧ Below w.heap.size w w' := by
  have q0 := nil_no
  have q1 := nil_yes
  have HR := Lib.hid hr
  have HX := Lib.hid hx
  clear hr hx
  go_enter Try.func21, Try.ntmps21
  go_wp2_with (go_at_call 38; refine (whole_any a _).mono ?_; rintro e w1 ⟨ht, hb1⟩; obtain ⟨T, v, hsh, rfl⟩ := ht.pos HR.out; obtain ⟨rfl, X, rfl, hX, hl⟩ := hsh.of_hash HX.out; have HL := Lib.hid hl; have HXX := Lib.hid hX; clear hl hX; have HB1 := Lib.hid hb1; clear hb1 ht hsh; dsimp only)
  rw [method_hash _ _ _ _ (by kernel_rfl)]
  go_wp2_with fail
  refine (parts_hash X _).mono ?_
  rintro e w2 ⟨⟨A, c, hc, hs, rfl⟩, hb2⟩
  have HB2 := Lib.hid (HB1.out.trans (hb2.mono HB1.out.size))
  have HS := Lib.hid hs
  have HC := Lib.hid hc
  clear hb2 hs hc
  dsimp only
  go_wp2
  go_ret2
  exact ⟨ta_of (ys := [X]) (by rw [HL.out]; exact parts_un (by rw [← HL.out]; exact HR.out) rfl HXX.out) HC.out HS.out, HB2.out⟩
set_option maxHeartbeats 2000000 in
set_option maxRecDepth 1000000 in
theorem partsOf_publicOne (a : ByteArray) (w : World) (hr : right a.data.toList = true) (hx : a.data.toList.headD 0 = 117) :
    Calls Try.prog 21 #[.string a] w fun e w' => Ta (parts a.data.toList) e w' ∧ Below w.heap.size w w' := by
  have q0 := nil_no
  have q1 := nil_yes
  have HR := Lib.hid hr
  have HX := Lib.hid hx
  clear hr hx
  go_enter Try.func21, Try.ntmps21
  go_wp2_with (go_at_call 38; refine (whole_any a _).mono ?_; rintro e w1 ⟨ht, hb1⟩; obtain ⟨T, v, hsh, rfl⟩ := ht.pos HR.out; obtain ⟨rfl, X, rfl, hX, hl⟩ := hsh.of_publicOne HX.out; have HL := Lib.hid hl; have HXX := Lib.hid hX; clear hl hX; have HB1 := Lib.hid hb1; clear hb1 ht hsh; dsimp only)
  rw [method_publicOne _ _ _ _ (by kernel_rfl)]
  go_wp2_with fail
  refine (parts_publicOne X _).mono ?_
  rintro e w2 ⟨⟨A, c, hc, hs, rfl⟩, hb2⟩
  have HB2 := Lib.hid (HB1.out.trans (hb2.mono HB1.out.size))
  have HS := Lib.hid hs
  have HC := Lib.hid hc
  clear hb2 hs hc
  dsimp only
  go_wp2
  go_ret2
  exact ⟨ta_of (ys := [X]) (by rw [HL.out]; exact parts_un (by rw [← HL.out]; exact HR.out) rfl HXX.out) HC.out HS.out, HB2.out⟩
set_option maxHeartbeats 2000000 in
set_option maxRecDepth 1000000 in
theorem partsOf_pair (a : ByteArray) (w : World) (hr : right a.data.toList = true) (hx : a.data.toList.headD 0 = 112) :
    Calls Try.prog 21 #[.string a] w fun e w' => Ta (parts a.data.toList) e w' ∧ Below w.heap.size w w' := by
  have q0 := nil_no
  have q1 := nil_yes
  have HR := Lib.hid hr
  have HX := Lib.hid hx
  clear hr hx
  go_enter Try.func21, Try.ntmps21
  go_wp2_with (go_at_call 38; refine (whole_any a _).mono ?_; rintro e w1 ⟨ht, hb1⟩; obtain ⟨T, v, hsh, rfl⟩ := ht.pos HR.out; obtain ⟨rfl, X, Y, rfl, hX, hY, hl⟩ := hsh.of_pair HX.out; have HL := Lib.hid hl; have HXX := Lib.hid hX; have HYY := Lib.hid hY; clear hl hX hY; have HB1 := Lib.hid hb1; clear hb1 ht hsh; dsimp only)
  rw [method_pair _ _ _ _ (by kernel_rfl)]
  go_wp2_with fail
  refine (parts_pair X Y _).mono ?_
  rintro e w2 ⟨⟨A, c, hc, hs, rfl⟩, hb2⟩
  have HB2 := Lib.hid (HB1.out.trans (hb2.mono HB1.out.size))
  have HS := Lib.hid hs
  have HC := Lib.hid hc
  clear hb2 hs hc
  dsimp only
  go_wp2
  go_ret2
  exact ⟨ta_of (ys := [X, Y]) (by rw [HL.out]; exact parts_bi (by rw [← HL.out]; exact HR.out) rfl HXX.out HYY.out) HC.out HS.out, HB2.out⟩
set_option maxHeartbeats 2000000 in
set_option maxRecDepth 1000000 in
theorem partsOf_sealed (a : ByteArray) (w : World) (hr : right a.data.toList = true) (hx : a.data.toList.headD 0 = 115) :
    Calls Try.prog 21 #[.string a] w fun e w' => Ta (parts a.data.toList) e w' ∧ Below w.heap.size w w' := by
  have q0 := nil_no
  have q1 := nil_yes
  have HR := Lib.hid hr
  have HX := Lib.hid hx
  clear hr hx
  go_enter Try.func21, Try.ntmps21
  go_wp2_with (go_at_call 38; refine (whole_any a _).mono ?_; rintro e w1 ⟨ht, hb1⟩; obtain ⟨T, v, hsh, rfl⟩ := ht.pos HR.out; obtain ⟨rfl, X, Y, rfl, hX, hY, hl⟩ := hsh.of_sealed HX.out; have HL := Lib.hid hl; have HXX := Lib.hid hX; have HYY := Lib.hid hY; clear hl hX hY; have HB1 := Lib.hid hb1; clear hb1 ht hsh; dsimp only)
  rw [method_sealed _ _ _ _ (by kernel_rfl)]
  go_wp2_with fail
  refine (parts_sealed X Y _).mono ?_
  rintro e w2 ⟨⟨A, c, hc, hs, rfl⟩, hb2⟩
  have HB2 := Lib.hid (HB1.out.trans (hb2.mono HB1.out.size))
  have HS := Lib.hid hs
  have HC := Lib.hid hc
  clear hb2 hs hc
  dsimp only
  go_wp2
  go_ret2
  exact ⟨ta_of (ys := [X, Y]) (by rw [HL.out]; exact parts_bi (by rw [← HL.out]; exact HR.out) rfl HXX.out HYY.out) HC.out HS.out, HB2.out⟩
set_option maxHeartbeats 2000000 in
set_option maxRecDepth 1000000 in
theorem partsOf_boxed (a : ByteArray) (w : World) (hr : right a.data.toList = true) (hx : a.data.toList.headD 0 = 98) :
    Calls Try.prog 21 #[.string a] w fun e w' => Ta (parts a.data.toList) e w' ∧ Below w.heap.size w w' := by
  have q0 := nil_no
  have q1 := nil_yes
  have HR := Lib.hid hr
  have HX := Lib.hid hx
  clear hr hx
  go_enter Try.func21, Try.ntmps21
  go_wp2_with (go_at_call 38; refine (whole_any a _).mono ?_; rintro e w1 ⟨ht, hb1⟩; obtain ⟨T, v, hsh, rfl⟩ := ht.pos HR.out; obtain ⟨rfl, X, Y, rfl, hX, hY, hl⟩ := hsh.of_boxed HX.out; have HL := Lib.hid hl; have HXX := Lib.hid hX; have HYY := Lib.hid hY; clear hl hX hY; have HB1 := Lib.hid hb1; clear hb1 ht hsh; dsimp only)
  rw [method_boxed _ _ _ _ (by kernel_rfl)]
  go_wp2_with fail
  refine (parts_boxed X Y _).mono ?_
  rintro e w2 ⟨⟨A, c, hc, hs, rfl⟩, hb2⟩
  have HB2 := Lib.hid (HB1.out.trans (hb2.mono HB1.out.size))
  have HS := Lib.hid hs
  have HC := Lib.hid hc
  clear hb2 hs hc
  dsimp only
  go_wp2
  go_ret2
  exact ⟨ta_of (ys := [X, Y]) (by rw [HL.out]; exact parts_bi (by rw [← HL.out]; exact HR.out) rfl HXX.out HYY.out) HC.out HS.out, HB2.out⟩
set_option maxHeartbeats 2000000 in
set_option maxRecDepth 1000000 in
theorem partsOf_signed (a : ByteArray) (w : World) (hr : right a.data.toList = true) (hx : a.data.toList.headD 0 = 103) :
    Calls Try.prog 21 #[.string a] w fun e w' => Ta (parts a.data.toList) e w' ∧ Below w.heap.size w w' := by
  have q0 := nil_no
  have q1 := nil_yes
  have HR := Lib.hid hr
  have HX := Lib.hid hx
  clear hr hx
  go_enter Try.func21, Try.ntmps21
  go_wp2_with (go_at_call 38; refine (whole_any a _).mono ?_; rintro e w1 ⟨ht, hb1⟩; obtain ⟨T, v, hsh, rfl⟩ := ht.pos HR.out; obtain ⟨rfl, X, Y, rfl, hX, hY, hl⟩ := hsh.of_signed HX.out; have HL := Lib.hid hl; have HXX := Lib.hid hX; have HYY := Lib.hid hY; clear hl hX hY; have HB1 := Lib.hid hb1; clear hb1 ht hsh; dsimp only)
  rw [method_signed _ _ _ _ (by kernel_rfl)]
  go_wp2_with fail
  refine (parts_signed X Y _).mono ?_
  rintro e w2 ⟨⟨A, c, hc, hs, rfl⟩, hb2⟩
  have HB2 := Lib.hid (HB1.out.trans (hb2.mono HB1.out.size))
  have HS := Lib.hid hs
  have HC := Lib.hid hc
  clear hb2 hs hc
  dsimp only
  go_wp2
  go_ret2
  exact ⟨ta_of (ys := [X, Y]) (by rw [HL.out]; exact parts_bi (by rw [← HL.out]; exact HR.out) rfl HXX.out HYY.out) HC.out HS.out, HB2.out⟩
set_option maxHeartbeats 1000000 in
theorem t_Parts (a : ByteArray) (w : World) (_ : a.size ≤ 140737488355328) :
    Calls Try.prog 21 #[.string a] w fun e w' => Ta (parts a.data.toList) e w' ∧ Below w.heap.size w w' := by
  cases hr : right a.data.toList with
  | true =>
    rcases heads hr with h | h | h | h | h | h | h | h
    · exact partsOf_atom a w hr h
    · exact partsOf_text a w hr h
    · exact partsOf_hash a w hr h
    · exact partsOf_publicOne a w hr h
    · exact partsOf_pair a w hr h
    · exact partsOf_sealed a w hr h
    · exact partsOf_boxed a w hr h
    · exact partsOf_signed a w hr h
  | false =>
    have q1 := nil_yes
    have HR := Lib.hid hr
    rw [parts_wrong hr]
    clear hr
    go_enter Try.func21, Try.ntmps21
    go_wp2_with (go_at_call 38; refine (whole_any a _).mono ?_; rintro e w1 ⟨ht, hb1⟩; obtain rfl := ht.zero HR.out; have HB1 := Lib.hid hb1; clear hb1 ht)
    go_ret2
    exact ⟨ta_nil _ _, HB1.out⟩
end Go.Proofs.Ytjoldkhfkobahaa.Term

/-
  CONTRACTS of the code's join, and of OfPair, OfHash, Seal, OfPublic, Box, Sign, OfAtom, OfText, Unbox (package term). By an AI agent; no person has read it.
-/
namespace Go.Proofs.Ytjoldkhfkobahaa.Term
open Go.RowKit Wire

theorem strJoin_any (a : Option Addr) (c : Nat) (ys : List ByteArray) (w : World) (hr : SReads w a ys) (hN : ys.length ≤ 140737488355328) (hcap : ys.length ≤ c) (hlen : (cat ys).length ≤ 140737488355328) :
    Calls Try.prog 62 #[.slice a ys.length c, .string ⟨#[]⟩] w fun e w' => St (cat ys) e ∧ Below w.heap.size w w' := by
  cases ys with
  | nil => exact (Try.strings_Join_none a c ⟨#[]⟩ w).mono fun e w' ⟨he, hw⟩ => ⟨⟨_, rfl, he⟩, hw ▸ Below.refl _ _⟩
  | cons y r =>
    obtain ⟨b, off, rfl, hb, _⟩ := hr 0 (by simp)
    refine (Try.strings_Join b off c (y :: r) ⟨#[]⟩ w (fun j x hx => ?_) hb hN hcap (by rw [join_cat]; exact hlen)).mono fun e w' ⟨he, hw⟩ => ⟨⟨_, ?_, he⟩, hw⟩
    · have hj := (List.getElem?_eq_some_iff.1 hx).1
      obtain ⟨b', off', e, _, hc⟩ := hr j hj
      injection e with e
      injection e with e1 e2
      subst e1 e2
      rw [hc]
      simp [List.getD, hx]
    · rw [join_cat]
theorem bdrew1 {B : Nat} {a w : World} (h : Below B a w) : Below B a w.drew := ⟨h.os, h.tape, h.output, h.size, h.block⟩
theorem after_alloc {w w1 w2 : World} {o : Obj} (h : Below w.heap.size w w1) (h2 : Below (w1.alloc o).heap.size (w1.alloc o) w2) : Below w.heap.size w w2 := by
  have h1 := h.alloc h.size o
  exact h1.trans (h2.mono h1.size)
theorem kept_cell {wr w1 : World} {v : Value} {t : TypeId} (h : Below ((wr.alloc (.cells #[v] t)).drew).heap.size ((wr.alloc (.cells #[v] t)).drew) w1) : w1.cell? ⟨wr.heap.size, 0, none⟩ = some v := by
  rw [h.cell (p := ⟨wr.heap.size, 0, none⟩) (by show wr.heap.size < (wr.heap.push _).size; simp)]
  have h2 : ((wr.alloc (.cells #[v] t)).drew).cell? ⟨wr.heap.size, 0, none⟩ = (#[v] : Array Value)[0]? := cell_of_row _ _ _ _ _ (0, 0) (heap_alloc_new wr _)
  rw [h2]; rfl
/-- What join makes of such parts. -/
def glued (k : UInt8) (ys : List ByteArray) : List UInt8 × Int := if ∀ y ∈ ys, right y.data.toList = true then made (k :: cat ys) else ([], 1)
theorem glued_eq {k : UInt8} {ys : List ByteArray} (h : ∀ y ∈ ys, right y.data.toList = true) : glued k ys = made (k :: cat ys) := by unfold glued; rw [if_pos h]
theorem cat_len {ys : List ByteArray} (h : ∀ y ∈ ys, right y.data.toList = true) : (cat ys).length ≤ 4000 * ys.length := by
  induction ys with
  | nil => simp [cat]
  | cons y r ih =>
    have h1 := (right_len (h y (by simp))).2
    have h2 := ih (fun x hx => h x (by simp [hx]))
    have e : cat (y :: r) = y.data.toList ++ cat r := by simp [cat]
    rw [e, List.length_append, List.length_cons]
    omega
set_option maxHeartbeats 2000000 in
set_option maxRecDepth 1000000 in
theorem join_any (k : UInt8) (a : Option Addr) (c : Nat) (ys : List ByteArray) (w : World) (hr : SReads w a ys) (hN : ys.length ≤ 2) (hcap : ys.length ≤ c) :
    Calls Try.prog 47 #[.int .u8 (k.toNat : Int), .slice a ys.length c] w fun e w' => Sr (glued k ys) e ∧ Below w.heap.size w w' := by
  have HR := Lib.hid hr
  have q0 := nil_no
  have q1 := nil_yes
  clear hr
  go_enter Try.func47, Try.ntmps47
  go_wp2_with fail
  go_loopw [11] (fun i wr => ∃ n : Nat, n ≤ ys.length ∧ i = .int .i64 n ∧ Hid (∀ y ∈ ys.take n, right y.data.toList = true) ∧ Hid (Below w.heap.size w wr)) (fun i _ => ys.length - (intOf i).toNat)
  case atStart => exact ⟨0, Nat.zero_le _, rfl, by show ∀ y ∈ ys.take 0, _; simp, Below.refl _ _⟩
  case round =>
    obtain ⟨n, hn, rfl, HA, HW⟩ := hrel
    by_cases hlt : n < ys.length
    · obtain ⟨b, off, rfl, hblt, hcell⟩ := HR.out n hlt
      obtain ⟨y, hy⟩ : ∃ y, ys.getD n ByteArray.empty = y := ⟨_, rfl⟩
      rw [hy] at hcell
      rw [← HW.out.cell (p := ⟨b, off + n, none⟩) hblt] at hcell
      have HY := Lib.hid hy
      clear hy
      cases hry : right y.data.toList with
      | true =>
        have HRY := Lib.hid hry
        clear hry
        go_wp2_with (go_at_call 38; refine (whole_any y _).mono ?_; rintro e w1 ⟨ht, hb1⟩; obtain ⟨T, v, hsh, rfl⟩ := ht.pos HRY.out; have HB1 := Lib.hid (HW.out.trans (hb1.mono HW.out.size)); clear hb1 ht hsh)
        refine ⟨⟨n + 1, by omega, by go_num, ?_, HB1⟩, by simp [intOf]; omega⟩
        exact take_mem_step hlt HY.out HA.out HRY.out
      | false =>
        have HRY := Lib.hid hry
        clear hry
        go_wp2_with (go_at_call 38; refine (whole_any y _).mono ?_; rintro e w1 ⟨ht, hb1⟩; obtain rfl := ht.zero HRY.out; have HB1 := Lib.hid (HW.out.trans (hb1.mono HW.out.size)); clear hb1 ht)
        go_ret2
        have hg : glued k ys = ([], 1) := by
          unfold glued; rw [if_neg]; intro h
          have := h y (getD_mem hlt HY.out)
          rw [HRY.out] at this; cases this
        rw [hg]
        exact ⟨sr_nil _, HB1.out⟩
    · obtain rfl : n = ys.length := by omega
      have hall : ∀ y ∈ ys, right y.data.toList = true := by
        have h := HA.out
        rw [List.take_length] at h
        exact h
      have hlen := cat_len hall
      have HJ : Hid (∀ w', Below w.heap.size w w' → Calls Try.prog 62 #[.slice a ys.length c, .string ⟨#[]⟩] w' fun e w'' => St (cat ys) e ∧ Below w.heap.size w w'' ∧ Below w'.heap.size w' w'') := fun w' hb => (strJoin_any a c ys w' (HR.out.below hb (Nat.le_refl _)) (by omega) hcap (by omega)).mono fun e w'' ⟨h1, h2⟩ => ⟨h1, hb.trans (h2.mono hb.size), h2⟩
      have HALL := Lib.hid hall
      have HLEN := Lib.hid hlen
      obtain ⟨K, hK⟩ : ∃ K : ByteArray, (⟨#[k]⟩ : ByteArray) = K := ⟨_, rfl⟩
      have hK1 : K.data.toList = [k] := by rw [← hK]
      have hK2 : K.size = 1 := by rw [Lib.size_eq, hK1]; rfl
      have cv : ∀ (W : World) (A : Addr), W.cell? A = some (.int .u8 (k.toNat : Int)) → (convert 66 9 (.slice (some A) 1 1)).run Try.prog W = .ok (.string K) W := fun W A h => by
        have h2 := conv_one W A k.toNat (UInt8.toNat_lt k) h
        rw [show k.toNat.toUInt8 = k by simp, hK] at h2
        exact h2
      have HK := Lib.hid hK1
      have HK2 := Lib.hid hK2
      clear hall hlen HA hK hK1 hK2
      go_wp2_with fail
      go_region_with (go_at_call 62; refine (HJ.out _ ?_).mono ?_; (first | exact HW.out | exact bdrew1 HW.out | exact bdrew1 (HW.out.alloc HW.out.size _) | exact HW.out.alloc HW.out.size _); rintro e w1 ⟨⟨T, hT, rfl⟩, hb1, hb2⟩; (first | have hcc := kept_cell hb2 | skip); have hTz : T.size ≤ 8000 := (by rw [Lib.size_eq, hT]; exact Nat.le_trans HLEN.out (by omega)); have hbig : ¬ (9223372036854775807 < K.size + T.size) := (by rw [HK2.out]; omega); have HT := Lib.hid hT; have HB1 := Lib.hid hb1; clear hT hb1 hb2; dsimp only)
      all_goals go_wp2_with fail
      all_goals (
        obtain ⟨S, hS⟩ : ∃ S, K ++ T = S := ⟨_, rfl⟩
        have hSl : S.data.toList = k :: cat ys := by rw [← hS, app_data, HK.out, HT.out]; rfl
        have HS := Lib.hid hSl
        rw [hS]
        clear hS hSl
        cases hrs : right S.data.toList with
        | true =>
          have HRS := Lib.hid hrs
          clear hrs
          go_wp2_with (go_at_call 38; refine (whole_any S _).mono ?_; rintro e w2 ⟨ht, hb2⟩; obtain ⟨T2, v, hsh, rfl⟩ := ht.pos HRS.out; have HB2 : Hid (Below w.heap.size w w2) := (by first | exact HB1.out.trans (hb2.mono HB1.out.size) | exact after_alloc HB1.out hb2); clear hb2 ht hsh)
          go_ret2
          rw [glued_eq HALL.out, ← HS.out]
          unfold made
          rw [if_pos HRS.out]
          exact ⟨⟨S, rfl, rfl⟩, HB2.out⟩
        | false =>
          have HRS := Lib.hid hrs
          clear hrs
          go_wp2_with (go_at_call 38; refine (whole_any S _).mono ?_; rintro e w2 ⟨ht, hb2⟩; obtain rfl := ht.zero HRS.out; have HB2 : Hid (Below w.heap.size w w2) := (by first | exact HB1.out.trans (hb2.mono HB1.out.size) | exact after_alloc HB1.out hb2); clear hb2 ht)
          go_ret2
          rw [glued_eq HALL.out, ← HS.out]
          unfold made
          rw [if_neg (by rw [HRS.out]; decide)]
          exact ⟨sr_nil _, HB2.out⟩)
end Go.Proofs.Ytjoldkhfkobahaa.Term

/-
  CONTRACTS of the document's opens, Open, Unbox, Verify (letterlockref3) at this program. By an AI agent; no person has read it.
-/
namespace Go.Proofs.Ytjoldkhfkobahaa.Term
open Go.RowKit Wire

theorem u8_ne {b c : UInt8} (h : b ≠ c) : ((b.toNat : Int) != (c.toNat : Int)) = true := by
  rw [bne_iff_ne]; intro he; exact h (UInt8.toNat_inj.1 (by omega))
theorem u8_eq {b c : UInt8} (h : b = c) : ((b.toNat : Int) != (c.toNat : Int)) = false := by rw [h]; simp
theorem cuts_len : ∀ (k : Nat) (l : List UInt8), (cuts k l).length = k
  | 0, _ => rfl
  | k + 1, l => by simp only [cuts, List.length_cons, cuts_len k]

end Go.Proofs.Ytjoldkhfkobahaa.Term

/-
  CONTRACTS of the code's OfPair, OfHash, Seal, OfPublic, Box, Sign, OfAtom, OfText, Unbox, Verify (package term). By an AI agent; no person has read it.
-/
namespace Go.Proofs.Ytjoldkhfkobahaa.Term
open Go.RowKit Wire

theorem glued_two (k : UInt8) (a b : ByteArray) : glued k [a, b] = two k a.data.toList b.data.toList := by
  unfold glued two
  have e : cat [a, b] = a.data.toList ++ b.data.toList := by simp [cat]
  rw [e]
  simp
theorem glued_one (k : UInt8) (a : ByteArray) : glued k [a] = one k a.data.toList := by
  unfold glued one
  have e : cat [a] = a.data.toList := by simp [cat]
  rw [e]
  simp
theorem join_two (k : UInt8) (W w : World) (a b : ByteArray) (g : Nat) (hg : g = W.heap.size) (hb : Below w.heap.size w W) :
    Calls Try.prog 47 #[.int .u8 (k.toNat : Int), .slice (some ⟨g, 0, none⟩) 2 2] (W.alloc (.cells #[.string a, .string b] 9)) fun e w' => Sr (two k a.data.toList b.data.toList) e ∧ Below w.heap.size w w' := by
  refine (join_any k (some ⟨g, 0, none⟩) 2 [a, b] _ (pair_reads' W a b g hg) (Nat.le_refl _) (Nat.le_refl _)).mono fun e w' ⟨h1, h2⟩ => ⟨by rw [← glued_two]; exact h1, after_alloc hb h2⟩
theorem join_one (k : UInt8) (W w : World) (a : ByteArray) (g : Nat) (hg : g = W.heap.size) (hb : Below w.heap.size w W) :
    Calls Try.prog 47 #[.int .u8 (k.toNat : Int), .slice (some ⟨g, 0, none⟩) 1 1] (W.alloc (.cells #[.string a] 9)) fun e w' => Sr (one k a.data.toList) e ∧ Below w.heap.size w w' := by
  refine (join_any k (some ⟨g, 0, none⟩) 1 [a] _ (one_reads W a g hg) (by simp) (Nat.le_refl _)).mono fun e w' ⟨h1, h2⟩ => ⟨by rw [← glued_one]; exact h1, after_alloc hb h2⟩
set_option maxHeartbeats 1000000 in
theorem t_OfPair (a b : ByteArray) (w : World) (_ : a.size ≤ 140737488355328) (_ : b.size ≤ 140737488355328) :
    Calls Try.prog 31 #[.string a, .string b] w fun e w' => Sr (two 112 a.data.toList b.data.toList) e ∧ Below w.heap.size w w' := by
  have HC := Lib.hid (join_two 112 w w a b w.heap.size rfl (Below.refl _ _))
  obtain ⟨x, f, hx⟩ : ∃ x f, two 112 a.data.toList b.data.toList = (x, f) := ⟨_, _, rfl⟩
  rw [hx] at HC ⊢
  clear hx
  go_enter Try.func31, Try.ntmps31
  go_wp2_with (go_at_call 47; refine HC.out.mono ?_; rintro e w1 ⟨⟨T, hT, rfl⟩, hb1⟩; have HB1 := Lib.hid hb1; have HT := Lib.hid hT; clear hb1 hT; dsimp only)
  go_ret2
  exact ⟨⟨T, HT.out, rfl⟩, HB1.out⟩
set_option maxHeartbeats 1000000 in
theorem t_OfHash (a : ByteArray) (w : World) (_ : a.size ≤ 140737488355328) :
    Calls Try.prog 29 #[.string a] w fun e w' => Sr (one 104 a.data.toList) e ∧ Below w.heap.size w w' := by
  have HC := Lib.hid (join_one 104 w w a w.heap.size rfl (Below.refl _ _))
  obtain ⟨x, f, hx⟩ : ∃ x f, one 104 a.data.toList = (x, f) := ⟨_, _, rfl⟩
  rw [hx] at HC ⊢
  clear hx
  go_enter Try.func29, Try.ntmps29
  go_wp2_with (go_at_call 47; refine HC.out.mono ?_; rintro e w1 ⟨⟨T, hT, rfl⟩, hb1⟩; have HB1 := Lib.hid hb1; have HT := Lib.hid hT; clear hb1 hT; dsimp only)
  go_ret2
  exact ⟨⟨T, HT.out, rfl⟩, HB1.out⟩
set_option maxHeartbeats 1000000 in
theorem t_OfAtom (n : Nat) (w : World) (hn : n < 18446744073709551616) :
    Calls Try.prog 19 #[.int .u64 n] w fun e w' => St (ofAtom n) e ∧ Below w.heap.size w w' := by
  have HN := Lib.hid hn
  clear hn
  go_enter Try.func19, Try.ntmps19
  go_wp2_with (go_at_call 33; refine (put_any n _ HN.out).mono ?_; rintro e w1 ⟨⟨T, hT, rfl⟩, hb1⟩; have hz : T.size ≤ 9 := (put_size hT HN.out); have HB1 := Lib.hid hb1; have HT := Lib.hid hT; clear hb1 hT)
  go_ret
  exact ⟨⟨_, by rw [app_data, HT.out]; rfl, rfl⟩, HB1.out⟩
set_option maxHeartbeats 1000000 in
theorem t_OfText (a : ByteArray) (w : World) (_ : a.size ≤ 140737488355000) :
    Calls Try.prog 30 #[.string a] w fun e w' => Sr (ofText a.data.toList) e ∧ Below w.heap.size w w' := by
  have q0 := nil_no
  have q1 := nil_yes
  by_cases hl : (a.size : Int) ≤ 4000
  · go_enter Try.func30, Try.ntmps30
    go_wp2_with fail
    refine (putText_any a _ (by omega)).mono ?_
    rintro e w1 ⟨⟨P, hP, rfl⟩, hb1⟩
    have HB1 := Lib.hid hb1
    have hPz : P.size ≤ 5000 := by
      have h1 := (put_le (n := a.data.toList.length) (by rw [← Lib.size_eq]; omega)).2
      have h2 := Lib.size_eq a
      rw [Lib.size_eq, hP, putText_len]; omega
    have htp : ((ByteArray.mk #[116]) ++ P).data.toList = 116 :: putText a.data.toList := by rw [app_data, hP]; rfl
    have HTP := Lib.hid htp
    clear hb1 hP htp
    go_wp2_with fail
    obtain ⟨S, hS⟩ : ∃ S, (ByteArray.mk #[116]) ++ P = S := ⟨_, rfl⟩
    rw [hS] at HTP ⊢
    clear hS
    have e : ofText a.data.toList = made S.data.toList := by unfold ofText; rw [HTP.out]
    have HE := Lib.hid e
    clear e
    refine (whole_any S _).mono ?_
    rintro e w2 ⟨ht, hb2⟩
    have HB2 := Lib.hid (HB1.out.trans (hb2.mono HB1.out.size))
    cases hrs : right S.data.toList with
    | true =>
      obtain ⟨T2, v, hsh, rfl⟩ := ht.pos hrs
      have HRS := Lib.hid hrs
      clear hrs ht hb2 hsh
      dsimp only
      go_wp2
      go_ret2
      rw [HE.out]
      unfold made
      rw [if_pos HRS.out]
      exact ⟨⟨S, rfl, rfl⟩, HB2.out⟩
    | false =>
      obtain rfl := ht.zero hrs
      have HRS := Lib.hid hrs
      clear hrs ht hb2
      dsimp only
      go_wp2
      go_ret2
      rw [HE.out]
      unfold made
      rw [if_neg (by rw [HRS.out]; decide)]
      exact ⟨sr_nil _, HB2.out⟩
  · have hm : ofText a.data.toList = ([], 10) := by
      unfold ofText made
      rw [if_neg]
      intro h
      have h1 := (right_len h).2
      rw [List.length_cons, putText_len, ← Lib.size_eq] at h1
      omega
    rw [hm]
    clear hm
    go_enter Try.func30, Try.ntmps30
    go_wp2_with fail
    go_ret2
    exact ⟨sr_nil _, Below.refl _ _⟩
theorem unbox_wrong {key c : List UInt8} (h : right key = false ∨ right c = false) : unbox key c = ([], 1) := by
  unfold unbox; rw [if_neg]; rintro ⟨h1, h2⟩
  rcases h with h | h
  · rw [h1] at h; cases h
  · rw [h2] at h; cases h
theorem unbox_eq {key c : List UInt8} (h : right key = true) (h2 : right c = true) : unbox key c = opens 98 (117 :: key) c := by unfold unbox; rw [if_pos ⟨h, h2⟩]
end Go.Proofs.Ytjoldkhfkobahaa.Term
