/-
  One text of several, in their order: FPure, FFacts, FSpoil, FMem. By an AI agent; no person has read it.
-/
import Derived.Test.YtmmeklemaofmjaaGreatP6
import Derived.Test.YtmmeklemaofmjaaGreatP3
/-
  PLAIN FACTS, OF NO PROGRAM: stamps (layer 11): what is signed, what is built, a stamp's bytes, what bytes are, whether one checks, what one covers. By an AI agent; no person has read it.
-/
namespace Go.Proofs.YtmmeklemaofmjaaGreat.Frs
open Wire Term Draw Reg Clo

set_option linter.unusedVariables false
abbrev Tm := List UInt8
/-- A stamp. -/
structure Sp where
  own : Tm
  time : Nat
  many : Int
  root : Tm
  sig : Tm
def szero : Sp := ⟨[], 0, 0, [], []⟩
def SR (s : Sp) : Prop := Txt.right s.own = true ∧ (0 ≤ s.many ∧ s.many ≤ 8) ∧ right s.root = true ∧ kind s.sig = 103
instance (s : Sp) : Decidable (SR s) := by unfold SR; infer_instance
/-- What is signed of a stamp. -/
def signedS (o : Tm) (t n : Nat) (r : Tm) : Tm × Int :=
  if (two 112 (ofAtom n) r).2 ≠ 0 then ([], (two 112 (ofAtom n) r).2) else
  if (two 112 (ofAtom t) (two 112 (ofAtom n) r).1).2 ≠ 0 then ([], (two 112 (ofAtom t) (two 112 (ofAtom n) r).1).2) else
  two 112 (ofText o).1 (two 112 (ofAtom t) (two 112 (ofAtom n) r).1).1
def signedT (o : Tm) (t n : Nat) (r : Tm) : Tm := 112 :: (Dta.txtT o ++ 112 :: (ofAtom t ++ 112 :: (ofAtom n ++ r)))
def rootS (l : List Tm) : Tm × Int := if l = [] then ofText [] else Tre.root l
def buildS (sk o : Tm) (t : Nat) (l : List Tm) : Sp × Int :=
  if ¬ (right sk = true ∧ Txt.right o = true) then (szero, 1) else
  if (rootS l).2 ≠ 0 then (szero, (rootS l).2) else
  if (signedS o t l.length (rootS l).1).2 ≠ 0 then (szero, (signedS o t l.length (rootS l).1).2) else
  if (two 103 sk (signedS o t l.length (rootS l).1).1).2 ≠ 0 then (szero, (two 103 sk (signedS o t l.length (rootS l).1).1).2) else
  (⟨o, t, l.length, (rootS l).1, (two 103 sk (signedS o t l.length (rootS l).1).1).1⟩, 0)
def rowS (s : Sp) : Tm := putAll [s.own, put s.time, put s.many.toNat, s.root, s.sig]
def putS (s : Sp) : Tm × Int := if SR s then (rowS s, 0) else ([], 1)
def stampOf (l : List Tm) : Sp := ⟨l.getD 0 [], (tk (l.getD 1 [])).1, ((tk (l.getD 2 [])).1 : Int), l.getD 3 [], l.getD 4 []⟩
def rowOK (l : List Tm) : Prop := ((tk (l.getD 1 [])).2.2 = 0 ∧ (tk (l.getD 1 [])).2.1 = []) ∧ ((tk (l.getD 2 [])).2.2 = 0 ∧ (tk (l.getD 2 [])).2.1 = []) ∧ (tk (l.getD 2 [])).1 ≤ 8
instance (l : List Tm) : Decidable (rowOK l) := by unfold rowOK; infer_instance
/-- What bytes are, texts of up to m bytes. -/
def takeM (m : Int) (b : Tm) : Sp × Int :=
  if (all b 5 m).2 ≠ 0 ∨ (all b 5 m).1.length ≠ 5 then (szero, 2)
  else if ¬ (rowOK (all b 5 m).1 ∧ SR (stampOf (all b 5 m).1)) then (szero, 2) else (stampOf (all b 5 m).1, 0)
def takeS (b : Tm) : Sp × Int := takeM 4000 b
def checkS (s : Sp) (p o : Tm) (now bound : Nat) : Int :=
  if ¬ SR s ∨ kind p ≠ 117 then 1 else
  if (signedS s.own s.time s.many.toNat s.root).2 ≠ 0 ∨ verify p (signedS s.own s.time s.many.toNat s.root).1 s.sig ≠ 0 then 7 else
  if s.own ≠ o then 3 else
  if now < s.time ∨ bound < now - s.time then 8 else 0
def coversS (s : Sp) (i : Int) (t : Tm) (p : List Tm) : Bool := decide (SR s) && Tre.verifyT s.root s.many i t p

/-! ### names, numbers -/
theorem own_len {s : Sp} (h : SR s) : s.own.length ≤ 128 := (Txt.right_len h.1).2
theorem ofText_own {o : Tm} (h : Txt.right o = true) : ofText o = (Dta.txtT o, 0) := Dta.ofText_txt (by have := (Txt.right_len h).2; omega)
theorem nat_put {n : Nat} (h : n < 18446744073709551616) : (put n).length ≤ 9 ∧ tk (put n) = (n, [], 0) := by
  refine ⟨(put_le h).2, ?_⟩
  have := take_put h []
  rw [List.append_nil] at this
  exact tk_some this

/-! ### what is signed -/
theorem ofAtom_inj {a b : Nat} (ha : a < 18446744073709551616) (hb : b < 18446744073709551616) {r q : Tm} (h : ofAtom a ++ r = ofAtom b ++ q) : a = b ∧ r = q := put_inj ha hb (List.cons.inj h).2
theorem signed_ok {o r : Tm} {t n : Nat} (ho : Txt.right o = true) (h : (signedS o t n r).2 = 0) : (signedS o t n r).1 = signedT o t n r ∧ right (signedT o t n r) = true := by
  unfold signedS at h ⊢
  by_cases h1 : (two 112 (ofAtom n) r).2 = 0
  · rw [if_neg (fun e => e h1)] at h ⊢
    by_cases h2 : (two 112 (ofAtom t) (two 112 (ofAtom n) r).1).2 = 0
    · rw [if_neg (fun e => e h2)] at h ⊢
      obtain ⟨g1, g2, _, _⟩ := Dta.two_ok h
      have e1 := (Dta.two_ok h1).2.1
      have e2 := (Dta.two_ok h2).2.1
      rw [ofText_own ho] at g1 g2 ⊢
      have e3 : (two 112 (Dta.txtT o, (0 : Int)).1 (two 112 (ofAtom t) (two 112 (ofAtom n) r).1).1).1 = signedT o t n r := by
        rw [g2, e2, e1]; rfl
      rw [e3] at g1
      exact ⟨e3, g1⟩
    · rw [if_pos h2] at h; exact absurd h h2
  · rw [if_pos h1] at h; exact absurd h h1
/-- What is signed tells all four. -/
theorem signed_inj {o o' r r' : Tm} {t t' n n' : Nat} (ho : o.length ≤ 3000) (ho' : o'.length ≤ 3000) (ht : t < 18446744073709551616) (ht' : t' < 18446744073709551616) (hn : n < 18446744073709551616) (hn' : n' < 18446744073709551616) (h : signedT o t n r = signedT o' t' n' r') : o = o' ∧ t = t' ∧ n = n' ∧ r = r' := by
  have h1 := (List.cons.inj h).2
  obtain ⟨e1, e2⟩ := right_cut (Dta.txtT_right ho) (Dta.txtT_right ho') h1
  have e3 : putText o = putText o' := (List.cons.inj e1).2
  have e4 := (put_inj (r := o) (q := o') (by omega) (by omega) e3).2
  obtain ⟨e5, e6⟩ := ofAtom_inj ht ht' (List.cons.inj e2).2
  obtain ⟨e7, e8⟩ := ofAtom_inj hn hn' (List.cons.inj e6).2
  exact ⟨e4, e5, e7, e8⟩

/-! ### bytes -/
theorem all_five {l : List Tm} {m : Nat} (h3 : l.length = 5) (hm : m < 18446744073709551616) (h : ∀ t ∈ l, t.length ≤ m) : all (putAll l) 5 (m : Int) = (l, 0) := by
  have e1 : take (putAll l) = some (l.length, l.flatMap putText) := take_put (by omega) _
  refine all_ok e1 (by rw [h3]; omega) ?_
  have := texts_put l [] (m : Int) [] (fun t ht => ⟨Nat.lt_of_le_of_lt (h t ht) hm, by have := h t ht; omega⟩)
  rw [List.append_nil] at this
  exact this
theorem sig_right {s : Sp} (h : SR s) : right s.sig = true ∧ s.sig.headD 0 = 103 := by
  obtain ⟨h1, h2⟩ := Dta.kind_is h.2.2.2 (by decide)
  exact ⟨h1, Dta.head_u8 h2⟩
theorem stampOf_row {s : Sp} (h : SR s) (ht : s.time < 18446744073709551616) : rowOK [s.own, put s.time, put s.many.toNat, s.root, s.sig] ∧ stampOf [s.own, put s.time, put s.many.toNat, s.root, s.sig] = s := by
  have h1 := (nat_put ht).2
  have h2 := (nat_put (n := s.many.toNat) (by have := h.2.1; omega)).2
  have e1 : ([s.own, put s.time, put s.many.toNat, s.root, s.sig] : List Tm).getD 1 [] = put s.time := rfl
  have e2 : ([s.own, put s.time, put s.many.toNat, s.root, s.sig] : List Tm).getD 2 [] = put s.many.toNat := rfl
  refine ⟨?_, ?_⟩
  · unfold rowOK
    rw [e1, e2, h1, h2]
    exact ⟨⟨rfl, rfl⟩, ⟨rfl, rfl⟩, by have := h.2.1; show s.many.toNat ≤ 8; omega⟩
  · unfold stampOf
    rw [e1, e2, h1, h2]
    show (⟨s.own, s.time, (s.many.toNat : Int), s.root, s.sig⟩ : Sp) = s
    rw [show (s.many.toNat : Int) = s.many by have := h.2.1; omega]
theorem takeM_put {s : Sp} (h : SR s) (ht : s.time < 18446744073709551616) {m : Nat} (hm : m < 18446744073709551616) (hl : ∀ t ∈ [s.own, put s.time, put s.many.toNat, s.root, s.sig], t.length ≤ m) : takeM (m : Int) (rowS s) = (s, 0) := by
  have e1 : all (rowS s) 5 (m : Int) = ([s.own, put s.time, put s.many.toNat, s.root, s.sig], 0) := all_five rfl hm hl
  obtain ⟨h3, h4⟩ := stampOf_row h ht
  unfold takeM
  rw [e1, if_neg (by rintro (h5 | h5); exact h5 rfl; exact h5 rfl), if_neg (by rw [h4]; exact fun h5 => h5 ⟨h3, h⟩), h4]
theorem takeS_put {s : Sp} (h : SR s) (ht : s.time < 18446744073709551616) : takeS (rowS s) = (s, 0) := by
  refine takeM_put (m := 4000) h ht (by omega) fun t ht' => ?_
  have h1 := own_len h
  have h2 := (nat_put ht).1
  have h3 := (nat_put (n := s.many.toNat) (by have := h.2.1; omega)).1
  have h4 := (right_len h.2.2.1).2
  have h5 := (right_len (sig_right h).1).2
  simp only [List.mem_cons, List.not_mem_nil, or_false] at ht'
  rcases ht' with rfl | rfl | rfl | rfl | rfl <;> omega
theorem takeM_err {m : Int} {b : Tm} : (takeM m b).2 = 0 ∨ takeM m b = (szero, 2) := by
  unfold takeM
  split
  · exact .inr rfl
  · split
    · exact .inr rfl
    · exact .inl rfl
theorem takeM_back {m : Int} {b : Tm} {s : Sp} (h : takeM m b = (s, 0)) : SR s ∧ b = rowS s ∧ s.time < 18446744073709551616 := by
  unfold takeM at h
  split at h
  · cases h
  · rename_i h1
    have h1' : (all b 5 m).2 = 0 ∧ (all b 5 m).1.length = 5 := ⟨Decidable.not_not.1 fun h => h1 (.inl h), Decidable.not_not.1 fun h => h1 (.inr h)⟩
    split at h
    · cases h
    · rename_i h2
      obtain ⟨h3, h4⟩ := Classical.not_not.1 h2
      have hb : stampOf (all b 5 m).1 = s := (Prod.mk.inj h).1
      rw [hb] at h4
      have h5 : b = putAll (all b 5 m).1 := ((all_back (l := b) (a := 5) (b := m) (x := (all b 5 m).1) (e := (all b 5 m).2) rfl).1 h1'.1).1
      obtain ⟨x0, x1, x2, x3, x4, hx⟩ : ∃ x0 x1 x2 x3 x4, (all b 5 m).1 = [x0, x1, x2, x3, x4] := by
        match hh : (all b 5 m).1, h1'.2 with
        | [x0, x1, x2, x3, x4], _ => exact ⟨x0, x1, x2, x3, x4, rfl⟩
      rw [hx] at h3 h5 hb
      unfold rowOK at h3
      have e1 : ([x0, x1, x2, x3, x4] : List Tm).getD 1 [] = x1 := rfl
      have e2 : ([x0, x1, x2, x3, x4] : List Tm).getD 2 [] = x2 := rfl
      rw [e1, e2] at h3
      have num : ∀ {x : Tm}, (tk x).2.2 = 0 ∧ (tk x).2.1 = [] → x = put (tk x).1 ∧ (tk x).1 < 18446744073709551616 := fun {x} hh => by
        cases ht : take x with
        | none => rw [tk_none ht] at hh; exact absurd hh.1 (by decide)
        | some p =>
          obtain ⟨n, r⟩ := p
          rw [tk_some ht] at hh ⊢
          have h6 := take_some ht
          have hr : r = [] := hh.2
          subst hr
          rw [List.append_nil] at h6
          exact ⟨h6.1, h6.2⟩
      obtain ⟨n1, n2⟩ := num h3.1
      obtain ⟨m1, m2⟩ := num h3.2.1
      unfold stampOf at hb
      rw [e1, e2] at hb
      subst hb
      refine ⟨h4, ?_, n2⟩
      rw [h5]
      unfold rowS
      show putAll [x0, x1, x2, x3, x4] = putAll [x0, put (tk x1).1, put (((tk x2).1 : Int)).toNat, x3, x4]
      rw [show (((tk x2).1 : Int)).toNat = (tk x2).1 by omega, ← n1, ← m1]
end Go.Proofs.YtmmeklemaofmjaaGreat.Frs

/-
  PLAIN FACTS, OF NO PROGRAM: stamps that a user builds of rows of small leaves; which public term they check with. By an AI agent; no person has read it.
-/
namespace Go.Proofs.YtmmeklemaofmjaaGreat.Frs
open Wire Term Draw Reg Clo

set_option linter.unusedVariables false
def userT : Tm := [117, 115, 101, 114]
def secU (who : Tm) : Tm := sech userT who 1
def pubU (who : Tm) : Tm := 117 :: secU who
theorem secU_sz {who : Tm} (h : who.length ≤ 12) : Sz 3 (secU who) ∧ (secU who).length ≤ 50 := by
  have hl : (userT ++ 58 :: who).length = who.length + 5 := by rw [List.length_append, List.length_cons]; show 4 + _ = _; omega
  have h1 : Sz 1 (txt userT who) := sz_txt 0 (by rw [hl]; omega)
  have h2 : Sz 1 (ofAtom 1) := sz_atom 0 (by decide)
  refine ⟨sz_one (.inl rfl) (sz_pair h1 h2), ?_⟩
  have h3 := (put_le (n := 1) (by decide)).2
  have h4 := (put_le (n := (userT ++ 58 :: who).length) (by omega)).2
  unfold secU sech prs ofAtom txt
  simp only [List.length_cons, List.length_append, putText_len] at hl h4 ⊢
  omega
theorem secU_right {who : Tm} (h : who.length ≤ 12) : right (secU who) = true := sz_right (secU_sz h).1 (by omega) (by have := (secU_sz h).2; omega)
theorem pubU_right {who : Tm} (h : who.length ≤ 12) : right (pubU who) = true := sz_right (d := 4) (sz_one (.inr rfl) (secU_sz h).1) (by omega) (by have := (secU_sz h).2; unfold pubU; rw [List.length_cons]; omega)
theorem pubU_kind {who : Tm} (h : who.length ≤ 12) : kind (pubU who) = 117 := by rw [kind_right (pubU_right h)]; rfl
theorem secU_kind {who : Tm} (h : who.length ≤ 12) : kind (secU who) = 104 := by rw [kind_right (secU_right h)]; rfl
theorem secU_is {who : Tm} (h : who.length ≤ 12) : secret userT who 1 = (secU who, 0) := by
  obtain ⟨h1, h2, h3, _⟩ := secret_small (use := userT) (who := who) (n := 1) (by show 4 + who.length ≤ 1000; omega) (by decide)
  exact secret_ok (by decide) h1 h2 h3
theorem pubU_is {who : Tm} (h : who.length ≤ 12) : one 117 (secU who) = (pubU who, 0) := by
  unfold one
  rw [if_pos (secU_right h)]
  exact made_yes (pubU_right h)
theorem secU_inj {a b : Tm} (ha : a.length ≤ 12) (hb : b.length ≤ 12) (h : secU a = secU b) : a = b := by
  obtain ⟨h1, _⟩ := secret_small (use := userT) (who := a) (n := 1) (by show 4 + a.length ≤ 1000; omega) (by decide)
  obtain ⟨h2, _⟩ := secret_small (use := userT) (who := b) (n := 1) (by show 4 + b.length ≤ 1000; omega) (by decide)
  exact (sech_inj (by decide) (by decide) h1 h2 (by decide) (by decide) (by rw [List.length_append, List.length_cons]; show 4 + (a.length + 1) < _; omega) (by rw [List.length_append, List.length_cons]; show 4 + (b.length + 1) < _; omega) h).2.1
theorem atom_right {k : Nat} (hk : k < 18446744073709551616) : right (ofAtom k) = true := sz_right (sz_atom 0 hk) (by omega) (by unfold ofAtom; have := (put_le hk).2; rw [List.length_cons]; omega)
/-- What is signed of a right stamp can be signed. -/
theorem signed_of {o r : Tm} {t n : Nat} (ho : Txt.right o = true) (ht : t < 18446744073709551616) (hn : n < 18446744073709551616) (h : right (signedT o t n r) = true) : signedS o t n r = (signedT o t n r, 0) ∧ right r = true := by
  have ho3 : o.length ≤ 3000 := by have := (Txt.right_len ho).2; omega
  obtain ⟨y, z, e1, _, e3, e4, _⟩ := pts_two h (.inl rfl)
  obtain ⟨f1, f2⟩ := right_cut (Dta.txtT_right ho3) e3 e1
  rw [← f2] at e4
  obtain ⟨y2, z2, g1, _, g3, g4, _⟩ := pts_two e4 (.inl rfl)
  obtain ⟨_, f4⟩ := right_cut (atom_right ht) g3 g1
  rw [← f4] at g4
  obtain ⟨y3, z3, h1, _, h3, h4, _⟩ := pts_two g4 (.inl rfl)
  obtain ⟨_, f6⟩ := right_cut (atom_right hn) h3 h1
  rw [← f6] at h4
  have a1 : two 112 (ofAtom n) r = (112 :: (ofAtom n ++ r), 0) := by
    unfold two; rw [if_pos ⟨atom_right hn, h4⟩]; exact made_yes g4
  have a2 : two 112 (ofAtom t) (112 :: (ofAtom n ++ r)) = (112 :: (ofAtom t ++ 112 :: (ofAtom n ++ r)), 0) := by
    unfold two; rw [if_pos ⟨atom_right ht, g4⟩]; exact made_yes e4
  refine ⟨?_, h4⟩
  unfold signedS
  rw [a1, if_neg (fun h => h rfl), a2, if_neg (fun h => h rfl), ofText_own ho]
  show two 112 (Dta.txtT o) (112 :: (ofAtom t ++ 112 :: (ofAtom n ++ r))) = _
  unfold two
  rw [if_pos ⟨Dta.txtT_right ho3, e4⟩]
  exact made_yes h
theorem verify_is {p a s : Tm} (hp : right p = true) (hk : p.headD 0 = 117) (ha : right a = true) (hs : right s = true) : verify p a s = if s = 103 :: (p.tail ++ a) then 0 else 7 := by
  unfold verify
  rw [if_pos ⟨hp, ha, hs⟩]
  by_cases h : s = 103 :: (p.tail ++ a)
  · rw [if_pos ⟨hk, h⟩, if_pos h]
  · rw [if_neg (fun h2 => h h2.2), if_neg h]
/-- The signature of user u under what is signed of a stamp. -/
def sgT (u o : Tm) (t n : Nat) (r : Tm) : Tm := 103 :: (secU u ++ signedT o t n r)
/-- With a user's public term: what a right stamp's check says. -/
theorem checkU {s : Sp} (h : SR s) (ht : s.time < 18446744073709551616) {u o : Tm} (hu : u.length ≤ 12) {now bound : Nat} :
    checkS s (pubU u) o now bound = if s.sig = sgT u s.own s.time s.many.toNat s.root then (if s.own ≠ o then 3 else if now < s.time ∨ bound < now - s.time then 8 else 0) else 7 := by
  have hn : s.many.toNat < 18446744073709551616 := by have := h.2.1; omega
  unfold checkS
  rw [if_neg (by rintro (h1 | h1); exact h1 h; exact h1 (pubU_kind hu))]
  by_cases hg : s.sig = sgT u s.own s.time s.many.toNat s.root
  · have hr := (sig_right h).1
    rw [hg] at hr
    obtain ⟨y, z, e1, _, e3, e4, _⟩ := pts_two hr (.inr (.inr (.inr rfl)))
    obtain ⟨_, f2⟩ := right_cut (secU_right hu) e3 e1
    rw [← f2] at e4
    obtain ⟨g1, _⟩ := signed_of h.1 ht hn e4
    rw [g1, verify_is (pubU_right hu) rfl e4 (sig_right h).1, if_pos hg]
    rw [if_pos (show s.sig = 103 :: ((pubU u).tail ++ (signedT s.own s.time s.many.toNat s.root, (0 : Int)).1) from hg), if_neg (by rintro (h1 | h1); exact h1 rfl; exact h1 rfl)]
  · rw [if_neg hg]
    by_cases h1 : (signedS s.own s.time s.many.toNat s.root).2 = 0
    · obtain ⟨g1, g2⟩ := signed_ok h.1 h1
      rw [g1, verify_is (pubU_right hu) rfl g2 (sig_right h).1, if_neg (show ¬ s.sig = 103 :: ((pubU u).tail ++ signedT s.own s.time s.many.toNat s.root) from hg), if_pos (.inr (by decide))]
    · rw [if_pos (.inl h1)]
theorem check_wrong {s : Sp} {p o : Tm} {now bound : Nat} (h : kind p ≠ 117) : checkS s p o now bound = 1 := by
  unfold checkS; rw [if_pos (.inr h)]
theorem check_bad {s : Sp} {p o : Tm} {now bound : Nat} (h : ¬ SR s) : checkS s p o now bound = 1 := by
  unfold checkS; rw [if_pos (.inl h)]

/-! ### rows of small leaves -/
abbrev Smalls (l : List Tm) : Prop := ∀ t ∈ l, (Sz 2 t ∧ t.length ≤ 121) ∧ Tre.isLeaf t = true
theorem rootS_small {l : List Tm} (h8 : l.length ≤ 8) (hl : Smalls l) : ∃ x, rootS l = (x, 0) ∧ Sz 9 x ∧ x.length ≤ 1000 := by
  unfold rootS
  by_cases h0 : l = []
  · rw [if_pos h0]
    have h := Dta.txtT_sz 8 (s := []) (by decide)
    exact ⟨Dta.txtT [], Dta.ofText_txt (by decide), h.1, Nat.le_trans h.2 (by decide)⟩
  · rw [if_neg h0]
    have h1 : 1 ≤ l.length := by cases l with
      | nil => exact absurd rfl h0
      | cons a t => rw [List.length_cons]; omega
    obtain ⟨x, e, s, hlen⟩ := Tre.tree_small (d := 3) (by omega) h1 h8 (fun t h => (hl t h).1)
    refine ⟨x, ?_, s, by omega⟩
    unfold Tre.root
    rw [if_neg (by omega), if_neg (fun h => h (fun t h => (hl t h).2))]
    exact e
theorem signedT_sz {o r : Tm} {t n : Nat} (ho : o.length ≤ 128) (ht : t < 18446744073709551616) (hn : n < 18446744073709551616) (hr : Sz 9 r) (hl : r.length ≤ 1000) : Sz 12 (signedT o t n r) ∧ (signedT o t n r).length ≤ 1200 := by
  have h1 := Dta.txtT_sz 10 (s := o) (by omega)
  refine ⟨sz_pair h1.1 (sz_pair (sz_atom 9 ht) (sz_pair (sz_atom 8 hn) hr)), ?_⟩
  have h2 := (put_le ht).2
  have h3 := (put_le hn).2
  have h4 := h1.2
  unfold signedT ofAtom
  simp only [List.length_cons, List.length_append]
  omega
theorem sgT_right {u o r : Tm} {t n : Nat} (hu : u.length ≤ 12) (ho : o.length ≤ 128) (ht : t < 18446744073709551616) (hn : n < 18446744073709551616) (hr : Sz 9 r) (hl : r.length ≤ 1000) : right (signedT o t n r) = true ∧ right (sgT u o t n r) = true ∧ kind (sgT u o t n r) = 103 := by
  obtain ⟨h1, h2⟩ := signedT_sz ho ht hn hr hl
  have h3 := secU_sz hu
  have h4 : Sz 13 (sgT u o t n r) := Dta.sz_two (.inr (.inl rfl)) (sz_up h3.1 (by omega)) h1
  have h5 : right (sgT u o t n r) = true := sz_right h4 (by omega) (by unfold sgT; rw [List.length_cons, List.length_append]; omega)
  exact ⟨sz_right h1 (by omega) (by omega), h5, by rw [kind_right h5]; rfl⟩
/-- What a user builds of a row of small leaves. -/
theorem build_row {o : Tm} (ho : Txt.right o = true) (hl : o.length ≤ 12) {t : Nat} (ht : t < 18446744073709551616) {l : List Tm} (h8 : l.length ≤ 8) (hs : Smalls l) :
    ∃ x, rootS l = (x, 0) ∧ right x = true ∧ buildS (secU o) o t l = (⟨o, t, l.length, x, sgT o o t l.length x⟩, 0) ∧ SR ⟨o, t, l.length, x, sgT o o t l.length x⟩ := by
  obtain ⟨x, e, s, hx⟩ := rootS_small h8 hs
  obtain ⟨g1, g2, g3⟩ := sgT_right (u := o) (o := o) (t := t) (n := l.length) hl (by omega) ht (by omega) s hx
  have hxr : right x = true := sz_right s (by omega) (by omega)
  refine ⟨x, e, hxr, ?_, ho, ⟨by simp, by simp only; omega⟩, hxr, g3⟩
  unfold buildS
  have e2 : two 103 (secU o) (signedT o t l.length x) = (sgT o o t l.length x, 0) := by
    unfold two; rw [if_pos ⟨secU_right hl, g1⟩]; exact made_yes g2
  rw [if_neg (fun h => h ⟨secU_right hl, ho⟩), e, if_neg (fun h => h rfl), (signed_of ho ht (by omega) g1).1, if_neg (fun h => h rfl), e2, if_neg (fun h => h rfl)]
/-- One signature is of one user, and says one thing. -/
theorem sgT_inj {u u' o o' r r' : Tm} {t t' n n' : Nat} (hu : u.length ≤ 12) (hu' : u'.length ≤ 12) (ho : o.length ≤ 3000) (ho' : o'.length ≤ 3000) (ht : t < 18446744073709551616) (ht' : t' < 18446744073709551616) (hn : n < 18446744073709551616) (hn' : n' < 18446744073709551616) (h : sgT u o t n r = sgT u' o' t' n' r') : u = u' ∧ o = o' ∧ t = t' ∧ n = n' ∧ r = r' := by
  obtain ⟨e1, e2⟩ := right_cut (secU_right hu) (secU_right hu') (List.cons.inj h).2
  exact ⟨secU_inj hu hu' e1, signed_inj ho ho' ht ht' hn hn' e2⟩
end Go.Proofs.YtmmeklemaofmjaaGreat.Frs

/-
  PLAIN FACTS, OF NO PROGRAM: a stamp's bytes with one byte changed are no stamp's that checks; what a stamp of mixed parts checks to. By an AI agent; no person has read it.
-/
namespace Go.Proofs.YtmmeklemaofmjaaGreat.Frs
open Wire Term Draw Reg Clo

set_option linter.unusedVariables false
/-- Of one length, and different at one place at most. -/
def Near (a b : Tm) : Prop := a.length = b.length ∧ ∃ k : Nat, ∀ i : Nat, i ≠ k → a[i]? = b[i]?
theorem Near.tail {P a b : Tm} (h : Near (P ++ a) (P ++ b)) : Near a b := by
  obtain ⟨h1, k, hk⟩ := h
  refine ⟨by simp only [List.length_append] at h1; omega, k - P.length, fun i hi => ?_⟩
  by_cases h2 : P.length + i = k
  · omega
  · have := hk (P.length + i) h2
    rw [List.getElem?_append_right (by omega), List.getElem?_append_right (by omega), show P.length + i - P.length = i by omega] at this
    exact this
/-- A difference in the front part leaves none behind it. -/
theorem Near.rest {A B a b : Tm} (h : Near (A ++ a) (B ++ b)) (hl : A.length = B.length) (hne : A ≠ B) : a = b := by
  obtain ⟨h1, k, hk⟩ := h
  have hkA : k < A.length := by
    refine Classical.byContradiction fun hc => hne (List.ext_getElem? fun i => ?_)
    by_cases hi : i < A.length
    · have := hk i (by omega)
      rw [List.getElem?_append_left hi, List.getElem?_append_left (by omega)] at this
      exact this
    · rw [List.getElem?_eq_none (by omega), List.getElem?_eq_none (by omega)]
  refine List.ext_getElem? fun i => ?_
  have := hk (A.length + i) (by omega)
  rw [List.getElem?_append_right (by omega), List.getElem?_append_right (by omega), show A.length + i - A.length = i by omega, show A.length + i - B.length = i by omega] at this
  exact this
theorem put_more {a b : Nat} (h : a ≤ b) : (put a).length ≤ (put b).length := by
  rw [put_len, put_len]
  have key : ∀ b a : Nat, a ≤ b → (dig a).length ≤ (dig b).length := by
    intro b
    induction b using Nat.strongRecOn with
    | ind b ih =>
      intro a hab
      by_cases h0 : a = 0
      · subst h0; rw [dig_zero]; exact Nat.zero_le _
      · rw [dig_pos h0, dig_pos (by omega : b ≠ 0), List.length_append, List.length_append]
        have := ih (b / 256) (by omega) (a / 256) (Nat.div_le_div_right hab)
        simp only [List.length_cons, List.length_nil]
        omega
  have := key b a h
  omega
/-- A number as a text: its two first bytes say how long it is, twice. -/
theorem num_head {n : Nat} (hn : n < 18446744073709551616) : putText (put n) = 1 :: ((put n).length.toUInt8 :: ((dig n).length.toUInt8 :: dig n)) ∧ (put n).length = (dig n).length + 1 ∧ (dig n).length ≤ 8 := by
  have h1 := (put_le hn).2
  have h2 : (put n).length = (dig n).length + 1 := by unfold put; rw [List.length_cons]
  refine ⟨?_, h2, by omega⟩
  unfold putText
  rw [put_byte (n := (put n).length) (by omega) (by omega)]
  rfl
/-- Two numbers at the same place. -/
theorem Near.num {n m : Nat} {a b : Tm} (hn : n < 18446744073709551616) (hm : m < 18446744073709551616) (h : Near (putText (put n) ++ a) (putText (put m) ++ b)) (hab : a = b → n = m) : n = m ∧ Near a b := by
  obtain ⟨e1, l1, b1⟩ := num_head hn
  obtain ⟨e2, l2, b2⟩ := num_head hm
  have hl : (put n).length = (put m).length := by
    refine Classical.byContradiction fun hc => ?_
    obtain ⟨_, k, hk⟩ := h
    rw [e1, e2] at hk
    have g : ∀ i, i = 1 ∨ i = 2 → i = k := fun i hi => Classical.byContradiction fun hne => by
      have := hk i hne
      rcases hi with rfl | rfl
      · simp only [List.cons_append, List.getElem?_cons_succ, List.getElem?_cons_zero] at this
        have := congrArg UInt8.toNat (Option.some.inj this)
        rw [u8_nat _ (by omega), u8_nat _ (by omega)] at this
        exact hc this
      · simp only [List.cons_append, List.getElem?_cons_succ, List.getElem?_cons_zero] at this
        have := congrArg UInt8.toNat (Option.some.inj this)
        rw [u8_nat _ (by omega), u8_nat _ (by omega)] at this
        omega
    have := g 1 (.inl rfl)
    have := g 2 (.inr rfl)
    omega
  by_cases hA : putText (put n) = putText (put m)
  · have e3 : put n = put m := (put_inj (r := put n) (q := put m) (by omega) (by omega) hA).2
    have e4 : n = m := (put_inj (r := []) (q := []) hn hm (by rw [e3])).1
    subst e4
    exact ⟨rfl, h.tail⟩
  · have e3 := h.rest (by rw [putText_len, putText_len, hl]) hA
    have e4 := hab e3
    subst e4
    exact absurd rfl hA
theorem cut_text {x y a b : Tm} (hx : x.length < 18446744073709551616) (hy : y.length < 18446744073709551616) (h : putText x ++ a = putText y ++ b) : x = y ∧ a = b := by
  unfold putText at h
  rw [List.append_assoc, List.append_assoc] at h
  obtain ⟨e1, e2⟩ := put_inj hx hy h
  exact List.append_inj e2 e1
/-- The bytes of a stamp that user o signed. -/
def rowE (o : Tm) (t n : Nat) (x : Tm) : Tm := putAll [o, put t, put n, x, sgT o o t n x]
theorem rowE_eq (o : Tm) (t n : Nat) (x : Tm) : rowE o t n x = (put 5 ++ putText o) ++ (putText (put t) ++ (putText (put n) ++ (putText x ++ putText (sgT o o t n x)))) := by
  unfold rowE putAll
  simp only [List.flatMap_cons, List.flatMap_nil, List.append_nil, List.length_cons, List.length_nil, List.append_assoc]
theorem sgT_len (u o : Tm) (t n : Nat) (x : Tm) : (sgT u o t n x).length = (sgT u o t n []).length + x.length := by
  unfold sgT signedT
  simp only [List.length_cons, List.length_append, List.length_nil]
  omega
/-- Bytes of two stamps that differ at one place at most are the same. -/
theorem rows_near {o : Tm} (ho : o.length ≤ 12) {t t' n n' : Nat} {x x' : Tm} (ht : t < 18446744073709551616) (ht' : t' < 18446744073709551616) (hn : n < 18446744073709551616) (hn' : n' < 18446744073709551616) (hx : x.length ≤ 4000) (hx' : x'.length ≤ 4000)
    (hg : (sgT o o t n x).length ≤ 4000) (hg' : (sgT o o t' n' x').length ≤ 4000) (h : Near (rowE o t n x) (rowE o t' n' x')) : t = t' ∧ n = n' ∧ x = x' := by
  rw [rowE_eq, rowE_eq] at h
  have h1 := h.tail
  have inj : sgT o o t n x = sgT o o t' n' x' → t = t' ∧ n = n' ∧ x = x' := fun e => by
    obtain ⟨_, _, e1, e2, e3⟩ := sgT_inj ho ho (by omega) (by omega) ht ht' hn hn' e
    exact ⟨e1, e2, e3⟩
  have txt1 : putText (sgT o o t n x) = putText (sgT o o t' n' x') → sgT o o t n x = sgT o o t' n' x' := fun e => by
    have := cut_text (x := sgT o o t n x) (y := sgT o o t' n' x') (a := []) (b := []) (by omega) (by omega) (by rw [e])
    exact this.1
  obtain ⟨e1, h2⟩ := h1.num ht ht' fun e => by
    have hd : put n ++ [] = put n := List.append_nil _
    obtain ⟨_, e2⟩ := cut_text (by have := (put_le hn).2; omega) (by have := (put_le hn').2; omega) e
    obtain ⟨_, e3⟩ := cut_text (by omega) (by omega) e2
    exact (inj (txt1 e3)).1
  obtain ⟨e2, h3⟩ := h2.num hn hn' fun e => by
    obtain ⟨_, e3⟩ := cut_text (by omega) (by omega) e
    exact (inj (txt1 e3)).2.1
  refine ⟨e1, e2, ?_⟩
  subst e1; subst e2
  by_cases hl : x.length = x'.length
  · refine Classical.byContradiction fun hne => hne (inj (txt1 (h3.rest (by rw [putText_len, putText_len, hl]) fun e => hne ?_))).2.2
    exact (cut_text (x := x) (y := x') (a := []) (b := []) (by omega) (by omega) (by rw [e])).1
  · exfalso
    have h4 := h3.1
    simp only [List.length_append, putText_len] at h4
    have s1 := sgT_len o o t n x
    have s2 := sgT_len o o t n x'
    rcases Nat.lt_or_ge x.length x'.length with hlt | hge
    · have p1 := put_more (a := x.length) (b := x'.length) (by omega)
      have p2 := put_more (a := (sgT o o t n x).length) (b := (sgT o o t n x').length) (by omega)
      omega
    · have p1 := put_more (a := x'.length) (b := x.length) (by omega)
      have p2 := put_more (a := (sgT o o t n x').length) (b := (sgT o o t n x).length) (by omega)
      omega
/-- One byte changed: what is still a stamp does not check. -/
theorem spoilt {o x T : Tm} {t n k : Nat} {v : UInt8} (ho : o.length ≤ 12) (ht : t < 18446744073709551616) (hs : SR ⟨o, t, n, x, sgT o o t n x⟩) (hk : k < (rowE o t n x).length) (hv : (rowE o t n x)[k]? ≠ some v) (hT : T = (rowE o t n x).set k v) {s : Sp} (hb : takeS T = (s, 0)) : checkS s (pubU o) o s.time 0 ≠ 0 := by
  obtain ⟨hr, hrow, ht'⟩ := takeM_back hb
  have hn8 : n ≤ 8 := by have := hs.2.1.2; simp only at this; omega
  have hm := hr.2.1
  rw [checkU hr ht' ho]
  by_cases hg : s.sig = sgT o s.own s.time s.many.toNat s.root
  · rw [if_pos hg]
    by_cases hown : s.own = o
    · exfalso
      have e1 : T = rowE o s.time s.many.toNat s.root := by
        rw [hrow]; unfold rowS rowE; rw [hg, hown]
      have hnear : Near (rowE o t n x) (rowE o s.time s.many.toNat s.root) := by
        rw [← e1, hT]
        exact ⟨by rw [List.length_set], k, fun i hi => by rw [List.getElem?_set_ne (by omega)]⟩
      have l1 := (right_len hs.2.2.1).2
      have l2 := (right_len (sig_right hs).1).2
      have l3 := (right_len hr.2.2.1).2
      have l4 := (right_len (sig_right hr).1).2
      rw [hg, hown] at l4
      obtain ⟨a1, a2, a3⟩ := rows_near ho ht ht' (by omega) (by omega) l1 l3 l2 l4 hnear
      rw [← a1, ← a2, ← a3, hT] at e1
      have := congrArg (fun l : Tm => l[k]?) e1
      simp only [List.getElem?_set_self hk] at this
      exact hv this.symm
    · rw [if_pos hown]; decide
  · rw [if_neg hg]; decide
/-- A stamp of user o's signature under other parts. -/
theorem check_mix {o u q x x' : Tm} {t t' n n' now bound : Nat} (hu : u.length ≤ 12) (ho : o.length ≤ 12) (ht : t < 18446744073709551616) (ht' : t' < 18446744073709551616) (hn : n < 18446744073709551616) (h : SR ⟨o, t', n', x', sgT o o t n x⟩) :
    checkS ⟨o, t', n', x', sgT o o t n x⟩ (pubU u) q now bound = if u = o ∧ t' = t ∧ n' = n ∧ x' = x then (if o ≠ q then 3 else if now < t' ∨ bound < now - t' then 8 else 0) else 7 := by
  have hn8 : n' ≤ 8 := by have := h.2.1.2; simp only at this; omega
  rw [checkU h ht' hu]
  by_cases hc : u = o ∧ t' = t ∧ n' = n ∧ x' = x
  · rw [if_pos hc]
    obtain ⟨rfl, rfl, rfl, rfl⟩ := hc
    rw [if_pos (show sgT u u t' n' x' = sgT u u t' ((n' : Int)).toNat x' by rw [show ((n' : Int)).toNat = n' by omega])]
  · rw [if_neg hc, if_neg]
    intro e
    have e' : sgT o o t n x = sgT u o t' n' x' := by
      have : ((n' : Int)).toNat = n' := by omega
      rw [this] at e; exact e
    obtain ⟨e1, _, e2, e3, e4⟩ := sgT_inj ho hu (by omega) (by omega) ht ht' hn (by omega) e'
    exact hc ⟨e1.symm, e2.symm, e3.symm, e4.symm⟩
theorem row_mem {s : Sp} {t : Tm} (h : t ∈ [s.own, put s.time, put s.many.toNat, s.root, s.sig]) : t.length ≤ (rowS s).length := by
  have h1 := Dta.mem_flat h
  rw [putText_len] at h1
  unfold rowS putAll
  rw [List.length_append]
  omega
/-- However long the texts may be, the same bytes are taken. -/
theorem take_same (b : Tm) (hb : b.length < 18446744073709551616) : takeM (b.length : Int) b = takeS b := by
  by_cases h : (takeS b).2 = 0
  · obtain ⟨s, hs⟩ : ∃ s, takeS b = (s, 0) := ⟨(takeS b).1, by rw [← h]⟩
    obtain ⟨h1, h2, h3⟩ := takeM_back hs
    rw [hs]
    conv => lhs; rw [h2]
    rw [h2] at hb
    exact takeM_put h1 h3 hb (fun t ht => row_mem ht)
  · have hn : takeS b = (szero, 2) := (takeM_err (m := 4000) (b := b)).resolve_left h
    rw [hn]
    rcases takeM_err (m := (b.length : Int)) (b := b) with h1 | h1
    · exfalso
      obtain ⟨s, hs⟩ : ∃ s, takeM (b.length : Int) b = (s, 0) := ⟨(takeM (b.length : Int) b).1, by rw [← h1]⟩
      obtain ⟨h2, h3, h4⟩ := takeM_back hs
      have := takeS_put h2 h4
      rw [← h3] at this
      rw [this] at hn
      exact absurd (Prod.mk.inj hn).2 (by decide)
    · exact h1
/-- A stamp of a built one's parts is taken as it was put. -/
theorem take_built {o x : Tm} {t n : Nat} (h : SR ⟨o, t, n, x, sgT o o t n x⟩) (ht : t < 18446744073709551616) : takeS (rowE o t n x) = (⟨o, t, n, x, sgT o o t n x⟩, 0) := by
  have := takeS_put h ht
  unfold rowS at this
  rw [show (((n : Nat) : Int)).toNat = n by omega] at this
  exact this
/-- What a right stamp covers. -/
theorem covers_is {s : Sp} (h : SR s) {i : Int} {t : Tm} {p : List Tm} : coversS s i t p = Tre.verifyT s.root s.many i t p := by
  unfold coversS; rw [decide_eq_true h, Bool.true_and]
theorem covers_none {i : Int} {t : Tm} {p : List Tm} : coversS szero i t p = false := by
  unfold coversS
  rw [decide_eq_false (fun h => absurd h.2.2.1 (show ¬ right ([] : Tm) = true by decide)), Bool.false_and]
/-- A stamp of no leaves covers nothing. -/
theorem covers_empty {s : Sp} (h : s.many = 0) {i : Int} {t : Tm} {p : List Tm} : coversS s i t p = false := by
  unfold coversS Tre.verifyT
  rw [h, decide_eq_false (p := (1 : Int) ≤ 0 ∧ _) (fun hh => absurd hh.1 (by decide)), Bool.and_false]
end Go.Proofs.YtmmeklemaofmjaaGreat.Frs

/-
  A STAMP IN MEMORY: five cells of a block, none frozen; stores into one cell, or all. By an AI agent; no person has read it.
-/
namespace Go.Proofs.YtmmeklemaofmjaaGreat.Frs
open Go.RowKit Wire Term Reg

set_option linter.unusedSimpArgs false
set_option linter.unusedVariables false
theorem Bel.call {w0 w1 w2 : World} (h : Below w0.heap.size w0 w1) (h2 : Below w1.heap.size w1 w2) : Below w0.heap.size w0 w2 := h.trans (h2.mono h.size)
/-- Five cells of a block hold these values, and may be written. -/
def C5 (g : Nat) (w : World) (a b c d e : Value) : Prop := (g < w.heap.size ∧ w.cell? ⟨g, 0, none⟩ = some a ∧ w.cell? ⟨g, 1, none⟩ = some b ∧ w.cell? ⟨g, 2, none⟩ = some c ∧ w.cell? ⟨g, 3, none⟩ = some d ∧ w.cell? ⟨g, 4, none⟩ = some e) ∧
  w.frozen? ⟨g, 0, none⟩ = false ∧ w.frozen? ⟨g, 1, none⟩ = false ∧ w.frozen? ⟨g, 2, none⟩ = false ∧ w.frozen? ⟨g, 3, none⟩ = false ∧ w.frozen? ⟨g, 4, none⟩ = false
theorem C5.below {g : Nat} {w w1 : World} {a b c d e : Value} (h : C5 g w a b c d e) (hb : Below w.heap.size w w1) : C5 g w1 a b c d e := by
  obtain ⟨⟨h0, h1, h2, h3, h4, h5⟩, f0, f1, f2, f3, f4⟩ := h
  have ec := fun j => hb.cell (p := ⟨g, j, none⟩) h0
  have ef := fun j => hb.frozen (p := ⟨g, j, none⟩) h0
  exact ⟨⟨Nat.lt_of_lt_of_le h0 hb.size, (ec 0).trans h1, (ec 1).trans h2, (ec 2).trans h3, (ec 3).trans h4, (ec 4).trans h5⟩, (ef 0).trans f0, (ef 1).trans f1, (ef 2).trans f2, (ef 3).trans f3, (ef 4).trans f4⟩
theorem c5_new (w : World) (a b c d e : Value) (t : TypeId) : C5 w.heap.size (w.alloc (.cells #[a, b, c, d, e] t)) a b c d e := by
  have h : ∀ j, (w.alloc (.cells #[a, b, c, d, e] t)).frozen? ⟨w.heap.size, j, none⟩ = false := fun j => by
    unfold World.frozen?
    rw [heap_alloc_new]
    simp
  refine ⟨⟨by simp, ?_, ?_, ?_, ?_, ?_⟩, h 0, h 1, h 2, h 3, h 4⟩ <;> simp [go_sem]
theorem c5_first {w w1 : World} {a b c d e : Value} {t : TypeId} (h : Below (w.alloc (.cells #[a, b, c, d, e] t)).heap.size (w.alloc (.cells #[a, b, c, d, e] t)) w1) : C5 w.heap.size w1 a b c d e := (c5_new w a b c d e t).below h
theorem C5.set {g j : Nat} {w : World} {a b c d e v : Value} (h : C5 g w a b c d e) (hj : j < 5) :
    C5 g (w.setCell ⟨g, j, none⟩ v) (if j = 0 then v else a) (if j = 1 then v else b) (if j = 2 then v else c) (if j = 3 then v else d) (if j = 4 then v else e) := by
  obtain ⟨⟨h0, h1, h2, h3, h4, h5⟩, f0, f1, f2, f3, f4⟩ := h
  have hjj : j = 0 ∨ j = 1 ∨ j = 2 ∨ j = 3 ∨ j = 4 := by omega
  rcases hjj with rfl | rfl | rfl | rfl | rfl <;>
    exact ⟨⟨by simpa using h0, by simp [World.cell?_setCell_other, World.cell?_setCell_same', h0, h1, h2, h3, h4, h5], by simp [World.cell?_setCell_other, World.cell?_setCell_same', h0, h1, h2, h3, h4, h5], by simp [World.cell?_setCell_other, World.cell?_setCell_same', h0, h1, h2, h3, h4, h5], by simp [World.cell?_setCell_other, World.cell?_setCell_same', h0, h1, h2, h3, h4, h5], by simp [World.cell?_setCell_other, World.cell?_setCell_same', h0, h1, h2, h3, h4, h5]⟩, (World.frozen?_setCell ..).trans f0, (World.frozen?_setCell ..).trans f1, (World.frozen?_setCell ..).trans f2, (World.frozen?_setCell ..).trans f3, (World.frozen?_setCell ..).trans f4⟩
theorem C5.set1 {g : Nat} {w : World} {a b c d e v : Value} (h : C5 g w a b c d e) : C5 g (w.setCell ⟨g, 1, none⟩ v) a v c d e := h.set (j := 1) (by omega)
theorem C5.set2 {g : Nat} {w : World} {a b c d e v : Value} (h : C5 g w a b c d e) : C5 g (w.setCell ⟨g, 2, none⟩ v) a b v d e := h.set (j := 2) (by omega)
theorem C5.set3 {g : Nat} {w : World} {a b c d e v : Value} (h : C5 g w a b c d e) : C5 g (w.setCell ⟨g, 3, none⟩ v) a b c v e := h.set (j := 3) (by omega)
theorem C5.set4 {g : Nat} {w : World} {a b c d e v : Value} (h : C5 g w a b c d e) : C5 g (w.setCell ⟨g, 4, none⟩ v) a b c d v := h.set (j := 4) (by omega)
/-- All five. -/
def set5 (w : World) (g : Nat) (a b c d e : Value) : World := ((((w.setCell ⟨g, 0, none⟩ a).setCell ⟨g, 1, none⟩ b).setCell ⟨g, 2, none⟩ c).setCell ⟨g, 3, none⟩ d).setCell ⟨g, 4, none⟩ e
theorem size_set5 {w : World} {g : Nat} {a b c d e : Value} : (set5 w g a b c d e).heap.size = w.heap.size := by unfold set5; simp only [World.size_setCell]
theorem bel_set5 {w0 w : World} {g B : Nat} {a b c d e : Value} (h : Below B w0 w) (hg : B ≤ g) : Below B w0 (set5 w g a b c d e) := ((((h.setCell hg a).setCell hg b).setCell hg c).setCell hg d).setCell hg e
theorem c5_set5 {g : Nat} {w : World} {a b c d e a' b' c' d' e' : Value} (h : C5 g w a b c d e) : C5 g (set5 w g a' b' c' d' e') a' b' c' d' e' := by
  have h0 : C5 g (w.setCell ⟨g, 0, none⟩ a') a' b c d e := h.set (j := 0) (by omega)
  exact (((h0.set1).set2).set3).set4
/-- Another block's cells. -/
theorem C5.other {g b0 j : Nat} {w : World} {a b c d e v : Value} (h : C5 g w a b c d e) (hne : g ≠ b0) : C5 g (w.setCell ⟨b0, j, none⟩ v) a b c d e := by
  obtain ⟨⟨h0, h1, h2, h3, h4, h5⟩, f0, f1, f2, f3, f4⟩ := h
  have hn : ∀ i, (⟨b0, j, none⟩ : Addr) ≠ ⟨g, i, none⟩ := fun i e => hne (by injection e with e1 _ _; exact e1.symm)
  exact ⟨⟨by simpa using h0, by rw [World.cell?_setCell_other _ _ _ _ (hn 0)]; exact h1, by rw [World.cell?_setCell_other _ _ _ _ (hn 1)]; exact h2, by rw [World.cell?_setCell_other _ _ _ _ (hn 2)]; exact h3, by rw [World.cell?_setCell_other _ _ _ _ (hn 3)]; exact h4, by rw [World.cell?_setCell_other _ _ _ _ (hn 4)]; exact h5⟩, (World.frozen?_setCell ..).trans f0, (World.frozen?_setCell ..).trans f1, (World.frozen?_setCell ..).trans f2, (World.frozen?_setCell ..).trans f3, (World.frozen?_setCell ..).trans f4⟩
/-- A value that is a stamp. -/
def IsS (v : Value) (s : Sp) : Prop := ∃ O R G : ByteArray, O.data.toList = s.own ∧ R.data.toList = s.root ∧ G.data.toList = s.sig ∧ v = .agg #[.string O, .int .u64 (s.time : Int), .int .i64 s.many, .string R, .string G]
def Zs : Value := .agg #[.string ⟨#[]⟩, .int .u64 0, .int .i64 0, .string ⟨#[]⟩, .string ⟨#[]⟩]
theorem zs_is : IsS Zs szero := ⟨⟨#[]⟩, ⟨#[]⟩, ⟨#[]⟩, rfl, rfl, rfl, rfl⟩
/-- A stamp, and an error, are told; a stamp alone. -/
def Ss (x : Sp × Int) (e : Ending) : Prop := ∃ v, IsS v x.1 ∧ e = .returned (.tuple #[v, .int .i64 x.2])
def S1 (x : Sp) (e : Ending) : Prop := ∃ v, IsS v x ∧ e = .returned v
theorem ss_open {s : Sp} {f : Int} {e : Ending} (h : Ss (s, f) e) : ∃ O R G : ByteArray, O.data.toList = s.own ∧ R.data.toList = s.root ∧ G.data.toList = s.sig ∧ e = .returned (.tuple #[.agg #[.string O, .int .u64 (s.time : Int), .int .i64 s.many, .string R, .string G], .int .i64 f]) := by
  obtain ⟨v, ⟨O, R, G, h1, h2, h3, rfl⟩, rfl⟩ := h
  exact ⟨O, R, G, h1, h2, h3, rfl⟩
theorem s1_open {s : Sp} {e : Ending} (h : S1 s e) : ∃ O R G : ByteArray, O.data.toList = s.own ∧ R.data.toList = s.root ∧ G.data.toList = s.sig ∧ e = .returned (.agg #[.string O, .int .u64 (s.time : Int), .int .i64 s.many, .string R, .string G]) := by
  obtain ⟨v, ⟨O, R, G, h1, h2, h3, rfl⟩, rfl⟩ := h
  exact ⟨O, R, G, h1, h2, h3, rfl⟩
theorem str_eq {S H : ByteArray} (h : S.data.toList = H.data.toList) : S = H := by
  cases S with
  | mk d => cases H with
    | mk d' =>
      have : d = d' := Array.toList_inj.1 h
      rw [this]
theorem str_nil {S : ByteArray} (h : S.data.toList = []) : S = ⟨#[]⟩ := by
  cases S with
  | mk d => cases d with
    | mk l => simp at h; rw [h]
theorem ss_zero {f : Int} {e : Ending} (h : Ss (szero, f) e) : e = .returned (.tuple #[.agg #[.string ⟨#[]⟩, .int .u64 0, .int .i64 0, .string ⟨#[]⟩, .string ⟨#[]⟩], .int .i64 f]) := by
  obtain ⟨O, R, G, h1, h2, h3, rfl⟩ := ss_open h
  rw [str_nil h1, str_nil h2, str_nil h3]; rfl
theorem s1_zero {e : Ending} (h : S1 szero e) : e = .returned (.agg #[.string ⟨#[]⟩, .int .u64 0, .int .i64 0, .string ⟨#[]⟩, .string ⟨#[]⟩]) := by
  obtain ⟨O, R, G, h1, h2, h3, rfl⟩ := s1_open h
  rw [str_nil h1, str_nil h2, str_nil h3]; rfl
theorem st_fix {l : Tm} {e : Ending} (h : St l e) : e = .returned (.string ⟨⟨l⟩⟩) := by
  obtain ⟨T, hT, rfl⟩ := h
  have : T = ⟨⟨l⟩⟩ := by
    cases T with
    | mk d => cases d with
      | mk x => simp at hT; rw [hT]
  rw [this]
/-- Two new variables. -/
theorem c5_pair (w : World) (a b c d e a' b' c' d' e' : Value) (t u : TypeId) : C5 w.heap.size ((w.alloc (.cells #[a, b, c, d, e] t)).alloc (.cells #[a', b', c', d', e'] u)) a b c d e ∧ C5 (w.heap.size + 1) ((w.alloc (.cells #[a, b, c, d, e] t)).alloc (.cells #[a', b', c', d', e'] u)) a' b' c' d' e' ∧ Below w.heap.size w ((w.alloc (.cells #[a, b, c, d, e] t)).alloc (.cells #[a', b', c', d', e'] u)) := by
  have h1 := c5_new w a b c d e t
  have hs : (w.alloc (.cells #[a, b, c, d, e] t)).heap.size = w.heap.size + 1 := by simp
  have hb : Below w.heap.size w (w.alloc (.cells #[a, b, c, d, e] t)) := (Below.refl _ w).alloc (Nat.le_refl _) _
  generalize w.alloc (.cells #[a, b, c, d, e] t) = wa at h1 hs hb
  have h2 := c5_new wa a' b' c' d' e' u
  have h3 : Below wa.heap.size wa (wa.alloc (.cells #[a', b', c', d', e'] u)) := (Below.refl _ wa).alloc (Nat.le_refl _) _
  rw [hs] at h2
  exact ⟨h1.below h3, h2, hb.trans (h3.mono hb.size)⟩
end Go.Proofs.YtmmeklemaofmjaaGreat.Frs
