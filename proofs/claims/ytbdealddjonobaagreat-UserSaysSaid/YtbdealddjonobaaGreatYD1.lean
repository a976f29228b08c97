/-
  D1. By an AI agent.
-/
import Derived.Test.YtbdealddjonobaaGreatYZ
import Derived.Laws.Bits64
import Derived.Test.YtbdealddjonobaaGreatYT1
namespace Go.Proofs.YtbdealddjonobaaGreat.Clo
open Wire Term

def pts (t : List UInt8) : List (List UInt8) := (parts t).1
theorem pts_eq {b : UInt8} {t : List UInt8} (h : right (b :: t) = true) : pts (b :: t) = cuts ((arity b).getD 0) t := by unfold pts parts; rw [if_pos h]; rfl
theorem pts_one {b : UInt8} {t : List UInt8} (h : right (b :: t) = true) (hb : b = 104 ∨ b = 117) : pts (b :: t) = [t] ∧ right t = true := by
  have ha : arity b = some 1 := by rcases hb with rfl | rfl <;> rfl
  have hb8 : b ≠ 98 := by rcases hb with rfl | rfl <;> decide
  obtain ⟨h1, h2⟩ := one_part h ha hb8
  rw [pts_eq h, ha]
  exact ⟨h2, h1⟩
theorem pts_two {b : UInt8} {t : List UInt8} (h : right (b :: t) = true) (hb : b = 112 ∨ b = 115 ∨ b = 98 ∨ b = 103) : ∃ x y, t = x ++ y ∧ pts (b :: t) = [x, y] ∧ right x = true ∧ right y = true ∧ (b = 98 → x.head? = some 117) := by
  have ha : arity b = some 2 := by rcases hb with rfl | rfl | rfl | rfl <;> rfl
  obtain ⟨x, y, h1, h2, h3, h4, h5⟩ := two_parts h ha
  refine ⟨x, y, h1, ?_, h3, h4, h5⟩
  rw [pts_eq h, ha]
  exact h2
def TogN (S : List UInt8 → Prop) : Nat → List UInt8 → Prop
  | 0, _ => False
  | n + 1, t => S t ∨ t.headD 0 = 116 ∨ (t.headD 0 ≠ 97 ∧ ∀ p ∈ pts t, TogN S n p)
def Tog (S : List UInt8 → Prop) (t : List UInt8) : Prop := TogN S (t.length + 1) t
def Gives (S : List UInt8 → Prop) (t x : List UInt8) : Prop :=
  (t.headD 0 = 112 ∧ x ∈ pts t) ∨ (t.headD 0 = 103 ∧ x ∈ (pts t).drop 1) ∨ (t.headD 0 = 115 ∧ Tog S ((pts t).headD []) ∧ x ∈ (pts t).drop 1) ∨ (t.headD 0 = 98 ∧ Tog S ((pts t).headD []).tail ∧ x ∈ (pts t).drop 1)
open Op (bytesLess)
def Rising (l : List (List UInt8)) : Prop := l.Pairwise (fun a b => bytesLess a b = true)
end Go.Proofs.YtbdealddjonobaaGreat.Clo

namespace Go.Proofs.YtbdealddjonobaaGreat.Draw
open Wire Term

def mixA (n : Nat) : Nat := (n + 11400714819323198485) % 18446744073709551616
def mixB (a : Nat) : Nat := (a ^^^ a / 1073741824) * 13787848793156543929 % 18446744073709551616
def mixC (b : Nat) : Nat := (b ^^^ b / 134217728) * 10723151780598845931 % 18446744073709551616
def mixD (c : Nat) : Nat := c ^^^ c / 2147483648
def mix (n : Nat) : Nat := mixD (mixC (mixB (mixA n)))
theorem mixA_lt (n : Nat) : mixA n < 18446744073709551616 := Nat.mod_lt _ (by decide)
theorem mixB_lt (n : Nat) : mixB n < 18446744073709551616 := Nat.mod_lt _ (by decide)
theorem mixC_lt (n : Nat) : mixC n < 18446744073709551616 := Nat.mod_lt _ (by decide)
theorem xs_lt {x k : Nat} (h : x < 18446744073709551616) : x ^^^ x / k < 18446744073709551616 :=
  Nat.xor_lt_two_pow (n := 64) h (Nat.lt_of_le_of_lt (Nat.div_le_self _ _) h)
theorem mix_lt (n : Nat) : mix n < 18446744073709551616 := xs_lt (mixC_lt _)
def draw (seed i : Nat) : Nat := mix ((seed + i * 11400714819323198485) % 18446744073709551616)
end Go.Proofs.YtbdealddjonobaaGreat.Draw

namespace Go.Proofs.YtbdealddjonobaaGreat.Draw
open Wire Term Clo

def secret (use who : List UInt8) (n : Nat) : List UInt8 × Int :=
  if (ofText (use ++ 58 :: who)).2 ≠ 0 then ([], (ofText (use ++ 58 :: who)).2)
  else if (two 112 (ofText (use ++ 58 :: who)).1 (ofAtom n)).2 ≠ 0 then ([], (two 112 (ofText (use ++ 58 :: who)).1 (ofAtom n)).2)
  else one 104 (two 112 (ofText (use ++ 58 :: who)).1 (ofAtom n)).1
def txt (use who : List UInt8) : List UInt8 := 116 :: putText (use ++ 58 :: who)
def prs (use who : List UInt8) (n : Nat) : List UInt8 := 112 :: (txt use who ++ ofAtom n)
def sech (use who : List UInt8) (n : Nat) : List UInt8 := 104 :: prs use who n
theorem atom_ok {n : Nat} (hn : n < 18446744073709551616) : right (ofAtom n) = true := ofAtom_right hn
theorem made_yes {l : List UInt8} (h : right l = true) : made l = (l, 0) := by unfold made; rw [if_pos h]
theorem made_no {l : List UInt8} (h : ¬ right l = true) : made l = ([], 10) := by unfold made; rw [if_neg h]
theorem secret_ok {use who : List UInt8} {n : Nat} (hn : n < 18446744073709551616) (h1 : right (txt use who) = true) (h2 : right (prs use who n) = true) (h3 : right (sech use who n) = true) : secret use who n = (sech use who n, 0) := by
  have e1 : ofText (use ++ 58 :: who) = (txt use who, 0) := made_yes h1
  have e2 : two 112 (txt use who) (ofAtom n) = (prs use who n, 0) := by unfold two; rw [if_pos ⟨h1, atom_ok hn⟩]; exact made_yes h2
  have e3 : one 104 (prs use who n) = (sech use who n, 0) := by unfold one; rw [if_pos h2]; exact made_yes h3
  unfold secret
  rw [e1, if_neg (by simp), e2, if_neg (by simp), e3]
theorem secret_no {use who : List UInt8} {n : Nat} (hn : n < 18446744073709551616) (h : ¬ (right (txt use who) = true ∧ right (prs use who n) = true ∧ right (sech use who n) = true)) : secret use who n = ([], 10) := by
  unfold secret
  by_cases h1 : right (txt use who) = true
  · have e1 : ofText (use ++ 58 :: who) = (txt use who, 0) := made_yes h1
    rw [e1, if_neg (by simp)]
    by_cases h2 : right (prs use who n) = true
    · have e2 : two 112 (txt use who) (ofAtom n) = (prs use who n, 0) := by unfold two; rw [if_pos ⟨h1, atom_ok hn⟩]; exact made_yes h2
      rw [e2, if_neg (by simp)]
      unfold one
      rw [if_pos h2]
      exact made_no (fun h3 => h ⟨h1, h2, h3⟩)
    · have e2 : two 112 (txt use who) (ofAtom n) = ([], 10) := by unfold two; rw [if_pos ⟨h1, atom_ok hn⟩]; exact made_no h2
      rw [e2, if_pos (by simp)]
  · have e1 : ofText (use ++ 58 :: who) = ([], 10) := made_no h1
    rw [e1, if_pos (by simp)]
end Go.Proofs.YtbdealddjonobaaGreat.Draw

namespace Go.Proofs.YtbdealddjonobaaGreat.Draw
open Wire Term Clo

theorem size_txt (d : Nat) {use who : List UInt8} (h : (use ++ 58 :: who).length ≤ 3000) : size (d + 1) (txt use who) = (txt use who).length := by
  have h1 := put_le (n := (use ++ 58 :: who).length) (by omega)
  unfold txt
  generalize use ++ 58 :: who = s at h h1
  show up (body (size d) 116 (putText s)) = _
  have h2 : body (size d) 116 (putText s) = some (putText s).length := by
    have h3 := text_put (t := s) (by omega) [] 4000 (by omega)
    rw [List.append_nil] at h3
    show leaf 116 (putText s) = _
    unfold leaf
    rw [if_neg (by decide), h3]
    simp
  rw [h2]
  simp only [up, List.length_cons]; omega
theorem size_atom (d : Nat) {n : Nat} (hn : n < 18446744073709551616) : size (d + 1) (ofAtom n) = (ofAtom n).length := by
  show up (body (size d) 97 (put n)) = _
  have h2 : body (size d) 97 (put n) = some (put n).length := by
    have h3 := take_put hn []
    rw [List.append_nil] at h3
    show leaf 97 (put n) = _
    unfold leaf
    rw [if_pos rfl, h3]
    simp
  rw [h2]
  simp only [up, ofAtom, List.length_cons]; omega
theorem size_pair {d : Nat} {a b : List UInt8} (ha : size d a = a.length) (ha0 : a ≠ []) (hb : size d b = b.length) (hb0 : b ≠ []) : size (d + 1) (112 :: (a ++ b)) = (112 :: (a ++ b)).length := by
  have hal : a.length ≠ 0 := fun h => ha0 (List.eq_nil_of_length_eq_zero h)
  have hbl : b.length ≠ 0 := fun h => hb0 (List.eq_nil_of_length_eq_zero h)
  show up (body (size d) 112 (a ++ b)) = _
  have h1 : body (size d) 112 (a ++ b) = sizes (size d) 2 (a ++ b) := by
    show (if (112 : UInt8) = 98 ∧ (a ++ b).head? ≠ some 117 then none else sizes (size d) 2 (a ++ b)) = _
    rw [if_neg (fun h => absurd h.1 (by decide))]
  have h2 : size d (a ++ b) = a.length := by
    have := size_ext d a b (by rw [ha]; exact hal)
    rw [ha, List.take_length] at this
    exact this
  have h3 : sizes (size d) 1 b = some b.length := by
    unfold sizes
    rw [hb, if_neg hbl]
    unfold sizes
    rfl
  have h4 : sizes (size d) 2 (a ++ b) = some (a.length + b.length) := by
    unfold sizes
    rw [h2, if_neg hal, List.drop_left, h3]
    rfl
  rw [h1, h4]
  simp only [up, List.length_cons, List.length_append]; omega
theorem size_one {d : Nat} {k : UInt8} {a : List UInt8} (hk : k = 104 ∨ k = 117) (ha : size d a = a.length) (ha0 : a ≠ []) : size (d + 1) (k :: a) = (k :: a).length := by
  have hal : a.length ≠ 0 := fun h => ha0 (List.eq_nil_of_length_eq_zero h)
  have hk1 : arity k = some 1 := by rcases hk with rfl | rfl <;> rfl
  have hk2 : k ≠ 98 := by rcases hk with rfl | rfl <;> decide
  show up (body (size d) k a) = _
  have h1 : body (size d) k a = sizes (size d) 1 a := by
    unfold body
    rw [hk1]
    show (if k = 98 ∧ a.head? ≠ some 117 then none else sizes (size d) 1 a) = _
    rw [if_neg (fun h => absurd h.1 hk2)]
  have h2 : sizes (size d) 1 a = some a.length := by
    unfold sizes
    rw [ha, if_neg hal]
    unfold sizes
    rfl
  rw [h1, h2]
  simp only [up, List.length_cons]; omega
theorem secret_small {use who : List UInt8} {n : Nat} (h : use.length + who.length ≤ 1000) (hn : n < 18446744073709551616) :
    right (txt use who) = true ∧ right (prs use who n) = true ∧ right (sech use who n) = true ∧ right (117 :: sech use who n) = true := by
  have hl : (use ++ 58 :: who).length ≤ 1001 := by rw [List.length_append, List.length_cons]; omega
  have h1 := (put_le (n := (use ++ 58 :: who).length) (by omega)).2
  have h2 := (put_le hn).2
  have ht : (txt use who).length ≤ 1020 := by unfold txt; rw [List.length_cons, putText_len]; omega
  have ha : (ofAtom n).length ≤ 20 := by unfold ofAtom; rw [List.length_cons]; omega
  have hp : (prs use who n).length ≤ 1041 := by unfold prs; rw [List.length_cons, List.length_append]; omega
  have hs : (sech use who n).length ≤ 1042 := by unfold sech; rw [List.length_cons]; omega
  have t1 := fun d => size_txt d (use := use) (who := who) (by omega)
  have a1 := fun d => size_atom d hn
  have tn : txt use who ≠ [] := by unfold txt; exact List.cons_ne_nil _ _
  have an : ofAtom n ≠ [] := by unfold ofAtom; exact List.cons_ne_nil _ _
  have p1 : ∀ d, size (d + 2) (prs use who n) = (prs use who n).length := fun d => size_pair (t1 d) tn (a1 d) an
  have pn : prs use who n ≠ [] := List.cons_ne_nil _ _
  have s1 : ∀ d, size (d + 3) (sech use who n) = (sech use who n).length := fun d => size_one (.inl rfl) (p1 d) pn
  have sn : sech use who n ≠ [] := List.cons_ne_nil _ _
  exact ⟨right_iff.2 ⟨tn, by omega, t1 39⟩, right_iff.2 ⟨pn, by omega, p1 38⟩, right_iff.2 ⟨sn, by omega, s1 37⟩, right_iff.2 ⟨List.cons_ne_nil _ _, by rw [List.length_cons]; omega, size_one (.inr rfl) (s1 36) sn⟩⟩
end Go.Proofs.YtbdealddjonobaaGreat.Draw

namespace Go.Proofs.YtbdealddjonobaaGreat.Draw
open Go.RowKit Wire Term Clo

theorem mixA_eq {n : Nat} : IntKind.u64.wrap ((n : Int) + 11400714819323198485) = ((mixA n : Nat) : Int) := by
  rw [IntKind.wrap_u64]; unfold mixA; omega
theorem mixB_eq {a : Nat} (ha : a < 18446744073709551616) : IntKind.u64.wrap (bits .xor .u64 (a : Int) ((a : Int) / 1073741824) * 13787848793156543929) = ((mixB a : Nat) : Int) := mixStep_u64 a 1073741824 13787848793156543929 ha
theorem mixC_eq {a : Nat} (ha : a < 18446744073709551616) : IntKind.u64.wrap (bits .xor .u64 (a : Int) ((a : Int) / 134217728) * 10723151780598845931) = ((mixC a : Nat) : Int) := mixStep_u64 a 134217728 10723151780598845931 ha
theorem mixD_eq {a : Nat} (ha : a < 18446744073709551616) : bits .xor .u64 (a : Int) ((a : Int) / 2147483648) = ((mixD a : Nat) : Int) := xorShift_u64 a 2147483648 ha
set_option maxHeartbeats 2000000 in
set_option maxRecDepth 1000000 in
theorem rmix_any (n : Nat) (w : World) : Calls Tryz.prog 138 #[.int .u64 (n : Int)] w fun e w' => e = .returned (.int .u64 ((mix n : Nat) : Int)) ∧ w' = w := by
  obtain ⟨a, ha⟩ : ∃ a, mixA n = a := ⟨_, rfl⟩
  obtain ⟨b, hb⟩ : ∃ b, mixB a = b := ⟨_, rfl⟩
  obtain ⟨c, hc⟩ : ∃ c, mixC b = c := ⟨_, rfl⟩
  obtain ⟨d, hd⟩ : ∃ d, mixD c = d := ⟨_, rfl⟩
  have h1 : IntKind.u64.wrap ((n : Int) + 11400714819323198485) = (a : Int) := by rw [← ha]; exact mixA_eq
  have h2 : IntKind.u64.wrap (bits .xor .u64 (a : Int) ((a : Int) / 1073741824) * 13787848793156543929) = (b : Int) := by rw [← hb]; exact mixB_eq (by rw [← ha]; exact mixA_lt n)
  have h3 : IntKind.u64.wrap (bits .xor .u64 (b : Int) ((b : Int) / 134217728) * 10723151780598845931) = (c : Int) := by rw [← hc]; exact mixC_eq (by rw [← hb]; exact mixB_lt a)
  have h4 : bits .xor .u64 (c : Int) ((c : Int) / 2147483648) = (d : Int) := by rw [← hd]; exact mixD_eq (by rw [← hc]; exact mixC_lt b)
  have HM : Hid (mix n = d) := by show mixD (mixC (mixB (mixA n))) = d; rw [ha, hb, hc, hd]
  clear ha hb hc hd
  go_enter Tryz.func138, Tryz.ntmps138
  go_wp2
  go_ret
  exact ⟨by rw [HM.out]; rfl, rfl⟩
theorem draw_eq {s i : Nat} : IntKind.u64.wrap ((s : Int) + IntKind.u64.wrap ((i : Int) * 11400714819323198485)) = (((s + i * 11400714819323198485) % 18446744073709551616 : Nat) : Int) := by
  rw [IntKind.wrap_u64, IntKind.wrap_u64]; omega
set_option maxHeartbeats 2000000 in
set_option maxRecDepth 1000000 in
theorem rdraw_any (s i : Nat) (hi : i ≤ 4611686018427387904) (w : World) : Calls Tryz.prog 93 #[.int .u64 (s : Int), .int .i64 (i : Int)] w fun e w' => e = .returned (.int .u64 ((draw s i : Nat) : Int)) ∧ w' = w := by
  have h0 : IntKind.u64.wrap (i : Int) = (i : Int) := by rw [IntKind.wrap_u64]; omega
  obtain ⟨m, hm⟩ : ∃ m, IntKind.u64.wrap ((i : Int) * 11400714819323198485) = m := ⟨_, rfl⟩
  obtain ⟨x, hx⟩ : ∃ x, (s + i * 11400714819323198485) % 18446744073709551616 = x := ⟨_, rfl⟩
  have h1 : IntKind.u64.wrap ((s : Int) + m) = (x : Int) := by rw [← hm, ← hx]; exact draw_eq
  have HX : Hid (draw s i = mix x) := by show mix _ = _; rw [hx]
  clear hx
  go_enter Tryz.func93, Tryz.ntmps93
  go_wp2_with (go_at_call 138; refine (rmix_any x _).mono ?_; rintro e w1 ⟨rfl, rfl⟩)
  go_ret
  exact ⟨by rw [HX.out]; rfl, rfl⟩
end Go.Proofs.YtbdealddjonobaaGreat.Draw

namespace Go.Proofs.YtbdealddjonobaaGreat.Draw
open Go.RowKit Wire Term Clo

theorem made_len (l : List UInt8) : (made l).1.length ≤ 4000 := by
  unfold made
  split
  · exact (right_len (by assumption)).2
  · exact Nat.zero_le _
theorem two_len (k : UInt8) (a b : List UInt8) : (two k a b).1.length ≤ 4000 := by
  unfold two
  split
  · exact made_len _
  · exact Nat.zero_le _
theorem ofText_eq (use who : List UInt8) : ofText (use ++ 58 :: who) = made (txt use who) := rfl
theorem one_eq {use who : List UInt8} {n : Nat} (h2 : right (prs use who n) = true) : one 104 (prs use who n) = made (sech use who n) := by unfold one; rw [if_pos h2]; rfl
theorem two_eq {use who : List UInt8} {n : Nat} (hn : n < 18446744073709551616) (h1 : right (txt use who) = true) : two 112 (txt use who) (ofAtom n) = made (prs use who n) := by unfold two; rw [if_pos ⟨h1, atom_ok hn⟩]; rfl
theorem colon_text (use who : ByteArray) {UC X : ByteArray} (h1 : use ++ (ByteArray.mk #[58]) = UC) (h2 : UC ++ who = X) : X.data.toList = use.data.toList ++ 58 :: who.data.toList ∧ UC.size = use.size + 1 ∧ X.size = use.size + who.size + 1 := by
  have e1 : UC.data.toList = use.data.toList ++ [58] := by rw [← h1, app_data]
  have e2 : X.data.toList = use.data.toList ++ 58 :: who.data.toList := by rw [← h2, app_data, e1, List.append_assoc]; rfl
  refine ⟨e2, ?_, ?_⟩
  · rw [Lib.size_eq UC, e1, List.length_append, Lib.size_eq use]; rfl
  · rw [Lib.size_eq X, e2, List.length_append, List.length_cons, Lib.size_eq use, Lib.size_eq who]; omega
set_option maxHeartbeats 4000000 in
set_option maxRecDepth 1000000 in
theorem rsecret_any (use who : ByteArray) (n : Nat) (w : World) (hu : use.size ≤ 140737488300000) (hw : who.size ≤ 140737488300000) (huw : use.size + who.size ≤ 140737488300000) (hn : n < 18446744073709551616) :
    Calls Tryz.prog 49 #[.string use, .string who, .int .u64 (n : Int)] w fun e w' => Sr (secret use.data.toList who.data.toList n) e ∧ Below w.heap.size w w' := by
  obtain ⟨UC, huc⟩ : ∃ UC, use ++ (ByteArray.mk #[58]) = UC := ⟨_, rfl⟩
  obtain ⟨X, hX⟩ : ∃ X, UC ++ who = X := ⟨_, rfl⟩
  obtain ⟨hXd, hucz, hXz⟩ := colon_text use who huc hX
  have hucz1 : UC.size ≤ 140737488300001 := by omega
  have hXz1 : X.size ≤ 140737488355000 := by omega
  have HC := zh (ofText_any X w hXz1)
  rw [hXd, ofText_eq] at HC
  clear hXd hucz hXz huw hXz1
  by_cases h1 : right (txt use.data.toList who.data.toList) = true
  · have hz1 := (right_len h1).2
    have HC2 : Hid (∀ (T A : ByteArray) (w : World), T.data.toList = txt use.data.toList who.data.toList → A.data.toList = ofAtom n → Calls Tryz.prog 95 #[.string T, .string A] w fun e w' => Sr (made (prs use.data.toList who.data.toList n)) e ∧ Below w.heap.size w w') := by
      intro T A w hT hA
      have := ofPair_any T A w (by rw [Lib.size_eq, hT]; omega) (by rw [Lib.size_eq, hA]; have := (right_len (atom_ok hn)).2; omega)
      rw [hT, hA, two_eq hn h1] at this
      exact this
    rw [made_yes h1] at HC
    by_cases h2 : right (prs use.data.toList who.data.toList n) = true
    · have HS : secret use.data.toList who.data.toList n = made (sech use.data.toList who.data.toList n) := by
        by_cases h3 : right (sech use.data.toList who.data.toList n) = true
        · rw [secret_ok hn h1 h2 h3, made_yes h3]
        · rw [secret_no hn (fun h => h3 h.2.2), made_no h3]
      have HC3 : Hid (∀ (T : ByteArray) (w : World), T.data.toList = prs use.data.toList who.data.toList n → Calls Tryz.prog 97 #[.string T] w fun e w' => Sr (made (sech use.data.toList who.data.toList n)) e ∧ Below w.heap.size w w') := by
        intro T w hT
        have := ofHash_any T w (by rw [Lib.size_eq, hT]; have := (right_len h2).2; omega)
        rw [hT, one_eq h2] at this
        exact this
      rw [made_yes h2] at HC2
      rw [HS]
      obtain ⟨x, f, hx⟩ : ∃ x f, made (sech use.data.toList who.data.toList n) = (x, f) := ⟨_, _, rfl⟩
      rw [hx] at HC3 ⊢
      have HN := zh hn
      clear HS h1 h2 hz1 hx hn
      go_enter Tryz.func49, Tryz.ntmps49
      go_wp2_with fail
      refine HC.out.mono ?_
      rintro e w1 ⟨⟨T, hT, rfl⟩, hb1⟩
      have HB1 := zh hb1
      have HT := zh hT
      clear hb1 hT
      dsimp only
      go_wp2_with fail
      refine (ofAtom_any n _ HN.out).mono ?_
      rintro e w2 ⟨⟨A, hA, rfl⟩, hb2⟩
      have HB2 := zh (HB1.out.trans (hb2.mono HB1.out.size))
      have HA := zh hA
      clear hb2 hA
      dsimp only
      go_wp2_with fail
      refine (HC2.out T A _ HT.out HA.out).mono ?_
      rintro e w3 ⟨⟨P, hP, rfl⟩, hb3⟩
      have HB3 := zh (HB2.out.trans (hb3.mono HB2.out.size))
      have HP := zh hP
      clear hb3 hP
      dsimp only
      go_wp2_with fail
      refine (HC3.out P _ HP.out).mono ?_
      rintro e w4 ⟨⟨H, hH, rfl⟩, hb4⟩
      have HB4 := zh (HB3.out.trans (hb4.mono HB3.out.size))
      have HH := zh hH
      clear hb4 hH
      dsimp only
      go_wp2
      go_ret2
      exact ⟨⟨H, HH.out, rfl⟩, HB4.out⟩
    · rw [secret_no hn (fun h => h2 h.2.1)]
      rw [made_no h2] at HC2
      have HN := zh hn
      clear h1 h2 hz1 hn
      go_enter Tryz.func49, Tryz.ntmps49
      go_wp2_with fail
      refine HC.out.mono ?_
      rintro e w1 ⟨⟨T, hT, rfl⟩, hb1⟩
      have HB1 := zh hb1
      have HT := zh hT
      clear hb1 hT
      dsimp only
      go_wp2_with fail
      refine (ofAtom_any n _ HN.out).mono ?_
      rintro e w2 ⟨⟨A, hA, rfl⟩, hb2⟩
      have HB2 := zh (HB1.out.trans (hb2.mono HB1.out.size))
      have HA := zh hA
      clear hb2 hA
      dsimp only
      go_wp2_with fail
      refine (HC2.out T A _ HT.out HA.out).mono ?_
      rintro e w3 ⟨⟨P, hP, rfl⟩, hb3⟩
      have HB3 := zh (HB2.out.trans (hb3.mono HB2.out.size))
      clear hb3 hP
      dsimp only
      go_wp2
      go_ret2
      exact ⟨sr_nil _, HB3.out⟩
  · rw [secret_no hn (fun h => h1 h.1)]
    rw [made_no h1] at HC
    clear h1 hn
    go_enter Tryz.func49, Tryz.ntmps49
    go_wp2_with fail
    refine HC.out.mono ?_
    rintro e w1 ⟨⟨T, hT, rfl⟩, hb1⟩
    have HB1 := zh hb1
    clear hb1 hT
    dsimp only
    go_wp2
    go_ret2
    exact ⟨sr_nil _, HB1.out⟩
end Go.Proofs.YtbdealddjonobaaGreat.Draw

namespace Go.Proofs.YtbdealddjonobaaGreat.Reg
open Wire Term Clo Draw

def Sz (d : Nat) (l : List UInt8) : Prop := l ≠ [] ∧ size d l = l.length
theorem sz_right {d : Nat} {l : List UInt8} (h : Sz d l) (hd : d ≤ 40) (hl : l.length ≤ 4000) : right l = true := by
  refine right_iff.2 ⟨h.1, hl, ?_⟩
  rw [← h.2]
  exact size_mono hd (by rw [h.2]; exact fun e => h.1 (List.eq_nil_of_length_eq_zero e))
theorem sz_up {d e : Nat} {l : List UInt8} (h : Sz d l) (hd : d ≤ e) : Sz e l :=
  ⟨h.1, by rw [size_mono hd (by rw [h.2]; exact fun e => h.1 (List.eq_nil_of_length_eq_zero e))]; exact h.2⟩
theorem sz_one {d : Nat} {k : UInt8} {a : List UInt8} (hk : k = 104 ∨ k = 117) (h : Sz d a) : Sz (d + 1) (k :: a) := ⟨List.cons_ne_nil _ _, size_one hk h.2 h.1⟩
theorem sz_pair {d : Nat} {a b : List UInt8} (ha : Sz d a) (hb : Sz d b) : Sz (d + 1) (112 :: (a ++ b)) := ⟨List.cons_ne_nil _ _, size_pair ha.2 ha.1 hb.2 hb.1⟩
theorem sz_atom (d : Nat) {n : Nat} (hn : n < 18446744073709551616) : Sz (d + 1) (ofAtom n) := ⟨List.cons_ne_nil _ _, size_atom d hn⟩
theorem sz_txt (d : Nat) {use who : List UInt8} (h : (use ++ 58 :: who).length ≤ 3000) : Sz (d + 1) (txt use who) := ⟨List.cons_ne_nil _ _, size_txt d h⟩

def hs (k : Nat) (t : List UInt8) : List UInt8 := List.replicate k 104 ++ t
theorem hs_len (k : Nat) (t : List UInt8) : (hs k t).length = k + t.length := by simp [hs]
theorem hs_down {k : Nat} {t : List UInt8} (h : right (hs (k + 1) t) = true) : right (hs k t) = true := (pts_one h (.inl rfl)).2
theorem hs_less {j k : Nat} {t : List UInt8} (hjk : j ≤ k) (h : right (hs k t) = true) : right (hs j t) = true := by
  induction k with
  | zero => rw [Nat.le_zero.1 hjk]; exact h
  | succ k ih =>
    rcases Nat.lt_or_ge k j with h1 | h1
    · rw [show j = k + 1 by omega]; exact h
    · exact ih h1 (hs_down h)
theorem sz_hs {d : Nat} {t : List UInt8} (h : Sz d t) : ∀ k, Sz (d + k) (hs k t)
  | 0 => h
  | k + 1 => sz_one (.inl rfl) (sz_hs h k)
def backN (t : List UInt8) (k : Nat) : List UInt8 × Int := if right (hs k t) = true then (hs k t, 0) else ([], 10)
def back (t : List UInt8) (steps : Int) : List UInt8 × Int := if right t = true ∧ 0 ≤ steps then backN t steps.toNat else ([], 1)
def state (t : List UInt8) (ep : Int) : List UInt8 × Int := if right t = true then (if 0 ≤ ep ∧ ep ≤ 7 then backN t (7 - ep).toNat else ([], 9)) else ([], 1)
theorem backN_yes {t : List UInt8} {k : Nat} (h : right (hs k t) = true) : backN t k = (hs k t, 0) := by unfold backN; rw [if_pos h]
theorem backN_no {t : List UInt8} {k : Nat} (h : ¬ right (hs k t) = true) : backN t k = ([], 10) := by unfold backN; rw [if_neg h]
theorem backN_cases (t : List UInt8) (k : Nat) : (right (hs k t) = true ∧ backN t k = (hs k t, 0)) ∨ (right (hs k t) = false ∧ backN t k = ([], 10)) := by
  by_cases h : right (hs k t) = true
  · exact .inl ⟨h, backN_yes h⟩
  · exact .inr ⟨by simpa using h, backN_no h⟩
theorem back_of {t : List UInt8} {steps : Int} (hr : right t = true) (hs : 0 ≤ steps) : back t steps = backN t steps.toNat := by unfold back; rw [if_pos ⟨hr, hs⟩]
theorem back_not {t : List UInt8} {steps : Int} (h : ¬ (right t = true ∧ 0 ≤ steps)) : back t steps = ([], 1) := by unfold back; rw [if_neg h]
theorem state_of {t : List UInt8} {ep : Int} (hr : right t = true) (h0 : 0 ≤ ep) (h7 : ep ≤ 7) : state t ep = back t (7 - ep) := by
  unfold state; rw [if_pos hr, if_pos ⟨h0, h7⟩, back_of hr (by omega)]
theorem state_out {t : List UInt8} {ep : Int} (hr : right t = true) (h : ¬ (0 ≤ ep ∧ ep ≤ 7)) : state t ep = ([], 9) := by unfold state; rw [if_pos hr, if_neg h]
theorem state_not {t : List UInt8} {ep : Int} (hr : ¬ right t = true) : state t ep = ([], 1) := by unfold state; rw [if_neg hr]
theorem one_hs {t : List UInt8} {i : Nat} (h : right (hs i t) = true) : one 104 (hs i t) = made (hs (i + 1) t) := by unfold one; rw [if_pos h]; rfl
theorem backN_short {t : List UInt8} {i k : Nat} (hik : i ≤ k) (h : ¬ right (hs i t) = true) : backN t k = ([], 10) := backN_no fun h2 => h (hs_less hik h2)

theorem put_byte {n : Nat} (h1 : 0 < n) (h2 : n ≤ 255) : put n = [1, n.toUInt8] := by
  unfold put
  rw [dig_pos (by omega), show n / 256 = 0 by omega, dig_zero, show n % 256 = n by omega]; rfl
def keyT : List UInt8 := [116, 1, 3, 107, 101, 121]
def keyp (t : List UInt8) : List UInt8 := 112 :: (keyT ++ t)
def keyh (t : List UInt8) : List UInt8 := 104 :: keyp t
def key (t : List UInt8) : List UInt8 × Int := if right t = true then (if right (keyp t) = true then made (keyh t) else ([], 10)) else ([], 1)
def rootS (n : Nat) : List UInt8 := sech [114, 111, 111, 116] [120] n
theorem root_eq : txt [114, 111, 111, 116] [120] = [116, 1, 6, 114, 111, 111, 116, 58, 120] := by
  show 116 :: (put 6 ++ [114, 111, 111, 116, 58, 120]) = _
  rw [put_byte (by decide) (by decide)]; rfl
theorem root_sz {n : Nat} (hn : n < 18446744073709551616) : Sz 3 (rootS n) ∧ (rootS n).length ≤ 40 := by
  have h1 : Sz 1 (txt [114, 111, 111, 116] [120]) := sz_txt 0 (by simp)
  have h2 : Sz 1 (ofAtom n) := sz_atom 0 hn
  refine ⟨sz_one (.inl rfl) (sz_pair h1 h2), ?_⟩
  have h3 := (put_le hn).2
  have h4 : (txt [114, 111, 111, 116] [120]).length = 9 := by rw [root_eq]; rfl
  unfold rootS sech prs ofAtom
  rw [List.length_cons, List.length_cons, List.length_append, List.length_cons, h4]
  omega
end Go.Proofs.YtbdealddjonobaaGreat.Reg

namespace Go.Proofs.YtbdealddjonobaaGreat.Reg
open Go.RowKit Wire Term Clo Draw

theorem backN_step {t : List UInt8} {i : Nat} (hi : right (hs i t) = true) : (right (hs (i + 1) t) = true ∧ one 104 (hs i t) = (hs (i + 1) t, 0)) ∨ (¬ right (hs (i + 1) t) = true ∧ one 104 (hs i t) = ([], 10)) := by
  rw [one_hs hi]
  by_cases h : right (hs (i + 1) t) = true
  · exact .inl ⟨h, made_yes h⟩
  · exact .inr ⟨h, made_no h⟩
theorem Bel.call {w0 w1 w2 : World} (h : Below w0.heap.size w0 w1) (h2 : Below w1.heap.size w1 w2) : Below w0.heap.size w0 w2 := h.trans (h2.mono h.size)
def At (s : ByteArray) (w0 : World) (i : Nat) (v : Value) (wr : World) : Prop := ∃ T : ByteArray, v = .string T ∧ T.data.toList = hs i s.data.toList ∧ right (hs i s.data.toList) = true ∧ Below w0.heap.size w0 wr
set_option maxHeartbeats 4000000 in
set_option maxRecDepth 1000000 in
theorem rback_any (s : ByteArray) (steps : Int) (w : World) (hz : s.size ≤ 140737488355328) (hst : -9223372036854775808 ≤ steps ∧ steps ≤ 9223372036854775807) :
    Calls Tryz.prog 78 #[.string s, .int .i64 steps] w fun e w' => Sr (back s.data.toList steps) e ∧ Below w.heap.size w w' := by
  obtain ⟨hst1, hst2⟩ := hst
  cases hr : right s.data.toList with
  | false =>
    have HR := zh hr
    rw [back_not (fun h => by rw [hr] at h; exact absurd h.1 (by decide))]
    clear hr
    go_enter Tryz.func78, Tryz.ntmps78
    go_wp2_with fail
    refine (Term.right_any s _ hz).mono ?_
    rw [HR.out]
    rintro e w1 ⟨rfl, hb1⟩
    have HB1 := zh hb1
    clear hb1
    dsimp only
    go_wp2
    go_ret2
    exact ⟨sr_nil _, HB1.out⟩
  | true =>
    have HR := zh hr
    by_cases hneg : steps < 0
    · rw [back_not (fun h => by omega)]
      clear hr
      go_enter Tryz.func78, Tryz.ntmps78
      go_wp2_with fail
      refine (Term.right_any s _ hz).mono ?_
      rw [HR.out]
      rintro e w1 ⟨rfl, hb1⟩
      have HB1 := zh hb1
      clear hb1
      dsimp only
      go_wp2
      go_ret2
      exact ⟨sr_nil _, HB1.out⟩
    · obtain ⟨k, rfl⟩ : ∃ k : Nat, steps = (k : Int) := ⟨steps.toNat, by omega⟩
      rw [back_of hr (by omega), show ((k : Int)).toNat = k by omega]
      obtain ⟨r, hrr⟩ : ∃ r, backN s.data.toList k = r := ⟨_, rfl⟩
      have HRR := zh hrr
      have HRS := zh hr
      rw [hrr]
      clear hr hrr
      go_enter Tryz.func78, Tryz.ntmps78
      go_wp2_with fail
      refine (Term.right_any s _ hz).mono ?_
      rw [HR.out]
      rintro e w1 ⟨rfl, hb1⟩
      have HB1 := zh hb1
      clear hb1
      dsimp only
      have HAT : Hid (At s w 0 (.string s) w1) := ⟨s, rfl, rfl, HRS.out, HB1.out⟩
      clear HB1
      go_wp2_with fail
      go_loopw [0, 1] (fun v i wr => ∃ j : Nat, j ≤ k ∧ i = .int .i64 ((k : Int) - j) ∧ Hid (At s w j v wr)) (fun _ i _ => (intOf i).toNat)
      case atStart => exact ⟨0, Nat.zero_le _, by simp, HAT⟩
      case round =>
        clear HAT
        obtain ⟨j, hj, rfl, HAT⟩ := hrel
        obtain ⟨T, rfl, hT, hrT, hb⟩ := HAT.out
        have hTz : T.size ≤ 4000 := by rw [Lib.size_eq, hT]; exact (right_len hrT).2
        have HB := zh hb
        have HT := zh hT
        have HRT := zh hrT
        clear HAT hT hrT hb
        by_cases hlt : (j : Int) < (k : Int)
        · rcases backN_step HRT.out with ⟨h1, h2⟩ | ⟨h1, h2⟩
          · have H1 := zh h1
            have H2 := zh h2
            clear h1 h2
            go_wp2_with fail
            refine (ofHash_any T _ (by omega)).mono ?_
            rw [HT.out, H2.out]
            rintro e w2 ⟨⟨T2, hT2, rfl⟩, hb2⟩
            have HAT : Hid (At s w (j + 1) (.string T2) w2) := ⟨T2, rfl, hT2, H1.out, Bel.call HB.out hb2⟩
            clear hT2 hb2
            dsimp only
            go_wp2
            go_roundw
            case rel => exact ⟨j + 1, by omega, by go_num, HAT⟩
            case measure => simp [intOf]; omega
          · have HNO : Hid (r = ([], 10)) := by rw [← HRR.out]; exact backN_short (i := j + 1) (by omega) h1
            have H2 := zh h2
            clear h1 h2
            go_wp2_with fail
            refine (ofHash_any T _ (by omega)).mono ?_
            rw [HT.out, H2.out]
            rintro e w2 ⟨⟨T2, hT2, rfl⟩, hb2⟩
            have HB2 := zh (Bel.call HB.out hb2)
            clear hT2 hb2
            dsimp only
            go_wp2
            go_ret2
            exact ⟨by rw [HNO.out]; exact sr_nil _, HB2.out⟩
        · obtain rfl : j = k := by omega
          have HNO : Hid (r = (hs j s.data.toList, 0)) := by rw [← HRR.out]; exact backN_yes HRT.out
          go_wp2
          go_ret2
          exact ⟨by rw [HNO.out]; exact ⟨T, HT.out, rfl⟩, HB.out⟩
set_option maxHeartbeats 4000000 in
set_option maxRecDepth 1000000 in
theorem rstate_any (s : ByteArray) (ep : Int) (w : World) (hz : s.size ≤ 140737488355328) (hep : -9223372036854775808 ≤ ep ∧ ep ≤ 9223372036854775807) :
    Calls Tryz.prog 38 #[.string s, .int .i64 ep] w fun e w' => Sr (state s.data.toList ep) e ∧ Below w.heap.size w w' := by
  obtain ⟨hep1, hep2⟩ := hep
  cases hr : right s.data.toList with
  | false =>
    have HR := zh hr
    rw [state_not (by rw [hr]; decide)]
    clear hr
    go_enter Tryz.func38, Tryz.ntmps38
    go_wp2_with fail
    refine (Term.right_any s _ hz).mono ?_
    rw [HR.out]
    rintro e w1 ⟨rfl, hb1⟩
    have HB1 := zh hb1
    clear hb1
    dsimp only
    go_wp2
    go_ret2
    exact ⟨sr_nil _, HB1.out⟩
  | true =>
    have HR := zh hr
    by_cases h0 : ep < 0
    · rw [state_out hr (by omega)]
      clear hr
      go_enter Tryz.func38, Tryz.ntmps38
      go_wp2_with fail
      refine (Term.right_any s _ hz).mono ?_
      rw [HR.out]
      rintro e w1 ⟨rfl, hb1⟩
      have HB1 := zh hb1
      clear hb1
      dsimp only
      go_wp2
      go_ret2
      exact ⟨sr_nil _, HB1.out⟩
    by_cases h7 : 7 < ep
    · rw [state_out hr (by omega)]
      clear hr
      go_enter Tryz.func38, Tryz.ntmps38
      go_wp2_with fail
      refine (Term.right_any s _ hz).mono ?_
      rw [HR.out]
      rintro e w1 ⟨rfl, hb1⟩
      have HB1 := zh hb1
      clear hb1
      dsimp only
      go_wp2
      go_ret2
      exact ⟨sr_nil _, HB1.out⟩
    · rw [state_of hr (by omega) (by omega)]
      have HBK := zh fun w => rback_any s (7 - ep) w hz (by omega)
      obtain ⟨x, f, hx⟩ : ∃ x f, back s.data.toList (7 - ep) = (x, f) := ⟨_, _, rfl⟩
      rw [hx] at HBK ⊢
      clear hr hx
      go_enter Tryz.func38, Tryz.ntmps38
      go_wp2_with fail
      refine (Term.right_any s _ hz).mono ?_
      rw [HR.out]
      rintro e w1 ⟨rfl, hb1⟩
      have HB1 := zh hb1
      clear hb1
      dsimp only
      go_wp2_with fail
      refine (HBK.out _).mono ?_
      rintro e w2 ⟨⟨T, hT, rfl⟩, hb2⟩
      have HB2 := zh (Bel.call HB1.out hb2)
      have HT := zh hT
      clear hT hb2
      dsimp only
      go_wp2
      go_ret2
      exact ⟨⟨T, HT.out, rfl⟩, HB2.out⟩
end Go.Proofs.YtbdealddjonobaaGreat.Reg

