/-
  CONTRACTS of the code's Kind, Number, Words, Read, Open, Verify (package term). By an AI agent; no person has read it.
-/
import Derived.Test.YtahlilhdiklemaaTWhole
namespace Go.Proofs.Ytahlilhdiklemaa.Term
open Go.RowKit Wire

theorem cuts_one {P : List UInt8} (h : right P = true) : cuts 1 P = [P] := by
  have h1 := right_size h []
  rw [List.append_nil] at h1
  show P.take (size 40 P) :: [] = _
  rw [h1, List.take_length]
theorem cuts_two {P Q : List UInt8} (h : right P = true) (h2 : right Q = true) : cuts 2 (P ++ Q) = [P, Q] := by
  have h1 := right_size h Q
  show (P ++ Q).take (size 40 (P ++ Q)) :: cuts 1 ((P ++ Q).drop (size 40 (P ++ Q))) = _
  rw [h1, List.take_left, List.drop_left, cuts_one h2]
theorem Wh.zero {l : List UInt8} {e : Ending} (h : Wh l e) (h0 : right l = false) : e = .returned .nilIface := by
  rcases h with ⟨_, h⟩ | ⟨h, _⟩
  · exact h
  · rw [h0] at h; cases h
theorem Wh.pos {l : List UInt8} {e : Ending} (h : Wh l e) (h0 : right l = true) : ∃ (T : TypeId) (a : Value), Shp l (.iface T a) ∧ e = .returned (.iface T a) := by
  rcases h with ⟨h, _⟩ | ⟨_, h⟩
  · rw [h0] at h; cases h
  · exact h
theorem Shp.of_atom {l : List UInt8} {T : TypeId} {a : Value} (h : Shp l (.iface T a)) (hx : l.headD 0 = 97) : T = 95 ∧ ∃ n : Nat, a = .agg #[.int .u64 n] ∧ n < 18446744073709551616 ∧ l = 97 :: put n := by
  rcases h with ⟨_, hp, hl, h⟩ | ⟨_, hp, hl, h⟩ | ⟨_, hp, hl, h⟩ | ⟨_, hp, hl, h⟩ | ⟨_, _, hp, hl, h⟩ | ⟨_, _, hp, hl, h⟩ | ⟨_, _, hp, hl, h⟩ | ⟨_, _, hp, hl, h⟩
  case inl => injection h with h1 h2; exact ⟨h1, _, h2, hp, hl⟩
  all_goals (rw [hl] at hx; simp at hx)
theorem Shp.no_atom {l : List UInt8} {T : TypeId} {a : Value} (h : Shp l (.iface T a)) (hx : l.headD 0 ≠ 97) : T ≠ 95 := by
  rcases h with ⟨_, hp, hl, h⟩ | ⟨_, hp, hl, h⟩ | ⟨_, hp, hl, h⟩ | ⟨_, hp, hl, h⟩ | ⟨_, _, hp, hl, h⟩ | ⟨_, _, hp, hl, h⟩ | ⟨_, _, hp, hl, h⟩ | ⟨_, _, hp, hl, h⟩
  case inl => exact absurd (by rw [hl]; rfl) hx
  all_goals (injection h with h1 _; rw [h1]; decide)
theorem Shp.of_text {l : List UInt8} {T : TypeId} {a : Value} (h : Shp l (.iface T a)) (hx : l.headD 0 = 116) : T = 99 ∧ ∃ W : ByteArray, a = .agg #[.string W] ∧ W.size ≤ 4000 ∧ l = 116 :: putText W.data.toList := by
  rcases h with ⟨_, hp, hl, h⟩ | ⟨_, hp, hl, h⟩ | ⟨_, hp, hl, h⟩ | ⟨_, hp, hl, h⟩ | ⟨_, _, hp, hl, h⟩ | ⟨_, _, hp, hl, h⟩ | ⟨_, _, hp, hl, h⟩ | ⟨_, _, hp, hl, h⟩
  case inr.inl => injection h with h1 h2; exact ⟨h1, _, h2, hp, hl⟩
  all_goals (rw [hl] at hx; simp at hx)
theorem Shp.no_text {l : List UInt8} {T : TypeId} {a : Value} (h : Shp l (.iface T a)) (hx : l.headD 0 ≠ 116) : T ≠ 99 := by
  rcases h with ⟨_, hp, hl, h⟩ | ⟨_, hp, hl, h⟩ | ⟨_, hp, hl, h⟩ | ⟨_, hp, hl, h⟩ | ⟨_, _, hp, hl, h⟩ | ⟨_, _, hp, hl, h⟩ | ⟨_, _, hp, hl, h⟩ | ⟨_, _, hp, hl, h⟩
  case inr.inl => exact absurd (by rw [hl]; rfl) hx
  all_goals (injection h with h1 _; rw [h1]; decide)
theorem Shp.of_publicOne {l : List UInt8} {T : TypeId} {a : Value} (h : Shp l (.iface T a)) (hx : l.headD 0 = 117) : T = 103 ∧ ∃ P : ByteArray, a = .agg #[.string P] ∧ right P.data.toList = true ∧ l = 117 :: P.data.toList := by
  rcases h with ⟨_, hp, hl, h⟩ | ⟨_, hp, hl, h⟩ | ⟨_, hp, hl, h⟩ | ⟨_, hp, hl, h⟩ | ⟨_, _, hp, hl, h⟩ | ⟨_, _, hp, hl, h⟩ | ⟨_, _, hp, hl, h⟩ | ⟨_, _, hp, hl, h⟩
  case inr.inr.inr.inl => injection h with h1 h2; exact ⟨h1, _, h2, hp, hl⟩
  all_goals (rw [hl] at hx; simp at hx)
theorem Shp.no_publicOne {l : List UInt8} {T : TypeId} {a : Value} (h : Shp l (.iface T a)) (hx : l.headD 0 ≠ 117) : T ≠ 103 := by
  rcases h with ⟨_, hp, hl, h⟩ | ⟨_, hp, hl, h⟩ | ⟨_, hp, hl, h⟩ | ⟨_, hp, hl, h⟩ | ⟨_, _, hp, hl, h⟩ | ⟨_, _, hp, hl, h⟩ | ⟨_, _, hp, hl, h⟩ | ⟨_, _, hp, hl, h⟩
  case inr.inr.inr.inl => exact absurd (by rw [hl]; rfl) hx
  all_goals (injection h with h1 _; rw [h1]; decide)
theorem Shp.of_sealed {l : List UInt8} {T : TypeId} {a : Value} (h : Shp l (.iface T a)) (hx : l.headD 0 = 115) : T = 107 ∧ ∃ P Q : ByteArray, a = .agg #[.string P, .string Q] ∧ right P.data.toList = true ∧ right Q.data.toList = true ∧ l = 115 :: (P.data.toList ++ Q.data.toList) := by
  rcases h with ⟨_, hp, hl, h⟩ | ⟨_, hp, hl, h⟩ | ⟨_, hp, hl, h⟩ | ⟨_, hp, hl, h⟩ | ⟨_, _, hp, hl, h⟩ | ⟨_, _, hp, hl, h⟩ | ⟨_, _, hp, hl, h⟩ | ⟨_, _, hp, hl, h⟩
  case inr.inr.inr.inr.inr.inl => injection h with h1 h2; exact ⟨h1, _, _, h2, hp.1, hp.2, hl⟩
  all_goals (rw [hl] at hx; simp at hx)
theorem Shp.no_sealed {l : List UInt8} {T : TypeId} {a : Value} (h : Shp l (.iface T a)) (hx : l.headD 0 ≠ 115) : T ≠ 107 := by
  rcases h with ⟨_, hp, hl, h⟩ | ⟨_, hp, hl, h⟩ | ⟨_, hp, hl, h⟩ | ⟨_, hp, hl, h⟩ | ⟨_, _, hp, hl, h⟩ | ⟨_, _, hp, hl, h⟩ | ⟨_, _, hp, hl, h⟩ | ⟨_, _, hp, hl, h⟩
  case inr.inr.inr.inr.inr.inl => exact absurd (by rw [hl]; rfl) hx
  all_goals (injection h with h1 _; rw [h1]; decide)
theorem Shp.of_boxed {l : List UInt8} {T : TypeId} {a : Value} (h : Shp l (.iface T a)) (hx : l.headD 0 = 98) : T = 112 ∧ ∃ P Q : ByteArray, a = .agg #[.string P, .string Q] ∧ right P.data.toList = true ∧ right Q.data.toList = true ∧ l = 98 :: (P.data.toList ++ Q.data.toList) := by
  rcases h with ⟨_, hp, hl, h⟩ | ⟨_, hp, hl, h⟩ | ⟨_, hp, hl, h⟩ | ⟨_, hp, hl, h⟩ | ⟨_, _, hp, hl, h⟩ | ⟨_, _, hp, hl, h⟩ | ⟨_, _, hp, hl, h⟩ | ⟨_, _, hp, hl, h⟩
  case inr.inr.inr.inr.inr.inr.inr => injection h with h1 h2; exact ⟨h1, _, _, h2, hp.1, hp.2.1, hl⟩
  all_goals (rw [hl] at hx; simp at hx)
theorem Shp.no_boxed {l : List UInt8} {T : TypeId} {a : Value} (h : Shp l (.iface T a)) (hx : l.headD 0 ≠ 98) : T ≠ 112 := by
  rcases h with ⟨_, hp, hl, h⟩ | ⟨_, hp, hl, h⟩ | ⟨_, hp, hl, h⟩ | ⟨_, hp, hl, h⟩ | ⟨_, _, hp, hl, h⟩ | ⟨_, _, hp, hl, h⟩ | ⟨_, _, hp, hl, h⟩ | ⟨_, _, hp, hl, h⟩
  case inr.inr.inr.inr.inr.inr.inr => exact absurd (by rw [hl]; rfl) hx
  all_goals (injection h with h1 _; rw [h1]; decide)
theorem Shp.of_signed {l : List UInt8} {T : TypeId} {a : Value} (h : Shp l (.iface T a)) (hx : l.headD 0 = 103) : T = 109 ∧ ∃ P Q : ByteArray, a = .agg #[.string P, .string Q] ∧ right P.data.toList = true ∧ right Q.data.toList = true ∧ l = 103 :: (P.data.toList ++ Q.data.toList) := by
  rcases h with ⟨_, hp, hl, h⟩ | ⟨_, hp, hl, h⟩ | ⟨_, hp, hl, h⟩ | ⟨_, hp, hl, h⟩ | ⟨_, _, hp, hl, h⟩ | ⟨_, _, hp, hl, h⟩ | ⟨_, _, hp, hl, h⟩ | ⟨_, _, hp, hl, h⟩
  case inr.inr.inr.inr.inr.inr.inl => injection h with h1 h2; exact ⟨h1, _, _, h2, hp.1, hp.2, hl⟩
  all_goals (rw [hl] at hx; simp at hx)
theorem Shp.no_signed {l : List UInt8} {T : TypeId} {a : Value} (h : Shp l (.iface T a)) (hx : l.headD 0 ≠ 103) : T ≠ 109 := by
  rcases h with ⟨_, hp, hl, h⟩ | ⟨_, hp, hl, h⟩ | ⟨_, hp, hl, h⟩ | ⟨_, hp, hl, h⟩ | ⟨_, _, hp, hl, h⟩ | ⟨_, _, hp, hl, h⟩ | ⟨_, _, hp, hl, h⟩ | ⟨_, _, hp, hl, h⟩
  case inr.inr.inr.inr.inr.inr.inl => exact absurd (by rw [hl]; rfl) hx
  all_goals (injection h with h1 _; rw [h1]; decide)
theorem Shp.of_hash {l : List UInt8} {T : TypeId} {a : Value} (h : Shp l (.iface T a)) (hx : l.headD 0 = 104) : T = 101 ∧ ∃ P : ByteArray, a = .agg #[.string P] ∧ right P.data.toList = true ∧ l = 104 :: P.data.toList := by
  rcases h with ⟨_, hp, hl, h⟩ | ⟨_, hp, hl, h⟩ | ⟨_, hp, hl, h⟩ | ⟨_, hp, hl, h⟩ | ⟨_, _, hp, hl, h⟩ | ⟨_, _, hp, hl, h⟩ | ⟨_, _, hp, hl, h⟩ | ⟨_, _, hp, hl, h⟩
  case inr.inr.inl => injection h with h1 h2; exact ⟨h1, _, h2, hp, hl⟩
  all_goals (rw [hl] at hx; simp at hx)
theorem Shp.no_hash {l : List UInt8} {T : TypeId} {a : Value} (h : Shp l (.iface T a)) (hx : l.headD 0 ≠ 104) : T ≠ 101 := by
  rcases h with ⟨_, hp, hl, h⟩ | ⟨_, hp, hl, h⟩ | ⟨_, hp, hl, h⟩ | ⟨_, hp, hl, h⟩ | ⟨_, _, hp, hl, h⟩ | ⟨_, _, hp, hl, h⟩ | ⟨_, _, hp, hl, h⟩ | ⟨_, _, hp, hl, h⟩
  case inr.inr.inl => exact absurd (by rw [hl]; rfl) hx
  all_goals (injection h with h1 _; rw [h1]; decide)
theorem Shp.of_pair {l : List UInt8} {T : TypeId} {a : Value} (h : Shp l (.iface T a)) (hx : l.headD 0 = 112) : T = 105 ∧ ∃ P Q : ByteArray, a = .agg #[.string P, .string Q] ∧ right P.data.toList = true ∧ right Q.data.toList = true ∧ l = 112 :: (P.data.toList ++ Q.data.toList) := by
  rcases h with ⟨_, hp, hl, h⟩ | ⟨_, hp, hl, h⟩ | ⟨_, hp, hl, h⟩ | ⟨_, hp, hl, h⟩ | ⟨_, _, hp, hl, h⟩ | ⟨_, _, hp, hl, h⟩ | ⟨_, _, hp, hl, h⟩ | ⟨_, _, hp, hl, h⟩
  case inr.inr.inr.inr.inl => injection h with h1 h2; exact ⟨h1, _, _, h2, hp.1, hp.2, hl⟩
  all_goals (rw [hl] at hx; simp at hx)
theorem Shp.no_pair {l : List UInt8} {T : TypeId} {a : Value} (h : Shp l (.iface T a)) (hx : l.headD 0 ≠ 112) : T ≠ 105 := by
  rcases h with ⟨_, hp, hl, h⟩ | ⟨_, hp, hl, h⟩ | ⟨_, hp, hl, h⟩ | ⟨_, hp, hl, h⟩ | ⟨_, _, hp, hl, h⟩ | ⟨_, _, hp, hl, h⟩ | ⟨_, _, hp, hl, h⟩ | ⟨_, _, hp, hl, h⟩
  case inr.inr.inr.inr.inl => exact absurd (by rw [hl]; rfl) hx
  all_goals (injection h with h1 _; rw [h1]; decide)
theorem number_of {l : List UInt8} {n : Nat} (hr : right l = true) (h : l = 97 :: put n) (hn : n < 18446744073709551616) : number l = (n, 0) := by
  have h2 := take_put hn (r := [])
  rw [List.append_nil] at h2
  subst h
  unfold number
  rw [if_pos hr, if_pos (show (97 :: put n).headD 0 = 97 from rfl)]
  show ((tk (put n)).1, (tk (put n)).2.2) = _
  rw [tk_some h2]
theorem number_not {l : List UInt8} (hr : right l = true) (h : l.headD 0 ≠ 97) : number l = (0, 2) := by unfold number; rw [if_pos hr, if_neg h]
theorem number_wrong {l : List UInt8} (hr : right l = false) : number l = (0, 1) := by unfold number; rw [if_neg (by rw [hr]; decide)]
theorem words_of {l : List UInt8} {W : List UInt8} (hr : right l = true) (h : l = 116 :: putText W) (hn : W.length ≤ 4000) : words l = (W, 0) := by
  have h2 := text_put (t := W) (by omega) [] 4000 (by omega)
  rw [List.append_nil] at h2
  subst h
  unfold words
  rw [if_pos hr, if_pos (show (116 :: putText W).headD 0 = 116 from rfl)]
  show ((text (putText W) 4000).1, (text (putText W) 4000).2.2) = _
  rw [h2]
theorem words_not {l : List UInt8} (hr : right l = true) (h : l.headD 0 ≠ 116) : words l = ([], 2) := by unfold words; rw [if_pos hr, if_neg h]
theorem words_wrong {l : List UInt8} (hr : right l = false) : words l = ([], 1) := by unfold words; rw [if_neg (by rw [hr]; decide)]
theorem opens_of {k : UInt8} {key P Q : List UInt8} (hr : right (k :: (P ++ Q)) = true) (hk : arity k = some 2) (h : right P = true) (h2 : right Q = true) : opens k key (k :: (P ++ Q)) = if P = key then (Q, 0) else ([], 6) := by
  have hp : parts (k :: (P ++ Q)) = ([P, Q], 0) := by
    unfold parts
    rw [if_pos hr]
    show (cuts ((arity k).getD 0) (P ++ Q), 0) = _
    rw [hk]
    show (cuts 2 (P ++ Q), 0) = _
    rw [cuts_two h h2]
  unfold opens
  rw [if_pos (show (k :: (P ++ Q)).headD 0 = k from rfl), hp]
  rfl
theorem opens_not {k : UInt8} {key c : List UInt8} (h : c.headD 0 ≠ k) : opens k key c = ([], 2) := by unfold opens; rw [if_neg h]

set_option maxHeartbeats 1000000 in
theorem t_Kind (a : ByteArray) (w : World) (_ : a.size ≤ 140737488355328) :
    Calls Try.prog 31 #[.string a] w fun e w' => e = .returned (.int .u8 (kind a.data.toList : Nat)) ∧ Below w.heap.size w w' := by
  have q0 := nil_no
  have q1 := nil_yes
  cases hr : right a.data.toList with
  | true =>
    have HR := Lib.hid hr
    have hz := (right_sz hr).1
    have hz1 : (0 : Int) < (a.size : Int) := by omega
    have hh := head_get hz
    have hm : kind a.data.toList = (a[0]'hz).toNat := by
      unfold kind; rw [if_pos hr]
      cases hl : a.data.toList with
      | nil => rw [hl] at hh; cases hh
      | cons x y => rw [hl] at hh; rw [← Option.some.inj hh]; rfl
    rw [hm]
    clear hr hm hh
    go_enter Try.func31, Try.ntmps31
    go_wp2_with (go_at_call 37; refine (whole_any a _).mono ?_; rintro e w1 ⟨ht, hb1⟩; obtain ⟨T, v, hsh, rfl⟩ := ht.pos HR.out; have HB1 := Lib.hid hb1; clear hb1 ht hsh)
    go_ret
    exact ⟨rfl, HB1.out⟩
  | false =>
    have HR := Lib.hid hr
    have hm : kind a.data.toList = 0 := by unfold kind; rw [if_neg (by rw [hr]; decide)]
    rw [hm]
    clear hr hm
    go_enter Try.func31, Try.ntmps31
    go_wp2_with (go_at_call 37; refine (whole_any a _).mono ?_; rintro e w1 ⟨ht, hb1⟩; obtain rfl := ht.zero HR.out; have HB1 := Lib.hid hb1; clear hb1 ht)
    go_ret
    exact ⟨rfl, HB1.out⟩
end Go.Proofs.Ytahlilhdiklemaa.Term
