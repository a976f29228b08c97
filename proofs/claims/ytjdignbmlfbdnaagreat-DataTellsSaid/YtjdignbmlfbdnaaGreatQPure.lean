/-
  PLAIN FACTS, OF NO PROGRAM: blobs (layer 9): what is built, a blob's bytes, what bytes are, what is opened. By an AI agent; no person has read it.
-/
import Derived.Test.YtjdignbmlfbdnaaGreatQConst
namespace Go.Proofs.YtjdignbmlfbdnaaGreat.Dta
open Wire Term Draw Reg Clo

def isPath (p : Tm) : Bool := (Txt.split p).isSome
/-- A blob. -/
structure Bb where
  ep : Int
  sl : Tm
  sg : Tm
def bzero : Bb := ⟨0, [], []⟩
def BR (b : Bb) : Prop := (0 ≤ b.ep ∧ b.ep ≤ 7) ∧ kind b.sl = 115 ∧ kind b.sg = 103
instance (b : Bb) : Decidable (BR b) := by unfold BR; infer_instance
def txtT (s : Tm) : Tm := 116 :: putText s
def inner (path c : Tm) : Tm := 112 :: (txtT path ++ txtT c)
def said (ep : Int) (sl : Tm) : Tm × Int := two 112 (ofAtom ep.toNat) sl
def sealB (st path c : Tm) : Tm × Int := if (key st).2 ≠ 0 then ([], 10) else if (two 115 (key st).1 (inner path c)).2 ≠ 0 then ([], 10) else ((two 115 (key st).1 (inner path c)).1, 0)
def signB (ep : Int) (sn sl : Tm) : Tm × Int := if (said ep sl).2 ≠ 0 then ([], 10) else if (two 103 sn (said ep sl).1).2 ≠ 0 then ([], 10) else ((two 103 sn (said ep sl).1).1, 0)
def ArgB (st : Tm) (ep : Int) (sn path : Tm) : Prop := (0 ≤ ep ∧ ep ≤ 7) ∧ right st = true ∧ right sn = true ∧ isPath path = true
instance (st : Tm) (ep : Int) (sn path : Tm) : Decidable (ArgB st ep sn path) := by unfold ArgB; infer_instance
def build (st : Tm) (ep : Int) (sn path c : Tm) : Bb × Int :=
  if ¬ ArgB st ep sn path then (bzero, 1) else if 64 < c.length then (bzero, 10)
  else if (sealB st path c).2 ≠ 0 then (bzero, 10)
  else if (signB ep sn (sealB st path c).1).2 ≠ 0 then (bzero, 10)
  else (⟨ep, (sealB st path c).1, (signB ep sn (sealB st path c).1).1⟩, 0)
def row (b : Bb) : Tm := putAll [put b.ep.toNat, b.sl, b.sg]
def putB (b : Bb) : Tm × Int := if BR b then (row b, 0) else ([], 1)
def blobOf (l : List Tm) : Bb := ⟨((tk (l.getD 0 [])).1 : Int), l.getD 1 [], l.getD 2 []⟩
def rowOK (l : List Tm) : Prop := (tk (l.getD 0 [])).2.2 = 0 ∧ (tk (l.getD 0 [])).2.1 = [] ∧ (tk (l.getD 0 [])).1 ≤ 7
instance (l : List Tm) : Decidable (rowOK l) := by unfold rowOK; infer_instance
def takeM (m : Int) (s : Tm) : Bb × Int :=
  if (all s 3 m).2 ≠ 0 ∨ (all s 3 m).1.length ≠ 3 then (bzero, 2)
  else if ¬ (rowOK (all s 3 m).1 ∧ BR (blobOf (all s 3 m).1)) then (bzero, 2) else (blobOf (all s 3 m).1, 0)
def takeB (s : Tm) : Bb × Int := takeM 4000 s
def unsealB (st path sl : Tm) : Tm × Int :=
  if (key st).2 ≠ 0 then ([], 7) else
  if (open' (key st).1 sl).2 ≠ 0 then ([], 7) else
  if (open' (key st).1 sl).1.headD 0 ≠ 112 then ([], 7) else
  if (words ((pts (open' (key st).1 sl).1).getD 0 [])).2 ≠ 0 ∨ (words ((pts (open' (key st).1 sl).1).getD 1 [])).2 ≠ 0 then ([], 7) else
  if (words ((pts (open' (key st).1 sl).1).getD 0 [])).1 ≠ path ∨ 64 < (words ((pts (open' (key st).1 sl).1).getD 1 [])).1.length then ([], 7) else
  ((words ((pts (open' (key st).1 sl).1).getD 1 [])).1, 0)
def ArgO (b : Bb) (n : Nat) (st : Tm) (ep : Int) : Prop := BR b ∧ right st = true ∧ (0 ≤ ep ∧ ep ≤ 7) ∧ (n : Int) = ep + 1
instance (b : Bb) (n : Nat) (st : Tm) (ep : Int) : Decidable (ArgO b n st ep) := by unfold ArgO; infer_instance
def openB (b : Bb) (vs : List Tm) (st : Tm) (ep : Int) (path : Tm) : Tm × Int :=
  if ¬ ArgO b vs.length st ep then ([], 1) else
  if ep < b.ep then ([], 7) else
  if (said b.ep b.sl).2 ≠ 0 then ([], 7) else
  if verify (vs.getD b.ep.toNat []) (said b.ep b.sl).1 b.sg ≠ 0 then ([], 7) else
  if (back st (ep - b.ep)).2 ≠ 0 then ([], 7) else
  unsealB (back st (ep - b.ep)).1 path b.sl

/-! ### errors -/
theorem made_two (l : Tm) : (made l).2 = 0 ∨ made l = ([], 10) := by
  unfold made
  split
  · exact .inl rfl
  · exact .inr rfl
theorem two_ten {k : UInt8} {a b : Tm} (ha : right a = true) (hb : right b = true) : (two k a b).2 = 0 ∨ two k a b = ([], 10) := by
  unfold two
  rw [if_pos ⟨ha, hb⟩]
  exact made_two _
theorem key_ten {st : Tm} (h : right st = true) : (key st).2 = 0 ∨ key st = ([], 10) := by
  unfold key
  rw [if_pos h]
  split
  · exact made_two _
  · exact .inr rfl
theorem made_ok {l : Tm} (h : (made l).2 = 0) : right (made l).1 = true ∧ (made l).1 = l := by
  unfold made at h ⊢
  split at h
  · rename_i hr
    rw [if_pos hr]
    exact ⟨hr, rfl⟩
  · cases h
theorem two_ok {k : UInt8} {a b : Tm} (h : (two k a b).2 = 0) : right (two k a b).1 = true ∧ (two k a b).1 = k :: (a ++ b) ∧ right a = true ∧ right b = true := by
  unfold two at h ⊢
  split at h
  · rename_i hr
    rw [if_pos hr]
    exact ⟨(made_ok h).1, (made_ok h).2, hr.1, hr.2⟩
  · cases h
theorem key_ok {st : Tm} (h : (key st).2 = 0) : right (key st).1 = true ∧ (key st).1 = keyh st := by
  unfold key at h ⊢
  split at h
  · rename_i hr
    rw [if_pos hr]
    split at h
    · rename_i h2
      rw [if_pos h2]
      exact made_ok h
    · cases h
  · cases h
theorem back_ok {st : Tm} {k : Int} (h : (back st k).2 = 0) : right (back st k).1 = true ∧ (back st k).1 = hs k.toNat st := by
  unfold back at h ⊢
  split at h
  · rename_i hr
    rw [if_pos hr]
    rcases backN_cases st k.toNat with ⟨h1, h2⟩ | ⟨h1, h2⟩
    · rw [h2]; exact ⟨h1, rfl⟩
    · rw [h2] at h; cases h
  · cases h
theorem kind_is {t : Tm} {k : Nat} (h : kind t = k) (hk : k ≠ 0) : right t = true ∧ (t.headD 0).toNat = k := by
  cases hr : right t with
  | true => rw [kind_right hr] at h; exact ⟨rfl, h⟩
  | false => rw [kind_wrong hr] at h; exact absurd h.symm hk
theorem head_u8 {t : Tm} {k : UInt8} (h : (t.headD 0).toNat = k.toNat) : t.headD 0 = k := UInt8.toNat_inj.1 h
theorem br_sl {b : Bb} (h : BR b) : right b.sl = true ∧ b.sl.headD 0 = 115 := by
  obtain ⟨h1, h2⟩ := kind_is h.2.1 (by decide)
  exact ⟨h1, head_u8 h2⟩
theorem br_sg {b : Bb} (h : BR b) : right b.sg = true ∧ b.sg.headD 0 = 103 := by
  obtain ⟨h1, h2⟩ := kind_is h.2.2 (by decide)
  exact ⟨h1, head_u8 h2⟩
theorem path_len {p : Tm} (h : isPath p = true) : p.length ≤ 257 := by
  unfold isPath at h
  cases hs : Txt.split p with
  | none => rw [hs] at h; cases h
  | some ab =>
    obtain ⟨a, b⟩ := ab
    obtain ⟨h1, h2, h3⟩ := Txt.split_some.1 hs
    have := (Txt.right_len h2).2
    have := (Txt.right_len h3).2
    rw [h1, List.length_append, List.length_cons]
    omega
theorem txtT_right {s : Tm} (h : s.length ≤ 3000) : right (txtT s) = true := ofText_small_right h
theorem txtT_sz (d : Nat) {s : Tm} (h : s.length ≤ 3900) : Sz (d + 1) (txtT s) ∧ (txtT s).length ≤ s.length + 10 := by
  refine ⟨sz_text d h, ?_⟩
  have := (put_le (n := s.length) (by omega)).2
  show (116 :: putText s).length ≤ _
  rw [List.length_cons, putText_len]
  omega
theorem inner_sz (d : Nat) {p c : Tm} (hp : p.length ≤ 257) (hc : c.length ≤ 64) : Sz (d + 2) (inner p c) ∧ (inner p c).length ≤ 342 := by
  have h1 := txtT_sz d (s := p) (by omega)
  have h2 := txtT_sz d (s := c) (by omega)
  refine ⟨sz_two (.inl rfl) h1.1 h2.1, ?_⟩
  unfold inner
  rw [List.length_cons, List.length_append]
  omega
theorem inner_right {p c : Tm} (hp : p.length ≤ 257) (hc : c.length ≤ 64) : right (inner p c) = true := sz_right (inner_sz 0 hp hc).1 (by omega) (by have := (inner_sz 0 hp hc).2; omega)
theorem inner_is {p c : Tm} (hp : p.length ≤ 257) (hc : c.length ≤ 64) : two 112 (txtT p) (txtT c) = (inner p c, 0) := by
  unfold two
  rw [if_pos ⟨txtT_right (by omega), txtT_right (by omega)⟩]
  exact made_yes (inner_right hp hc)
theorem ofText_txt {s : Tm} (h : s.length ≤ 3000) : ofText s = (txtT s, 0) := ofText_small h
theorem sealB_ten (st path c : Tm) : (sealB st path c).2 = 0 ∨ sealB st path c = ([], 10) := by
  unfold sealB
  split
  · exact .inr rfl
  · split
    · exact .inr rfl
    · exact .inl rfl
theorem signB_ten (ep : Int) (sn sl : Tm) : (signB ep sn sl).2 = 0 ∨ signB ep sn sl = ([], 10) := by
  unfold signB
  split
  · exact .inr rfl
  · split
    · exact .inr rfl
    · exact .inl rfl
theorem sealB_ok {st path c : Tm} (h : (sealB st path c).2 = 0) : right (sealB st path c).1 = true ∧ (sealB st path c).1 = 115 :: (keyh st ++ inner path c) := by
  unfold sealB at h ⊢
  split at h
  · cases h
  · rename_i h1
    rw [if_neg h1]
    split at h
    · cases h
    · rename_i h2
      rw [if_neg h2]
      have h3 := two_ok (Decidable.not_not.1 h2)
      refine ⟨h3.1, ?_⟩
      rw [h3.2.1, (key_ok (Decidable.not_not.1 h1)).2]
theorem signB_ok {ep : Int} {sn sl : Tm} (h : (signB ep sn sl).2 = 0) : right (signB ep sn sl).1 = true ∧ (signB ep sn sl).1 = 103 :: (sn ++ (112 :: (ofAtom ep.toNat ++ sl))) := by
  unfold signB at h ⊢
  split at h
  · cases h
  · rename_i h1
    rw [if_neg h1]
    split at h
    · cases h
    · rename_i h2
      rw [if_neg h2]
      have h3 := two_ok (Decidable.not_not.1 h2)
      refine ⟨h3.1, ?_⟩
      rw [h3.2.1]
      unfold said at h1 ⊢
      rw [(two_ok (Decidable.not_not.1 h1)).2.1]

/-! ### bytes -/
theorem ep_put {e : Int} (h0 : 0 ≤ e) (h7 : e ≤ 7) : (put e.toNat).length ≤ 9 ∧ tk (put e.toNat) = (e.toNat, [], 0) := by
  have hn : e.toNat < 18446744073709551616 := by omega
  refine ⟨(put_le hn).2, ?_⟩
  have := take_put hn []
  rw [List.append_nil] at this
  exact tk_some this
theorem all_three {l : List Tm} {m : Nat} (h3 : l.length = 3) (hm : m < 18446744073709551616) (h : ∀ t ∈ l, t.length ≤ m) : all (putAll l) 3 (m : Int) = (l, 0) := by
  have e1 : take (putAll l) = some (l.length, l.flatMap putText) := take_put (by omega) _
  refine all_ok e1 (by rw [h3]; omega) ?_
  have := texts_put l [] (m : Int) [] (fun t ht => ⟨Nat.lt_of_le_of_lt (h t ht) hm, by have := h t ht; omega⟩)
  rw [List.append_nil] at this
  exact this
theorem br_lens {b : Bb} (h : BR b) : b.sl.length ≤ 4000 ∧ b.sg.length ≤ 4000 := ⟨(right_len (br_sl h).1).2, (right_len (br_sg h).1).2⟩
theorem blobOf_row {b : Bb} (h : BR b) : rowOK [put b.ep.toNat, b.sl, b.sg] ∧ blobOf [put b.ep.toNat, b.sl, b.sg] = b := by
  obtain ⟨h1, h2⟩ := ep_put h.1.1 h.1.2
  have e1 : ([put b.ep.toNat, b.sl, b.sg] : List Tm).getD 0 [] = put b.ep.toNat := rfl
  refine ⟨?_, ?_⟩
  · unfold rowOK
    rw [e1, h2]
    exact ⟨rfl, rfl, by have := h.1; show b.ep.toNat ≤ 7; omega⟩
  · unfold blobOf
    rw [e1, h2]
    show (⟨(b.ep.toNat : Int), b.sl, b.sg⟩ : Bb) = b
    rw [show (b.ep.toNat : Int) = b.ep by have := h.1; omega]
theorem takeM_put {b : Bb} (h : BR b) {m : Nat} (hm : m < 18446744073709551616) (h9 : (put b.ep.toNat).length ≤ m) (hsl : b.sl.length ≤ m) (hsg : b.sg.length ≤ m) : takeM (m : Int) (row b) = (b, 0) := by
  obtain ⟨h1, h2⟩ := ep_put h.1.1 h.1.2
  have e1 : all (row b) 3 (m : Int) = ([put b.ep.toNat, b.sl, b.sg], 0) := all_three rfl hm fun t ht => by
    rcases List.mem_cons.1 ht with rfl | ht
    · exact h9
    · rcases List.mem_cons.1 ht with rfl | ht
      · exact hsl
      · rw [List.mem_singleton.1 ht]; exact hsg
  obtain ⟨h3, h4⟩ := blobOf_row h
  unfold takeM
  rw [e1, if_neg (by rintro (h5 | h5); exact h5 rfl; exact h5 rfl), if_neg (by rw [h4]; exact fun h5 => h5 ⟨h3, h⟩), h4]
theorem takeB_put {b : Bb} (h : BR b) : takeB (row b) = (b, 0) := takeM_put (m := 4000) h (by omega) (by have := (ep_put h.1.1 h.1.2).1; omega) (br_lens h).1 (br_lens h).2
theorem takeM_back {m : Int} {s : Tm} {b : Bb} (h : takeM m s = (b, 0)) : BR b ∧ s = row b := by
  unfold takeM at h
  split at h
  · cases h
  · rename_i h1
    have h1' : (all s 3 m).2 = 0 ∧ (all s 3 m).1.length = 3 := ⟨Decidable.not_not.1 fun h => h1 (.inl h), Decidable.not_not.1 fun h => h1 (.inr h)⟩
    split at h
    · cases h
    · rename_i h2
      obtain ⟨h3, h4⟩ := Decidable.not_not.1 h2
      have hb : blobOf (all s 3 m).1 = b := (Prod.mk.inj h).1
      rw [hb] at h4
      refine ⟨h4, ?_⟩
      have h5 : s = putAll (all s 3 m).1 := ((all_back (l := s) (a := 3) (b := m) (x := (all s 3 m).1) (e := (all s 3 m).2) rfl).1 h1'.1).1
      obtain ⟨x, y, z, hx⟩ : ∃ x y z, (all s 3 m).1 = [x, y, z] := by
        match hh : (all s 3 m).1, h1'.2 with
        | [x, y, z], _ => exact ⟨x, y, z, rfl⟩
      rw [hx] at h3 h5 hb
      rw [h5]
      unfold rowOK at h3
      have e1 : ([x, y, z] : List Tm).getD 0 [] = x := rfl
      rw [e1] at h3
      cases ht : take x with
      | none => rw [tk_none ht] at h3; exact absurd h3.1 (by decide)
      | some p =>
        obtain ⟨n, r⟩ := p
        rw [tk_some ht] at h3
        have h6 := take_some ht
        have hr : r = [] := h3.2.1
        subst hr
        rw [List.append_nil] at h6
        unfold blobOf at hb
        rw [e1, tk_some ht] at hb
        subst hb
        unfold row
        show putAll [x, y, z] = putAll [put ((n : Int)).toNat, y, z]
        rw [show ((n : Int)).toNat = n by omega, ← h6.1]
theorem takeM_err {m : Int} {s : Tm} : (takeM m s).2 = 0 ∨ takeM m s = (bzero, 2) := by
  unfold takeM
  split
  · exact .inr rfl
  · split
    · exact .inr rfl
    · exact .inl rfl
theorem mem_flat {t : Tm} : ∀ {l : List Tm}, t ∈ l → (putText t).length ≤ (l.flatMap putText).length
  | x :: l, h => by
    rw [List.flatMap_cons, List.length_append]
    rcases List.mem_cons.1 h with rfl | h
    · omega
    · have := mem_flat h; omega
theorem row_mem {b : Bb} {t : Tm} (h : t ∈ [put b.ep.toNat, b.sl, b.sg]) : t.length ≤ (row b).length := by
  have h1 := mem_flat h
  rw [putText_len] at h1
  unfold row putAll
  rw [List.length_append]
  omega
/-- However long the texts may be, the same bytes are taken. -/
theorem take_same (s : Tm) (hs : s.length < 18446744073709551616) : takeM (s.length : Int) s = takeB s := by
  by_cases h : (takeB s).2 = 0
  · obtain ⟨b, hb⟩ : ∃ b, takeB s = (b, 0) := ⟨(takeB s).1, by rw [← h]⟩
    obtain ⟨h1, h2⟩ := takeM_back hb
    rw [hb]
    conv => lhs; rw [h2]
    rw [h2] at hs
    exact takeM_put h1 hs (row_mem (by simp)) (row_mem (by simp)) (row_mem (by simp))
  · have hn : takeB s = (bzero, 2) := (takeM_err (m := 4000) (s := s)).resolve_left h
    rw [hn]
    rcases takeM_err (m := (s.length : Int)) (s := s) with h1 | h1
    · exfalso
      obtain ⟨b, hb⟩ : ∃ b, takeM (s.length : Int) s = (b, 0) := ⟨(takeM (s.length : Int) s).1, by rw [← h1]⟩
      obtain ⟨h2, h3⟩ := takeM_back hb
      have := takeB_put h2
      rw [← h3] at this
      rw [this] at hn
      exact absurd (congrArg Prod.snd hn) (show ¬ (0 : Int) = 2 by decide)
    · exact h1
end Go.Proofs.YtjdignbmlfbdnaaGreat.Dta
