/-
  THE WALK of ClosureBoxes. By an AI agent; no person has read it.
-/
import Derived.Test.YtcplagomhfdoaaaCLaw
namespace Go.Proofs.Ytcplagomhfdoaaa.Clo
open Go.RowKit Wire Term

/-- The terms of the statement: of three numbers. -/
structure Terms (a b n : Nat) (mine other x u v c d : List UInt8) : Prop where
  e1 : mine = ofAtom a
  e2 : other = ofAtom b
  e3 : x = ofAtom n
  e4 : u = 117 :: mine
  e5 : v = 117 :: other
  e6 : c = 98 :: (u ++ x)
  e7 : d = 98 :: (v ++ x)
theorem terms_right {a b n : Nat} {mine other x u v c d : List UInt8} (h : Terms a b n mine other x u v c d) (ha : a < 18446744073709551616) (hb : b < 18446744073709551616) (hn : n < 18446744073709551616) :
    (right mine = true ∧ right other = true ∧ right x = true) ∧ (right u = true ∧ right v = true ∧ right c = true ∧ right d = true) := by
  obtain ⟨rfl, rfl, rfl, rfl, rfl, rfl, rfl⟩ := h
  have la := atom_len ha
  have lb := atom_len hb
  have ln := atom_len hn
  have oa : Ok 1 (ofAtom a) := ok_atom 0 ha
  have ob : Ok 1 (ofAtom b) := ok_atom 0 hb
  have on : Ok 1 (ofAtom n) := ok_atom 0 hn
  have on2 : Ok 2 (ofAtom n) := ok_atom 1 hn
  have ou := ok_un (k := 117) (.inr rfl) oa
  have ov := ok_un (k := 117) (.inr rfl) ob
  have oc := ok_box rfl ou on2
  have od := ok_box rfl ov on2
  refine ⟨⟨ok_right oa (by omega) (by omega), ok_right ob (by omega) (by omega), ok_right on (by omega) (by omega)⟩, ok_right ou (by omega) (by simp; omega), ok_right ov (by omega) (by simp; omega), ok_right oc (by omega) (by simp; omega), ok_right od (by omega) (by simp; omega)⟩
theorem boxes_der {a b n : Nat} {mine other x u v c d : List UInt8} (h : Terms a b n mine other x u v c d) (ha : a < 18446744073709551616) (hb : b < 18446744073709551616) (hn : n < 18446744073709551616) (hab : a ≠ b) (han : a ≠ n) (hbn : b ≠ n) :
    Der [c, mine] x ∧ ¬ Der [c, other, u, v] x ∧ ¬ Der [c, d, u, v] x ∧ Der [x, u] c ∧ ¬ Der [c, d] u := by
  obtain ⟨⟨rm, ro, rx⟩, ru, rv, rc, rd⟩ := terms_right h ha hb hn
  have nab : mine ≠ other := fun e => hab (atom_inj ha hb (by rw [← h.e1, ← h.e2, e]))
  have nan : mine ≠ x := fun e => han (atom_inj ha hn (by rw [← h.e1, ← h.e3, e]))
  have nbn : other ≠ x := fun e => hbn (atom_inj hb hn (by rw [← h.e2, ← h.e3, e]))
  have km : mine.headD 0 = 97 := by rw [h.e1]; rfl
  have ko : other.headD 0 = 97 := by rw [h.e2]; rfl
  have kx : x.headD 0 = 97 := by rw [h.e3]; rfl
  have ku : u.headD 0 = 117 := by rw [h.e4]; rfl
  have kv : v.headD 0 = 117 := by rw [h.e5]; rfl
  have kc : c.headD 0 = 98 := by rw [h.e6]; rfl
  have kd : d.headD 0 = 98 := by rw [h.e7]; rfl
  have pc : pts c = [u, x] := by rw [h.e6]; exact pts_bi (by simp) (by rw [← h.e6]; exact rc) ru
  have pd : pts d = [v, x] := by rw [h.e7]; exact pts_bi (by simp) (by rw [← h.e7]; exact rd) rv
  have pu : pts u = [mine] := by rw [h.e4]; exact (pts_one (by rw [← h.e4]; exact ru) (.inr rfl)).1
  have tu : u.tail = mine := by rw [h.e4]; rfl
  have tv : v.tail = other := by rw [h.e5]; rfl
  have ne : ∀ {p q : List UInt8}, p.headD 0 ≠ q.headD 0 → p ≠ q := fun h e => h (by rw [e])
  -- what is boxed, given where the secret isn't had
  have gc : ∀ {S : List UInt8 → Prop} {y : List UInt8}, ¬ S mine → ¬ Gives S c y := fun hS hg => by
    rcases hg with ⟨h1, _⟩ | ⟨h1, _⟩ | ⟨h1, _⟩ | ⟨_, h1, _⟩
    · rw [kc] at h1; exact absurd h1 (by decide)
    · rw [kc] at h1; exact absurd h1 (by decide)
    · rw [kc] at h1; exact absurd h1 (by decide)
    · rw [pc] at h1
      exact hS (tog_atom km (by rw [← tu]; exact h1))
  have gd : ∀ {S : List UInt8 → Prop} {y : List UInt8}, ¬ S other → ¬ Gives S d y := fun hS hg => by
    rcases hg with ⟨h1, _⟩ | ⟨h1, _⟩ | ⟨h1, _⟩ | ⟨_, h1, _⟩
    · rw [kd] at h1; exact absurd h1 (by decide)
    · rw [kd] at h1; exact absurd h1 (by decide)
    · rw [kd] at h1; exact absurd h1 (by decide)
    · rw [pd] at h1
      exact hS (tog_atom ko (by rw [← tv]; exact h1))
  have gn : ∀ {S : List UInt8 → Prop} {t y : List UInt8}, t.headD 0 = 97 ∨ t.headD 0 = 117 → ¬ Gives S t y := fun ht hg => by
    rcases hg with ⟨h1, _⟩ | ⟨h1, _⟩ | ⟨h1, _⟩ | ⟨h1, _⟩ <;> rcases ht with ht | ht <;> (rw [h1] at ht; exact absurd ht (by decide))
  refine ⟨?_, ?_, ?_, ?_, ?_⟩
  · exact tog_of (had_closed _ c x (had_held (by simp)) (.inr (.inr (.inr ⟨kc, by rw [pc]; show Tog _ u.tail; rw [tu]; exact tog_of (had_held (by simp)), by rw [pc]; simp⟩))))
  · intro hd
    have hm : ¬ mine ∈ [c, other, u, v] := by
      simp only [List.mem_cons, List.not_mem_nil, or_false, not_or]
      exact ⟨ne (by rw [km, kc]; decide), nab, ne (by rw [km, ku]; decide), ne (by rw [km, kv]; decide)⟩
    have hcl : ∀ t ∈ [c, other, u, v], ∀ y, Gives (fun y => y ∈ [c, other, u, v]) t y → y ∈ [c, other, u, v] := by
      intro t ht y hg
      simp only [List.mem_cons, List.not_mem_nil, or_false] at ht
      rcases ht with rfl | rfl | rfl | rfl
      · exact absurd hg (gc hm)
      · exact absurd hg (gn (.inl ko))
      · exact absurd hg (gn (.inr ku))
      · exact absurd hg (gn (.inr kv))
    have := had_only hcl (tog_atom kx hd)
    simp only [List.mem_cons, List.not_mem_nil, or_false] at this
    rcases this with e | e | e | e
    · exact ne (by rw [kx, kc]; decide) e
    · exact nbn e.symm
    · exact ne (by rw [kx, ku]; decide) e
    · exact ne (by rw [kx, kv]; decide) e
  · intro hd
    have hm : ¬ mine ∈ [c, d, u, v] := by
      simp only [List.mem_cons, List.not_mem_nil, or_false, not_or]
      exact ⟨ne (by rw [km, kc]; decide), ne (by rw [km, kd]; decide), ne (by rw [km, ku]; decide), ne (by rw [km, kv]; decide)⟩
    have ho : ¬ other ∈ [c, d, u, v] := by
      simp only [List.mem_cons, List.not_mem_nil, or_false, not_or]
      exact ⟨ne (by rw [ko, kc]; decide), ne (by rw [ko, kd]; decide), ne (by rw [ko, ku]; decide), ne (by rw [ko, kv]; decide)⟩
    have hcl : ∀ t ∈ [c, d, u, v], ∀ y, Gives (fun y => y ∈ [c, d, u, v]) t y → y ∈ [c, d, u, v] := by
      intro t ht y hg
      simp only [List.mem_cons, List.not_mem_nil, or_false] at ht
      rcases ht with rfl | rfl | rfl | rfl
      · exact absurd hg (gc hm)
      · exact absurd hg (gd ho)
      · exact absurd hg (gn (.inr ku))
      · exact absurd hg (gn (.inr kv))
    have := had_only hcl (tog_atom kx hd)
    simp only [List.mem_cons, List.not_mem_nil, or_false] at this
    rcases this with e | e | e | e
    · exact ne (by rw [kx, kc]; decide) e
    · exact ne (by rw [kx, kd]; decide) e
    · exact ne (by rw [kx, ku]; decide) e
    · exact ne (by rw [kx, kv]; decide) e
  · refine der_parts (by rw [kc]; decide) fun q hq => ?_
    rw [pc] at hq
    simp only [List.mem_cons, List.not_mem_nil, or_false] at hq
    rcases hq with rfl | rfl
    · exact der_held (by simp)
    · exact der_held (by simp)
  · intro hd
    have hm : ¬ mine ∈ [c, d] := by
      simp only [List.mem_cons, List.not_mem_nil, or_false, not_or]
      exact ⟨ne (by rw [km, kc]; decide), ne (by rw [km, kd]; decide)⟩
    have ho : ¬ other ∈ [c, d] := by
      simp only [List.mem_cons, List.not_mem_nil, or_false, not_or]
      exact ⟨ne (by rw [ko, kc]; decide), ne (by rw [ko, kd]; decide)⟩
    have hcl : ∀ t ∈ [c, d], ∀ y, Gives (fun y => y ∈ [c, d]) t y → y ∈ [c, d] := by
      intro t ht y hg
      simp only [List.mem_cons, List.not_mem_nil, or_false] at ht
      rcases ht with rfl | rfl
      · exact absurd hg (gc hm)
      · exact absurd hg (gd ho)
    have hh : ∀ y, Had [c, d] y → y ∈ [c, d] := fun y hy => had_only hcl hy
    rcases tog_iff.1 hd with h1 | h1 | ⟨_, h1⟩
    · have := hh u h1
      simp only [List.mem_cons, List.not_mem_nil, or_false] at this
      rcases this with e | e
      · exact ne (by rw [ku, kc]; decide) e
      · exact ne (by rw [ku, kd]; decide) e
    · rw [ku] at h1; exact absurd h1 (by decide)
    · exact hm (hh mine (tog_atom km (h1 mine (by rw [pu]; simp))))

set_option maxHeartbeats 8000000 in
set_option maxRecDepth 1000000 in
theorem boxes_walk (CD : DerivesOK) (a b n : Nat) (w : World) (ha : a < 18446744073709551616) (hb : b < 18446744073709551616) (hn : n < 18446744073709551616) :
    Calls Try.prog 9 #[.int .u64 a, .int .u64 b, .int .u64 n] w fun e w' => e = .returned (.bool true) ∧ Below w.heap.size w w' := by
  have HAA := Lib.hid ha
  have HBB := Lib.hid hb
  have HNN := Lib.hid hn
  have HSH : Hid (∀ w : World, Calls Try.prog 10 #[] w fun e w' => e = .returned (.bool true) ∧ Below w.heap.size w w') := fun w => shown_any CD w
  clear ha hb hn
  by_cases e1 : a = b
  · have c1 : ((a : Int) == (b : Int)) = true := by rw [e1]; exact beq_self_eq_true _
    clear e1
    go_enter Try.func9, Try.ntmps9
    go_wp2_with (go_at_call 10; refine (HSH.out _).mono ?_; rintro e w1 ⟨rfl, hb1⟩; have HB1 := Lib.hid hb1; clear hb1)
    go_ret
    exact ⟨rfl, HB1.out⟩
  have c1 : ((a : Int) == (b : Int)) = false := by rw [beq_eq_false_iff_ne]; omega
  by_cases e2 : a = n
  · have c2 : ((a : Int) == (n : Int)) = true := by rw [e2]; exact beq_self_eq_true _
    clear e1 e2
    go_enter Try.func9, Try.ntmps9
    go_wp2_with (go_at_call 10; refine (HSH.out _).mono ?_; rintro e w1 ⟨rfl, hb1⟩; have HB1 := Lib.hid hb1; clear hb1)
    go_ret
    exact ⟨rfl, HB1.out⟩
  have c2 : ((a : Int) == (n : Int)) = false := by rw [beq_eq_false_iff_ne]; omega
  by_cases e3 : b = n
  · have c3 : ((b : Int) == (n : Int)) = true := by rw [e3]; exact beq_self_eq_true _
    clear e1 e2 e3
    go_enter Try.func9, Try.ntmps9
    go_wp2_with (go_at_call 10; refine (HSH.out _).mono ?_; rintro e w1 ⟨rfl, hb1⟩; have HB1 := Lib.hid hb1; clear hb1)
    go_ret
    exact ⟨rfl, HB1.out⟩
  have c3 : ((b : Int) == (n : Int)) = false := by rw [beq_eq_false_iff_ne]; omega
  have HE1 := Lib.hid e1
  have HE2 := Lib.hid e2
  have HE3 := Lib.hid e3
  clear e1 e2 e3
  go_enter Try.func9, Try.ntmps9
  go_wp2_with (go_at_call 10; refine (HSH.out _).mono ?_; rintro e w1 ⟨rfl, hb1⟩; have HB1 := Lib.hid hb1; clear hb1)
  refine (ofAtom_any a _ HAA.out).mono ?_
  rintro e w2 ⟨⟨M, hM, rfl⟩, hb2⟩
  have HB2 := Lib.hid (HB1.out.trans (hb2.mono HB1.out.size))
  have HM := Lib.hid hM
  clear hb2 hM HB1
  go_wp2_with fail
  refine (ofAtom_any b _ HBB.out).mono ?_
  rintro e w3 ⟨⟨O, hO, rfl⟩, hb3⟩
  have HB3 := Lib.hid (HB2.out.trans (hb3.mono HB2.out.size))
  have HO := Lib.hid hO
  clear hb3 hO HB2
  go_wp2_with fail
  refine (ofAtom_any n _ HNN.out).mono ?_
  rintro e w4 ⟨⟨X, hX, rfl⟩, hb4⟩
  have HB4 := Lib.hid (HB3.out.trans (hb4.mono HB3.out.size))
  have HX := Lib.hid hX
  clear hb4 hX HB3
  obtain ⟨U, hU⟩ : ∃ U, U = 117 :: M.data.toList := ⟨_, rfl⟩
  obtain ⟨V, hV⟩ : ∃ V, V = 117 :: O.data.toList := ⟨_, rfl⟩
  obtain ⟨C, hC⟩ : ∃ C, C = 98 :: (U ++ X.data.toList) := ⟨_, rfl⟩
  obtain ⟨D, hD⟩ : ∃ D, D = 98 :: (V ++ X.data.toList) := ⟨_, rfl⟩
  have ht : Terms a b n M.data.toList O.data.toList X.data.toList U V C D := ⟨HM.out, HO.out, HX.out, hU, hV, hC, hD⟩
  obtain ⟨⟨rm, ro, rx⟩, ru, rv, rc, rd⟩ := terms_right ht HAA.out HBB.out HNN.out
  have hder := boxes_der ht HAA.out HBB.out HNN.out HE1.out HE2.out HE3.out
  have o1 : one 117 M.data.toList = (U, 0) := by unfold one made; rw [if_pos rm, ← hU, if_pos ru]
  have o2 : one 117 O.data.toList = (V, 0) := by unfold one made; rw [if_pos ro, ← hV, if_pos rv]
  have o3 : box U X.data.toList = (C, 0) := by unfold box two made; rw [if_pos ⟨ru, by rw [hU]; rfl⟩, if_pos ⟨ru, rx⟩, ← hC, if_pos rc]
  have o4 : box V X.data.toList = (D, 0) := by unfold box two made; rw [if_pos ⟨rv, by rw [hV]; rfl⟩, if_pos ⟨rv, rx⟩, ← hD, if_pos rd]
  have zm := (right_sz rm).2
  have zo := (right_sz ro).2
  have zx := (right_sz rx).2
  have HO1 := Lib.hid o1
  have HO2 := Lib.hid o2
  have HO3 := Lib.hid o3
  have HO4 := Lib.hid o4
  have RM := Lib.hid rm
  have RO := Lib.hid ro
  have RX := Lib.hid rx
  have RU := Lib.hid ru
  have RV := Lib.hid rv
  have RC := Lib.hid rc
  have RD := Lib.hid rd
  have HDER := Lib.hid hder
  clear o1 o2 o3 o4 rm ro rx ru rv rc rd hder ht hU hV hC hD
  go_wp2_with fail
  refine (ofPublic_any M _ (by omega)).mono ?_
  rw [HO1.out]
  rintro e w5 ⟨⟨U', hU', rfl⟩, hb5⟩
  dsimp only at hU' ⊢
  subst hU'
  have HB5 := Lib.hid (HB4.out.trans (hb5.mono HB4.out.size))
  clear hb5 HB4
  go_wp2_with fail
  refine (ofPublic_any O _ (by omega)).mono ?_
  rw [HO2.out]
  rintro e w6 ⟨⟨V', hV', rfl⟩, hb6⟩
  dsimp only at hV' ⊢
  subst hV'
  have HB6 := Lib.hid (HB5.out.trans (hb6.mono HB5.out.size))
  clear hb6 HB5
  have zu := (right_sz RU.out).2
  have zv := (right_sz RV.out).2
  go_wp2_with fail
  refine (box_any U' X _ (by omega) (by omega)).mono ?_
  rw [HO3.out]
  rintro e w7 ⟨⟨C', hC', rfl⟩, hb7⟩
  dsimp only at hC' ⊢
  subst hC'
  have HB7 := Lib.hid (HB6.out.trans (hb7.mono HB6.out.size))
  clear hb7 HB6
  go_wp2_with fail
  refine (box_any V' X _ (by omega) (by omega)).mono ?_
  rw [HO4.out]
  rintro e w8 ⟨⟨D', hD', rfl⟩, hb8⟩
  dsimp only at hD' ⊢
  subst hD'
  have HB8 := Lib.hid (HB7.out.trans (hb8.mono HB7.out.size))
  clear hb8 HB7
  have zc := (right_sz RC.out).2
  have zd := (right_sz RD.out).2
  go_wp2_with fail
  refine (der_lit CD (w := w) [C', M] 2 _ X rfl rfl _ (by simp) HB8.out (by simp) (by simp; omega) (by omega)).mono ?_
  rintro e w9 ⟨⟨b1, f1, h1, rfl⟩, hb9⟩
  obtain ⟨rfl, hi1⟩ := dv_ok h1 (by simp [bl, RC.out, RM.out]) (by simp [bl]) RX.out
  obtain rfl : b1 = true := hi1.2 HDER.out.1
  have HB9 := Lib.hid hb9
  clear hb9 HB8 h1 hi1
  dsimp only
  go_wp2_with fail
  refine (der_lit CD (w := w) [C', O, U', V'] 4 _ X rfl rfl _ (by simp) HB9.out (by simp) (by simp; omega) (by omega)).mono ?_
  rintro e w10 ⟨⟨b2, f2, h2, rfl⟩, hb10⟩
  obtain ⟨rfl, hi2⟩ := dv_ok h2 (by simp [bl, RC.out, RO.out, RU.out, RV.out]) (by simp [bl]) RX.out
  obtain rfl : b2 = false := by rw [← Bool.not_eq_true]; exact fun h => HDER.out.2.1 (hi2.1 h)
  have HB10 := Lib.hid hb10
  clear hb10 HB9 h2 hi2
  dsimp only
  go_wp2_with fail
  refine (der_lit CD (w := w) [C', D', U', V'] 4 _ X rfl rfl _ (by simp) HB10.out (by simp) (by simp; omega) (by omega)).mono ?_
  rintro e w11 ⟨⟨b3, f3, h3, rfl⟩, hb11⟩
  obtain ⟨rfl, hi3⟩ := dv_ok h3 (by simp [bl, RC.out, RD.out, RU.out, RV.out]) (by simp [bl]) RX.out
  obtain rfl : b3 = false := by rw [← Bool.not_eq_true]; exact fun h => HDER.out.2.2.1 (hi3.1 h)
  have HB11 := Lib.hid hb11
  clear hb11 HB10 h3 hi3
  dsimp only
  go_wp2_with fail
  refine (der_lit CD (w := w) [X, U'] 2 _ C' rfl rfl _ (by simp) HB11.out (by simp) (by simp; omega) (by omega)).mono ?_
  rintro e w12 ⟨⟨b4, f4, h4, rfl⟩, hb12⟩
  obtain ⟨rfl, hi4⟩ := dv_ok h4 (by simp [bl, RX.out, RU.out]) (by simp [bl]) RC.out
  obtain rfl : b4 = true := hi4.2 HDER.out.2.2.2.1
  have HB12 := Lib.hid hb12
  clear hb12 HB11 h4 hi4
  dsimp only
  go_wp2_with fail
  refine (der_lit CD (w := w) [C', D'] 2 _ U' rfl rfl _ (by simp) HB12.out (by simp) (by simp; omega) (by omega)).mono ?_
  rintro e w13 ⟨⟨b5, f5, h5, rfl⟩, hb13⟩
  obtain ⟨rfl, hi5⟩ := dv_ok h5 (by simp [bl, RC.out, RD.out]) (by simp [bl]) RU.out
  obtain rfl : b5 = false := by rw [← Bool.not_eq_true]; exact fun h => HDER.out.2.2.2.2 (hi5.1 h)
  have HB13 := Lib.hid hb13
  clear hb13 HB12 h5 hi5
  dsimp only
  go_wp2
  go_ret
  exact ⟨rfl, HB13.out⟩
end Go.Proofs.Ytcplagomhfdoaaa.Clo
