/-
  THE LANDED CODE (package data): seal, unseal, Right. By an AI agent; no person has read it.
-/
import Derived.Test.YtjdignbmlfbdnaaGreatQCode1
import Derived.Test.YtjdignbmlfbdnaaGreatOrdP
namespace Go.Proofs.YtjdignbmlfbdnaaGreat.Dta
open Go.RowKit Wire Term Draw Reg Clo

set_option linter.unusedSimpArgs false
set_option linter.unusedVariables false
/-- A text, or a panic with an error. -/
def Sp (x : Tm × Int) (e : Ending) : Prop := (x.2 = 0 ∧ St x.1 e) ∨ (x.2 ≠ 0 ∧ Pn x.2 e)
theorem sp_no {x : Tm × Int} {f : Int} {e : Ending} (h : x = ([], f)) (hf : f ≠ 0) (he : Pn f e) : Sp x e := .inr ⟨by rw [h]; exact hf, by rw [h]; exact he⟩
theorem sp_yes {x : Tm × Int} {l : Tm} {e : Ending} (h : x = (l, 0)) (he : St l e) : Sp x e := .inl ⟨by rw [h], by rw [h]; exact he⟩
theorem text_call {s : ByteArray} (hs : s.size ≤ 3000) (w : World) : Calls Tryz.prog 75 #[.string s] w fun e w' => Sr (txtT s.data.toList, 0) e ∧ Below w.heap.size w w' := by
  have h := t_OfText s w (by omega)
  rw [ofText_txt (by rw [← Lib.size_eq]; exact hs)] at h
  exact h
theorem ten_ne : ((10 : Int) == 0) = false := by decide
set_option maxHeartbeats 4000000 in
set_option maxRecDepth 1000000 in
theorem seal_any (st p c : ByteArray) (w : World) (hst : right st.data.toList = true) (hp : p.size ≤ 257) (hc : c.size ≤ 64) :
    Calls Tryz.prog 39 #[.string st, .string p, .string c] w fun e w' => Sp (sealB st.data.toList p.data.toList c.data.toList) e ∧ Below w.heap.size w w' := by
  have hz : st.size ≤ 4000 := by rw [Lib.size_eq]; exact (right_len hst).2
  have H1 := Lib.hid fun w => text_call (s := p) (by omega) w
  have H2 := Lib.hid fun w => text_call (s := c) (by omega) w
  have HP : Hid (∀ (A B : ByteArray) (w : World), A.data.toList = txtT p.data.toList → B.data.toList = txtT c.data.toList → Calls Tryz.prog 74 #[.string A, .string B] w fun e w' => Sr (inner p.data.toList c.data.toList, 0) e ∧ Below w.heap.size w w') := by
    intro A B w hA hB
    have l1 := (txtT_sz 0 (s := p.data.toList) (by rw [← Lib.size_eq]; omega)).2
    have l2 := (txtT_sz 0 (s := c.data.toList) (by rw [← Lib.size_eq]; omega)).2
    have l3 := Lib.size_eq p
    have l4 := Lib.size_eq c
    have := t_OfPair A B w (by rw [Lib.size_eq, hA]; omega) (by rw [Lib.size_eq, hB]; omega)
    rw [hA, hB, inner_is (by omega) (by omega)] at this
    exact this
  have HK := Lib.hid fun w => key_any st w (by omega)
  have HS : Hid (∀ (K I : ByteArray) (w : World), right K.data.toList = true → I.data.toList = inner p.data.toList c.data.toList → Calls Tryz.prog 22 #[.string K, .string I] w fun e w' => Sr (two 115 K.data.toList (inner p.data.toList c.data.toList)) e ∧ Below w.heap.size w w') := by
    intro K I w hK hI
    have l1 := (inner_sz 0 (p := p.data.toList) (c := c.data.toList) (by rw [← Lib.size_eq]; omega) (by rw [← Lib.size_eq]; omega)).2
    have := t_Seal K I w (by rw [Lib.size_eq]; have := (right_len hK).2; omega) (by rw [Lib.size_eq, hI]; omega)
    rw [hI] at this
    exact this
  obtain ⟨k, f, hk⟩ : ∃ k f, key st.data.toList = (k, f) := ⟨_, _, rfl⟩
  have hkt := key_ten hst
  rw [hk] at hkt HK
  have HIR := Lib.hid (inner_right (p := p.data.toList) (c := c.data.toList) (by rw [← Lib.size_eq]; exact hp) (by rw [← Lib.size_eq]; exact hc))
  generalize hsb : sealB st.data.toList p.data.toList c.data.toList = sb
  unfold sealB at hsb
  rw [hk] at hsb
  simp only at hsb
  have hkr : f = 0 → right k = true := fun h => by
    have := (key_ok (st := st.data.toList) (by rw [hk]; exact h)).1
    rw [hk] at this
    exact this
  generalize inner p.data.toList c.data.toList = I at HP HS hsb HIR
  clear hk hst hp hc hz
  rcases hkt with hf | hf
  · have hf : f = 0 := hf
    subst hf
    have HKR := Lib.hid (hkr rfl)
    clear hkr
    rw [if_neg (by decide)] at hsb
    have HS2 : Hid (∀ (K J : ByteArray) (w : World), K.data.toList = k → J.data.toList = I → Calls Tryz.prog 22 #[.string K, .string J] w fun e w' => Sr (two 115 k I) e ∧ Below w.heap.size w w') := fun K J w hK hJ => by
      have := HS.out K J w (by rw [hK]; exact HKR.out) hJ
      rw [hK] at this
      exact this
    have hst := two_ten (k := 115) HKR.out HIR.out
    obtain ⟨s, g, hs⟩ : ∃ s g, two 115 k I = (s, g) := ⟨_, _, rfl⟩
    rw [hs] at hst hsb HS2
    clear hs HS HKR HIR
    rcases hst with hg | hg
    · have hg : g = 0 := hg
      subst hg
      rw [if_neg (fun h => h rfl)] at hsb
      have HSB := Lib.hid hsb
      clear hsb
      go_enter Tryz.func39, Tryz.ntmps39
      go_wp2_with fail
      with_reducible refine (H1.out _).mono ?_
      rintro e w1 ⟨⟨A, hA, rfl⟩, hb1⟩
      have HB1 := Lib.hid hb1
      clear hb1
      dsimp only at hA
      have HA := Lib.hid hA
      clear hA
      dsimp only
      go_wp2_with fail
      with_reducible refine (made_yes' A _).mono ?_
      rintro e w1001 ⟨rfl, rfl⟩
      dsimp only
      go_wp2_with fail
      with_reducible refine (H2.out _).mono ?_
      rintro e w2 ⟨⟨B, hB, rfl⟩, hb2⟩
      have HB2 := Lib.hid (Bel.call HB1.out hb2)
      clear hb2
      dsimp only at hB
      have HB := Lib.hid hB
      clear hB
      dsimp only
      go_wp2_with fail
      with_reducible refine (made_yes' B _).mono ?_
      rintro e w1002 ⟨rfl, rfl⟩
      dsimp only
      go_wp2_with fail
      with_reducible refine (HP.out A B _ HA.out HB.out).mono ?_
      rintro e w3 ⟨⟨J, hJ, rfl⟩, hb3⟩
      have HB3 := Lib.hid (Bel.call HB2.out hb3)
      clear hb3
      dsimp only at hJ
      have HJ := Lib.hid hJ
      clear hJ
      dsimp only
      go_wp2_with fail
      with_reducible refine (made_yes' J _).mono ?_
      rintro e w1003 ⟨rfl, rfl⟩
      dsimp only
      go_wp2_with fail
      with_reducible refine (HK.out _).mono ?_
      rintro e w4 ⟨⟨K, hK, rfl⟩, hb4⟩
      have HB4 := Lib.hid (Bel.call HB3.out hb4)
      clear hb4
      dsimp only at hK
      have HK' := Lib.hid hK
      clear hK
      dsimp only
      go_wp2_with fail
      with_reducible refine (made_yes' K _).mono ?_
      rintro e w1004 ⟨rfl, rfl⟩
      dsimp only
      go_wp2_with fail
      with_reducible refine (HS2.out K J _ HK'.out HJ.out).mono ?_
      rintro e w5 ⟨⟨S, hS, rfl⟩, hb5⟩
      have HB5 := Lib.hid (Bel.call HB4.out hb5)
      clear hb5
      dsimp only at hS
      have HS := Lib.hid hS
      clear hS
      dsimp only
      go_wp2_with fail
      with_reducible refine (made_yes' S _).mono ?_
      rintro e w1005 ⟨rfl, rfl⟩
      dsimp only
      go_wp2
      go_ret
      exact ⟨sp_yes HSB.out.symm ⟨S, HS.out, rfl⟩, HB5.out⟩
    · obtain ⟨rfl, rfl⟩ := Prod.mk.inj hg
      rw [if_pos (by decide)] at hsb
      have HSB := Lib.hid hsb
      clear hsb hg
      go_enter Tryz.func39, Tryz.ntmps39
      go_wp2_with fail
      with_reducible refine (H1.out _).mono ?_
      rintro e w1 ⟨⟨A, hA, rfl⟩, hb1⟩
      have HB1 := Lib.hid hb1
      clear hb1
      dsimp only at hA
      have HA := Lib.hid hA
      clear hA
      dsimp only
      go_wp2_with fail
      with_reducible refine (made_yes' A _).mono ?_
      rintro e w1001 ⟨rfl, rfl⟩
      dsimp only
      go_wp2_with fail
      with_reducible refine (H2.out _).mono ?_
      rintro e w2 ⟨⟨B, hB, rfl⟩, hb2⟩
      have HB2 := Lib.hid (Bel.call HB1.out hb2)
      clear hb2
      dsimp only at hB
      have HB := Lib.hid hB
      clear hB
      dsimp only
      go_wp2_with fail
      with_reducible refine (made_yes' B _).mono ?_
      rintro e w1002 ⟨rfl, rfl⟩
      dsimp only
      go_wp2_with fail
      with_reducible refine (HP.out A B _ HA.out HB.out).mono ?_
      rintro e w3 ⟨⟨J, hJ, rfl⟩, hb3⟩
      have HB3 := Lib.hid (Bel.call HB2.out hb3)
      clear hb3
      dsimp only at hJ
      have HJ := Lib.hid hJ
      clear hJ
      dsimp only
      go_wp2_with fail
      with_reducible refine (made_yes' J _).mono ?_
      rintro e w1003 ⟨rfl, rfl⟩
      dsimp only
      go_wp2_with fail
      with_reducible refine (HK.out _).mono ?_
      rintro e w4 ⟨⟨K, hK, rfl⟩, hb4⟩
      have HB4 := Lib.hid (Bel.call HB3.out hb4)
      clear hb4
      dsimp only at hK
      have HK' := Lib.hid hK
      clear hK
      dsimp only
      go_wp2_with fail
      with_reducible refine (made_yes' K _).mono ?_
      rintro e w1004 ⟨rfl, rfl⟩
      dsimp only
      go_wp2_with fail
      with_reducible refine (HS2.out K J _ HK'.out HJ.out).mono ?_
      rintro e w5 ⟨⟨S, hS, rfl⟩, hb5⟩
      have HB5 := Lib.hid (Bel.call HB4.out hb5)
      clear hb5
      dsimp only at hS
      have HS := Lib.hid hS
      clear hS
      dsimp only
      go_wp2_with fail
      with_reducible refine (made_no' S 10 _ ten_ne).mono ?_
      rintro e w99 ⟨hp, rfl⟩
      have HPN := Lib.hid hp
      obtain rfl := hp
      dsimp only
      go_wp2
      exact ⟨rfl, sp_no HSB.out.symm (by decide) HPN.out, HB5.out⟩
  · obtain ⟨rfl, rfl⟩ := Prod.mk.inj hf
    rw [if_pos (by decide)] at hsb
    have HSB := Lib.hid hsb
    clear hsb hf hkr HS HIR
    go_enter Tryz.func39, Tryz.ntmps39
    go_wp2_with fail
    with_reducible refine (H1.out _).mono ?_
    rintro e w1 ⟨⟨A, hA, rfl⟩, hb1⟩
    have HB1 := Lib.hid hb1
    clear hb1
    dsimp only at hA
    have HA := Lib.hid hA
    clear hA
    dsimp only
    go_wp2_with fail
    with_reducible refine (made_yes' A _).mono ?_
    rintro e w1001 ⟨rfl, rfl⟩
    dsimp only
    go_wp2_with fail
    with_reducible refine (H2.out _).mono ?_
    rintro e w2 ⟨⟨B, hB, rfl⟩, hb2⟩
    have HB2 := Lib.hid (Bel.call HB1.out hb2)
    clear hb2
    dsimp only at hB
    have HB := Lib.hid hB
    clear hB
    dsimp only
    go_wp2_with fail
    with_reducible refine (made_yes' B _).mono ?_
    rintro e w1002 ⟨rfl, rfl⟩
    dsimp only
    go_wp2_with fail
    with_reducible refine (HP.out A B _ HA.out HB.out).mono ?_
    rintro e w3 ⟨⟨J, hJ, rfl⟩, hb3⟩
    have HB3 := Lib.hid (Bel.call HB2.out hb3)
    clear hb3
    dsimp only at hJ
    have HJ := Lib.hid hJ
    clear hJ
    dsimp only
    go_wp2_with fail
    with_reducible refine (made_yes' J _).mono ?_
    rintro e w1003 ⟨rfl, rfl⟩
    dsimp only
    go_wp2_with fail
    with_reducible refine (HK.out _).mono ?_
    rintro e w4 ⟨⟨K, hK, rfl⟩, hb4⟩
    have HB4 := Lib.hid (Bel.call HB3.out hb4)
    clear hb4
    dsimp only at hK
    have HK' := Lib.hid hK
    clear hK
    dsimp only
    go_wp2_with fail
    with_reducible refine (made_no' K 10 _ ten_ne).mono ?_
    rintro e w99 ⟨hp, rfl⟩
    have HPN := Lib.hid hp
    obtain rfl := hp
    dsimp only
    go_wp2
    exact ⟨rfl, sp_no HSB.out.symm (by decide) HPN.out, HB4.out⟩
theorem parts_of {t : Tm} (h : right t = true) : parts t = (pts t, 0) := by unfold pts parts; rw [if_pos h]
theorem words_len {t x : Tm} {f : Int} (h : words t = (x, f)) : x.length ≤ 4000 := by
  unfold words at h
  split at h
  · rename_i hr
    split at h
    · have hx := (Prod.mk.inj h).1
      rw [← hx]
      have h3 := (right_len hr).2
      rcases text_cases t.tail 4000 with h1 | h1 | ⟨a, b, h1, h2, _⟩
      · rw [h1]; exact Nat.zero_le _
      · rw [h1]; exact Nat.zero_le _
      · rw [h1]
        have h4 := congrArg List.length h2
        rw [List.length_tail, List.length_append, putText_len] at h4
        show a.length ≤ _
        omega
    · rw [← (Prod.mk.inj h).1]; exact Nat.zero_le _
  · rw [← (Prod.mk.inj h).1]; exact Nat.zero_le _
theorem bl_two {ys : List ByteArray} {a b : Tm} (h : bl ys = [a, b]) : ∃ A B : ByteArray, ys = [A, B] ∧ A.data.toList = a ∧ B.data.toList = b := by
  match ys, h with
  | [A, B], h =>
    have h1 : A.data.toList = a ∧ [B.data.toList] = [b] := List.cons.inj h
    exact ⟨A, B, rfl, h1.1, (List.cons.inj h1.2).1⟩
theorem two_reads {w : World} {A : Option Addr} {a b : ByteArray} (h : SReads w A [a, b]) : ∃ (g off : Nat), A = some ⟨g, off, none⟩ ∧ g < w.heap.size ∧ w.cell? ⟨g, off, none⟩ = some (.string a) ∧ w.cell? ⟨g, off + 1, none⟩ = some (.string b) := by
  obtain ⟨g, off, e0, hl, c0⟩ := h 0 (by simp)
  have k : ∀ j (hj : j < 2) (y : ByteArray), [a, b].getD j ByteArray.empty = y → w.cell? ⟨g, off + j, none⟩ = some (.string y) := fun j hj y hy => by
    obtain ⟨g2, off2, e2, _, c2⟩ := h j (by simpa using hj)
    rw [e0] at e2
    injection e2 with e2
    injection e2 with e3 e4 _
    subst e3; subst e4
    rw [hy] at c2; exact c2
  exact ⟨g, off, e0, hl, k 0 (by decide) a rfl, k 1 (by decide) b rfl⟩
theorem open_right' {k c x : Tm} {g : Int} (hk : right k = true) (hc : right c = true) (h : open' k c = (x, g)) (hg : g = 0) : right x = true := by
  subst hg
  unfold open' at h
  rw [if_pos ⟨hk, hc⟩] at h
  unfold opens at h
  split at h
  · rename_i h1
    split at h
    · have hx := (Prod.mk.inj h).1
      cases c with
      | nil => exact absurd h1 (by decide)
      | cons b t =>
        have h1 : b = 115 := h1
        subst h1
        obtain ⟨y, z, e1, e2, e3, e4, _⟩ := pts_two hc (.inr (.inl rfl))
        have e5 : (parts (115 :: t)).1 = [y, z] := e2
        rw [e5] at hx
        rw [← hx]
        exact e4
    · exact absurd (Prod.mk.inj h).2 (by decide)
  · exact absurd (Prod.mk.inj h).2 (by decide)
theorem pair_parts {x : Tm} (h : right x = true) (h112 : x.headD 0 = 112) : ∃ a b, pts x = [a, b] ∧ right a = true ∧ right b = true := by
  cases x with
  | nil => exact absurd h112 (by decide)
  | cons k t =>
    have h1 : k = 112 := h112
    subst h1
    obtain ⟨y, z, e1, e2, e3, e4, _⟩ := pts_two h (.inl rfl)
    exact ⟨y, z, e2, e3, e4⟩
set_option maxHeartbeats 4000000 in
set_option maxRecDepth 1000000 in
theorem unseal_any (st p c : ByteArray) (w : World) (hst : right st.data.toList = true) (hp : p.size ≤ 140737488355328) (hc : right c.data.toList = true) :
    Calls Tryz.prog 53 #[.string st, .string p, .string c] w fun e w' => Sp (unsealB st.data.toList p.data.toList c.data.toList) e ∧ Below w.heap.size w w' := by
  have hz : st.size ≤ 4000 := by rw [Lib.size_eq]; exact (right_len hst).2
  have hzc : c.size ≤ 4000 := by rw [Lib.size_eq]; exact (right_len hc).2
  have HK := Lib.hid fun w => key_any st w (by omega)
  have HO : Hid (∀ (K : ByteArray) (w : World), right K.data.toList = true → Calls Tryz.prog 84 #[.string K, .string c] w fun e w' => Sr (open' K.data.toList c.data.toList) e ∧ Below w.heap.size w w') := by
    intro K w hK
    exact t_Open K c w (by rw [Lib.size_eq]; have := (right_len hK).2; omega) (by omega)
  obtain ⟨k, f, hk⟩ : ∃ k f, key st.data.toList = (k, f) := ⟨_, _, rfl⟩
  have hkt := key_ten hst
  rw [hk] at hkt HK
  generalize hsb : unsealB st.data.toList p.data.toList c.data.toList = sb
  unfold unsealB at hsb
  rw [hk] at hsb
  simp only at hsb
  have hkr : f = 0 → right k = true := fun h => by
    have := (key_ok (st := st.data.toList) (by rw [hk]; exact h)).1
    rw [hk] at this
    exact this
  clear hk hst hz hzc
  rcases hkt with hf | hf
  · have hf : f = 0 := hf
    subst hf
    have hKR := hkr rfl
    clear hkr
    rw [if_neg (by decide)] at hsb
    have HO2 : Hid (∀ (K : ByteArray) (w : World), K.data.toList = k → Calls Tryz.prog 84 #[.string K, .string c] w fun e w' => Sr (open' k c.data.toList) e ∧ Below w.heap.size w w') := fun K w hK => by
      have := HO.out K w (by rw [hK]; exact hKR)
      rw [hK] at this
      exact this
    obtain ⟨x, g, hx⟩ : ∃ x g, open' k c.data.toList = (x, g) := ⟨_, _, rfl⟩
    have hxr : g = 0 → right x = true := open_right' hKR hc hx
    rw [hx] at hsb HO2
    clear hx HO hKR
    by_cases hg : g = 0
    · subst hg
      rw [if_neg (fun h => h rfl)] at hsb
      have hxr := hxr rfl
      have HXR := Lib.hid hxr
      have HKN : Hid (∀ (X : ByteArray) (w : World), X.data.toList = x → Calls Tryz.prog 58 #[.string X] w fun e w' => e = .returned (.int .u8 ((x.headD 0).toNat : Nat)) ∧ Below w.heap.size w w') := fun X w hX => by
        have := t_Kind X w (by rw [Lib.size_eq, hX]; have := (right_len HXR.out).2; omega)
        rw [hX, kind_right HXR.out] at this
        exact this
      by_cases h112 : x.headD 0 = 112
      · rw [if_neg (fun h => h h112)] at hsb
        obtain ⟨a, b, hpx, hra, hrb⟩ := pair_parts hxr h112
        rw [hpx] at hsb
        simp only [List.getD_cons_zero, List.getD_cons_succ] at hsb
        have HPT : Hid (∀ (X : ByteArray) (w : World), X.data.toList = x → Calls Tryz.prog 85 #[.string X] w fun e w' => Ta ([a, b], 0) e w' ∧ Below w.heap.size w w') := fun X w hX => by
          have := t_Parts X w (by rw [Lib.size_eq, hX]; have := (right_len HXR.out).2; omega)
          rw [hX, parts_of HXR.out, hpx] at this
          exact this
        have HWA : Hid (∀ (X : ByteArray) (w : World), X.data.toList = a → Calls Tryz.prog 86 #[.string X] w fun e w' => Sr (words a) e ∧ Below w.heap.size w w') := fun X w hX => by
          have := t_Words X w (by rw [Lib.size_eq, hX]; have := (right_len hra).2; omega)
          rw [hX] at this
          exact this
        have HWB : Hid (∀ (X : ByteArray) (w : World), X.data.toList = b → Calls Tryz.prog 86 #[.string X] w fun e w' => Sr (words b) e ∧ Below w.heap.size w w') := fun X w hX => by
          have := t_Words X w (by rw [Lib.size_eq, hX]; have := (right_len hrb).2; omega)
          rw [hX] at this
          exact this
        have e112 : (x.headD 0).toNat = 112 := by rw [h112]; rfl
        rw [e112] at HKN
        obtain ⟨pa, ea, hwa⟩ : ∃ pa ea, words a = (pa, ea) := ⟨_, _, rfl⟩
        obtain ⟨pb, eb, hwb⟩ : ∃ pb eb, words b = (pb, eb) := ⟨_, _, rfl⟩
        have hlb : pb.length ≤ 4000 := words_len hwb
        rw [hwa] at HWA hsb
        rw [hwb] at HWB hsb
        simp only at hsb
        clear hwa hwb hra hrb hpx hxr h112 e112 HXR
        go_enter Tryz.func53, Tryz.ntmps53
        go_wp2_with fail
        with_reducible refine (HK.out _).mono ?_
        rintro e w1 ⟨⟨K, hK, rfl⟩, hb1⟩
        have HB1 := Lib.hid hb1
        clear hb1
        dsimp only at hK
        have HK' := Lib.hid hK
        clear hK
        dsimp only
        go_wp2_with fail
        with_reducible refine (trusted_yes K _).mono ?_
        rintro e w1001 ⟨rfl, rfl⟩
        dsimp only
        go_wp2_with fail
        with_reducible refine (HO2.out K _ HK'.out).mono ?_
        rintro e w2 ⟨⟨X, hX, rfl⟩, hb2⟩
        have HB2 := Lib.hid (Bel.call HB1.out hb2)
        clear hb2
        dsimp only at hX
        have HX := Lib.hid hX
        clear hX
        dsimp only
        go_wp2_with fail
        with_reducible refine (trusted_yes X _).mono ?_
        rintro e w1002 ⟨rfl, rfl⟩
        dsimp only
        go_wp2_with fail
        with_reducible refine (HKN.out X _ HX.out).mono ?_
        rintro e w3 ⟨rfl, hb3⟩
        have HB3 := Lib.hid (Bel.call HB2.out hb3)
        clear hb3
        dsimp only
        go_wp2_with fail
        with_reducible refine (must_yes 7 _).mono ?_
        rintro e w1003 ⟨rfl, rfl⟩
        dsimp only
        go_wp2_with fail
        with_reducible refine (HPT.out X _ HX.out).mono ?_
        rintro e w4 ⟨⟨A, cc, ys, hys, hlc, hsr, rfl⟩, hb4⟩
        have HB4 := Lib.hid (Bel.call HB3.out hb4)
        clear hb4
        obtain ⟨PA, PB, rfl, hPA, hPB⟩ := bl_two hys
        obtain ⟨g, off, rfl, hg1, l0, l1⟩ := two_reads hsr
        have HPA := Lib.hid hPA
        have HPB := Lib.hid hPB
        clear hys hlc hsr hPA hPB
        dsimp only
        obtain ⟨PT, hPT⟩ : ∃ T : ByteArray, T.data.toList = pa := ⟨⟨pa.toArray⟩, rfl⟩
        obtain ⟨QT, hQT⟩ : ∃ T : ByteArray, T.data.toList = pb := ⟨⟨pb.toArray⟩, rfl⟩
        have HWA2 : Hid (∀ (w : World), Calls Tryz.prog 86 #[.string PA] w fun e w' => e = .returned (.tuple #[.string PT, .int .i64 ea]) ∧ Below w.heap.size w w') := fun w => (HWA.out PA w HPA.out).mono fun e w' h => by
          obtain ⟨⟨T, hT, rfl⟩, h2⟩ := h
          obtain rfl : T = PT := str_eq (hT.trans hPT.symm)
          exact ⟨rfl, h2⟩
        have HWB2 : Hid (∀ (w : World), Calls Tryz.prog 86 #[.string PB] w fun e w' => e = .returned (.tuple #[.string QT, .int .i64 eb]) ∧ Below w.heap.size w w') := fun w => (HWB.out PB w HPB.out).mono fun e w' h => by
          obtain ⟨⟨T, hT, rfl⟩, h2⟩ := h
          obtain rfl : T = QT := str_eq (hT.trans hQT.symm)
          exact ⟨rfl, h2⟩
        clear HWA HWB
        by_cases he1 : ea = 0
        · subst he1
          by_cases he2 : eb = 0
          · subst he2
            rw [if_neg (by rintro (h | h); exact h rfl; exact h rfl)] at hsb
            have hqs : QT.size = pb.length := by rw [Lib.size_eq, hQT]
            by_cases hpp : pa = p.data.toList
            · have qp : (PT.toList == p.toList) = true := by rw [Lib.toList_data, Lib.toList_data, hPT, hpp]; simp
              by_cases h64 : 64 < pb.length
              · rw [if_pos (.inr h64)] at hsb
                have h64' : ¬ QT.size ≤ 64 := by omega
                have HSB := Lib.hid hsb
                clear hsb h64 hpp hPT hQT hlb hqs
                go_wp2_with fail
                have HG1 := Lib.hid hg1
                have L0 := Lib.hid l0
                have L1 := Lib.hid l1
                clear hg1 l0 l1
                have hdr := Below.drewN' (Below.refl w4.heap.size w4) 1
                refine Ord.region_lit (S := fun w' => Below w4.heap.size w4 w') (by kernel_rfl) (by kernel_rfl) hdr ?_
                clear hdr
                refine Ord.stepR (v := ?_) (by rfl) ?_ ?_
                rotate_left
                · intro w' hSw
                  have hk1 := (hSw.cell (p := ⟨g, off, none⟩) HG1.out).trans L0.out
                  have hk2 := (hSw.cell (p := ⟨g, off + 1, none⟩) HG1.out).trans L1.out
                  go_simp
                  try with_reducible rfl
                try simp only [Act.put, List.setIfInBounds_toArray, List.set_cons_zero, List.set_cons_succ]
                refine Ord.stepR (v := ?_) (by rfl) ?_ ?_
                rotate_left
                · intro w' hSw
                  have hk1 := (hSw.cell (p := ⟨g, off, none⟩) HG1.out).trans L0.out
                  have hk2 := (hSw.cell (p := ⟨g, off + 1, none⟩) HG1.out).trans L1.out
                  go_simp
                  try with_reducible rfl
                try simp only [Act.put, List.setIfInBounds_toArray, List.set_cons_zero, List.set_cons_succ]
                refine Ord.stepR (v := ?_) (by rfl) ?_ ?_
                rotate_left
                · intro w' hSw
                  have hk1 := (hSw.cell (p := ⟨g, off, none⟩) HG1.out).trans L0.out
                  have hk2 := (hSw.cell (p := ⟨g, off + 1, none⟩) HG1.out).trans L1.out
                  go_simp
                  try with_reducible rfl
                try simp only [Act.put, List.setIfInBounds_toArray, List.set_cons_zero, List.set_cons_succ]
                refine Ord.stepC (v := .tuple #[.string PT, .int .i64 0]) (by rfl) ?_ (fun w1 hS => (HWA2.out w1).mono fun e w2 h => ⟨h.1, Bel.call hS h.2⟩) ?_
                · intro w' hSw
                  go_simp
                  try with_reducible rfl
                try simp only [Act.put, List.setIfInBounds_toArray, List.set_cons_zero, List.set_cons_succ]
                refine Ord.stepR (v := ?_) (by rfl) ?_ ?_
                rotate_left
                · intro w' hSw
                  have hk1 := (hSw.cell (p := ⟨g, off, none⟩) HG1.out).trans L0.out
                  have hk2 := (hSw.cell (p := ⟨g, off + 1, none⟩) HG1.out).trans L1.out
                  go_simp
                  try with_reducible rfl
                try simp only [Act.put, List.setIfInBounds_toArray, List.set_cons_zero, List.set_cons_succ]
                refine Ord.stepR (v := ?_) (by rfl) ?_ ?_
                rotate_left
                · intro w' hSw
                  have hk1 := (hSw.cell (p := ⟨g, off, none⟩) HG1.out).trans L0.out
                  have hk2 := (hSw.cell (p := ⟨g, off + 1, none⟩) HG1.out).trans L1.out
                  go_simp
                  try with_reducible rfl
                try simp only [Act.put, List.setIfInBounds_toArray, List.set_cons_zero, List.set_cons_succ]
                refine Ord.stepC (v := .string PT) (by rfl) ?_ (fun w1 hS => (trusted_yes PT w1).mono fun e w2 h => ⟨h.1, by rw [h.2]; exact hS⟩) ?_
                · intro w' hSw
                  go_simp
                  try with_reducible rfl
                try simp only [Act.put, List.setIfInBounds_toArray, List.set_cons_zero, List.set_cons_succ]
                refine Ord.stepR (v := ?_) (by rfl) ?_ ?_
                rotate_left
                · intro w' hSw
                  have hk1 := (hSw.cell (p := ⟨g, off, none⟩) HG1.out).trans L0.out
                  have hk2 := (hSw.cell (p := ⟨g, off + 1, none⟩) HG1.out).trans L1.out
                  go_simp
                  try with_reducible rfl
                try simp only [Act.put, List.setIfInBounds_toArray, List.set_cons_zero, List.set_cons_succ]
                refine Ord.stepR (v := ?_) (by rfl) ?_ ?_
                rotate_left
                · intro w' hSw
                  have hk1 := (hSw.cell (p := ⟨g, off, none⟩) HG1.out).trans L0.out
                  have hk2 := (hSw.cell (p := ⟨g, off + 1, none⟩) HG1.out).trans L1.out
                  go_simp
                  try with_reducible rfl
                try simp only [Act.put, List.setIfInBounds_toArray, List.set_cons_zero, List.set_cons_succ]
                refine Ord.stepR (v := ?_) (by rfl) ?_ ?_
                rotate_left
                · intro w' hSw
                  have hk1 := (hSw.cell (p := ⟨g, off, none⟩) HG1.out).trans L0.out
                  have hk2 := (hSw.cell (p := ⟨g, off + 1, none⟩) HG1.out).trans L1.out
                  go_simp
                  try with_reducible rfl
                try simp only [Act.put, List.setIfInBounds_toArray, List.set_cons_zero, List.set_cons_succ]
                refine Ord.stepC (v := .tuple #[.string QT, .int .i64 0]) (by rfl) ?_ (fun w1 hS => (HWB2.out w1).mono fun e w2 h => ⟨h.1, Bel.call hS h.2⟩) ?_
                · intro w' hSw
                  go_simp
                  try with_reducible rfl
                try simp only [Act.put, List.setIfInBounds_toArray, List.set_cons_zero, List.set_cons_succ]
                refine Ord.stepR (v := ?_) (by rfl) ?_ ?_
                rotate_left
                · intro w' hSw
                  have hk1 := (hSw.cell (p := ⟨g, off, none⟩) HG1.out).trans L0.out
                  have hk2 := (hSw.cell (p := ⟨g, off + 1, none⟩) HG1.out).trans L1.out
                  go_simp
                  try with_reducible rfl
                try simp only [Act.put, List.setIfInBounds_toArray, List.set_cons_zero, List.set_cons_succ]
                refine Ord.stepR (v := ?_) (by rfl) ?_ ?_
                rotate_left
                · intro w' hSw
                  have hk1 := (hSw.cell (p := ⟨g, off, none⟩) HG1.out).trans L0.out
                  have hk2 := (hSw.cell (p := ⟨g, off + 1, none⟩) HG1.out).trans L1.out
                  go_simp
                  try with_reducible rfl
                try simp only [Act.put, List.setIfInBounds_toArray, List.set_cons_zero, List.set_cons_succ]
                refine Ord.stepC (v := .string QT) (by rfl) ?_ (fun w1 hS => (trusted_yes QT w1).mono fun e w2 h => ⟨h.1, by rw [h.2]; exact hS⟩) ?_
                · intro w' hSw
                  go_simp
                  try with_reducible rfl
                try simp only [Act.put, List.setIfInBounds_toArray, List.set_cons_zero, List.set_cons_succ]
                refine Ord.stepR (v := ?_) (by rfl) ?_ ?_
                rotate_left
                · intro w' hSw
                  have hk1 := (hSw.cell (p := ⟨g, off, none⟩) HG1.out).trans L0.out
                  have hk2 := (hSw.cell (p := ⟨g, off + 1, none⟩) HG1.out).trans L1.out
                  go_simp
                  try with_reducible rfl
                try simp only [Act.put, List.setIfInBounds_toArray, List.set_cons_zero, List.set_cons_succ]
                refine Ord.stepR (v := ?_) (by rfl) ?_ ?_
                rotate_left
                · intro w' hSw
                  have hk1 := (hSw.cell (p := ⟨g, off, none⟩) HG1.out).trans L0.out
                  have hk2 := (hSw.cell (p := ⟨g, off + 1, none⟩) HG1.out).trans L1.out
                  go_simp
                  try with_reducible rfl
                try simp only [Act.put, List.setIfInBounds_toArray, List.set_cons_zero, List.set_cons_succ]
                refine Ord.stepD ?_
                rintro w5 hS9
                have HB5 := Lib.hid (Bel.call HB4.out hS9)
                clear hS9
                go_wp2_with fail
                rw [decide_eq_false (show ¬ ((QT.size : Int) ≤ 64) by omega)]
                with_reducible refine (must_no 7 _).mono ?_
                rintro e w99 ⟨hp, rfl⟩
                have HPN := Lib.hid hp
                obtain rfl := hp
                dsimp only
                go_wp2
                exact ⟨rfl, sp_no HSB.out.symm (by decide) HPN.out, HB5.out⟩
              · rw [if_neg (by rintro (h | h); exact h hpp; exact h64 h)] at hsb
                have h64' : QT.size ≤ 64 := by omega
                have HSB := Lib.hid hsb
                have HQT := Lib.hid hQT
                clear hsb h64 hpp hPT hQT hlb hqs
                go_wp2_with fail
                have HG1 := Lib.hid hg1
                have L0 := Lib.hid l0
                have L1 := Lib.hid l1
                clear hg1 l0 l1
                have hdr := Below.drewN' (Below.refl w4.heap.size w4) 1
                refine Ord.region_lit (S := fun w' => Below w4.heap.size w4 w') (by kernel_rfl) (by kernel_rfl) hdr ?_
                clear hdr
                refine Ord.stepR (v := ?_) (by rfl) ?_ ?_
                rotate_left
                · intro w' hSw
                  have hk1 := (hSw.cell (p := ⟨g, off, none⟩) HG1.out).trans L0.out
                  have hk2 := (hSw.cell (p := ⟨g, off + 1, none⟩) HG1.out).trans L1.out
                  go_simp
                  try with_reducible rfl
                try simp only [Act.put, List.setIfInBounds_toArray, List.set_cons_zero, List.set_cons_succ]
                refine Ord.stepR (v := ?_) (by rfl) ?_ ?_
                rotate_left
                · intro w' hSw
                  have hk1 := (hSw.cell (p := ⟨g, off, none⟩) HG1.out).trans L0.out
                  have hk2 := (hSw.cell (p := ⟨g, off + 1, none⟩) HG1.out).trans L1.out
                  go_simp
                  try with_reducible rfl
                try simp only [Act.put, List.setIfInBounds_toArray, List.set_cons_zero, List.set_cons_succ]
                refine Ord.stepR (v := ?_) (by rfl) ?_ ?_
                rotate_left
                · intro w' hSw
                  have hk1 := (hSw.cell (p := ⟨g, off, none⟩) HG1.out).trans L0.out
                  have hk2 := (hSw.cell (p := ⟨g, off + 1, none⟩) HG1.out).trans L1.out
                  go_simp
                  try with_reducible rfl
                try simp only [Act.put, List.setIfInBounds_toArray, List.set_cons_zero, List.set_cons_succ]
                refine Ord.stepC (v := .tuple #[.string PT, .int .i64 0]) (by rfl) ?_ (fun w1 hS => (HWA2.out w1).mono fun e w2 h => ⟨h.1, Bel.call hS h.2⟩) ?_
                · intro w' hSw
                  go_simp
                  try with_reducible rfl
                try simp only [Act.put, List.setIfInBounds_toArray, List.set_cons_zero, List.set_cons_succ]
                refine Ord.stepR (v := ?_) (by rfl) ?_ ?_
                rotate_left
                · intro w' hSw
                  have hk1 := (hSw.cell (p := ⟨g, off, none⟩) HG1.out).trans L0.out
                  have hk2 := (hSw.cell (p := ⟨g, off + 1, none⟩) HG1.out).trans L1.out
                  go_simp
                  try with_reducible rfl
                try simp only [Act.put, List.setIfInBounds_toArray, List.set_cons_zero, List.set_cons_succ]
                refine Ord.stepR (v := ?_) (by rfl) ?_ ?_
                rotate_left
                · intro w' hSw
                  have hk1 := (hSw.cell (p := ⟨g, off, none⟩) HG1.out).trans L0.out
                  have hk2 := (hSw.cell (p := ⟨g, off + 1, none⟩) HG1.out).trans L1.out
                  go_simp
                  try with_reducible rfl
                try simp only [Act.put, List.setIfInBounds_toArray, List.set_cons_zero, List.set_cons_succ]
                refine Ord.stepC (v := .string PT) (by rfl) ?_ (fun w1 hS => (trusted_yes PT w1).mono fun e w2 h => ⟨h.1, by rw [h.2]; exact hS⟩) ?_
                · intro w' hSw
                  go_simp
                  try with_reducible rfl
                try simp only [Act.put, List.setIfInBounds_toArray, List.set_cons_zero, List.set_cons_succ]
                refine Ord.stepR (v := ?_) (by rfl) ?_ ?_
                rotate_left
                · intro w' hSw
                  have hk1 := (hSw.cell (p := ⟨g, off, none⟩) HG1.out).trans L0.out
                  have hk2 := (hSw.cell (p := ⟨g, off + 1, none⟩) HG1.out).trans L1.out
                  go_simp
                  try with_reducible rfl
                try simp only [Act.put, List.setIfInBounds_toArray, List.set_cons_zero, List.set_cons_succ]
                refine Ord.stepR (v := ?_) (by rfl) ?_ ?_
                rotate_left
                · intro w' hSw
                  have hk1 := (hSw.cell (p := ⟨g, off, none⟩) HG1.out).trans L0.out
                  have hk2 := (hSw.cell (p := ⟨g, off + 1, none⟩) HG1.out).trans L1.out
                  go_simp
                  try with_reducible rfl
                try simp only [Act.put, List.setIfInBounds_toArray, List.set_cons_zero, List.set_cons_succ]
                refine Ord.stepR (v := ?_) (by rfl) ?_ ?_
                rotate_left
                · intro w' hSw
                  have hk1 := (hSw.cell (p := ⟨g, off, none⟩) HG1.out).trans L0.out
                  have hk2 := (hSw.cell (p := ⟨g, off + 1, none⟩) HG1.out).trans L1.out
                  go_simp
                  try with_reducible rfl
                try simp only [Act.put, List.setIfInBounds_toArray, List.set_cons_zero, List.set_cons_succ]
                refine Ord.stepC (v := .tuple #[.string QT, .int .i64 0]) (by rfl) ?_ (fun w1 hS => (HWB2.out w1).mono fun e w2 h => ⟨h.1, Bel.call hS h.2⟩) ?_
                · intro w' hSw
                  go_simp
                  try with_reducible rfl
                try simp only [Act.put, List.setIfInBounds_toArray, List.set_cons_zero, List.set_cons_succ]
                refine Ord.stepR (v := ?_) (by rfl) ?_ ?_
                rotate_left
                · intro w' hSw
                  have hk1 := (hSw.cell (p := ⟨g, off, none⟩) HG1.out).trans L0.out
                  have hk2 := (hSw.cell (p := ⟨g, off + 1, none⟩) HG1.out).trans L1.out
                  go_simp
                  try with_reducible rfl
                try simp only [Act.put, List.setIfInBounds_toArray, List.set_cons_zero, List.set_cons_succ]
                refine Ord.stepR (v := ?_) (by rfl) ?_ ?_
                rotate_left
                · intro w' hSw
                  have hk1 := (hSw.cell (p := ⟨g, off, none⟩) HG1.out).trans L0.out
                  have hk2 := (hSw.cell (p := ⟨g, off + 1, none⟩) HG1.out).trans L1.out
                  go_simp
                  try with_reducible rfl
                try simp only [Act.put, List.setIfInBounds_toArray, List.set_cons_zero, List.set_cons_succ]
                refine Ord.stepC (v := .string QT) (by rfl) ?_ (fun w1 hS => (trusted_yes QT w1).mono fun e w2 h => ⟨h.1, by rw [h.2]; exact hS⟩) ?_
                · intro w' hSw
                  go_simp
                  try with_reducible rfl
                try simp only [Act.put, List.setIfInBounds_toArray, List.set_cons_zero, List.set_cons_succ]
                refine Ord.stepR (v := ?_) (by rfl) ?_ ?_
                rotate_left
                · intro w' hSw
                  have hk1 := (hSw.cell (p := ⟨g, off, none⟩) HG1.out).trans L0.out
                  have hk2 := (hSw.cell (p := ⟨g, off + 1, none⟩) HG1.out).trans L1.out
                  go_simp
                  try with_reducible rfl
                try simp only [Act.put, List.setIfInBounds_toArray, List.set_cons_zero, List.set_cons_succ]
                refine Ord.stepR (v := ?_) (by rfl) ?_ ?_
                rotate_left
                · intro w' hSw
                  have hk1 := (hSw.cell (p := ⟨g, off, none⟩) HG1.out).trans L0.out
                  have hk2 := (hSw.cell (p := ⟨g, off + 1, none⟩) HG1.out).trans L1.out
                  go_simp
                  try with_reducible rfl
                try simp only [Act.put, List.setIfInBounds_toArray, List.set_cons_zero, List.set_cons_succ]
                refine Ord.stepD ?_
                rintro w5 hS9
                have HB5 := Lib.hid (Bel.call HB4.out hS9)
                clear hS9
                go_wp2_with fail
                rw [decide_eq_true (show ((QT.size : Int) ≤ 64) by omega)]
                with_reducible refine (must_yes 7 _).mono ?_
                rintro e w1005 ⟨rfl, rfl⟩
                dsimp only
                go_wp2
                go_ret
                exact ⟨sp_yes HSB.out.symm ⟨QT, HQT.out, rfl⟩, HB5.out⟩
            · have qp : (PT.toList == p.toList) = false := by rw [Lib.toList_data, Lib.toList_data, hPT]; simpa using hpp
              rw [if_pos (.inl hpp)] at hsb
              have HSB := Lib.hid hsb
              clear hsb hpp hPT hQT hlb hqs
              go_wp2_with fail
              have HG1 := Lib.hid hg1
              have L0 := Lib.hid l0
              have L1 := Lib.hid l1
              clear hg1 l0 l1
              have hdr := Below.drewN' (Below.refl w4.heap.size w4) 1
              refine Ord.region_lit (S := fun w' => Below w4.heap.size w4 w') (by kernel_rfl) (by kernel_rfl) hdr ?_
              clear hdr
              refine Ord.stepR (v := ?_) (by rfl) ?_ ?_
              rotate_left
              · intro w' hSw
                have hk1 := (hSw.cell (p := ⟨g, off, none⟩) HG1.out).trans L0.out
                have hk2 := (hSw.cell (p := ⟨g, off + 1, none⟩) HG1.out).trans L1.out
                go_simp
                try with_reducible rfl
              try simp only [Act.put, List.setIfInBounds_toArray, List.set_cons_zero, List.set_cons_succ]
              refine Ord.stepR (v := ?_) (by rfl) ?_ ?_
              rotate_left
              · intro w' hSw
                have hk1 := (hSw.cell (p := ⟨g, off, none⟩) HG1.out).trans L0.out
                have hk2 := (hSw.cell (p := ⟨g, off + 1, none⟩) HG1.out).trans L1.out
                go_simp
                try with_reducible rfl
              try simp only [Act.put, List.setIfInBounds_toArray, List.set_cons_zero, List.set_cons_succ]
              refine Ord.stepR (v := ?_) (by rfl) ?_ ?_
              rotate_left
              · intro w' hSw
                have hk1 := (hSw.cell (p := ⟨g, off, none⟩) HG1.out).trans L0.out
                have hk2 := (hSw.cell (p := ⟨g, off + 1, none⟩) HG1.out).trans L1.out
                go_simp
                try with_reducible rfl
              try simp only [Act.put, List.setIfInBounds_toArray, List.set_cons_zero, List.set_cons_succ]
              refine Ord.stepC (v := .tuple #[.string PT, .int .i64 0]) (by rfl) ?_ (fun w1 hS => (HWA2.out w1).mono fun e w2 h => ⟨h.1, Bel.call hS h.2⟩) ?_
              · intro w' hSw
                go_simp
                try with_reducible rfl
              try simp only [Act.put, List.setIfInBounds_toArray, List.set_cons_zero, List.set_cons_succ]
              refine Ord.stepR (v := ?_) (by rfl) ?_ ?_
              rotate_left
              · intro w' hSw
                have hk1 := (hSw.cell (p := ⟨g, off, none⟩) HG1.out).trans L0.out
                have hk2 := (hSw.cell (p := ⟨g, off + 1, none⟩) HG1.out).trans L1.out
                go_simp
                try with_reducible rfl
              try simp only [Act.put, List.setIfInBounds_toArray, List.set_cons_zero, List.set_cons_succ]
              refine Ord.stepR (v := ?_) (by rfl) ?_ ?_
              rotate_left
              · intro w' hSw
                have hk1 := (hSw.cell (p := ⟨g, off, none⟩) HG1.out).trans L0.out
                have hk2 := (hSw.cell (p := ⟨g, off + 1, none⟩) HG1.out).trans L1.out
                go_simp
                try with_reducible rfl
              try simp only [Act.put, List.setIfInBounds_toArray, List.set_cons_zero, List.set_cons_succ]
              refine Ord.stepC (v := .string PT) (by rfl) ?_ (fun w1 hS => (trusted_yes PT w1).mono fun e w2 h => ⟨h.1, by rw [h.2]; exact hS⟩) ?_
              · intro w' hSw
                go_simp
                try with_reducible rfl
              try simp only [Act.put, List.setIfInBounds_toArray, List.set_cons_zero, List.set_cons_succ]
              refine Ord.stepR (v := ?_) (by rfl) ?_ ?_
              rotate_left
              · intro w' hSw
                have hk1 := (hSw.cell (p := ⟨g, off, none⟩) HG1.out).trans L0.out
                have hk2 := (hSw.cell (p := ⟨g, off + 1, none⟩) HG1.out).trans L1.out
                go_simp
                try with_reducible rfl
              try simp only [Act.put, List.setIfInBounds_toArray, List.set_cons_zero, List.set_cons_succ]
              refine Ord.stepR (v := ?_) (by rfl) ?_ ?_
              rotate_left
              · intro w' hSw
                have hk1 := (hSw.cell (p := ⟨g, off, none⟩) HG1.out).trans L0.out
                have hk2 := (hSw.cell (p := ⟨g, off + 1, none⟩) HG1.out).trans L1.out
                go_simp
                try with_reducible rfl
              try simp only [Act.put, List.setIfInBounds_toArray, List.set_cons_zero, List.set_cons_succ]
              refine Ord.stepR (v := ?_) (by rfl) ?_ ?_
              rotate_left
              · intro w' hSw
                have hk1 := (hSw.cell (p := ⟨g, off, none⟩) HG1.out).trans L0.out
                have hk2 := (hSw.cell (p := ⟨g, off + 1, none⟩) HG1.out).trans L1.out
                go_simp
                try with_reducible rfl
              try simp only [Act.put, List.setIfInBounds_toArray, List.set_cons_zero, List.set_cons_succ]
              refine Ord.stepC (v := .tuple #[.string QT, .int .i64 0]) (by rfl) ?_ (fun w1 hS => (HWB2.out w1).mono fun e w2 h => ⟨h.1, Bel.call hS h.2⟩) ?_
              · intro w' hSw
                go_simp
                try with_reducible rfl
              try simp only [Act.put, List.setIfInBounds_toArray, List.set_cons_zero, List.set_cons_succ]
              refine Ord.stepR (v := ?_) (by rfl) ?_ ?_
              rotate_left
              · intro w' hSw
                have hk1 := (hSw.cell (p := ⟨g, off, none⟩) HG1.out).trans L0.out
                have hk2 := (hSw.cell (p := ⟨g, off + 1, none⟩) HG1.out).trans L1.out
                go_simp
                try with_reducible rfl
              try simp only [Act.put, List.setIfInBounds_toArray, List.set_cons_zero, List.set_cons_succ]
              refine Ord.stepR (v := ?_) (by rfl) ?_ ?_
              rotate_left
              · intro w' hSw
                have hk1 := (hSw.cell (p := ⟨g, off, none⟩) HG1.out).trans L0.out
                have hk2 := (hSw.cell (p := ⟨g, off + 1, none⟩) HG1.out).trans L1.out
                go_simp
                try with_reducible rfl
              try simp only [Act.put, List.setIfInBounds_toArray, List.set_cons_zero, List.set_cons_succ]
              refine Ord.stepC (v := .string QT) (by rfl) ?_ (fun w1 hS => (trusted_yes QT w1).mono fun e w2 h => ⟨h.1, by rw [h.2]; exact hS⟩) ?_
              · intro w' hSw
                go_simp
                try with_reducible rfl
              try simp only [Act.put, List.setIfInBounds_toArray, List.set_cons_zero, List.set_cons_succ]
              refine Ord.stepR (v := ?_) (by rfl) ?_ ?_
              rotate_left
              · intro w' hSw
                have hk1 := (hSw.cell (p := ⟨g, off, none⟩) HG1.out).trans L0.out
                have hk2 := (hSw.cell (p := ⟨g, off + 1, none⟩) HG1.out).trans L1.out
                go_simp
                try with_reducible rfl
              try simp only [Act.put, List.setIfInBounds_toArray, List.set_cons_zero, List.set_cons_succ]
              refine Ord.stepR (v := ?_) (by rfl) ?_ ?_
              rotate_left
              · intro w' hSw
                have hk1 := (hSw.cell (p := ⟨g, off, none⟩) HG1.out).trans L0.out
                have hk2 := (hSw.cell (p := ⟨g, off + 1, none⟩) HG1.out).trans L1.out
                go_simp
                try with_reducible rfl
              try simp only [Act.put, List.setIfInBounds_toArray, List.set_cons_zero, List.set_cons_succ]
              refine Ord.stepD ?_
              rintro w5 hS9
              have HB5 := Lib.hid (Bel.call HB4.out hS9)
              clear hS9
              go_wp2_with fail
              with_reducible refine (must_no 7 _).mono ?_
              rintro e w99 ⟨hp, rfl⟩
              have HPN := Lib.hid hp
              obtain rfl := hp
              dsimp only
              go_wp2
              exact ⟨rfl, sp_no HSB.out.symm (by decide) HPN.out, HB5.out⟩
          · clear hlb hPT hQT
            have heb : (eb == 0) = false := by simpa using he2
            rw [if_pos (.inr he2)] at hsb
            have HSB := Lib.hid hsb
            clear hsb he2
            go_wp2_with fail
            have HG1 := Lib.hid hg1
            have L0 := Lib.hid l0
            have L1 := Lib.hid l1
            clear hg1 l0 l1
            have hdr := Below.drewN' (Below.refl w4.heap.size w4) 1
            refine Ord.regionE (S := fun w' => Below w4.heap.size w4 w') (R := fun ch => ch = [{ v := .iface 28 (.int .i64 7), recovered := false }]) (by kernel_rfl) hdr ?_ ?_
            · rintro ch a w9 rfl hS9 hdf
              exact ⟨hdf.1, sp_no HSB.out.symm (by decide) rfl, Bel.call HB4.out hS9⟩
            clear hdr
            refine Ord.takeRE (i := 0) (v := ?_) rfl (by kernel_rfl) (by kernel_rfl) (by kernel_rfl) (by rfl) ?_ ?_
            rotate_left
            · intro w' hSw
              have hk1 := (hSw.cell (p := ⟨g, off, none⟩) HG1.out).trans L0.out
              have hk2 := (hSw.cell (p := ⟨g, off + 1, none⟩) HG1.out).trans L1.out
              go_simp
              try with_reducible rfl
            try simp only [Act.put, List.setIfInBounds_toArray, List.set_cons_zero, List.set_cons_succ]
            refine Ord.takeRE (i := 1) (v := ?_) rfl (by kernel_rfl) (by kernel_rfl) (by kernel_rfl) (by rfl) ?_ ?_
            rotate_left
            · intro w' hSw
              have hk1 := (hSw.cell (p := ⟨g, off, none⟩) HG1.out).trans L0.out
              have hk2 := (hSw.cell (p := ⟨g, off + 1, none⟩) HG1.out).trans L1.out
              go_simp
              try with_reducible rfl
            try simp only [Act.put, List.setIfInBounds_toArray, List.set_cons_zero, List.set_cons_succ]
            refine Ord.takeRE (i := 2) (v := ?_) rfl (by kernel_rfl) (by kernel_rfl) (by kernel_rfl) (by rfl) ?_ ?_
            rotate_left
            · intro w' hSw
              have hk1 := (hSw.cell (p := ⟨g, off, none⟩) HG1.out).trans L0.out
              have hk2 := (hSw.cell (p := ⟨g, off + 1, none⟩) HG1.out).trans L1.out
              go_simp
              try with_reducible rfl
            try simp only [Act.put, List.setIfInBounds_toArray, List.set_cons_zero, List.set_cons_succ]
            refine Ord.takeCE (i := 3) (v := .tuple #[.string PT, .int .i64 0]) rfl (by kernel_rfl) (by kernel_rfl) (by kernel_rfl) (by rfl) ?_ (fun w1 hS => (HWA2.out w1).mono fun e w2 h => ⟨h.1, Bel.call hS h.2⟩) ?_
            · intro w' hSw
              go_simp
              try with_reducible rfl
            try simp only [Act.put, List.setIfInBounds_toArray, List.set_cons_zero, List.set_cons_succ]
            refine Ord.takeRE (i := 4) (v := ?_) rfl (by kernel_rfl) (by kernel_rfl) (by kernel_rfl) (by rfl) ?_ ?_
            rotate_left
            · intro w' hSw
              have hk1 := (hSw.cell (p := ⟨g, off, none⟩) HG1.out).trans L0.out
              have hk2 := (hSw.cell (p := ⟨g, off + 1, none⟩) HG1.out).trans L1.out
              go_simp
              try with_reducible rfl
            try simp only [Act.put, List.setIfInBounds_toArray, List.set_cons_zero, List.set_cons_succ]
            refine Ord.takeRE (i := 5) (v := ?_) rfl (by kernel_rfl) (by kernel_rfl) (by kernel_rfl) (by rfl) ?_ ?_
            rotate_left
            · intro w' hSw
              have hk1 := (hSw.cell (p := ⟨g, off, none⟩) HG1.out).trans L0.out
              have hk2 := (hSw.cell (p := ⟨g, off + 1, none⟩) HG1.out).trans L1.out
              go_simp
              try with_reducible rfl
            try simp only [Act.put, List.setIfInBounds_toArray, List.set_cons_zero, List.set_cons_succ]
            refine Ord.takeCE (i := 6) (v := .string PT) rfl (by kernel_rfl) (by kernel_rfl) (by kernel_rfl) (by rfl) ?_ (fun w1 hS => (trusted_yes PT w1).mono fun e w2 h => ⟨h.1, by rw [h.2]; exact hS⟩) ?_
            · intro w' hSw
              go_simp
              try with_reducible rfl
            try simp only [Act.put, List.setIfInBounds_toArray, List.set_cons_zero, List.set_cons_succ]
            refine Ord.takeRE (i := 7) (v := ?_) rfl (by kernel_rfl) (by kernel_rfl) (by kernel_rfl) (by rfl) ?_ ?_
            rotate_left
            · intro w' hSw
              have hk1 := (hSw.cell (p := ⟨g, off, none⟩) HG1.out).trans L0.out
              have hk2 := (hSw.cell (p := ⟨g, off + 1, none⟩) HG1.out).trans L1.out
              go_simp
              try with_reducible rfl
            try simp only [Act.put, List.setIfInBounds_toArray, List.set_cons_zero, List.set_cons_succ]
            refine Ord.takeRE (i := 8) (v := ?_) rfl (by kernel_rfl) (by kernel_rfl) (by kernel_rfl) (by rfl) ?_ ?_
            rotate_left
            · intro w' hSw
              have hk1 := (hSw.cell (p := ⟨g, off, none⟩) HG1.out).trans L0.out
              have hk2 := (hSw.cell (p := ⟨g, off + 1, none⟩) HG1.out).trans L1.out
              go_simp
              try with_reducible rfl
            try simp only [Act.put, List.setIfInBounds_toArray, List.set_cons_zero, List.set_cons_succ]
            refine Ord.takeRE (i := 9) (v := ?_) rfl (by kernel_rfl) (by kernel_rfl) (by kernel_rfl) (by rfl) ?_ ?_
            rotate_left
            · intro w' hSw
              have hk1 := (hSw.cell (p := ⟨g, off, none⟩) HG1.out).trans L0.out
              have hk2 := (hSw.cell (p := ⟨g, off + 1, none⟩) HG1.out).trans L1.out
              go_simp
              try with_reducible rfl
            try simp only [Act.put, List.setIfInBounds_toArray, List.set_cons_zero, List.set_cons_succ]
            refine Ord.takeCE (i := 10) (v := .tuple #[.string QT, .int .i64 eb]) rfl (by kernel_rfl) (by kernel_rfl) (by kernel_rfl) (by rfl) ?_ (fun w1 hS => (HWB2.out w1).mono fun e w2 h => ⟨h.1, Bel.call hS h.2⟩) ?_
            · intro w' hSw
              go_simp
              try with_reducible rfl
            try simp only [Act.put, List.setIfInBounds_toArray, List.set_cons_zero, List.set_cons_succ]
            refine Ord.takeRE (i := 11) (v := ?_) rfl (by kernel_rfl) (by kernel_rfl) (by kernel_rfl) (by rfl) ?_ ?_
            rotate_left
            · intro w' hSw
              have hk1 := (hSw.cell (p := ⟨g, off, none⟩) HG1.out).trans L0.out
              have hk2 := (hSw.cell (p := ⟨g, off + 1, none⟩) HG1.out).trans L1.out
              go_simp
              try with_reducible rfl
            try simp only [Act.put, List.setIfInBounds_toArray, List.set_cons_zero, List.set_cons_succ]
            refine Ord.takeRE (i := 12) (v := ?_) rfl (by kernel_rfl) (by kernel_rfl) (by kernel_rfl) (by rfl) ?_ ?_
            rotate_left
            · intro w' hSw
              have hk1 := (hSw.cell (p := ⟨g, off, none⟩) HG1.out).trans L0.out
              have hk2 := (hSw.cell (p := ⟨g, off + 1, none⟩) HG1.out).trans L1.out
              go_simp
              try with_reducible rfl
            try simp only [Act.put, List.setIfInBounds_toArray, List.set_cons_zero, List.set_cons_succ]
            refine Ord.dieE (i := 13) rfl (by kernel_rfl) (by rfl) ?_ (fun w1 hS => (trusted_no QT eb w1 heb).mono fun e w2 h => ⟨_, h.1, rfl, by rw [h.2]; exact hS⟩)
            intro w' hSw
            go_simp
            try with_reducible rfl
        · clear hlb hPT hQT
          have heb : (ea == 0) = false := by simpa using he1
          rw [if_pos (.inl he1)] at hsb
          have HSB := Lib.hid hsb
          clear hsb he1
          go_wp2_with fail
          have HG1 := Lib.hid hg1
          have L0 := Lib.hid l0
          have L1 := Lib.hid l1
          clear hg1 l0 l1
          have hdr := Below.drewN' (Below.refl w4.heap.size w4) 1
          refine Ord.regionE (S := fun w' => Below w4.heap.size w4 w') (R := fun ch => ch = [{ v := .iface 28 (.int .i64 7), recovered := false }]) (by kernel_rfl) hdr ?_ ?_
          · rintro ch a w9 rfl hS9 hdf
            exact ⟨hdf.1, sp_no HSB.out.symm (by decide) rfl, Bel.call HB4.out hS9⟩
          clear hdr
          refine Ord.takeRE (i := 0) (v := ?_) rfl (by kernel_rfl) (by kernel_rfl) (by kernel_rfl) (by rfl) ?_ ?_
          rotate_left
          · intro w' hSw
            have hk1 := (hSw.cell (p := ⟨g, off, none⟩) HG1.out).trans L0.out
            have hk2 := (hSw.cell (p := ⟨g, off + 1, none⟩) HG1.out).trans L1.out
            go_simp
            try with_reducible rfl
          try simp only [Act.put, List.setIfInBounds_toArray, List.set_cons_zero, List.set_cons_succ]
          refine Ord.takeRE (i := 1) (v := ?_) rfl (by kernel_rfl) (by kernel_rfl) (by kernel_rfl) (by rfl) ?_ ?_
          rotate_left
          · intro w' hSw
            have hk1 := (hSw.cell (p := ⟨g, off, none⟩) HG1.out).trans L0.out
            have hk2 := (hSw.cell (p := ⟨g, off + 1, none⟩) HG1.out).trans L1.out
            go_simp
            try with_reducible rfl
          try simp only [Act.put, List.setIfInBounds_toArray, List.set_cons_zero, List.set_cons_succ]
          refine Ord.takeRE (i := 2) (v := ?_) rfl (by kernel_rfl) (by kernel_rfl) (by kernel_rfl) (by rfl) ?_ ?_
          rotate_left
          · intro w' hSw
            have hk1 := (hSw.cell (p := ⟨g, off, none⟩) HG1.out).trans L0.out
            have hk2 := (hSw.cell (p := ⟨g, off + 1, none⟩) HG1.out).trans L1.out
            go_simp
            try with_reducible rfl
          try simp only [Act.put, List.setIfInBounds_toArray, List.set_cons_zero, List.set_cons_succ]
          refine Ord.takeCE (i := 3) (v := .tuple #[.string PT, .int .i64 ea]) rfl (by kernel_rfl) (by kernel_rfl) (by kernel_rfl) (by rfl) ?_ (fun w1 hS => (HWA2.out w1).mono fun e w2 h => ⟨h.1, Bel.call hS h.2⟩) ?_
          · intro w' hSw
            go_simp
            try with_reducible rfl
          try simp only [Act.put, List.setIfInBounds_toArray, List.set_cons_zero, List.set_cons_succ]
          refine Ord.takeRE (i := 4) (v := ?_) rfl (by kernel_rfl) (by kernel_rfl) (by kernel_rfl) (by rfl) ?_ ?_
          rotate_left
          · intro w' hSw
            have hk1 := (hSw.cell (p := ⟨g, off, none⟩) HG1.out).trans L0.out
            have hk2 := (hSw.cell (p := ⟨g, off + 1, none⟩) HG1.out).trans L1.out
            go_simp
            try with_reducible rfl
          try simp only [Act.put, List.setIfInBounds_toArray, List.set_cons_zero, List.set_cons_succ]
          refine Ord.takeRE (i := 5) (v := ?_) rfl (by kernel_rfl) (by kernel_rfl) (by kernel_rfl) (by rfl) ?_ ?_
          rotate_left
          · intro w' hSw
            have hk1 := (hSw.cell (p := ⟨g, off, none⟩) HG1.out).trans L0.out
            have hk2 := (hSw.cell (p := ⟨g, off + 1, none⟩) HG1.out).trans L1.out
            go_simp
            try with_reducible rfl
          try simp only [Act.put, List.setIfInBounds_toArray, List.set_cons_zero, List.set_cons_succ]
          refine Ord.takeRE (i := 7) (v := ?_) rfl (by kernel_rfl) (by kernel_rfl) (by kernel_rfl) (by rfl) ?_ ?_
          rotate_left
          · intro w' hSw
            have hk1 := (hSw.cell (p := ⟨g, off, none⟩) HG1.out).trans L0.out
            have hk2 := (hSw.cell (p := ⟨g, off + 1, none⟩) HG1.out).trans L1.out
            go_simp
            try with_reducible rfl
          try simp only [Act.put, List.setIfInBounds_toArray, List.set_cons_zero, List.set_cons_succ]
          refine Ord.takeRE (i := 8) (v := ?_) rfl (by kernel_rfl) (by kernel_rfl) (by kernel_rfl) (by rfl) ?_ ?_
          rotate_left
          · intro w' hSw
            have hk1 := (hSw.cell (p := ⟨g, off, none⟩) HG1.out).trans L0.out
            have hk2 := (hSw.cell (p := ⟨g, off + 1, none⟩) HG1.out).trans L1.out
            go_simp
            try with_reducible rfl
          try simp only [Act.put, List.setIfInBounds_toArray, List.set_cons_zero, List.set_cons_succ]
          refine Ord.takeRE (i := 9) (v := ?_) rfl (by kernel_rfl) (by kernel_rfl) (by kernel_rfl) (by rfl) ?_ ?_
          rotate_left
          · intro w' hSw
            have hk1 := (hSw.cell (p := ⟨g, off, none⟩) HG1.out).trans L0.out
            have hk2 := (hSw.cell (p := ⟨g, off + 1, none⟩) HG1.out).trans L1.out
            go_simp
            try with_reducible rfl
          try simp only [Act.put, List.setIfInBounds_toArray, List.set_cons_zero, List.set_cons_succ]
          refine Ord.dieE (i := 6) rfl (by kernel_rfl) (by rfl) ?_ (fun w1 hS => (trusted_no PT ea w1 heb).mono fun e w2 h => ⟨_, h.1, rfl, by rw [h.2]; exact hS⟩)
          intro w' hSw
          go_simp
          try with_reducible rfl
      · rw [if_pos h112] at hsb
        have hne : ((((x.headD 0).toNat : Nat) : Int) == 112) = false := by
          rw [beq_eq_false_iff_ne]
          intro h
          exact h112 (head_u8 (k := 112) (by show (x.headD 0).toNat = 112; omega))
        have HSB := Lib.hid hsb
        clear hsb hxr h112 HXR
        generalize (x.headD 0).toNat = kn at HKN hne
        go_enter Tryz.func53, Tryz.ntmps53
        go_wp2_with fail
        with_reducible refine (HK.out _).mono ?_
        rintro e w1 ⟨⟨K, hK, rfl⟩, hb1⟩
        have HB1 := Lib.hid hb1
        clear hb1
        dsimp only at hK
        have HK' := Lib.hid hK
        clear hK
        dsimp only
        go_wp2_with fail
        with_reducible refine (trusted_yes K _).mono ?_
        rintro e w1001 ⟨rfl, rfl⟩
        dsimp only
        go_wp2_with fail
        with_reducible refine (HO2.out K _ HK'.out).mono ?_
        rintro e w2 ⟨⟨X, hX, rfl⟩, hb2⟩
        have HB2 := Lib.hid (Bel.call HB1.out hb2)
        clear hb2
        dsimp only at hX
        have HX := Lib.hid hX
        clear hX
        dsimp only
        go_wp2_with fail
        with_reducible refine (trusted_yes X _).mono ?_
        rintro e w1002 ⟨rfl, rfl⟩
        dsimp only
        go_wp2_with fail
        with_reducible refine (HKN.out X _ HX.out).mono ?_
        rintro e w3 ⟨rfl, hb3⟩
        have HB3 := Lib.hid (Bel.call HB2.out hb3)
        clear hb3
        dsimp only
        go_wp2_with fail
        with_reducible refine (must_no 7 _).mono ?_
        rintro e w99 ⟨hp, rfl⟩
        have HPN := Lib.hid hp
        obtain rfl := hp
        dsimp only
        go_wp2
        exact ⟨rfl, sp_no HSB.out.symm (by decide) HPN.out, HB3.out⟩
    · rw [if_pos hg] at hsb
      have hgb : (g == 0) = false := by simpa using hg
      have HSB := Lib.hid hsb
      clear hsb hg hxr
      go_enter Tryz.func53, Tryz.ntmps53
      go_wp2_with fail
      with_reducible refine (HK.out _).mono ?_
      rintro e w1 ⟨⟨K, hK, rfl⟩, hb1⟩
      have HB1 := Lib.hid hb1
      clear hb1
      dsimp only at hK
      have HK' := Lib.hid hK
      clear hK
      dsimp only
      go_wp2_with fail
      with_reducible refine (trusted_yes K _).mono ?_
      rintro e w1001 ⟨rfl, rfl⟩
      dsimp only
      go_wp2_with fail
      with_reducible refine (HO2.out K _ HK'.out).mono ?_
      rintro e w2 ⟨⟨X, hX, rfl⟩, hb2⟩
      have HB2 := Lib.hid (Bel.call HB1.out hb2)
      clear hb2
      dsimp only at hX
      have HX := Lib.hid hX
      clear hX
      dsimp only
      go_wp2_with fail
      with_reducible refine (trusted_no X g _ hgb).mono ?_
      rintro e w99 ⟨hp, rfl⟩
      have HPN := Lib.hid hp
      obtain rfl := hp
      dsimp only
      go_wp2
      exact ⟨rfl, sp_no HSB.out.symm (by decide) HPN.out, HB2.out⟩
  · obtain ⟨rfl, rfl⟩ := Prod.mk.inj hf
    rw [if_pos (by decide)] at hsb
    have HSB := Lib.hid hsb
    clear hsb hf hkr HO
    go_enter Tryz.func53, Tryz.ntmps53
    go_wp2_with fail
    with_reducible refine (HK.out _).mono ?_
    rintro e w1 ⟨⟨K, hK, rfl⟩, hb1⟩
    have HB1 := Lib.hid hb1
    clear hb1
    dsimp only at hK
    have HK' := Lib.hid hK
    clear hK
    dsimp only
    go_wp2_with fail
    with_reducible refine (trusted_no K 10 _ ten_ne).mono ?_
    rintro e w99 ⟨hp, rfl⟩
    have HPN := Lib.hid hp
    obtain rfl := hp
    dsimp only
    go_wp2
    exact ⟨rfl, sp_no HSB.out.symm (by decide) HPN.out, HB1.out⟩
end Go.Proofs.YtjdignbmlfbdnaaGreat.Dta
