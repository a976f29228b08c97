/-
  THE DOCUMENT's ANSWER (letterlockref9): texts. By an AI agent; no person has read it.
-/
import Derived.Test.YtjdignbmlfbdnaaGreatQDBuild
import Derived.Test.YtjdignbmlfbdnaaGreatQOpen
import Derived.Test.YtjdignbmlfbdnaaGreatZ7
namespace Go.Proofs.YtjdignbmlfbdnaaGreat.Dta
open Go.RowKit Wire Term Draw Reg Clo

set_option linter.unusedSimpArgs false
set_option linter.unusedVariables false
/-- A pair of two texts. -/
def TxOK (x : Tm) : Prop := x.headD 0 = 112 ∧ (words ((pts x).getD 0 [])).2 = 0 ∧ (words ((pts x).getD 1 [])).2 = 0
instance (x : Tm) : Decidable (TxOK x) := by unfold TxOK; infer_instance
theorem open_none {k c : Tm} (h : ¬ (open' k c).2 = 0) : (open' k c).1 = [] := by
  unfold open' at h ⊢
  split at h
  · rename_i h1
    rw [if_pos h1]
    unfold opens at h ⊢
    split at h
    · rename_i h2
      rw [if_pos h2]
      split at h
      · exact absurd rfl h
      · rename_i h3
        rw [if_neg h3]
    · rename_i h2
      rw [if_neg h2]
  · rename_i h1
    rw [if_neg h1]
theorem unseal_tx {st path sl kx : Tm} (hk : key st = (kx, 0)) : unsealB st path sl =
    if ¬ TxOK (open' kx sl).1 then ([], 7) else if (words ((pts (open' kx sl).1).getD 0 [])).1 ≠ path ∨ 64 < (words ((pts (open' kx sl).1).getD 1 [])).1.length then ([], 7) else ((words ((pts (open' kx sl).1).getD 1 [])).1, 0) := by
  unfold unsealB
  rw [hk, if_neg (fun h => h rfl)]
  simp only
  by_cases h1 : (open' kx sl).2 = 0
  · rw [if_neg (fun h => h h1)]
    by_cases h2 : (open' kx sl).1.headD 0 = 112
    · rw [if_neg (fun h => h h2)]
      by_cases h3 : (words ((pts (open' kx sl).1).getD 0 [])).2 = 0 ∧ (words ((pts (open' kx sl).1).getD 1 [])).2 = 0
      · rw [if_neg (by rintro (h | h); exact h h3.1; exact h h3.2), if_neg (show ¬ ¬ TxOK (open' kx sl).1 from fun h => h ⟨h2, h3⟩)]
      · rw [if_pos (show _ ∨ _ from Classical.byContradiction fun h => h3 ⟨Decidable.not_not.1 fun h4 => h (.inl h4), Decidable.not_not.1 fun h4 => h (.inr h4)⟩), if_pos (show ¬ TxOK _ from fun h => h3 h.2)]
    · rw [if_pos h2, if_pos (show ¬ TxOK _ from fun h => h2 h.1)]
  · rw [if_pos h1, if_pos]
    rw [open_none h1]
    exact fun h => absurd h.1 (show ¬ (0 : UInt8) = 112 by decide)
theorem unseal_nk {st path sl : Tm} (hk : ¬ (key st).2 = 0) : unsealB st path sl = ([], 7) := by
  unfold unsealB
  exact if_pos hk
set_option maxHeartbeats 4000000 in
set_option maxRecDepth 1000000 in
theorem texts_any (T : ByteArray) (w : World) (hT : T.data.toList = [] ∨ right T.data.toList = true) :
    Calls Tryz.prog 57 #[.string T] w fun e w' => (∃ X Y : ByteArray, (TxOK T.data.toList → X.data.toList = (words ((pts T.data.toList).getD 0 [])).1 ∧ Y.data.toList = (words ((pts T.data.toList).getD 1 [])).1) ∧ e = .returned (.tuple #[.string X, .string Y, .bool (decide (TxOK T.data.toList))])) ∧ Below w.heap.size w w' := by
  rcases hT with hT | hr
  · obtain rfl : T = ⟨#[]⟩ := str_eq hT
    clear hT
    rw [decide_eq_false (show ¬ TxOK (⟨#[]⟩ : ByteArray).data.toList from fun h => absurd h.1 (show ¬ (0 : UInt8) = 112 by decide))]
    have HN := Lib.hid (show ¬ TxOK (⟨#[]⟩ : ByteArray).data.toList from fun h => absurd h.1 (show ¬ (0 : UInt8) = 112 by decide))
    go_enter Tryz.func57, Tryz.ntmps57
    go_wp2
    go_ret3
    exact ⟨⟨⟨#[]⟩, ⟨#[]⟩, fun h => absurd h HN.out, rfl⟩, Below.refl _ _⟩
  · have HR := Lib.hid hr
    have hz := right_sz hr
    obtain ⟨h0, b, t, hh, hzz⟩ := right_head hr
    have hb := hh.first
    have hz1 : (0 : Int) < (T.size : Int) := by omega
    have hem : T.toList.isEmpty = false := by rw [Lib.toList_data, hh.all]; rfl
    have hhd : T.data.toList.headD 0 = b := by rw [hh.all]; rfl
    by_cases hc : b = 112
    · have c1 : ((b.toNat : Int) != 112) = false := by rw [hc]; rfl
      obtain ⟨p, q, hpq, hp, hq⟩ := pair_parts hr (hhd.trans hc)
      have HP : Hid (∀ w, Calls Tryz.prog 88 #[.string T] w fun e w' => Ta ([p, q], 0) e w' ∧ Below w.heap.size w w') := Lib.hid fun w => by
        have := parts_any T w (by omega)
        rw [parts_of hr, hpq] at this
        exact this
      have HW : Hid (∀ (u : Tm) (U : ByteArray) (w : World), right u = true → U.data.toList = u → Calls Tryz.prog 89 #[.string U] w fun e w' => Sr (words u) e ∧ Below w.heap.size w w') := Lib.hid fun u U w hu hU => by
        have := words_any U w (by rw [Lib.size_eq, hU]; have := (right_len hu).2; omega)
        rw [hU] at this
        exact this
      have HW1 := Lib.hid fun U w (h : U.data.toList = p) => HW.out p U w hp h
      have HW2 := Lib.hid fun U w (h : U.data.toList = q) => HW.out q U w hq h
      clear HW
      obtain ⟨x, f, hx⟩ : ∃ x f, words p = (x, f) := ⟨_, _, rfl⟩
      obtain ⟨y, g, hy⟩ : ∃ y g, words q = (y, g) := ⟨_, _, rfl⟩
      have HK : Hid (TxOK T.data.toList ↔ f = 0 ∧ g = 0) := Lib.hid (by
        unfold TxOK
        rw [hpq]
        show _ ∧ (words p).2 = 0 ∧ (words q).2 = 0 ↔ _
        rw [hx, hy]
        exact ⟨fun h => h.2, fun h => ⟨hhd.trans hc, h⟩⟩)
      have HE : Hid ((words ((pts T.data.toList).getD 0 [])).1 = x ∧ (words ((pts T.data.toList).getD 1 [])).1 = y) := Lib.hid (by
        rw [hpq]
        show (words p).1 = x ∧ (words q).1 = y
        rw [hx, hy]
        exact ⟨rfl, rfl⟩)
      rw [hx] at HW1
      rw [hy] at HW2
      clear hr hh hhd hpq hp hq hx hy hc hz hzz
      by_cases hf : f = 0
      · subst hf
        by_cases hg : g = 0
        · subst hg
          rw [decide_eq_true (HK.out.2 ⟨rfl, rfl⟩)]
          go_enter Tryz.func57, Tryz.ntmps57
          go_wp2_with fail
          with_reducible refine (HP.out _).mono ?_
          rintro e w1 ⟨⟨A, cc, ys, hys, hlc, hsr, rfl⟩, hb1⟩
          have HB1 := Lib.hid hb1
          obtain ⟨PA, PB, rfl, hPA, hPB⟩ := bl_two hys
          obtain ⟨g2, off, rfl, hg1, l0, l1⟩ := two_reads hsr
          have HPA := Lib.hid hPA
          have HPB := Lib.hid hPB
          clear hb1 hys hlc hsr hPA hPB
          dsimp only
          go_wp2_with fail
          with_reducible refine (HW1.out PA _ HPA.out).mono ?_
          rintro e w2 ⟨⟨X, hX, rfl⟩, hb2⟩
          have HX := Lib.hid hX
          have HB2 := Lib.hid (Bel.call HB1.out hb2)
          replace l1 := (hb2.cell (p := ⟨g2, off + 1, none⟩) hg1).trans l1
          clear l0 hX hb2 hg1
          dsimp only
          go_wp2_with fail
          with_reducible refine (HW2.out PB _ HPB.out).mono ?_
          rintro e w3 ⟨⟨Y, hY, rfl⟩, hb3⟩
          have HY := Lib.hid hY
          have HB3 := Lib.hid (Bel.call HB2.out hb3)
          clear l1 hY hb3
          dsimp only
          go_wp2
          go_ret3
          exact ⟨⟨X, Y, fun _ => ⟨HX.out.trans HE.out.1.symm, HY.out.trans HE.out.2.symm⟩, rfl⟩, HB3.out⟩
        · have hgb : (g == 0) = false := by simpa using hg
          have HN := Lib.hid (show ¬ TxOK T.data.toList from fun h => hg (HK.out.1 h).2)
          rw [decide_eq_false HN.out]
          clear hg
          go_enter Tryz.func57, Tryz.ntmps57
          go_wp2_with fail
          with_reducible refine (HP.out _).mono ?_
          rintro e w1 ⟨⟨A, cc, ys, hys, hlc, hsr, rfl⟩, hb1⟩
          have HB1 := Lib.hid hb1
          obtain ⟨PA, PB, rfl, hPA, hPB⟩ := bl_two hys
          obtain ⟨g2, off, rfl, hg1, l0, l1⟩ := two_reads hsr
          have HPA := Lib.hid hPA
          have HPB := Lib.hid hPB
          clear hb1 hys hlc hsr hPA hPB
          dsimp only
          go_wp2_with fail
          with_reducible refine (HW1.out PA _ HPA.out).mono ?_
          rintro e w2 ⟨⟨X, hX, rfl⟩, hb2⟩
          have HX := Lib.hid hX
          have HB2 := Lib.hid (Bel.call HB1.out hb2)
          replace l1 := (hb2.cell (p := ⟨g2, off + 1, none⟩) hg1).trans l1
          clear l0 hX hb2 hg1
          dsimp only
          go_wp2_with fail
          with_reducible refine (HW2.out PB _ HPB.out).mono ?_
          rintro e w3 ⟨⟨Y, hY, rfl⟩, hb3⟩
          have HY := Lib.hid hY
          have HB3 := Lib.hid (Bel.call HB2.out hb3)
          clear l1 hY hb3
          dsimp only
          go_wp2
          go_ret3
          exact ⟨⟨X, Y, fun h => absurd h HN.out, rfl⟩, HB3.out⟩
      · have hfb : (f == 0) = false := by simpa using hf
        have HN := Lib.hid (show ¬ TxOK T.data.toList from fun h => hf (HK.out.1 h).1)
        rw [decide_eq_false HN.out]
        clear hf
        go_enter Tryz.func57, Tryz.ntmps57
        go_wp2_with fail
        with_reducible refine (HP.out _).mono ?_
        rintro e w1 ⟨⟨A, cc, ys, hys, hlc, hsr, rfl⟩, hb1⟩
        have HB1 := Lib.hid hb1
        obtain ⟨PA, PB, rfl, hPA, hPB⟩ := bl_two hys
        obtain ⟨g2, off, rfl, hg1, l0, l1⟩ := two_reads hsr
        have HPA := Lib.hid hPA
        have HPB := Lib.hid hPB
        clear hb1 hys hlc hsr hPA hPB
        dsimp only
        go_wp2_with fail
        with_reducible refine (HW1.out PA _ HPA.out).mono ?_
        rintro e w2 ⟨⟨X, hX, rfl⟩, hb2⟩
        have HX := Lib.hid hX
        have HB2 := Lib.hid (Bel.call HB1.out hb2)
        replace l1 := (hb2.cell (p := ⟨g2, off + 1, none⟩) hg1).trans l1
        clear l0 hX hb2 hg1
        dsimp only
        go_wp2_with fail
        with_reducible refine (HW2.out PB _ HPB.out).mono ?_
        rintro e w3 ⟨⟨Y, hY, rfl⟩, hb3⟩
        have HY := Lib.hid hY
        have HB3 := Lib.hid (Bel.call HB2.out hb3)
        clear l1 hY hb3
        dsimp only
        go_wp2
        go_ret3
        exact ⟨⟨X, Y, fun h => absurd h HN.out, rfl⟩, HB3.out⟩
    · have c1 : ((b.toNat : Int) != 112) = true := by
        rw [bne_iff_ne]; intro h; exact hc (UInt8.toNat_inj.1 (by have : (112 : UInt8).toNat = 112 := rfl; omega))
      have HN := Lib.hid (show ¬ TxOK T.data.toList from fun h => hc (hhd.symm.trans h.1))
      rw [decide_eq_false HN.out]
      clear hr hh hhd hc hz hzz
      go_enter Tryz.func57, Tryz.ntmps57
      go_wp2
      go_ret3
      exact ⟨⟨⟨#[]⟩, ⟨#[]⟩, fun h => absurd h HN.out, rfl⟩, Below.refl _ _⟩
end Go.Proofs.YtjdignbmlfbdnaaGreat.Dta
