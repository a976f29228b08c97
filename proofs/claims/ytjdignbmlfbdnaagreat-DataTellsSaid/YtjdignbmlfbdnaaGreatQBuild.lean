/-
  THE LANDED CODE (package data): Build. By an AI agent; no person has read it.
-/
import Derived.Test.YtjdignbmlfbdnaaGreatQCatch
import Derived.Test.YtjdignbmlfbdnaaGreatQCode4
namespace Go.Proofs.YtjdignbmlfbdnaaGreat.Dta
open Go.RowKit Wire Term Draw Reg Clo

set_option linter.unusedSimpArgs false
set_option linter.unusedVariables false
/-- A block that holds an error, and may be written. -/
def E1 (h : Nat) (w : World) (y : Int) : Prop := h < w.heap.size ∧ w.cell? ⟨h, 0, none⟩ = some (.int .i64 y) ∧ w.frozen? ⟨h, 0, none⟩ = false
theorem E1.below {h : Nat} {w w1 : World} {y : Int} (e : E1 h w y) (hb : Below w.heap.size w w1) : E1 h w1 y :=
  ⟨Nat.lt_of_lt_of_le e.1 hb.size, (hb.cell (p := ⟨h, 0, none⟩) e.1).trans e.2.1, (hb.frozen (p := ⟨h, 0, none⟩) e.1).trans e.2.2⟩
theorem e1_new (w : World) (y : Int) (t : TypeId) : E1 w.heap.size (w.alloc (.cells #[.int .i64 y] t)) y := by
  refine ⟨by simp, by simp [go_sem], ?_⟩
  unfold World.frozen?
  rw [heap_alloc_new]
  simp
/-- The two named results of Build, from the call on. -/
def D2 (w0 w : World) : Prop := R3 w0.heap.size w 0 ⟨#[]⟩ ⟨#[]⟩ ∧ E1 (w0.heap.size + 1) w 0 ∧ Below w0.heap.size w0 w
theorem D2.below {w0 w w1 : World} (h : D2 w0 w) (hb : Below w.heap.size w w1) : D2 w0 w1 := ⟨h.1.below hb, h.2.1.below hb, Bel.call h.2.2 hb⟩
theorem d2_new (w : World) (t u : TypeId) : D2 w ((w.alloc (.cells #[.int .i64 0, .string ⟨#[]⟩, .string ⟨#[]⟩] t)).alloc (.cells #[.int .i64 0] u)) := by
  have h1 := r3_new w 0 ⟨#[]⟩ ⟨#[]⟩ t
  have hs : (w.alloc (.cells #[.int .i64 0, .string ⟨#[]⟩, .string ⟨#[]⟩] t)).heap.size = w.heap.size + 1 := by simp
  have hb : Below w.heap.size w (w.alloc (.cells #[.int .i64 0, .string ⟨#[]⟩, .string ⟨#[]⟩] t)) := (Below.refl _ w).alloc (Nat.le_refl _) _
  generalize w.alloc (.cells #[.int .i64 0, .string ⟨#[]⟩, .string ⟨#[]⟩] t) = wa at h1 hs hb
  have h2 := e1_new wa 0 u
  have h3 : Below wa.heap.size wa (wa.alloc (.cells #[.int .i64 0] u)) := (Below.refl _ wa).alloc (Nat.le_refl _) _
  rw [hs] at h2
  exact ⟨h1.below h3, h2, Bel.call hb h3⟩
def Bs (x : Bb × Int) (e : Ending) : Prop := ∃ v, IsB v x.1 ∧ e = .returned (.tuple #[v, .int .i64 x.2])
/-- What was panicked with is told, beside a blob of nothing. -/
theorem bcaught {w0 w : World} (h : D2 w0 w) (x : Int) (older : List PanicEntry) : CallsD Tryz.prog 34 #[.pointer (some ⟨w0.heap.size, 0, none⟩), .pointer (some ⟨w0.heap.size + 1, 0, none⟩)] (.panicking ({ v := .iface 28 (.int .i64 x), recovered := false } :: older)) w fun e u' w' =>
    e = .returned (.tuple #[]) ∧ u' = .panicking ({ v := .iface 28 (.int .i64 x), recovered := true } :: older) ∧ (w'.cell? ⟨w0.heap.size, 0, none⟩ = some (.int .i64 0) ∧ w'.cell? ⟨w0.heap.size, 1, none⟩ = some (.string ⟨#[]⟩) ∧ w'.cell? ⟨w0.heap.size, 2, none⟩ = some (.string ⟨#[]⟩)) ∧ w'.cell? ⟨w0.heap.size + 1, 0, none⟩ = some (.int .i64 x) ∧ Below w0.heap.size w0 w' := by
  obtain ⟨hr, ⟨h1, hc, hz⟩, hb⟩ := h
  refine (bcatch_panic w0.heap.size (w0.heap.size + 1) 0 ⟨#[]⟩ ⟨#[]⟩ 0 x older w hr hc hz (by omega)).mono ?_
  rintro e u' w' ⟨rfl, rfl, rfl⟩
  have hcs := r3_set (ep := 0) (S := ⟨#[]⟩) (G := ⟨#[]⟩) hr
  have hbs := bel_set3 (a := .int .i64 0) (b := .string ⟨#[]⟩) (c := .string ⟨#[]⟩) hb (Nat.le_refl _)
  have hc2 : (set3 w w0.heap.size (.int .i64 0) (.string ⟨#[]⟩) (.string ⟨#[]⟩)).cell? ⟨w0.heap.size + 1, 0, none⟩ = some (.int .i64 0) := (cell_set3 (by omega)).trans hc
  generalize set3 w w0.heap.size (.int .i64 0) (.string ⟨#[]⟩) (.string ⟨#[]⟩) = wa at hcs hbs hc2
  obtain ⟨⟨_, c0, c1, c2⟩, _⟩ := hcs
  have hbt : Below w0.heap.size w0 (wa.setCell ⟨w0.heap.size + 1, 0, none⟩ (.int .i64 x)) := hbs.setCell (by simp) _
  have e : ∀ i, (⟨w0.heap.size + 1, 0, none⟩ : Addr) ≠ ⟨w0.heap.size, i, none⟩ := fun i e => by injection e with e1 _ _; omega
  have d0 := (World.cell?_setCell_other wa _ _ (.int .i64 x) (e 0)).trans c0
  have d1 := (World.cell?_setCell_other wa _ _ (.int .i64 x) (e 1)).trans c1
  have d2 := (World.cell?_setCell_other wa _ _ (.int .i64 x) (e 2)).trans c2
  have d3 : (wa.setCell ⟨w0.heap.size + 1, 0, none⟩ (.int .i64 x)).cell? ⟨w0.heap.size + 1, 0, none⟩ = some (.int .i64 x) := by simp [World.cell?_setCell_same', hc2]
  generalize wa.setCell ⟨w0.heap.size + 1, 0, none⟩ (.int .i64 x) = wb at hbt d0 d1 d2 d3
  exact ⟨rfl, rfl, ⟨d0, d1, d2⟩, d3, Below.drewN' hbt 1⟩
set_option maxHeartbeats 8000000 in
set_option maxRecDepth 1000000 in
theorem cbuild_any (st : ByteArray) (ep : Int) (sn p c : ByteArray) (w : World) (hs1 : st.size ≤ 100000) (hs2 : sn.size ≤ 100000) (hs3 : p.size ≤ 100000) (hs4 : c.size ≤ 100000) :
    Calls Tryz.prog 11 #[.string st, .int .i64 ep, .string sn, .string p, .string c] w fun e w' => Bs (build st.data.toList ep sn.data.toList p.data.toList c.data.toList) e ∧ Below w.heap.size w w' := by
  have hmf : ∀ (fn : Fn) (first cap : Array Value) (w : World), (Instr.makeFunc fn first cap).run Tryz.prog w = .ok (.func fn first cap) w := fun _ _ _ _ => rfl
  have HE := Lib.hid fun w => isEpoch_any ep w
  have HT1 := Lib.hid fun w => isTerm_any st w (by omega)
  have HT2 := Lib.hid fun w => isTerm_any sn w (by omega)
  have HPA := Lib.hid fun w => isPath_any p w (by omega)
  generalize hsb : build st.data.toList ep sn.data.toList p.data.toList c.data.toList = sb
  unfold build at hsb
  by_cases hA : ArgB st.data.toList ep sn.data.toList p.data.toList
  · rw [if_neg (fun h => h hA)] at hsb
    obtain ⟨he, hr1, hr2, hr3⟩ := hA
    rw [decide_eq_true he] at HE
    rw [hr1] at HT1
    rw [hr2] at HT2
    rw [hr3] at HPA
    have hpl : p.size ≤ 257 := by rw [Lib.size_eq]; exact path_len hr3
    have hcs := Lib.size_eq c
    by_cases h64 : 64 < c.data.toList.length
    · rw [if_pos h64] at hsb
      have HSB := Lib.hid hsb
      have h64' : ¬ (c.size ≤ 64) := by omega
      clear hsb h64 he hr1 hr2 hr3 hpl hcs
      go_enter_defers Tryz.func11, Tryz.ntmps11
      go_wp2_with fail
      with_reducible refine (HE.out _).mono ?_
      rintro e w1 ⟨rfl, hw⟩
      have HD1 := Lib.hid (d2_new w 23 28)
      rw [← hw] at HD1
      clear hw
      dsimp only
      go_wp2_with fail
      with_reducible refine (HT1.out _).mono ?_
      rintro e w2 ⟨rfl, hb2⟩
      have HD2 := Lib.hid (HD1.out.below hb2)
      clear hb2
      dsimp only
      go_wp2_with fail
      with_reducible refine (HT2.out _).mono ?_
      rintro e w3 ⟨rfl, hb3⟩
      have HD3 := Lib.hid (HD2.out.below hb3)
      clear hb3
      dsimp only
      go_wp2_with fail
      with_reducible refine (HPA.out _).mono ?_
      rintro e w4 ⟨rfl, hb4⟩
      have HD4 := Lib.hid (HD3.out.below hb4)
      clear hb4
      dsimp only
      go_wp2_with fail
      with_reducible refine (must_yes 1 _).mono ?_
      rintro e w1004 ⟨rfl, rfl⟩
      dsimp only
      go_wp2_with fail
      rw [decide_eq_false (show ¬ ((c.size : Int) ≤ 64) by omega)]
      with_reducible refine (must_no 10 _).mono ?_
      rintro e w1004 ⟨hp, rfl⟩
      obtain rfl := hp
      dsimp only
      go_wp2
      refine leaves_cons (f := 34) (args := #[.pointer (some ⟨w.heap.size, 0, none⟩), .pointer (some ⟨w.heap.size + 1, 0, none⟩)]) (by simp) (by simp [go_sem]) ?_
      refine (bcaught HD4.out 10 []).mono ?_
      rintro e u' w'' ⟨rfl, rfl, ⟨c0, c1, c2⟩, e0, hb⟩
      simp [Leaves, settle, results, Tryz.results11, go_sem, c0, c1, c2, e0]
      exact ⟨⟨_, by rw [← HSB.out]; exact zb_is, by rw [← HSB.out]; rfl⟩, hb⟩
    · rw [if_neg h64] at hsb
      have h64' : c.size ≤ 64 := by omega
      clear hcs h64
      have HSL := Lib.hid fun w => seal_any st p c w hr1 hpl (by omega)
      obtain ⟨sl, f, hsl⟩ : ∃ sl f, sealB st.data.toList p.data.toList c.data.toList = (sl, f) := ⟨_, _, rfl⟩
      have ht := sealB_ten st.data.toList p.data.toList c.data.toList
      have hok := sealB_ok (st := st.data.toList) (path := p.data.toList) (c := c.data.toList)
      rw [hsl] at hsb ht HSL hok
      simp only at hsb hok
      rcases ht with hf | hf
      · have hf : f = 0 := hf
        subst hf
        rw [if_neg (fun h => h rfl)] at hsb
        have hslr := (hok rfl).1
        have HSL2 : Hid (∀ w, Calls Tryz.prog 39 #[.string st, .string p, .string c] w fun e w' => St sl e ∧ Below w.heap.size w w') := fun w => (HSL.out w).mono fun e w' h => by
          obtain ⟨⟨_, h1⟩ | ⟨h1, _⟩, h2⟩ := h
          · exact ⟨h1, h2⟩
          · exact absurd rfl h1
        have HSA : Hid (∀ (L : ByteArray) (w : World), L.data.toList = sl → Calls Tryz.prog 41 #[.int .i64 ep, .string L] w fun e w' => Sr (said ep sl) e ∧ Below w.heap.size w w') := fun L w hL => by
          have := said_any ep L w he (by rw [Lib.size_eq, hL]; have := (right_len hslr).2; omega)
          rw [hL] at this
          exact this
        have hst := two_ten (k := 112) (a := ofAtom ep.toNat) (b := sl) (atom_ok (by omega)) hslr
        unfold signB at hsb
        obtain ⟨sd, f, hsd⟩ : ∃ sd f, said ep sl = (sd, f) := ⟨_, _, rfl⟩
        have hst : f = 0 ∨ (sd, f) = ([], 10) := by rw [← hsd]; exact hst.imp (fun h => by rw [← h, show (two 112 (ofAtom ep.toNat) sl) = said ep sl from rfl, hsd]) id
        have hsr : f = 0 → right sd = true := fun h => by
          have := (two_ok (k := 112) (a := ofAtom ep.toNat) (b := sl) (by rw [show (two 112 (ofAtom ep.toNat) sl) = said ep sl from rfl, hsd]; exact h)).1
          rw [show (two 112 (ofAtom ep.toNat) sl) = said ep sl from rfl, hsd] at this
          exact this
        rw [hsd] at hsb HSA
        simp only at hsb
        clear hsd hsl hok HSL hslr he hr1 hr3 hpl
        rcases hst with hf | hf
        · subst hf
          rw [if_neg (show ¬ (0 : Int) ≠ 0 from fun h => h rfl)] at hsb
          have hsr := hsr rfl
          have HSG : Hid (∀ (D : ByteArray) (w : World), D.data.toList = sd → Calls Tryz.prog 23 #[.string sn, .string D] w fun e w' => Sr (two 103 sn.data.toList sd) e ∧ Below w.heap.size w w') := fun D w hD => by
            have := t_Sign sn D w (by omega) (by rw [Lib.size_eq, hD]; have := (right_len hsr).2; omega)
            rw [hD] at this
            exact this
          have hst := two_ten (k := 103) hr2 hsr
          obtain ⟨sg, f, hsg⟩ : ∃ sg f, two 103 sn.data.toList sd = (sg, f) := ⟨_, _, rfl⟩
          rw [hsg] at hsb HSG hst
          simp only at hsb
          clear hsg hr2 hsr
          rcases hst with hf | hf
          · have hf : f = 0 := hf
            subst hf
            simp only [ne_eq, not_true_eq_false, if_false] at hsb
            have HSB := Lib.hid hsb
            clear hsb
            go_enter_defers Tryz.func11, Tryz.ntmps11
            go_wp2_with fail
            with_reducible refine (HE.out _).mono ?_
            rintro e w1 ⟨rfl, hw⟩
            have HD1 := Lib.hid (d2_new w 23 28)
            rw [← hw] at HD1
            clear hw
            dsimp only
            go_wp2_with fail
            with_reducible refine (HT1.out _).mono ?_
            rintro e w2 ⟨rfl, hb2⟩
            have HD2 := Lib.hid (HD1.out.below hb2)
            clear hb2
            dsimp only
            go_wp2_with fail
            with_reducible refine (HT2.out _).mono ?_
            rintro e w3 ⟨rfl, hb3⟩
            have HD3 := Lib.hid (HD2.out.below hb3)
            clear hb3
            dsimp only
            go_wp2_with fail
            with_reducible refine (HPA.out _).mono ?_
            rintro e w4 ⟨rfl, hb4⟩
            have HD4 := Lib.hid (HD3.out.below hb4)
            clear hb4
            dsimp only
            go_wp2_with fail
            with_reducible refine (must_yes 1 _).mono ?_
            rintro e w1004 ⟨rfl, rfl⟩
            dsimp only
            go_wp2_with fail
            rw [decide_eq_true (show (c.size : Int) ≤ 64 by omega)]
            with_reducible refine (must_yes 10 _).mono ?_
            rintro e w1004 ⟨rfl, rfl⟩
            dsimp only
            go_wp2_with fail
            with_reducible refine (HSL2.out _).mono ?_
            rintro e w5 ⟨⟨L, hL, rfl⟩, hb5⟩
            have HD5 := Lib.hid (HD4.out.below hb5)
            clear hb5
            have HL := Lib.hid hL
            clear hL
            dsimp only
            go_wp2_with fail
            with_reducible refine (HSA.out L _ HL.out).mono ?_
            rintro e w6 ⟨⟨D, hD, rfl⟩, hb6⟩
            have HD6 := Lib.hid (HD5.out.below hb6)
            clear hb6
            dsimp only at hD
            have HD' := Lib.hid hD
            clear hD
            dsimp only
            go_wp2_with fail
            with_reducible refine (made_yes' D _).mono ?_
            rintro e w1006 ⟨rfl, rfl⟩
            dsimp only
            go_wp2_with fail
            with_reducible refine (HSG.out D _ HD'.out).mono ?_
            rintro e w7 ⟨⟨G, hG, rfl⟩, hb7⟩
            have HD7 := Lib.hid (HD6.out.below hb7)
            clear hb7
            dsimp only at hG
            have HG := Lib.hid hG
            clear hG
            dsimp only
            go_wp2_with fail
            with_reducible refine (made_yes' G _).mono ?_
            rintro e w1007 ⟨rfl, rfl⟩
            dsimp only
            obtain ⟨⟨⟨_, c0, c1, c2⟩, f0, f1, f2⟩, ⟨_, e0, z0⟩, hb⟩ := HD7.out
            go_wp2
            refine leaves_cons (f := 34) (args := #[.pointer (some ⟨w.heap.size, 0, none⟩), .pointer (some ⟨w.heap.size + 1, 0, none⟩)]) (by simp) (by simp [go_sem]) ?_
            refine (bcatch_idle ⟨w.heap.size, 0, none⟩ ⟨w.heap.size + 1, 0, none⟩ _).mono ?_
            rintro e u' w'' ⟨rfl, rfl, rfl⟩
            simp [Leaves, settle, results, Tryz.results11, go_sem, c0, c1, c2, e0]
            exact ⟨⟨_, by rw [← HSB.out]; exact ⟨L, G, HL.out, HG.out, rfl⟩, by rw [← HSB.out]⟩, (bel_set3 hb (Nat.le_refl _)).setCell (by simp) _⟩
          · obtain ⟨rfl, rfl⟩ := Prod.mk.inj hf
            simp only [ne_eq, show ¬ (10 : Int) = 0 by decide, not_false_eq_true, if_true] at hsb
            have HSB := Lib.hid hsb
            clear hsb hf
            go_enter_defers Tryz.func11, Tryz.ntmps11
            go_wp2_with fail
            with_reducible refine (HE.out _).mono ?_
            rintro e w1 ⟨rfl, hw⟩
            have HD1 := Lib.hid (d2_new w 23 28)
            rw [← hw] at HD1
            clear hw
            dsimp only
            go_wp2_with fail
            with_reducible refine (HT1.out _).mono ?_
            rintro e w2 ⟨rfl, hb2⟩
            have HD2 := Lib.hid (HD1.out.below hb2)
            clear hb2
            dsimp only
            go_wp2_with fail
            with_reducible refine (HT2.out _).mono ?_
            rintro e w3 ⟨rfl, hb3⟩
            have HD3 := Lib.hid (HD2.out.below hb3)
            clear hb3
            dsimp only
            go_wp2_with fail
            with_reducible refine (HPA.out _).mono ?_
            rintro e w4 ⟨rfl, hb4⟩
            have HD4 := Lib.hid (HD3.out.below hb4)
            clear hb4
            dsimp only
            go_wp2_with fail
            with_reducible refine (must_yes 1 _).mono ?_
            rintro e w1004 ⟨rfl, rfl⟩
            dsimp only
            go_wp2_with fail
            rw [decide_eq_true (show (c.size : Int) ≤ 64 by omega)]
            with_reducible refine (must_yes 10 _).mono ?_
            rintro e w1004 ⟨rfl, rfl⟩
            dsimp only
            go_wp2_with fail
            with_reducible refine (HSL2.out _).mono ?_
            rintro e w5 ⟨⟨L, hL, rfl⟩, hb5⟩
            have HD5 := Lib.hid (HD4.out.below hb5)
            clear hb5
            have HL := Lib.hid hL
            clear hL
            dsimp only
            go_wp2_with fail
            with_reducible refine (HSA.out L _ HL.out).mono ?_
            rintro e w6 ⟨⟨D, hD, rfl⟩, hb6⟩
            have HD6 := Lib.hid (HD5.out.below hb6)
            clear hb6
            dsimp only at hD
            have HD' := Lib.hid hD
            clear hD
            dsimp only
            go_wp2_with fail
            with_reducible refine (made_yes' D _).mono ?_
            rintro e w1006 ⟨rfl, rfl⟩
            dsimp only
            go_wp2_with fail
            with_reducible refine (HSG.out D _ HD'.out).mono ?_
            rintro e w7 ⟨⟨G, hG, rfl⟩, hb7⟩
            have HD7 := Lib.hid (HD6.out.below hb7)
            clear hb7
            dsimp only at hG
            have HG := Lib.hid hG
            clear hG
            dsimp only
            go_wp2_with fail
            with_reducible refine (made_no' G 10 _ ten_ne).mono ?_
            rintro e w1007 ⟨hp, rfl⟩
            obtain rfl := hp
            dsimp only
            go_wp2
            refine leaves_cons (f := 34) (args := #[.pointer (some ⟨w.heap.size, 0, none⟩), .pointer (some ⟨w.heap.size + 1, 0, none⟩)]) (by simp) (by simp [go_sem]) ?_
            refine (bcaught HD7.out 10 []).mono ?_
            rintro e u' w'' ⟨rfl, rfl, ⟨c0, c1, c2⟩, e0, hb⟩
            simp [Leaves, settle, results, Tryz.results11, go_sem, c0, c1, c2, e0]
            exact ⟨⟨_, by rw [← HSB.out]; exact zb_is, by rw [← HSB.out]; rfl⟩, hb⟩
        · obtain ⟨rfl, rfl⟩ := Prod.mk.inj hf
          simp only [ne_eq, show ¬ (10 : Int) = 0 by decide, not_false_eq_true, if_true] at hsb
          have HSB := Lib.hid hsb
          clear hsb hf hsr hr2
          go_enter_defers Tryz.func11, Tryz.ntmps11
          go_wp2_with fail
          with_reducible refine (HE.out _).mono ?_
          rintro e w1 ⟨rfl, hw⟩
          have HD1 := Lib.hid (d2_new w 23 28)
          rw [← hw] at HD1
          clear hw
          dsimp only
          go_wp2_with fail
          with_reducible refine (HT1.out _).mono ?_
          rintro e w2 ⟨rfl, hb2⟩
          have HD2 := Lib.hid (HD1.out.below hb2)
          clear hb2
          dsimp only
          go_wp2_with fail
          with_reducible refine (HT2.out _).mono ?_
          rintro e w3 ⟨rfl, hb3⟩
          have HD3 := Lib.hid (HD2.out.below hb3)
          clear hb3
          dsimp only
          go_wp2_with fail
          with_reducible refine (HPA.out _).mono ?_
          rintro e w4 ⟨rfl, hb4⟩
          have HD4 := Lib.hid (HD3.out.below hb4)
          clear hb4
          dsimp only
          go_wp2_with fail
          with_reducible refine (must_yes 1 _).mono ?_
          rintro e w1004 ⟨rfl, rfl⟩
          dsimp only
          go_wp2_with fail
          rw [decide_eq_true (show (c.size : Int) ≤ 64 by omega)]
          with_reducible refine (must_yes 10 _).mono ?_
          rintro e w1004 ⟨rfl, rfl⟩
          dsimp only
          go_wp2_with fail
          with_reducible refine (HSL2.out _).mono ?_
          rintro e w5 ⟨⟨L, hL, rfl⟩, hb5⟩
          have HD5 := Lib.hid (HD4.out.below hb5)
          clear hb5
          have HL := Lib.hid hL
          clear hL
          dsimp only
          go_wp2_with fail
          with_reducible refine (HSA.out L _ HL.out).mono ?_
          rintro e w6 ⟨⟨D, hD, rfl⟩, hb6⟩
          have HD6 := Lib.hid (HD5.out.below hb6)
          clear hb6
          dsimp only at hD
          have HD := Lib.hid hD
          clear hD
          dsimp only
          go_wp2_with fail
          with_reducible refine (made_no' D 10 _ ten_ne).mono ?_
          rintro e w1006 ⟨hp, rfl⟩
          obtain rfl := hp
          dsimp only
          go_wp2
          refine leaves_cons (f := 34) (args := #[.pointer (some ⟨w.heap.size, 0, none⟩), .pointer (some ⟨w.heap.size + 1, 0, none⟩)]) (by simp) (by simp [go_sem]) ?_
          refine (bcaught HD6.out 10 []).mono ?_
          rintro e u' w'' ⟨rfl, rfl, ⟨c0, c1, c2⟩, e0, hb⟩
          simp [Leaves, settle, results, Tryz.results11, go_sem, c0, c1, c2, e0]
          exact ⟨⟨_, by rw [← HSB.out]; exact zb_is, by rw [← HSB.out]; rfl⟩, hb⟩
      · obtain ⟨rfl, rfl⟩ := Prod.mk.inj hf
        rw [if_pos (show (10 : Int) ≠ 0 by decide)] at hsb
        have HSB := Lib.hid hsb
        have HSL2 : Hid (∀ w, Calls Tryz.prog 39 #[.string st, .string p, .string c] w fun e w' => Pn 10 e ∧ Below w.heap.size w w') := fun w => (HSL.out w).mono fun e w' h => by
          obtain ⟨⟨h1, _⟩ | ⟨_, h1⟩, h2⟩ := h
          · exact absurd h1 (show ¬ (10 : Int) = 0 by decide)
          · exact ⟨h1, h2⟩
        clear hsb hf hsl hok HSL he hr1 hr2 hr3 hpl
        go_enter_defers Tryz.func11, Tryz.ntmps11
        go_wp2_with fail
        with_reducible refine (HE.out _).mono ?_
        rintro e w1 ⟨rfl, hw⟩
        have HD1 := Lib.hid (d2_new w 23 28)
        rw [← hw] at HD1
        clear hw
        dsimp only
        go_wp2_with fail
        with_reducible refine (HT1.out _).mono ?_
        rintro e w2 ⟨rfl, hb2⟩
        have HD2 := Lib.hid (HD1.out.below hb2)
        clear hb2
        dsimp only
        go_wp2_with fail
        with_reducible refine (HT2.out _).mono ?_
        rintro e w3 ⟨rfl, hb3⟩
        have HD3 := Lib.hid (HD2.out.below hb3)
        clear hb3
        dsimp only
        go_wp2_with fail
        with_reducible refine (HPA.out _).mono ?_
        rintro e w4 ⟨rfl, hb4⟩
        have HD4 := Lib.hid (HD3.out.below hb4)
        clear hb4
        dsimp only
        go_wp2_with fail
        with_reducible refine (must_yes 1 _).mono ?_
        rintro e w1004 ⟨rfl, rfl⟩
        dsimp only
        go_wp2_with fail
        rw [decide_eq_true (show (c.size : Int) ≤ 64 by omega)]
        with_reducible refine (must_yes 10 _).mono ?_
        rintro e w1004 ⟨rfl, rfl⟩
        dsimp only
        go_wp2_with fail
        with_reducible refine (HSL2.out _).mono ?_
        rintro e w5 ⟨hp, hb5⟩
        have HD5 := Lib.hid (HD4.out.below hb5)
        clear hb5
        obtain rfl := hp
        dsimp only
        go_wp2
        refine leaves_cons (f := 34) (args := #[.pointer (some ⟨w.heap.size, 0, none⟩), .pointer (some ⟨w.heap.size + 1, 0, none⟩)]) (by simp) (by simp [go_sem]) ?_
        refine (bcaught HD5.out 10 []).mono ?_
        rintro e u' w'' ⟨rfl, rfl, ⟨c0, c1, c2⟩, e0, hb⟩
        simp [Leaves, settle, results, Tryz.results11, go_sem, c0, c1, c2, e0]
        exact ⟨⟨_, by rw [← HSB.out]; exact zb_is, by rw [← HSB.out]; rfl⟩, hb⟩
  · rw [if_pos hA] at hsb
    have HSB := Lib.hid hsb
    have hA' : (decide (0 ≤ ep ∧ ep ≤ 7) && (right st.data.toList && (right sn.data.toList && isPath p.data.toList))) = false := by
      rw [Bool.eq_false_iff]
      intro h
      simp only [Bool.and_eq_true, decide_eq_true_eq] at h
      exact hA ⟨h.1, h.2.1, h.2.2.1, h.2.2.2⟩
    clear hsb hA
    generalize decide (0 ≤ ep ∧ ep ≤ 7) = b0 at HE hA'
    generalize right st.data.toList = b1 at HT1 hA'
    generalize right sn.data.toList = b2 at HT2 hA'
    generalize isPath p.data.toList = b3 at HPA hA'
    cases b0 with
    | false =>
      clear hA'
      go_enter_defers Tryz.func11, Tryz.ntmps11
      go_wp2_with fail
      with_reducible refine (HE.out _).mono ?_
      rintro e w1 ⟨rfl, hw⟩
      have HD1 := Lib.hid (d2_new w 23 28)
      rw [← hw] at HD1
      clear hw
      dsimp only
      go_wp2_with fail
      with_reducible refine (must_no 1 _).mono ?_
      rintro e w1001 ⟨hp, rfl⟩
      obtain rfl := hp
      dsimp only
      go_wp2
      refine leaves_cons (f := 34) (args := #[.pointer (some ⟨w.heap.size, 0, none⟩), .pointer (some ⟨w.heap.size + 1, 0, none⟩)]) (by simp) (by simp [go_sem]) ?_
      refine (bcaught HD1.out 1 []).mono ?_
      rintro e u' w'' ⟨rfl, rfl, ⟨c0, c1, c2⟩, e0, hb⟩
      simp [Leaves, settle, results, Tryz.results11, go_sem, c0, c1, c2, e0]
      exact ⟨⟨_, by rw [← HSB.out]; exact zb_is, by rw [← HSB.out]; rfl⟩, hb⟩
    | true =>
      cases b1 with
      | false =>
        clear hA'
        go_enter_defers Tryz.func11, Tryz.ntmps11
        go_wp2_with fail
        with_reducible refine (HE.out _).mono ?_
        rintro e w1 ⟨rfl, hw⟩
        have HD1 := Lib.hid (d2_new w 23 28)
        rw [← hw] at HD1
        clear hw
        dsimp only
        go_wp2_with fail
        with_reducible refine (HT1.out _).mono ?_
        rintro e w2 ⟨rfl, hb2⟩
        have HD2 := Lib.hid (HD1.out.below hb2)
        clear hb2
        dsimp only
        go_wp2_with fail
        with_reducible refine (must_no 1 _).mono ?_
        rintro e w1002 ⟨hp, rfl⟩
        obtain rfl := hp
        dsimp only
        go_wp2
        refine leaves_cons (f := 34) (args := #[.pointer (some ⟨w.heap.size, 0, none⟩), .pointer (some ⟨w.heap.size + 1, 0, none⟩)]) (by simp) (by simp [go_sem]) ?_
        refine (bcaught HD2.out 1 []).mono ?_
        rintro e u' w'' ⟨rfl, rfl, ⟨c0, c1, c2⟩, e0, hb⟩
        simp [Leaves, settle, results, Tryz.results11, go_sem, c0, c1, c2, e0]
        exact ⟨⟨_, by rw [← HSB.out]; exact zb_is, by rw [← HSB.out]; rfl⟩, hb⟩
      | true =>
        cases b2 with
        | false =>
          clear hA'
          go_enter_defers Tryz.func11, Tryz.ntmps11
          go_wp2_with fail
          with_reducible refine (HE.out _).mono ?_
          rintro e w1 ⟨rfl, hw⟩
          have HD1 := Lib.hid (d2_new w 23 28)
          rw [← hw] at HD1
          clear hw
          dsimp only
          go_wp2_with fail
          with_reducible refine (HT1.out _).mono ?_
          rintro e w2 ⟨rfl, hb2⟩
          have HD2 := Lib.hid (HD1.out.below hb2)
          clear hb2
          dsimp only
          go_wp2_with fail
          with_reducible refine (HT2.out _).mono ?_
          rintro e w3 ⟨rfl, hb3⟩
          have HD3 := Lib.hid (HD2.out.below hb3)
          clear hb3
          dsimp only
          go_wp2_with fail
          with_reducible refine (must_no 1 _).mono ?_
          rintro e w1003 ⟨hp, rfl⟩
          obtain rfl := hp
          dsimp only
          go_wp2
          refine leaves_cons (f := 34) (args := #[.pointer (some ⟨w.heap.size, 0, none⟩), .pointer (some ⟨w.heap.size + 1, 0, none⟩)]) (by simp) (by simp [go_sem]) ?_
          refine (bcaught HD3.out 1 []).mono ?_
          rintro e u' w'' ⟨rfl, rfl, ⟨c0, c1, c2⟩, e0, hb⟩
          simp [Leaves, settle, results, Tryz.results11, go_sem, c0, c1, c2, e0]
          exact ⟨⟨_, by rw [← HSB.out]; exact zb_is, by rw [← HSB.out]; rfl⟩, hb⟩
        | true =>
          obtain rfl : b3 = false := hA'
          go_enter_defers Tryz.func11, Tryz.ntmps11
          go_wp2_with fail
          with_reducible refine (HE.out _).mono ?_
          rintro e w1 ⟨rfl, hw⟩
          have HD1 := Lib.hid (d2_new w 23 28)
          rw [← hw] at HD1
          clear hw
          dsimp only
          go_wp2_with fail
          with_reducible refine (HT1.out _).mono ?_
          rintro e w2 ⟨rfl, hb2⟩
          have HD2 := Lib.hid (HD1.out.below hb2)
          clear hb2
          dsimp only
          go_wp2_with fail
          with_reducible refine (HT2.out _).mono ?_
          rintro e w3 ⟨rfl, hb3⟩
          have HD3 := Lib.hid (HD2.out.below hb3)
          clear hb3
          dsimp only
          go_wp2_with fail
          with_reducible refine (HPA.out _).mono ?_
          rintro e w4 ⟨rfl, hb4⟩
          have HD4 := Lib.hid (HD3.out.below hb4)
          clear hb4
          dsimp only
          go_wp2_with fail
          with_reducible refine (must_no 1 _).mono ?_
          rintro e w1004 ⟨hp, rfl⟩
          obtain rfl := hp
          dsimp only
          go_wp2
          refine leaves_cons (f := 34) (args := #[.pointer (some ⟨w.heap.size, 0, none⟩), .pointer (some ⟨w.heap.size + 1, 0, none⟩)]) (by simp) (by simp [go_sem]) ?_
          refine (bcaught HD4.out 1 []).mono ?_
          rintro e u' w'' ⟨rfl, rfl, ⟨c0, c1, c2⟩, e0, hb⟩
          simp [Leaves, settle, results, Tryz.results11, go_sem, c0, c1, c2, e0]
          exact ⟨⟨_, by rw [← HSB.out]; exact zb_is, by rw [← HSB.out]; rfl⟩, hb⟩
end Go.Proofs.YtjdignbmlfbdnaaGreat.Dta
