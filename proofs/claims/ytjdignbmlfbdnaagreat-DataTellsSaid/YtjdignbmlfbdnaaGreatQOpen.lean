/-
  THE LANDED CODE (package data): Open. By an AI agent; no person has read it.
-/
import Derived.Test.YtjdignbmlfbdnaaGreatQBuild
namespace Go.Proofs.YtjdignbmlfbdnaaGreat.Dta
open Go.RowKit Wire Term Draw Reg Clo

set_option linter.unusedSimpArgs false
set_option linter.unusedVariables false
/-- A block that holds a text, and may be written. -/
def C1 (h : Nat) (w : World) (T : ByteArray) : Prop := h < w.heap.size ∧ w.cell? ⟨h, 0, none⟩ = some (.string T) ∧ w.frozen? ⟨h, 0, none⟩ = false
theorem C1.below {h : Nat} {w w1 : World} {T : ByteArray} (e : C1 h w T) (hb : Below w.heap.size w w1) : C1 h w1 T :=
  ⟨Nat.lt_of_lt_of_le e.1 hb.size, (hb.cell (p := ⟨h, 0, none⟩) e.1).trans e.2.1, (hb.frozen (p := ⟨h, 0, none⟩) e.1).trans e.2.2⟩
theorem c1_new (w : World) (T : ByteArray) (t : TypeId) : C1 w.heap.size (w.alloc (.cells #[.string T] t)) T := by
  refine ⟨by simp, by simp [go_sem], ?_⟩
  unfold World.frozen?
  rw [heap_alloc_new]
  simp
/-- Open's own blob, its two named results, and the terms that came in. -/
def D3 (w0 w : World) (ep : Int) (S G : ByteArray) (A : Option Addr) (vs : List ByteArray) : Prop := B3 w0.heap.size w ep S G ∧ C1 (w0.heap.size + 1) w ⟨#[]⟩ ∧ E1 (w0.heap.size + 1 + 1) w 0 ∧ SReads w A vs ∧ Below w0.heap.size w0 w
theorem D3.below {w0 w w1 : World} {ep : Int} {S G : ByteArray} {A : Option Addr} {vs : List ByteArray} (h : D3 w0 w ep S G A vs) (hb : Below w.heap.size w w1) : D3 w0 w1 ep S G A vs := ⟨h.1.below hb, h.2.1.below hb, h.2.2.1.below hb, h.2.2.2.1.below hb (Nat.le_refl _), Bel.call h.2.2.2.2 hb⟩
theorem d3_new (w : World) (ep : Int) (S G : ByteArray) (A : Option Addr) (vs : List ByteArray) (hr : SReads w A vs) (t u v : TypeId) : D3 w (((w.alloc (.cells #[.int .i64 ep, .string S, .string G] t)).alloc (.cells #[.string ⟨#[]⟩] u)).alloc (.cells #[.int .i64 0] v)) ep S G A vs := by
  have h1 := (r3_new w ep S G t).1
  have hs : (w.alloc (.cells #[.int .i64 ep, .string S, .string G] t)).heap.size = w.heap.size + 1 := by simp
  have hb : Below w.heap.size w (w.alloc (.cells #[.int .i64 ep, .string S, .string G] t)) := (Below.refl _ w).alloc (Nat.le_refl _) _
  generalize w.alloc (.cells #[.int .i64 ep, .string S, .string G] t) = wa at h1 hs hb
  have h2 := c1_new wa ⟨#[]⟩ u
  have hs2 : (wa.alloc (.cells #[.string ⟨#[]⟩] u)).heap.size = wa.heap.size + 1 := by simp
  have h3 : Below wa.heap.size wa (wa.alloc (.cells #[.string ⟨#[]⟩] u)) := (Below.refl _ wa).alloc (Nat.le_refl _) _
  generalize wa.alloc (.cells #[.string ⟨#[]⟩] u) = wb at h2 hs2 h3
  have h4 := e1_new wb 0 v
  have h5 : Below wb.heap.size wb (wb.alloc (.cells #[.int .i64 0] v)) := (Below.refl _ wb).alloc (Nat.le_refl _) _
  generalize wb.alloc (.cells #[.int .i64 0] v) = wc at h4 h5
  rw [hs] at h2
  rw [hs2, hs] at h4
  have hab := Bel.call hb h3
  exact ⟨(h1.below h3).below h5, h2.below h5, h4, ((hr.below hb (Nat.le_refl _)).below h3 (Nat.le_refl _)).below h5 (Nat.le_refl _), Bel.call hab h5⟩
theorem sreads_cell {w : World} {g off : Nat} {vs : List ByteArray} (h : SReads w (some ⟨g, off, none⟩) vs) {k : Nat} (hk : k < vs.length) : w.cell? ⟨g, off + k, none⟩ = some (.string (vs.getD k ByteArray.empty)) := by
  obtain ⟨g2, off2, e2, _, c2⟩ := h k hk
  injection e2 with e2
  injection e2 with e3 e4 _
  subst e3; subst e4
  exact c2
/-- What was panicked with is told, beside no text. -/
theorem ocaught {w0 w : World} {ep : Int} {S G : ByteArray} {A : Option Addr} {vs : List ByteArray} (h : D3 w0 w ep S G A vs) (x : Int) (older : List PanicEntry) : CallsD Tryz.prog 49 #[.pointer (some ⟨w0.heap.size + 1, 0, none⟩), .pointer (some ⟨w0.heap.size + 1 + 1, 0, none⟩)] (.panicking ({ v := .iface 28 (.int .i64 x), recovered := false } :: older)) w fun e u' w' =>
    e = .returned (.tuple #[]) ∧ u' = .panicking ({ v := .iface 28 (.int .i64 x), recovered := true } :: older) ∧ w'.cell? ⟨w0.heap.size + 1, 0, none⟩ = some (.string ⟨#[]⟩) ∧ w'.cell? ⟨w0.heap.size + 1 + 1, 0, none⟩ = some (.int .i64 x) ∧ Below w0.heap.size w0 w' := by
  obtain ⟨_, ⟨h1, hc1, hz1⟩, ⟨h2, hc2, hz2⟩, _, hb⟩ := h
  refine (ocatch_panic (w0.heap.size + 1) (w0.heap.size + 1 + 1) ⟨#[]⟩ 0 x older w hc1 hz1 hc2 hz2 (by omega)).mono ?_
  rintro e u' w' ⟨rfl, rfl, rfl⟩
  have e : (⟨w0.heap.size + 1 + 1, 0, none⟩ : Addr) ≠ ⟨w0.heap.size + 1, 0, none⟩ := fun e => by injection e with e1 _ _; omega
  have hb1 : Below w0.heap.size w0 (w.setCell ⟨w0.heap.size + 1, 0, none⟩ (.string ⟨#[]⟩)) := hb.setCell (by simp) _
  have d1 : (w.setCell ⟨w0.heap.size + 1, 0, none⟩ (.string ⟨#[]⟩)).cell? ⟨w0.heap.size + 1, 0, none⟩ = some (.string ⟨#[]⟩) := by simp [World.cell?_setCell_same', hc1]
  have d2 := (World.cell?_setCell_other w _ _ (.string ⟨#[]⟩) e.symm).trans hc2
  generalize w.setCell ⟨w0.heap.size + 1, 0, none⟩ (.string ⟨#[]⟩) = wa at hb1 d1 d2
  have hb2 : Below w0.heap.size w0 (wa.setCell ⟨w0.heap.size + 1 + 1, 0, none⟩ (.int .i64 x)) := hb1.setCell (by simp; omega) _
  have k1 := (World.cell?_setCell_other wa _ _ (.int .i64 x) e).trans d1
  have k2 : (wa.setCell ⟨w0.heap.size + 1 + 1, 0, none⟩ (.int .i64 x)).cell? ⟨w0.heap.size + 1 + 1, 0, none⟩ = some (.int .i64 x) := by simp [World.cell?_setCell_same', d2]
  generalize wa.setCell ⟨w0.heap.size + 1 + 1, 0, none⟩ (.int .i64 x) = wb at hb2 k1 k2
  exact ⟨rfl, rfl, k1, k2, Below.drewN' hb2 1⟩
theorem unsealB_sev (st path sl : Tm) : (unsealB st path sl).2 = 0 ∨ unsealB st path sl = ([], 7) := by
  unfold unsealB
  repeat' split
  all_goals first | exact .inr rfl | exact .inl rfl
theorem seven_ne : ((7 : Int) == 0) = false := by decide
set_option maxHeartbeats 8000000 in
set_option maxRecDepth 1000000 in
theorem copen_any (ep0 : Int) (S G : ByteArray) (A : Option Addr) (cc : Nat) (vs : List ByteArray) (st : ByteArray) (ep : Int) (p : ByteArray) (w : World) (hS : S.size ≤ 100000) (hG : G.size ≤ 100000) (hst : st.size ≤ 100000) (hp : p.size ≤ 100000) (hn : vs.length ≤ 100000) (hv : ∀ v ∈ vs, v.size ≤ 100000) (hep : -9223372036854775808 ≤ ep ∧ ep ≤ 9223372036854775807) (hr : SReads w A vs) :
    Calls Tryz.prog 13 #[.agg #[.int .i64 ep0, .string S, .string G], .slice A vs.length cc, .string st, .int .i64 ep, .string p] w fun e w' => Sr (openB ⟨ep0, S.data.toList, G.data.toList⟩ (bl vs) st.data.toList ep p.data.toList) e ∧ Below w.heap.size w w' := by
  have hmf : ∀ (fn : Fn) (first cap : Array Value) (w : World), (Instr.makeFunc fn first cap).run Tryz.prog w = .ok (.func fn first cap) w := fun _ _ _ _ => rfl
  have HR := Lib.hid fun w => cright_any ep0 S G w (by omega) (by omega)
  have HT := Lib.hid fun w => isTerm_any st w (by omega)
  have HE := Lib.hid fun w => isEpoch_any ep w
  have hbl : (bl vs).length = vs.length := by simp [bl]
  generalize hsb : openB ⟨ep0, S.data.toList, G.data.toList⟩ (bl vs) st.data.toList ep p.data.toList = sb
  unfold openB at hsb
  by_cases hA : ArgO ⟨ep0, S.data.toList, G.data.toList⟩ (bl vs).length st.data.toList ep
  · rw [if_neg (fun h => h hA)] at hsb
    obtain ⟨hbr, hr1, he, hlen⟩ := hA
    rw [decide_eq_true hbr] at HR
    rw [hr1] at HT
    rw [decide_eq_true he] at HE
    rw [hbl] at hlen
    have hw1 : IntKind.i64.wrap (ep + 1) = ep + 1 := by rw [IntKind.wrap_i64]; omega
    have hlb : ((vs.length : Int) == ep + 1) = true := by simpa using hlen
    have hk0 := hbr.1
    simp only at hk0 hsb
    obtain ⟨k, rfl⟩ : ∃ k : Nat, ep0 = (k : Int) := ⟨ep0.toNat, by omega⟩
    by_cases hle : ep < (k : Int)
    · rw [if_pos hle] at hsb
      have HSB := Lib.hid hsb
      have hle2 : ¬ ((k : Int) ≤ ep) := by omega
      clear hsb hbr hr1 he hlen hk0
      go_enter_defers Tryz.func13, Tryz.ntmps13
      go_wp2_with fail
      have HD0 := Lib.hid (d3_new w (k : Int) S G A vs hr 23 9 28)
      generalize ((w.alloc (.cells #[.int .i64 (k : Int), .string S, .string G] 23)).alloc (.cells #[.string ⟨#[]⟩] 9)).alloc (.cells #[.int .i64 0] 28) = w0 at HD0 ⊢
      with_reducible refine (HR.out _).mono ?_
      rintro e w1 ⟨rfl, hb1⟩
      have HD1 := Lib.hid (HD0.out.below hb1)
      clear hb1 HD0
      dsimp only
      go_wp2_with fail
      with_reducible refine (HT.out _).mono ?_
      rintro e w2 ⟨rfl, hb2⟩
      have HD2 := Lib.hid (HD1.out.below hb2)
      clear hb2
      dsimp only
      go_wp2_with fail
      with_reducible refine (HE.out _).mono ?_
      rintro e w1002 ⟨rfl, rfl⟩
      dsimp only
      go_wp2_with fail
      with_reducible refine (must_yes 1 _).mono ?_
      rintro e w1002 ⟨rfl, rfl⟩
      dsimp only
      obtain ⟨⟨_, c0, c1, c2⟩, _⟩ := HD2.out
      go_wp2_with fail
      try rw [decide_eq_false (show ¬ ((k : Int) ≤ ep) by omega)]
      with_reducible refine (must_no 7 _).mono ?_
      rintro e w1002 ⟨hp, rfl⟩
      obtain rfl := hp
      dsimp only
      go_wp2
      refine leaves_cons (f := 49) (args := #[.pointer (some ⟨w.heap.size + 1, 0, none⟩), .pointer (some ⟨w.heap.size + 1 + 1, 0, none⟩)]) (by simp) (by simp [go_sem]) ?_
      refine (ocaught HD2.out 7 []).mono ?_
      rintro e u' w'' ⟨rfl, rfl, k0, k1, hb⟩
      simp [Leaves, settle, results, Tryz.results13, go_sem, k0, k1]
      exact ⟨by rw [← HSB.out]; exact ⟨⟨#[]⟩, rfl, rfl⟩, hb⟩
    · rw [if_neg hle] at hsb
      have hle2 : (k : Int) ≤ ep := by omega
      have hslr : right S.data.toList = true := (br_sl hbr).1
      have HSA : Hid (∀ (w : World), Calls Tryz.prog 41 #[.int .i64 (k : Int), .string S] w fun e w' => Sr (said (k : Int) S.data.toList) e ∧ Below w.heap.size w w') := Lib.hid fun w => said_any (k : Int) S w (by omega) (by omega)
      obtain ⟨sd, f, hsd⟩ : ∃ sd f, said (k : Int) S.data.toList = (sd, f) := ⟨_, _, rfl⟩
      have hsr : f = 0 → right sd = true := fun h => by
        have := (two_ok (k := 112) (a := ofAtom ((k : Int)).toNat) (b := S.data.toList) (by rw [show (two 112 (ofAtom ((k : Int)).toNat) S.data.toList) = said (k : Int) S.data.toList from rfl, hsd]; exact h)).1
        rw [show (two 112 (ofAtom ((k : Int)).toNat) S.data.toList) = said (k : Int) S.data.toList from rfl, hsd] at this
        exact this
      rw [hsd] at hsb HSA
      simp only at hsb
      clear hsd
      by_cases hf : f = 0
      · subst hf
        have hsr := hsr rfl
        rw [if_neg (show ¬ (0 : Int) ≠ 0 from fun h => h rfl)] at hsb
        have hkl : k < vs.length := by omega
        have hki : (k : Int) < (vs.length : Int) := by omega
        obtain ⟨g, off, rfl, hg1, hgc⟩ := hr k hkl
        obtain ⟨V, hV⟩ : ∃ V, vs.getD k ByteArray.empty = V := ⟨_, rfl⟩
        have hVs : V.size ≤ 100000 := by
          rw [← hV, List.getD, List.getElem?_eq_getElem hkl]
          exact hv _ (List.getElem_mem hkl)
        have hVb : (bl vs).getD ((k : Int)).toNat [] = V.data.toList := by
          rw [show ((k : Int)).toNat = k by omega, ← hV]
          simp only [bl, List.getD, List.getElem?_map, List.getElem?_eq_getElem hkl]
          rfl
        rw [hVb] at hsb
        have HVC : Hid (∀ w' : World, SReads w' (some ⟨g, off, none⟩) vs → w'.cell? ⟨g, off + k, none⟩ = some (.string V)) := Lib.hid fun w' h => by rw [← hV]; exact sreads_cell h hkl
        have HVF : Hid (∀ (D : ByteArray) (w : World), D.data.toList = sd → Calls Tryz.prog 51 #[.string V, .string D, .string G] w fun e w' => e = .returned (.int .i64 (verify V.data.toList sd G.data.toList)) ∧ Below w.heap.size w w') := Lib.hid fun D w hD => by
          have := t_Verify V D G w (by omega) (by rw [Lib.size_eq, hD]; have := (right_len hsr).2; omega) (by omega)
          rw [hD] at this
          exact this
        generalize hvf : verify V.data.toList sd G.data.toList = vf at hsb HVF
        have HBK : Hid (∀ (w : World), Calls Tryz.prog 52 #[.string st, .int .i64 (ep - (k : Int))] w fun e w' => Sr (back st.data.toList (ep - (k : Int))) e ∧ Below w.heap.size w w') := Lib.hid fun w => back_any st (ep - (k : Int)) w (by omega) (by omega)
        have hw2 : IntKind.i64.wrap (ep - (k : Int)) = ep - (k : Int) := by rw [IntKind.wrap_i64]; omega
        have hki2 : (k : Int) < ep + 1 := by omega
        clear hV hvf hVb hgc hbr hr1 he hk0 hle hsr hg1 hlen hbl
        by_cases hvz : vf = 0
        · subst hvz
          rw [if_neg (show ¬ (0 : Int) ≠ 0 from fun h => h rfl)] at hsb
          obtain ⟨bk, f, hbk⟩ : ∃ bk f, back st.data.toList (ep - (k : Int)) = (bk, f) := ⟨_, _, rfl⟩
          have hbr : f = 0 → right bk = true := fun h => by
            have := (back_ok (st := st.data.toList) (k := ep - (k : Int)) (by rw [hbk]; exact h)).1
            rw [hbk] at this
            exact this
          rw [hbk] at hsb HBK
          simp only at hsb
          clear hbk
          by_cases hf : f = 0
          · subst hf
            have hbr := hbr rfl
            rw [if_neg (show ¬ (0 : Int) ≠ 0 from fun h => h rfl)] at hsb
            have HUS : Hid (∀ (B : ByteArray) (w : World), B.data.toList = bk → Calls Tryz.prog 53 #[.string B, .string p, .string S] w fun e w' => Sp (unsealB bk p.data.toList S.data.toList) e ∧ Below w.heap.size w w') := Lib.hid fun B w hB => by
              have := unseal_any B p S w (by rw [hB]; exact hbr) (by omega) hslr
              rw [hB] at this
              exact this
            have hus := unsealB_sev bk p.data.toList S.data.toList
            rw [hsb] at hus HUS
            have HSB : Hid (sb = sb) := Lib.hid rfl
            clear hsb hslr hbr
            rcases hus with hz | hz
            · obtain ⟨ct, f⟩ := sb
              have hz : f = 0 := hz
              subst hz
              have HU2 : Hid (∀ (B : ByteArray) (w : World), B.data.toList = bk → Calls Tryz.prog 53 #[.string B, .string p, .string S] w fun e w' => St ct e ∧ Below w.heap.size w w') := Lib.hid fun B w hB => (HUS.out B w hB).mono fun e w' h => by
                obtain ⟨⟨_, h1⟩ | ⟨h1, _⟩, h2⟩ := h
                · exact ⟨h1, h2⟩
                · exact absurd rfl h1
              clear HUS
              go_enter_defers Tryz.func13, Tryz.ntmps13
              go_wp2_with fail
              have HD0 := Lib.hid (d3_new w (k : Int) S G (some ⟨g, off, none⟩) vs hr 23 9 28)
              generalize ((w.alloc (.cells #[.int .i64 (k : Int), .string S, .string G] 23)).alloc (.cells #[.string ⟨#[]⟩] 9)).alloc (.cells #[.int .i64 0] 28) = w0 at HD0 ⊢
              with_reducible refine (HR.out _).mono ?_
              rintro e w1 ⟨rfl, hb1⟩
              have HD1 := Lib.hid (HD0.out.below hb1)
              clear hb1 HD0
              dsimp only
              go_wp2_with fail
              with_reducible refine (HT.out _).mono ?_
              rintro e w2 ⟨rfl, hb2⟩
              have HD2 := Lib.hid (HD1.out.below hb2)
              clear hb2
              dsimp only
              go_wp2_with fail
              with_reducible refine (HE.out _).mono ?_
              rintro e w1002 ⟨rfl, rfl⟩
              dsimp only
              go_wp2_with fail
              with_reducible refine (must_yes 1 _).mono ?_
              rintro e w1002 ⟨rfl, rfl⟩
              dsimp only
              obtain ⟨⟨_, c0, c1, c2⟩, _⟩ := HD2.out
              go_wp2_with fail
              try rw [decide_eq_true hle2]
              with_reducible refine (must_yes 7 _).mono ?_
              rintro e w1002 ⟨rfl, rfl⟩
              dsimp only
              go_wp2_with fail
              with_reducible refine (HSA.out _).mono ?_
              rintro e w3 ⟨⟨D, hD, rfl⟩, hb3⟩
              have HD3 := Lib.hid (HD2.out.below hb3)
              clear hb3
              dsimp only at hD
              have HD' := Lib.hid hD
              clear hD
              dsimp only
              go_wp2_with fail
              with_reducible refine (trusted_yes D _).mono ?_
              rintro e w1003 ⟨rfl, rfl⟩
              dsimp only
              go_wp2_with fail
              have hdr := HD3.out.below (Below.drewN' (Below.refl w1003.heap.size w1003) 1)
              refine Ord.region_lit (S := fun w' => D3 w w' (k : Int) S G (some ⟨g, off, none⟩) vs) (by kernel_rfl) (by kernel_rfl) hdr ?_
              clear hdr
              refine Ord.stepR (v := ?_) (by rfl) ?_ ?_
              rotate_left
              · intro w' hSw
                obtain ⟨⟨_, c0, c1, c2⟩, _, _, hrd, _⟩ := hSw
                have hk1 := HVC.out _ hrd
                go_simp
                try with_reducible rfl
              try simp only [Act.put, List.setIfInBounds_toArray, List.set_cons_zero, List.set_cons_succ]
              refine Ord.stepR (v := ?_) (by rfl) ?_ ?_
              rotate_left
              · intro w' hSw
                obtain ⟨⟨_, c0, c1, c2⟩, _, _, hrd, _⟩ := hSw
                have hk1 := HVC.out _ hrd
                go_simp
                try with_reducible rfl
              try simp only [Act.put, List.setIfInBounds_toArray, List.set_cons_zero, List.set_cons_succ]
              refine Ord.stepR (v := ?_) (by rfl) ?_ ?_
              rotate_left
              · intro w' hSw
                obtain ⟨⟨_, c0, c1, c2⟩, _, _, hrd, _⟩ := hSw
                have hk1 := HVC.out _ hrd
                go_simp
                try with_reducible rfl
              try simp only [Act.put, List.setIfInBounds_toArray, List.set_cons_zero, List.set_cons_succ]
              refine Ord.stepR (v := ?_) (by rfl) ?_ ?_
              rotate_left
              · intro w' hSw
                obtain ⟨⟨_, c0, c1, c2⟩, _, _, hrd, _⟩ := hSw
                have hk1 := HVC.out _ hrd
                go_simp
                try with_reducible rfl
              try simp only [Act.put, List.setIfInBounds_toArray, List.set_cons_zero, List.set_cons_succ]
              refine Ord.stepR (v := ?_) (by rfl) ?_ ?_
              rotate_left
              · intro w' hSw
                obtain ⟨⟨_, c0, c1, c2⟩, _, _, hrd, _⟩ := hSw
                have hk1 := HVC.out _ hrd
                go_simp
                try with_reducible rfl
              try simp only [Act.put, List.setIfInBounds_toArray, List.set_cons_zero, List.set_cons_succ]
              refine Ord.stepR (v := ?_) (by rfl) ?_ ?_
              rotate_left
              · intro w' hSw
                obtain ⟨⟨_, c0, c1, c2⟩, _, _, hrd, _⟩ := hSw
                have hk1 := HVC.out _ hrd
                go_simp
                try with_reducible rfl
              try simp only [Act.put, List.setIfInBounds_toArray, List.set_cons_zero, List.set_cons_succ]
              refine Ord.stepR (v := ?_) (by rfl) ?_ ?_
              rotate_left
              · intro w' hSw
                obtain ⟨⟨_, c0, c1, c2⟩, _, _, hrd, _⟩ := hSw
                have hk1 := HVC.out _ hrd
                go_simp
                try with_reducible rfl
              try simp only [Act.put, List.setIfInBounds_toArray, List.set_cons_zero, List.set_cons_succ]
              refine Ord.stepR (v := ?_) (by rfl) ?_ ?_
              rotate_left
              · intro w' hSw
                obtain ⟨⟨_, c0, c1, c2⟩, _, _, hrd, _⟩ := hSw
                have hk1 := HVC.out _ hrd
                go_simp
                try with_reducible rfl
              try simp only [Act.put, List.setIfInBounds_toArray, List.set_cons_zero, List.set_cons_succ]
              refine Ord.stepC (v := .int .i64 0) (by rfl) ?_ (fun w1 hS => (HVF.out D w1 HD'.out).mono fun e w2 h => ⟨h.1, hS.below h.2⟩) ?_
              · intro w' hSw
                go_simp
                try with_reducible rfl
              try simp only [Act.put, List.setIfInBounds_toArray, List.set_cons_zero, List.set_cons_succ]
              refine Ord.stepR (v := ?_) (by rfl) ?_ ?_
              rotate_left
              · intro w' hSw
                obtain ⟨⟨_, c0, c1, c2⟩, _, _, hrd, _⟩ := hSw
                have hk1 := HVC.out _ hrd
                go_simp
                try with_reducible rfl
              try simp only [Act.put, List.setIfInBounds_toArray, List.set_cons_zero, List.set_cons_succ]
              refine Ord.stepC (v := .tuple #[]) (by rfl) ?_ (fun w1 hS => (must_yes 7 w1).mono fun e w2 h => ⟨h.1, by rw [h.2]; exact hS⟩) ?_
              · intro w' hSw
                go_simp
                try with_reducible rfl
              try simp only [Act.put, List.setIfInBounds_toArray, List.set_cons_zero, List.set_cons_succ]
              refine Ord.stepD ?_
              rintro w30 hS9
              have HD30 := Lib.hid hS9
              clear hS9
              obtain ⟨⟨_, c0, c1, c2⟩, _⟩ := HD30.out
              go_wp2_with fail
              with_reducible refine (HBK.out _).mono ?_
              rintro e w31 ⟨⟨B, hB, rfl⟩, hb31⟩
              have HD31 := Lib.hid (HD30.out.below hb31)
              clear hb31
              dsimp only at hB
              have HB := Lib.hid hB
              clear hB
              dsimp only
              go_wp2_with fail
              with_reducible refine (trusted_yes B _).mono ?_
              rintro e w1031 ⟨rfl, rfl⟩
              dsimp only
              obtain ⟨⟨_, c0, c1, c2⟩, _⟩ := HD31.out
              go_wp2_with fail
              with_reducible refine (HU2.out B _ HB.out).mono ?_
              rintro e w32 ⟨⟨CT, hCT, rfl⟩, hb32⟩
              have HD32 := Lib.hid (HD31.out.below hb32)
              clear hb32
              have HCT := Lib.hid hCT
              clear hCT
              dsimp only
              obtain ⟨_, ⟨_, d0, f0⟩, ⟨_, e0, z0⟩, _, hb⟩ := HD32.out
              go_wp2
              refine leaves_cons (f := 49) (args := #[.pointer (some ⟨w.heap.size + 1, 0, none⟩), .pointer (some ⟨w.heap.size + 1 + 1, 0, none⟩)]) (by simp) (by simp [go_sem]) ?_
              refine (ocatch_idle ⟨w.heap.size + 1, 0, none⟩ ⟨w.heap.size + 1 + 1, 0, none⟩ _).mono ?_
              rintro e u' w'' ⟨rfl, rfl, rfl⟩
              simp [Leaves, settle, results, Tryz.results13, go_sem, d0, e0]
              exact ⟨⟨CT, HCT.out, rfl⟩, (hb.setCell (by simp) _).setCell (by simp; omega) _⟩
            · subst hz
              have HU2 : Hid (∀ (B : ByteArray) (w : World), B.data.toList = bk → Calls Tryz.prog 53 #[.string B, .string p, .string S] w fun e w' => Pn 7 e ∧ Below w.heap.size w w') := Lib.hid fun B w hB => (HUS.out B w hB).mono fun e w' h => by
                obtain ⟨⟨h1, _⟩ | ⟨_, h1⟩, h2⟩ := h
                · exact absurd h1 (show ¬ (7 : Int) = 0 by decide)
                · exact ⟨h1, h2⟩
              clear HUS
              go_enter_defers Tryz.func13, Tryz.ntmps13
              go_wp2_with fail
              have HD0 := Lib.hid (d3_new w (k : Int) S G (some ⟨g, off, none⟩) vs hr 23 9 28)
              generalize ((w.alloc (.cells #[.int .i64 (k : Int), .string S, .string G] 23)).alloc (.cells #[.string ⟨#[]⟩] 9)).alloc (.cells #[.int .i64 0] 28) = w0 at HD0 ⊢
              with_reducible refine (HR.out _).mono ?_
              rintro e w1 ⟨rfl, hb1⟩
              have HD1 := Lib.hid (HD0.out.below hb1)
              clear hb1 HD0
              dsimp only
              go_wp2_with fail
              with_reducible refine (HT.out _).mono ?_
              rintro e w2 ⟨rfl, hb2⟩
              have HD2 := Lib.hid (HD1.out.below hb2)
              clear hb2
              dsimp only
              go_wp2_with fail
              with_reducible refine (HE.out _).mono ?_
              rintro e w1002 ⟨rfl, rfl⟩
              dsimp only
              go_wp2_with fail
              with_reducible refine (must_yes 1 _).mono ?_
              rintro e w1002 ⟨rfl, rfl⟩
              dsimp only
              obtain ⟨⟨_, c0, c1, c2⟩, _⟩ := HD2.out
              go_wp2_with fail
              try rw [decide_eq_true hle2]
              with_reducible refine (must_yes 7 _).mono ?_
              rintro e w1002 ⟨rfl, rfl⟩
              dsimp only
              go_wp2_with fail
              with_reducible refine (HSA.out _).mono ?_
              rintro e w3 ⟨⟨D, hD, rfl⟩, hb3⟩
              have HD3 := Lib.hid (HD2.out.below hb3)
              clear hb3
              dsimp only at hD
              have HD' := Lib.hid hD
              clear hD
              dsimp only
              go_wp2_with fail
              with_reducible refine (trusted_yes D _).mono ?_
              rintro e w1003 ⟨rfl, rfl⟩
              dsimp only
              go_wp2_with fail
              have hdr := HD3.out.below (Below.drewN' (Below.refl w1003.heap.size w1003) 1)
              refine Ord.region_lit (S := fun w' => D3 w w' (k : Int) S G (some ⟨g, off, none⟩) vs) (by kernel_rfl) (by kernel_rfl) hdr ?_
              clear hdr
              refine Ord.stepR (v := ?_) (by rfl) ?_ ?_
              rotate_left
              · intro w' hSw
                obtain ⟨⟨_, c0, c1, c2⟩, _, _, hrd, _⟩ := hSw
                have hk1 := HVC.out _ hrd
                go_simp
                try with_reducible rfl
              try simp only [Act.put, List.setIfInBounds_toArray, List.set_cons_zero, List.set_cons_succ]
              refine Ord.stepR (v := ?_) (by rfl) ?_ ?_
              rotate_left
              · intro w' hSw
                obtain ⟨⟨_, c0, c1, c2⟩, _, _, hrd, _⟩ := hSw
                have hk1 := HVC.out _ hrd
                go_simp
                try with_reducible rfl
              try simp only [Act.put, List.setIfInBounds_toArray, List.set_cons_zero, List.set_cons_succ]
              refine Ord.stepR (v := ?_) (by rfl) ?_ ?_
              rotate_left
              · intro w' hSw
                obtain ⟨⟨_, c0, c1, c2⟩, _, _, hrd, _⟩ := hSw
                have hk1 := HVC.out _ hrd
                go_simp
                try with_reducible rfl
              try simp only [Act.put, List.setIfInBounds_toArray, List.set_cons_zero, List.set_cons_succ]
              refine Ord.stepR (v := ?_) (by rfl) ?_ ?_
              rotate_left
              · intro w' hSw
                obtain ⟨⟨_, c0, c1, c2⟩, _, _, hrd, _⟩ := hSw
                have hk1 := HVC.out _ hrd
                go_simp
                try with_reducible rfl
              try simp only [Act.put, List.setIfInBounds_toArray, List.set_cons_zero, List.set_cons_succ]
              refine Ord.stepR (v := ?_) (by rfl) ?_ ?_
              rotate_left
              · intro w' hSw
                obtain ⟨⟨_, c0, c1, c2⟩, _, _, hrd, _⟩ := hSw
                have hk1 := HVC.out _ hrd
                go_simp
                try with_reducible rfl
              try simp only [Act.put, List.setIfInBounds_toArray, List.set_cons_zero, List.set_cons_succ]
              refine Ord.stepR (v := ?_) (by rfl) ?_ ?_
              rotate_left
              · intro w' hSw
                obtain ⟨⟨_, c0, c1, c2⟩, _, _, hrd, _⟩ := hSw
                have hk1 := HVC.out _ hrd
                go_simp
                try with_reducible rfl
              try simp only [Act.put, List.setIfInBounds_toArray, List.set_cons_zero, List.set_cons_succ]
              refine Ord.stepR (v := ?_) (by rfl) ?_ ?_
              rotate_left
              · intro w' hSw
                obtain ⟨⟨_, c0, c1, c2⟩, _, _, hrd, _⟩ := hSw
                have hk1 := HVC.out _ hrd
                go_simp
                try with_reducible rfl
              try simp only [Act.put, List.setIfInBounds_toArray, List.set_cons_zero, List.set_cons_succ]
              refine Ord.stepR (v := ?_) (by rfl) ?_ ?_
              rotate_left
              · intro w' hSw
                obtain ⟨⟨_, c0, c1, c2⟩, _, _, hrd, _⟩ := hSw
                have hk1 := HVC.out _ hrd
                go_simp
                try with_reducible rfl
              try simp only [Act.put, List.setIfInBounds_toArray, List.set_cons_zero, List.set_cons_succ]
              refine Ord.stepC (v := .int .i64 0) (by rfl) ?_ (fun w1 hS => (HVF.out D w1 HD'.out).mono fun e w2 h => ⟨h.1, hS.below h.2⟩) ?_
              · intro w' hSw
                go_simp
                try with_reducible rfl
              try simp only [Act.put, List.setIfInBounds_toArray, List.set_cons_zero, List.set_cons_succ]
              refine Ord.stepR (v := ?_) (by rfl) ?_ ?_
              rotate_left
              · intro w' hSw
                obtain ⟨⟨_, c0, c1, c2⟩, _, _, hrd, _⟩ := hSw
                have hk1 := HVC.out _ hrd
                go_simp
                try with_reducible rfl
              try simp only [Act.put, List.setIfInBounds_toArray, List.set_cons_zero, List.set_cons_succ]
              refine Ord.stepC (v := .tuple #[]) (by rfl) ?_ (fun w1 hS => (must_yes 7 w1).mono fun e w2 h => ⟨h.1, by rw [h.2]; exact hS⟩) ?_
              · intro w' hSw
                go_simp
                try with_reducible rfl
              try simp only [Act.put, List.setIfInBounds_toArray, List.set_cons_zero, List.set_cons_succ]
              refine Ord.stepD ?_
              rintro w30 hS9
              have HD30 := Lib.hid hS9
              clear hS9
              obtain ⟨⟨_, c0, c1, c2⟩, _⟩ := HD30.out
              go_wp2_with fail
              with_reducible refine (HBK.out _).mono ?_
              rintro e w31 ⟨⟨B, hB, rfl⟩, hb31⟩
              have HD31 := Lib.hid (HD30.out.below hb31)
              clear hb31
              dsimp only at hB
              have HB := Lib.hid hB
              clear hB
              dsimp only
              go_wp2_with fail
              with_reducible refine (trusted_yes B _).mono ?_
              rintro e w1031 ⟨rfl, rfl⟩
              dsimp only
              obtain ⟨⟨_, c0, c1, c2⟩, _⟩ := HD31.out
              go_wp2_with fail
              with_reducible refine (HU2.out B _ HB.out).mono ?_
              rintro e w32 ⟨hp, hb32⟩
              have HD32 := Lib.hid (HD31.out.below hb32)
              clear hb32
              obtain rfl := hp
              dsimp only
              go_wp2
              refine leaves_cons (f := 49) (args := #[.pointer (some ⟨w.heap.size + 1, 0, none⟩), .pointer (some ⟨w.heap.size + 1 + 1, 0, none⟩)]) (by simp) (by simp [go_sem]) ?_
              refine (ocaught HD32.out 7 []).mono ?_
              rintro e u' w'' ⟨rfl, rfl, k0, k1, hb⟩
              simp [Leaves, settle, results, Tryz.results13, go_sem, k0, k1]
              exact ⟨⟨⟨#[]⟩, rfl, rfl⟩, hb⟩
          · rw [if_pos hf] at hsb
            have HSB := Lib.hid hsb
            have hfb : (f == 0) = false := by simpa using hf
            clear hsb hf hbr hslr
            go_enter_defers Tryz.func13, Tryz.ntmps13
            go_wp2_with fail
            have HD0 := Lib.hid (d3_new w (k : Int) S G (some ⟨g, off, none⟩) vs hr 23 9 28)
            generalize ((w.alloc (.cells #[.int .i64 (k : Int), .string S, .string G] 23)).alloc (.cells #[.string ⟨#[]⟩] 9)).alloc (.cells #[.int .i64 0] 28) = w0 at HD0 ⊢
            with_reducible refine (HR.out _).mono ?_
            rintro e w1 ⟨rfl, hb1⟩
            have HD1 := Lib.hid (HD0.out.below hb1)
            clear hb1 HD0
            dsimp only
            go_wp2_with fail
            with_reducible refine (HT.out _).mono ?_
            rintro e w2 ⟨rfl, hb2⟩
            have HD2 := Lib.hid (HD1.out.below hb2)
            clear hb2
            dsimp only
            go_wp2_with fail
            with_reducible refine (HE.out _).mono ?_
            rintro e w1002 ⟨rfl, rfl⟩
            dsimp only
            go_wp2_with fail
            with_reducible refine (must_yes 1 _).mono ?_
            rintro e w1002 ⟨rfl, rfl⟩
            dsimp only
            obtain ⟨⟨_, c0, c1, c2⟩, _⟩ := HD2.out
            go_wp2_with fail
            try rw [decide_eq_true hle2]
            with_reducible refine (must_yes 7 _).mono ?_
            rintro e w1002 ⟨rfl, rfl⟩
            dsimp only
            go_wp2_with fail
            with_reducible refine (HSA.out _).mono ?_
            rintro e w3 ⟨⟨D, hD, rfl⟩, hb3⟩
            have HD3 := Lib.hid (HD2.out.below hb3)
            clear hb3
            dsimp only at hD
            have HD' := Lib.hid hD
            clear hD
            dsimp only
            go_wp2_with fail
            with_reducible refine (trusted_yes D _).mono ?_
            rintro e w1003 ⟨rfl, rfl⟩
            dsimp only
            go_wp2_with fail
            have hdr := HD3.out.below (Below.drewN' (Below.refl w1003.heap.size w1003) 1)
            refine Ord.region_lit (S := fun w' => D3 w w' (k : Int) S G (some ⟨g, off, none⟩) vs) (by kernel_rfl) (by kernel_rfl) hdr ?_
            clear hdr
            refine Ord.stepR (v := ?_) (by rfl) ?_ ?_
            rotate_left
            · intro w' hSw
              obtain ⟨⟨_, c0, c1, c2⟩, _, _, hrd, _⟩ := hSw
              have hk1 := HVC.out _ hrd
              go_simp
              try with_reducible rfl
            try simp only [Act.put, List.setIfInBounds_toArray, List.set_cons_zero, List.set_cons_succ]
            refine Ord.stepR (v := ?_) (by rfl) ?_ ?_
            rotate_left
            · intro w' hSw
              obtain ⟨⟨_, c0, c1, c2⟩, _, _, hrd, _⟩ := hSw
              have hk1 := HVC.out _ hrd
              go_simp
              try with_reducible rfl
            try simp only [Act.put, List.setIfInBounds_toArray, List.set_cons_zero, List.set_cons_succ]
            refine Ord.stepR (v := ?_) (by rfl) ?_ ?_
            rotate_left
            · intro w' hSw
              obtain ⟨⟨_, c0, c1, c2⟩, _, _, hrd, _⟩ := hSw
              have hk1 := HVC.out _ hrd
              go_simp
              try with_reducible rfl
            try simp only [Act.put, List.setIfInBounds_toArray, List.set_cons_zero, List.set_cons_succ]
            refine Ord.stepR (v := ?_) (by rfl) ?_ ?_
            rotate_left
            · intro w' hSw
              obtain ⟨⟨_, c0, c1, c2⟩, _, _, hrd, _⟩ := hSw
              have hk1 := HVC.out _ hrd
              go_simp
              try with_reducible rfl
            try simp only [Act.put, List.setIfInBounds_toArray, List.set_cons_zero, List.set_cons_succ]
            refine Ord.stepR (v := ?_) (by rfl) ?_ ?_
            rotate_left
            · intro w' hSw
              obtain ⟨⟨_, c0, c1, c2⟩, _, _, hrd, _⟩ := hSw
              have hk1 := HVC.out _ hrd
              go_simp
              try with_reducible rfl
            try simp only [Act.put, List.setIfInBounds_toArray, List.set_cons_zero, List.set_cons_succ]
            refine Ord.stepR (v := ?_) (by rfl) ?_ ?_
            rotate_left
            · intro w' hSw
              obtain ⟨⟨_, c0, c1, c2⟩, _, _, hrd, _⟩ := hSw
              have hk1 := HVC.out _ hrd
              go_simp
              try with_reducible rfl
            try simp only [Act.put, List.setIfInBounds_toArray, List.set_cons_zero, List.set_cons_succ]
            refine Ord.stepR (v := ?_) (by rfl) ?_ ?_
            rotate_left
            · intro w' hSw
              obtain ⟨⟨_, c0, c1, c2⟩, _, _, hrd, _⟩ := hSw
              have hk1 := HVC.out _ hrd
              go_simp
              try with_reducible rfl
            try simp only [Act.put, List.setIfInBounds_toArray, List.set_cons_zero, List.set_cons_succ]
            refine Ord.stepR (v := ?_) (by rfl) ?_ ?_
            rotate_left
            · intro w' hSw
              obtain ⟨⟨_, c0, c1, c2⟩, _, _, hrd, _⟩ := hSw
              have hk1 := HVC.out _ hrd
              go_simp
              try with_reducible rfl
            try simp only [Act.put, List.setIfInBounds_toArray, List.set_cons_zero, List.set_cons_succ]
            refine Ord.stepC (v := .int .i64 0) (by rfl) ?_ (fun w1 hS => (HVF.out D w1 HD'.out).mono fun e w2 h => ⟨h.1, hS.below h.2⟩) ?_
            · intro w' hSw
              go_simp
              try with_reducible rfl
            try simp only [Act.put, List.setIfInBounds_toArray, List.set_cons_zero, List.set_cons_succ]
            refine Ord.stepR (v := ?_) (by rfl) ?_ ?_
            rotate_left
            · intro w' hSw
              obtain ⟨⟨_, c0, c1, c2⟩, _, _, hrd, _⟩ := hSw
              have hk1 := HVC.out _ hrd
              go_simp
              try with_reducible rfl
            try simp only [Act.put, List.setIfInBounds_toArray, List.set_cons_zero, List.set_cons_succ]
            refine Ord.stepC (v := .tuple #[]) (by rfl) ?_ (fun w1 hS => (must_yes 7 w1).mono fun e w2 h => ⟨h.1, by rw [h.2]; exact hS⟩) ?_
            · intro w' hSw
              go_simp
              try with_reducible rfl
            try simp only [Act.put, List.setIfInBounds_toArray, List.set_cons_zero, List.set_cons_succ]
            refine Ord.stepD ?_
            rintro w30 hS9
            have HD30 := Lib.hid hS9
            clear hS9
            obtain ⟨⟨_, c0, c1, c2⟩, _⟩ := HD30.out
            go_wp2_with fail
            with_reducible refine (HBK.out _).mono ?_
            rintro e w31 ⟨⟨B, hB, rfl⟩, hb31⟩
            have HD31 := Lib.hid (HD30.out.below hb31)
            clear hb31
            dsimp only at hB
            have HB := Lib.hid hB
            clear hB
            dsimp only
            go_wp2_with fail
            with_reducible refine (trusted_no B f _ hfb).mono ?_
            rintro e w1031 ⟨hp, rfl⟩
            obtain rfl := hp
            dsimp only
            go_wp2
            refine leaves_cons (f := 49) (args := #[.pointer (some ⟨w.heap.size + 1, 0, none⟩), .pointer (some ⟨w.heap.size + 1 + 1, 0, none⟩)]) (by simp) (by simp [go_sem]) ?_
            refine (ocaught HD31.out 7 []).mono ?_
            rintro e u' w'' ⟨rfl, rfl, k0, k1, hb⟩
            simp [Leaves, settle, results, Tryz.results13, go_sem, k0, k1]
            exact ⟨by rw [← HSB.out]; exact ⟨⟨#[]⟩, rfl, rfl⟩, hb⟩
        · rw [if_pos hvz] at hsb
          have HSB := Lib.hid hsb
          have hfb : (vf == 0) = false := by simpa using hvz
          clear hsb hvz hslr
          go_enter_defers Tryz.func13, Tryz.ntmps13
          go_wp2_with fail
          have HD0 := Lib.hid (d3_new w (k : Int) S G (some ⟨g, off, none⟩) vs hr 23 9 28)
          generalize ((w.alloc (.cells #[.int .i64 (k : Int), .string S, .string G] 23)).alloc (.cells #[.string ⟨#[]⟩] 9)).alloc (.cells #[.int .i64 0] 28) = w0 at HD0 ⊢
          with_reducible refine (HR.out _).mono ?_
          rintro e w1 ⟨rfl, hb1⟩
          have HD1 := Lib.hid (HD0.out.below hb1)
          clear hb1 HD0
          dsimp only
          go_wp2_with fail
          with_reducible refine (HT.out _).mono ?_
          rintro e w2 ⟨rfl, hb2⟩
          have HD2 := Lib.hid (HD1.out.below hb2)
          clear hb2
          dsimp only
          go_wp2_with fail
          with_reducible refine (HE.out _).mono ?_
          rintro e w1002 ⟨rfl, rfl⟩
          dsimp only
          go_wp2_with fail
          with_reducible refine (must_yes 1 _).mono ?_
          rintro e w1002 ⟨rfl, rfl⟩
          dsimp only
          obtain ⟨⟨_, c0, c1, c2⟩, _⟩ := HD2.out
          go_wp2_with fail
          try rw [decide_eq_true hle2]
          with_reducible refine (must_yes 7 _).mono ?_
          rintro e w1002 ⟨rfl, rfl⟩
          dsimp only
          go_wp2_with fail
          with_reducible refine (HSA.out _).mono ?_
          rintro e w3 ⟨⟨D, hD, rfl⟩, hb3⟩
          have HD3 := Lib.hid (HD2.out.below hb3)
          clear hb3
          dsimp only at hD
          have HD' := Lib.hid hD
          clear hD
          dsimp only
          go_wp2_with fail
          with_reducible refine (trusted_yes D _).mono ?_
          rintro e w1003 ⟨rfl, rfl⟩
          dsimp only
          go_wp2_with fail
          have hdr := HD3.out.below (Below.drewN' (Below.refl w1003.heap.size w1003) 1)
          refine Ord.regionE (S := fun w' => D3 w w' (k : Int) S G (some ⟨g, off, none⟩) vs) (R := fun ch => ch = [{ v := .iface 28 (.int .i64 7), recovered := false }]) (by kernel_rfl) hdr ?_ ?_
          · rintro ch a w9 rfl hS9 hdf
            show Leaves _ _ _ _ a.defers _ _
            have h10 := hdf.2 10 (by kernel_rfl)
            have h11 := hdf.2 11 (by kernel_rfl)
            rw [hdf.1]
            clear hdf
            refine leaves_cons (f := 49) (args := #[.pointer (some ⟨w.heap.size + 1, 0, none⟩), .pointer (some ⟨w.heap.size + 1 + 1, 0, none⟩)]) (by simp) (by simp [go_sem]) ?_
            refine (ocaught hS9 7 []).mono ?_
            rintro e u' w'' ⟨rfl, rfl, k0, k1, hb⟩
            simp [h10, h11, Leaves, settle, results, Tryz.results13, go_sem, k0, k1]
            exact ⟨by rw [← HSB.out]; exact ⟨⟨#[]⟩, rfl, rfl⟩, hb⟩
          clear hdr
          refine Ord.takeRE (i := 0) (v := ?_) rfl (by kernel_rfl) (by kernel_rfl) (by kernel_rfl) (by rfl) ?_ ?_
          rotate_left
          · intro w' hSw
            obtain ⟨⟨_, c0, c1, c2⟩, _, _, hrd, _⟩ := hSw
            have hk1 := HVC.out _ hrd
            go_simp
            try with_reducible rfl
          try simp only [Act.put, List.setIfInBounds_toArray, List.set_cons_zero, List.set_cons_succ]
          refine Ord.takeRE (i := 1) (v := ?_) rfl (by kernel_rfl) (by kernel_rfl) (by kernel_rfl) (by rfl) ?_ ?_
          rotate_left
          · intro w' hSw
            obtain ⟨⟨_, c0, c1, c2⟩, _, _, hrd, _⟩ := hSw
            have hk1 := HVC.out _ hrd
            go_simp
            try with_reducible rfl
          try simp only [Act.put, List.setIfInBounds_toArray, List.set_cons_zero, List.set_cons_succ]
          refine Ord.takeRE (i := 2) (v := ?_) rfl (by kernel_rfl) (by kernel_rfl) (by kernel_rfl) (by rfl) ?_ ?_
          rotate_left
          · intro w' hSw
            obtain ⟨⟨_, c0, c1, c2⟩, _, _, hrd, _⟩ := hSw
            have hk1 := HVC.out _ hrd
            go_simp
            try with_reducible rfl
          try simp only [Act.put, List.setIfInBounds_toArray, List.set_cons_zero, List.set_cons_succ]
          refine Ord.takeRE (i := 3) (v := ?_) rfl (by kernel_rfl) (by kernel_rfl) (by kernel_rfl) (by rfl) ?_ ?_
          rotate_left
          · intro w' hSw
            obtain ⟨⟨_, c0, c1, c2⟩, _, _, hrd, _⟩ := hSw
            have hk1 := HVC.out _ hrd
            go_simp
            try with_reducible rfl
          try simp only [Act.put, List.setIfInBounds_toArray, List.set_cons_zero, List.set_cons_succ]
          refine Ord.takeRE (i := 4) (v := ?_) rfl (by kernel_rfl) (by kernel_rfl) (by kernel_rfl) (by rfl) ?_ ?_
          rotate_left
          · intro w' hSw
            obtain ⟨⟨_, c0, c1, c2⟩, _, _, hrd, _⟩ := hSw
            have hk1 := HVC.out _ hrd
            go_simp
            try with_reducible rfl
          try simp only [Act.put, List.setIfInBounds_toArray, List.set_cons_zero, List.set_cons_succ]
          refine Ord.takeRE (i := 5) (v := ?_) rfl (by kernel_rfl) (by kernel_rfl) (by kernel_rfl) (by rfl) ?_ ?_
          rotate_left
          · intro w' hSw
            obtain ⟨⟨_, c0, c1, c2⟩, _, _, hrd, _⟩ := hSw
            have hk1 := HVC.out _ hrd
            go_simp
            try with_reducible rfl
          try simp only [Act.put, List.setIfInBounds_toArray, List.set_cons_zero, List.set_cons_succ]
          refine Ord.takeRE (i := 6) (v := ?_) rfl (by kernel_rfl) (by kernel_rfl) (by kernel_rfl) (by rfl) ?_ ?_
          rotate_left
          · intro w' hSw
            obtain ⟨⟨_, c0, c1, c2⟩, _, _, hrd, _⟩ := hSw
            have hk1 := HVC.out _ hrd
            go_simp
            try with_reducible rfl
          try simp only [Act.put, List.setIfInBounds_toArray, List.set_cons_zero, List.set_cons_succ]
          refine Ord.takeRE (i := 7) (v := ?_) rfl (by kernel_rfl) (by kernel_rfl) (by kernel_rfl) (by rfl) ?_ ?_
          rotate_left
          · intro w' hSw
            obtain ⟨⟨_, c0, c1, c2⟩, _, _, hrd, _⟩ := hSw
            have hk1 := HVC.out _ hrd
            go_simp
            try with_reducible rfl
          try simp only [Act.put, List.setIfInBounds_toArray, List.set_cons_zero, List.set_cons_succ]
          refine Ord.takeCE (i := 8) (v := .int .i64 vf) rfl (by kernel_rfl) (by kernel_rfl) (by kernel_rfl) (by rfl) ?_ (fun w1 hS => (HVF.out D w1 HD'.out).mono fun e w2 h => ⟨h.1, hS.below h.2⟩) ?_
          · intro w' hSw
            go_simp
            try with_reducible rfl
          try simp only [Act.put, List.setIfInBounds_toArray, List.set_cons_zero, List.set_cons_succ]
          refine Ord.takeRE (i := 9) (v := ?_) rfl (by kernel_rfl) (by kernel_rfl) (by kernel_rfl) (by rfl) ?_ ?_
          rotate_left
          · intro w' hSw
            obtain ⟨⟨_, c0, c1, c2⟩, _, _, hrd, _⟩ := hSw
            have hk1 := HVC.out _ hrd
            go_simp
            try with_reducible rfl
          try simp only [Act.put, List.setIfInBounds_toArray, List.set_cons_zero, List.set_cons_succ]
          refine Ord.dieE (i := 10) rfl (by kernel_rfl) (by rfl) ?_ (fun w1 hS => (must_no 7 w1).mono fun e w2 h => ⟨_, h.1, rfl, by rw [h.2]; exact hS⟩)
          intro w' hSw
          go_simp
          try with_reducible rfl
      · rw [if_pos hf] at hsb
        have HSB := Lib.hid hsb
        have hfb : (f == 0) = false := by simpa using hf
        clear hsb hf hsr hbr hr1 he hlen hk0 hle hslr
        go_enter_defers Tryz.func13, Tryz.ntmps13
        go_wp2_with fail
        have HD0 := Lib.hid (d3_new w (k : Int) S G A vs hr 23 9 28)
        generalize ((w.alloc (.cells #[.int .i64 (k : Int), .string S, .string G] 23)).alloc (.cells #[.string ⟨#[]⟩] 9)).alloc (.cells #[.int .i64 0] 28) = w0 at HD0 ⊢
        with_reducible refine (HR.out _).mono ?_
        rintro e w1 ⟨rfl, hb1⟩
        have HD1 := Lib.hid (HD0.out.below hb1)
        clear hb1 HD0
        dsimp only
        go_wp2_with fail
        with_reducible refine (HT.out _).mono ?_
        rintro e w2 ⟨rfl, hb2⟩
        have HD2 := Lib.hid (HD1.out.below hb2)
        clear hb2
        dsimp only
        go_wp2_with fail
        with_reducible refine (HE.out _).mono ?_
        rintro e w1002 ⟨rfl, rfl⟩
        dsimp only
        go_wp2_with fail
        with_reducible refine (must_yes 1 _).mono ?_
        rintro e w1002 ⟨rfl, rfl⟩
        dsimp only
        obtain ⟨⟨_, c0, c1, c2⟩, _⟩ := HD2.out
        go_wp2_with fail
        try rw [decide_eq_true hle2]
        with_reducible refine (must_yes 7 _).mono ?_
        rintro e w1002 ⟨rfl, rfl⟩
        dsimp only
        go_wp2_with fail
        with_reducible refine (HSA.out _).mono ?_
        rintro e w3 ⟨⟨D, hD, rfl⟩, hb3⟩
        have HD3 := Lib.hid (HD2.out.below hb3)
        clear hb3
        dsimp only at hD
        have HD' := Lib.hid hD
        clear hD
        dsimp only
        go_wp2_with fail
        with_reducible refine (trusted_no D f _ hfb).mono ?_
        rintro e w1003 ⟨hp, rfl⟩
        obtain rfl := hp
        dsimp only
        go_wp2
        refine leaves_cons (f := 49) (args := #[.pointer (some ⟨w.heap.size + 1, 0, none⟩), .pointer (some ⟨w.heap.size + 1 + 1, 0, none⟩)]) (by simp) (by simp [go_sem]) ?_
        refine (ocaught HD3.out 7 []).mono ?_
        rintro e u' w'' ⟨rfl, rfl, k0, k1, hb⟩
        simp [Leaves, settle, results, Tryz.results13, go_sem, k0, k1]
        exact ⟨by rw [← HSB.out]; exact ⟨⟨#[]⟩, rfl, rfl⟩, hb⟩
  · rw [if_pos hA] at hsb
    have HSB := Lib.hid hsb
    have hA' : (decide (BR ⟨ep0, S.data.toList, G.data.toList⟩) && (right st.data.toList && (decide (0 ≤ ep ∧ ep ≤ 7) && decide ((vs.length : Int) = ep + 1)))) = false := by
      rw [Bool.eq_false_iff]
      intro h
      simp only [Bool.and_eq_true, decide_eq_true_eq] at h
      exact hA ⟨h.1, h.2.1, h.2.2.1, by rw [hbl]; exact h.2.2.2⟩
    clear hsb hA hbl
    generalize decide (BR ⟨ep0, S.data.toList, G.data.toList⟩) = b0 at HR hA'
    generalize right st.data.toList = b1 at HT hA'
    by_cases he : 0 ≤ ep ∧ ep ≤ 7
    · rw [decide_eq_true he] at HE hA'
      have hw1 : IntKind.i64.wrap (ep + 1) = ep + 1 := by rw [IntKind.wrap_i64]; omega
      cases b0 with
      | false =>
        clear hA'
        go_enter_defers Tryz.func13, Tryz.ntmps13
        go_wp2_with fail
        have HD0 := Lib.hid (d3_new w ep0 S G A vs hr 23 9 28)
        generalize ((w.alloc (.cells #[.int .i64 ep0, .string S, .string G] 23)).alloc (.cells #[.string ⟨#[]⟩] 9)).alloc (.cells #[.int .i64 0] 28) = w0 at HD0 ⊢
        with_reducible refine (HR.out _).mono ?_
        rintro e w1 ⟨rfl, hb1⟩
        have HD1 := Lib.hid (HD0.out.below hb1)
        clear hb1 HD0
        dsimp only
        go_wp2_with fail
        with_reducible refine (must_no 1 _).mono ?_
        rintro e w1001 ⟨hp, rfl⟩
        obtain rfl := hp
        dsimp only
        go_wp2
        refine leaves_cons (f := 49) (args := #[.pointer (some ⟨w.heap.size + 1, 0, none⟩), .pointer (some ⟨w.heap.size + 1 + 1, 0, none⟩)]) (by simp) (by simp [go_sem]) ?_
        refine (ocaught HD1.out 1 []).mono ?_
        rintro e u' w'' ⟨rfl, rfl, k0, k1, hb⟩
        simp [Leaves, settle, results, Tryz.results13, go_sem, k0, k1]
        exact ⟨by rw [← HSB.out]; exact ⟨⟨#[]⟩, rfl, rfl⟩, hb⟩
      | true =>
        cases b1 with
        | false =>
          clear hA'
          go_enter_defers Tryz.func13, Tryz.ntmps13
          go_wp2_with fail
          have HD0 := Lib.hid (d3_new w ep0 S G A vs hr 23 9 28)
          generalize ((w.alloc (.cells #[.int .i64 ep0, .string S, .string G] 23)).alloc (.cells #[.string ⟨#[]⟩] 9)).alloc (.cells #[.int .i64 0] 28) = w0 at HD0 ⊢
          with_reducible refine (HR.out _).mono ?_
          rintro e w1 ⟨rfl, hb1⟩
          have HD1 := Lib.hid (HD0.out.below hb1)
          clear hb1 HD0
          dsimp only
          go_wp2_with fail
          with_reducible refine (HT.out _).mono ?_
          rintro e w2 ⟨rfl, hb2⟩
          have HD2 := Lib.hid (HD1.out.below hb2)
          clear hb2
          dsimp only
          go_wp2_with fail
          with_reducible refine (must_no 1 _).mono ?_
          rintro e w1002 ⟨hp, rfl⟩
          obtain rfl := hp
          dsimp only
          go_wp2
          refine leaves_cons (f := 49) (args := #[.pointer (some ⟨w.heap.size + 1, 0, none⟩), .pointer (some ⟨w.heap.size + 1 + 1, 0, none⟩)]) (by simp) (by simp [go_sem]) ?_
          refine (ocaught HD2.out 1 []).mono ?_
          rintro e u' w'' ⟨rfl, rfl, k0, k1, hb⟩
          simp [Leaves, settle, results, Tryz.results13, go_sem, k0, k1]
          exact ⟨by rw [← HSB.out]; exact ⟨⟨#[]⟩, rfl, rfl⟩, hb⟩
        | true =>
          have hlb : ((vs.length : Int) == ep + 1) = false := by
            have : decide ((vs.length : Int) = ep + 1) = false := hA'
            simpa using this
          clear hA'
          go_enter_defers Tryz.func13, Tryz.ntmps13
          go_wp2_with fail
          have HD0 := Lib.hid (d3_new w ep0 S G A vs hr 23 9 28)
          generalize ((w.alloc (.cells #[.int .i64 ep0, .string S, .string G] 23)).alloc (.cells #[.string ⟨#[]⟩] 9)).alloc (.cells #[.int .i64 0] 28) = w0 at HD0 ⊢
          with_reducible refine (HR.out _).mono ?_
          rintro e w1 ⟨rfl, hb1⟩
          have HD1 := Lib.hid (HD0.out.below hb1)
          clear hb1 HD0
          dsimp only
          go_wp2_with fail
          with_reducible refine (HT.out _).mono ?_
          rintro e w2 ⟨rfl, hb2⟩
          have HD2 := Lib.hid (HD1.out.below hb2)
          clear hb2
          dsimp only
          go_wp2_with fail
          with_reducible refine (HE.out _).mono ?_
          rintro e w1002 ⟨rfl, rfl⟩
          dsimp only
          go_wp2_with fail
          with_reducible refine (must_no 1 _).mono ?_
          rintro e w1002 ⟨hp, rfl⟩
          obtain rfl := hp
          dsimp only
          go_wp2
          refine leaves_cons (f := 49) (args := #[.pointer (some ⟨w.heap.size + 1, 0, none⟩), .pointer (some ⟨w.heap.size + 1 + 1, 0, none⟩)]) (by simp) (by simp [go_sem]) ?_
          refine (ocaught HD2.out 1 []).mono ?_
          rintro e u' w'' ⟨rfl, rfl, k0, k1, hb⟩
          simp [Leaves, settle, results, Tryz.results13, go_sem, k0, k1]
          exact ⟨by rw [← HSB.out]; exact ⟨⟨#[]⟩, rfl, rfl⟩, hb⟩
    · rw [decide_eq_false he] at HE
      clear hA' he
      cases b0 with
      | false =>
        go_enter_defers Tryz.func13, Tryz.ntmps13
        go_wp2_with fail
        have HD0 := Lib.hid (d3_new w ep0 S G A vs hr 23 9 28)
        generalize ((w.alloc (.cells #[.int .i64 ep0, .string S, .string G] 23)).alloc (.cells #[.string ⟨#[]⟩] 9)).alloc (.cells #[.int .i64 0] 28) = w0 at HD0 ⊢
        with_reducible refine (HR.out _).mono ?_
        rintro e w1 ⟨rfl, hb1⟩
        have HD1 := Lib.hid (HD0.out.below hb1)
        clear hb1 HD0
        dsimp only
        go_wp2_with fail
        with_reducible refine (must_no 1 _).mono ?_
        rintro e w1001 ⟨hp, rfl⟩
        obtain rfl := hp
        dsimp only
        go_wp2
        refine leaves_cons (f := 49) (args := #[.pointer (some ⟨w.heap.size + 1, 0, none⟩), .pointer (some ⟨w.heap.size + 1 + 1, 0, none⟩)]) (by simp) (by simp [go_sem]) ?_
        refine (ocaught HD1.out 1 []).mono ?_
        rintro e u' w'' ⟨rfl, rfl, k0, k1, hb⟩
        simp [Leaves, settle, results, Tryz.results13, go_sem, k0, k1]
        exact ⟨by rw [← HSB.out]; exact ⟨⟨#[]⟩, rfl, rfl⟩, hb⟩
      | true =>
        cases b1 with
        | false =>
          go_enter_defers Tryz.func13, Tryz.ntmps13
          go_wp2_with fail
          have HD0 := Lib.hid (d3_new w ep0 S G A vs hr 23 9 28)
          generalize ((w.alloc (.cells #[.int .i64 ep0, .string S, .string G] 23)).alloc (.cells #[.string ⟨#[]⟩] 9)).alloc (.cells #[.int .i64 0] 28) = w0 at HD0 ⊢
          with_reducible refine (HR.out _).mono ?_
          rintro e w1 ⟨rfl, hb1⟩
          have HD1 := Lib.hid (HD0.out.below hb1)
          clear hb1 HD0
          dsimp only
          go_wp2_with fail
          with_reducible refine (HT.out _).mono ?_
          rintro e w2 ⟨rfl, hb2⟩
          have HD2 := Lib.hid (HD1.out.below hb2)
          clear hb2
          dsimp only
          go_wp2_with fail
          with_reducible refine (must_no 1 _).mono ?_
          rintro e w1002 ⟨hp, rfl⟩
          obtain rfl := hp
          dsimp only
          go_wp2
          refine leaves_cons (f := 49) (args := #[.pointer (some ⟨w.heap.size + 1, 0, none⟩), .pointer (some ⟨w.heap.size + 1 + 1, 0, none⟩)]) (by simp) (by simp [go_sem]) ?_
          refine (ocaught HD2.out 1 []).mono ?_
          rintro e u' w'' ⟨rfl, rfl, k0, k1, hb⟩
          simp [Leaves, settle, results, Tryz.results13, go_sem, k0, k1]
          exact ⟨by rw [← HSB.out]; exact ⟨⟨#[]⟩, rfl, rfl⟩, hb⟩
        | true =>
          go_enter_defers Tryz.func13, Tryz.ntmps13
          go_wp2_with fail
          have HD0 := Lib.hid (d3_new w ep0 S G A vs hr 23 9 28)
          generalize ((w.alloc (.cells #[.int .i64 ep0, .string S, .string G] 23)).alloc (.cells #[.string ⟨#[]⟩] 9)).alloc (.cells #[.int .i64 0] 28) = w0 at HD0 ⊢
          with_reducible refine (HR.out _).mono ?_
          rintro e w1 ⟨rfl, hb1⟩
          have HD1 := Lib.hid (HD0.out.below hb1)
          clear hb1 HD0
          dsimp only
          go_wp2_with fail
          with_reducible refine (HT.out _).mono ?_
          rintro e w2 ⟨rfl, hb2⟩
          have HD2 := Lib.hid (HD1.out.below hb2)
          clear hb2
          dsimp only
          go_wp2_with fail
          with_reducible refine (HE.out _).mono ?_
          rintro e w1002 ⟨rfl, rfl⟩
          dsimp only
          go_wp2_with fail
          with_reducible refine (must_no 1 _).mono ?_
          rintro e w1002 ⟨hp, rfl⟩
          obtain rfl := hp
          dsimp only
          go_wp2
          refine leaves_cons (f := 49) (args := #[.pointer (some ⟨w.heap.size + 1, 0, none⟩), .pointer (some ⟨w.heap.size + 1 + 1, 0, none⟩)]) (by simp) (by simp [go_sem]) ?_
          refine (ocaught HD2.out 1 []).mono ?_
          rintro e u' w'' ⟨rfl, rfl, k0, k1, hb⟩
          simp [Leaves, settle, results, Tryz.results13, go_sem, k0, k1]
          exact ⟨by rw [← HSB.out]; exact ⟨⟨#[]⟩, rfl, rfl⟩, hb⟩
end Go.Proofs.YtjdignbmlfbdnaaGreat.Dta
