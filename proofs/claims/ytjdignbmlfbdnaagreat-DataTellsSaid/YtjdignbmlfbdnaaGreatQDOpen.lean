/-
  THE DOCUMENT's ANSWER (letterlockref9): Open. By an AI agent; no person has read it.
-/
import Derived.Test.YtjdignbmlfbdnaaGreatQDOpen1
import Derived.Test.YtjdignbmlfbdnaaGreatOrd
namespace Go.Proofs.YtjdignbmlfbdnaaGreat.Dta
open Go.RowKit Wire Term Draw Reg Clo

set_option linter.unusedSimpArgs false
set_option linter.unusedVariables false
/-- Open's own blob and the terms that came in. -/
def DD (w0 w : World) (ep : Int) (S G : ByteArray) (A : Option Addr) (vs : List ByteArray) : Prop := B3 w0.heap.size w ep S G ∧ SReads w A vs ∧ Below w0.heap.size w0 w
theorem DD.below {w0 w w1 : World} {ep : Int} {S G : ByteArray} {A : Option Addr} {vs : List ByteArray} (h : DD w0 w ep S G A vs) (hb : Below w.heap.size w w1) : DD w0 w1 ep S G A vs := ⟨h.1.below hb, h.2.1.below hb (Nat.le_refl _), Bel.call h.2.2 hb⟩
theorem dd_new (w : World) (ep : Int) (S G : ByteArray) (A : Option Addr) (vs : List ByteArray) (hr : SReads w A vs) (t : TypeId) : DD w (w.alloc (.cells #[.int .i64 ep, .string S, .string G] t)) ep S G A vs := by
  have h1 := (r3_new w ep S G t).1
  have hb : Below w.heap.size w (w.alloc (.cells #[.int .i64 ep, .string S, .string G] t)) := (Below.refl _ w).alloc (Nat.le_refl _) _
  exact ⟨h1, hr.below hb (Nat.le_refl _), hb⟩
set_option maxHeartbeats 8000000 in
set_option maxRecDepth 1000000 in
theorem ropen_any (ep0 : Int) (S G : ByteArray) (A : Option Addr) (cc : Nat) (vs : List ByteArray) (st : ByteArray) (ep : Int) (p : ByteArray) (w : World) (hS : S.size ≤ 100000) (hG : G.size ≤ 100000) (hst : st.size ≤ 100000) (hp : p.size ≤ 100000) (hn : vs.length ≤ 100000) (hv : ∀ v ∈ vs, v.size ≤ 100000) (hep : -9223372036854775808 ≤ ep ∧ ep ≤ 9223372036854775807) (hr : SReads w A vs) :
    Calls Tryz.prog 14 #[.agg #[.int .i64 ep0, .string S, .string G], .slice A vs.length cc, .string st, .int .i64 ep, .string p] w fun e w' => Sr (openB ⟨ep0, S.data.toList, G.data.toList⟩ (bl vs) st.data.toList ep p.data.toList) e ∧ Below w.heap.size w w' := by
  have HR := Lib.hid fun w => rright_any ep0 S G w (by omega) (by omega)
  have HT := Lib.hid fun w => Term.right_any st w (by omega)
  have hbl : (bl vs).length = vs.length := by simp [bl]
  generalize hsb : openB ⟨ep0, S.data.toList, G.data.toList⟩ (bl vs) st.data.toList ep p.data.toList = sb
  unfold openB at hsb
  by_cases hA : ArgO ⟨ep0, S.data.toList, G.data.toList⟩ (bl vs).length st.data.toList ep
  · rw [if_neg (fun h => h hA)] at hsb
    obtain ⟨hbr, hr1, he, hlen⟩ := hA
    rw [decide_eq_true hbr] at HR
    rw [hr1] at HT
    rw [hbl] at hlen
    have hw1 : IntKind.i64.wrap (ep + 1) = ep + 1 := by rw [IntKind.wrap_i64]; omega
    have hlb : ((vs.length : Int) == ep + 1) = true := by simpa using hlen
    have hlb2 : ((vs.length : Int) != ep + 1) = false := by simp [bne, hlb]
    have hk0 := hbr.1
    obtain ⟨he0, he7⟩ := he
    simp only at hk0 hsb
    obtain ⟨k, rfl⟩ : ∃ k : Nat, ep0 = (k : Int) := ⟨ep0.toNat, by omega⟩
    by_cases hle : ep < (k : Int)
    · rw [if_pos hle] at hsb
      have HSB := Lib.hid hsb
      have hle2 : ¬ ((k : Int) ≤ ep) := by omega
      clear hsb hbr hr1 hlen hk0
      go_enter Tryz.func14, Tryz.ntmps14
      go_wp2_with fail
      have HD0 := Lib.hid (dd_new w (k : Int) S G A vs hr 26)
      generalize w.alloc (.cells #[.int .i64 (k : Int), .string S, .string G] 26) = w0 at HD0 ⊢
      with_reducible refine (HR.out _).mono ?_
      rintro e w1 ⟨rfl, hb1⟩
      have HD1 := Lib.hid (HD0.out.below hb1)
      clear hb1 HD0
      dsimp only
      go_wp2_with fail
      with_reducible refine (HT.out _).mono ?_
      rintro e w2 ⟨rfl, hb2⟩
      have HD2 := Lib.hid (HD1.out.below hb2)
      clear hb2
      dsimp only
      obtain ⟨⟨_, c0, c1, c2⟩, _⟩ := HD2.out
      go_wp2
      go_ret2
      exact ⟨by rw [← HSB.out]; exact ⟨⟨#[]⟩, rfl, rfl⟩, HD2.out.2.2⟩
    · rw [if_neg hle] at hsb
      have hle2 : (k : Int) ≤ ep := by omega
      have hslr : right S.data.toList = true := (br_sl hbr).1
      have HSA : Hid (∀ (w : World), Calls Tryz.prog 47 #[.int .i64 (k : Int), .string S] w fun e w' => Sr (said (k : Int) S.data.toList) e ∧ Below w.heap.size w w') := Lib.hid fun w => rsaid_any (k : Int) S w (by omega) (by omega)
      obtain ⟨sd, f, hsd⟩ : ∃ sd f, said (k : Int) S.data.toList = (sd, f) := ⟨_, _, rfl⟩
      have hsr : f = 0 → right sd = true := fun h => by
        have := (two_ok (k := 112) (a := ofAtom ((k : Int)).toNat) (b := S.data.toList) (by rw [show (two 112 (ofAtom ((k : Int)).toNat) S.data.toList) = said (k : Int) S.data.toList from rfl, hsd]; exact h)).1
        rw [show (two 112 (ofAtom ((k : Int)).toNat) S.data.toList) = said (k : Int) S.data.toList from rfl, hsd] at this
        exact this
      rw [hsd] at hsb HSA
      simp only at hsb
      clear hsd
      by_cases hf : f = 0
      · subst hf
        have hsr := hsr rfl
        rw [if_neg (show ¬ (0 : Int) ≠ 0 from fun h => h rfl)] at hsb
        have hkl : k < vs.length := by omega
        have hki : (k : Int) < (vs.length : Int) := by omega
        obtain ⟨g, off, rfl, hg1, hgc⟩ := hr k hkl
        obtain ⟨V, hV⟩ : ∃ V, vs.getD k ByteArray.empty = V := ⟨_, rfl⟩
        have hVs : V.size ≤ 100000 := by
          rw [← hV, List.getD, List.getElem?_eq_getElem hkl]
          exact hv _ (List.getElem_mem hkl)
        have hVb : (bl vs).getD ((k : Int)).toNat [] = V.data.toList := by
          rw [show ((k : Int)).toNat = k by omega, ← hV]
          simp only [bl, List.getD, List.getElem?_map, List.getElem?_eq_getElem hkl]
          rfl
        rw [hVb] at hsb
        have HVC : Hid (∀ w' : World, SReads w' (some ⟨g, off, none⟩) vs → w'.cell? ⟨g, off + k, none⟩ = some (.string V)) := Lib.hid fun w' h => by rw [← hV]; exact sreads_cell h hkl
        have HVF : Hid (∀ (D : ByteArray) (w : World), D.data.toList = sd → Calls Tryz.prog 54 #[.string V, .string D, .string G] w fun e w' => e = .returned (.int .i64 (verify V.data.toList sd G.data.toList)) ∧ Below w.heap.size w w') := Lib.hid fun D w hD => by
          have := Term.verify_any V D G w (by omega) (by rw [Lib.size_eq, hD]; have := (right_len hsr).2; omega) (by omega)
          rw [hD] at this
          exact this
        generalize hvf : verify V.data.toList sd G.data.toList = vf at hsb HVF
        have HBK : Hid (∀ (w : World), Calls Tryz.prog 55 #[.string st, .int .i64 (ep - (k : Int))] w fun e w' => Sr (back st.data.toList (ep - (k : Int))) e ∧ Below w.heap.size w w') := Lib.hid fun w => rback_any st (ep - (k : Int)) w (by omega) (by omega)
        have hw2 : IntKind.i64.wrap (ep - (k : Int)) = ep - (k : Int) := by rw [IntKind.wrap_i64]; omega
        have hki2 : (k : Int) < ep + 1 := by omega
        clear hV hvf hVb hgc hbr hr1 hk0 hle hsr hg1 hlen hbl
        by_cases hvz : vf = 0
        · subst hvz
          rw [if_neg (show ¬ (0 : Int) ≠ 0 from fun h => h rfl)] at hsb
          obtain ⟨bk, f, hbk⟩ : ∃ bk f, back st.data.toList (ep - (k : Int)) = (bk, f) := ⟨_, _, rfl⟩
          have hbr : f = 0 → right bk = true := fun h => by
            have := (back_ok (st := st.data.toList) (k := ep - (k : Int)) (by rw [hbk]; exact h)).1
            rw [hbk] at this
            exact this
          rw [hbk] at hsb HBK
          simp only at hsb
          clear hbk
          by_cases hf : f = 0
          · subst hf
            have hbr := hbr rfl
            have hbl := (right_len hbr).2
            rw [if_neg (show ¬ (0 : Int) ≠ 0 from fun h => h rfl)] at hsb
            have HKY : Hid (∀ (B : ByteArray) (w : World), B.data.toList = bk → Calls Tryz.prog 20 #[.string B] w fun e w' => Sr (key bk) e ∧ Below w.heap.size w w') := Lib.hid fun B w hB => by
              have := rkey_any B w (by rw [Lib.size_eq, hB]; omega)
              rw [hB] at this
              exact this
            obtain ⟨kx, kf, hk⟩ : ∃ kx kf, key bk = (kx, kf) := ⟨_, _, rfl⟩
            rw [hk] at HKY
            by_cases hkf : kf = 0
            · subst hkf
              have hkr : right kx = true := by
                have := (key_ok (st := bk) (by rw [hk])).1
                rw [hk] at this
                exact this
              have hkl2 := (right_len hkr).2
              rw [unseal_tx hk] at hsb
              have HOP : Hid (∀ (K : ByteArray) (w : World), K.data.toList = kx → Calls Tryz.prog 56 #[.string K, .string S] w fun e w' => Sr (open' kx S.data.toList) e ∧ Below w.heap.size w w') := Lib.hid fun K w hK => by
                have := Term.open_any K S w (by rw [Lib.size_eq, hK]; omega) (by omega)
                rw [hK] at this
                exact this
              obtain ⟨ox, of, hox⟩ : ∃ ox of, open' kx S.data.toList = (ox, of) := ⟨_, _, rfl⟩
              have hor : ox = [] ∨ right ox = true := by
                by_cases h : of = 0
                · exact .inr (open_right' hkr hslr hox h)
                · have := open_none (k := kx) (c := S.data.toList) (by rw [hox]; exact h)
                  rw [hox] at this
                  exact .inl this
              rw [hox] at HOP hsb
              simp only at hsb
              have HTX : Hid (∀ (T : ByteArray) (w : World), T.data.toList = ox → Calls Tryz.prog 57 #[.string T] w fun e w' => (∃ X Y : ByteArray, (TxOK ox → X.data.toList = (words ((pts ox).getD 0 [])).1 ∧ Y.data.toList = (words ((pts ox).getD 1 [])).1) ∧ e = .returned (.tuple #[.string X, .string Y, .bool (decide (TxOK ox))])) ∧ Below w.heap.size w w') := Lib.hid fun T w hT => by
                have := texts_any T w (by rw [hT]; exact hor)
                rw [hT] at this
                exact this
              clear hk hkr hkl2 hox hor hslr hbr hbl
              by_cases htx : TxOK ox
              · rw [if_neg (fun h => h htx)] at hsb
                have HTX2 : Hid (∀ (T : ByteArray) (w : World), T.data.toList = ox → Calls Tryz.prog 57 #[.string T] w fun e w' => (∃ X Y : ByteArray, (X.data.toList = (words ((pts ox).getD 0 [])).1 ∧ Y.data.toList = (words ((pts ox).getD 1 [])).1) ∧ e = .returned (.tuple #[.string X, .string Y, .bool true])) ∧ Below w.heap.size w w') := Lib.hid fun T w hT => (HTX.out T w hT).mono fun e w' h => by
                  obtain ⟨⟨X, Y, h1, h2⟩, h3⟩ := h
                  rw [decide_eq_true htx] at h2
                  exact ⟨⟨X, Y, h1 htx, h2⟩, h3⟩
                clear HTX
                generalize (words ((pts ox).getD 0 [])).1 = xa at hsb HTX2
                generalize (words ((pts ox).getD 1 [])).1 = xb at hsb HTX2
                clear htx
                by_cases hpa : xa = p.data.toList
                · subst hpa
                  by_cases hbig : 64 < xb.length
                  · rw [if_pos (.inr hbig)] at hsb
                    have HSB := Lib.hid hsb
                    clear hsb
                    go_enter Tryz.func14, Tryz.ntmps14
                    go_wp2_with fail
                    have HD0 := Lib.hid (dd_new w (k : Int) S G (some ⟨g, off, none⟩) vs hr 26)
                    generalize w.alloc (.cells #[.int .i64 (k : Int), .string S, .string G] 26) = w0 at HD0 ⊢
                    with_reducible refine (HR.out _).mono ?_
                    rintro e w1 ⟨rfl, hb1⟩
                    have HD1 := Lib.hid (HD0.out.below hb1)
                    clear hb1 HD0
                    dsimp only
                    go_wp2_with fail
                    with_reducible refine (HT.out _).mono ?_
                    rintro e w2 ⟨rfl, hb2⟩
                    have HD2 := Lib.hid (HD1.out.below hb2)
                    clear hb2
                    dsimp only
                    obtain ⟨⟨_, c0, c1, c2⟩, _⟩ := HD2.out
                    go_wp2_with fail
                    with_reducible refine (HSA.out _).mono ?_
                    rintro e w3 ⟨⟨D, hD, rfl⟩, hb3⟩
                    have HD3 := Lib.hid (HD2.out.below hb3)
                    clear hb3
                    try dsimp only at hD
                    have HD' := Lib.hid hD
                    clear hD
                    dsimp only
                    clear c0 c1 c2
                    go_wp2_with fail
                    have hdr := HD3.out.below (Below.drewN' (Below.refl w3.heap.size w3) 1)
                    refine Ord.region_lit (S := fun w' => DD w w' (k : Int) S G (some ⟨g, off, none⟩) vs) (by kernel_rfl) (by kernel_rfl) hdr ?_
                    clear hdr
                    refine Ord.stepR (v := ?_) (by rfl) ?_ ?_
                    rotate_left
                    · intro w' hSw
                      obtain ⟨⟨_, c0, c1, c2⟩, hrd, _⟩ := hSw
                      have hk1 := HVC.out _ hrd
                      go_simp
                      try with_reducible rfl
                    try simp only [Act.put, List.setIfInBounds_toArray, List.set_cons_zero, List.set_cons_succ]
                    refine Ord.stepR (v := ?_) (by rfl) ?_ ?_
                    rotate_left
                    · intro w' hSw
                      obtain ⟨⟨_, c0, c1, c2⟩, hrd, _⟩ := hSw
                      have hk1 := HVC.out _ hrd
                      go_simp
                      try with_reducible rfl
                    try simp only [Act.put, List.setIfInBounds_toArray, List.set_cons_zero, List.set_cons_succ]
                    refine Ord.stepR (v := ?_) (by rfl) ?_ ?_
                    rotate_left
                    · intro w' hSw
                      obtain ⟨⟨_, c0, c1, c2⟩, hrd, _⟩ := hSw
                      have hk1 := HVC.out _ hrd
                      go_simp
                      try with_reducible rfl
                    try simp only [Act.put, List.setIfInBounds_toArray, List.set_cons_zero, List.set_cons_succ]
                    refine Ord.stepR (v := ?_) (by rfl) ?_ ?_
                    rotate_left
                    · intro w' hSw
                      obtain ⟨⟨_, c0, c1, c2⟩, hrd, _⟩ := hSw
                      have hk1 := HVC.out _ hrd
                      go_simp
                      try with_reducible rfl
                    try simp only [Act.put, List.setIfInBounds_toArray, List.set_cons_zero, List.set_cons_succ]
                    refine Ord.stepR (v := ?_) (by rfl) ?_ ?_
                    rotate_left
                    · intro w' hSw
                      obtain ⟨⟨_, c0, c1, c2⟩, hrd, _⟩ := hSw
                      have hk1 := HVC.out _ hrd
                      go_simp
                      try with_reducible rfl
                    try simp only [Act.put, List.setIfInBounds_toArray, List.set_cons_zero, List.set_cons_succ]
                    refine Ord.stepR (v := ?_) (by rfl) ?_ ?_
                    rotate_left
                    · intro w' hSw
                      obtain ⟨⟨_, c0, c1, c2⟩, hrd, _⟩ := hSw
                      have hk1 := HVC.out _ hrd
                      go_simp
                      try with_reducible rfl
                    try simp only [Act.put, List.setIfInBounds_toArray, List.set_cons_zero, List.set_cons_succ]
                    refine Ord.stepR (v := ?_) (by rfl) ?_ ?_
                    rotate_left
                    · intro w' hSw
                      obtain ⟨⟨_, c0, c1, c2⟩, hrd, _⟩ := hSw
                      have hk1 := HVC.out _ hrd
                      go_simp
                      try with_reducible rfl
                    try simp only [Act.put, List.setIfInBounds_toArray, List.set_cons_zero, List.set_cons_succ]
                    refine Ord.stepR (v := ?_) (by rfl) ?_ ?_
                    rotate_left
                    · intro w' hSw
                      obtain ⟨⟨_, c0, c1, c2⟩, hrd, _⟩ := hSw
                      have hk1 := HVC.out _ hrd
                      go_simp
                      try with_reducible rfl
                    try simp only [Act.put, List.setIfInBounds_toArray, List.set_cons_zero, List.set_cons_succ]
                    refine Ord.stepR (v := ?_) (by rfl) ?_ ?_
                    rotate_left
                    · intro w' hSw
                      obtain ⟨⟨_, c0, c1, c2⟩, hrd, _⟩ := hSw
                      have hk1 := HVC.out _ hrd
                      go_simp
                      try with_reducible rfl
                    try simp only [Act.put, List.setIfInBounds_toArray, List.set_cons_zero, List.set_cons_succ]
                    refine Ord.stepR (v := ?_) (by rfl) ?_ ?_
                    rotate_left
                    · intro w' hSw
                      obtain ⟨⟨_, c0, c1, c2⟩, hrd, _⟩ := hSw
                      have hk1 := HVC.out _ hrd
                      go_simp
                      try with_reducible rfl
                    try simp only [Act.put, List.setIfInBounds_toArray, List.set_cons_zero, List.set_cons_succ]
                    refine Ord.stepR (v := ?_) (by rfl) ?_ ?_
                    rotate_left
                    · intro w' hSw
                      obtain ⟨⟨_, c0, c1, c2⟩, hrd, _⟩ := hSw
                      have hk1 := HVC.out _ hrd
                      go_simp
                      try with_reducible rfl
                    try simp only [Act.put, List.setIfInBounds_toArray, List.set_cons_zero, List.set_cons_succ]
                    refine Ord.stepC (v := .int .i64 0) (by rfl) ?_ (fun w1 hS => (HVF.out D w1 HD'.out).mono fun e w2 h => ⟨h.1, hS.below h.2⟩) ?_
                    · intro w' hSw
                      go_simp
                      try with_reducible rfl
                    try simp only [Act.put, List.setIfInBounds_toArray, List.set_cons_zero, List.set_cons_succ]
                    refine Ord.stepR (v := ?_) (by rfl) ?_ ?_
                    rotate_left
                    · intro w' hSw
                      obtain ⟨⟨_, c0, c1, c2⟩, hrd, _⟩ := hSw
                      have hk1 := HVC.out _ hrd
                      go_simp
                      try with_reducible rfl
                    try simp only [Act.put, List.setIfInBounds_toArray, List.set_cons_zero, List.set_cons_succ]
                    refine Ord.stepR (v := ?_) (by rfl) ?_ ?_
                    rotate_left
                    · intro w' hSw
                      obtain ⟨⟨_, c0, c1, c2⟩, hrd, _⟩ := hSw
                      have hk1 := HVC.out _ hrd
                      go_simp
                      try with_reducible rfl
                    try simp only [Act.put, List.setIfInBounds_toArray, List.set_cons_zero, List.set_cons_succ]
                    refine Ord.stepD ?_
                    rintro w30 hS9
                    have HD30 := Lib.hid hS9
                    clear hS9
                    obtain ⟨⟨_, c0, c1, c2⟩, _⟩ := HD30.out
                    go_wp2_with fail
                    with_reducible refine (HBK.out _).mono ?_
                    rintro e w31 ⟨⟨B, hB, rfl⟩, hb31⟩
                    have HD31 := Lib.hid (HD30.out.below hb31)
                    clear hb31
                    try dsimp only at hB
                    have HB' := Lib.hid hB
                    clear hB
                    dsimp only
                    go_wp2_with fail
                    with_reducible refine (HKY.out B _ HB'.out).mono ?_
                    rintro e w32 ⟨⟨K, hK, rfl⟩, hb32⟩
                    have HD32 := Lib.hid (HD31.out.below hb32)
                    clear hb32
                    try dsimp only at hK
                    have HK' := Lib.hid hK
                    clear hK
                    dsimp only
                    obtain ⟨⟨_, c0, c1, c2⟩, _⟩ := HD32.out
                    go_wp2_with fail
                    with_reducible refine (HOP.out K _ HK'.out).mono ?_
                    rintro e w33 ⟨⟨T, hT, rfl⟩, hb33⟩
                    have HD33 := Lib.hid (HD32.out.below hb33)
                    clear hb33
                    try dsimp only at hT
                    have HT' := Lib.hid hT
                    clear hT
                    dsimp only
                    go_wp2_with fail
                    with_reducible refine (HTX2.out T _ HT'.out).mono ?_
                    rintro e w34 ⟨⟨X, Y, ⟨hX, hY⟩, rfl⟩, hb34⟩
                    have HD34 := Lib.hid (HD33.out.below hb34)
                    clear hb34
                    dsimp only
                    obtain rfl : X = p := str_eq hX
                    have hYb : (64 : Int) < (Y.size : Int) := by rw [Lib.size_eq, hY]; omega
                    clear hX hY hbig
                    go_wp2
                    go_ret2
                    exact ⟨by rw [← HSB.out]; exact ⟨⟨#[]⟩, rfl, rfl⟩, HD34.out.2.2⟩
                  · rw [if_neg (by rintro (h | h); exact h rfl; exact hbig h)] at hsb
                    have HSB := Lib.hid hsb
                    clear hsb
                    go_enter Tryz.func14, Tryz.ntmps14
                    go_wp2_with fail
                    have HD0 := Lib.hid (dd_new w (k : Int) S G (some ⟨g, off, none⟩) vs hr 26)
                    generalize w.alloc (.cells #[.int .i64 (k : Int), .string S, .string G] 26) = w0 at HD0 ⊢
                    with_reducible refine (HR.out _).mono ?_
                    rintro e w1 ⟨rfl, hb1⟩
                    have HD1 := Lib.hid (HD0.out.below hb1)
                    clear hb1 HD0
                    dsimp only
                    go_wp2_with fail
                    with_reducible refine (HT.out _).mono ?_
                    rintro e w2 ⟨rfl, hb2⟩
                    have HD2 := Lib.hid (HD1.out.below hb2)
                    clear hb2
                    dsimp only
                    obtain ⟨⟨_, c0, c1, c2⟩, _⟩ := HD2.out
                    go_wp2_with fail
                    with_reducible refine (HSA.out _).mono ?_
                    rintro e w3 ⟨⟨D, hD, rfl⟩, hb3⟩
                    have HD3 := Lib.hid (HD2.out.below hb3)
                    clear hb3
                    try dsimp only at hD
                    have HD' := Lib.hid hD
                    clear hD
                    dsimp only
                    clear c0 c1 c2
                    go_wp2_with fail
                    have hdr := HD3.out.below (Below.drewN' (Below.refl w3.heap.size w3) 1)
                    refine Ord.region_lit (S := fun w' => DD w w' (k : Int) S G (some ⟨g, off, none⟩) vs) (by kernel_rfl) (by kernel_rfl) hdr ?_
                    clear hdr
                    refine Ord.stepR (v := ?_) (by rfl) ?_ ?_
                    rotate_left
                    · intro w' hSw
                      obtain ⟨⟨_, c0, c1, c2⟩, hrd, _⟩ := hSw
                      have hk1 := HVC.out _ hrd
                      go_simp
                      try with_reducible rfl
                    try simp only [Act.put, List.setIfInBounds_toArray, List.set_cons_zero, List.set_cons_succ]
                    refine Ord.stepR (v := ?_) (by rfl) ?_ ?_
                    rotate_left
                    · intro w' hSw
                      obtain ⟨⟨_, c0, c1, c2⟩, hrd, _⟩ := hSw
                      have hk1 := HVC.out _ hrd
                      go_simp
                      try with_reducible rfl
                    try simp only [Act.put, List.setIfInBounds_toArray, List.set_cons_zero, List.set_cons_succ]
                    refine Ord.stepR (v := ?_) (by rfl) ?_ ?_
                    rotate_left
                    · intro w' hSw
                      obtain ⟨⟨_, c0, c1, c2⟩, hrd, _⟩ := hSw
                      have hk1 := HVC.out _ hrd
                      go_simp
                      try with_reducible rfl
                    try simp only [Act.put, List.setIfInBounds_toArray, List.set_cons_zero, List.set_cons_succ]
                    refine Ord.stepR (v := ?_) (by rfl) ?_ ?_
                    rotate_left
                    · intro w' hSw
                      obtain ⟨⟨_, c0, c1, c2⟩, hrd, _⟩ := hSw
                      have hk1 := HVC.out _ hrd
                      go_simp
                      try with_reducible rfl
                    try simp only [Act.put, List.setIfInBounds_toArray, List.set_cons_zero, List.set_cons_succ]
                    refine Ord.stepR (v := ?_) (by rfl) ?_ ?_
                    rotate_left
                    · intro w' hSw
                      obtain ⟨⟨_, c0, c1, c2⟩, hrd, _⟩ := hSw
                      have hk1 := HVC.out _ hrd
                      go_simp
                      try with_reducible rfl
                    try simp only [Act.put, List.setIfInBounds_toArray, List.set_cons_zero, List.set_cons_succ]
                    refine Ord.stepR (v := ?_) (by rfl) ?_ ?_
                    rotate_left
                    · intro w' hSw
                      obtain ⟨⟨_, c0, c1, c2⟩, hrd, _⟩ := hSw
                      have hk1 := HVC.out _ hrd
                      go_simp
                      try with_reducible rfl
                    try simp only [Act.put, List.setIfInBounds_toArray, List.set_cons_zero, List.set_cons_succ]
                    refine Ord.stepR (v := ?_) (by rfl) ?_ ?_
                    rotate_left
                    · intro w' hSw
                      obtain ⟨⟨_, c0, c1, c2⟩, hrd, _⟩ := hSw
                      have hk1 := HVC.out _ hrd
                      go_simp
                      try with_reducible rfl
                    try simp only [Act.put, List.setIfInBounds_toArray, List.set_cons_zero, List.set_cons_succ]
                    refine Ord.stepR (v := ?_) (by rfl) ?_ ?_
                    rotate_left
                    · intro w' hSw
                      obtain ⟨⟨_, c0, c1, c2⟩, hrd, _⟩ := hSw
                      have hk1 := HVC.out _ hrd
                      go_simp
                      try with_reducible rfl
                    try simp only [Act.put, List.setIfInBounds_toArray, List.set_cons_zero, List.set_cons_succ]
                    refine Ord.stepR (v := ?_) (by rfl) ?_ ?_
                    rotate_left
                    · intro w' hSw
                      obtain ⟨⟨_, c0, c1, c2⟩, hrd, _⟩ := hSw
                      have hk1 := HVC.out _ hrd
                      go_simp
                      try with_reducible rfl
                    try simp only [Act.put, List.setIfInBounds_toArray, List.set_cons_zero, List.set_cons_succ]
                    refine Ord.stepR (v := ?_) (by rfl) ?_ ?_
                    rotate_left
                    · intro w' hSw
                      obtain ⟨⟨_, c0, c1, c2⟩, hrd, _⟩ := hSw
                      have hk1 := HVC.out _ hrd
                      go_simp
                      try with_reducible rfl
                    try simp only [Act.put, List.setIfInBounds_toArray, List.set_cons_zero, List.set_cons_succ]
                    refine Ord.stepR (v := ?_) (by rfl) ?_ ?_
                    rotate_left
                    · intro w' hSw
                      obtain ⟨⟨_, c0, c1, c2⟩, hrd, _⟩ := hSw
                      have hk1 := HVC.out _ hrd
                      go_simp
                      try with_reducible rfl
                    try simp only [Act.put, List.setIfInBounds_toArray, List.set_cons_zero, List.set_cons_succ]
                    refine Ord.stepC (v := .int .i64 0) (by rfl) ?_ (fun w1 hS => (HVF.out D w1 HD'.out).mono fun e w2 h => ⟨h.1, hS.below h.2⟩) ?_
                    · intro w' hSw
                      go_simp
                      try with_reducible rfl
                    try simp only [Act.put, List.setIfInBounds_toArray, List.set_cons_zero, List.set_cons_succ]
                    refine Ord.stepR (v := ?_) (by rfl) ?_ ?_
                    rotate_left
                    · intro w' hSw
                      obtain ⟨⟨_, c0, c1, c2⟩, hrd, _⟩ := hSw
                      have hk1 := HVC.out _ hrd
                      go_simp
                      try with_reducible rfl
                    try simp only [Act.put, List.setIfInBounds_toArray, List.set_cons_zero, List.set_cons_succ]
                    refine Ord.stepR (v := ?_) (by rfl) ?_ ?_
                    rotate_left
                    · intro w' hSw
                      obtain ⟨⟨_, c0, c1, c2⟩, hrd, _⟩ := hSw
                      have hk1 := HVC.out _ hrd
                      go_simp
                      try with_reducible rfl
                    try simp only [Act.put, List.setIfInBounds_toArray, List.set_cons_zero, List.set_cons_succ]
                    refine Ord.stepD ?_
                    rintro w30 hS9
                    have HD30 := Lib.hid hS9
                    clear hS9
                    obtain ⟨⟨_, c0, c1, c2⟩, _⟩ := HD30.out
                    go_wp2_with fail
                    with_reducible refine (HBK.out _).mono ?_
                    rintro e w31 ⟨⟨B, hB, rfl⟩, hb31⟩
                    have HD31 := Lib.hid (HD30.out.below hb31)
                    clear hb31
                    try dsimp only at hB
                    have HB' := Lib.hid hB
                    clear hB
                    dsimp only
                    go_wp2_with fail
                    with_reducible refine (HKY.out B _ HB'.out).mono ?_
                    rintro e w32 ⟨⟨K, hK, rfl⟩, hb32⟩
                    have HD32 := Lib.hid (HD31.out.below hb32)
                    clear hb32
                    try dsimp only at hK
                    have HK' := Lib.hid hK
                    clear hK
                    dsimp only
                    obtain ⟨⟨_, c0, c1, c2⟩, _⟩ := HD32.out
                    go_wp2_with fail
                    with_reducible refine (HOP.out K _ HK'.out).mono ?_
                    rintro e w33 ⟨⟨T, hT, rfl⟩, hb33⟩
                    have HD33 := Lib.hid (HD32.out.below hb33)
                    clear hb33
                    try dsimp only at hT
                    have HT' := Lib.hid hT
                    clear hT
                    dsimp only
                    go_wp2_with fail
                    with_reducible refine (HTX2.out T _ HT'.out).mono ?_
                    rintro e w34 ⟨⟨X, Y, ⟨hX, hY⟩, rfl⟩, hb34⟩
                    have HD34 := Lib.hid (HD33.out.below hb34)
                    clear hb34
                    dsimp only
                    obtain rfl : X = p := str_eq hX
                    have hYb : ¬ (64 : Int) < (Y.size : Int) := by rw [Lib.size_eq, hY]; omega
                    have HY' := Lib.hid hY
                    clear hX hY hbig
                    go_wp2
                    go_ret2
                    exact ⟨by rw [← HSB.out]; exact ⟨Y, HY'.out, rfl⟩, HD34.out.2.2⟩
                · rw [if_pos (.inl hpa)] at hsb
                  have HSB := Lib.hid hsb
                  clear hsb
                  go_enter Tryz.func14, Tryz.ntmps14
                  go_wp2_with fail
                  have HD0 := Lib.hid (dd_new w (k : Int) S G (some ⟨g, off, none⟩) vs hr 26)
                  generalize w.alloc (.cells #[.int .i64 (k : Int), .string S, .string G] 26) = w0 at HD0 ⊢
                  with_reducible refine (HR.out _).mono ?_
                  rintro e w1 ⟨rfl, hb1⟩
                  have HD1 := Lib.hid (HD0.out.below hb1)
                  clear hb1 HD0
                  dsimp only
                  go_wp2_with fail
                  with_reducible refine (HT.out _).mono ?_
                  rintro e w2 ⟨rfl, hb2⟩
                  have HD2 := Lib.hid (HD1.out.below hb2)
                  clear hb2
                  dsimp only
                  obtain ⟨⟨_, c0, c1, c2⟩, _⟩ := HD2.out
                  go_wp2_with fail
                  with_reducible refine (HSA.out _).mono ?_
                  rintro e w3 ⟨⟨D, hD, rfl⟩, hb3⟩
                  have HD3 := Lib.hid (HD2.out.below hb3)
                  clear hb3
                  try dsimp only at hD
                  have HD' := Lib.hid hD
                  clear hD
                  dsimp only
                  clear c0 c1 c2
                  go_wp2_with fail
                  have hdr := HD3.out.below (Below.drewN' (Below.refl w3.heap.size w3) 1)
                  refine Ord.region_lit (S := fun w' => DD w w' (k : Int) S G (some ⟨g, off, none⟩) vs) (by kernel_rfl) (by kernel_rfl) hdr ?_
                  clear hdr
                  refine Ord.stepR (v := ?_) (by rfl) ?_ ?_
                  rotate_left
                  · intro w' hSw
                    obtain ⟨⟨_, c0, c1, c2⟩, hrd, _⟩ := hSw
                    have hk1 := HVC.out _ hrd
                    go_simp
                    try with_reducible rfl
                  try simp only [Act.put, List.setIfInBounds_toArray, List.set_cons_zero, List.set_cons_succ]
                  refine Ord.stepR (v := ?_) (by rfl) ?_ ?_
                  rotate_left
                  · intro w' hSw
                    obtain ⟨⟨_, c0, c1, c2⟩, hrd, _⟩ := hSw
                    have hk1 := HVC.out _ hrd
                    go_simp
                    try with_reducible rfl
                  try simp only [Act.put, List.setIfInBounds_toArray, List.set_cons_zero, List.set_cons_succ]
                  refine Ord.stepR (v := ?_) (by rfl) ?_ ?_
                  rotate_left
                  · intro w' hSw
                    obtain ⟨⟨_, c0, c1, c2⟩, hrd, _⟩ := hSw
                    have hk1 := HVC.out _ hrd
                    go_simp
                    try with_reducible rfl
                  try simp only [Act.put, List.setIfInBounds_toArray, List.set_cons_zero, List.set_cons_succ]
                  refine Ord.stepR (v := ?_) (by rfl) ?_ ?_
                  rotate_left
                  · intro w' hSw
                    obtain ⟨⟨_, c0, c1, c2⟩, hrd, _⟩ := hSw
                    have hk1 := HVC.out _ hrd
                    go_simp
                    try with_reducible rfl
                  try simp only [Act.put, List.setIfInBounds_toArray, List.set_cons_zero, List.set_cons_succ]
                  refine Ord.stepR (v := ?_) (by rfl) ?_ ?_
                  rotate_left
                  · intro w' hSw
                    obtain ⟨⟨_, c0, c1, c2⟩, hrd, _⟩ := hSw
                    have hk1 := HVC.out _ hrd
                    go_simp
                    try with_reducible rfl
                  try simp only [Act.put, List.setIfInBounds_toArray, List.set_cons_zero, List.set_cons_succ]
                  refine Ord.stepR (v := ?_) (by rfl) ?_ ?_
                  rotate_left
                  · intro w' hSw
                    obtain ⟨⟨_, c0, c1, c2⟩, hrd, _⟩ := hSw
                    have hk1 := HVC.out _ hrd
                    go_simp
                    try with_reducible rfl
                  try simp only [Act.put, List.setIfInBounds_toArray, List.set_cons_zero, List.set_cons_succ]
                  refine Ord.stepR (v := ?_) (by rfl) ?_ ?_
                  rotate_left
                  · intro w' hSw
                    obtain ⟨⟨_, c0, c1, c2⟩, hrd, _⟩ := hSw
                    have hk1 := HVC.out _ hrd
                    go_simp
                    try with_reducible rfl
                  try simp only [Act.put, List.setIfInBounds_toArray, List.set_cons_zero, List.set_cons_succ]
                  refine Ord.stepR (v := ?_) (by rfl) ?_ ?_
                  rotate_left
                  · intro w' hSw
                    obtain ⟨⟨_, c0, c1, c2⟩, hrd, _⟩ := hSw
                    have hk1 := HVC.out _ hrd
                    go_simp
                    try with_reducible rfl
                  try simp only [Act.put, List.setIfInBounds_toArray, List.set_cons_zero, List.set_cons_succ]
                  refine Ord.stepR (v := ?_) (by rfl) ?_ ?_
                  rotate_left
                  · intro w' hSw
                    obtain ⟨⟨_, c0, c1, c2⟩, hrd, _⟩ := hSw
                    have hk1 := HVC.out _ hrd
                    go_simp
                    try with_reducible rfl
                  try simp only [Act.put, List.setIfInBounds_toArray, List.set_cons_zero, List.set_cons_succ]
                  refine Ord.stepR (v := ?_) (by rfl) ?_ ?_
                  rotate_left
                  · intro w' hSw
                    obtain ⟨⟨_, c0, c1, c2⟩, hrd, _⟩ := hSw
                    have hk1 := HVC.out _ hrd
                    go_simp
                    try with_reducible rfl
                  try simp only [Act.put, List.setIfInBounds_toArray, List.set_cons_zero, List.set_cons_succ]
                  refine Ord.stepR (v := ?_) (by rfl) ?_ ?_
                  rotate_left
                  · intro w' hSw
                    obtain ⟨⟨_, c0, c1, c2⟩, hrd, _⟩ := hSw
                    have hk1 := HVC.out _ hrd
                    go_simp
                    try with_reducible rfl
                  try simp only [Act.put, List.setIfInBounds_toArray, List.set_cons_zero, List.set_cons_succ]
                  refine Ord.stepC (v := .int .i64 0) (by rfl) ?_ (fun w1 hS => (HVF.out D w1 HD'.out).mono fun e w2 h => ⟨h.1, hS.below h.2⟩) ?_
                  · intro w' hSw
                    go_simp
                    try with_reducible rfl
                  try simp only [Act.put, List.setIfInBounds_toArray, List.set_cons_zero, List.set_cons_succ]
                  refine Ord.stepR (v := ?_) (by rfl) ?_ ?_
                  rotate_left
                  · intro w' hSw
                    obtain ⟨⟨_, c0, c1, c2⟩, hrd, _⟩ := hSw
                    have hk1 := HVC.out _ hrd
                    go_simp
                    try with_reducible rfl
                  try simp only [Act.put, List.setIfInBounds_toArray, List.set_cons_zero, List.set_cons_succ]
                  refine Ord.stepR (v := ?_) (by rfl) ?_ ?_
                  rotate_left
                  · intro w' hSw
                    obtain ⟨⟨_, c0, c1, c2⟩, hrd, _⟩ := hSw
                    have hk1 := HVC.out _ hrd
                    go_simp
                    try with_reducible rfl
                  try simp only [Act.put, List.setIfInBounds_toArray, List.set_cons_zero, List.set_cons_succ]
                  refine Ord.stepD ?_
                  rintro w30 hS9
                  have HD30 := Lib.hid hS9
                  clear hS9
                  obtain ⟨⟨_, c0, c1, c2⟩, _⟩ := HD30.out
                  go_wp2_with fail
                  with_reducible refine (HBK.out _).mono ?_
                  rintro e w31 ⟨⟨B, hB, rfl⟩, hb31⟩
                  have HD31 := Lib.hid (HD30.out.below hb31)
                  clear hb31
                  try dsimp only at hB
                  have HB' := Lib.hid hB
                  clear hB
                  dsimp only
                  go_wp2_with fail
                  with_reducible refine (HKY.out B _ HB'.out).mono ?_
                  rintro e w32 ⟨⟨K, hK, rfl⟩, hb32⟩
                  have HD32 := Lib.hid (HD31.out.below hb32)
                  clear hb32
                  try dsimp only at hK
                  have HK' := Lib.hid hK
                  clear hK
                  dsimp only
                  obtain ⟨⟨_, c0, c1, c2⟩, _⟩ := HD32.out
                  go_wp2_with fail
                  with_reducible refine (HOP.out K _ HK'.out).mono ?_
                  rintro e w33 ⟨⟨T, hT, rfl⟩, hb33⟩
                  have HD33 := Lib.hid (HD32.out.below hb33)
                  clear hb33
                  try dsimp only at hT
                  have HT' := Lib.hid hT
                  clear hT
                  dsimp only
                  go_wp2_with fail
                  with_reducible refine (HTX2.out T _ HT'.out).mono ?_
                  rintro e w34 ⟨⟨X, Y, ⟨hX, hY⟩, rfl⟩, hb34⟩
                  have HD34 := Lib.hid (HD33.out.below hb34)
                  clear hb34
                  dsimp only
                  have hne : X ≠ p := fun h => hpa (by rw [← hX, h])
                  have hneb : (X.toList == p.toList) = false := str_ne hne
                  clear hX hY hne hpa
                  go_wp2
                  go_ret2
                  exact ⟨by rw [← HSB.out]; exact ⟨⟨#[]⟩, rfl, rfl⟩, HD34.out.2.2⟩
              · rw [if_pos htx] at hsb
                have HSB := Lib.hid hsb
                have HTX2 : Hid (∀ (T : ByteArray) (w : World), T.data.toList = ox → Calls Tryz.prog 57 #[.string T] w fun e w' => (∃ X Y : ByteArray, e = .returned (.tuple #[.string X, .string Y, .bool false])) ∧ Below w.heap.size w w') := Lib.hid fun T w hT => (HTX.out T w hT).mono fun e w' h => by
                  obtain ⟨⟨X, Y, h1, h2⟩, h3⟩ := h
                  rw [decide_eq_false htx] at h2
                  exact ⟨⟨X, Y, h2⟩, h3⟩
                clear HTX hsb htx
                go_enter Tryz.func14, Tryz.ntmps14
                go_wp2_with fail
                have HD0 := Lib.hid (dd_new w (k : Int) S G (some ⟨g, off, none⟩) vs hr 26)
                generalize w.alloc (.cells #[.int .i64 (k : Int), .string S, .string G] 26) = w0 at HD0 ⊢
                with_reducible refine (HR.out _).mono ?_
                rintro e w1 ⟨rfl, hb1⟩
                have HD1 := Lib.hid (HD0.out.below hb1)
                clear hb1 HD0
                dsimp only
                go_wp2_with fail
                with_reducible refine (HT.out _).mono ?_
                rintro e w2 ⟨rfl, hb2⟩
                have HD2 := Lib.hid (HD1.out.below hb2)
                clear hb2
                dsimp only
                obtain ⟨⟨_, c0, c1, c2⟩, _⟩ := HD2.out
                go_wp2_with fail
                with_reducible refine (HSA.out _).mono ?_
                rintro e w3 ⟨⟨D, hD, rfl⟩, hb3⟩
                have HD3 := Lib.hid (HD2.out.below hb3)
                clear hb3
                try dsimp only at hD
                have HD' := Lib.hid hD
                clear hD
                dsimp only
                clear c0 c1 c2
                go_wp2_with fail
                have hdr := HD3.out.below (Below.drewN' (Below.refl w3.heap.size w3) 1)
                refine Ord.region_lit (S := fun w' => DD w w' (k : Int) S G (some ⟨g, off, none⟩) vs) (by kernel_rfl) (by kernel_rfl) hdr ?_
                clear hdr
                refine Ord.stepR (v := ?_) (by rfl) ?_ ?_
                rotate_left
                · intro w' hSw
                  obtain ⟨⟨_, c0, c1, c2⟩, hrd, _⟩ := hSw
                  have hk1 := HVC.out _ hrd
                  go_simp
                  try with_reducible rfl
                try simp only [Act.put, List.setIfInBounds_toArray, List.set_cons_zero, List.set_cons_succ]
                refine Ord.stepR (v := ?_) (by rfl) ?_ ?_
                rotate_left
                · intro w' hSw
                  obtain ⟨⟨_, c0, c1, c2⟩, hrd, _⟩ := hSw
                  have hk1 := HVC.out _ hrd
                  go_simp
                  try with_reducible rfl
                try simp only [Act.put, List.setIfInBounds_toArray, List.set_cons_zero, List.set_cons_succ]
                refine Ord.stepR (v := ?_) (by rfl) ?_ ?_
                rotate_left
                · intro w' hSw
                  obtain ⟨⟨_, c0, c1, c2⟩, hrd, _⟩ := hSw
                  have hk1 := HVC.out _ hrd
                  go_simp
                  try with_reducible rfl
                try simp only [Act.put, List.setIfInBounds_toArray, List.set_cons_zero, List.set_cons_succ]
                refine Ord.stepR (v := ?_) (by rfl) ?_ ?_
                rotate_left
                · intro w' hSw
                  obtain ⟨⟨_, c0, c1, c2⟩, hrd, _⟩ := hSw
                  have hk1 := HVC.out _ hrd
                  go_simp
                  try with_reducible rfl
                try simp only [Act.put, List.setIfInBounds_toArray, List.set_cons_zero, List.set_cons_succ]
                refine Ord.stepR (v := ?_) (by rfl) ?_ ?_
                rotate_left
                · intro w' hSw
                  obtain ⟨⟨_, c0, c1, c2⟩, hrd, _⟩ := hSw
                  have hk1 := HVC.out _ hrd
                  go_simp
                  try with_reducible rfl
                try simp only [Act.put, List.setIfInBounds_toArray, List.set_cons_zero, List.set_cons_succ]
                refine Ord.stepR (v := ?_) (by rfl) ?_ ?_
                rotate_left
                · intro w' hSw
                  obtain ⟨⟨_, c0, c1, c2⟩, hrd, _⟩ := hSw
                  have hk1 := HVC.out _ hrd
                  go_simp
                  try with_reducible rfl
                try simp only [Act.put, List.setIfInBounds_toArray, List.set_cons_zero, List.set_cons_succ]
                refine Ord.stepR (v := ?_) (by rfl) ?_ ?_
                rotate_left
                · intro w' hSw
                  obtain ⟨⟨_, c0, c1, c2⟩, hrd, _⟩ := hSw
                  have hk1 := HVC.out _ hrd
                  go_simp
                  try with_reducible rfl
                try simp only [Act.put, List.setIfInBounds_toArray, List.set_cons_zero, List.set_cons_succ]
                refine Ord.stepR (v := ?_) (by rfl) ?_ ?_
                rotate_left
                · intro w' hSw
                  obtain ⟨⟨_, c0, c1, c2⟩, hrd, _⟩ := hSw
                  have hk1 := HVC.out _ hrd
                  go_simp
                  try with_reducible rfl
                try simp only [Act.put, List.setIfInBounds_toArray, List.set_cons_zero, List.set_cons_succ]
                refine Ord.stepR (v := ?_) (by rfl) ?_ ?_
                rotate_left
                · intro w' hSw
                  obtain ⟨⟨_, c0, c1, c2⟩, hrd, _⟩ := hSw
                  have hk1 := HVC.out _ hrd
                  go_simp
                  try with_reducible rfl
                try simp only [Act.put, List.setIfInBounds_toArray, List.set_cons_zero, List.set_cons_succ]
                refine Ord.stepR (v := ?_) (by rfl) ?_ ?_
                rotate_left
                · intro w' hSw
                  obtain ⟨⟨_, c0, c1, c2⟩, hrd, _⟩ := hSw
                  have hk1 := HVC.out _ hrd
                  go_simp
                  try with_reducible rfl
                try simp only [Act.put, List.setIfInBounds_toArray, List.set_cons_zero, List.set_cons_succ]
                refine Ord.stepR (v := ?_) (by rfl) ?_ ?_
                rotate_left
                · intro w' hSw
                  obtain ⟨⟨_, c0, c1, c2⟩, hrd, _⟩ := hSw
                  have hk1 := HVC.out _ hrd
                  go_simp
                  try with_reducible rfl
                try simp only [Act.put, List.setIfInBounds_toArray, List.set_cons_zero, List.set_cons_succ]
                refine Ord.stepC (v := .int .i64 0) (by rfl) ?_ (fun w1 hS => (HVF.out D w1 HD'.out).mono fun e w2 h => ⟨h.1, hS.below h.2⟩) ?_
                · intro w' hSw
                  go_simp
                  try with_reducible rfl
                try simp only [Act.put, List.setIfInBounds_toArray, List.set_cons_zero, List.set_cons_succ]
                refine Ord.stepR (v := ?_) (by rfl) ?_ ?_
                rotate_left
                · intro w' hSw
                  obtain ⟨⟨_, c0, c1, c2⟩, hrd, _⟩ := hSw
                  have hk1 := HVC.out _ hrd
                  go_simp
                  try with_reducible rfl
                try simp only [Act.put, List.setIfInBounds_toArray, List.set_cons_zero, List.set_cons_succ]
                refine Ord.stepR (v := ?_) (by rfl) ?_ ?_
                rotate_left
                · intro w' hSw
                  obtain ⟨⟨_, c0, c1, c2⟩, hrd, _⟩ := hSw
                  have hk1 := HVC.out _ hrd
                  go_simp
                  try with_reducible rfl
                try simp only [Act.put, List.setIfInBounds_toArray, List.set_cons_zero, List.set_cons_succ]
                refine Ord.stepD ?_
                rintro w30 hS9
                have HD30 := Lib.hid hS9
                clear hS9
                obtain ⟨⟨_, c0, c1, c2⟩, _⟩ := HD30.out
                go_wp2_with fail
                with_reducible refine (HBK.out _).mono ?_
                rintro e w31 ⟨⟨B, hB, rfl⟩, hb31⟩
                have HD31 := Lib.hid (HD30.out.below hb31)
                clear hb31
                try dsimp only at hB
                have HB' := Lib.hid hB
                clear hB
                dsimp only
                go_wp2_with fail
                with_reducible refine (HKY.out B _ HB'.out).mono ?_
                rintro e w32 ⟨⟨K, hK, rfl⟩, hb32⟩
                have HD32 := Lib.hid (HD31.out.below hb32)
                clear hb32
                try dsimp only at hK
                have HK' := Lib.hid hK
                clear hK
                dsimp only
                obtain ⟨⟨_, c0, c1, c2⟩, _⟩ := HD32.out
                go_wp2_with fail
                with_reducible refine (HOP.out K _ HK'.out).mono ?_
                rintro e w33 ⟨⟨T, hT, rfl⟩, hb33⟩
                have HD33 := Lib.hid (HD32.out.below hb33)
                clear hb33
                try dsimp only at hT
                have HT' := Lib.hid hT
                clear hT
                dsimp only
                go_wp2_with fail
                with_reducible refine (HTX2.out T _ HT'.out).mono ?_
                rintro e w34 ⟨⟨X, Y, rfl⟩, hb34⟩
                have HD34 := Lib.hid (HD33.out.below hb34)
                clear hb34
                dsimp only
                go_wp2
                go_ret2
                exact ⟨by rw [← HSB.out]; exact ⟨⟨#[]⟩, rfl, rfl⟩, HD34.out.2.2⟩
            · rw [unseal_nk (by rw [hk]; exact hkf)] at hsb
              have HSB := Lib.hid hsb
              have hfb : (kf == 0) = false := by simpa using hkf
              clear hsb hkf hk hbr hslr
              go_enter Tryz.func14, Tryz.ntmps14
              go_wp2_with fail
              have HD0 := Lib.hid (dd_new w (k : Int) S G (some ⟨g, off, none⟩) vs hr 26)
              generalize w.alloc (.cells #[.int .i64 (k : Int), .string S, .string G] 26) = w0 at HD0 ⊢
              with_reducible refine (HR.out _).mono ?_
              rintro e w1 ⟨rfl, hb1⟩
              have HD1 := Lib.hid (HD0.out.below hb1)
              clear hb1 HD0
              dsimp only
              go_wp2_with fail
              with_reducible refine (HT.out _).mono ?_
              rintro e w2 ⟨rfl, hb2⟩
              have HD2 := Lib.hid (HD1.out.below hb2)
              clear hb2
              dsimp only
              obtain ⟨⟨_, c0, c1, c2⟩, _⟩ := HD2.out
              go_wp2_with fail
              with_reducible refine (HSA.out _).mono ?_
              rintro e w3 ⟨⟨D, hD, rfl⟩, hb3⟩
              have HD3 := Lib.hid (HD2.out.below hb3)
              clear hb3
              try dsimp only at hD
              have HD' := Lib.hid hD
              clear hD
              dsimp only
              clear c0 c1 c2
              go_wp2_with fail
              have hdr := HD3.out.below (Below.drewN' (Below.refl w3.heap.size w3) 1)
              refine Ord.region_lit (S := fun w' => DD w w' (k : Int) S G (some ⟨g, off, none⟩) vs) (by kernel_rfl) (by kernel_rfl) hdr ?_
              clear hdr
              refine Ord.stepR (v := ?_) (by rfl) ?_ ?_
              rotate_left
              · intro w' hSw
                obtain ⟨⟨_, c0, c1, c2⟩, hrd, _⟩ := hSw
                have hk1 := HVC.out _ hrd
                go_simp
                try with_reducible rfl
              try simp only [Act.put, List.setIfInBounds_toArray, List.set_cons_zero, List.set_cons_succ]
              refine Ord.stepR (v := ?_) (by rfl) ?_ ?_
              rotate_left
              · intro w' hSw
                obtain ⟨⟨_, c0, c1, c2⟩, hrd, _⟩ := hSw
                have hk1 := HVC.out _ hrd
                go_simp
                try with_reducible rfl
              try simp only [Act.put, List.setIfInBounds_toArray, List.set_cons_zero, List.set_cons_succ]
              refine Ord.stepR (v := ?_) (by rfl) ?_ ?_
              rotate_left
              · intro w' hSw
                obtain ⟨⟨_, c0, c1, c2⟩, hrd, _⟩ := hSw
                have hk1 := HVC.out _ hrd
                go_simp
                try with_reducible rfl
              try simp only [Act.put, List.setIfInBounds_toArray, List.set_cons_zero, List.set_cons_succ]
              refine Ord.stepR (v := ?_) (by rfl) ?_ ?_
              rotate_left
              · intro w' hSw
                obtain ⟨⟨_, c0, c1, c2⟩, hrd, _⟩ := hSw
                have hk1 := HVC.out _ hrd
                go_simp
                try with_reducible rfl
              try simp only [Act.put, List.setIfInBounds_toArray, List.set_cons_zero, List.set_cons_succ]
              refine Ord.stepR (v := ?_) (by rfl) ?_ ?_
              rotate_left
              · intro w' hSw
                obtain ⟨⟨_, c0, c1, c2⟩, hrd, _⟩ := hSw
                have hk1 := HVC.out _ hrd
                go_simp
                try with_reducible rfl
              try simp only [Act.put, List.setIfInBounds_toArray, List.set_cons_zero, List.set_cons_succ]
              refine Ord.stepR (v := ?_) (by rfl) ?_ ?_
              rotate_left
              · intro w' hSw
                obtain ⟨⟨_, c0, c1, c2⟩, hrd, _⟩ := hSw
                have hk1 := HVC.out _ hrd
                go_simp
                try with_reducible rfl
              try simp only [Act.put, List.setIfInBounds_toArray, List.set_cons_zero, List.set_cons_succ]
              refine Ord.stepR (v := ?_) (by rfl) ?_ ?_
              rotate_left
              · intro w' hSw
                obtain ⟨⟨_, c0, c1, c2⟩, hrd, _⟩ := hSw
                have hk1 := HVC.out _ hrd
                go_simp
                try with_reducible rfl
              try simp only [Act.put, List.setIfInBounds_toArray, List.set_cons_zero, List.set_cons_succ]
              refine Ord.stepR (v := ?_) (by rfl) ?_ ?_
              rotate_left
              · intro w' hSw
                obtain ⟨⟨_, c0, c1, c2⟩, hrd, _⟩ := hSw
                have hk1 := HVC.out _ hrd
                go_simp
                try with_reducible rfl
              try simp only [Act.put, List.setIfInBounds_toArray, List.set_cons_zero, List.set_cons_succ]
              refine Ord.stepR (v := ?_) (by rfl) ?_ ?_
              rotate_left
              · intro w' hSw
                obtain ⟨⟨_, c0, c1, c2⟩, hrd, _⟩ := hSw
                have hk1 := HVC.out _ hrd
                go_simp
                try with_reducible rfl
              try simp only [Act.put, List.setIfInBounds_toArray, List.set_cons_zero, List.set_cons_succ]
              refine Ord.stepR (v := ?_) (by rfl) ?_ ?_
              rotate_left
              · intro w' hSw
                obtain ⟨⟨_, c0, c1, c2⟩, hrd, _⟩ := hSw
                have hk1 := HVC.out _ hrd
                go_simp
                try with_reducible rfl
              try simp only [Act.put, List.setIfInBounds_toArray, List.set_cons_zero, List.set_cons_succ]
              refine Ord.stepR (v := ?_) (by rfl) ?_ ?_
              rotate_left
              · intro w' hSw
                obtain ⟨⟨_, c0, c1, c2⟩, hrd, _⟩ := hSw
                have hk1 := HVC.out _ hrd
                go_simp
                try with_reducible rfl
              try simp only [Act.put, List.setIfInBounds_toArray, List.set_cons_zero, List.set_cons_succ]
              refine Ord.stepC (v := .int .i64 0) (by rfl) ?_ (fun w1 hS => (HVF.out D w1 HD'.out).mono fun e w2 h => ⟨h.1, hS.below h.2⟩) ?_
              · intro w' hSw
                go_simp
                try with_reducible rfl
              try simp only [Act.put, List.setIfInBounds_toArray, List.set_cons_zero, List.set_cons_succ]
              refine Ord.stepR (v := ?_) (by rfl) ?_ ?_
              rotate_left
              · intro w' hSw
                obtain ⟨⟨_, c0, c1, c2⟩, hrd, _⟩ := hSw
                have hk1 := HVC.out _ hrd
                go_simp
                try with_reducible rfl
              try simp only [Act.put, List.setIfInBounds_toArray, List.set_cons_zero, List.set_cons_succ]
              refine Ord.stepR (v := ?_) (by rfl) ?_ ?_
              rotate_left
              · intro w' hSw
                obtain ⟨⟨_, c0, c1, c2⟩, hrd, _⟩ := hSw
                have hk1 := HVC.out _ hrd
                go_simp
                try with_reducible rfl
              try simp only [Act.put, List.setIfInBounds_toArray, List.set_cons_zero, List.set_cons_succ]
              refine Ord.stepD ?_
              rintro w30 hS9
              have HD30 := Lib.hid hS9
              clear hS9
              obtain ⟨⟨_, c0, c1, c2⟩, _⟩ := HD30.out
              go_wp2_with fail
              with_reducible refine (HBK.out _).mono ?_
              rintro e w31 ⟨⟨B, hB, rfl⟩, hb31⟩
              have HD31 := Lib.hid (HD30.out.below hb31)
              clear hb31
              try dsimp only at hB
              have HB' := Lib.hid hB
              clear hB
              dsimp only
              go_wp2_with fail
              with_reducible refine (HKY.out B _ HB'.out).mono ?_
              rintro e w32 ⟨⟨K, hK, rfl⟩, hb32⟩
              have HD32 := Lib.hid (HD31.out.below hb32)
              clear hb32
              try dsimp only at hK
              have HK' := Lib.hid hK
              clear hK
              dsimp only
              go_wp2
              go_ret2
              exact ⟨by rw [← HSB.out]; exact ⟨⟨#[]⟩, rfl, rfl⟩, HD32.out.2.2⟩
          · rw [if_pos hf] at hsb
            have HSB := Lib.hid hsb
            have hfb : (f == 0) = false := by simpa using hf
            clear hsb hf hbr hslr
            go_enter Tryz.func14, Tryz.ntmps14
            go_wp2_with fail
            have HD0 := Lib.hid (dd_new w (k : Int) S G (some ⟨g, off, none⟩) vs hr 26)
            generalize w.alloc (.cells #[.int .i64 (k : Int), .string S, .string G] 26) = w0 at HD0 ⊢
            with_reducible refine (HR.out _).mono ?_
            rintro e w1 ⟨rfl, hb1⟩
            have HD1 := Lib.hid (HD0.out.below hb1)
            clear hb1 HD0
            dsimp only
            go_wp2_with fail
            with_reducible refine (HT.out _).mono ?_
            rintro e w2 ⟨rfl, hb2⟩
            have HD2 := Lib.hid (HD1.out.below hb2)
            clear hb2
            dsimp only
            obtain ⟨⟨_, c0, c1, c2⟩, _⟩ := HD2.out
            go_wp2_with fail
            with_reducible refine (HSA.out _).mono ?_
            rintro e w3 ⟨⟨D, hD, rfl⟩, hb3⟩
            have HD3 := Lib.hid (HD2.out.below hb3)
            clear hb3
            try dsimp only at hD
            have HD' := Lib.hid hD
            clear hD
            dsimp only
            clear c0 c1 c2
            go_wp2_with fail
            have hdr := HD3.out.below (Below.drewN' (Below.refl w3.heap.size w3) 1)
            refine Ord.region_lit (S := fun w' => DD w w' (k : Int) S G (some ⟨g, off, none⟩) vs) (by kernel_rfl) (by kernel_rfl) hdr ?_
            clear hdr
            refine Ord.stepR (v := ?_) (by rfl) ?_ ?_
            rotate_left
            · intro w' hSw
              obtain ⟨⟨_, c0, c1, c2⟩, hrd, _⟩ := hSw
              have hk1 := HVC.out _ hrd
              go_simp
              try with_reducible rfl
            try simp only [Act.put, List.setIfInBounds_toArray, List.set_cons_zero, List.set_cons_succ]
            refine Ord.stepR (v := ?_) (by rfl) ?_ ?_
            rotate_left
            · intro w' hSw
              obtain ⟨⟨_, c0, c1, c2⟩, hrd, _⟩ := hSw
              have hk1 := HVC.out _ hrd
              go_simp
              try with_reducible rfl
            try simp only [Act.put, List.setIfInBounds_toArray, List.set_cons_zero, List.set_cons_succ]
            refine Ord.stepR (v := ?_) (by rfl) ?_ ?_
            rotate_left
            · intro w' hSw
              obtain ⟨⟨_, c0, c1, c2⟩, hrd, _⟩ := hSw
              have hk1 := HVC.out _ hrd
              go_simp
              try with_reducible rfl
            try simp only [Act.put, List.setIfInBounds_toArray, List.set_cons_zero, List.set_cons_succ]
            refine Ord.stepR (v := ?_) (by rfl) ?_ ?_
            rotate_left
            · intro w' hSw
              obtain ⟨⟨_, c0, c1, c2⟩, hrd, _⟩ := hSw
              have hk1 := HVC.out _ hrd
              go_simp
              try with_reducible rfl
            try simp only [Act.put, List.setIfInBounds_toArray, List.set_cons_zero, List.set_cons_succ]
            refine Ord.stepR (v := ?_) (by rfl) ?_ ?_
            rotate_left
            · intro w' hSw
              obtain ⟨⟨_, c0, c1, c2⟩, hrd, _⟩ := hSw
              have hk1 := HVC.out _ hrd
              go_simp
              try with_reducible rfl
            try simp only [Act.put, List.setIfInBounds_toArray, List.set_cons_zero, List.set_cons_succ]
            refine Ord.stepR (v := ?_) (by rfl) ?_ ?_
            rotate_left
            · intro w' hSw
              obtain ⟨⟨_, c0, c1, c2⟩, hrd, _⟩ := hSw
              have hk1 := HVC.out _ hrd
              go_simp
              try with_reducible rfl
            try simp only [Act.put, List.setIfInBounds_toArray, List.set_cons_zero, List.set_cons_succ]
            refine Ord.stepR (v := ?_) (by rfl) ?_ ?_
            rotate_left
            · intro w' hSw
              obtain ⟨⟨_, c0, c1, c2⟩, hrd, _⟩ := hSw
              have hk1 := HVC.out _ hrd
              go_simp
              try with_reducible rfl
            try simp only [Act.put, List.setIfInBounds_toArray, List.set_cons_zero, List.set_cons_succ]
            refine Ord.stepR (v := ?_) (by rfl) ?_ ?_
            rotate_left
            · intro w' hSw
              obtain ⟨⟨_, c0, c1, c2⟩, hrd, _⟩ := hSw
              have hk1 := HVC.out _ hrd
              go_simp
              try with_reducible rfl
            try simp only [Act.put, List.setIfInBounds_toArray, List.set_cons_zero, List.set_cons_succ]
            refine Ord.stepR (v := ?_) (by rfl) ?_ ?_
            rotate_left
            · intro w' hSw
              obtain ⟨⟨_, c0, c1, c2⟩, hrd, _⟩ := hSw
              have hk1 := HVC.out _ hrd
              go_simp
              try with_reducible rfl
            try simp only [Act.put, List.setIfInBounds_toArray, List.set_cons_zero, List.set_cons_succ]
            refine Ord.stepR (v := ?_) (by rfl) ?_ ?_
            rotate_left
            · intro w' hSw
              obtain ⟨⟨_, c0, c1, c2⟩, hrd, _⟩ := hSw
              have hk1 := HVC.out _ hrd
              go_simp
              try with_reducible rfl
            try simp only [Act.put, List.setIfInBounds_toArray, List.set_cons_zero, List.set_cons_succ]
            refine Ord.stepR (v := ?_) (by rfl) ?_ ?_
            rotate_left
            · intro w' hSw
              obtain ⟨⟨_, c0, c1, c2⟩, hrd, _⟩ := hSw
              have hk1 := HVC.out _ hrd
              go_simp
              try with_reducible rfl
            try simp only [Act.put, List.setIfInBounds_toArray, List.set_cons_zero, List.set_cons_succ]
            refine Ord.stepC (v := .int .i64 0) (by rfl) ?_ (fun w1 hS => (HVF.out D w1 HD'.out).mono fun e w2 h => ⟨h.1, hS.below h.2⟩) ?_
            · intro w' hSw
              go_simp
              try with_reducible rfl
            try simp only [Act.put, List.setIfInBounds_toArray, List.set_cons_zero, List.set_cons_succ]
            refine Ord.stepR (v := ?_) (by rfl) ?_ ?_
            rotate_left
            · intro w' hSw
              obtain ⟨⟨_, c0, c1, c2⟩, hrd, _⟩ := hSw
              have hk1 := HVC.out _ hrd
              go_simp
              try with_reducible rfl
            try simp only [Act.put, List.setIfInBounds_toArray, List.set_cons_zero, List.set_cons_succ]
            refine Ord.stepR (v := ?_) (by rfl) ?_ ?_
            rotate_left
            · intro w' hSw
              obtain ⟨⟨_, c0, c1, c2⟩, hrd, _⟩ := hSw
              have hk1 := HVC.out _ hrd
              go_simp
              try with_reducible rfl
            try simp only [Act.put, List.setIfInBounds_toArray, List.set_cons_zero, List.set_cons_succ]
            refine Ord.stepD ?_
            rintro w30 hS9
            have HD30 := Lib.hid hS9
            clear hS9
            obtain ⟨⟨_, c0, c1, c2⟩, _⟩ := HD30.out
            go_wp2_with fail
            with_reducible refine (HBK.out _).mono ?_
            rintro e w31 ⟨⟨B, hB, rfl⟩, hb31⟩
            have HD31 := Lib.hid (HD30.out.below hb31)
            clear hb31
            try dsimp only at hB
            have HB' := Lib.hid hB
            clear hB
            dsimp only
            go_wp2
            go_ret2
            exact ⟨by rw [← HSB.out]; exact ⟨⟨#[]⟩, rfl, rfl⟩, HD31.out.2.2⟩
        · rw [if_pos hvz] at hsb
          have HSB := Lib.hid hsb
          have hfb : (vf == 0) = false := by simpa using hvz
          have hfb2 : (vf != 0) = true := by simpa using hvz
          clear hsb hvz hslr
          go_enter Tryz.func14, Tryz.ntmps14
          go_wp2_with fail
          have HD0 := Lib.hid (dd_new w (k : Int) S G (some ⟨g, off, none⟩) vs hr 26)
          generalize w.alloc (.cells #[.int .i64 (k : Int), .string S, .string G] 26) = w0 at HD0 ⊢
          with_reducible refine (HR.out _).mono ?_
          rintro e w1 ⟨rfl, hb1⟩
          have HD1 := Lib.hid (HD0.out.below hb1)
          clear hb1 HD0
          dsimp only
          go_wp2_with fail
          with_reducible refine (HT.out _).mono ?_
          rintro e w2 ⟨rfl, hb2⟩
          have HD2 := Lib.hid (HD1.out.below hb2)
          clear hb2
          dsimp only
          obtain ⟨⟨_, c0, c1, c2⟩, _⟩ := HD2.out
          go_wp2_with fail
          with_reducible refine (HSA.out _).mono ?_
          rintro e w3 ⟨⟨D, hD, rfl⟩, hb3⟩
          have HD3 := Lib.hid (HD2.out.below hb3)
          clear hb3
          try dsimp only at hD
          have HD' := Lib.hid hD
          clear hD
          dsimp only
          clear c0 c1 c2
          go_wp2_with fail
          have hdr := HD3.out.below (Below.drewN' (Below.refl w3.heap.size w3) 1)
          refine Ord.region_lit (S := fun w' => DD w w' (k : Int) S G (some ⟨g, off, none⟩) vs) (by kernel_rfl) (by kernel_rfl) hdr ?_
          clear hdr
          refine Ord.stepR (v := ?_) (by rfl) ?_ ?_
          rotate_left
          · intro w' hSw
            obtain ⟨⟨_, c0, c1, c2⟩, hrd, _⟩ := hSw
            have hk1 := HVC.out _ hrd
            go_simp
            try with_reducible rfl
          try simp only [Act.put, List.setIfInBounds_toArray, List.set_cons_zero, List.set_cons_succ]
          refine Ord.stepR (v := ?_) (by rfl) ?_ ?_
          rotate_left
          · intro w' hSw
            obtain ⟨⟨_, c0, c1, c2⟩, hrd, _⟩ := hSw
            have hk1 := HVC.out _ hrd
            go_simp
            try with_reducible rfl
          try simp only [Act.put, List.setIfInBounds_toArray, List.set_cons_zero, List.set_cons_succ]
          refine Ord.stepR (v := ?_) (by rfl) ?_ ?_
          rotate_left
          · intro w' hSw
            obtain ⟨⟨_, c0, c1, c2⟩, hrd, _⟩ := hSw
            have hk1 := HVC.out _ hrd
            go_simp
            try with_reducible rfl
          try simp only [Act.put, List.setIfInBounds_toArray, List.set_cons_zero, List.set_cons_succ]
          refine Ord.stepR (v := ?_) (by rfl) ?_ ?_
          rotate_left
          · intro w' hSw
            obtain ⟨⟨_, c0, c1, c2⟩, hrd, _⟩ := hSw
            have hk1 := HVC.out _ hrd
            go_simp
            try with_reducible rfl
          try simp only [Act.put, List.setIfInBounds_toArray, List.set_cons_zero, List.set_cons_succ]
          refine Ord.stepR (v := ?_) (by rfl) ?_ ?_
          rotate_left
          · intro w' hSw
            obtain ⟨⟨_, c0, c1, c2⟩, hrd, _⟩ := hSw
            have hk1 := HVC.out _ hrd
            go_simp
            try with_reducible rfl
          try simp only [Act.put, List.setIfInBounds_toArray, List.set_cons_zero, List.set_cons_succ]
          refine Ord.stepR (v := ?_) (by rfl) ?_ ?_
          rotate_left
          · intro w' hSw
            obtain ⟨⟨_, c0, c1, c2⟩, hrd, _⟩ := hSw
            have hk1 := HVC.out _ hrd
            go_simp
            try with_reducible rfl
          try simp only [Act.put, List.setIfInBounds_toArray, List.set_cons_zero, List.set_cons_succ]
          refine Ord.stepR (v := ?_) (by rfl) ?_ ?_
          rotate_left
          · intro w' hSw
            obtain ⟨⟨_, c0, c1, c2⟩, hrd, _⟩ := hSw
            have hk1 := HVC.out _ hrd
            go_simp
            try with_reducible rfl
          try simp only [Act.put, List.setIfInBounds_toArray, List.set_cons_zero, List.set_cons_succ]
          refine Ord.stepR (v := ?_) (by rfl) ?_ ?_
          rotate_left
          · intro w' hSw
            obtain ⟨⟨_, c0, c1, c2⟩, hrd, _⟩ := hSw
            have hk1 := HVC.out _ hrd
            go_simp
            try with_reducible rfl
          try simp only [Act.put, List.setIfInBounds_toArray, List.set_cons_zero, List.set_cons_succ]
          refine Ord.stepR (v := ?_) (by rfl) ?_ ?_
          rotate_left
          · intro w' hSw
            obtain ⟨⟨_, c0, c1, c2⟩, hrd, _⟩ := hSw
            have hk1 := HVC.out _ hrd
            go_simp
            try with_reducible rfl
          try simp only [Act.put, List.setIfInBounds_toArray, List.set_cons_zero, List.set_cons_succ]
          refine Ord.stepR (v := ?_) (by rfl) ?_ ?_
          rotate_left
          · intro w' hSw
            obtain ⟨⟨_, c0, c1, c2⟩, hrd, _⟩ := hSw
            have hk1 := HVC.out _ hrd
            go_simp
            try with_reducible rfl
          try simp only [Act.put, List.setIfInBounds_toArray, List.set_cons_zero, List.set_cons_succ]
          refine Ord.stepR (v := ?_) (by rfl) ?_ ?_
          rotate_left
          · intro w' hSw
            obtain ⟨⟨_, c0, c1, c2⟩, hrd, _⟩ := hSw
            have hk1 := HVC.out _ hrd
            go_simp
            try with_reducible rfl
          try simp only [Act.put, List.setIfInBounds_toArray, List.set_cons_zero, List.set_cons_succ]
          refine Ord.stepC (v := .int .i64 vf) (by rfl) ?_ (fun w1 hS => (HVF.out D w1 HD'.out).mono fun e w2 h => ⟨h.1, hS.below h.2⟩) ?_
          · intro w' hSw
            go_simp
            try with_reducible rfl
          try simp only [Act.put, List.setIfInBounds_toArray, List.set_cons_zero, List.set_cons_succ]
          refine Ord.stepR (v := ?_) (by rfl) ?_ ?_
          rotate_left
          · intro w' hSw
            obtain ⟨⟨_, c0, c1, c2⟩, hrd, _⟩ := hSw
            have hk1 := HVC.out _ hrd
            go_simp
            try with_reducible rfl
          try simp only [Act.put, List.setIfInBounds_toArray, List.set_cons_zero, List.set_cons_succ]
          refine Ord.stepR (v := ?_) (by rfl) ?_ ?_
          rotate_left
          · intro w' hSw
            obtain ⟨⟨_, c0, c1, c2⟩, hrd, _⟩ := hSw
            have hk1 := HVC.out _ hrd
            go_simp
            try with_reducible rfl
          try simp only [Act.put, List.setIfInBounds_toArray, List.set_cons_zero, List.set_cons_succ]
          refine Ord.stepD ?_
          rintro w30 hS9
          have HD30 := Lib.hid hS9
          clear hS9
          obtain ⟨⟨_, c0, c1, c2⟩, _⟩ := HD30.out
          go_wp2
          go_ret2
          exact ⟨by rw [← HSB.out]; exact ⟨⟨#[]⟩, rfl, rfl⟩, HD30.out.2.2⟩
      · rw [if_pos hf] at hsb
        have HSB := Lib.hid hsb
        have hfb : (f == 0) = false := by simpa using hf
        have hfb2 : (f != 0) = true := by simpa using hf
        clear hsb hf hsr hbr hr1 hlen hk0 hle hslr
        go_enter Tryz.func14, Tryz.ntmps14
        go_wp2_with fail
        have HD0 := Lib.hid (dd_new w (k : Int) S G A vs hr 26)
        generalize w.alloc (.cells #[.int .i64 (k : Int), .string S, .string G] 26) = w0 at HD0 ⊢
        with_reducible refine (HR.out _).mono ?_
        rintro e w1 ⟨rfl, hb1⟩
        have HD1 := Lib.hid (HD0.out.below hb1)
        clear hb1 HD0
        dsimp only
        go_wp2_with fail
        with_reducible refine (HT.out _).mono ?_
        rintro e w2 ⟨rfl, hb2⟩
        have HD2 := Lib.hid (HD1.out.below hb2)
        clear hb2
        dsimp only
        obtain ⟨⟨_, c0, c1, c2⟩, _⟩ := HD2.out
        go_wp2_with fail
        with_reducible refine (HSA.out _).mono ?_
        rintro e w3 ⟨⟨D, hD, rfl⟩, hb3⟩
        have HD3 := Lib.hid (HD2.out.below hb3)
        clear hb3
        try dsimp only at hD
        have HD' := Lib.hid hD
        clear hD
        dsimp only
        clear c0 c1 c2
        go_wp2_with fail
        have hdr := HD3.out.below (Below.drewN' (Below.refl w3.heap.size w3) 1)
        refine Ord.region_lit (S := fun w' => DD w w' (k : Int) S G A vs) (by kernel_rfl) (by kernel_rfl) hdr ?_
        clear hdr
        refine Ord.stepR (v := ?_) (by rfl) ?_ ?_
        rotate_left
        · intro w' hSw
          go_simp
          try with_reducible rfl
        try simp only [Act.put, List.setIfInBounds_toArray, List.set_cons_zero, List.set_cons_succ]
        refine Ord.stepR (v := ?_) (by rfl) ?_ ?_
        rotate_left
        · intro w' hSw
          go_simp
          try with_reducible rfl
        try simp only [Act.put, List.setIfInBounds_toArray, List.set_cons_zero, List.set_cons_succ]
        refine Ord.stepR (v := ?_) (by rfl) ?_ ?_
        rotate_left
        · intro w' hSw
          go_simp
          try with_reducible rfl
        try simp only [Act.put, List.setIfInBounds_toArray, List.set_cons_zero, List.set_cons_succ]
        refine Ord.stepS (by rfl) ?_
        try simp only [Act.put, List.setIfInBounds_toArray, List.set_cons_zero, List.set_cons_succ]
        refine Ord.stepS (by rfl) ?_
        try simp only [Act.put, List.setIfInBounds_toArray, List.set_cons_zero, List.set_cons_succ]
        refine Ord.stepS (by rfl) ?_
        try simp only [Act.put, List.setIfInBounds_toArray, List.set_cons_zero, List.set_cons_succ]
        refine Ord.stepS (by rfl) ?_
        try simp only [Act.put, List.setIfInBounds_toArray, List.set_cons_zero, List.set_cons_succ]
        refine Ord.stepS (by rfl) ?_
        try simp only [Act.put, List.setIfInBounds_toArray, List.set_cons_zero, List.set_cons_succ]
        refine Ord.stepS (by rfl) ?_
        try simp only [Act.put, List.setIfInBounds_toArray, List.set_cons_zero, List.set_cons_succ]
        refine Ord.stepS (by rfl) ?_
        try simp only [Act.put, List.setIfInBounds_toArray, List.set_cons_zero, List.set_cons_succ]
        refine Ord.stepS (by rfl) ?_
        try simp only [Act.put, List.setIfInBounds_toArray, List.set_cons_zero, List.set_cons_succ]
        refine Ord.stepS (by rfl) ?_
        try simp only [Act.put, List.setIfInBounds_toArray, List.set_cons_zero, List.set_cons_succ]
        refine Ord.stepS (by rfl) ?_
        try simp only [Act.put, List.setIfInBounds_toArray, List.set_cons_zero, List.set_cons_succ]
        refine Ord.stepR (v := ?_) (by rfl) ?_ ?_
        rotate_left
        · intro w' hSw
          go_simp
          try with_reducible rfl
        try simp only [Act.put, List.setIfInBounds_toArray, List.set_cons_zero, List.set_cons_succ]
        refine Ord.stepD ?_
        rintro w30 hS9
        have HD30 := Lib.hid hS9
        clear hS9
        go_wp2
        go_ret2
        exact ⟨by rw [← HSB.out]; exact ⟨⟨#[]⟩, rfl, rfl⟩, HD30.out.2.2⟩
  · rw [if_pos hA] at hsb
    have HSB := Lib.hid hsb
    have hw1 : IntKind.i64.wrap (ep + 1) = IntKind.i64.wrap (ep + 1) := rfl
    have hAn : ¬ (BR ⟨ep0, S.data.toList, G.data.toList⟩ ∧ right st.data.toList = true ∧ (0 ≤ ep ∧ ep ≤ 7) ∧ (vs.length : Int) = ep + 1) := by rw [← hbl]; exact hA
    clear hsb hA hbl hw1
    by_cases h1 : BR ⟨ep0, S.data.toList, G.data.toList⟩
    · rw [decide_eq_true h1] at HR
      cases h2 : right st.data.toList with
      | false =>
        rw [h2] at HT
        clear h1 h2 hAn
        go_enter Tryz.func14, Tryz.ntmps14
        go_wp2_with fail
        have HD0 := Lib.hid (dd_new w ep0 S G A vs hr 26)
        generalize w.alloc (.cells #[.int .i64 ep0, .string S, .string G] 26) = w0 at HD0 ⊢
        with_reducible refine (HR.out _).mono ?_
        rintro e w1 ⟨rfl, hb1⟩
        have HD1 := Lib.hid (HD0.out.below hb1)
        clear hb1 HD0
        dsimp only
        go_wp2_with fail
        with_reducible refine (HT.out _).mono ?_
        rintro e w2 ⟨rfl, hb2⟩
        have HD2 := Lib.hid (HD1.out.below hb2)
        clear hb2
        dsimp only
        go_wp2
        go_ret2
        exact ⟨by rw [← HSB.out]; exact ⟨⟨#[]⟩, rfl, rfl⟩, HD2.out.2.2⟩
      | true =>
        rw [h2] at HT
        by_cases h3 : 0 ≤ ep
        · by_cases h4 : ep ≤ 7
          · have hw1 : IntKind.i64.wrap (ep + 1) = ep + 1 := by rw [IntKind.wrap_i64]; omega
            have hlb : ((vs.length : Int) == ep + 1) = false := by rw [beq_eq_false_iff_ne]; exact fun h => hAn ⟨h1, h2, ⟨h3, h4⟩, h⟩
            have hlb2 : ((vs.length : Int) != ep + 1) = true := by simp [bne, hlb]
            clear h1 h2 hAn
            go_enter Tryz.func14, Tryz.ntmps14
            go_wp2_with fail
            have HD0 := Lib.hid (dd_new w ep0 S G A vs hr 26)
            generalize w.alloc (.cells #[.int .i64 ep0, .string S, .string G] 26) = w0 at HD0 ⊢
            with_reducible refine (HR.out _).mono ?_
            rintro e w1 ⟨rfl, hb1⟩
            have HD1 := Lib.hid (HD0.out.below hb1)
            clear hb1 HD0
            dsimp only
            go_wp2_with fail
            with_reducible refine (HT.out _).mono ?_
            rintro e w2 ⟨rfl, hb2⟩
            have HD2 := Lib.hid (HD1.out.below hb2)
            clear hb2
            dsimp only
            go_wp2
            go_ret2
            exact ⟨by rw [← HSB.out]; exact ⟨⟨#[]⟩, rfl, rfl⟩, HD2.out.2.2⟩
          · have h4' : 7 < ep := by omega
            clear h1 h2 hAn h4
            go_enter Tryz.func14, Tryz.ntmps14
            go_wp2_with fail
            have HD0 := Lib.hid (dd_new w ep0 S G A vs hr 26)
            generalize w.alloc (.cells #[.int .i64 ep0, .string S, .string G] 26) = w0 at HD0 ⊢
            with_reducible refine (HR.out _).mono ?_
            rintro e w1 ⟨rfl, hb1⟩
            have HD1 := Lib.hid (HD0.out.below hb1)
            clear hb1 HD0
            dsimp only
            go_wp2_with fail
            with_reducible refine (HT.out _).mono ?_
            rintro e w2 ⟨rfl, hb2⟩
            have HD2 := Lib.hid (HD1.out.below hb2)
            clear hb2
            dsimp only
            go_wp2
            go_ret2
            exact ⟨by rw [← HSB.out]; exact ⟨⟨#[]⟩, rfl, rfl⟩, HD2.out.2.2⟩
        · have h3' : ep < 0 := by omega
          clear h1 h2 hAn h3
          go_enter Tryz.func14, Tryz.ntmps14
          go_wp2_with fail
          have HD0 := Lib.hid (dd_new w ep0 S G A vs hr 26)
          generalize w.alloc (.cells #[.int .i64 ep0, .string S, .string G] 26) = w0 at HD0 ⊢
          with_reducible refine (HR.out _).mono ?_
          rintro e w1 ⟨rfl, hb1⟩
          have HD1 := Lib.hid (HD0.out.below hb1)
          clear hb1 HD0
          dsimp only
          go_wp2_with fail
          with_reducible refine (HT.out _).mono ?_
          rintro e w2 ⟨rfl, hb2⟩
          have HD2 := Lib.hid (HD1.out.below hb2)
          clear hb2
          dsimp only
          go_wp2
          go_ret2
          exact ⟨by rw [← HSB.out]; exact ⟨⟨#[]⟩, rfl, rfl⟩, HD2.out.2.2⟩
    · rw [decide_eq_false h1] at HR
      clear h1 hAn
      go_enter Tryz.func14, Tryz.ntmps14
      go_wp2_with fail
      have HD0 := Lib.hid (dd_new w ep0 S G A vs hr 26)
      generalize w.alloc (.cells #[.int .i64 ep0, .string S, .string G] 26) = w0 at HD0 ⊢
      with_reducible refine (HR.out _).mono ?_
      rintro e w1 ⟨rfl, hb1⟩
      have HD1 := Lib.hid (HD0.out.below hb1)
      clear hb1 HD0
      dsimp only
      go_wp2
      go_ret2
      exact ⟨by rw [← HSB.out]; exact ⟨⟨#[]⟩, rfl, rfl⟩, HD1.out.2.2⟩
end Go.Proofs.YtjdignbmlfbdnaaGreat.Dta
