/-
  THE DOCUMENT's ANSWER (letterlockref9): signed, Build. By an AI agent; no person has read it.
-/
import Derived.Test.YtjdignbmlfbdnaaGreatQDTake
import Derived.Test.YtjdignbmlfbdnaaGreatQBuild
import Derived.Test.YtjdignbmlfbdnaaGreatZ5
import Derived.Test.YtjdignbmlfbdnaaGreatZ9
import Derived.Test.YtjdignbmlfbdnaaGreatZ7
namespace Go.Proofs.YtjdignbmlfbdnaaGreat.Dta
open Go.RowKit Wire Term Draw Reg Clo

set_option linter.unusedSimpArgs false
set_option linter.unusedVariables false
set_option maxHeartbeats 2000000 in
set_option maxRecDepth 1000000 in
theorem rsaid_any (n : Int) (s : ByteArray) (w : World) (hn : 0 ≤ n ∧ n ≤ 7) (hs : s.size ≤ 140737488355328) :
    Calls Tryz.prog 47 #[.int .i64 n, .string s] w fun e w' => Sr (said n s.data.toList) e ∧ Below w.heap.size w w' := by
  obtain ⟨k, rfl⟩ : ∃ k : Nat, n = (k : Int) := ⟨n.toNat, by omega⟩
  have hk : k ≤ 7 := by omega
  have cw : IntKind.u64.wrap (k : Int) = (k : Int) := by rw [IntKind.wrap_u64]; omega
  have HP : Hid (∀ (A : ByteArray) (w : World), A.data.toList = ofAtom k → Calls Tryz.prog 45 #[.string A, .string s] w fun e w' => Sr (said (k : Int) s.data.toList) e ∧ Below w.heap.size w w') := by
    intro A w hA
    have := ofPair_any A s w (by rw [Lib.size_eq, hA]; have := (put_le (n := k) (by omega)).2; unfold ofAtom; rw [List.length_cons]; omega) hs
    rw [hA] at this
    exact this
  have HA := Lib.hid fun w => ofAtom_any k w (by omega)
  obtain ⟨x, f, hx⟩ : ∃ x f, said (k : Int) s.data.toList = (x, f) := ⟨_, _, rfl⟩
  rw [hx] at HP ⊢
  clear hx hn hk
  go_enter Tryz.func47, Tryz.ntmps47
  go_wp2_with fail
  with_reducible refine (HA.out _).mono ?_
  rintro e w1 ⟨⟨A, hA, rfl⟩, hb1⟩
  have HAA := Lib.hid hA
  have HB := Lib.hid hb1
  clear hA hb1
  dsimp only
  go_wp2_with fail
  with_reducible refine (HP.out A _ HAA.out).mono ?_
  rintro e w2 ⟨⟨T, hT, rfl⟩, hb2⟩
  have HT := Lib.hid hT
  have HB2 := Lib.hid (Bel.call HB.out hb2)
  clear hT hb2
  dsimp only
  go_wp2
  go_ret2
  exact ⟨⟨T, HT.out, rfl⟩, HB2.out⟩
set_option maxHeartbeats 8000000 in
set_option maxRecDepth 1000000 in
theorem rbuild_any (st : ByteArray) (ep : Int) (sn p c : ByteArray) (w : World) (hs1 : st.size ≤ 100000) (hs2 : sn.size ≤ 100000) (hs3 : p.size ≤ 100000) (hs4 : c.size ≤ 100000) :
    Calls Tryz.prog 12 #[.string st, .int .i64 ep, .string sn, .string p, .string c] w fun e w' => Bs (build st.data.toList ep sn.data.toList p.data.toList c.data.toList) e ∧ Below w.heap.size w w' := by
  have HR1 := Lib.hid fun w => Term.right_any st w (by omega)
  have HR2 := Lib.hid fun w => Term.right_any sn w (by omega)
  have HPA : Hid (∀ w, Calls Tryz.prog 42 #[.string p] w fun e w' => (∃ (A B : ByteArray) (g : Int), e = .returned (.tuple #[.string A, .string B, .int .i64 g]) ∧ (g = 0 ↔ isPath p.data.toList = true)) ∧ Below w.heap.size w w') := Lib.hid fun w => (refsplit_any p w (by omega)).mono fun e w' h => by
    obtain ⟨⟨h0, rfl⟩ | ⟨a, b, h0, rfl⟩, hb⟩ := h
    · exact ⟨⟨_, _, _, rfl, by unfold isPath; rw [h0]; exact ⟨fun h => absurd h (by decide), fun h => absurd h (by decide)⟩⟩, hb⟩
    · exact ⟨⟨_, _, _, rfl, by unfold isPath; rw [h0]; exact ⟨fun _ => rfl, fun _ => rfl⟩⟩, hb⟩
  have HK := Lib.hid fun w => rkey_any st w (by omega)
  generalize hx : build st.data.toList ep sn.data.toList p.data.toList c.data.toList = x
  unfold build at hx
  by_cases hA : ArgB st.data.toList ep sn.data.toList p.data.toList
  · rw [if_neg (fun h => h hA)] at hx
    obtain ⟨⟨h0, h7⟩, hr1, hr2, hpa⟩ := hA
    have hpl := path_len hpa
    rw [hr1] at HR1
    rw [hr2] at HR2
    have HPY : Hid (∀ w, Calls Tryz.prog 42 #[.string p] w fun e w' => (∃ (A B : ByteArray), e = .returned (.tuple #[.string A, .string B, .int .i64 0])) ∧ Below w.heap.size w w') := Lib.hid fun w => (HPA.out w).mono fun e w' h => by
      obtain ⟨⟨A, B, g, rfl, hg⟩, hb⟩ := h
      rw [hg.2 hpa]
      exact ⟨⟨A, B, rfl⟩, hb⟩
    clear HPA
    by_cases hc : 64 < c.data.toList.length
    · rw [if_pos hc] at hx
      rw [← Lib.size_eq] at hc
      have hc2 : (64 : Int) < (c.size : Int) := by omega
      have HX := Lib.hid hx
      clear hx hc hr1 hr2 hpa hpl
      go_enter Tryz.func12, Tryz.ntmps12
      go_wp2_with fail
      with_reducible refine (HPY.out _).mono ?_
      rintro e w1 ⟨⟨PA, PB, rfl⟩, hb1⟩
      have HZ1 := Lib.hid (r3_first hb1)
      have HB1 := Lib.hid (bel_box hb1)
      clear hb1
      dsimp only
      go_wp2_with fail
      with_reducible refine (HR1.out _).mono ?_
      rintro e w2 ⟨rfl, hb2⟩
      replace HZ1 := Lib.hid (HZ1.out.below hb2)
      have HB2 := Lib.hid (Bel.call HB1.out hb2)
      clear hb2
      dsimp only
      go_wp2_with fail
      with_reducible refine (HR2.out _).mono ?_
      rintro e w3 ⟨rfl, hb3⟩
      replace HZ1 := Lib.hid (HZ1.out.below hb3)
      have HB3 := Lib.hid (Bel.call HB2.out hb3)
      clear hb3
      dsimp only
      obtain ⟨⟨_, c0, c1, c2⟩, f0, f1, f2⟩ := HZ1.out
      go_wp2
      refine bodyPost_ret (v := .tuple #[Zb, .int .i64 10]) (by simp [results, Tryz.results12, go_sem, Zb, c0, c1, c2]) rfl ?_
      exact ⟨⟨_, by rw [← HX.out]; exact zb_is, by rw [← HX.out]⟩, bel_set3 HB3.out (Nat.le_refl _)⟩
    · rw [if_neg hc] at hx
      have hkt := key_ten hr1
      have hcl : c.data.toList.length ≤ 64 := Nat.le_of_not_lt hc
      rw [← Lib.size_eq] at hc
      have hc2 : ¬ (64 : Int) < (c.size : Int) := by omega
      have hin := inner_right hpl hcl
      have hinl := (inner_sz 0 hpl hcl).2
      have HTP : Hid (∀ w, Calls Tryz.prog 44 #[.string p] w fun e w' => Sr (txtT p.data.toList, 0) e ∧ Below w.heap.size w w') := Lib.hid fun w => by
        have := ofText_any p w (by omega)
        rw [ofText_txt (by omega)] at this
        exact this
      have HTC : Hid (∀ w, Calls Tryz.prog 44 #[.string c] w fun e w' => Sr (txtT c.data.toList, 0) e ∧ Below w.heap.size w w') := Lib.hid fun w => by
        have := ofText_any c w (by omega)
        rw [ofText_txt (by omega)] at this
        exact this
      have htl1 := (txtT_sz 0 (s := p.data.toList) (by omega)).2
      have htl2 := (txtT_sz 0 (s := c.data.toList) (by omega)).2
      have HOP : Hid (∀ (X Y : ByteArray) (w : World), X.data.toList = txtT p.data.toList → Y.data.toList = txtT c.data.toList → Calls Tryz.prog 45 #[.string X, .string Y] w fun e w' => Sr (inner p.data.toList c.data.toList, 0) e ∧ Below w.heap.size w w') := Lib.hid fun X Y w hX hY => by
        have := ofPair_any X Y w (by rw [Lib.size_eq, hX]; omega) (by rw [Lib.size_eq, hY]; omega)
        rw [hX, hY, inner_is hpl hcl] at this
        exact this
      obtain ⟨kx, kf, hk⟩ : ∃ kx kf, key st.data.toList = (kx, kf) := ⟨_, _, rfl⟩
      rw [hk] at hkt HK
      rcases hkt with hf | hf
      · obtain rfl : kf = 0 := hf
        have hkr : right kx = true := by
          have := (key_ok (st := st.data.toList) (by rw [hk])).1
          rw [hk] at this
          exact this
        have hkl := (right_len hkr).2
        have es : sealB st.data.toList p.data.toList c.data.toList = if (two 115 kx (inner p.data.toList c.data.toList)).2 ≠ 0 then ([], 10) else ((two 115 kx (inner p.data.toList c.data.toList)).1, 0) := by
          unfold sealB
          rw [hk]
          exact if_neg (fun h => h rfl)
        have HSL : Hid (∀ (K P : ByteArray) (w : World), K.data.toList = kx → P.data.toList = inner p.data.toList c.data.toList → Calls Tryz.prog 46 #[.string K, .string P] w fun e w' => Sr (two 115 kx (inner p.data.toList c.data.toList)) e ∧ Below w.heap.size w w') := Lib.hid fun K P w hK hP => by
          have := Term.seal_any K P w (by rw [Lib.size_eq, hK]; omega) (by rw [Lib.size_eq, hP]; omega)
          rw [hK, hP] at this
          exact this
        have htt := two_ten (k := 115) hkr hin
        obtain ⟨sx, sf, hsx⟩ : ∃ sx sf, two 115 kx (inner p.data.toList c.data.toList) = (sx, sf) := ⟨_, _, rfl⟩
        rw [hsx] at HSL htt es
        rcases htt with hf | hf
        · obtain rfl : sf = 0 := hf
          have hsr : right sx = true := by
            have := (two_ok (k := 115) (a := kx) (b := inner p.data.toList c.data.toList) (by rw [hsx])).1
            rw [hsx] at this
            exact this
          have hsl := (right_len hsr).2
          rw [if_neg (fun h => h rfl)] at es
          rw [es, if_neg (fun h => h rfl)] at hx
          simp only at hx
          have HSD : Hid (∀ (C : ByteArray) (w : World), C.data.toList = sx → Calls Tryz.prog 47 #[.int .i64 ep, .string C] w fun e w' => Sr (said ep sx) e ∧ Below w.heap.size w w') := Lib.hid fun C w hC => by
            have := rsaid_any ep C w ⟨h0, h7⟩ (by rw [Lib.size_eq, hC]; omega)
            rw [hC] at this
            exact this
          have hdt : (said ep sx).2 = 0 ∨ said ep sx = ([], 10) := two_ten (atom_ok (by omega)) hsr
          have hdr : (said ep sx).2 = 0 → right (said ep sx).1 = true := fun h => (two_ok h).1
          have eg : signB ep sn.data.toList sx = if (said ep sx).2 ≠ 0 then ([], 10) else if (two 103 sn.data.toList (said ep sx).1).2 ≠ 0 then ([], 10) else ((two 103 sn.data.toList (said ep sx).1).1, 0) := rfl
          obtain ⟨dx, df, hdx⟩ : ∃ dx df, said ep sx = (dx, df) := ⟨_, _, rfl⟩
          rw [hdx] at HSD hdt hdr eg
          rcases hdt with hf | hf
          · obtain rfl : df = 0 := hf
            have hdr := hdr rfl
            simp only at hdr
            have hdl := (right_len hdr).2
            rw [if_neg (fun h => h rfl)] at eg
            simp only at eg
            have HSN : Hid (∀ (C : ByteArray) (w : World), C.data.toList = dx → Calls Tryz.prog 48 #[.string sn, .string C] w fun e w' => Sr (two 103 sn.data.toList dx) e ∧ Below w.heap.size w w') := Lib.hid fun C w hC => by
              have := sign_any sn C w (by omega) (by rw [Lib.size_eq, hC]; omega)
              rw [hC] at this
              exact this
            have hgt := two_ten (k := 103) hr2 hdr
            obtain ⟨gx, gf, hgx⟩ : ∃ gx gf, two 103 sn.data.toList dx = (gx, gf) := ⟨_, _, rfl⟩
            rw [hgx] at HSN hgt eg
            rcases hgt with hf | hf
            · obtain rfl : gf = 0 := hf
              rw [if_neg (fun h => h rfl)] at eg
              rw [eg, if_neg (fun h => h rfl)] at hx
              have HX := Lib.hid hx
              clear hx eg es hgx hdx hsx hk hr1 hr2 hpa hpl hcl hin hinl htl1 htl2 hkr hkl hsr hsl hdr hdl hc
              go_enter Tryz.func12, Tryz.ntmps12
              go_wp2_with fail
              with_reducible refine (HPY.out _).mono ?_
              rintro e w1 ⟨⟨PA, PB, rfl⟩, hb1⟩
              have HZ1 := Lib.hid (r3_first hb1)
              have HB1 := Lib.hid (bel_box hb1)
              clear hb1
              dsimp only
              go_wp2_with fail
              with_reducible refine (HR1.out _).mono ?_
              rintro e w2 ⟨rfl, hb2⟩
              replace HZ1 := Lib.hid (HZ1.out.below hb2)
              have HB2 := Lib.hid (Bel.call HB1.out hb2)
              clear hb2
              dsimp only
              go_wp2_with fail
              with_reducible refine (HR2.out _).mono ?_
              rintro e w3 ⟨rfl, hb3⟩
              replace HZ1 := Lib.hid (HZ1.out.below hb3)
              have HB3 := Lib.hid (Bel.call HB2.out hb3)
              clear hb3
              dsimp only
              go_wp2_with fail
              with_reducible refine (HK.out _).mono ?_
              rintro e w4 ⟨⟨KK, hKK, rfl⟩, hb4⟩
              replace HZ1 := Lib.hid (HZ1.out.below hb4)
              have HB4 := Lib.hid (Bel.call HB3.out hb4)
              clear hb4
              try dsimp only at hKK
              have HKK := Lib.hid hKK
              clear hKK
              dsimp only
              go_wp2_with fail
              with_reducible refine (HTP.out _).mono ?_
              rintro e w5 ⟨⟨X1, hX1, rfl⟩, hb5⟩
              replace HZ1 := Lib.hid (HZ1.out.below hb5)
              have HB5 := Lib.hid (Bel.call HB4.out hb5)
              clear hb5
              try dsimp only at hX1
              have HX1 := Lib.hid hX1
              clear hX1
              dsimp only
              go_wp2_with fail
              with_reducible refine (HTC.out _).mono ?_
              rintro e w6 ⟨⟨X2, hX2, rfl⟩, hb6⟩
              replace HZ1 := Lib.hid (HZ1.out.below hb6)
              have HB6 := Lib.hid (Bel.call HB5.out hb6)
              clear hb6
              try dsimp only at hX2
              have HX2 := Lib.hid hX2
              clear hX2
              dsimp only
              go_wp2_with fail
              with_reducible refine (HOP.out X1 X2 _ HX1.out HX2.out).mono ?_
              rintro e w7 ⟨⟨X3, hX3, rfl⟩, hb7⟩
              replace HZ1 := Lib.hid (HZ1.out.below hb7)
              have HB7 := Lib.hid (Bel.call HB6.out hb7)
              clear hb7
              try dsimp only at hX3
              have HX3 := Lib.hid hX3
              clear hX3
              dsimp only
              go_wp2_with fail
              with_reducible refine (HSL.out KK X3 _ HKK.out HX3.out).mono ?_
              rintro e w8 ⟨⟨X4, hX4, rfl⟩, hb8⟩
              replace HZ1 := Lib.hid (HZ1.out.below hb8)
              have HB8 := Lib.hid (Bel.call HB7.out hb8)
              clear hb8
              try dsimp only at hX4
              have HX4 := Lib.hid hX4
              clear hX4
              dsimp only
              go_wp2_with fail
              with_reducible refine (HSD.out X4 _ HX4.out).mono ?_
              rintro e w9 ⟨⟨X5, hX5, rfl⟩, hb9⟩
              replace HZ1 := Lib.hid (HZ1.out.below hb9)
              have HB9 := Lib.hid (Bel.call HB8.out hb9)
              clear hb9
              try dsimp only at hX5
              have HX5 := Lib.hid hX5
              clear hX5
              dsimp only
              go_wp2_with fail
              with_reducible refine (HSN.out X5 _ HX5.out).mono ?_
              rintro e w10 ⟨⟨X6, hX6, rfl⟩, hb10⟩
              replace HZ1 := Lib.hid (HZ1.out.below hb10)
              have HB10 := Lib.hid (Bel.call HB9.out hb10)
              clear hb10
              try dsimp only at hX6
              have HX6 := Lib.hid hX6
              clear hX6
              dsimp only
              obtain ⟨⟨_, c0, c1, c2⟩, f0, f1, f2⟩ := HZ1.out
              go_wp2
              refine bodyPost_ret (v := .tuple #[.agg #[.int .i64 ep, .string X4, .string X6], .int .i64 0]) (by simp [results, Tryz.results12, go_sem, Zb, c0, c1, c2]) rfl ?_
              exact ⟨⟨_, by rw [← HX.out]; exact ⟨X4, X6, HX4.out, HX6.out, rfl⟩, by rw [← HX.out]⟩, bel_set3 HB10.out (Nat.le_refl _)⟩
            · obtain ⟨rfl, rfl⟩ := Prod.mk.inj hf
              rw [if_pos (show ¬ (10 : Int) = 0 by decide)] at eg
              rw [eg, if_pos (show ¬ (10 : Int) = 0 by decide)] at hx
              have HX := Lib.hid hx
              clear hx eg es hgx hdx hsx hk hr1 hr2 hpa hpl hcl hin hinl htl1 htl2 hkr hkl hsr hsl hdr hdl hc hf
              go_enter Tryz.func12, Tryz.ntmps12
              go_wp2_with fail
              with_reducible refine (HPY.out _).mono ?_
              rintro e w1 ⟨⟨PA, PB, rfl⟩, hb1⟩
              have HZ1 := Lib.hid (r3_first hb1)
              have HB1 := Lib.hid (bel_box hb1)
              clear hb1
              dsimp only
              go_wp2_with fail
              with_reducible refine (HR1.out _).mono ?_
              rintro e w2 ⟨rfl, hb2⟩
              replace HZ1 := Lib.hid (HZ1.out.below hb2)
              have HB2 := Lib.hid (Bel.call HB1.out hb2)
              clear hb2
              dsimp only
              go_wp2_with fail
              with_reducible refine (HR2.out _).mono ?_
              rintro e w3 ⟨rfl, hb3⟩
              replace HZ1 := Lib.hid (HZ1.out.below hb3)
              have HB3 := Lib.hid (Bel.call HB2.out hb3)
              clear hb3
              dsimp only
              go_wp2_with fail
              with_reducible refine (HK.out _).mono ?_
              rintro e w4 ⟨⟨KK, hKK, rfl⟩, hb4⟩
              replace HZ1 := Lib.hid (HZ1.out.below hb4)
              have HB4 := Lib.hid (Bel.call HB3.out hb4)
              clear hb4
              try dsimp only at hKK
              have HKK := Lib.hid hKK
              clear hKK
              dsimp only
              go_wp2_with fail
              with_reducible refine (HTP.out _).mono ?_
              rintro e w5 ⟨⟨X1, hX1, rfl⟩, hb5⟩
              replace HZ1 := Lib.hid (HZ1.out.below hb5)
              have HB5 := Lib.hid (Bel.call HB4.out hb5)
              clear hb5
              try dsimp only at hX1
              have HX1 := Lib.hid hX1
              clear hX1
              dsimp only
              go_wp2_with fail
              with_reducible refine (HTC.out _).mono ?_
              rintro e w6 ⟨⟨X2, hX2, rfl⟩, hb6⟩
              replace HZ1 := Lib.hid (HZ1.out.below hb6)
              have HB6 := Lib.hid (Bel.call HB5.out hb6)
              clear hb6
              try dsimp only at hX2
              have HX2 := Lib.hid hX2
              clear hX2
              dsimp only
              go_wp2_with fail
              with_reducible refine (HOP.out X1 X2 _ HX1.out HX2.out).mono ?_
              rintro e w7 ⟨⟨X3, hX3, rfl⟩, hb7⟩
              replace HZ1 := Lib.hid (HZ1.out.below hb7)
              have HB7 := Lib.hid (Bel.call HB6.out hb7)
              clear hb7
              try dsimp only at hX3
              have HX3 := Lib.hid hX3
              clear hX3
              dsimp only
              go_wp2_with fail
              with_reducible refine (HSL.out KK X3 _ HKK.out HX3.out).mono ?_
              rintro e w8 ⟨⟨X4, hX4, rfl⟩, hb8⟩
              replace HZ1 := Lib.hid (HZ1.out.below hb8)
              have HB8 := Lib.hid (Bel.call HB7.out hb8)
              clear hb8
              try dsimp only at hX4
              have HX4 := Lib.hid hX4
              clear hX4
              dsimp only
              go_wp2_with fail
              with_reducible refine (HSD.out X4 _ HX4.out).mono ?_
              rintro e w9 ⟨⟨X5, hX5, rfl⟩, hb9⟩
              replace HZ1 := Lib.hid (HZ1.out.below hb9)
              have HB9 := Lib.hid (Bel.call HB8.out hb9)
              clear hb9
              try dsimp only at hX5
              have HX5 := Lib.hid hX5
              clear hX5
              dsimp only
              go_wp2_with fail
              with_reducible refine (HSN.out X5 _ HX5.out).mono ?_
              rintro e w10 ⟨⟨X6, hX6, rfl⟩, hb10⟩
              replace HZ1 := Lib.hid (HZ1.out.below hb10)
              have HB10 := Lib.hid (Bel.call HB9.out hb10)
              clear hb10
              try dsimp only at hX6
              have HX6 := Lib.hid hX6
              clear hX6
              dsimp only
              obtain ⟨⟨_, c0, c1, c2⟩, f0, f1, f2⟩ := HZ1.out
              go_wp2
              refine bodyPost_ret (v := .tuple #[Zb, .int .i64 10]) (by simp [results, Tryz.results12, go_sem, Zb, c0, c1, c2]) rfl ?_
              exact ⟨⟨_, by rw [← HX.out]; exact zb_is, by rw [← HX.out]⟩, bel_set3 HB10.out (Nat.le_refl _)⟩
          · obtain ⟨rfl, rfl⟩ := Prod.mk.inj hf
            rw [if_pos (show ¬ (10 : Int) = 0 by decide)] at eg
            rw [eg, if_pos (show ¬ (10 : Int) = 0 by decide)] at hx
            have HX := Lib.hid hx
            clear hx eg es hdx hsx hk hr1 hr2 hpa hpl hcl hin hinl htl1 htl2 hkr hkl hsr hsl hdr hc hf
            go_enter Tryz.func12, Tryz.ntmps12
            go_wp2_with fail
            with_reducible refine (HPY.out _).mono ?_
            rintro e w1 ⟨⟨PA, PB, rfl⟩, hb1⟩
            have HZ1 := Lib.hid (r3_first hb1)
            have HB1 := Lib.hid (bel_box hb1)
            clear hb1
            dsimp only
            go_wp2_with fail
            with_reducible refine (HR1.out _).mono ?_
            rintro e w2 ⟨rfl, hb2⟩
            replace HZ1 := Lib.hid (HZ1.out.below hb2)
            have HB2 := Lib.hid (Bel.call HB1.out hb2)
            clear hb2
            dsimp only
            go_wp2_with fail
            with_reducible refine (HR2.out _).mono ?_
            rintro e w3 ⟨rfl, hb3⟩
            replace HZ1 := Lib.hid (HZ1.out.below hb3)
            have HB3 := Lib.hid (Bel.call HB2.out hb3)
            clear hb3
            dsimp only
            go_wp2_with fail
            with_reducible refine (HK.out _).mono ?_
            rintro e w4 ⟨⟨KK, hKK, rfl⟩, hb4⟩
            replace HZ1 := Lib.hid (HZ1.out.below hb4)
            have HB4 := Lib.hid (Bel.call HB3.out hb4)
            clear hb4
            try dsimp only at hKK
            have HKK := Lib.hid hKK
            clear hKK
            dsimp only
            go_wp2_with fail
            with_reducible refine (HTP.out _).mono ?_
            rintro e w5 ⟨⟨X1, hX1, rfl⟩, hb5⟩
            replace HZ1 := Lib.hid (HZ1.out.below hb5)
            have HB5 := Lib.hid (Bel.call HB4.out hb5)
            clear hb5
            try dsimp only at hX1
            have HX1 := Lib.hid hX1
            clear hX1
            dsimp only
            go_wp2_with fail
            with_reducible refine (HTC.out _).mono ?_
            rintro e w6 ⟨⟨X2, hX2, rfl⟩, hb6⟩
            replace HZ1 := Lib.hid (HZ1.out.below hb6)
            have HB6 := Lib.hid (Bel.call HB5.out hb6)
            clear hb6
            try dsimp only at hX2
            have HX2 := Lib.hid hX2
            clear hX2
            dsimp only
            go_wp2_with fail
            with_reducible refine (HOP.out X1 X2 _ HX1.out HX2.out).mono ?_
            rintro e w7 ⟨⟨X3, hX3, rfl⟩, hb7⟩
            replace HZ1 := Lib.hid (HZ1.out.below hb7)
            have HB7 := Lib.hid (Bel.call HB6.out hb7)
            clear hb7
            try dsimp only at hX3
            have HX3 := Lib.hid hX3
            clear hX3
            dsimp only
            go_wp2_with fail
            with_reducible refine (HSL.out KK X3 _ HKK.out HX3.out).mono ?_
            rintro e w8 ⟨⟨X4, hX4, rfl⟩, hb8⟩
            replace HZ1 := Lib.hid (HZ1.out.below hb8)
            have HB8 := Lib.hid (Bel.call HB7.out hb8)
            clear hb8
            try dsimp only at hX4
            have HX4 := Lib.hid hX4
            clear hX4
            dsimp only
            go_wp2_with fail
            with_reducible refine (HSD.out X4 _ HX4.out).mono ?_
            rintro e w9 ⟨⟨X5, hX5, rfl⟩, hb9⟩
            replace HZ1 := Lib.hid (HZ1.out.below hb9)
            have HB9 := Lib.hid (Bel.call HB8.out hb9)
            clear hb9
            try dsimp only at hX5
            have HX5 := Lib.hid hX5
            clear hX5
            dsimp only
            obtain ⟨⟨_, c0, c1, c2⟩, f0, f1, f2⟩ := HZ1.out
            go_wp2
            refine bodyPost_ret (v := .tuple #[Zb, .int .i64 10]) (by simp [results, Tryz.results12, go_sem, Zb, c0, c1, c2]) rfl ?_
            exact ⟨⟨_, by rw [← HX.out]; exact zb_is, by rw [← HX.out]⟩, bel_set3 HB9.out (Nat.le_refl _)⟩
        · obtain ⟨rfl, rfl⟩ := Prod.mk.inj hf
          rw [if_pos (show ¬ (10 : Int) = 0 by decide)] at es
          rw [es, if_pos (show ¬ (10 : Int) = 0 by decide)] at hx
          have HX := Lib.hid hx
          clear hx es hsx hk hr1 hr2 hpa hpl hcl hin hinl htl1 htl2 hkr hkl hc hf
          go_enter Tryz.func12, Tryz.ntmps12
          go_wp2_with fail
          with_reducible refine (HPY.out _).mono ?_
          rintro e w1 ⟨⟨PA, PB, rfl⟩, hb1⟩
          have HZ1 := Lib.hid (r3_first hb1)
          have HB1 := Lib.hid (bel_box hb1)
          clear hb1
          dsimp only
          go_wp2_with fail
          with_reducible refine (HR1.out _).mono ?_
          rintro e w2 ⟨rfl, hb2⟩
          replace HZ1 := Lib.hid (HZ1.out.below hb2)
          have HB2 := Lib.hid (Bel.call HB1.out hb2)
          clear hb2
          dsimp only
          go_wp2_with fail
          with_reducible refine (HR2.out _).mono ?_
          rintro e w3 ⟨rfl, hb3⟩
          replace HZ1 := Lib.hid (HZ1.out.below hb3)
          have HB3 := Lib.hid (Bel.call HB2.out hb3)
          clear hb3
          dsimp only
          go_wp2_with fail
          with_reducible refine (HK.out _).mono ?_
          rintro e w4 ⟨⟨KK, hKK, rfl⟩, hb4⟩
          replace HZ1 := Lib.hid (HZ1.out.below hb4)
          have HB4 := Lib.hid (Bel.call HB3.out hb4)
          clear hb4
          try dsimp only at hKK
          have HKK := Lib.hid hKK
          clear hKK
          dsimp only
          go_wp2_with fail
          with_reducible refine (HTP.out _).mono ?_
          rintro e w5 ⟨⟨X1, hX1, rfl⟩, hb5⟩
          replace HZ1 := Lib.hid (HZ1.out.below hb5)
          have HB5 := Lib.hid (Bel.call HB4.out hb5)
          clear hb5
          try dsimp only at hX1
          have HX1 := Lib.hid hX1
          clear hX1
          dsimp only
          go_wp2_with fail
          with_reducible refine (HTC.out _).mono ?_
          rintro e w6 ⟨⟨X2, hX2, rfl⟩, hb6⟩
          replace HZ1 := Lib.hid (HZ1.out.below hb6)
          have HB6 := Lib.hid (Bel.call HB5.out hb6)
          clear hb6
          try dsimp only at hX2
          have HX2 := Lib.hid hX2
          clear hX2
          dsimp only
          go_wp2_with fail
          with_reducible refine (HOP.out X1 X2 _ HX1.out HX2.out).mono ?_
          rintro e w7 ⟨⟨X3, hX3, rfl⟩, hb7⟩
          replace HZ1 := Lib.hid (HZ1.out.below hb7)
          have HB7 := Lib.hid (Bel.call HB6.out hb7)
          clear hb7
          try dsimp only at hX3
          have HX3 := Lib.hid hX3
          clear hX3
          dsimp only
          go_wp2_with fail
          with_reducible refine (HSL.out KK X3 _ HKK.out HX3.out).mono ?_
          rintro e w8 ⟨⟨X4, hX4, rfl⟩, hb8⟩
          replace HZ1 := Lib.hid (HZ1.out.below hb8)
          have HB8 := Lib.hid (Bel.call HB7.out hb8)
          clear hb8
          try dsimp only at hX4
          have HX4 := Lib.hid hX4
          clear hX4
          dsimp only
          obtain ⟨⟨_, c0, c1, c2⟩, f0, f1, f2⟩ := HZ1.out
          go_wp2
          refine bodyPost_ret (v := .tuple #[Zb, .int .i64 10]) (by simp [results, Tryz.results12, go_sem, Zb, c0, c1, c2]) rfl ?_
          exact ⟨⟨_, by rw [← HX.out]; exact zb_is, by rw [← HX.out]⟩, bel_set3 HB8.out (Nat.le_refl _)⟩
      · obtain ⟨rfl, rfl⟩ := Prod.mk.inj hf
        have es : sealB st.data.toList p.data.toList c.data.toList = ([], 10) := by
          unfold sealB
          rw [hk]
          exact if_pos (show ¬ (10 : Int) = 0 by decide)
        rw [es, if_pos (show ¬ (10 : Int) = 0 by decide)] at hx
        have HX := Lib.hid hx
        clear hx es hk hr1 hr2 hpa hpl hcl hin hinl htl1 htl2 hc hf
        go_enter Tryz.func12, Tryz.ntmps12
        go_wp2_with fail
        with_reducible refine (HPY.out _).mono ?_
        rintro e w1 ⟨⟨PA, PB, rfl⟩, hb1⟩
        have HZ1 := Lib.hid (r3_first hb1)
        have HB1 := Lib.hid (bel_box hb1)
        clear hb1
        dsimp only
        go_wp2_with fail
        with_reducible refine (HR1.out _).mono ?_
        rintro e w2 ⟨rfl, hb2⟩
        replace HZ1 := Lib.hid (HZ1.out.below hb2)
        have HB2 := Lib.hid (Bel.call HB1.out hb2)
        clear hb2
        dsimp only
        go_wp2_with fail
        with_reducible refine (HR2.out _).mono ?_
        rintro e w3 ⟨rfl, hb3⟩
        replace HZ1 := Lib.hid (HZ1.out.below hb3)
        have HB3 := Lib.hid (Bel.call HB2.out hb3)
        clear hb3
        dsimp only
        go_wp2_with fail
        with_reducible refine (HK.out _).mono ?_
        rintro e w4 ⟨⟨KK, hKK, rfl⟩, hb4⟩
        replace HZ1 := Lib.hid (HZ1.out.below hb4)
        have HB4 := Lib.hid (Bel.call HB3.out hb4)
        clear hb4
        try dsimp only at hKK
        have HKK := Lib.hid hKK
        clear hKK
        dsimp only
        obtain ⟨⟨_, c0, c1, c2⟩, f0, f1, f2⟩ := HZ1.out
        go_wp2
        refine bodyPost_ret (v := .tuple #[Zb, .int .i64 10]) (by simp [results, Tryz.results12, go_sem, Zb, c0, c1, c2]) rfl ?_
        exact ⟨⟨_, by rw [← HX.out]; exact zb_is, by rw [← HX.out]⟩, bel_set3 HB4.out (Nat.le_refl _)⟩
  · rw [if_pos hA] at hx
    have HX := Lib.hid hx
    clear hx
    by_cases h0 : 0 ≤ ep
    · by_cases h7 : ep ≤ 7
      · cases hr1 : right st.data.toList with
        | false =>
          rw [hr1] at HR1
          clear hA hr1
          go_enter Tryz.func12, Tryz.ntmps12
          go_wp2_with fail
          with_reducible refine (HPA.out _).mono ?_
          rintro e w1 ⟨⟨PA, PB, g, rfl, hg⟩, hb1⟩
          have HZ1 := Lib.hid (r3_first hb1)
          have HB1 := Lib.hid (bel_box hb1)
          clear hb1
          clear hg
          dsimp only
          go_wp2_with fail
          with_reducible refine (HR1.out _).mono ?_
          rintro e w2 ⟨rfl, hb2⟩
          replace HZ1 := Lib.hid (HZ1.out.below hb2)
          have HB2 := Lib.hid (Bel.call HB1.out hb2)
          clear hb2
          dsimp only
          obtain ⟨⟨_, c0, c1, c2⟩, f0, f1, f2⟩ := HZ1.out
          go_wp2
          refine bodyPost_ret (v := .tuple #[Zb, .int .i64 1]) (by simp [results, Tryz.results12, go_sem, Zb, c0, c1, c2]) rfl ?_
          exact ⟨⟨_, by rw [← HX.out]; exact zb_is, by rw [← HX.out]⟩, bel_set3 HB2.out (Nat.le_refl _)⟩
        | true =>
          rw [hr1] at HR1
          cases hr2 : right sn.data.toList with
          | false =>
            rw [hr2] at HR2
            clear hA hr1 hr2
            go_enter Tryz.func12, Tryz.ntmps12
            go_wp2_with fail
            with_reducible refine (HPA.out _).mono ?_
            rintro e w1 ⟨⟨PA, PB, g, rfl, hg⟩, hb1⟩
            have HZ1 := Lib.hid (r3_first hb1)
            have HB1 := Lib.hid (bel_box hb1)
            clear hb1
            clear hg
            dsimp only
            go_wp2_with fail
            with_reducible refine (HR1.out _).mono ?_
            rintro e w2 ⟨rfl, hb2⟩
            replace HZ1 := Lib.hid (HZ1.out.below hb2)
            have HB2 := Lib.hid (Bel.call HB1.out hb2)
            clear hb2
            dsimp only
            go_wp2_with fail
            with_reducible refine (HR2.out _).mono ?_
            rintro e w3 ⟨rfl, hb3⟩
            replace HZ1 := Lib.hid (HZ1.out.below hb3)
            have HB3 := Lib.hid (Bel.call HB2.out hb3)
            clear hb3
            dsimp only
            obtain ⟨⟨_, c0, c1, c2⟩, f0, f1, f2⟩ := HZ1.out
            go_wp2
            refine bodyPost_ret (v := .tuple #[Zb, .int .i64 1]) (by simp [results, Tryz.results12, go_sem, Zb, c0, c1, c2]) rfl ?_
            exact ⟨⟨_, by rw [← HX.out]; exact zb_is, by rw [← HX.out]⟩, bel_set3 HB3.out (Nat.le_refl _)⟩
          | true =>
            rw [hr2] at HR2
            have hpa : ¬ isPath p.data.toList = true := fun h => hA ⟨⟨h0, h7⟩, hr1, hr2, h⟩
            have HPN : Hid (∀ w, Calls Tryz.prog 42 #[.string p] w fun e w' => (∃ (A B : ByteArray) (g : Int), e = .returned (.tuple #[.string A, .string B, .int .i64 g]) ∧ (g == 0) = false) ∧ Below w.heap.size w w') := Lib.hid fun w => (HPA.out w).mono fun e w' h => by
              obtain ⟨⟨A, B, g, rfl, hg⟩, hb⟩ := h
              exact ⟨⟨A, B, g, rfl, by rw [beq_eq_false_iff_ne]; exact fun h => hpa (hg.1 h)⟩, hb⟩
            clear hA hr1 hr2 hpa HPA
            go_enter Tryz.func12, Tryz.ntmps12
            go_wp2_with fail
            with_reducible refine (HPN.out _).mono ?_
            rintro e w1 ⟨⟨PA, PB, g, rfl, hg⟩, hb1⟩
            have HZ1 := Lib.hid (r3_first hb1)
            have HB1 := Lib.hid (bel_box hb1)
            clear hb1
            have hg2 : (g != 0) = true := by simp [bne, hg]
            dsimp only
            go_wp2_with fail
            with_reducible refine (HR1.out _).mono ?_
            rintro e w2 ⟨rfl, hb2⟩
            replace HZ1 := Lib.hid (HZ1.out.below hb2)
            have HB2 := Lib.hid (Bel.call HB1.out hb2)
            clear hb2
            dsimp only
            go_wp2_with fail
            with_reducible refine (HR2.out _).mono ?_
            rintro e w3 ⟨rfl, hb3⟩
            replace HZ1 := Lib.hid (HZ1.out.below hb3)
            have HB3 := Lib.hid (Bel.call HB2.out hb3)
            clear hb3
            dsimp only
            obtain ⟨⟨_, c0, c1, c2⟩, f0, f1, f2⟩ := HZ1.out
            go_wp2
            refine bodyPost_ret (v := .tuple #[Zb, .int .i64 1]) (by simp [results, Tryz.results12, go_sem, Zb, c0, c1, c2]) rfl ?_
            exact ⟨⟨_, by rw [← HX.out]; exact zb_is, by rw [← HX.out]⟩, bel_set3 HB3.out (Nat.le_refl _)⟩
      · have h7' : 7 < ep := by omega
        clear hA h7
        go_enter Tryz.func12, Tryz.ntmps12
        go_wp2_with fail
        with_reducible refine (HPA.out _).mono ?_
        rintro e w1 ⟨⟨PA, PB, g, rfl, hg⟩, hb1⟩
        have HZ1 := Lib.hid (r3_first hb1)
        have HB1 := Lib.hid (bel_box hb1)
        clear hb1
        clear hg
        dsimp only
        obtain ⟨⟨_, c0, c1, c2⟩, f0, f1, f2⟩ := HZ1.out
        go_wp2
        refine bodyPost_ret (v := .tuple #[Zb, .int .i64 1]) (by simp [results, Tryz.results12, go_sem, Zb, c0, c1, c2]) rfl ?_
        exact ⟨⟨_, by rw [← HX.out]; exact zb_is, by rw [← HX.out]⟩, bel_set3 HB1.out (Nat.le_refl _)⟩
    · have h0' : ep < 0 := by omega
      clear hA h0
      go_enter Tryz.func12, Tryz.ntmps12
      go_wp2_with fail
      with_reducible refine (HPA.out _).mono ?_
      rintro e w1 ⟨⟨PA, PB, g, rfl, hg⟩, hb1⟩
      have HZ1 := Lib.hid (r3_first hb1)
      have HB1 := Lib.hid (bel_box hb1)
      clear hb1
      clear hg
      dsimp only
      obtain ⟨⟨_, c0, c1, c2⟩, f0, f1, f2⟩ := HZ1.out
      go_wp2
      refine bodyPost_ret (v := .tuple #[Zb, .int .i64 1]) (by simp [results, Tryz.results12, go_sem, Zb, c0, c1, c2]) rfl ?_
      exact ⟨⟨_, by rw [← HX.out]; exact zb_is, by rw [← HX.out]⟩, bel_set3 HB1.out (Nat.le_refl _)⟩
end Go.Proofs.YtjdignbmlfbdnaaGreat.Dta
