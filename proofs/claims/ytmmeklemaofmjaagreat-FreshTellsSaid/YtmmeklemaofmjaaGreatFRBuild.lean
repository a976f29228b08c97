/-
  THE DOCUMENT's ANSWER (letterlockref11): Build. By an AI agent; no person has read it.
-/
import Derived.Test.YtmmeklemaofmjaaGreatFRSign
import Derived.Test.YtmmeklemaofmjaaGreatFRRight
import Derived.Test.YtmmeklemaofmjaaGreatP8
namespace Go.Proofs.YtmmeklemaofmjaaGreat.Frs
open Go Go.RowKit Wire Term Draw Reg Clo

set_option linter.unusedSimpArgs false
set_option linter.unusedVariables false
set_option maxHeartbeats 8000000 in
set_option maxRecDepth 1000000 in
theorem rfbuild_any (K O : ByteArray) (t : Nat) (A : Option Addr) (c : Nat) (ys : List ByteArray) (w : World) (hK : K.size ≤ 140737488351232) (hO : O.size ≤ 1000000) (ht : t < 18446744073709551616) (hr : SReads w A ys) (hc : ys.length ≤ c) (hc2 : c ≤ 9223372036854775807) (hz : ∀ y ∈ ys, y.size ≤ 140737488355328) :
    Calls Tryz.prog 8 #[.string K, .string O, .int .u64 (t : Int), .slice A ys.length c] w fun e w' => Ss (buildS K.data.toList O.data.toList t (bl ys)) e ∧ Below w.heap.size w w' := by
  have HTR := Lib.hid fun w => Term.right_any K w (by omega)
  have HN := Lib.hid fun w => refright_any O w hO
  have HOT : Hid (∀ w, Calls Tryz.prog 28 #[.string ⟨#[]⟩] w fun e w' => Sr (Dta.txtT [], 0) e ∧ Below w.heap.size w w') := Lib.hid fun w => by
    have := ofText_any ⟨#[]⟩ w (by decide)
    rw [show ofText (⟨#[]⟩ : ByteArray).data.toList = (Dta.txtT [], 0) from Dta.ofText_txt (s := []) (by decide)] at this
    exact this
  have HRO := Lib.hid fun w (h : SReads w A ys) => Tre.rroot_any A c ys w h hc hc2 hz
  have hlen : (bl ys).length = ys.length := by simp [bl]
  have HSN : Hid (∀ (X : ByteArray) (w : World), X.size ≤ 4000 → Calls Tryz.prog 30 #[.agg #[.string O, .int .u64 (t : Int), .int .i64 (ys.length : Int), .string X, .string ⟨#[]⟩]] w fun e w' => Sr (signedS O.data.toList t ys.length X.data.toList) e ∧ Below w.heap.size w w') := Lib.hid fun X w hX => rsigned_any O t ys.length X ⟨#[]⟩ w (by omega) (by omega) ht (by omega)
  have HSG : Hid (∀ (T : ByteArray) (w : World), T.size ≤ 10000 → Calls Tryz.prog 31 #[.string K, .string T] w fun e w' => Sr (two 103 K.data.toList T.data.toList) e ∧ Below w.heap.size w w') := Lib.hid fun T w hT => sign_any K T w (by omega) (by omega)
  obtain ⟨z, f, hz'⟩ : ∃ z f, buildS K.data.toList O.data.toList t (bl ys) = (z, f) := ⟨_, _, rfl⟩
  rw [hz']
  unfold buildS at hz'
  have HR := Lib.hid hr
  obtain ⟨v1, hv1⟩ : ∃ v, right K.data.toList = v := ⟨_, rfl⟩
  obtain ⟨v2, hv2⟩ : ∃ v, Txt.right O.data.toList = v := ⟨_, rfl⟩
  rw [hv1] at HTR hz'
  rw [hv2] at HN hz'
  clear hz hK hO hr hc hc2 ht
  cases v1 with
  | false =>
    rw [if_pos (fun h => by cases h.1)] at hz'
    obtain ⟨rfl, rfl⟩ := Prod.mk.inj hz'
    go_enter Tryz.func8, Tryz.ntmps8
    go_wp2_with fail
    have hbS : Below w.heap.size w (w.alloc (.cells #[.string ⟨#[]⟩, .int .u64 0, .int .i64 0, .string ⟨#[]⟩, .string ⟨#[]⟩] 28)) := (Below.refl w.heap.size w).alloc (Nat.le_refl _) _
    have hxS := c5_new w (.string ⟨#[]⟩) (.int .u64 0) (.int .i64 0) (.string ⟨#[]⟩) (.string ⟨#[]⟩) 28
    generalize w.alloc (.cells #[.string ⟨#[]⟩, .int .u64 0, .int .i64 0, .string ⟨#[]⟩, .string ⟨#[]⟩] 28) = wSZ at hbS hxS ⊢
    have HB1 := Lib.hid hbS
    replace HR := Lib.hid (HR.out.below hbS (Nat.le_refl _))
    have HXZ := Lib.hid hxS
    clear hbS hxS
    with_reducible refine (HTR.out _).mono ?_
    rintro e w2 ⟨rfl, hb2⟩
    have HB2 := Lib.hid (Bel.call HB1.out hb2)
    replace HR := Lib.hid (HR.out.below hb2 (Nat.le_refl _))
    replace HXZ := Lib.hid (HXZ.out.below hb2)
    clear hb2
    try dsimp only
    obtain ⟨⟨nZ, dZ0, dZ1, dZ2, dZ3, dZ4⟩, kZ0, kZ1, kZ2, kZ3, kZ4⟩ := HXZ.out
    go_wp2
    refine bodyPost_ret (v := .tuple #[Zs, .int .i64 1]) (by simp [results, Tryz.results8, go_sem, Zs, dZ0, dZ1, dZ2, dZ3, dZ4]) rfl ?_
    exact ⟨⟨_, zs_is, rfl⟩, bel_set5 HB2.out (Nat.le_refl _)⟩
  | true =>
  cases v2 with
  | false =>
    rw [if_pos (fun h => by cases h.2)] at hz'
    obtain ⟨rfl, rfl⟩ := Prod.mk.inj hz'
    go_enter Tryz.func8, Tryz.ntmps8
    go_wp2_with fail
    have hbS : Below w.heap.size w (w.alloc (.cells #[.string ⟨#[]⟩, .int .u64 0, .int .i64 0, .string ⟨#[]⟩, .string ⟨#[]⟩] 28)) := (Below.refl w.heap.size w).alloc (Nat.le_refl _) _
    have hxS := c5_new w (.string ⟨#[]⟩) (.int .u64 0) (.int .i64 0) (.string ⟨#[]⟩) (.string ⟨#[]⟩) 28
    generalize w.alloc (.cells #[.string ⟨#[]⟩, .int .u64 0, .int .i64 0, .string ⟨#[]⟩, .string ⟨#[]⟩] 28) = wSZ at hbS hxS ⊢
    have HB1 := Lib.hid hbS
    replace HR := Lib.hid (HR.out.below hbS (Nat.le_refl _))
    have HXZ := Lib.hid hxS
    clear hbS hxS
    with_reducible refine (HTR.out _).mono ?_
    rintro e w2 ⟨rfl, hb2⟩
    have HB2 := Lib.hid (Bel.call HB1.out hb2)
    replace HR := Lib.hid (HR.out.below hb2 (Nat.le_refl _))
    replace HXZ := Lib.hid (HXZ.out.below hb2)
    clear hb2
    try dsimp only
    go_wp2_with fail
    with_reducible refine (HN.out _).mono ?_
    rintro e w3 ⟨rfl, hb3⟩
    have HB3 := Lib.hid (Bel.call HB2.out hb3)
    replace HR := Lib.hid (HR.out.below hb3 (Nat.le_refl _))
    replace HXZ := Lib.hid (HXZ.out.below hb3)
    clear hb3
    try dsimp only
    obtain ⟨⟨nZ, dZ0, dZ1, dZ2, dZ3, dZ4⟩, kZ0, kZ1, kZ2, kZ3, kZ4⟩ := HXZ.out
    go_wp2
    refine bodyPost_ret (v := .tuple #[Zs, .int .i64 1]) (by simp [results, Tryz.results8, go_sem, Zs, dZ0, dZ1, dZ2, dZ3, dZ4]) rfl ?_
    exact ⟨⟨_, zs_is, rfl⟩, bel_set5 HB3.out (Nat.le_refl _)⟩
  | true =>
  rw [if_neg (fun h => h ⟨rfl, rfl⟩), hlen] at hz'
  have hrl := rootS_len (bl ys)
  obtain ⟨rx, rf, hrx⟩ : ∃ rx rf, rootS (bl ys) = (rx, rf) := ⟨_, _, rfl⟩
  rw [hrx] at hz' hrl
  simp only at hz' hrl
  have hsl := signed_len O.data.toList rx t ys.length
  replace HSN : Hid (∀ (X : ByteArray) (w : World), X.data.toList = rx → Calls Tryz.prog 30 #[.agg #[.string O, .int .u64 (t : Int), .int .i64 (ys.length : Int), .string X, .string ⟨#[]⟩]] w fun e w' => Sr (signedS O.data.toList t ys.length rx) e ∧ Below w.heap.size w w') := Lib.hid fun X w hX => by
    have := HSN.out X w (by rw [Lib.size_eq, hX]; exact hrl)
    rw [hX] at this
    exact this
  obtain ⟨sx, sf, hsx⟩ : ∃ x f, signedS O.data.toList t ys.length rx = (x, f) := ⟨_, _, rfl⟩
  rw [hsx] at HSN hz' hsl
  simp only at hz' hsl
  replace HSG : Hid (∀ (T : ByteArray) (w : World), T.data.toList = sx → Calls Tryz.prog 31 #[.string K, .string T] w fun e w' => Sr (two 103 K.data.toList sx) e ∧ Below w.heap.size w w') := Lib.hid fun T w hT => by
    have := HSG.out T w (by rw [Lib.size_eq, hT]; omega)
    rw [hT] at this
    exact this
  obtain ⟨gx, gf, hgx⟩ : ∃ x f, two 103 K.data.toList sx = (x, f) := ⟨_, _, rfl⟩
  rw [hgx] at HSG hz'
  simp only at hz'
  clear hsx hgx hrl hsl hlen hv1 hv2
  by_cases h0 : ys = []
  · have hrr : (Dta.txtT [], (0 : Int)) = (rx, rf) := by rw [← hrx, h0]; exact (Dta.ofText_txt (s := []) (by decide)).symm
    obtain ⟨rfl, rfl⟩ := Prod.mk.inj hrr
    have hl0 : ¬ (0 : Int) < (ys.length : Int) := by rw [h0]; decide
    clear hrr hrx h0
    rw [if_neg (fun h => h rfl)] at hz'
    by_cases hf : sf = 0
    case neg =>
      rw [if_pos hf] at hz'
      obtain ⟨rfl, rfl⟩ := Prod.mk.inj hz'
      have hfb : (sf == 0) = false := by simpa using hf
      have hfb2 : (sf != 0) = true := by simpa using hf
      clear hf
      go_enter Tryz.func8, Tryz.ntmps8
      go_wp2_with fail
      have hbS : Below w.heap.size w (w.alloc (.cells #[.string ⟨#[]⟩, .int .u64 0, .int .i64 0, .string ⟨#[]⟩, .string ⟨#[]⟩] 28)) := (Below.refl w.heap.size w).alloc (Nat.le_refl _) _
      have hxS := c5_new w (.string ⟨#[]⟩) (.int .u64 0) (.int .i64 0) (.string ⟨#[]⟩) (.string ⟨#[]⟩) 28
      generalize w.alloc (.cells #[.string ⟨#[]⟩, .int .u64 0, .int .i64 0, .string ⟨#[]⟩, .string ⟨#[]⟩] 28) = wSZ at hbS hxS ⊢
      have HB1 := Lib.hid hbS
      replace HR := Lib.hid (HR.out.below hbS (Nat.le_refl _))
      have HXZ := Lib.hid hxS
      clear hbS hxS
      with_reducible refine (HTR.out _).mono ?_
      rintro e w2 ⟨rfl, hb2⟩
      have HB2 := Lib.hid (Bel.call HB1.out hb2)
      replace HR := Lib.hid (HR.out.below hb2 (Nat.le_refl _))
      replace HXZ := Lib.hid (HXZ.out.below hb2)
      clear hb2
      try dsimp only
      go_wp2_with fail
      with_reducible refine (HN.out _).mono ?_
      rintro e w3 ⟨rfl, hb3⟩
      have HB3 := Lib.hid (Bel.call HB2.out hb3)
      replace HR := Lib.hid (HR.out.below hb3 (Nat.le_refl _))
      replace HXZ := Lib.hid (HXZ.out.below hb3)
      clear hb3
      try dsimp only
      go_wp2_with fail
      with_reducible refine (HOT.out _).mono ?_
      rintro e w4 ⟨⟨X0, hX0, rfl⟩, hb4⟩
      have HB4 := Lib.hid (Bel.call HB3.out hb4)
      replace HR := Lib.hid (HR.out.below hb4 (Nat.le_refl _))
      replace HXZ := Lib.hid (HXZ.out.below hb4)
      clear hb4
      try dsimp only at hX0
      have HX0 := Lib.hid hX0
      clear hX0
      try dsimp only
      go_wp2_with fail
      have hbS : Below w4.heap.size w4 (w4.alloc (.cells #[.string O, .int .u64 (t : Int), .int .i64 (ys.length : Int), .string X0, .string ⟨#[]⟩] 28)) := (Below.refl w4.heap.size w4).alloc (Nat.le_refl _) _
      have hxS := c5_new w4 (.string O) (.int .u64 (t : Int)) (.int .i64 (ys.length : Int)) (.string X0) (.string ⟨#[]⟩) 28
      generalize w4.alloc (.cells #[.string O, .int .u64 (t : Int), .int .i64 (ys.length : Int), .string X0, .string ⟨#[]⟩] 28) = wSS at hbS hxS ⊢
      have HB5 := Lib.hid (Bel.call HB4.out hbS)
      replace HR := Lib.hid (HR.out.below hbS (Nat.le_refl _))
      replace HXZ := Lib.hid (HXZ.out.below hbS)
      have HXS := Lib.hid hxS
      clear hbS hxS
      with_reducible refine (HSN.out X0 _ HX0.out).mono ?_
      rintro e w6 ⟨⟨T, hT, rfl⟩, hb6⟩
      have HB6 := Lib.hid (Bel.call HB5.out hb6)
      replace HR := Lib.hid (HR.out.below hb6 (Nat.le_refl _))
      replace HXZ := Lib.hid (HXZ.out.below hb6)
      replace HXS := Lib.hid (HXS.out.below hb6)
      clear hb6
      try dsimp only at hT
      have HT := Lib.hid hT
      clear hT
      try dsimp only
      obtain ⟨⟨nZ, dZ0, dZ1, dZ2, dZ3, dZ4⟩, kZ0, kZ1, kZ2, kZ3, kZ4⟩ := HXZ.out
      go_wp2
      refine bodyPost_ret (v := .tuple #[Zs, .int .i64 sf]) (by simp [results, Tryz.results8, go_sem, Zs, dZ0, dZ1, dZ2, dZ3, dZ4]) rfl ?_
      exact ⟨⟨_, zs_is, rfl⟩, bel_set5 HB6.out (Nat.le_refl _)⟩
    subst hf
    rw [if_neg (fun h => h rfl)] at hz'
    by_cases hf : gf = 0
    case neg =>
      rw [if_pos hf] at hz'
      obtain ⟨rfl, rfl⟩ := Prod.mk.inj hz'
      have hfb : (gf == 0) = false := by simpa using hf
      have hfb2 : (gf != 0) = true := by simpa using hf
      clear hf
      go_enter Tryz.func8, Tryz.ntmps8
      go_wp2_with fail
      have hbS : Below w.heap.size w (w.alloc (.cells #[.string ⟨#[]⟩, .int .u64 0, .int .i64 0, .string ⟨#[]⟩, .string ⟨#[]⟩] 28)) := (Below.refl w.heap.size w).alloc (Nat.le_refl _) _
      have hxS := c5_new w (.string ⟨#[]⟩) (.int .u64 0) (.int .i64 0) (.string ⟨#[]⟩) (.string ⟨#[]⟩) 28
      generalize w.alloc (.cells #[.string ⟨#[]⟩, .int .u64 0, .int .i64 0, .string ⟨#[]⟩, .string ⟨#[]⟩] 28) = wSZ at hbS hxS ⊢
      have HB1 := Lib.hid hbS
      replace HR := Lib.hid (HR.out.below hbS (Nat.le_refl _))
      have HXZ := Lib.hid hxS
      clear hbS hxS
      with_reducible refine (HTR.out _).mono ?_
      rintro e w2 ⟨rfl, hb2⟩
      have HB2 := Lib.hid (Bel.call HB1.out hb2)
      replace HR := Lib.hid (HR.out.below hb2 (Nat.le_refl _))
      replace HXZ := Lib.hid (HXZ.out.below hb2)
      clear hb2
      try dsimp only
      go_wp2_with fail
      with_reducible refine (HN.out _).mono ?_
      rintro e w3 ⟨rfl, hb3⟩
      have HB3 := Lib.hid (Bel.call HB2.out hb3)
      replace HR := Lib.hid (HR.out.below hb3 (Nat.le_refl _))
      replace HXZ := Lib.hid (HXZ.out.below hb3)
      clear hb3
      try dsimp only
      go_wp2_with fail
      with_reducible refine (HOT.out _).mono ?_
      rintro e w4 ⟨⟨X0, hX0, rfl⟩, hb4⟩
      have HB4 := Lib.hid (Bel.call HB3.out hb4)
      replace HR := Lib.hid (HR.out.below hb4 (Nat.le_refl _))
      replace HXZ := Lib.hid (HXZ.out.below hb4)
      clear hb4
      try dsimp only at hX0
      have HX0 := Lib.hid hX0
      clear hX0
      try dsimp only
      have HZLT : Hid (w.heap.size ≠ w4.heap.size) := Lib.hid (Nat.ne_of_lt HXZ.out.1.1)
      have HSGE : Hid (w.heap.size ≤ w4.heap.size) := Lib.hid (Nat.le_of_lt HXZ.out.1.1)
      go_wp2_with fail
      have hbS : Below w4.heap.size w4 (w4.alloc (.cells #[.string O, .int .u64 (t : Int), .int .i64 (ys.length : Int), .string X0, .string ⟨#[]⟩] 28)) := (Below.refl w4.heap.size w4).alloc (Nat.le_refl _) _
      have hxS := c5_new w4 (.string O) (.int .u64 (t : Int)) (.int .i64 (ys.length : Int)) (.string X0) (.string ⟨#[]⟩) 28
      generalize w4.alloc (.cells #[.string O, .int .u64 (t : Int), .int .i64 (ys.length : Int), .string X0, .string ⟨#[]⟩] 28) = wSS at hbS hxS ⊢
      have HB5 := Lib.hid (Bel.call HB4.out hbS)
      replace HR := Lib.hid (HR.out.below hbS (Nat.le_refl _))
      replace HXZ := Lib.hid (HXZ.out.below hbS)
      have HXS := Lib.hid hxS
      clear hbS hxS
      with_reducible refine (HSN.out X0 _ HX0.out).mono ?_
      rintro e w6 ⟨⟨T, hT, rfl⟩, hb6⟩
      have HB6 := Lib.hid (Bel.call HB5.out hb6)
      replace HR := Lib.hid (HR.out.below hb6 (Nat.le_refl _))
      replace HXZ := Lib.hid (HXZ.out.below hb6)
      replace HXS := Lib.hid (HXS.out.below hb6)
      clear hb6
      try dsimp only at hT
      have HT := Lib.hid hT
      clear hT
      try dsimp only
      go_wp2_with fail
      with_reducible refine (HSG.out T _ HT.out).mono ?_
      rintro e w7 ⟨⟨U, hU, rfl⟩, hb7⟩
      have HB7 := Lib.hid (Bel.call HB6.out hb7)
      replace HR := Lib.hid (HR.out.below hb7 (Nat.le_refl _))
      replace HXZ := Lib.hid (HXZ.out.below hb7)
      replace HXS := Lib.hid (HXS.out.below hb7)
      clear hb7
      try dsimp only at hU
      have HU := Lib.hid hU
      clear hU
      try dsimp only
      have HSX := Lib.hid (HXS.out.set4 (v := .string U))
      have HZX := Lib.hid (HXZ.out.other (j := 4) (v := .string U) HZLT.out)
      obtain ⟨⟨nS, dS0, dS1, dS2, dS3, dS4⟩, kS0, kS1, kS2, kS3, kS4⟩ := HXS.out
      obtain ⟨⟨nZ, dZ0, dZ1, dZ2, dZ3, dZ4⟩, kZ0, kZ1, kZ2, kZ3, kZ4⟩ := HXZ.out
      have hzlt := HZLT.out
      go_wp2
      clear nZ dZ0 dZ1 dZ2 dZ3 dZ4 kZ0 kZ1 kZ2 kZ3 kZ4
      obtain ⟨⟨_, dZ0, dZ1, dZ2, dZ3, dZ4⟩, kZ0, kZ1, kZ2, kZ3, kZ4⟩ := HZX.out
      refine bodyPost_ret (v := .tuple #[Zs, .int .i64 gf]) (by simp [results, Tryz.results8, go_sem, Zs, dZ0, dZ1, dZ2, dZ3, dZ4]) rfl ?_
      exact ⟨⟨_, zs_is, rfl⟩, bel_set5 (HB7.out.setCell HSGE.out _) (Nat.le_refl _)⟩
    subst hf
    rw [if_neg (fun h => h rfl)] at hz'
    obtain ⟨rfl, rfl⟩ := Prod.mk.inj hz'
    go_enter Tryz.func8, Tryz.ntmps8
    go_wp2_with fail
    have hbS : Below w.heap.size w (w.alloc (.cells #[.string ⟨#[]⟩, .int .u64 0, .int .i64 0, .string ⟨#[]⟩, .string ⟨#[]⟩] 28)) := (Below.refl w.heap.size w).alloc (Nat.le_refl _) _
    have hxS := c5_new w (.string ⟨#[]⟩) (.int .u64 0) (.int .i64 0) (.string ⟨#[]⟩) (.string ⟨#[]⟩) 28
    generalize w.alloc (.cells #[.string ⟨#[]⟩, .int .u64 0, .int .i64 0, .string ⟨#[]⟩, .string ⟨#[]⟩] 28) = wSZ at hbS hxS ⊢
    have HB1 := Lib.hid hbS
    replace HR := Lib.hid (HR.out.below hbS (Nat.le_refl _))
    have HXZ := Lib.hid hxS
    clear hbS hxS
    with_reducible refine (HTR.out _).mono ?_
    rintro e w2 ⟨rfl, hb2⟩
    have HB2 := Lib.hid (Bel.call HB1.out hb2)
    replace HR := Lib.hid (HR.out.below hb2 (Nat.le_refl _))
    replace HXZ := Lib.hid (HXZ.out.below hb2)
    clear hb2
    try dsimp only
    go_wp2_with fail
    with_reducible refine (HN.out _).mono ?_
    rintro e w3 ⟨rfl, hb3⟩
    have HB3 := Lib.hid (Bel.call HB2.out hb3)
    replace HR := Lib.hid (HR.out.below hb3 (Nat.le_refl _))
    replace HXZ := Lib.hid (HXZ.out.below hb3)
    clear hb3
    try dsimp only
    go_wp2_with fail
    with_reducible refine (HOT.out _).mono ?_
    rintro e w4 ⟨⟨X0, hX0, rfl⟩, hb4⟩
    have HB4 := Lib.hid (Bel.call HB3.out hb4)
    replace HR := Lib.hid (HR.out.below hb4 (Nat.le_refl _))
    replace HXZ := Lib.hid (HXZ.out.below hb4)
    clear hb4
    try dsimp only at hX0
    have HX0 := Lib.hid hX0
    clear hX0
    try dsimp only
    have HZLT : Hid (w.heap.size ≠ w4.heap.size) := Lib.hid (Nat.ne_of_lt HXZ.out.1.1)
    have HSGE : Hid (w.heap.size ≤ w4.heap.size) := Lib.hid (Nat.le_of_lt HXZ.out.1.1)
    go_wp2_with fail
    have hbS : Below w4.heap.size w4 (w4.alloc (.cells #[.string O, .int .u64 (t : Int), .int .i64 (ys.length : Int), .string X0, .string ⟨#[]⟩] 28)) := (Below.refl w4.heap.size w4).alloc (Nat.le_refl _) _
    have hxS := c5_new w4 (.string O) (.int .u64 (t : Int)) (.int .i64 (ys.length : Int)) (.string X0) (.string ⟨#[]⟩) 28
    generalize w4.alloc (.cells #[.string O, .int .u64 (t : Int), .int .i64 (ys.length : Int), .string X0, .string ⟨#[]⟩] 28) = wSS at hbS hxS ⊢
    have HB5 := Lib.hid (Bel.call HB4.out hbS)
    replace HR := Lib.hid (HR.out.below hbS (Nat.le_refl _))
    replace HXZ := Lib.hid (HXZ.out.below hbS)
    have HXS := Lib.hid hxS
    clear hbS hxS
    with_reducible refine (HSN.out X0 _ HX0.out).mono ?_
    rintro e w6 ⟨⟨T, hT, rfl⟩, hb6⟩
    have HB6 := Lib.hid (Bel.call HB5.out hb6)
    replace HR := Lib.hid (HR.out.below hb6 (Nat.le_refl _))
    replace HXZ := Lib.hid (HXZ.out.below hb6)
    replace HXS := Lib.hid (HXS.out.below hb6)
    clear hb6
    try dsimp only at hT
    have HT := Lib.hid hT
    clear hT
    try dsimp only
    go_wp2_with fail
    with_reducible refine (HSG.out T _ HT.out).mono ?_
    rintro e w7 ⟨⟨U, hU, rfl⟩, hb7⟩
    have HB7 := Lib.hid (Bel.call HB6.out hb7)
    replace HR := Lib.hid (HR.out.below hb7 (Nat.le_refl _))
    replace HXZ := Lib.hid (HXZ.out.below hb7)
    replace HXS := Lib.hid (HXS.out.below hb7)
    clear hb7
    try dsimp only at hU
    have HU := Lib.hid hU
    clear hU
    try dsimp only
    have HSX := Lib.hid (HXS.out.set4 (v := .string U))
    have HZX := Lib.hid (HXZ.out.other (j := 4) (v := .string U) HZLT.out)
    obtain ⟨⟨nS, dS0, dS1, dS2, dS3, dS4⟩, kS0, kS1, kS2, kS3, kS4⟩ := HXS.out
    obtain ⟨⟨nZ, dZ0, dZ1, dZ2, dZ3, dZ4⟩, kZ0, kZ1, kZ2, kZ3, kZ4⟩ := HXZ.out
    have hzlt := HZLT.out
    go_wp2
    clear nZ dZ0 dZ1 dZ2 dZ3 dZ4 kZ0 kZ1 kZ2 kZ3 kZ4
    obtain ⟨⟨_, dZ0, dZ1, dZ2, dZ3, dZ4⟩, kZ0, kZ1, kZ2, kZ3, kZ4⟩ := HZX.out
    refine bodyPost_ret (v := .tuple #[.agg #[.string O, .int .u64 (t : Int), .int .i64 (ys.length : Int), .string X0, .string U], .int .i64 0]) (by simp [results, Tryz.results8, go_sem, dZ0, dZ1, dZ2, dZ3, dZ4]) rfl ?_
    exact ⟨⟨_, ⟨O, X0, U, rfl, HX0.out, HU.out, rfl⟩, rfl⟩, bel_set5 (HB7.out.setCell HSGE.out _) (Nat.le_refl _)⟩
  · have h1 : bl ys ≠ [] := fun h => h0 (by cases ys with
        | nil => rfl
        | cons a t => cases h)
    have hrr : Tre.root (bl ys) = (rx, rf) := by rw [← hrx]; unfold rootS; rw [if_neg h1]
    rw [hrr] at HRO
    have hl0 : (0 : Int) < (ys.length : Int) := by
      cases ys with
      | nil => exact absurd rfl h0
      | cons a t => rw [List.length_cons]; omega
    clear hrr hrx h1 h0
    by_cases hf : rf = 0
    case neg =>
      rw [if_pos hf] at hz'
      obtain ⟨rfl, rfl⟩ := Prod.mk.inj hz'
      have hfb : (rf == 0) = false := by simpa using hf
      have hfb2 : (rf != 0) = true := by simpa using hf
      clear hf
      go_enter Tryz.func8, Tryz.ntmps8
      go_wp2_with fail
      have hbS : Below w.heap.size w (w.alloc (.cells #[.string ⟨#[]⟩, .int .u64 0, .int .i64 0, .string ⟨#[]⟩, .string ⟨#[]⟩] 28)) := (Below.refl w.heap.size w).alloc (Nat.le_refl _) _
      have hxS := c5_new w (.string ⟨#[]⟩) (.int .u64 0) (.int .i64 0) (.string ⟨#[]⟩) (.string ⟨#[]⟩) 28
      generalize w.alloc (.cells #[.string ⟨#[]⟩, .int .u64 0, .int .i64 0, .string ⟨#[]⟩, .string ⟨#[]⟩] 28) = wSZ at hbS hxS ⊢
      have HB1 := Lib.hid hbS
      replace HR := Lib.hid (HR.out.below hbS (Nat.le_refl _))
      have HXZ := Lib.hid hxS
      clear hbS hxS
      with_reducible refine (HTR.out _).mono ?_
      rintro e w2 ⟨rfl, hb2⟩
      have HB2 := Lib.hid (Bel.call HB1.out hb2)
      replace HR := Lib.hid (HR.out.below hb2 (Nat.le_refl _))
      replace HXZ := Lib.hid (HXZ.out.below hb2)
      clear hb2
      try dsimp only
      go_wp2_with fail
      with_reducible refine (HN.out _).mono ?_
      rintro e w3 ⟨rfl, hb3⟩
      have HB3 := Lib.hid (Bel.call HB2.out hb3)
      replace HR := Lib.hid (HR.out.below hb3 (Nat.le_refl _))
      replace HXZ := Lib.hid (HXZ.out.below hb3)
      clear hb3
      try dsimp only
      go_wp2_with fail
      with_reducible refine (HOT.out _).mono ?_
      rintro e w4 ⟨⟨X0, hX0, rfl⟩, hb4⟩
      have HB4 := Lib.hid (Bel.call HB3.out hb4)
      replace HR := Lib.hid (HR.out.below hb4 (Nat.le_refl _))
      replace HXZ := Lib.hid (HXZ.out.below hb4)
      clear hb4
      try dsimp only at hX0
      have HX0 := Lib.hid hX0
      clear hX0
      try dsimp only
      go_wp2_with fail
      with_reducible refine (HRO.out _ HR.out).mono ?_
      rintro e w5 ⟨⟨X, hX, rfl⟩, hb5⟩
      have HB5 := Lib.hid (Bel.call HB4.out hb5)
      replace HR := Lib.hid (HR.out.below hb5 (Nat.le_refl _))
      replace HXZ := Lib.hid (HXZ.out.below hb5)
      clear hb5
      try dsimp only at hX
      have HX := Lib.hid hX
      clear hX
      try dsimp only
      obtain ⟨⟨nZ, dZ0, dZ1, dZ2, dZ3, dZ4⟩, kZ0, kZ1, kZ2, kZ3, kZ4⟩ := HXZ.out
      go_wp2
      refine bodyPost_ret (v := .tuple #[Zs, .int .i64 rf]) (by simp [results, Tryz.results8, go_sem, Zs, dZ0, dZ1, dZ2, dZ3, dZ4]) rfl ?_
      exact ⟨⟨_, zs_is, rfl⟩, bel_set5 HB5.out (Nat.le_refl _)⟩
    subst hf
    rw [if_neg (fun h => h rfl)] at hz'
    by_cases hf : sf = 0
    case neg =>
      rw [if_pos hf] at hz'
      obtain ⟨rfl, rfl⟩ := Prod.mk.inj hz'
      have hfb : (sf == 0) = false := by simpa using hf
      have hfb2 : (sf != 0) = true := by simpa using hf
      clear hf
      go_enter Tryz.func8, Tryz.ntmps8
      go_wp2_with fail
      have hbS : Below w.heap.size w (w.alloc (.cells #[.string ⟨#[]⟩, .int .u64 0, .int .i64 0, .string ⟨#[]⟩, .string ⟨#[]⟩] 28)) := (Below.refl w.heap.size w).alloc (Nat.le_refl _) _
      have hxS := c5_new w (.string ⟨#[]⟩) (.int .u64 0) (.int .i64 0) (.string ⟨#[]⟩) (.string ⟨#[]⟩) 28
      generalize w.alloc (.cells #[.string ⟨#[]⟩, .int .u64 0, .int .i64 0, .string ⟨#[]⟩, .string ⟨#[]⟩] 28) = wSZ at hbS hxS ⊢
      have HB1 := Lib.hid hbS
      replace HR := Lib.hid (HR.out.below hbS (Nat.le_refl _))
      have HXZ := Lib.hid hxS
      clear hbS hxS
      with_reducible refine (HTR.out _).mono ?_
      rintro e w2 ⟨rfl, hb2⟩
      have HB2 := Lib.hid (Bel.call HB1.out hb2)
      replace HR := Lib.hid (HR.out.below hb2 (Nat.le_refl _))
      replace HXZ := Lib.hid (HXZ.out.below hb2)
      clear hb2
      try dsimp only
      go_wp2_with fail
      with_reducible refine (HN.out _).mono ?_
      rintro e w3 ⟨rfl, hb3⟩
      have HB3 := Lib.hid (Bel.call HB2.out hb3)
      replace HR := Lib.hid (HR.out.below hb3 (Nat.le_refl _))
      replace HXZ := Lib.hid (HXZ.out.below hb3)
      clear hb3
      try dsimp only
      go_wp2_with fail
      with_reducible refine (HOT.out _).mono ?_
      rintro e w4 ⟨⟨X0, hX0, rfl⟩, hb4⟩
      have HB4 := Lib.hid (Bel.call HB3.out hb4)
      replace HR := Lib.hid (HR.out.below hb4 (Nat.le_refl _))
      replace HXZ := Lib.hid (HXZ.out.below hb4)
      clear hb4
      try dsimp only at hX0
      have HX0 := Lib.hid hX0
      clear hX0
      try dsimp only
      go_wp2_with fail
      with_reducible refine (HRO.out _ HR.out).mono ?_
      rintro e w5 ⟨⟨X, hX, rfl⟩, hb5⟩
      have HB5 := Lib.hid (Bel.call HB4.out hb5)
      replace HR := Lib.hid (HR.out.below hb5 (Nat.le_refl _))
      replace HXZ := Lib.hid (HXZ.out.below hb5)
      clear hb5
      try dsimp only at hX
      have HX := Lib.hid hX
      clear hX
      try dsimp only
      go_wp2_with fail
      have hbS : Below w5.heap.size w5 (w5.alloc (.cells #[.string O, .int .u64 (t : Int), .int .i64 (ys.length : Int), .string X, .string ⟨#[]⟩] 28)) := (Below.refl w5.heap.size w5).alloc (Nat.le_refl _) _
      have hxS := c5_new w5 (.string O) (.int .u64 (t : Int)) (.int .i64 (ys.length : Int)) (.string X) (.string ⟨#[]⟩) 28
      generalize w5.alloc (.cells #[.string O, .int .u64 (t : Int), .int .i64 (ys.length : Int), .string X, .string ⟨#[]⟩] 28) = wSS at hbS hxS ⊢
      have HB6 := Lib.hid (Bel.call HB5.out hbS)
      replace HR := Lib.hid (HR.out.below hbS (Nat.le_refl _))
      replace HXZ := Lib.hid (HXZ.out.below hbS)
      have HXS := Lib.hid hxS
      clear hbS hxS
      with_reducible refine (HSN.out X _ HX.out).mono ?_
      rintro e w7 ⟨⟨T, hT, rfl⟩, hb7⟩
      have HB7 := Lib.hid (Bel.call HB6.out hb7)
      replace HR := Lib.hid (HR.out.below hb7 (Nat.le_refl _))
      replace HXZ := Lib.hid (HXZ.out.below hb7)
      replace HXS := Lib.hid (HXS.out.below hb7)
      clear hb7
      try dsimp only at hT
      have HT := Lib.hid hT
      clear hT
      try dsimp only
      obtain ⟨⟨nZ, dZ0, dZ1, dZ2, dZ3, dZ4⟩, kZ0, kZ1, kZ2, kZ3, kZ4⟩ := HXZ.out
      go_wp2
      refine bodyPost_ret (v := .tuple #[Zs, .int .i64 sf]) (by simp [results, Tryz.results8, go_sem, Zs, dZ0, dZ1, dZ2, dZ3, dZ4]) rfl ?_
      exact ⟨⟨_, zs_is, rfl⟩, bel_set5 HB7.out (Nat.le_refl _)⟩
    subst hf
    rw [if_neg (fun h => h rfl)] at hz'
    by_cases hf : gf = 0
    case neg =>
      rw [if_pos hf] at hz'
      obtain ⟨rfl, rfl⟩ := Prod.mk.inj hz'
      have hfb : (gf == 0) = false := by simpa using hf
      have hfb2 : (gf != 0) = true := by simpa using hf
      clear hf
      go_enter Tryz.func8, Tryz.ntmps8
      go_wp2_with fail
      have hbS : Below w.heap.size w (w.alloc (.cells #[.string ⟨#[]⟩, .int .u64 0, .int .i64 0, .string ⟨#[]⟩, .string ⟨#[]⟩] 28)) := (Below.refl w.heap.size w).alloc (Nat.le_refl _) _
      have hxS := c5_new w (.string ⟨#[]⟩) (.int .u64 0) (.int .i64 0) (.string ⟨#[]⟩) (.string ⟨#[]⟩) 28
      generalize w.alloc (.cells #[.string ⟨#[]⟩, .int .u64 0, .int .i64 0, .string ⟨#[]⟩, .string ⟨#[]⟩] 28) = wSZ at hbS hxS ⊢
      have HB1 := Lib.hid hbS
      replace HR := Lib.hid (HR.out.below hbS (Nat.le_refl _))
      have HXZ := Lib.hid hxS
      clear hbS hxS
      with_reducible refine (HTR.out _).mono ?_
      rintro e w2 ⟨rfl, hb2⟩
      have HB2 := Lib.hid (Bel.call HB1.out hb2)
      replace HR := Lib.hid (HR.out.below hb2 (Nat.le_refl _))
      replace HXZ := Lib.hid (HXZ.out.below hb2)
      clear hb2
      try dsimp only
      go_wp2_with fail
      with_reducible refine (HN.out _).mono ?_
      rintro e w3 ⟨rfl, hb3⟩
      have HB3 := Lib.hid (Bel.call HB2.out hb3)
      replace HR := Lib.hid (HR.out.below hb3 (Nat.le_refl _))
      replace HXZ := Lib.hid (HXZ.out.below hb3)
      clear hb3
      try dsimp only
      go_wp2_with fail
      with_reducible refine (HOT.out _).mono ?_
      rintro e w4 ⟨⟨X0, hX0, rfl⟩, hb4⟩
      have HB4 := Lib.hid (Bel.call HB3.out hb4)
      replace HR := Lib.hid (HR.out.below hb4 (Nat.le_refl _))
      replace HXZ := Lib.hid (HXZ.out.below hb4)
      clear hb4
      try dsimp only at hX0
      have HX0 := Lib.hid hX0
      clear hX0
      try dsimp only
      go_wp2_with fail
      with_reducible refine (HRO.out _ HR.out).mono ?_
      rintro e w5 ⟨⟨X, hX, rfl⟩, hb5⟩
      have HB5 := Lib.hid (Bel.call HB4.out hb5)
      replace HR := Lib.hid (HR.out.below hb5 (Nat.le_refl _))
      replace HXZ := Lib.hid (HXZ.out.below hb5)
      clear hb5
      try dsimp only at hX
      have HX := Lib.hid hX
      clear hX
      try dsimp only
      have HZLT : Hid (w.heap.size ≠ w5.heap.size) := Lib.hid (Nat.ne_of_lt HXZ.out.1.1)
      have HSGE : Hid (w.heap.size ≤ w5.heap.size) := Lib.hid (Nat.le_of_lt HXZ.out.1.1)
      go_wp2_with fail
      have hbS : Below w5.heap.size w5 (w5.alloc (.cells #[.string O, .int .u64 (t : Int), .int .i64 (ys.length : Int), .string X, .string ⟨#[]⟩] 28)) := (Below.refl w5.heap.size w5).alloc (Nat.le_refl _) _
      have hxS := c5_new w5 (.string O) (.int .u64 (t : Int)) (.int .i64 (ys.length : Int)) (.string X) (.string ⟨#[]⟩) 28
      generalize w5.alloc (.cells #[.string O, .int .u64 (t : Int), .int .i64 (ys.length : Int), .string X, .string ⟨#[]⟩] 28) = wSS at hbS hxS ⊢
      have HB6 := Lib.hid (Bel.call HB5.out hbS)
      replace HR := Lib.hid (HR.out.below hbS (Nat.le_refl _))
      replace HXZ := Lib.hid (HXZ.out.below hbS)
      have HXS := Lib.hid hxS
      clear hbS hxS
      with_reducible refine (HSN.out X _ HX.out).mono ?_
      rintro e w7 ⟨⟨T, hT, rfl⟩, hb7⟩
      have HB7 := Lib.hid (Bel.call HB6.out hb7)
      replace HR := Lib.hid (HR.out.below hb7 (Nat.le_refl _))
      replace HXZ := Lib.hid (HXZ.out.below hb7)
      replace HXS := Lib.hid (HXS.out.below hb7)
      clear hb7
      try dsimp only at hT
      have HT := Lib.hid hT
      clear hT
      try dsimp only
      go_wp2_with fail
      with_reducible refine (HSG.out T _ HT.out).mono ?_
      rintro e w8 ⟨⟨U, hU, rfl⟩, hb8⟩
      have HB8 := Lib.hid (Bel.call HB7.out hb8)
      replace HR := Lib.hid (HR.out.below hb8 (Nat.le_refl _))
      replace HXZ := Lib.hid (HXZ.out.below hb8)
      replace HXS := Lib.hid (HXS.out.below hb8)
      clear hb8
      try dsimp only at hU
      have HU := Lib.hid hU
      clear hU
      try dsimp only
      have HSX := Lib.hid (HXS.out.set4 (v := .string U))
      have HZX := Lib.hid (HXZ.out.other (j := 4) (v := .string U) HZLT.out)
      obtain ⟨⟨nS, dS0, dS1, dS2, dS3, dS4⟩, kS0, kS1, kS2, kS3, kS4⟩ := HXS.out
      obtain ⟨⟨nZ, dZ0, dZ1, dZ2, dZ3, dZ4⟩, kZ0, kZ1, kZ2, kZ3, kZ4⟩ := HXZ.out
      have hzlt := HZLT.out
      go_wp2
      clear nZ dZ0 dZ1 dZ2 dZ3 dZ4 kZ0 kZ1 kZ2 kZ3 kZ4
      obtain ⟨⟨_, dZ0, dZ1, dZ2, dZ3, dZ4⟩, kZ0, kZ1, kZ2, kZ3, kZ4⟩ := HZX.out
      refine bodyPost_ret (v := .tuple #[Zs, .int .i64 gf]) (by simp [results, Tryz.results8, go_sem, Zs, dZ0, dZ1, dZ2, dZ3, dZ4]) rfl ?_
      exact ⟨⟨_, zs_is, rfl⟩, bel_set5 (HB8.out.setCell HSGE.out _) (Nat.le_refl _)⟩
    subst hf
    rw [if_neg (fun h => h rfl)] at hz'
    obtain ⟨rfl, rfl⟩ := Prod.mk.inj hz'
    go_enter Tryz.func8, Tryz.ntmps8
    go_wp2_with fail
    have hbS : Below w.heap.size w (w.alloc (.cells #[.string ⟨#[]⟩, .int .u64 0, .int .i64 0, .string ⟨#[]⟩, .string ⟨#[]⟩] 28)) := (Below.refl w.heap.size w).alloc (Nat.le_refl _) _
    have hxS := c5_new w (.string ⟨#[]⟩) (.int .u64 0) (.int .i64 0) (.string ⟨#[]⟩) (.string ⟨#[]⟩) 28
    generalize w.alloc (.cells #[.string ⟨#[]⟩, .int .u64 0, .int .i64 0, .string ⟨#[]⟩, .string ⟨#[]⟩] 28) = wSZ at hbS hxS ⊢
    have HB1 := Lib.hid hbS
    replace HR := Lib.hid (HR.out.below hbS (Nat.le_refl _))
    have HXZ := Lib.hid hxS
    clear hbS hxS
    with_reducible refine (HTR.out _).mono ?_
    rintro e w2 ⟨rfl, hb2⟩
    have HB2 := Lib.hid (Bel.call HB1.out hb2)
    replace HR := Lib.hid (HR.out.below hb2 (Nat.le_refl _))
    replace HXZ := Lib.hid (HXZ.out.below hb2)
    clear hb2
    try dsimp only
    go_wp2_with fail
    with_reducible refine (HN.out _).mono ?_
    rintro e w3 ⟨rfl, hb3⟩
    have HB3 := Lib.hid (Bel.call HB2.out hb3)
    replace HR := Lib.hid (HR.out.below hb3 (Nat.le_refl _))
    replace HXZ := Lib.hid (HXZ.out.below hb3)
    clear hb3
    try dsimp only
    go_wp2_with fail
    with_reducible refine (HOT.out _).mono ?_
    rintro e w4 ⟨⟨X0, hX0, rfl⟩, hb4⟩
    have HB4 := Lib.hid (Bel.call HB3.out hb4)
    replace HR := Lib.hid (HR.out.below hb4 (Nat.le_refl _))
    replace HXZ := Lib.hid (HXZ.out.below hb4)
    clear hb4
    try dsimp only at hX0
    have HX0 := Lib.hid hX0
    clear hX0
    try dsimp only
    go_wp2_with fail
    with_reducible refine (HRO.out _ HR.out).mono ?_
    rintro e w5 ⟨⟨X, hX, rfl⟩, hb5⟩
    have HB5 := Lib.hid (Bel.call HB4.out hb5)
    replace HR := Lib.hid (HR.out.below hb5 (Nat.le_refl _))
    replace HXZ := Lib.hid (HXZ.out.below hb5)
    clear hb5
    try dsimp only at hX
    have HX := Lib.hid hX
    clear hX
    try dsimp only
    have HZLT : Hid (w.heap.size ≠ w5.heap.size) := Lib.hid (Nat.ne_of_lt HXZ.out.1.1)
    have HSGE : Hid (w.heap.size ≤ w5.heap.size) := Lib.hid (Nat.le_of_lt HXZ.out.1.1)
    go_wp2_with fail
    have hbS : Below w5.heap.size w5 (w5.alloc (.cells #[.string O, .int .u64 (t : Int), .int .i64 (ys.length : Int), .string X, .string ⟨#[]⟩] 28)) := (Below.refl w5.heap.size w5).alloc (Nat.le_refl _) _
    have hxS := c5_new w5 (.string O) (.int .u64 (t : Int)) (.int .i64 (ys.length : Int)) (.string X) (.string ⟨#[]⟩) 28
    generalize w5.alloc (.cells #[.string O, .int .u64 (t : Int), .int .i64 (ys.length : Int), .string X, .string ⟨#[]⟩] 28) = wSS at hbS hxS ⊢
    have HB6 := Lib.hid (Bel.call HB5.out hbS)
    replace HR := Lib.hid (HR.out.below hbS (Nat.le_refl _))
    replace HXZ := Lib.hid (HXZ.out.below hbS)
    have HXS := Lib.hid hxS
    clear hbS hxS
    with_reducible refine (HSN.out X _ HX.out).mono ?_
    rintro e w7 ⟨⟨T, hT, rfl⟩, hb7⟩
    have HB7 := Lib.hid (Bel.call HB6.out hb7)
    replace HR := Lib.hid (HR.out.below hb7 (Nat.le_refl _))
    replace HXZ := Lib.hid (HXZ.out.below hb7)
    replace HXS := Lib.hid (HXS.out.below hb7)
    clear hb7
    try dsimp only at hT
    have HT := Lib.hid hT
    clear hT
    try dsimp only
    go_wp2_with fail
    with_reducible refine (HSG.out T _ HT.out).mono ?_
    rintro e w8 ⟨⟨U, hU, rfl⟩, hb8⟩
    have HB8 := Lib.hid (Bel.call HB7.out hb8)
    replace HR := Lib.hid (HR.out.below hb8 (Nat.le_refl _))
    replace HXZ := Lib.hid (HXZ.out.below hb8)
    replace HXS := Lib.hid (HXS.out.below hb8)
    clear hb8
    try dsimp only at hU
    have HU := Lib.hid hU
    clear hU
    try dsimp only
    have HSX := Lib.hid (HXS.out.set4 (v := .string U))
    have HZX := Lib.hid (HXZ.out.other (j := 4) (v := .string U) HZLT.out)
    obtain ⟨⟨nS, dS0, dS1, dS2, dS3, dS4⟩, kS0, kS1, kS2, kS3, kS4⟩ := HXS.out
    obtain ⟨⟨nZ, dZ0, dZ1, dZ2, dZ3, dZ4⟩, kZ0, kZ1, kZ2, kZ3, kZ4⟩ := HXZ.out
    have hzlt := HZLT.out
    go_wp2
    clear nZ dZ0 dZ1 dZ2 dZ3 dZ4 kZ0 kZ1 kZ2 kZ3 kZ4
    obtain ⟨⟨_, dZ0, dZ1, dZ2, dZ3, dZ4⟩, kZ0, kZ1, kZ2, kZ3, kZ4⟩ := HZX.out
    refine bodyPost_ret (v := .tuple #[.agg #[.string O, .int .u64 (t : Int), .int .i64 (ys.length : Int), .string X, .string U], .int .i64 0]) (by simp [results, Tryz.results8, go_sem, dZ0, dZ1, dZ2, dZ3, dZ4]) rfl ?_
    exact ⟨⟨_, ⟨O, X, U, rfl, HX.out, HU.out, rfl⟩, rfl⟩, bel_set5 (HB8.out.setCell HSGE.out _) (Nat.le_refl _)⟩
end Go.Proofs.YtmmeklemaofmjaaGreat.Frs
