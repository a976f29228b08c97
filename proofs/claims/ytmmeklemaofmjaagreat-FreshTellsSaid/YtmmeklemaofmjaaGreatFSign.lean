/-
  THE LANDED CODE (package fresh): signed, Build. By an AI agent; no person has read it.
-/
import Derived.Test.YtmmeklemaofmjaaGreatFSaid
namespace Go.Proofs.YtmmeklemaofmjaaGreat.Frs
open Go Go.RowKit Wire Term Draw Reg Clo

set_option linter.unusedSimpArgs false
set_option linter.unusedVariables false
/-- A stamp with its signature, or that of nothing. -/
def sealS (sk : Tm) (s : Sp) : Sp :=
  if (signedS s.own s.time s.many.toNat s.root).2 ≠ 0 then szero else
  if (two 103 sk (signedS s.own s.time s.many.toNat s.root).1).2 ≠ 0 then szero else
  ⟨s.own, s.time, s.many, s.root, (two 103 sk (signedS s.own s.time s.many.toNat s.root).1).1⟩
theorem signed_len (o r : Tm) (t n : Nat) : (signedS o t n r).1.length ≤ r.length + 4000 := by
  by_cases h : ∀ j, j ≤ 3 → (sxN o r t n j).2 = 0
  · rw [signed_all o r t n h]; exact sx_len o r t n 3
  · unfold signedS
    split
    · exact Nat.zero_le _
    · split
      · exact Nat.zero_le _
      · have := two_len (k := 112) (a := (ofText o).1) (b := (two 112 (ofAtom t) (two 112 (ofAtom n) r).1).1); omega
theorem rootS_ok {l : List Tm} {x : Tm} (h : rootS l = (x, 0)) : right x = true ∧ l.length ≤ 8 := by
  unfold rootS at h
  split at h
  · rename_i h0
    subst h0
    have h1 : ofText [] = (Dta.txtT [], 0) := Dta.ofText_txt (by decide)
    rw [h1] at h
    obtain ⟨rfl, _⟩ := Prod.mk.inj h
    exact ⟨Dta.txtT_right (by decide), by decide⟩
  · unfold Tre.root at h
    split at h
    · cases h
    · rename_i h1
      split at h
      · cases h
      · exact ⟨(Tre.tree_head h (by decide)).2, by omega⟩
theorem rootS_len (l : List Tm) : (rootS l).1.length ≤ 4000 := by
  unfold rootS
  split
  · exact ofText_len []
  · unfold Tre.root
    split
    · exact Nat.zero_le _
    · split
      · exact Nat.zero_le _
      · exact Tre.tree_len (f := (Tre.treeD 4 l).2) rfl
theorem signed_ten {o r : Tm} {t n : Nat} (ho : Txt.right o = true) (hr : right r = true) (ht : t < 18446744073709551616) (hn : n < 18446744073709551616) : (signedS o t n r).2 = 0 ∨ (signedS o t n r).2 = 10 := by
  unfold signedS
  have h1 := Dta.two_ten (k := 112) (atom_right hn) hr
  split
  · rename_i e1
    rcases h1 with h1 | h1
    · exact absurd h1 e1
    · rw [h1]; exact .inr rfl
  · rename_i e1
    have r1 := (Dta.two_ok (Decidable.not_not.1 e1)).1
    have h2 := Dta.two_ten (k := 112) (atom_right ht) r1
    split
    · rename_i e2
      rcases h2 with h2 | h2
      · exact absurd h2 e2
      · rw [h2]; exact .inr rfl
    · rename_i e2
      have r2 := (Dta.two_ok (Decidable.not_not.1 e2)).1
      rw [ofText_own ho]
      rcases Dta.two_ten (k := 112) (Dta.txtT_right (s := o) (by have := (Txt.right_len ho).2; omega)) r2 with h3 | h3
      · exact .inl h3
      · exact .inr (by rw [h3])
/-- What is built is the stamp with its signature, or it is too great. -/
theorem seal_build {sk o x : Tm} {l : List Tm} {t : Nat} (h1 : right sk = true) (h2 : Txt.right o = true) (hx : rootS l = (x, 0)) (ht : t < 18446744073709551616) :
    (sealS sk ⟨o, t, (l.length : Int), x, []⟩ = szero ∧ buildS sk o t l = (szero, 10)) ∨ ((sealS sk ⟨o, t, (l.length : Int), x, []⟩).own = o ∧ buildS sk o t l = (sealS sk ⟨o, t, (l.length : Int), x, []⟩, 0)) := by
  obtain ⟨hr, h8⟩ := rootS_ok hx
  have ht2 := signed_ten h2 hr ht (show l.length < 18446744073709551616 by omega)
  have hb : buildS sk o t l = if (signedS o t l.length x).2 ≠ 0 then (szero, (signedS o t l.length x).2) else if (two 103 sk (signedS o t l.length x).1).2 ≠ 0 then (szero, (two 103 sk (signedS o t l.length x).1).2) else (⟨o, t, l.length, x, (two 103 sk (signedS o t l.length x).1).1⟩, 0) := by
    unfold buildS
    rw [if_neg (fun h => h ⟨h1, h2⟩), hx, if_neg (fun h => h rfl)]
  rw [hb]
  unfold sealS
  simp only [show ((l.length : Int)).toNat = l.length by omega]
  have h4 : (signedS o t l.length x).2 = 0 → right (signedS o t l.length x).1 = true := fun e1 => by
    have r1 := (signed_ok h2 e1).2
    rw [← (signed_ok h2 e1).1] at r1
    exact r1
  generalize signedS o t l.length x = sg at hb ht2 h4
  obtain ⟨sx, sf⟩ := sg
  simp only at ht2 h4
  by_cases e1 : sf = 0
  · subst e1
    have h3 := Dta.two_ten (k := 103) h1 (h4 rfl)
    generalize two 103 sk sx = gg at hb h3
    obtain ⟨gx, gf⟩ := gg
    by_cases e2 : gf = 0
    · subst e2; exact .inr ⟨rfl, rfl⟩
    · rcases h3 with h3 | h3
      · exact absurd h3 e2
      · obtain ⟨rfl, rfl⟩ := Prod.mk.inj h3
        exact .inl ⟨rfl, rfl⟩
  · rcases ht2 with h3 | h3
    · exact absurd h3 e1
    · subst h3; exact .inl ⟨rfl, rfl⟩
set_option maxHeartbeats 8000000 in
set_option maxRecDepth 1000000 in
theorem csigned_any (K O : ByteArray) (t n : Nat) (R G : ByteArray) (w : World) (hK : K.size ≤ 140737488351232) (hO : O.size ≤ 140737488351232) (hR : R.size ≤ 140737488351232) (ht : t < 18446744073709551616) (hn : n ≤ 9223372036854775807) :
    Calls Tryz.prog 24 #[.string K, .agg #[.string O, .int .u64 (t : Int), .int .i64 (n : Int), .string R, .string G]] w fun e w' => S1 (sealS K.data.toList ⟨O.data.toList, t, (n : Int), R.data.toList, G.data.toList⟩) e ∧ Below w.heap.size w w' := by
  have HSA := Lib.hid fun w => said_any O t n R G w hO hR ht hn
  have hl := signed_len O.data.toList R.data.toList t n
  have HSG : Hid (∀ (T : ByteArray) (w : World), T.data.toList = (signedS O.data.toList t n R.data.toList).1 → Calls Tryz.prog 51 #[.string K, .string T] w fun e w' => Sr (two 103 K.data.toList (signedS O.data.toList t n R.data.toList).1) e ∧ Below w.heap.size w w') := Lib.hid fun T w hT => by
    have h3 := Lib.size_eq R
    have := t_Sign K T w (by omega) (by rw [Lib.size_eq, hT]; omega)
    rw [hT] at this
    exact this
  obtain ⟨z, hz⟩ : ∃ z, sealS K.data.toList ⟨O.data.toList, t, (n : Int), R.data.toList, G.data.toList⟩ = z := ⟨_, rfl⟩
  rw [hz]
  unfold sealS at hz
  simp only [show ((n : Int)).toNat = n by omega] at hz
  obtain ⟨sx, sf, hs⟩ : ∃ sx sf, signedS O.data.toList t n R.data.toList = (sx, sf) := ⟨_, _, rfl⟩
  rw [hs] at HSA HSG hz
  simp only at HSG hz
  clear hl hs hK hO hR ht hn
  by_cases hf : sf = 0
  case neg =>
    rw [if_pos hf] at hz
    have HZ := Lib.hid hz
    have hfb : (sf == 0) = false := by simpa using hf
    have hfb2 : (sf != 0) = true := by simpa using hf
    clear hz hf
    go_enter Tryz.func24, Tryz.ntmps24
    go_wp2_with fail
    have hp5 := c5_pair w (.string O) (.int .u64 (t : Int)) (.int .i64 (n : Int)) (.string R) (.string G) (.string ⟨#[]⟩) (.int .u64 0) (.int .i64 0) (.string ⟨#[]⟩) (.string ⟨#[]⟩) 24 24
    generalize (w.alloc (.cells #[.string O, .int .u64 (t : Int), .int .i64 (n : Int), .string R, .string G] 24)).alloc (.cells #[.string ⟨#[]⟩, .int .u64 0, .int .i64 0, .string ⟨#[]⟩, .string ⟨#[]⟩] 24) = wSS at hp5 ⊢
    obtain ⟨hxS, hxT, hbS⟩ := hp5
    have HB1 := Lib.hid hbS
    have HXS := Lib.hid hxS
    have HXZ := Lib.hid hxT
    clear hbS hxS hxT
    with_reducible refine (HSA.out _).mono ?_
    rintro e w2 ⟨⟨T, hT, rfl⟩, hb2⟩
    have HB2 := Lib.hid (Bel.call HB1.out hb2)
    replace HXS := Lib.hid (HXS.out.below hb2)
    replace HXZ := Lib.hid (HXZ.out.below hb2)
    clear hb2
    try dsimp only at hT
    have HT := Lib.hid hT
    clear hT
    dsimp only
    obtain ⟨⟨nS, dS0, dS1, dS2, dS3, dS4⟩, kS0, kS1, kS2, kS3, kS4⟩ := HXS.out
    obtain ⟨⟨nZ, dZ0, dZ1, dZ2, dZ3, dZ4⟩, kZ0, kZ1, kZ2, kZ3, kZ4⟩ := HXZ.out
    go_wp2
    refine bodyPost_ret (v := Zs) (by simp [results, Tryz.results24, go_sem, Zs, dZ0, dZ1, dZ2, dZ3, dZ4]) rfl ?_
    exact ⟨⟨_, by rw [← HZ.out]; exact zs_is, rfl⟩, bel_set5 HB2.out (Nat.le_succ _)⟩
  subst hf
  rw [if_neg (fun h => h rfl)] at hz
  obtain ⟨gx, gf, hg⟩ : ∃ gx gf, two 103 K.data.toList sx = (gx, gf) := ⟨_, _, rfl⟩
  rw [hg] at HSG hz
  simp only at hz
  clear hg
  by_cases hf : gf = 0
  case neg =>
    rw [if_pos hf] at hz
    have HZ := Lib.hid hz
    have hfb : (gf == 0) = false := by simpa using hf
    have hfb2 : (gf != 0) = true := by simpa using hf
    clear hz hf
    go_enter Tryz.func24, Tryz.ntmps24
    go_wp2_with fail
    have hp5 := c5_pair w (.string O) (.int .u64 (t : Int)) (.int .i64 (n : Int)) (.string R) (.string G) (.string ⟨#[]⟩) (.int .u64 0) (.int .i64 0) (.string ⟨#[]⟩) (.string ⟨#[]⟩) 24 24
    generalize (w.alloc (.cells #[.string O, .int .u64 (t : Int), .int .i64 (n : Int), .string R, .string G] 24)).alloc (.cells #[.string ⟨#[]⟩, .int .u64 0, .int .i64 0, .string ⟨#[]⟩, .string ⟨#[]⟩] 24) = wSS at hp5 ⊢
    obtain ⟨hxS, hxT, hbS⟩ := hp5
    have HB1 := Lib.hid hbS
    have HXS := Lib.hid hxS
    have HXZ := Lib.hid hxT
    clear hbS hxS hxT
    with_reducible refine (HSA.out _).mono ?_
    rintro e w2 ⟨⟨T, hT, rfl⟩, hb2⟩
    have HB2 := Lib.hid (Bel.call HB1.out hb2)
    replace HXS := Lib.hid (HXS.out.below hb2)
    replace HXZ := Lib.hid (HXZ.out.below hb2)
    clear hb2
    try dsimp only at hT
    have HT := Lib.hid hT
    clear hT
    dsimp only
    obtain ⟨⟨nS, dS0, dS1, dS2, dS3, dS4⟩, kS0, kS1, kS2, kS3, kS4⟩ := HXS.out
    obtain ⟨⟨nZ, dZ0, dZ1, dZ2, dZ3, dZ4⟩, kZ0, kZ1, kZ2, kZ3, kZ4⟩ := HXZ.out
    clear nS dS0 dS1 dS2 dS3 dS4 kS0 kS1 kS2 kS3 kS4
    clear nZ dZ0 dZ1 dZ2 dZ3 dZ4 kZ0 kZ1 kZ2 kZ3 kZ4
    obtain ⟨⟨nS, dS0, dS1, dS2, dS3, dS4⟩, kS0, kS1, kS2, kS3, kS4⟩ := HXS.out
    obtain ⟨⟨nZ, dZ0, dZ1, dZ2, dZ3, dZ4⟩, kZ0, kZ1, kZ2, kZ3, kZ4⟩ := HXZ.out
    go_wp2_with fail
    with_reducible refine (HSG.out T _ HT.out).mono ?_
    rintro e w3 ⟨⟨U, hU, rfl⟩, hb3⟩
    have HB3 := Lib.hid (Bel.call HB2.out hb3)
    replace HXS := Lib.hid (HXS.out.below hb3)
    replace HXZ := Lib.hid (HXZ.out.below hb3)
    clear hb3
    try dsimp only at hU
    have HU := Lib.hid hU
    clear hU
    dsimp only
    clear nS dS0 dS1 dS2 dS3 dS4 kS0 kS1 kS2 kS3 kS4
    clear nZ dZ0 dZ1 dZ2 dZ3 dZ4 kZ0 kZ1 kZ2 kZ3 kZ4
    obtain ⟨⟨nS, dS0, dS1, dS2, dS3, dS4⟩, kS0, kS1, kS2, kS3, kS4⟩ := HXS.out
    obtain ⟨⟨nZ, dZ0, dZ1, dZ2, dZ3, dZ4⟩, kZ0, kZ1, kZ2, kZ3, kZ4⟩ := HXZ.out
    have HSX := Lib.hid (HXS.out.set4 (v := .string U))
    have HZX := Lib.hid (HXZ.out.other (j := 4) (v := .string U) (b0 := w.heap.size) (by omega))
    go_wp2_with fail
    clear nS dS0 dS1 dS2 dS3 dS4 kS0 kS1 kS2 kS3 kS4
    clear nZ dZ0 dZ1 dZ2 dZ3 dZ4 kZ0 kZ1 kZ2 kZ3 kZ4
    obtain ⟨⟨_, dZ0, dZ1, dZ2, dZ3, dZ4⟩, kZ0, kZ1, kZ2, kZ3, kZ4⟩ := HZX.out
    go_wp2
    refine bodyPost_ret (v := Zs) (by simp [results, Tryz.results24, go_sem, Zs, dZ0, dZ1, dZ2, dZ3, dZ4]) rfl ?_
    exact ⟨⟨_, by rw [← HZ.out]; exact zs_is, rfl⟩, bel_set5 (HB3.out.setCell (Nat.le_refl _) _) (Nat.le_succ _)⟩
  subst hf
  rw [if_neg (fun h => h rfl)] at hz
  have HZ := Lib.hid hz
  clear hz
  go_enter Tryz.func24, Tryz.ntmps24
  go_wp2_with fail
  have hp5 := c5_pair w (.string O) (.int .u64 (t : Int)) (.int .i64 (n : Int)) (.string R) (.string G) (.string ⟨#[]⟩) (.int .u64 0) (.int .i64 0) (.string ⟨#[]⟩) (.string ⟨#[]⟩) 24 24
  generalize (w.alloc (.cells #[.string O, .int .u64 (t : Int), .int .i64 (n : Int), .string R, .string G] 24)).alloc (.cells #[.string ⟨#[]⟩, .int .u64 0, .int .i64 0, .string ⟨#[]⟩, .string ⟨#[]⟩] 24) = wSS at hp5 ⊢
  obtain ⟨hxS, hxT, hbS⟩ := hp5
  have HB1 := Lib.hid hbS
  have HXS := Lib.hid hxS
  have HXZ := Lib.hid hxT
  clear hbS hxS hxT
  with_reducible refine (HSA.out _).mono ?_
  rintro e w2 ⟨⟨T, hT, rfl⟩, hb2⟩
  have HB2 := Lib.hid (Bel.call HB1.out hb2)
  replace HXS := Lib.hid (HXS.out.below hb2)
  replace HXZ := Lib.hid (HXZ.out.below hb2)
  clear hb2
  try dsimp only at hT
  have HT := Lib.hid hT
  clear hT
  dsimp only
  obtain ⟨⟨nS, dS0, dS1, dS2, dS3, dS4⟩, kS0, kS1, kS2, kS3, kS4⟩ := HXS.out
  obtain ⟨⟨nZ, dZ0, dZ1, dZ2, dZ3, dZ4⟩, kZ0, kZ1, kZ2, kZ3, kZ4⟩ := HXZ.out
  clear nS dS0 dS1 dS2 dS3 dS4 kS0 kS1 kS2 kS3 kS4
  clear nZ dZ0 dZ1 dZ2 dZ3 dZ4 kZ0 kZ1 kZ2 kZ3 kZ4
  obtain ⟨⟨nS, dS0, dS1, dS2, dS3, dS4⟩, kS0, kS1, kS2, kS3, kS4⟩ := HXS.out
  obtain ⟨⟨nZ, dZ0, dZ1, dZ2, dZ3, dZ4⟩, kZ0, kZ1, kZ2, kZ3, kZ4⟩ := HXZ.out
  go_wp2_with fail
  with_reducible refine (HSG.out T _ HT.out).mono ?_
  rintro e w3 ⟨⟨U, hU, rfl⟩, hb3⟩
  have HB3 := Lib.hid (Bel.call HB2.out hb3)
  replace HXS := Lib.hid (HXS.out.below hb3)
  replace HXZ := Lib.hid (HXZ.out.below hb3)
  clear hb3
  try dsimp only at hU
  have HU := Lib.hid hU
  clear hU
  dsimp only
  clear nS dS0 dS1 dS2 dS3 dS4 kS0 kS1 kS2 kS3 kS4
  clear nZ dZ0 dZ1 dZ2 dZ3 dZ4 kZ0 kZ1 kZ2 kZ3 kZ4
  obtain ⟨⟨nS, dS0, dS1, dS2, dS3, dS4⟩, kS0, kS1, kS2, kS3, kS4⟩ := HXS.out
  obtain ⟨⟨nZ, dZ0, dZ1, dZ2, dZ3, dZ4⟩, kZ0, kZ1, kZ2, kZ3, kZ4⟩ := HXZ.out
  have HZX := Lib.hid (HXZ.out.other (j := 4) (v := .string U) (b0 := w.heap.size) (by omega))
  go_wp2
  clear nZ dZ0 dZ1 dZ2 dZ3 dZ4 kZ0 kZ1 kZ2 kZ3 kZ4
  obtain ⟨⟨_, dZ0, dZ1, dZ2, dZ3, dZ4⟩, kZ0, kZ1, kZ2, kZ3, kZ4⟩ := HZX.out
  refine bodyPost_ret (v := .agg #[.string O, .int .u64 (t : Int), .int .i64 (n : Int), .string R, .string U]) (by simp [results, Tryz.results24, go_sem, dZ0, dZ1, dZ2, dZ3, dZ4]) rfl ?_
  exact ⟨⟨_, by rw [← HZ.out]; exact ⟨O, R, U, rfl, rfl, HU.out, rfl⟩, rfl⟩, bel_set5 (HB3.out.setCell (Nat.le_refl _) _) (Nat.le_succ _)⟩
end Go.Proofs.YtmmeklemaofmjaaGreat.Frs
