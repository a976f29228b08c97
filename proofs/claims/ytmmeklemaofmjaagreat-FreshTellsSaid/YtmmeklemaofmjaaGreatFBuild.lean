/-
  THE LANDED CODE (package fresh): Build. By an AI agent; no person has read it.
-/
import Derived.Test.YtmmeklemaofmjaaGreatFSign
namespace Go.Proofs.YtmmeklemaofmjaaGreat.Frs
open Go Go.RowKit Wire Term Draw Reg Clo

set_option linter.unusedSimpArgs false
set_option linter.unusedVariables false
set_option maxHeartbeats 8000000 in
set_option maxRecDepth 1000000 in
theorem cbuild_any (K O : ByteArray) (t : Nat) (A : Option Addr) (c : Nat) (ys : List ByteArray) (w : World) (hK : K.size ≤ 140737488351232) (hO : O.size ≤ 140737488351232) (ht : t < 18446744073709551616) (hr : SReads w A ys) (hc : ys.length ≤ c) (hc2 : c ≤ 9223372036854775807) (hz : ∀ y ∈ ys, y.size ≤ 140737488355328) :
    Calls Tryz.prog 7 #[.string K, .string O, .int .u64 (t : Int), .slice A ys.length c] w fun e w' => Ss (buildS K.data.toList O.data.toList t (bl ys)) e ∧ Below w.heap.size w w' := by
  have HT := Lib.hid fun w => isTerm_any K w (by omega)
  have HN := Lib.hid fun w => right_any O w
  have HRO := Lib.hid fun w h => rootOf_any A c ys w h hc hc2 hz
  have hlen : (bl ys).length = ys.length := by simp [bl]
  have HSN : Hid (∀ (X : ByteArray) (w : World), X.size ≤ 4000 → Calls Tryz.prog 24 #[.string K, .agg #[.string O, .int .u64 (t : Int), .int .i64 (ys.length : Int), .string X, .string ⟨#[]⟩]] w fun e w' => S1 (sealS K.data.toList ⟨O.data.toList, t, (ys.length : Int), X.data.toList, []⟩) e ∧ Below w.heap.size w w') := Lib.hid fun X w hX => csigned_any K O t ys.length X ⟨#[]⟩ w hK hO (by omega) ht (by omega)
  obtain ⟨z, f, hz'⟩ : ∃ z f, buildS K.data.toList O.data.toList t (bl ys) = (z, f) := ⟨_, _, rfl⟩
  rw [hz']
  have HR := Lib.hid hr
  have HL := Lib.hid hlen
  have HTT := Lib.hid ht
  clear hz hK hO hr hc hc2 hlen ht
  obtain ⟨v1, hv1⟩ : ∃ v, right K.data.toList = v := ⟨_, rfl⟩
  obtain ⟨v2, hv2⟩ : ∃ v, Txt.right O.data.toList = v := ⟨_, rfl⟩
  rw [hv1] at HT
  rw [hv2] at HN
  cases v1 with
  | false =>
    obtain ⟨rfl, rfl⟩ : szero = z ∧ (1 : Int) = f := Prod.mk.inj (by rw [← hz']; unfold buildS; rw [if_pos (fun h => by rw [hv1] at h; cases h.1)])
    go_enter Tryz.func7, Tryz.ntmps7
    go_wp2_with fail
    have hbS : Below w.heap.size w (w.alloc (.cells #[.string ⟨#[]⟩, .int .u64 0, .int .i64 0, .string ⟨#[]⟩, .string ⟨#[]⟩] 24)) := (Below.refl w.heap.size w).alloc (Nat.le_refl _) _
    have hxS := c5_new w (.string ⟨#[]⟩) (.int .u64 0) (.int .i64 0) (.string ⟨#[]⟩) (.string ⟨#[]⟩) 24
    generalize w.alloc (.cells #[.string ⟨#[]⟩, .int .u64 0, .int .i64 0, .string ⟨#[]⟩, .string ⟨#[]⟩] 24) = wSZ at hbS hxS ⊢
    have HB1 := Lib.hid hbS
    replace HR := Lib.hid (HR.out.below hbS (Nat.le_refl _))
    have HXZ := Lib.hid hxS
    clear hbS hxS
    with_reducible refine (HT.out _).mono ?_
    rintro e w2 ⟨rfl, hb2⟩
    have HB2 := Lib.hid (Bel.call HB1.out hb2)
    replace HR := Lib.hid (HR.out.below hb2 (Nat.le_refl _))
    replace HXZ := Lib.hid (HXZ.out.below hb2)
    clear hb2
    dsimp only
    obtain ⟨⟨nZ, dZ0, dZ1, dZ2, dZ3, dZ4⟩, kZ0, kZ1, kZ2, kZ3, kZ4⟩ := HXZ.out
    go_wp2
    refine bodyPost_ret (v := .tuple #[Zs, .int .i64 1]) (by simp [results, Tryz.results7, go_sem, Zs, dZ0, dZ1, dZ2, dZ3, dZ4]) rfl ?_
    exact ⟨⟨_, zs_is, rfl⟩, bel_set5 HB2.out (Nat.le_refl _)⟩
  | true =>
  cases v2 with
  | false =>
    obtain ⟨rfl, rfl⟩ : szero = z ∧ (1 : Int) = f := Prod.mk.inj (by rw [← hz']; unfold buildS; rw [if_pos (fun h => by rw [hv2] at h; cases h.2)])
    go_enter Tryz.func7, Tryz.ntmps7
    go_wp2_with fail
    have hbS : Below w.heap.size w (w.alloc (.cells #[.string ⟨#[]⟩, .int .u64 0, .int .i64 0, .string ⟨#[]⟩, .string ⟨#[]⟩] 24)) := (Below.refl w.heap.size w).alloc (Nat.le_refl _) _
    have hxS := c5_new w (.string ⟨#[]⟩) (.int .u64 0) (.int .i64 0) (.string ⟨#[]⟩) (.string ⟨#[]⟩) 24
    generalize w.alloc (.cells #[.string ⟨#[]⟩, .int .u64 0, .int .i64 0, .string ⟨#[]⟩, .string ⟨#[]⟩] 24) = wSZ at hbS hxS ⊢
    have HB1 := Lib.hid hbS
    replace HR := Lib.hid (HR.out.below hbS (Nat.le_refl _))
    have HXZ := Lib.hid hxS
    clear hbS hxS
    with_reducible refine (HT.out _).mono ?_
    rintro e w2 ⟨rfl, hb2⟩
    have HB2 := Lib.hid (Bel.call HB1.out hb2)
    replace HR := Lib.hid (HR.out.below hb2 (Nat.le_refl _))
    replace HXZ := Lib.hid (HXZ.out.below hb2)
    clear hb2
    dsimp only
    go_wp2_with fail
    with_reducible refine (HN.out _).mono ?_
    rintro e w3 ⟨rfl, hb3⟩
    have HB3 := Lib.hid (Bel.call HB2.out hb3)
    replace HR := Lib.hid (HR.out.below hb3 (Nat.le_refl _))
    replace HXZ := Lib.hid (HXZ.out.below hb3)
    clear hb3
    dsimp only
    obtain ⟨⟨nZ, dZ0, dZ1, dZ2, dZ3, dZ4⟩, kZ0, kZ1, kZ2, kZ3, kZ4⟩ := HXZ.out
    go_wp2
    refine bodyPost_ret (v := .tuple #[Zs, .int .i64 1]) (by simp [results, Tryz.results7, go_sem, Zs, dZ0, dZ1, dZ2, dZ3, dZ4]) rfl ?_
    exact ⟨⟨_, zs_is, rfl⟩, bel_set5 HB3.out (Nat.le_refl _)⟩
  | true =>
  obtain ⟨rx, rf, hrx⟩ : ∃ rx rf, rootS (bl ys) = (rx, rf) := ⟨_, _, rfl⟩
  rw [hrx] at HRO
  by_cases hf : rf = 0
  case neg =>
    obtain ⟨rfl, rfl⟩ : szero = z ∧ rf = f := Prod.mk.inj (by rw [← hz']; unfold buildS; rw [if_neg (fun h => h ⟨hv1, hv2⟩), hrx, if_pos hf])
    have hfb : (rf == 0) = false := by simpa using hf
    have hfb2 : (rf != 0) = true := by simpa using hf
    clear hf hrx hz' hv1 hv2
    go_enter Tryz.func7, Tryz.ntmps7
    go_wp2_with fail
    have hbS : Below w.heap.size w (w.alloc (.cells #[.string ⟨#[]⟩, .int .u64 0, .int .i64 0, .string ⟨#[]⟩, .string ⟨#[]⟩] 24)) := (Below.refl w.heap.size w).alloc (Nat.le_refl _) _
    have hxS := c5_new w (.string ⟨#[]⟩) (.int .u64 0) (.int .i64 0) (.string ⟨#[]⟩) (.string ⟨#[]⟩) 24
    generalize w.alloc (.cells #[.string ⟨#[]⟩, .int .u64 0, .int .i64 0, .string ⟨#[]⟩, .string ⟨#[]⟩] 24) = wSZ at hbS hxS ⊢
    have HB1 := Lib.hid hbS
    replace HR := Lib.hid (HR.out.below hbS (Nat.le_refl _))
    have HXZ := Lib.hid hxS
    clear hbS hxS
    with_reducible refine (HT.out _).mono ?_
    rintro e w2 ⟨rfl, hb2⟩
    have HB2 := Lib.hid (Bel.call HB1.out hb2)
    replace HR := Lib.hid (HR.out.below hb2 (Nat.le_refl _))
    replace HXZ := Lib.hid (HXZ.out.below hb2)
    clear hb2
    dsimp only
    go_wp2_with fail
    with_reducible refine (HN.out _).mono ?_
    rintro e w3 ⟨rfl, hb3⟩
    have HB3 := Lib.hid (Bel.call HB2.out hb3)
    replace HR := Lib.hid (HR.out.below hb3 (Nat.le_refl _))
    replace HXZ := Lib.hid (HXZ.out.below hb3)
    clear hb3
    dsimp only
    go_wp2_with fail
    with_reducible refine (HRO.out _ HR.out).mono ?_
    rintro e w4 ⟨⟨X, hX, rfl⟩, hb4⟩
    have HB4 := Lib.hid (Bel.call HB3.out hb4)
    replace HR := Lib.hid (HR.out.below hb4 (Nat.le_refl _))
    replace HXZ := Lib.hid (HXZ.out.below hb4)
    clear hb4
    try dsimp only at hX
    have HX := Lib.hid hX
    clear hX
    dsimp only
    obtain ⟨⟨nZ, dZ0, dZ1, dZ2, dZ3, dZ4⟩, kZ0, kZ1, kZ2, kZ3, kZ4⟩ := HXZ.out
    go_wp2
    refine bodyPost_ret (v := .tuple #[Zs, .int .i64 rf]) (by simp [results, Tryz.results7, go_sem, Zs, dZ0, dZ1, dZ2, dZ3, dZ4]) rfl ?_
    exact ⟨⟨_, zs_is, rfl⟩, bel_set5 HB4.out (Nat.le_refl _)⟩
  subst hf
  have hX : ∀ X : ByteArray, X.data.toList = rx → X.size ≤ 4000 := fun X h => by
    have := rootS_len (bl ys)
    rw [hrx] at this
    rw [Lib.size_eq, h]; exact this
  have HXL := Lib.hid hX
  have hsb := seal_build hv1 hv2 hrx HTT.out
  rw [HL.out, hz'] at hsb
  obtain ⟨q, hq⟩ : ∃ q, sealS K.data.toList ⟨O.data.toList, t, (ys.length : Int), rx, []⟩ = q := ⟨_, rfl⟩
  rw [hq] at hsb
  replace HSN : Hid (∀ (X : ByteArray) (w : World), X.data.toList = rx → Calls Tryz.prog 24 #[.string K, .agg #[.string O, .int .u64 (t : Int), .int .i64 (ys.length : Int), .string X, .string ⟨#[]⟩]] w fun e w' => S1 q e ∧ Below w.heap.size w w') := Lib.hid fun X w h => by
    have := HSN.out X w (HXL.out X h)
    rw [h, hq] at this
    exact this
  have hO0 : ∀ P : ByteArray, P.data.toList = O.data.toList → P.data.toList ≠ [] := fun P h e => by
    rw [← h, e] at hv2; revert hv2; decide
  have HO0 := Lib.hid hO0
  clear hX hO0 hq hz' hv1 hrx hv2
  rcases hsb with ⟨rfl, h2⟩ | ⟨h1, h2⟩
  · go_enter Tryz.func7, Tryz.ntmps7
    go_wp2_with fail
    have hbS : Below w.heap.size w (w.alloc (.cells #[.string ⟨#[]⟩, .int .u64 0, .int .i64 0, .string ⟨#[]⟩, .string ⟨#[]⟩] 24)) := (Below.refl w.heap.size w).alloc (Nat.le_refl _) _
    have hxS := c5_new w (.string ⟨#[]⟩) (.int .u64 0) (.int .i64 0) (.string ⟨#[]⟩) (.string ⟨#[]⟩) 24
    generalize w.alloc (.cells #[.string ⟨#[]⟩, .int .u64 0, .int .i64 0, .string ⟨#[]⟩, .string ⟨#[]⟩] 24) = wSZ at hbS hxS ⊢
    have HB1 := Lib.hid hbS
    replace HR := Lib.hid (HR.out.below hbS (Nat.le_refl _))
    have HXZ := Lib.hid hxS
    clear hbS hxS
    with_reducible refine (HT.out _).mono ?_
    rintro e w2 ⟨rfl, hb2⟩
    have HB2 := Lib.hid (Bel.call HB1.out hb2)
    replace HR := Lib.hid (HR.out.below hb2 (Nat.le_refl _))
    replace HXZ := Lib.hid (HXZ.out.below hb2)
    clear hb2
    dsimp only
    go_wp2_with fail
    with_reducible refine (HN.out _).mono ?_
    rintro e w3 ⟨rfl, hb3⟩
    have HB3 := Lib.hid (Bel.call HB2.out hb3)
    replace HR := Lib.hid (HR.out.below hb3 (Nat.le_refl _))
    replace HXZ := Lib.hid (HXZ.out.below hb3)
    clear hb3
    dsimp only
    go_wp2_with fail
    with_reducible refine (HRO.out _ HR.out).mono ?_
    rintro e w4 ⟨⟨X, hX, rfl⟩, hb4⟩
    have HB4 := Lib.hid (Bel.call HB3.out hb4)
    replace HR := Lib.hid (HR.out.below hb4 (Nat.le_refl _))
    replace HXZ := Lib.hid (HXZ.out.below hb4)
    clear hb4
    try dsimp only at hX
    have HX := Lib.hid hX
    clear hX
    dsimp only
    obtain ⟨⟨nZ, dZ0, dZ1, dZ2, dZ3, dZ4⟩, kZ0, kZ1, kZ2, kZ3, kZ4⟩ := HXZ.out
    go_wp2_with fail
    with_reducible refine (HSN.out X _ HX.out).mono ?_
    rintro e w5 ⟨hx, hb5⟩
    have HB5 := Lib.hid (Bel.call HB4.out hb5)
    replace HR := Lib.hid (HR.out.below hb5 (Nat.le_refl _))
    replace HXZ := Lib.hid (HXZ.out.below hb5)
    clear hb5
    obtain rfl := s1_zero hx
    clear hx
    dsimp only
    clear nZ dZ0 dZ1 dZ2 dZ3 dZ4 kZ0 kZ1 kZ2 kZ3 kZ4
    go_wp2_with fail
    have hbS : Below w5.heap.size w5 (w5.alloc (.cells #[.string ⟨#[]⟩, .int .u64 0, .int .i64 0, .string ⟨#[]⟩, .string ⟨#[]⟩] 24)) := (Below.refl w5.heap.size w5).alloc (Nat.le_refl _) _
    have hxS := c5_new w5 (.string ⟨#[]⟩) (.int .u64 0) (.int .i64 0) (.string ⟨#[]⟩) (.string ⟨#[]⟩) 24
    generalize w5.alloc (.cells #[.string ⟨#[]⟩, .int .u64 0, .int .i64 0, .string ⟨#[]⟩, .string ⟨#[]⟩] 24) = wSS at hbS hxS ⊢
    have HB6 := Lib.hid (Bel.call HB5.out hbS)
    replace HR := Lib.hid (HR.out.below hbS (Nat.le_refl _))
    replace HXZ := Lib.hid (HXZ.out.below hbS)
    have HXS := Lib.hid hxS
    clear hbS hxS
    with_reducible refine (isNothing_zero _).mono ?_
    rintro e w7 ⟨rfl, hb7⟩
    have HB7 := Lib.hid (Bel.call HB6.out hb7)
    replace HR := Lib.hid (HR.out.below hb7 (Nat.le_refl _))
    replace HXZ := Lib.hid (HXZ.out.below hb7)
    replace HXS := Lib.hid (HXS.out.below hb7)
    clear hb7
    dsimp only
    obtain ⟨rfl, rfl⟩ := Prod.mk.inj h2
    obtain ⟨⟨nZ, dZ0, dZ1, dZ2, dZ3, dZ4⟩, kZ0, kZ1, kZ2, kZ3, kZ4⟩ := HXZ.out
    go_wp2
    refine bodyPost_ret (v := .tuple #[Zs, .int .i64 10]) (by simp [results, Tryz.results7, go_sem, Zs, dZ0, dZ1, dZ2, dZ3, dZ4]) rfl ?_
    exact ⟨⟨_, zs_is, rfl⟩, bel_set5 HB7.out (Nat.le_refl _)⟩
  · go_enter Tryz.func7, Tryz.ntmps7
    go_wp2_with fail
    have hbS : Below w.heap.size w (w.alloc (.cells #[.string ⟨#[]⟩, .int .u64 0, .int .i64 0, .string ⟨#[]⟩, .string ⟨#[]⟩] 24)) := (Below.refl w.heap.size w).alloc (Nat.le_refl _) _
    have hxS := c5_new w (.string ⟨#[]⟩) (.int .u64 0) (.int .i64 0) (.string ⟨#[]⟩) (.string ⟨#[]⟩) 24
    generalize w.alloc (.cells #[.string ⟨#[]⟩, .int .u64 0, .int .i64 0, .string ⟨#[]⟩, .string ⟨#[]⟩] 24) = wSZ at hbS hxS ⊢
    have HB1 := Lib.hid hbS
    replace HR := Lib.hid (HR.out.below hbS (Nat.le_refl _))
    have HXZ := Lib.hid hxS
    clear hbS hxS
    with_reducible refine (HT.out _).mono ?_
    rintro e w2 ⟨rfl, hb2⟩
    have HB2 := Lib.hid (Bel.call HB1.out hb2)
    replace HR := Lib.hid (HR.out.below hb2 (Nat.le_refl _))
    replace HXZ := Lib.hid (HXZ.out.below hb2)
    clear hb2
    dsimp only
    go_wp2_with fail
    with_reducible refine (HN.out _).mono ?_
    rintro e w3 ⟨rfl, hb3⟩
    have HB3 := Lib.hid (Bel.call HB2.out hb3)
    replace HR := Lib.hid (HR.out.below hb3 (Nat.le_refl _))
    replace HXZ := Lib.hid (HXZ.out.below hb3)
    clear hb3
    dsimp only
    go_wp2_with fail
    with_reducible refine (HRO.out _ HR.out).mono ?_
    rintro e w4 ⟨⟨X, hX, rfl⟩, hb4⟩
    have HB4 := Lib.hid (Bel.call HB3.out hb4)
    replace HR := Lib.hid (HR.out.below hb4 (Nat.le_refl _))
    replace HXZ := Lib.hid (HXZ.out.below hb4)
    clear hb4
    try dsimp only at hX
    have HX := Lib.hid hX
    clear hX
    dsimp only
    obtain ⟨⟨nZ, dZ0, dZ1, dZ2, dZ3, dZ4⟩, kZ0, kZ1, kZ2, kZ3, kZ4⟩ := HXZ.out
    go_wp2_with fail
    with_reducible refine (HSN.out X _ HX.out).mono ?_
    rintro e w5 ⟨hx, hb5⟩
    have HB5 := Lib.hid (Bel.call HB4.out hb5)
    replace HR := Lib.hid (HR.out.below hb5 (Nat.le_refl _))
    replace HXZ := Lib.hid (HXZ.out.below hb5)
    clear hb5
    obtain ⟨PO, PR, PG, hPO, hPR, hPG, rfl⟩ := s1_open hx
    have HPO := Lib.hid hPO
    have HPR := Lib.hid hPR
    have HPG := Lib.hid hPG
    clear hx hPO hPR hPG
    dsimp only
    clear nZ dZ0 dZ1 dZ2 dZ3 dZ4 kZ0 kZ1 kZ2 kZ3 kZ4
    go_wp2_with fail
    have hbS : Below w5.heap.size w5 (w5.alloc (.cells #[.string PO, .int .u64 (q.time : Int), .int .i64 q.many, .string PR, .string PG] 24)) := (Below.refl w5.heap.size w5).alloc (Nat.le_refl _) _
    have hxS := c5_new w5 (.string PO) (.int .u64 (q.time : Int)) (.int .i64 q.many) (.string PR) (.string PG) 24
    generalize w5.alloc (.cells #[.string PO, .int .u64 (q.time : Int), .int .i64 q.many, .string PR, .string PG] 24) = wSS at hbS hxS ⊢
    have HB6 := Lib.hid (Bel.call HB5.out hbS)
    replace HR := Lib.hid (HR.out.below hbS (Nat.le_refl _))
    replace HXZ := Lib.hid (HXZ.out.below hbS)
    have HXS := Lib.hid hxS
    clear hbS hxS
    with_reducible refine (isNothing_own PO PR PG q.time q.many _ (HO0.out PO (HPO.out.trans h1))).mono ?_
    rintro e w7 ⟨rfl, hb7⟩
    have HB7 := Lib.hid (Bel.call HB6.out hb7)
    replace HR := Lib.hid (HR.out.below hb7 (Nat.le_refl _))
    replace HXZ := Lib.hid (HXZ.out.below hb7)
    replace HXS := Lib.hid (HXS.out.below hb7)
    clear hb7
    dsimp only
    obtain ⟨⟨nS, dS0, dS1, dS2, dS3, dS4⟩, kS0, kS1, kS2, kS3, kS4⟩ := HXS.out
    obtain ⟨⟨nZ, dZ0, dZ1, dZ2, dZ3, dZ4⟩, kZ0, kZ1, kZ2, kZ3, kZ4⟩ := HXZ.out
    go_wp2
    refine bodyPost_ret (v := .tuple #[(.agg #[.string PO, .int .u64 (q.time : Int), .int .i64 q.many, .string PR, .string PG]), .int .i64 0]) (by simp [results, Tryz.results7, go_sem, Zs, dZ0, dZ1, dZ2, dZ3, dZ4]) rfl ?_
    obtain ⟨rfl, rfl⟩ := Prod.mk.inj h2
    exact ⟨⟨_, ⟨PO, PR, PG, HPO.out, HPR.out, HPG.out, rfl⟩, rfl⟩, bel_set5 HB7.out (Nat.le_refl _)⟩
end Go.Proofs.YtmmeklemaofmjaaGreat.Frs
