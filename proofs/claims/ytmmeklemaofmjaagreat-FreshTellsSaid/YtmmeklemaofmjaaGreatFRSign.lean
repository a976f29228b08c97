/-
  THE DOCUMENT's ANSWER (letterlockref11): signed. By an AI agent; no person has read it.
-/
import Derived.Test.YtmmeklemaofmjaaGreatFSign
import Derived.Test.YtmmeklemaofmjaaGreatP3
namespace Go.Proofs.YtmmeklemaofmjaaGreat.Frs
open Go Go.RowKit Wire Term Draw Reg Clo

set_option linter.unusedSimpArgs false
set_option linter.unusedVariables false
set_option maxHeartbeats 8000000 in
set_option maxRecDepth 1000000 in
theorem rsigned_any (O : ByteArray) (t n : Nat) (R G : ByteArray) (w : World) (hO : O.size ≤ 140737488351232) (hR : R.size ≤ 140737488351232) (ht : t < 18446744073709551616) (hn : n ≤ 9223372036854775807) :
    Calls Tryz.prog 30 #[.agg #[.string O, .int .u64 (t : Int), .int .i64 (n : Int), .string R, .string G]] w fun e w' => Sr (signedS O.data.toList t n R.data.toList) e ∧ Below w.heap.size w w' := by
  have cw : IntKind.u64.wrap (n : Int) = (n : Int) := by rw [IntKind.wrap_u64]; omega
  have HOT := Lib.hid fun w => ofText_any O w (by omega)
  have HAN : Hid (∀ w, Calls Tryz.prog 60 #[.int .u64 (n : Int)] w fun e w' => e = .returned (.string ⟨⟨ofAtom n⟩⟩) ∧ Below w.heap.size w w') := Lib.hid fun w => (ofAtom_any n w (by omega)).mono fun e w' h => ⟨st_fix h.1, h.2⟩
  have HAT : Hid (∀ w, Calls Tryz.prog 60 #[.int .u64 (t : Int)] w fun e w' => e = .returned (.string ⟨⟨ofAtom t⟩⟩) ∧ Below w.heap.size w w') := Lib.hid fun w => (ofAtom_any t w ht).mono fun e w' h => ⟨st_fix h.1, h.2⟩
  obtain ⟨PN, hPN⟩ : ∃ P : ByteArray, (⟨⟨ofAtom n⟩⟩ : ByteArray) = P := ⟨_, rfl⟩
  obtain ⟨PT, hPT⟩ : ∃ P : ByteArray, (⟨⟨ofAtom t⟩⟩ : ByteArray) = P := ⟨_, rfl⟩
  have hQN : PN.data.toList = ofAtom n := by rw [← hPN]
  have hQT : PT.data.toList = ofAtom t := by rw [← hPT]
  rw [hPN] at HAN
  rw [hPT] at HAT
  have la := atom_len (show n < 18446744073709551616 by omega)
  have lt := atom_len ht
  have hsz := Lib.size_eq R
  obtain ⟨so, hso⟩ : ∃ so, signedS O.data.toList t n R.data.toList = so := ⟨_, rfl⟩
  rw [hso]
  unfold signedS at hso
  have HP1 : Hid (∀ w, Calls Tryz.prog 59 #[.string PN, .string R] w fun e w' => Sr (two 112 (ofAtom n) R.data.toList) e ∧ Below w.heap.size w w') := Lib.hid fun w => by
    have := ofPair_any PN R w (by rw [Lib.size_eq, hQN]; omega) (by omega)
    rw [hQN] at this
    exact this
  have l1 := two_len (k := 112) (a := ofAtom n) (b := R.data.toList)
  obtain ⟨x1, f1, h1⟩ : ∃ x f, two 112 (ofAtom n) R.data.toList = (x, f) := ⟨_, _, rfl⟩
  rw [h1] at HP1 hso l1
  simp only at hso l1
  have HP2 : Hid (∀ (T : ByteArray) (w : World), T.data.toList = x1 → Calls Tryz.prog 59 #[.string PT, .string T] w fun e w' => Sr (two 112 (ofAtom t) x1) e ∧ Below w.heap.size w w') := Lib.hid fun T w hT => by
    have := ofPair_any PT T w (by rw [Lib.size_eq, hQT]; omega) (by rw [Lib.size_eq, hT]; omega)
    rw [hQT, hT] at this
    exact this
  have l2 := two_len (k := 112) (a := ofAtom t) (b := x1)
  obtain ⟨x2, f2, h2⟩ : ∃ x f, two 112 (ofAtom t) x1 = (x, f) := ⟨_, _, rfl⟩
  rw [h2] at HP2 hso l2
  simp only at hso l2
  have l3 := ofText_len O.data.toList
  obtain ⟨ox, of, ho⟩ : ∃ x f, ofText O.data.toList = (x, f) := ⟨_, _, rfl⟩
  rw [ho] at HOT hso l3
  simp only at hso l3
  have HP3 : Hid (∀ (P T : ByteArray) (w : World), P.data.toList = ox → T.data.toList = x2 → Calls Tryz.prog 59 #[.string P, .string T] w fun e w' => Sr (two 112 ox x2) e ∧ Below w.heap.size w w') := Lib.hid fun P T w hP hT => by
    have := ofPair_any P T w (by rw [Lib.size_eq, hP]; omega) (by rw [Lib.size_eq, hT]; omega)
    rw [hP, hT] at this
    exact this
  obtain ⟨x3, f3, h3⟩ : ∃ x f, two 112 ox x2 = (x, f) := ⟨_, _, rfl⟩
  rw [h3] at HP3 hso
  clear hQN hQT hPN hPT la lt hsz l1 l2 l3 h1 h2 h3 ho hO hR ht hn
  by_cases hf : f1 = 0
  case neg =>
    rw [if_pos hf] at hso
    have HX := Lib.hid hso
    have hfb : (f1 == 0) = false := by simpa using hf
    have hfb2 : (f1 != 0) = true := by simpa using hf
    clear hso hf
    go_enter Tryz.func30, Tryz.ntmps30
    go_wp2_with fail
    have hbS : Below w.heap.size w (w.alloc (.cells #[.string O, .int .u64 (t : Int), .int .i64 (n : Int), .string R, .string G] 28)) := (Below.refl w.heap.size w).alloc (Nat.le_refl _) _
    have hxS := c5_new w (.string O) (.int .u64 (t : Int)) (.int .i64 (n : Int)) (.string R) (.string G) 28
    generalize w.alloc (.cells #[.string O, .int .u64 (t : Int), .int .i64 (n : Int), .string R, .string G] 28) = wSS at hbS hxS ⊢
    have HB1 := Lib.hid hbS
    have HXS := Lib.hid hxS
    clear hbS hxS
    have hdr : Below wSS.heap.size wSS wSS.drew := Below.drewN' (Below.refl wSS.heap.size wSS) 1
    refine wp_region_held_drew (S := fun w' => C5 w.heap.size w' (.string O) (.int .u64 (t : Int)) (.int .i64 (n : Int)) (.string R) (.string G)) (by kernel_rfl) (HXS.out.below hdr) (fun hHeld => ?_)
    clear hHeld
    generalize wSS.drew = wd1 at hdr ⊢
    have HB2 := Lib.hid (Bel.call HB1.out hdr)
    replace HXS := Lib.hid (HXS.out.below hdr)
    clear hdr
    have hHeld : C5 w.heap.size wd1 (.string O) (.int .u64 (t : Int)) (.int .i64 (n : Int)) (.string R) (.string G) := HXS.out
    refine wpAnyH_take (i := 0) (v := ?_) (by rw [List.getElem?_toArray]; rfl) (by kernel_rfl) (by kernel_rfl) (by kernel_rfl) (by exact fun _ _ _ h => h) (Or.inl ⟨by rfl, ?_⟩) (by assumption) ?_
    rotate_left
    · intro w' hSw
      go_simp
      try with_reducible rfl
    try simp only [Act.put, List.setIfInBounds_toArray, List.set_cons_zero, List.set_cons_succ]
    refine wpAnyH_take (i := 1) (v := ?_) (by rw [List.getElem?_toArray]; rfl) (by kernel_rfl) (by kernel_rfl) (by kernel_rfl) (by exact fun _ _ _ h => h) (Or.inl ⟨by rfl, ?_⟩) (by assumption) ?_
    rotate_left
    · intro w' hSw
      obtain ⟨⟨_, q00, q01, q02, q03, q04⟩, _⟩ := hSw
      go_simp
      try with_reducible rfl
    try simp only [Act.put, List.setIfInBounds_toArray, List.set_cons_zero, List.set_cons_succ]
    refine wpAnyH_take (i := 2) (v := ?_) (by rw [List.getElem?_toArray]; rfl) (by kernel_rfl) (by kernel_rfl) (by kernel_rfl) (by exact fun _ _ _ h => h) (Or.inl ⟨by rfl, ?_⟩) (by assumption) ?_
    rotate_left
    · intro w' hSw
      go_simp
      try with_reducible rfl
    try simp only [Act.put, List.setIfInBounds_toArray, List.set_cons_zero, List.set_cons_succ]
    refine wpAnyH_take (i := 4) (v := ?_) (by rw [List.getElem?_toArray]; rfl) (by kernel_rfl) (by kernel_rfl) (by kernel_rfl) (by exact fun _ _ _ h => h) (Or.inl ⟨by rfl, ?_⟩) (by assumption) ?_
    rotate_left
    · intro w' hSw
      go_simp
      try with_reducible rfl
    try simp only [Act.put, List.setIfInBounds_toArray, List.set_cons_zero, List.set_cons_succ]
    refine wpAnyH_take (i := 5) (v := ?_) (by rw [List.getElem?_toArray]; rfl) (by kernel_rfl) (by kernel_rfl) (by kernel_rfl) (by exact fun _ _ _ h => h) (Or.inl ⟨by rfl, ?_⟩) (by assumption) ?_
    rotate_left
    · intro w' hSw
      obtain ⟨⟨_, q00, q01, q02, q03, q04⟩, _⟩ := hSw
      go_simp
      try with_reducible rfl
    try simp only [Act.put, List.setIfInBounds_toArray, List.set_cons_zero, List.set_cons_succ]
    clear hHeld
    refine wpAnyH_ready (rs := [3]) (by kernel_rfl) (by simp) ?_
    refine AllReadyH.cons (by rw [List.getElem?_toArray]; rfl) (fun Kn hK => ?_) AllReadyH.nil
    go_simp
    go_at_call 60
    with_reducible refine (HAN.out _).mono ?_
    rintro e w3 ⟨rfl, hb3⟩
    have HB3 := Lib.hid (Bel.call HB2.out hb3)
    replace HXS := Lib.hid (HXS.out.below hb3)
    clear hb3
    try dsimp only
    refine hK.out _ _ HXS.out (fun hHeld => ?_)
    try simp only [Act.put, List.setIfInBounds_toArray, List.set_cons_zero, List.set_cons_succ]
    clear hHeld
    refine wpAnyH_ready (rs := [6]) (by kernel_rfl) (by simp) ?_
    refine AllReadyH.cons (by rw [List.getElem?_toArray]; rfl) (fun Kn hK => ?_) AllReadyH.nil
    go_simp
    go_at_call 59
    with_reducible refine (HP1.out _).mono ?_
    rintro e w4 ⟨⟨T1, hT1, rfl⟩, hb4⟩
    have HB4 := Lib.hid (Bel.call HB3.out hb4)
    replace HXS := Lib.hid (HXS.out.below hb4)
    clear hb4
    try dsimp only at hT1
    have HT1 := Lib.hid hT1
    clear hT1
    try dsimp only
    refine hK.out _ _ HXS.out (fun hHeld => ?_)
    try simp only [Act.put, List.setIfInBounds_toArray, List.set_cons_zero, List.set_cons_succ]
    refine wpAnyH_take (i := 7) (v := ?_) (by rw [List.getElem?_toArray]; rfl) (by kernel_rfl) (by kernel_rfl) (by kernel_rfl) (by exact fun _ _ _ h => h) (Or.inl ⟨by rfl, ?_⟩) (by assumption) ?_
    rotate_left
    · intro w' hSw
      go_simp
      try with_reducible rfl
    try simp only [Act.put, List.setIfInBounds_toArray, List.set_cons_zero, List.set_cons_succ]
    refine wpAnyH_take (i := 8) (v := ?_) (by rw [List.getElem?_toArray]; rfl) (by kernel_rfl) (by kernel_rfl) (by kernel_rfl) (by exact fun _ _ _ h => h) (Or.inl ⟨by rfl, ?_⟩) (by assumption) ?_
    rotate_left
    · intro w' hSw
      go_simp
      try with_reducible rfl
    try simp only [Act.put, List.setIfInBounds_toArray, List.set_cons_zero, List.set_cons_succ]
    refine wpAnyH_take (i := 9) (v := ?_) (by rw [List.getElem?_toArray]; rfl) (by kernel_rfl) (by kernel_rfl) (by kernel_rfl) (by exact fun _ _ _ h => h) (Or.inl ⟨by rfl, ?_⟩) (by assumption) ?_
    rotate_left
    · intro w' hSw
      go_simp
      try with_reducible rfl
    try simp only [Act.put, List.setIfInBounds_toArray, List.set_cons_zero, List.set_cons_succ]
    refine wpAnyH_take (i := 10) (v := ?_) (by rw [List.getElem?_toArray]; rfl) (by kernel_rfl) (by kernel_rfl) (by kernel_rfl) (by exact fun _ _ _ h => h) (Or.inl ⟨by rfl, ?_⟩) (by assumption) ?_
    rotate_left
    · intro w' hSw
      go_simp
      try with_reducible rfl
    try simp only [Act.put, List.setIfInBounds_toArray, List.set_cons_zero, List.set_cons_succ]
    refine wpAnyH_take (i := 11) (v := ?_) (by rw [List.getElem?_toArray]; rfl) (by kernel_rfl) (by kernel_rfl) (by kernel_rfl) (by exact fun _ _ _ h => h) (Or.inl ⟨by rfl, ?_⟩) (by assumption) ?_
    rotate_left
    · intro w' hSw
      go_simp
      try with_reducible rfl
    try simp only [Act.put, List.setIfInBounds_toArray, List.set_cons_zero, List.set_cons_succ]
    refine wpAnyH_done (by kernel_rfl) ?_ _
    clear hHeld
    go_wp2
    go_ret2
    exact ⟨by rw [← HX.out]; exact ⟨⟨#[]⟩, rfl, rfl⟩, HB4.out⟩
  subst hf
  rw [if_neg (fun h => h rfl)] at hso
  by_cases hf : f2 = 0
  case neg =>
    rw [if_pos hf] at hso
    have HX := Lib.hid hso
    have hfb : (f2 == 0) = false := by simpa using hf
    have hfb2 : (f2 != 0) = true := by simpa using hf
    clear hso hf
    go_enter Tryz.func30, Tryz.ntmps30
    go_wp2_with fail
    have hbS : Below w.heap.size w (w.alloc (.cells #[.string O, .int .u64 (t : Int), .int .i64 (n : Int), .string R, .string G] 28)) := (Below.refl w.heap.size w).alloc (Nat.le_refl _) _
    have hxS := c5_new w (.string O) (.int .u64 (t : Int)) (.int .i64 (n : Int)) (.string R) (.string G) 28
    generalize w.alloc (.cells #[.string O, .int .u64 (t : Int), .int .i64 (n : Int), .string R, .string G] 28) = wSS at hbS hxS ⊢
    have HB1 := Lib.hid hbS
    have HXS := Lib.hid hxS
    clear hbS hxS
    have hdr : Below wSS.heap.size wSS wSS.drew := Below.drewN' (Below.refl wSS.heap.size wSS) 1
    refine wp_region_held_drew (S := fun w' => C5 w.heap.size w' (.string O) (.int .u64 (t : Int)) (.int .i64 (n : Int)) (.string R) (.string G)) (by kernel_rfl) (HXS.out.below hdr) (fun hHeld => ?_)
    clear hHeld
    generalize wSS.drew = wd1 at hdr ⊢
    have HB2 := Lib.hid (Bel.call HB1.out hdr)
    replace HXS := Lib.hid (HXS.out.below hdr)
    clear hdr
    have hHeld : C5 w.heap.size wd1 (.string O) (.int .u64 (t : Int)) (.int .i64 (n : Int)) (.string R) (.string G) := HXS.out
    refine wpAnyH_take (i := 0) (v := ?_) (by rw [List.getElem?_toArray]; rfl) (by kernel_rfl) (by kernel_rfl) (by kernel_rfl) (by exact fun _ _ _ h => h) (Or.inl ⟨by rfl, ?_⟩) (by assumption) ?_
    rotate_left
    · intro w' hSw
      go_simp
      try with_reducible rfl
    try simp only [Act.put, List.setIfInBounds_toArray, List.set_cons_zero, List.set_cons_succ]
    refine wpAnyH_take (i := 1) (v := ?_) (by rw [List.getElem?_toArray]; rfl) (by kernel_rfl) (by kernel_rfl) (by kernel_rfl) (by exact fun _ _ _ h => h) (Or.inl ⟨by rfl, ?_⟩) (by assumption) ?_
    rotate_left
    · intro w' hSw
      obtain ⟨⟨_, q00, q01, q02, q03, q04⟩, _⟩ := hSw
      go_simp
      try with_reducible rfl
    try simp only [Act.put, List.setIfInBounds_toArray, List.set_cons_zero, List.set_cons_succ]
    refine wpAnyH_take (i := 2) (v := ?_) (by rw [List.getElem?_toArray]; rfl) (by kernel_rfl) (by kernel_rfl) (by kernel_rfl) (by exact fun _ _ _ h => h) (Or.inl ⟨by rfl, ?_⟩) (by assumption) ?_
    rotate_left
    · intro w' hSw
      go_simp
      try with_reducible rfl
    try simp only [Act.put, List.setIfInBounds_toArray, List.set_cons_zero, List.set_cons_succ]
    refine wpAnyH_take (i := 4) (v := ?_) (by rw [List.getElem?_toArray]; rfl) (by kernel_rfl) (by kernel_rfl) (by kernel_rfl) (by exact fun _ _ _ h => h) (Or.inl ⟨by rfl, ?_⟩) (by assumption) ?_
    rotate_left
    · intro w' hSw
      go_simp
      try with_reducible rfl
    try simp only [Act.put, List.setIfInBounds_toArray, List.set_cons_zero, List.set_cons_succ]
    refine wpAnyH_take (i := 5) (v := ?_) (by rw [List.getElem?_toArray]; rfl) (by kernel_rfl) (by kernel_rfl) (by kernel_rfl) (by exact fun _ _ _ h => h) (Or.inl ⟨by rfl, ?_⟩) (by assumption) ?_
    rotate_left
    · intro w' hSw
      obtain ⟨⟨_, q00, q01, q02, q03, q04⟩, _⟩ := hSw
      go_simp
      try with_reducible rfl
    try simp only [Act.put, List.setIfInBounds_toArray, List.set_cons_zero, List.set_cons_succ]
    clear hHeld
    refine wpAnyH_ready (rs := [3]) (by kernel_rfl) (by simp) ?_
    refine AllReadyH.cons (by rw [List.getElem?_toArray]; rfl) (fun Kn hK => ?_) AllReadyH.nil
    go_simp
    go_at_call 60
    with_reducible refine (HAN.out _).mono ?_
    rintro e w3 ⟨rfl, hb3⟩
    have HB3 := Lib.hid (Bel.call HB2.out hb3)
    replace HXS := Lib.hid (HXS.out.below hb3)
    clear hb3
    try dsimp only
    refine hK.out _ _ HXS.out (fun hHeld => ?_)
    try simp only [Act.put, List.setIfInBounds_toArray, List.set_cons_zero, List.set_cons_succ]
    clear hHeld
    refine wpAnyH_ready (rs := [6]) (by kernel_rfl) (by simp) ?_
    refine AllReadyH.cons (by rw [List.getElem?_toArray]; rfl) (fun Kn hK => ?_) AllReadyH.nil
    go_simp
    go_at_call 59
    with_reducible refine (HP1.out _).mono ?_
    rintro e w4 ⟨⟨T1, hT1, rfl⟩, hb4⟩
    have HB4 := Lib.hid (Bel.call HB3.out hb4)
    replace HXS := Lib.hid (HXS.out.below hb4)
    clear hb4
    try dsimp only at hT1
    have HT1 := Lib.hid hT1
    clear hT1
    try dsimp only
    refine hK.out _ _ HXS.out (fun hHeld => ?_)
    try simp only [Act.put, List.setIfInBounds_toArray, List.set_cons_zero, List.set_cons_succ]
    refine wpAnyH_take (i := 7) (v := ?_) (by rw [List.getElem?_toArray]; rfl) (by kernel_rfl) (by kernel_rfl) (by kernel_rfl) (by exact fun _ _ _ h => h) (Or.inl ⟨by rfl, ?_⟩) (by assumption) ?_
    rotate_left
    · intro w' hSw
      go_simp
      try with_reducible rfl
    try simp only [Act.put, List.setIfInBounds_toArray, List.set_cons_zero, List.set_cons_succ]
    refine wpAnyH_take (i := 8) (v := ?_) (by rw [List.getElem?_toArray]; rfl) (by kernel_rfl) (by kernel_rfl) (by kernel_rfl) (by exact fun _ _ _ h => h) (Or.inl ⟨by rfl, ?_⟩) (by assumption) ?_
    rotate_left
    · intro w' hSw
      go_simp
      try with_reducible rfl
    try simp only [Act.put, List.setIfInBounds_toArray, List.set_cons_zero, List.set_cons_succ]
    refine wpAnyH_take (i := 9) (v := ?_) (by rw [List.getElem?_toArray]; rfl) (by kernel_rfl) (by kernel_rfl) (by kernel_rfl) (by exact fun _ _ _ h => h) (Or.inl ⟨by rfl, ?_⟩) (by assumption) ?_
    rotate_left
    · intro w' hSw
      go_simp
      try with_reducible rfl
    try simp only [Act.put, List.setIfInBounds_toArray, List.set_cons_zero, List.set_cons_succ]
    refine wpAnyH_take (i := 10) (v := ?_) (by rw [List.getElem?_toArray]; rfl) (by kernel_rfl) (by kernel_rfl) (by kernel_rfl) (by exact fun _ _ _ h => h) (Or.inl ⟨by rfl, ?_⟩) (by assumption) ?_
    rotate_left
    · intro w' hSw
      go_simp
      try with_reducible rfl
    try simp only [Act.put, List.setIfInBounds_toArray, List.set_cons_zero, List.set_cons_succ]
    refine wpAnyH_take (i := 11) (v := ?_) (by rw [List.getElem?_toArray]; rfl) (by kernel_rfl) (by kernel_rfl) (by kernel_rfl) (by exact fun _ _ _ h => h) (Or.inl ⟨by rfl, ?_⟩) (by assumption) ?_
    rotate_left
    · intro w' hSw
      go_simp
      try with_reducible rfl
    try simp only [Act.put, List.setIfInBounds_toArray, List.set_cons_zero, List.set_cons_succ]
    refine wpAnyH_done (by kernel_rfl) ?_ _
    clear hHeld
    obtain ⟨⟨nS, dS0, dS1, dS2, dS3, dS4⟩, kS0, kS1, kS2, kS3, kS4⟩ := HXS.out
    go_wp2_with fail
    with_reducible refine (HAT.out _).mono ?_
    rintro e w5 ⟨rfl, hb5⟩
    clear nS dS0 dS1 dS2 dS3 dS4 kS0 kS1 kS2 kS3 kS4
    have HB5 := Lib.hid (Bel.call HB4.out hb5)
    replace HXS := Lib.hid (HXS.out.below hb5)
    clear hb5
    try dsimp only
    go_wp2_with fail
    with_reducible refine (HP2.out T1 _ HT1.out).mono ?_
    rintro e w6 ⟨⟨T2, hT2, rfl⟩, hb6⟩
    have HB6 := Lib.hid (Bel.call HB5.out hb6)
    replace HXS := Lib.hid (HXS.out.below hb6)
    clear hb6
    try dsimp only at hT2
    have HT2 := Lib.hid hT2
    clear hT2
    try dsimp only
    go_wp2
    go_ret2
    exact ⟨by rw [← HX.out]; exact ⟨⟨#[]⟩, rfl, rfl⟩, HB6.out⟩
  subst hf
  rw [if_neg (fun h => h rfl)] at hso
  have HX := Lib.hid hso
  clear hso
  go_enter Tryz.func30, Tryz.ntmps30
  go_wp2_with fail
  have hbS : Below w.heap.size w (w.alloc (.cells #[.string O, .int .u64 (t : Int), .int .i64 (n : Int), .string R, .string G] 28)) := (Below.refl w.heap.size w).alloc (Nat.le_refl _) _
  have hxS := c5_new w (.string O) (.int .u64 (t : Int)) (.int .i64 (n : Int)) (.string R) (.string G) 28
  generalize w.alloc (.cells #[.string O, .int .u64 (t : Int), .int .i64 (n : Int), .string R, .string G] 28) = wSS at hbS hxS ⊢
  have HB1 := Lib.hid hbS
  have HXS := Lib.hid hxS
  clear hbS hxS
  have hdr : Below wSS.heap.size wSS wSS.drew := Below.drewN' (Below.refl wSS.heap.size wSS) 1
  refine wp_region_held_drew (S := fun w' => C5 w.heap.size w' (.string O) (.int .u64 (t : Int)) (.int .i64 (n : Int)) (.string R) (.string G)) (by kernel_rfl) (HXS.out.below hdr) (fun hHeld => ?_)
  clear hHeld
  generalize wSS.drew = wd1 at hdr ⊢
  have HB2 := Lib.hid (Bel.call HB1.out hdr)
  replace HXS := Lib.hid (HXS.out.below hdr)
  clear hdr
  have hHeld : C5 w.heap.size wd1 (.string O) (.int .u64 (t : Int)) (.int .i64 (n : Int)) (.string R) (.string G) := HXS.out
  refine wpAnyH_take (i := 0) (v := ?_) (by rw [List.getElem?_toArray]; rfl) (by kernel_rfl) (by kernel_rfl) (by kernel_rfl) (by exact fun _ _ _ h => h) (Or.inl ⟨by rfl, ?_⟩) (by assumption) ?_
  rotate_left
  · intro w' hSw
    go_simp
    try with_reducible rfl
  try simp only [Act.put, List.setIfInBounds_toArray, List.set_cons_zero, List.set_cons_succ]
  refine wpAnyH_take (i := 1) (v := ?_) (by rw [List.getElem?_toArray]; rfl) (by kernel_rfl) (by kernel_rfl) (by kernel_rfl) (by exact fun _ _ _ h => h) (Or.inl ⟨by rfl, ?_⟩) (by assumption) ?_
  rotate_left
  · intro w' hSw
    obtain ⟨⟨_, q00, q01, q02, q03, q04⟩, _⟩ := hSw
    go_simp
    try with_reducible rfl
  try simp only [Act.put, List.setIfInBounds_toArray, List.set_cons_zero, List.set_cons_succ]
  refine wpAnyH_take (i := 2) (v := ?_) (by rw [List.getElem?_toArray]; rfl) (by kernel_rfl) (by kernel_rfl) (by kernel_rfl) (by exact fun _ _ _ h => h) (Or.inl ⟨by rfl, ?_⟩) (by assumption) ?_
  rotate_left
  · intro w' hSw
    go_simp
    try with_reducible rfl
  try simp only [Act.put, List.setIfInBounds_toArray, List.set_cons_zero, List.set_cons_succ]
  refine wpAnyH_take (i := 4) (v := ?_) (by rw [List.getElem?_toArray]; rfl) (by kernel_rfl) (by kernel_rfl) (by kernel_rfl) (by exact fun _ _ _ h => h) (Or.inl ⟨by rfl, ?_⟩) (by assumption) ?_
  rotate_left
  · intro w' hSw
    go_simp
    try with_reducible rfl
  try simp only [Act.put, List.setIfInBounds_toArray, List.set_cons_zero, List.set_cons_succ]
  refine wpAnyH_take (i := 5) (v := ?_) (by rw [List.getElem?_toArray]; rfl) (by kernel_rfl) (by kernel_rfl) (by kernel_rfl) (by exact fun _ _ _ h => h) (Or.inl ⟨by rfl, ?_⟩) (by assumption) ?_
  rotate_left
  · intro w' hSw
    obtain ⟨⟨_, q00, q01, q02, q03, q04⟩, _⟩ := hSw
    go_simp
    try with_reducible rfl
  try simp only [Act.put, List.setIfInBounds_toArray, List.set_cons_zero, List.set_cons_succ]
  clear hHeld
  refine wpAnyH_ready (rs := [3]) (by kernel_rfl) (by simp) ?_
  refine AllReadyH.cons (by rw [List.getElem?_toArray]; rfl) (fun Kn hK => ?_) AllReadyH.nil
  go_simp
  go_at_call 60
  with_reducible refine (HAN.out _).mono ?_
  rintro e w3 ⟨rfl, hb3⟩
  have HB3 := Lib.hid (Bel.call HB2.out hb3)
  replace HXS := Lib.hid (HXS.out.below hb3)
  clear hb3
  try dsimp only
  refine hK.out _ _ HXS.out (fun hHeld => ?_)
  try simp only [Act.put, List.setIfInBounds_toArray, List.set_cons_zero, List.set_cons_succ]
  clear hHeld
  refine wpAnyH_ready (rs := [6]) (by kernel_rfl) (by simp) ?_
  refine AllReadyH.cons (by rw [List.getElem?_toArray]; rfl) (fun Kn hK => ?_) AllReadyH.nil
  go_simp
  go_at_call 59
  with_reducible refine (HP1.out _).mono ?_
  rintro e w4 ⟨⟨T1, hT1, rfl⟩, hb4⟩
  have HB4 := Lib.hid (Bel.call HB3.out hb4)
  replace HXS := Lib.hid (HXS.out.below hb4)
  clear hb4
  try dsimp only at hT1
  have HT1 := Lib.hid hT1
  clear hT1
  try dsimp only
  refine hK.out _ _ HXS.out (fun hHeld => ?_)
  try simp only [Act.put, List.setIfInBounds_toArray, List.set_cons_zero, List.set_cons_succ]
  refine wpAnyH_take (i := 7) (v := ?_) (by rw [List.getElem?_toArray]; rfl) (by kernel_rfl) (by kernel_rfl) (by kernel_rfl) (by exact fun _ _ _ h => h) (Or.inl ⟨by rfl, ?_⟩) (by assumption) ?_
  rotate_left
  · intro w' hSw
    go_simp
    try with_reducible rfl
  try simp only [Act.put, List.setIfInBounds_toArray, List.set_cons_zero, List.set_cons_succ]
  refine wpAnyH_take (i := 8) (v := ?_) (by rw [List.getElem?_toArray]; rfl) (by kernel_rfl) (by kernel_rfl) (by kernel_rfl) (by exact fun _ _ _ h => h) (Or.inl ⟨by rfl, ?_⟩) (by assumption) ?_
  rotate_left
  · intro w' hSw
    go_simp
    try with_reducible rfl
  try simp only [Act.put, List.setIfInBounds_toArray, List.set_cons_zero, List.set_cons_succ]
  refine wpAnyH_take (i := 9) (v := ?_) (by rw [List.getElem?_toArray]; rfl) (by kernel_rfl) (by kernel_rfl) (by kernel_rfl) (by exact fun _ _ _ h => h) (Or.inl ⟨by rfl, ?_⟩) (by assumption) ?_
  rotate_left
  · intro w' hSw
    go_simp
    try with_reducible rfl
  try simp only [Act.put, List.setIfInBounds_toArray, List.set_cons_zero, List.set_cons_succ]
  refine wpAnyH_take (i := 10) (v := ?_) (by rw [List.getElem?_toArray]; rfl) (by kernel_rfl) (by kernel_rfl) (by kernel_rfl) (by exact fun _ _ _ h => h) (Or.inl ⟨by rfl, ?_⟩) (by assumption) ?_
  rotate_left
  · intro w' hSw
    go_simp
    try with_reducible rfl
  try simp only [Act.put, List.setIfInBounds_toArray, List.set_cons_zero, List.set_cons_succ]
  refine wpAnyH_take (i := 11) (v := ?_) (by rw [List.getElem?_toArray]; rfl) (by kernel_rfl) (by kernel_rfl) (by kernel_rfl) (by exact fun _ _ _ h => h) (Or.inl ⟨by rfl, ?_⟩) (by assumption) ?_
  rotate_left
  · intro w' hSw
    go_simp
    try with_reducible rfl
  try simp only [Act.put, List.setIfInBounds_toArray, List.set_cons_zero, List.set_cons_succ]
  refine wpAnyH_done (by kernel_rfl) ?_ _
  clear hHeld
  obtain ⟨⟨nS, dS0, dS1, dS2, dS3, dS4⟩, kS0, kS1, kS2, kS3, kS4⟩ := HXS.out
  go_wp2_with fail
  with_reducible refine (HAT.out _).mono ?_
  rintro e w5 ⟨rfl, hb5⟩
  clear nS dS0 dS1 dS2 dS3 dS4 kS0 kS1 kS2 kS3 kS4
  have HB5 := Lib.hid (Bel.call HB4.out hb5)
  replace HXS := Lib.hid (HXS.out.below hb5)
  clear hb5
  try dsimp only
  go_wp2_with fail
  with_reducible refine (HP2.out T1 _ HT1.out).mono ?_
  rintro e w6 ⟨⟨T2, hT2, rfl⟩, hb6⟩
  have HB6 := Lib.hid (Bel.call HB5.out hb6)
  replace HXS := Lib.hid (HXS.out.below hb6)
  clear hb6
  try dsimp only at hT2
  have HT2 := Lib.hid hT2
  clear hT2
  try dsimp only
  obtain ⟨⟨nS, dS0, dS1, dS2, dS3, dS4⟩, kS0, kS1, kS2, kS3, kS4⟩ := HXS.out
  go_wp2_with fail
  with_reducible refine (HOT.out _).mono ?_
  rintro e w7 ⟨⟨TO, hTO, rfl⟩, hb7⟩
  clear nS dS0 dS1 dS2 dS3 dS4 kS0 kS1 kS2 kS3 kS4
  have HB7 := Lib.hid (Bel.call HB6.out hb7)
  replace HXS := Lib.hid (HXS.out.below hb7)
  clear hb7
  try dsimp only at hTO
  have HTO := Lib.hid hTO
  clear hTO
  try dsimp only
  go_wp2_with fail
  with_reducible refine (HP3.out TO T2 _ HTO.out HT2.out).mono ?_
  rintro e w8 ⟨⟨T3, hT3, rfl⟩, hb8⟩
  have HB8 := Lib.hid (Bel.call HB7.out hb8)
  replace HXS := Lib.hid (HXS.out.below hb8)
  clear hb8
  try dsimp only at hT3
  have HT3 := Lib.hid hT3
  clear hT3
  try dsimp only
  go_wp2
  go_ret2
  exact ⟨by rw [← HX.out]; exact ⟨T3, HT3.out, rfl⟩, HB8.out⟩
end Go.Proofs.YtmmeklemaofmjaaGreat.Frs
