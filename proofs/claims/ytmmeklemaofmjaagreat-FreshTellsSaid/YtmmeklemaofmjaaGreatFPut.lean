/-
  THE LANDED CODE (package fresh): Put. By an AI agent; no person has read it.
-/
import Derived.Test.YtmmeklemaofmjaaGreatFCode
import Derived.Test.YtmmeklemaofmjaaGreatP2
namespace Go.Proofs.YtmmeklemaofmjaaGreat.Frs
open Go Go.RowKit Wire Term Draw Reg Clo

set_option linter.unusedSimpArgs false
set_option linter.unusedVariables false
theorem lit5_reads (w : World) (A B C D E : ByteArray) (g : Nat) (hg : g = w.heap.size) : SReads (w.alloc (.cells #[.string A, .string B, .string C, .string D, .string E] 9)) (some ⟨g, 0, none⟩) [A, B, C, D, E] := fun j hj => by
  subst hg
  refine ⟨w.heap.size, 0, rfl, by simp, ?_⟩
  have : j = 0 ∨ j = 1 ∨ j = 2 ∨ j = 3 ∨ j = 4 := by simp only [List.length_cons, List.length_nil] at hj; omega
  rcases this with rfl | rfl | rfl | rfl | rfl <;> simp [go_sem]
theorem sr_lens {s : Sp} (h : SR s) : s.own.length ≤ 128 ∧ s.root.length ≤ 4000 ∧ s.sig.length ≤ 4000 := ⟨own_len h, (right_len h.2.2.1).2, (right_len (sig_right h).1).2⟩
set_option maxHeartbeats 8000000 in
set_option maxRecDepth 1000000 in
theorem fput_any (O : ByteArray) (t : Nat) (m : Int) (R G : ByteArray) (w : World) (hO : O.size ≤ 140737488355328) (hR : R.size ≤ 140737488355328) (hG : G.size ≤ 140737488355328) (ht : t < 18446744073709551616) :
    Calls Tryz.prog 9 #[.agg #[.string O, .int .u64 (t : Int), .int .i64 m, .string R, .string G]] w fun e w' => Sr (putS ⟨O.data.toList, t, m, R.data.toList, G.data.toList⟩) e ∧ Below w.heap.size w w' := by
  have HRI := Lib.hid fun w => fright_any O t m R G w hO hR hG
  generalize hx : putS ⟨O.data.toList, t, m, R.data.toList, G.data.toList⟩ = x
  unfold putS at hx
  by_cases hr : SR ⟨O.data.toList, t, m, R.data.toList, G.data.toList⟩
  case neg =>
    rw [if_neg hr] at hx
    rw [decide_eq_false hr] at HRI
    have HX := Lib.hid hx
    clear hx hr
    go_enter Tryz.func9, Tryz.ntmps9
    go_wp2_with fail
    have hbS : Below w.heap.size w (w.alloc (.cells #[.string O, .int .u64 (t : Int), .int .i64 m, .string R, .string G] 24)) := (Below.refl w.heap.size w).alloc (Nat.le_refl _) _
    have hxS := c5_new w (.string O) (.int .u64 (t : Int)) (.int .i64 m) (.string R) (.string G) 24
    generalize w.alloc (.cells #[.string O, .int .u64 (t : Int), .int .i64 m, .string R, .string G] 24) = wSS at hbS hxS ⊢
    have HB1 := Lib.hid hbS
    have HXS := Lib.hid hxS
    clear hbS hxS
    with_reducible refine (HRI.out _).mono ?_
    rintro e w2 ⟨rfl, hb2⟩
    have HB2 := Lib.hid (Bel.call HB1.out hb2)
    replace HXS := Lib.hid (HXS.out.below hb2)
    clear hb2
    dsimp only
    go_wp2
    go_ret2
    exact ⟨by rw [← HX.out]; exact ⟨⟨#[]⟩, rfl, rfl⟩, HB2.out⟩
  rw [if_pos hr] at hx
  rw [decide_eq_true hr] at HRI
  have hl := sr_lens hr
  have hm := hr.2.1
  simp only at hl hm
  obtain ⟨k, rfl⟩ : ∃ k : Nat, m = (k : Int) := ⟨m.toNat, by omega⟩
  have hk8 : k ≤ 8 := by omega
  have cw : IntKind.u64.wrap (k : Int) = (k : Int) := by rw [IntKind.wrap_u64]; omega
  have HPT : Hid (∀ w, Calls Tryz.prog 33 #[.int .u64 (t : Int)] w fun e w' => e = .returned (.string ⟨⟨put t⟩⟩) ∧ Below w.heap.size w w') := Lib.hid fun w => (put_any t w ht).mono fun e w' h => ⟨st_fix h.1, h.2⟩
  have HPK : Hid (∀ w, Calls Tryz.prog 33 #[.int .u64 (k : Int)] w fun e w' => e = .returned (.string ⟨⟨put k⟩⟩) ∧ Below w.heap.size w w') := Lib.hid fun w => (put_any k w (by omega)).mono fun e w' h => ⟨st_fix h.1, h.2⟩
  have hpl := (put_le (n := k) (by omega)).2
  have hpt := (put_le (n := t) ht).2
  have HPA : Hid (∀ (g : Nat) (P Q : ByteArray) (w : World), P.data.toList = put t → Q.data.toList = put k → SReads w (some ⟨g, 0, none⟩) [O, P, Q, R, G] → Calls Tryz.prog 32 #[.slice (some ⟨g, 0, none⟩) 5 5] w fun e w' => St x.1 e ∧ Below w.heap.size w w') := Lib.hid fun g P Q w hP hQ hsr => by
    have := putAll_any (some ⟨g, 0, none⟩) 5 [O, P, Q, R, G] w hsr (by simp) (by
      show ([O.data.toList, P.data.toList, Q.data.toList, R.data.toList, G.data.toList] : List (List UInt8)).flatten.length ≤ _
      simp only [List.flatten_cons, List.flatten_nil, List.append_nil, List.length_append, hP, hQ]
      omega)
    rw [show bl [O, P, Q, R, G] = [O.data.toList, P.data.toList, Q.data.toList, R.data.toList, G.data.toList] from rfl, hP, hQ] at this
    rw [← hx]
    exact this
  have hx2 : x.2 = 0 := by rw [← hx]
  obtain ⟨xl, xf⟩ := x
  obtain rfl : xf = 0 := hx2
  simp only at HPA
  obtain ⟨PT, hPT⟩ : ∃ P : ByteArray, (⟨⟨put t⟩⟩ : ByteArray) = P := ⟨_, rfl⟩
  obtain ⟨PK, hPK⟩ : ∃ P : ByteArray, (⟨⟨put k⟩⟩ : ByteArray) = P := ⟨_, rfl⟩
  have HQT : Hid (PT.data.toList = put t) := Lib.hid (by rw [← hPT])
  have HQK : Hid (PK.data.toList = put k) := Lib.hid (by rw [← hPK])
  rw [hPT] at HPT
  rw [hPK] at HPK
  clear hx hr hl hpl hpt hm hk8 hPT hPK hO hR hG ht
  go_enter Tryz.func9, Tryz.ntmps9
  go_wp2_with fail
  have hbS : Below w.heap.size w (w.alloc (.cells #[.string O, .int .u64 (t : Int), .int .i64 (k : Int), .string R, .string G] 24)) := (Below.refl w.heap.size w).alloc (Nat.le_refl _) _
  have hxS := c5_new w (.string O) (.int .u64 (t : Int)) (.int .i64 (k : Int)) (.string R) (.string G) 24
  generalize w.alloc (.cells #[.string O, .int .u64 (t : Int), .int .i64 (k : Int), .string R, .string G] 24) = wSS at hbS hxS ⊢
  have HB1 := Lib.hid hbS
  have HXS := Lib.hid hxS
  clear hbS hxS
  with_reducible refine (HRI.out _).mono ?_
  rintro e w2 ⟨rfl, hb2⟩
  have HB2 := Lib.hid (Bel.call HB1.out hb2)
  replace HXS := Lib.hid (HXS.out.below hb2)
  clear hb2
  dsimp only
  go_wp2_with fail
  refine wp_region_held_drew (S := fun w' => C5 w.heap.size w' (.string O) (.int .u64 (t : Int)) (.int .i64 (k : Int)) (.string R) (.string G)) (by kernel_rfl) (HXS.out.below (Below.drewN' (Below.refl w2.heap.size w2) 1)) (fun hHeld => ?_)
  have hdr : Below w2.heap.size w2 w2.drew := Below.drewN' (Below.refl w2.heap.size w2) 1
  clear hHeld
  generalize w2.drew = wd3 at hdr ⊢
  have HB3 := Lib.hid (Bel.call HB2.out hdr)
  replace HXS := Lib.hid (HXS.out.below hdr)
  clear hdr
  have hHeld := HXS.out
  refine wpAnyH_take (i := 0) (v := ?_) (by rw [List.getElem?_toArray]; rfl) (by kernel_rfl) (by kernel_rfl) (by kernel_rfl) (by exact fun _ _ _ h => h) (Or.inl ⟨by rfl, ?_⟩) (by assumption) ?_
  rotate_left
  · intro w' hSw
    obtain ⟨⟨_, c0, c1, c2, c3, c4⟩, _⟩ := hSw
    go_simp
    try with_reducible rfl
  try simp only [Act.put, List.setIfInBounds_toArray, List.set_cons_zero, List.set_cons_succ]
  refine wpAnyH_take (i := 1) (v := ?_) (by rw [List.getElem?_toArray]; rfl) (by kernel_rfl) (by kernel_rfl) (by kernel_rfl) (by exact fun _ _ _ h => h) (Or.inl ⟨by rfl, ?_⟩) (by assumption) ?_
  rotate_left
  · intro w' hSw
    obtain ⟨⟨_, c0, c1, c2, c3, c4⟩, _⟩ := hSw
    go_simp
    try with_reducible rfl
  try simp only [Act.put, List.setIfInBounds_toArray, List.set_cons_zero, List.set_cons_succ]
  refine wpAnyH_take (i := 2) (v := ?_) (by rw [List.getElem?_toArray]; rfl) (by kernel_rfl) (by kernel_rfl) (by kernel_rfl) (by exact fun _ _ _ h => h) (Or.inl ⟨by rfl, ?_⟩) (by assumption) ?_
  rotate_left
  · intro w' hSw
    obtain ⟨⟨_, c0, c1, c2, c3, c4⟩, _⟩ := hSw
    go_simp
    try with_reducible rfl
  try simp only [Act.put, List.setIfInBounds_toArray, List.set_cons_zero, List.set_cons_succ]
  refine wpAnyH_take (i := 3) (v := ?_) (by rw [List.getElem?_toArray]; rfl) (by kernel_rfl) (by kernel_rfl) (by kernel_rfl) (by exact fun _ _ _ h => h) (Or.inl ⟨by rfl, ?_⟩) (by assumption) ?_
  rotate_left
  · intro w' hSw
    obtain ⟨⟨_, c0, c1, c2, c3, c4⟩, _⟩ := hSw
    go_simp
    try with_reducible rfl
  try simp only [Act.put, List.setIfInBounds_toArray, List.set_cons_zero, List.set_cons_succ]
  refine wpAnyH_take (i := 5) (v := ?_) (by rw [List.getElem?_toArray]; rfl) (by kernel_rfl) (by kernel_rfl) (by kernel_rfl) (by exact fun _ _ _ h => h) (Or.inl ⟨by rfl, ?_⟩) (by assumption) ?_
  rotate_left
  · intro w' hSw
    obtain ⟨⟨_, c0, c1, c2, c3, c4⟩, _⟩ := hSw
    go_simp
    try with_reducible rfl
  try simp only [Act.put, List.setIfInBounds_toArray, List.set_cons_zero, List.set_cons_succ]
  refine wpAnyH_take (i := 6) (v := ?_) (by rw [List.getElem?_toArray]; rfl) (by kernel_rfl) (by kernel_rfl) (by kernel_rfl) (by exact fun _ _ _ h => h) (Or.inl ⟨by rfl, ?_⟩) (by assumption) ?_
  rotate_left
  · intro w' hSw
    obtain ⟨⟨_, c0, c1, c2, c3, c4⟩, _⟩ := hSw
    go_simp
    try with_reducible rfl
  try simp only [Act.put, List.setIfInBounds_toArray, List.set_cons_zero, List.set_cons_succ]
  refine wpAnyH_take (i := 7) (v := ?_) (by rw [List.getElem?_toArray]; rfl) (by kernel_rfl) (by kernel_rfl) (by kernel_rfl) (by exact fun _ _ _ h => h) (Or.inl ⟨by rfl, ?_⟩) (by assumption) ?_
  rotate_left
  · intro w' hSw
    obtain ⟨⟨_, c0, c1, c2, c3, c4⟩, _⟩ := hSw
    go_simp
    try with_reducible rfl
  try simp only [Act.put, List.setIfInBounds_toArray, List.set_cons_zero, List.set_cons_succ]
  refine wpAnyH_take (i := 9) (v := ?_) (by rw [List.getElem?_toArray]; rfl) (by kernel_rfl) (by kernel_rfl) (by kernel_rfl) (by exact fun _ _ _ h => h) (Or.inl ⟨by rfl, ?_⟩) (by assumption) ?_
  rotate_left
  · intro w' hSw
    obtain ⟨⟨_, c0, c1, c2, c3, c4⟩, _⟩ := hSw
    go_simp
    try with_reducible rfl
  try simp only [Act.put, List.setIfInBounds_toArray, List.set_cons_zero, List.set_cons_succ]
  refine wpAnyH_take (i := 10) (v := ?_) (by rw [List.getElem?_toArray]; rfl) (by kernel_rfl) (by kernel_rfl) (by kernel_rfl) (by exact fun _ _ _ h => h) (Or.inl ⟨by rfl, ?_⟩) (by assumption) ?_
  rotate_left
  · intro w' hSw
    obtain ⟨⟨_, c0, c1, c2, c3, c4⟩, _⟩ := hSw
    go_simp
    try with_reducible rfl
  try simp only [Act.put, List.setIfInBounds_toArray, List.set_cons_zero, List.set_cons_succ]
  refine wpAnyH_take (i := 11) (v := ?_) (by rw [List.getElem?_toArray]; rfl) (by kernel_rfl) (by kernel_rfl) (by kernel_rfl) (by exact fun _ _ _ h => h) (Or.inl ⟨by rfl, ?_⟩) (by assumption) ?_
  rotate_left
  · intro w' hSw
    obtain ⟨⟨_, c0, c1, c2, c3, c4⟩, _⟩ := hSw
    go_simp
    try with_reducible rfl
  try simp only [Act.put, List.setIfInBounds_toArray, List.set_cons_zero, List.set_cons_succ]
  refine wpAnyH_take (i := 12) (v := ?_) (by rw [List.getElem?_toArray]; rfl) (by kernel_rfl) (by kernel_rfl) (by kernel_rfl) (by exact fun _ _ _ h => h) (Or.inl ⟨by rfl, ?_⟩) (by assumption) ?_
  rotate_left
  · intro w' hSw
    obtain ⟨⟨_, c0, c1, c2, c3, c4⟩, _⟩ := hSw
    go_simp
    try with_reducible rfl
  try simp only [Act.put, List.setIfInBounds_toArray, List.set_cons_zero, List.set_cons_succ]
  clear hHeld
  refine wpAnyH_ready (rs := [4]) (by kernel_rfl) (by simp) ?_
  refine AllReadyH.cons (by rw [List.getElem?_toArray]; rfl) (fun Kn hK => ?_) AllReadyH.nil
  go_simp
  go_at_call 33
  with_reducible refine (HPT.out _).mono ?_
  rintro e w4 ⟨rfl, hb4⟩
  have HB4 := Lib.hid (Bel.call HB3.out hb4)
  replace HXS := Lib.hid (HXS.out.below hb4)
  clear hb4
  dsimp only
  refine hK.out _ _ HXS.out (fun hHeld => ?_)
  try simp only [Act.put, List.setIfInBounds_toArray, List.set_cons_zero, List.set_cons_succ]
  clear hHeld
  refine wpAnyH_ready (rs := [8]) (by kernel_rfl) (by simp) ?_
  refine AllReadyH.cons (by rw [List.getElem?_toArray]; rfl) (fun Kn hK => ?_) AllReadyH.nil
  go_simp
  go_at_call 33
  with_reducible refine (HPK.out _).mono ?_
  rintro e w5 ⟨rfl, hb5⟩
  have HB5 := Lib.hid (Bel.call HB4.out hb5)
  replace HXS := Lib.hid (HXS.out.below hb5)
  clear hb5
  dsimp only
  refine hK.out _ _ HXS.out (fun hHeld => ?_)
  try simp only [Act.put, List.setIfInBounds_toArray, List.set_cons_zero, List.set_cons_succ]
  clear hHeld
  refine wpAnyH_ready (rs := [13]) (by kernel_rfl) (by simp) ?_
  refine AllReadyH.cons (by rw [List.getElem?_toArray]; rfl) (fun Kn hK => ?_) AllReadyH.nil
  go_simp
  have hrow := lit5_reads w5 O PT PK R G w5.heap.size rfl
  have hbA : Below w5.heap.size w5 (w5.alloc (.cells #[.string O, .string PT, .string PK, .string R, .string G] 9)) := (Below.refl w5.heap.size w5).alloc (Nat.le_refl _) _
  generalize w5.alloc (.cells #[.string O, .string PT, .string PK, .string R, .string G] 9) = wa at hrow hbA ⊢
  have HB6 := Lib.hid (Bel.call HB5.out hbA)
  replace HXS := Lib.hid (HXS.out.below hbA)
  have HRW := Lib.hid hrow
  clear hbA hrow
  refine hK.out _ _ HXS.out (fun hHeld => ?_)
  try simp only [Act.put, List.setIfInBounds_toArray, List.set_cons_zero, List.set_cons_succ]
  clear hHeld
  refine wpAnyH_ready (rs := [14]) (by kernel_rfl) (by simp) ?_
  refine AllReadyH.cons (by rw [List.getElem?_toArray]; rfl) (fun Kn hK => ?_) AllReadyH.nil
  go_simp
  go_at_call 32
  with_reducible refine (HPA.out _ PT PK _ HQT.out HQK.out HRW.out).mono ?_
  rintro e w7 ⟨⟨U, hU, rfl⟩, hb7⟩
  have HB7 := Lib.hid (Bel.call HB6.out hb7)
  replace HXS := Lib.hid (HXS.out.below hb7)
  replace HRW := Lib.hid (HRW.out.below hb7 (Nat.le_refl _))
  clear hb7
  have HU := Lib.hid hU
  clear hU
  dsimp only
  refine hK.out _ _ HXS.out (fun hHeld => ?_)
  try simp only [Act.put, List.setIfInBounds_toArray, List.set_cons_zero, List.set_cons_succ]
  refine wpAnyH_take (i := 15) (v := ?_) (by rw [List.getElem?_toArray]; rfl) (by kernel_rfl) (by kernel_rfl) (by kernel_rfl) (by exact fun _ _ _ h => h) (Or.inl ⟨by rfl, ?_⟩) (by assumption) ?_
  rotate_left
  · intro w' hSw
    obtain ⟨⟨_, c0, c1, c2, c3, c4⟩, _⟩ := hSw
    go_simp
    try with_reducible rfl
  try simp only [Act.put, List.setIfInBounds_toArray, List.set_cons_zero, List.set_cons_succ]
  refine wpAnyH_take (i := 16) (v := ?_) (by rw [List.getElem?_toArray]; rfl) (by kernel_rfl) (by kernel_rfl) (by kernel_rfl) (by exact fun _ _ _ h => h) (Or.inl ⟨by rfl, ?_⟩) (by assumption) ?_
  rotate_left
  · intro w' hSw
    obtain ⟨⟨_, c0, c1, c2, c3, c4⟩, _⟩ := hSw
    go_simp
    try with_reducible rfl
  try simp only [Act.put, List.setIfInBounds_toArray, List.set_cons_zero, List.set_cons_succ]
  refine wpAnyH_done (by kernel_rfl) ?_ _
  go_wp2
  go_ret2
  exact ⟨⟨U, HU.out, rfl⟩, HB7.out⟩
end Go.Proofs.YtmmeklemaofmjaaGreat.Frs
