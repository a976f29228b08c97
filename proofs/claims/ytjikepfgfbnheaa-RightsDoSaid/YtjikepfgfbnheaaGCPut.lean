/-
  THE CODE's Put (package rights). By an AI agent; no person has read it.
-/
import Derived.Test.YtjikepfgfbnheaaGCRight
import Derived.Test.YtjikepfgfbnheaaG2
import Derived.Test.YtjikepfgfbnheaaW1
namespace Go.Proofs.Ytjikepfgfbnheaa.Rig
open Go.RowKit Wire

set_option linter.unusedSimpArgs false
set_option linter.unusedVariables false
set_option maxHeartbeats 8000000 in
set_option maxRecDepth 1000000 in
theorem put_code (o f : ByteArray) (ep : Int) (A : Option Addr) (c : Nat) (rs : List ByteArray) (B : Option Addr) (d : Nat) (ws : List ByteArray) (w : World) (hA : SReads w A rs) (hB : SReads w B ws) (hf : Few ⟨o.data.toList, f.data.toList, ep, bl rs, bl ws⟩) :
    Calls Try.prog 16 #[RV o f ep A rs.length c B ws.length d] w fun e w' => Srt (putR ⟨o.data.toList, f.data.toList, ep, bl rs, bl ws⟩) e ∧ Below w.heap.size w w' := by
  have HA := Lib.hid hA
  have HBB := Lib.hid hB
  have HRR := Lib.hid fun w h1 h2 => right_code o f ep A c rs B d ws w h1 h2 hf
  by_cases hr : RR ⟨o.data.toList, f.data.toList, ep, bl rs, bl ws⟩
  case neg =>
    rw [show putR ⟨o.data.toList, f.data.toList, ep, bl rs, bl ws⟩ = ([], 1) by unfold putR; rw [if_neg hr]]
    clear hA hB hf
    unfold RV at HRR ⊢
    go_enter Try.func16, Try.ntmps16
    go_wp2_with fail
    with_reducible refine (HRR.out _ (HA.out.below (al _ _) (Nat.le_refl _)) (HBB.out.below (al _ _) (Nat.le_refl _))).mono ?_
    rw [decide_eq_false hr]
    rintro e w1 ⟨rfl, hb1⟩
    have HB1 := Lib.hid (after_alloc (Below.refl _ w) hb1)
    obtain ⟨c0, c1, c2, c3, c4, _⟩ := bx_first hb1
    have HA1 := Lib.hid (HA.out.below HB1.out (Nat.le_refl _))
    have HBB1 := Lib.hid (HBB.out.below HB1.out (Nat.le_refl _))
    clear hb1
    dsimp only
    go_wp2
    go_ret2
    exact ⟨⟨⟨#[]⟩, rfl, rfl⟩, HB1.out⟩
  · rw [show putR ⟨o.data.toList, f.data.toList, ep, bl rs, bl ws⟩ = (rowR ⟨o.data.toList, f.data.toList, ep, bl rs, bl ws⟩, 0) by unfold putR; rw [if_pos hr]]
    obtain ⟨l5, l4⟩ := row_list hr
    obtain ⟨a1, a2, ⟨a3, a3'⟩, a4, a5, a6, a7⟩ := id hr
    simp only [bl_len] at a3 a3' a4
    have hs5 := flat_small _ fun t ht => Nat.le_trans (lsd_small a5 t ht) (show 128 ≤ 4000 by decide)
    have hs6 := flat_small _ fun t ht => Nat.le_trans (lsd_small a6 t ht) (show 128 ≤ 4000 by decide)
    rw [bl_len] at hs5 hs6
    simp only at hs5 hs6
    obtain ⟨k, hk⟩ : ∃ k : Nat, ep.toNat = k := ⟨_, rfl⟩
    have hck : IntKind.u64.wrap ep = (k : Int) := by rw [IntKind.wrap_u64]; omega
    have HP := Lib.hid fun w => put_any k w (by omega)
    have HL1 := Lib.hid fun w h => putAll_any A c rs w h (by omega) (by omega)
    have HL2 := Lib.hid fun w h => putAll_any B d ws w h (by omega) (by omega)
    have HL5 : Hid (∀ (a b c' d' e' : ByteArray) (g : Nat) (w : World), a.data.toList = o.data.toList → b.data.toList = f.data.toList → c'.data.toList = put k → d'.data.toList = putAll (bl rs) → e'.data.toList = putAll (bl ws) → SReads w (some ⟨g, 0, none⟩) [a, b, c', d', e'] →
        Calls Try.prog 41 #[.slice (some ⟨g, 0, none⟩) 5 5] w fun e w' => St (rowR ⟨o.data.toList, f.data.toList, ep, bl rs, bl ws⟩) e ∧ Below w.heap.size w w') := fun a b c' d' e' g w h1 h2 h3 h4 h5 hr => by
      have eb : bl [a, b, c', d', e'] = [o.data.toList, f.data.toList, put ep.toNat, putAll (bl rs), putAll (bl ws)] := by
        show [a.data.toList, b.data.toList, c'.data.toList, d'.data.toList, e'.data.toList] = _
        rw [h1, h2, h3, h4, h5, hk]
      have h := putAll_any (some ⟨g, 0, none⟩) 5 [a, b, c', d', e'] w hr (by simp) (by rw [eb]; have := flat_small _ l4; simp only [List.length_cons, List.length_nil] at this; omega)
      rw [eb] at h
      exact h
    clear hA hB hf l5 l4 a1 a2 a4 a5 a6 a7 hs5 hs6 hk
    unfold RV at HRR ⊢
    go_enter Try.func16, Try.ntmps16
    go_wp2_with fail
    with_reducible refine (HRR.out _ (HA.out.below (al _ _) (Nat.le_refl _)) (HBB.out.below (al _ _) (Nat.le_refl _))).mono ?_
    rw [decide_eq_true hr]
    rintro e w1 ⟨rfl, hb1⟩
    have HB1 := Lib.hid (after_alloc (Below.refl _ w) hb1)
    have hx1 := bx_first hb1
    clear hb1
    dsimp only
    obtain ⟨c0, c1, c2, c3, c4, _⟩ := id hx1
    go_wp2_with fail
    with_reducible refine (HP.out _).mono ?_
    rintro e w2 ⟨⟨P, hP, rfl⟩, hb2⟩
    have HB2 := Lib.hid (Bel.call HB1.out hb2)
    have hx2 := hx1.below hb2 hx1.2.2.2.2.2
    clear hb2 c0 c1 c2 c3 c4
    dsimp only
    go_wp2_with fail
    refine wp_region_held_drew (S := fun w' => Bx w.heap.size w' o f ep A rs.length c B ws.length d) (by kernel_rfl) (hx2.below (Below.drewN' (Below.refl w2.heap.size w2) 1) hx2.2.2.2.2.2) (fun hHeld => ?_)
    refine wpAnyH_take (i := 0) (v := ?_) (by rw [List.getElem?_toArray]; rfl) (by kernel_rfl) (by kernel_rfl) (by kernel_rfl) (by exact fun _ _ _ h => h) (Or.inl ⟨by rfl, ?_⟩) (by assumption) ?_
    rotate_left
    · intro w' hSw
      obtain ⟨c0, c1, c2, c3, c4, _⟩ := hSw
      go_simp
      try with_reducible rfl
    try simp only [Act.put, List.setIfInBounds_toArray, List.set_cons_zero, List.set_cons_succ]
    refine wpAnyH_take (i := 1) (v := ?_) (by rw [List.getElem?_toArray]; rfl) (by kernel_rfl) (by kernel_rfl) (by kernel_rfl) (by exact fun _ _ _ h => h) (Or.inl ⟨by rfl, ?_⟩) (by assumption) ?_
    rotate_left
    · intro w' hSw
      obtain ⟨c0, c1, c2, c3, c4, _⟩ := hSw
      go_simp
      try with_reducible rfl
    try simp only [Act.put, List.setIfInBounds_toArray, List.set_cons_zero, List.set_cons_succ]
    refine wpAnyH_take (i := 2) (v := ?_) (by rw [List.getElem?_toArray]; rfl) (by kernel_rfl) (by kernel_rfl) (by kernel_rfl) (by exact fun _ _ _ h => h) (Or.inl ⟨by rfl, ?_⟩) (by assumption) ?_
    rotate_left
    · intro w' hSw
      obtain ⟨c0, c1, c2, c3, c4, _⟩ := hSw
      go_simp
      try with_reducible rfl
    try simp only [Act.put, List.setIfInBounds_toArray, List.set_cons_zero, List.set_cons_succ]
    refine wpAnyH_take (i := 3) (v := ?_) (by rw [List.getElem?_toArray]; rfl) (by kernel_rfl) (by kernel_rfl) (by kernel_rfl) (by exact fun _ _ _ h => h) (Or.inl ⟨by rfl, ?_⟩) (by assumption) ?_
    rotate_left
    · intro w' hSw
      obtain ⟨c0, c1, c2, c3, c4, _⟩ := hSw
      go_simp
      try with_reducible rfl
    try simp only [Act.put, List.setIfInBounds_toArray, List.set_cons_zero, List.set_cons_succ]
    refine wpAnyH_take (i := 4) (v := ?_) (by rw [List.getElem?_toArray]; rfl) (by kernel_rfl) (by kernel_rfl) (by kernel_rfl) (by exact fun _ _ _ h => h) (Or.inl ⟨by rfl, ?_⟩) (by assumption) ?_
    rotate_left
    · intro w' hSw
      obtain ⟨c0, c1, c2, c3, c4, _⟩ := hSw
      go_simp
      try with_reducible rfl
    try simp only [Act.put, List.setIfInBounds_toArray, List.set_cons_zero, List.set_cons_succ]
    refine wpAnyH_take (i := 5) (v := ?_) (by rw [List.getElem?_toArray]; rfl) (by kernel_rfl) (by kernel_rfl) (by kernel_rfl) (by exact fun _ _ _ h => h) (Or.inl ⟨by rfl, ?_⟩) (by assumption) ?_
    rotate_left
    · intro w' hSw
      obtain ⟨c0, c1, c2, c3, c4, _⟩ := hSw
      go_simp
      try with_reducible rfl
    try simp only [Act.put, List.setIfInBounds_toArray, List.set_cons_zero, List.set_cons_succ]
    refine wpAnyH_take (i := 6) (v := ?_) (by rw [List.getElem?_toArray]; rfl) (by kernel_rfl) (by kernel_rfl) (by kernel_rfl) (by exact fun _ _ _ h => h) (Or.inl ⟨by rfl, ?_⟩) (by assumption) ?_
    rotate_left
    · intro w' hSw
      obtain ⟨c0, c1, c2, c3, c4, _⟩ := hSw
      go_simp
      try with_reducible rfl
    try simp only [Act.put, List.setIfInBounds_toArray, List.set_cons_zero, List.set_cons_succ]
    refine wpAnyH_take (i := 8) (v := ?_) (by rw [List.getElem?_toArray]; rfl) (by kernel_rfl) (by kernel_rfl) (by kernel_rfl) (by exact fun _ _ _ h => h) (Or.inl ⟨by rfl, ?_⟩) (by assumption) ?_
    rotate_left
    · intro w' hSw
      obtain ⟨c0, c1, c2, c3, c4, _⟩ := hSw
      go_simp
      try with_reducible rfl
    try simp only [Act.put, List.setIfInBounds_toArray, List.set_cons_zero, List.set_cons_succ]
    refine wpAnyH_take (i := 9) (v := ?_) (by rw [List.getElem?_toArray]; rfl) (by kernel_rfl) (by kernel_rfl) (by kernel_rfl) (by exact fun _ _ _ h => h) (Or.inl ⟨by rfl, ?_⟩) (by assumption) ?_
    rotate_left
    · intro w' hSw
      obtain ⟨c0, c1, c2, c3, c4, _⟩ := hSw
      go_simp
      try with_reducible rfl
    try simp only [Act.put, List.setIfInBounds_toArray, List.set_cons_zero, List.set_cons_succ]
    have HB0 : Hid (Below w.heap.size w w2.drew) := Lib.hid (Below.drewN' HB2.out 1)
    have hx0 := hHeld
    clear hHeld
    refine wpAnyH_ready (rs := [7]) (by kernel_rfl) (by simp) ?_
    refine AllReadyH.cons (by rw [List.getElem?_toArray]; rfl) (fun K hK => ?_) AllReadyH.nil
    go_simp
    go_at_call 41
    with_reducible refine (HL1.out _ (HA.out.below HB0.out (Nat.le_refl _))).mono ?_
    rintro e w3 ⟨⟨P1, hP1, rfl⟩, hb3⟩
    have HB3 := Lib.hid (Bel.call HB0.out hb3)
    have hx3 := hx0.below hb3 hx0.2.2.2.2.2
    clear hb3
    dsimp only
    refine hK.out _ _ hx3 (fun hHeld => ?_)
    try simp only [Act.put, List.setIfInBounds_toArray, List.set_cons_zero, List.set_cons_succ]
    clear hHeld
    refine wpAnyH_ready (rs := [10]) (by kernel_rfl) (by simp) ?_
    refine AllReadyH.cons (by rw [List.getElem?_toArray]; rfl) (fun K hK => ?_) AllReadyH.nil
    go_simp
    go_at_call 41
    with_reducible refine (HL2.out _ (HBB.out.below HB3.out (Nat.le_refl _))).mono ?_
    rintro e w4 ⟨⟨P2, hP2, rfl⟩, hb4⟩
    have HB4 := Lib.hid (Bel.call HB3.out hb4)
    have hx4 := hx3.below hb4 hx3.2.2.2.2.2
    clear hb4
    dsimp only
    refine hK.out _ _ hx4 (fun hHeld => ?_)
    try simp only [Act.put, List.setIfInBounds_toArray, List.set_cons_zero, List.set_cons_succ]
    clear hHeld
    refine wpAnyH_ready (rs := [11]) (by kernel_rfl) (by simp) ?_
    refine AllReadyH.cons (by rw [List.getElem?_toArray]; rfl) (fun K hK => ?_) AllReadyH.nil
    go_simp
    have HB5 := Lib.hid (HB4.out.alloc HB4.out.size (.cells #[.string o, .string f, .string P, .string P1, .string P2] 9))
    have hx5 := hx4.below ((Below.refl w4.heap.size w4).alloc (Nat.le_refl _) (.cells #[.string o, .string f, .string P, .string P1, .string P2] 9)) hx4.2.2.2.2.2
    refine hK.out _ _ hx5 (fun hHeld => ?_)
    try simp only [Act.put, List.setIfInBounds_toArray, List.set_cons_zero, List.set_cons_succ]
    clear hHeld
    refine wpAnyH_ready (rs := [12]) (by kernel_rfl) (by simp) ?_
    refine AllReadyH.cons (by rw [List.getElem?_toArray]; rfl) (fun K hK => ?_) AllReadyH.nil
    go_simp
    go_at_call 41
    with_reducible refine (HL5.out o f P P1 P2 _ _ rfl rfl hP hP1 hP2 (lit5_reads w4 o f P P1 P2 _ rfl)).mono ?_
    rintro e w6 ⟨⟨Q, hQ, rfl⟩, hb6⟩
    have HB6 := Lib.hid (Bel.call HB5.out hb6)
    have hx6 := hx5.below hb6 hx5.2.2.2.2.2
    clear hb6
    dsimp only
    refine hK.out _ _ hx6 (fun hHeld => ?_)
    try simp only [Act.put, List.setIfInBounds_toArray, List.set_cons_zero, List.set_cons_succ]
    refine wpAnyH_take (i := 13) (v := ?_) (by rw [List.getElem?_toArray]; rfl) (by kernel_rfl) (by kernel_rfl) (by kernel_rfl) (by exact fun _ _ _ h => h) (Or.inl ⟨by rfl, ?_⟩) (by assumption) ?_
    rotate_left
    · intro w' hSw
      obtain ⟨c0, c1, c2, c3, c4, _⟩ := hSw
      go_simp
      try with_reducible rfl
    try simp only [Act.put, List.setIfInBounds_toArray, List.set_cons_zero, List.set_cons_succ]
    refine wpAnyH_take (i := 14) (v := ?_) (by rw [List.getElem?_toArray]; rfl) (by kernel_rfl) (by kernel_rfl) (by kernel_rfl) (by exact fun _ _ _ h => h) (Or.inl ⟨by rfl, ?_⟩) (by assumption) ?_
    rotate_left
    · intro w' hSw
      obtain ⟨c0, c1, c2, c3, c4, _⟩ := hSw
      go_simp
      try with_reducible rfl
    try simp only [Act.put, List.setIfInBounds_toArray, List.set_cons_zero, List.set_cons_succ]
    refine wpAnyH_done (by kernel_rfl) ?_ _
    go_wp2
    go_ret2
    exact ⟨⟨Q, hQ, rfl⟩, HB6.out⟩
theorem put_at (v : Value) (r : Rt) (w : World) (h : IsR w v r) (hf : Few r) : Calls Try.prog 16 #[v] w fun e w' => Srt (putR r) e ∧ Below w.heap.size w w' := by
  obtain ⟨o, f, A, c, rs, B, d, ws, rfl, h2, h3, h4, _, _⟩ := h
  obtain ⟨ep, hep⟩ : ∃ ep, r.ep = ep := ⟨_, rfl⟩
  rw [hep] at h2 ⊢
  subst h2
  exact put_code o f ep A c rs B d ws w h3 h4 hf
end Go.Proofs.Ytjikepfgfbnheaa.Rig
