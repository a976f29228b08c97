/-
  THE DOCUMENT's ANSWER (letterlockref9): Right, Put. By an AI agent; no person has read it.
-/
import Derived.Test.YtjdignbmlfbdnaaGreatQCode3
import Derived.Test.YtjdignbmlfbdnaaGreatZ6
import Derived.Test.YtjdignbmlfbdnaaGreatZ7
namespace Go.Proofs.YtjdignbmlfbdnaaGreat.Dta
open Go.RowKit Wire Term Draw Reg Clo

set_option linter.unusedSimpArgs false
set_option linter.unusedVariables false
set_option maxHeartbeats 4000000 in
set_option maxRecDepth 1000000 in
theorem rright_any (ep : Int) (S G : ByteArray) (w : World) (hS : S.size ≤ 140737488355328) (hG : G.size ≤ 140737488355328) :
    Calls Tryz.prog 16 #[.agg #[.int .i64 ep, .string S, .string G]] w fun e w' => e = .returned (.bool (decide (BR ⟨ep, S.data.toList, G.data.toList⟩))) ∧ Below w.heap.size w w' := by
  have HK1 := Lib.hid fun w => kind_any S w hS
  have HK2 := Lib.hid fun w => kind_any G w hG
  generalize hb : decide (BR ⟨ep, S.data.toList, G.data.toList⟩) = bb
  obtain ⟨k1, hk1⟩ : ∃ k, kind S.data.toList = k := ⟨_, rfl⟩
  obtain ⟨k2, hk2⟩ : ∃ k, kind G.data.toList = k := ⟨_, rfl⟩
  have hbb : bb = (decide (0 ≤ ep ∧ ep ≤ 7) && (decide (k1 = 115) && decide (k2 = 103))) := by
    rw [← hb, ← hk1, ← hk2, ← Bool.decide_and, ← Bool.decide_and]
    exact decide_eq_decide.2 Iff.rfl
  rw [hk1] at HK1
  rw [hk2] at HK2
  clear hb hk1 hk2
  by_cases h0 : 0 ≤ ep
  · by_cases h7 : ep ≤ 7
    · rw [decide_eq_true (show 0 ≤ ep ∧ ep ≤ 7 from ⟨h0, h7⟩), Bool.true_and] at hbb
      by_cases h1 : k1 = 115
      · subst h1
        by_cases h2 : k2 = 103
        · subst h2
          obtain rfl : bb = true := hbb
          go_enter Tryz.func16, Tryz.ntmps16
          go_wp2_with fail
          with_reducible refine (HK1.out _).mono ?_
          rintro e w2 ⟨rfl, hb1⟩
          obtain ⟨c0, c1, c2⟩ := box3 hb1
          have HB1 := Lib.hid (bel_box hb1)
          clear hb1
          dsimp only
          go_wp2_with fail
          with_reducible refine (HK2.out _).mono ?_
          rintro e w3 ⟨rfl, hb2⟩
          have HB2 := Lib.hid (Bel.call HB1.out hb2)
          clear hb2
          dsimp only
          go_wp2
          go_ret
          exact ⟨rfl, HB2.out⟩
        · have q2 : ((k2 : Int) == 103) = false := by rw [beq_eq_false_iff_ne]; omega
          obtain rfl : bb = false := by rw [hbb]; simp [h2]
          clear hbb h2
          go_enter Tryz.func16, Tryz.ntmps16
          go_wp2_with fail
          with_reducible refine (HK1.out _).mono ?_
          rintro e w2 ⟨rfl, hb1⟩
          obtain ⟨c0, c1, c2⟩ := box3 hb1
          have HB1 := Lib.hid (bel_box hb1)
          clear hb1
          dsimp only
          go_wp2_with fail
          with_reducible refine (HK2.out _).mono ?_
          rintro e w3 ⟨rfl, hb2⟩
          have HB2 := Lib.hid (Bel.call HB1.out hb2)
          clear hb2
          dsimp only
          go_wp2
          go_ret
          exact ⟨rfl, HB2.out⟩
      · have q1 : ((k1 : Int) == 115) = false := by rw [beq_eq_false_iff_ne]; omega
        obtain rfl : bb = false := by rw [hbb]; simp [h1]
        clear hbb h1
        go_enter Tryz.func16, Tryz.ntmps16
        go_wp2_with fail
        with_reducible refine (HK1.out _).mono ?_
        rintro e w2 ⟨rfl, hb1⟩
        obtain ⟨c0, c1, c2⟩ := box3 hb1
        have HB1 := Lib.hid (bel_box hb1)
        clear hb1
        dsimp only
        go_wp2
        go_ret
        exact ⟨rfl, HB1.out⟩
    · obtain rfl : bb = false := by rw [hbb, decide_eq_false (fun h => h7 h.2)]; rfl
      have h7' : 7 < ep := by omega
      clear hbb
      go_enter Tryz.func16, Tryz.ntmps16
      go_wp2
      go_ret
      exact ⟨rfl, bel_box (Below.refl _ _)⟩
  · obtain rfl : bb = false := by rw [hbb, decide_eq_false (fun h => h0 h.1)]; rfl
    have h0' : ep < 0 := by omega
    clear hbb
    go_enter Tryz.func16, Tryz.ntmps16
    go_wp2
    go_ret
    exact ⟨rfl, bel_box (Below.refl _ _)⟩
theorem rright_is {v : Value} {b : Bb} (h : IsB v b) (h1 : b.sl.length ≤ 140737488355328) (h2 : b.sg.length ≤ 140737488355328) (w : World) : Calls Tryz.prog 16 #[v] w fun e w' => e = .returned (.bool (decide (BR b))) ∧ Below w.heap.size w w' := by
  obtain ⟨S, G, hS, hG, rfl⟩ := h
  have := rright_any b.ep S G w (by rw [Lib.size_eq, hS]; exact h1) (by rw [Lib.size_eq, hG]; exact h2)
  rw [hS, hG] at this
  exact this
set_option maxHeartbeats 4000000 in
set_option maxRecDepth 1000000 in
theorem rput_any (ep : Int) (S G : ByteArray) (w : World) (hS : S.size ≤ 140737488355328) (hG : G.size ≤ 140737488355328) :
    Calls Tryz.prog 8 #[.agg #[.int .i64 ep, .string S, .string G]] w fun e w' => Sr (putB ⟨ep, S.data.toList, G.data.toList⟩) e ∧ Below w.heap.size w w' := by
  have HR := Lib.hid fun w => rright_any ep S G w hS hG
  generalize hx : putB ⟨ep, S.data.toList, G.data.toList⟩ = x
  unfold putB at hx
  by_cases hr : BR ⟨ep, S.data.toList, G.data.toList⟩
  · rw [if_pos hr] at hx
    rw [decide_eq_true hr] at HR
    have hl := br_lens hr
    have he := hr.1
    simp only at hl he
    obtain ⟨k, rfl⟩ : ∃ k : Nat, ep = (k : Int) := ⟨ep.toNat, by omega⟩
    have cw : IntKind.u64.wrap (k : Int) = (k : Int) := by rw [IntKind.wrap_u64]; omega
    have HP := Lib.hid fun w => refPut_any k w (by omega)
    have hpl := (put_le (n := k) (by omega)).2
    have HPA : Hid (∀ (g : Nat) (K : ByteArray) (w : World), K.data.toList = put k → SReads w (some ⟨g, 0, none⟩) [K, S, G] → Calls Tryz.prog 29 #[.slice (some ⟨g, 0, none⟩) 3 3] w fun e w' => St x.1 e ∧ Below w.heap.size w w') := fun g K w hK hsr => by
      have := refPutAll_any (some ⟨g, 0, none⟩) 3 [K, S, G] w hsr (by simp) (by
        show ([K.data.toList, S.data.toList, G.data.toList] : List (List UInt8)).flatten.length ≤ _
        simp only [List.flatten_cons, List.flatten_nil, List.append_nil, List.length_append, hK]
        omega)
      rw [show bl [K, S, G] = [K.data.toList, S.data.toList, G.data.toList] from rfl, hK] at this
      rw [← hx]
      exact this
    have hx2 : x.2 = 0 := by rw [← hx]
    obtain ⟨xl, xf⟩ := x
    obtain rfl : xf = 0 := hx2
    simp only at HPA
    clear hx hr hl he hpl
    go_enter Tryz.func8, Tryz.ntmps8
    go_wp2_with fail
    with_reducible refine (HR.out _).mono ?_
    rintro e w1 ⟨rfl, hb1⟩
    have hx1 := b3_box hb1
    have HB1 := Lib.hid (bel_box hb1)
    clear hb1
    dsimp only
    go_wp2_with fail
    refine wp_region_held_drew (S := fun w' => B3 w.heap.size w' k S G) (by kernel_rfl) (hx1.below (Below.drewN' (Below.refl w1.heap.size w1) 1)) (fun hHeld => ?_)
    refine wpAnyH_take (i := 0) (v := ?_) (by rw [List.getElem?_toArray]; rfl) (by kernel_rfl) (by kernel_rfl) (by kernel_rfl) (by exact fun _ _ _ h => h) (Or.inl ⟨by rfl, ?_⟩) (by assumption) ?_
    rotate_left
    · intro w' hSw
      obtain ⟨_, c0, c1, c2⟩ := hSw
      go_simp
      try with_reducible rfl
    try simp only [Act.put, List.setIfInBounds_toArray, List.set_cons_zero, List.set_cons_succ]
    refine wpAnyH_take (i := 1) (v := ?_) (by rw [List.getElem?_toArray]; rfl) (by kernel_rfl) (by kernel_rfl) (by kernel_rfl) (by exact fun _ _ _ h => h) (Or.inl ⟨by rfl, ?_⟩) (by assumption) ?_
    rotate_left
    · intro w' hSw
      obtain ⟨_, c0, c1, c2⟩ := hSw
      go_simp
      try with_reducible rfl
    try simp only [Act.put, List.setIfInBounds_toArray, List.set_cons_zero, List.set_cons_succ]
    refine wpAnyH_take (i := 2) (v := ?_) (by rw [List.getElem?_toArray]; rfl) (by kernel_rfl) (by kernel_rfl) (by kernel_rfl) (by exact fun _ _ _ h => h) (Or.inl ⟨by rfl, ?_⟩) (by assumption) ?_
    rotate_left
    · intro w' hSw
      obtain ⟨_, c0, c1, c2⟩ := hSw
      go_simp
      try with_reducible rfl
    try simp only [Act.put, List.setIfInBounds_toArray, List.set_cons_zero, List.set_cons_succ]
    refine wpAnyH_take (i := 4) (v := ?_) (by rw [List.getElem?_toArray]; rfl) (by kernel_rfl) (by kernel_rfl) (by kernel_rfl) (by exact fun _ _ _ h => h) (Or.inl ⟨by rfl, ?_⟩) (by assumption) ?_
    rotate_left
    · intro w' hSw
      obtain ⟨_, c0, c1, c2⟩ := hSw
      go_simp
      try with_reducible rfl
    try simp only [Act.put, List.setIfInBounds_toArray, List.set_cons_zero, List.set_cons_succ]
    refine wpAnyH_take (i := 5) (v := ?_) (by rw [List.getElem?_toArray]; rfl) (by kernel_rfl) (by kernel_rfl) (by kernel_rfl) (by exact fun _ _ _ h => h) (Or.inl ⟨by rfl, ?_⟩) (by assumption) ?_
    rotate_left
    · intro w' hSw
      obtain ⟨_, c0, c1, c2⟩ := hSw
      go_simp
      try with_reducible rfl
    try simp only [Act.put, List.setIfInBounds_toArray, List.set_cons_zero, List.set_cons_succ]
    refine wpAnyH_take (i := 6) (v := ?_) (by rw [List.getElem?_toArray]; rfl) (by kernel_rfl) (by kernel_rfl) (by kernel_rfl) (by exact fun _ _ _ h => h) (Or.inl ⟨by rfl, ?_⟩) (by assumption) ?_
    rotate_left
    · intro w' hSw
      obtain ⟨_, c0, c1, c2⟩ := hSw
      go_simp
      try with_reducible rfl
    try simp only [Act.put, List.setIfInBounds_toArray, List.set_cons_zero, List.set_cons_succ]
    refine wpAnyH_take (i := 7) (v := ?_) (by rw [List.getElem?_toArray]; rfl) (by kernel_rfl) (by kernel_rfl) (by kernel_rfl) (by exact fun _ _ _ h => h) (Or.inl ⟨by rfl, ?_⟩) (by assumption) ?_
    rotate_left
    · intro w' hSw
      obtain ⟨_, c0, c1, c2⟩ := hSw
      go_simp
      try with_reducible rfl
    try simp only [Act.put, List.setIfInBounds_toArray, List.set_cons_zero, List.set_cons_succ]
    have HB0 : Hid (Below w.heap.size w w1.drew) := Lib.hid (Below.drewN' HB1.out 1)
    have hx0 := hHeld
    clear hHeld
    refine wpAnyH_ready (rs := [3]) (by kernel_rfl) (by simp) ?_
    refine AllReadyH.cons (by rw [List.getElem?_toArray]; rfl) (fun K hK => ?_) AllReadyH.nil
    go_simp
    go_at_call 30
    with_reducible refine (HP.out _).mono ?_
    rintro e w3 ⟨⟨P, hP, rfl⟩, hb3⟩
    have HB3 := Lib.hid (Bel.call HB0.out hb3)
    have hx3 := hx0.below hb3
    clear hb3
    dsimp only
    refine hK.out _ _ hx3 (fun hHeld => ?_)
    try simp only [Act.put, List.setIfInBounds_toArray, List.set_cons_zero, List.set_cons_succ]
    clear hHeld
    refine wpAnyH_ready (rs := [8]) (by kernel_rfl) (by simp) ?_
    refine AllReadyH.cons (by rw [List.getElem?_toArray]; rfl) (fun K hK => ?_) AllReadyH.nil
    go_simp
    have HB4 := Lib.hid (HB3.out.alloc HB3.out.size (.cells #[.string P, .string S, .string G] 9))
    have hx4 := hx3.below ((Below.refl w3.heap.size w3).alloc (Nat.le_refl _) (.cells #[.string P, .string S, .string G] 9))
    refine hK.out _ _ hx4 (fun hHeld => ?_)
    try simp only [Act.put, List.setIfInBounds_toArray, List.set_cons_zero, List.set_cons_succ]
    clear hHeld
    refine wpAnyH_ready (rs := [9]) (by kernel_rfl) (by simp) ?_
    refine AllReadyH.cons (by rw [List.getElem?_toArray]; rfl) (fun K hK => ?_) AllReadyH.nil
    go_simp
    go_at_call 29
    with_reducible refine (HPA.out _ P _ hP (lit3_reads w3 P S G _ rfl)).mono ?_
    rintro e w5 ⟨⟨Q, hQ, rfl⟩, hb5⟩
    have HB5 := Lib.hid (Bel.call HB4.out hb5)
    have hx5 := hx4.below hb5
    clear hb5
    dsimp only
    refine hK.out _ _ hx5 (fun hHeld => ?_)
    try simp only [Act.put, List.setIfInBounds_toArray, List.set_cons_zero, List.set_cons_succ]
    refine wpAnyH_take (i := 10) (v := ?_) (by rw [List.getElem?_toArray]; rfl) (by kernel_rfl) (by kernel_rfl) (by kernel_rfl) (by exact fun _ _ _ h => h) (Or.inl ⟨by rfl, ?_⟩) (by assumption) ?_
    rotate_left
    · intro w' hSw
      obtain ⟨_, c0, c1, c2⟩ := hSw
      go_simp
      try with_reducible rfl
    try simp only [Act.put, List.setIfInBounds_toArray, List.set_cons_zero, List.set_cons_succ]
    refine wpAnyH_take (i := 11) (v := ?_) (by rw [List.getElem?_toArray]; rfl) (by kernel_rfl) (by kernel_rfl) (by kernel_rfl) (by exact fun _ _ _ h => h) (Or.inl ⟨by rfl, ?_⟩) (by assumption) ?_
    rotate_left
    · intro w' hSw
      obtain ⟨_, c0, c1, c2⟩ := hSw
      go_simp
      try with_reducible rfl
    try simp only [Act.put, List.setIfInBounds_toArray, List.set_cons_zero, List.set_cons_succ]
    refine wpAnyH_done (by kernel_rfl) ?_ _
    go_wp2
    go_ret2
    exact ⟨⟨Q, hQ, rfl⟩, HB5.out⟩
  · rw [if_neg hr] at hx
    rw [decide_eq_false hr] at HR
    have HX := Lib.hid hx
    clear hx hr
    go_enter Tryz.func8, Tryz.ntmps8
    go_wp2_with fail
    with_reducible refine (HR.out _).mono ?_
    rintro e w1 ⟨rfl, hb1⟩
    have HB1 := Lib.hid (bel_box hb1)
    clear hb1
    dsimp only
    go_wp2
    go_ret2
    exact ⟨by rw [← HX.out]; exact sr_nil _, HB1.out⟩
end Go.Proofs.YtjdignbmlfbdnaaGreat.Dta
