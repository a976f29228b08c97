/-
  THE LANDED CODE (package data): Right, Put, read, Take. By an AI agent; no person has read it.
-/
import Derived.Test.YtjdignbmlfbdnaaGreatQCode2
import Derived.Test.YtjdignbmlfbdnaaGreatZ6
namespace Go.Proofs.YtjdignbmlfbdnaaGreat.Dta
open Go.RowKit Wire Term Draw Reg Clo

set_option linter.unusedSimpArgs false
set_option linter.unusedVariables false
/-- A value that says a blob. -/
def IsB (v : Value) (b : Bb) : Prop := ∃ S G : ByteArray, S.data.toList = b.sl ∧ G.data.toList = b.sg ∧ v = .agg #[.int .i64 b.ep, .string S, .string G]
/-- A blob that lies in a block of its own, that nothing has turned. -/
theorem box3 {w w1 : World} {a b c : Value} {t : TypeId} (h : Below (w.alloc (.cells #[a, b, c] t)).heap.size (w.alloc (.cells #[a, b, c] t)) w1) :
    w1.cell? ⟨w.heap.size, 0, none⟩ = some a ∧ w1.cell? ⟨w.heap.size, 1, none⟩ = some b ∧ w1.cell? ⟨w.heap.size, 2, none⟩ = some c := by
  have hlt : w.heap.size < (w.alloc (.cells #[a, b, c] t)).heap.size := by simp
  refine ⟨?_, ?_, ?_⟩
  all_goals rw [h.cell (p := ⟨w.heap.size, _, none⟩) hlt]; simp [go_sem]
/-- The same as one word. -/
def B3 (g : Nat) (w : World) (ep : Int) (S G : ByteArray) : Prop := g < w.heap.size ∧ w.cell? ⟨g, 0, none⟩ = some (.int .i64 ep) ∧ w.cell? ⟨g, 1, none⟩ = some (.string S) ∧ w.cell? ⟨g, 2, none⟩ = some (.string G)
theorem B3.below {g : Nat} {w w1 : World} {ep : Int} {S G : ByteArray} (h : B3 g w ep S G) (hb : Below w.heap.size w w1) : B3 g w1 ep S G := by
  obtain ⟨h0, h1, h2, h3⟩ := h
  refine ⟨Nat.lt_of_lt_of_le h0 hb.size, ?_, ?_, ?_⟩
  all_goals rw [hb.cell (p := ⟨g, _, none⟩) h0]; assumption
theorem b3_box {w w1 : World} {ep : Int} {S G : ByteArray} {t : TypeId} (h : Below (w.alloc (.cells #[.int .i64 ep, .string S, .string G] t)).heap.size (w.alloc (.cells #[.int .i64 ep, .string S, .string G] t)) w1) : B3 w.heap.size w1 ep S G :=
  ⟨Nat.lt_of_lt_of_le (by simp) h.size, (box3 h).1, (box3 h).2.1, (box3 h).2.2⟩
theorem lit3_reads (w : World) (A B C : ByteArray) (g : Nat) (hg : g = w.heap.size) : SReads (w.alloc (.cells #[.string A, .string B, .string C] 9)) (some ⟨g, 0, none⟩) [A, B, C] := fun j hj => by
  subst hg
  refine ⟨w.heap.size, 0, rfl, by simp, ?_⟩
  have : j = 0 ∨ j = 1 ∨ j = 2 := by simp only [List.length_cons, List.length_nil] at hj; omega
  rcases this with rfl | rfl | rfl <;> simp [go_sem]
theorem bel_box {w w1 : World} {o : Obj} (h : Below (w.alloc o).heap.size (w.alloc o) w1) : Below w.heap.size w w1 := after_alloc (Below.refl _ _) h
set_option maxHeartbeats 4000000 in
set_option maxRecDepth 1000000 in
theorem cright_any (ep : Int) (S G : ByteArray) (w : World) (hS : S.size ≤ 140737488355328) (hG : G.size ≤ 140737488355328) :
    Calls Tryz.prog 15 #[.agg #[.int .i64 ep, .string S, .string G]] w fun e w' => e = .returned (.bool (decide (BR ⟨ep, S.data.toList, G.data.toList⟩))) ∧ Below w.heap.size w w' := by
  have HK1 := Lib.hid fun w => t_Kind S w hS
  have HK2 := Lib.hid fun w => t_Kind G w hG
  generalize hb : decide (BR ⟨ep, S.data.toList, G.data.toList⟩) = bb
  have HE := Lib.hid fun w => isEpoch_any ep w
  obtain ⟨k1, hk1⟩ : ∃ k, kind S.data.toList = k := ⟨_, rfl⟩
  obtain ⟨k2, hk2⟩ : ∃ k, kind G.data.toList = k := ⟨_, rfl⟩
  have hbb : bb = (decide (0 ≤ ep ∧ ep ≤ 7) && (decide (k1 = 115) && decide (k2 = 103))) := by
    rw [← hb, ← hk1, ← hk2, ← Bool.decide_and, ← Bool.decide_and]
    exact decide_eq_decide.2 Iff.rfl
  rw [hk1] at HK1
  rw [hk2] at HK2
  clear hb hk1 hk2
  generalize decide (0 ≤ ep ∧ ep ≤ 7) = v1 at HE hbb
  cases v1 with
  | false =>
    obtain rfl : bb = false := hbb
    go_enter Tryz.func15, Tryz.ntmps15
    go_wp2_with fail
    with_reducible refine (HE.out _).mono ?_
    rintro e w1 ⟨rfl, h1⟩
    have HW := Lib.hid h1
    clear h1
    dsimp only
    go_wp2
    go_ret
    exact ⟨rfl, by rw [HW.out]; exact bel_box (Below.refl _ _)⟩
  | true =>
    by_cases h1 : k1 = 115
    · subst h1
      by_cases h2 : k2 = 103
      · subst h2
        obtain rfl : bb = true := hbb
        go_enter Tryz.func15, Tryz.ntmps15
        go_wp2_with fail
        with_reducible refine (HE.out _).mono ?_
        rintro e w1 ⟨rfl, rfl⟩
        dsimp only
        go_wp2_with fail
        with_reducible refine (HK1.out _).mono ?_
        rintro e w2 ⟨rfl, hb1⟩
        obtain ⟨c0, c1, c2⟩ := box3 hb1
        have HB1 := Lib.hid (bel_box hb1)
        clear hb1
        dsimp only
        go_wp2_with fail
        with_reducible refine (HK2.out _).mono ?_
        rintro e w3 ⟨rfl, hb2⟩
        have HB2 := Lib.hid (Bel.call HB1.out hb2)
        clear hb2
        dsimp only
        go_wp2
        go_ret
        exact ⟨rfl, HB2.out⟩
      · have q2 : ((k2 : Int) == 103) = false := by rw [beq_eq_false_iff_ne]; omega
        obtain rfl : bb = false := by rw [hbb]; simp [h2]
        clear hbb h2
        go_enter Tryz.func15, Tryz.ntmps15
        go_wp2_with fail
        with_reducible refine (HE.out _).mono ?_
        rintro e w1 ⟨rfl, rfl⟩
        dsimp only
        go_wp2_with fail
        with_reducible refine (HK1.out _).mono ?_
        rintro e w2 ⟨rfl, hb1⟩
        obtain ⟨c0, c1, c2⟩ := box3 hb1
        have HB1 := Lib.hid (bel_box hb1)
        clear hb1
        dsimp only
        go_wp2_with fail
        with_reducible refine (HK2.out _).mono ?_
        rintro e w3 ⟨rfl, hb2⟩
        have HB2 := Lib.hid (Bel.call HB1.out hb2)
        clear hb2
        dsimp only
        go_wp2
        go_ret
        exact ⟨rfl, HB2.out⟩
    · have q1 : ((k1 : Int) == 115) = false := by rw [beq_eq_false_iff_ne]; omega
      obtain rfl : bb = false := by rw [hbb]; simp [h1]
      clear hbb h1
      go_enter Tryz.func15, Tryz.ntmps15
      go_wp2_with fail
      with_reducible refine (HE.out _).mono ?_
      rintro e w1 ⟨rfl, rfl⟩
      dsimp only
      go_wp2_with fail
      with_reducible refine (HK1.out _).mono ?_
      rintro e w2 ⟨rfl, hb1⟩
      obtain ⟨c0, c1, c2⟩ := box3 hb1
      have HB1 := Lib.hid (bel_box hb1)
      clear hb1
      dsimp only
      go_wp2
      go_ret
      exact ⟨rfl, HB1.out⟩
theorem right_is {v : Value} {b : Bb} (h : IsB v b) (h1 : b.sl.length ≤ 140737488355328) (h2 : b.sg.length ≤ 140737488355328) (w : World) : Calls Tryz.prog 15 #[v] w fun e w' => e = .returned (.bool (decide (BR b))) ∧ Below w.heap.size w w' := by
  obtain ⟨S, G, hS, hG, rfl⟩ := h
  have := cright_any b.ep S G w (by rw [Lib.size_eq, hS]; exact h1) (by rw [Lib.size_eq, hG]; exact h2)
  rw [hS, hG] at this
  exact this
set_option maxHeartbeats 4000000 in
set_option maxRecDepth 1000000 in
theorem cput_any (ep : Int) (S G : ByteArray) (w : World) (hS : S.size ≤ 140737488355328) (hG : G.size ≤ 140737488355328) :
    Calls Tryz.prog 7 #[.agg #[.int .i64 ep, .string S, .string G]] w fun e w' => Sr (putB ⟨ep, S.data.toList, G.data.toList⟩) e ∧ Below w.heap.size w w' := by
  have HR := Lib.hid fun w => cright_any ep S G w hS hG
  generalize hx : putB ⟨ep, S.data.toList, G.data.toList⟩ = x
  unfold putB at hx
  by_cases hr : BR ⟨ep, S.data.toList, G.data.toList⟩
  · rw [if_pos hr] at hx
    rw [decide_eq_true hr] at HR
    have hl := br_lens hr
    have he := hr.1
    simp only at hl he
    obtain ⟨k, rfl⟩ : ∃ k : Nat, ep = (k : Int) := ⟨ep.toNat, by omega⟩
    have cw : IntKind.u64.wrap (k : Int) = (k : Int) := by rw [IntKind.wrap_u64]; omega
    have HP := Lib.hid fun w => put_any k w (by omega)
    have hpl := (put_le (n := k) (by omega)).2
    have HPA : Hid (∀ (g : Nat) (K : ByteArray) (w : World), K.data.toList = put k → SReads w (some ⟨g, 0, none⟩) [K, S, G] → Calls Tryz.prog 27 #[.slice (some ⟨g, 0, none⟩) 3 3] w fun e w' => St x.1 e ∧ Below w.heap.size w w') := fun g K w hK hsr => by
      have := putAll_any (some ⟨g, 0, none⟩) 3 [K, S, G] w hsr (by simp) (by
        show ([K.data.toList, S.data.toList, G.data.toList] : List (List UInt8)).flatten.length ≤ _
        simp only [List.flatten_cons, List.flatten_nil, List.append_nil, List.length_append, hK]
        omega)
      rw [show bl [K, S, G] = [K.data.toList, S.data.toList, G.data.toList] from rfl, hK] at this
      rw [← hx]
      exact this
    have hx2 : x.2 = 0 := by rw [← hx]
    obtain ⟨xl, xf⟩ := x
    obtain rfl : xf = 0 := hx2
    simp only at HPA
    clear hx hr hl he hpl
    go_enter Tryz.func7, Tryz.ntmps7
    go_wp2_with fail
    with_reducible refine (HR.out _).mono ?_
    rintro e w1 ⟨rfl, hb1⟩
    have hx1 := b3_box hb1
    have HB1 := Lib.hid (bel_box hb1)
    clear hb1
    dsimp only
    go_wp2_with fail
    refine wp_region_held_drew (S := fun w' => B3 w.heap.size w' k S G) (by kernel_rfl) (hx1.below (Below.drewN' (Below.refl w1.heap.size w1) 1)) (fun hHeld => ?_)
    refine wpAnyH_take (i := 0) (v := ?_) (by rw [List.getElem?_toArray]; rfl) (by kernel_rfl) (by kernel_rfl) (by kernel_rfl) (by exact fun _ _ _ h => h) (Or.inl ⟨by rfl, ?_⟩) (by assumption) ?_
    rotate_left
    · intro w' hSw
      obtain ⟨_, c0, c1, c2⟩ := hSw
      go_simp
      try with_reducible rfl
    try simp only [Act.put, List.setIfInBounds_toArray, List.set_cons_zero, List.set_cons_succ]
    refine wpAnyH_take (i := 1) (v := ?_) (by rw [List.getElem?_toArray]; rfl) (by kernel_rfl) (by kernel_rfl) (by kernel_rfl) (by exact fun _ _ _ h => h) (Or.inl ⟨by rfl, ?_⟩) (by assumption) ?_
    rotate_left
    · intro w' hSw
      obtain ⟨_, c0, c1, c2⟩ := hSw
      go_simp
      try with_reducible rfl
    try simp only [Act.put, List.setIfInBounds_toArray, List.set_cons_zero, List.set_cons_succ]
    refine wpAnyH_take (i := 2) (v := ?_) (by rw [List.getElem?_toArray]; rfl) (by kernel_rfl) (by kernel_rfl) (by kernel_rfl) (by exact fun _ _ _ h => h) (Or.inl ⟨by rfl, ?_⟩) (by assumption) ?_
    rotate_left
    · intro w' hSw
      obtain ⟨_, c0, c1, c2⟩ := hSw
      go_simp
      try with_reducible rfl
    try simp only [Act.put, List.setIfInBounds_toArray, List.set_cons_zero, List.set_cons_succ]
    refine wpAnyH_take (i := 4) (v := ?_) (by rw [List.getElem?_toArray]; rfl) (by kernel_rfl) (by kernel_rfl) (by kernel_rfl) (by exact fun _ _ _ h => h) (Or.inl ⟨by rfl, ?_⟩) (by assumption) ?_
    rotate_left
    · intro w' hSw
      obtain ⟨_, c0, c1, c2⟩ := hSw
      go_simp
      try with_reducible rfl
    try simp only [Act.put, List.setIfInBounds_toArray, List.set_cons_zero, List.set_cons_succ]
    refine wpAnyH_take (i := 5) (v := ?_) (by rw [List.getElem?_toArray]; rfl) (by kernel_rfl) (by kernel_rfl) (by kernel_rfl) (by exact fun _ _ _ h => h) (Or.inl ⟨by rfl, ?_⟩) (by assumption) ?_
    rotate_left
    · intro w' hSw
      obtain ⟨_, c0, c1, c2⟩ := hSw
      go_simp
      try with_reducible rfl
    try simp only [Act.put, List.setIfInBounds_toArray, List.set_cons_zero, List.set_cons_succ]
    refine wpAnyH_take (i := 6) (v := ?_) (by rw [List.getElem?_toArray]; rfl) (by kernel_rfl) (by kernel_rfl) (by kernel_rfl) (by exact fun _ _ _ h => h) (Or.inl ⟨by rfl, ?_⟩) (by assumption) ?_
    rotate_left
    · intro w' hSw
      obtain ⟨_, c0, c1, c2⟩ := hSw
      go_simp
      try with_reducible rfl
    try simp only [Act.put, List.setIfInBounds_toArray, List.set_cons_zero, List.set_cons_succ]
    refine wpAnyH_take (i := 7) (v := ?_) (by rw [List.getElem?_toArray]; rfl) (by kernel_rfl) (by kernel_rfl) (by kernel_rfl) (by exact fun _ _ _ h => h) (Or.inl ⟨by rfl, ?_⟩) (by assumption) ?_
    rotate_left
    · intro w' hSw
      obtain ⟨_, c0, c1, c2⟩ := hSw
      go_simp
      try with_reducible rfl
    try simp only [Act.put, List.setIfInBounds_toArray, List.set_cons_zero, List.set_cons_succ]
    have HB0 : Hid (Below w.heap.size w w1.drew) := Lib.hid (Below.drewN' HB1.out 1)
    have hx0 := hHeld
    clear hHeld
    refine wpAnyH_ready (rs := [3]) (by kernel_rfl) (by simp) ?_
    refine AllReadyH.cons (by rw [List.getElem?_toArray]; rfl) (fun K hK => ?_) AllReadyH.nil
    go_simp
    go_at_call 28
    with_reducible refine (HP.out _).mono ?_
    rintro e w3 ⟨⟨P, hP, rfl⟩, hb3⟩
    have HB3 := Lib.hid (Bel.call HB0.out hb3)
    have hx3 := hx0.below hb3
    clear hb3
    dsimp only
    refine hK.out _ _ hx3 (fun hHeld => ?_)
    try simp only [Act.put, List.setIfInBounds_toArray, List.set_cons_zero, List.set_cons_succ]
    clear hHeld
    refine wpAnyH_ready (rs := [8]) (by kernel_rfl) (by simp) ?_
    refine AllReadyH.cons (by rw [List.getElem?_toArray]; rfl) (fun K hK => ?_) AllReadyH.nil
    go_simp
    have HB4 := Lib.hid (HB3.out.alloc HB3.out.size (.cells #[.string P, .string S, .string G] 9))
    have hx4 := hx3.below ((Below.refl w3.heap.size w3).alloc (Nat.le_refl _) (.cells #[.string P, .string S, .string G] 9))
    refine hK.out _ _ hx4 (fun hHeld => ?_)
    try simp only [Act.put, List.setIfInBounds_toArray, List.set_cons_zero, List.set_cons_succ]
    clear hHeld
    refine wpAnyH_ready (rs := [9]) (by kernel_rfl) (by simp) ?_
    refine AllReadyH.cons (by rw [List.getElem?_toArray]; rfl) (fun K hK => ?_) AllReadyH.nil
    go_simp
    go_at_call 27
    with_reducible refine (HPA.out _ P _ hP (lit3_reads w3 P S G _ rfl)).mono ?_
    rintro e w5 ⟨⟨Q, hQ, rfl⟩, hb5⟩
    have HB5 := Lib.hid (Bel.call HB4.out hb5)
    have hx5 := hx4.below hb5
    clear hb5
    dsimp only
    refine hK.out _ _ hx5 (fun hHeld => ?_)
    try simp only [Act.put, List.setIfInBounds_toArray, List.set_cons_zero, List.set_cons_succ]
    refine wpAnyH_take (i := 10) (v := ?_) (by rw [List.getElem?_toArray]; rfl) (by kernel_rfl) (by kernel_rfl) (by kernel_rfl) (by exact fun _ _ _ h => h) (Or.inl ⟨by rfl, ?_⟩) (by assumption) ?_
    rotate_left
    · intro w' hSw
      obtain ⟨_, c0, c1, c2⟩ := hSw
      go_simp
      try with_reducible rfl
    try simp only [Act.put, List.setIfInBounds_toArray, List.set_cons_zero, List.set_cons_succ]
    refine wpAnyH_take (i := 11) (v := ?_) (by rw [List.getElem?_toArray]; rfl) (by kernel_rfl) (by kernel_rfl) (by kernel_rfl) (by exact fun _ _ _ h => h) (Or.inl ⟨by rfl, ?_⟩) (by assumption) ?_
    rotate_left
    · intro w' hSw
      obtain ⟨_, c0, c1, c2⟩ := hSw
      go_simp
      try with_reducible rfl
    try simp only [Act.put, List.setIfInBounds_toArray, List.set_cons_zero, List.set_cons_succ]
    refine wpAnyH_done (by kernel_rfl) ?_ _
    go_wp2
    go_ret2
    exact ⟨⟨Q, hQ, rfl⟩, HB5.out⟩
  · rw [if_neg hr] at hx
    rw [decide_eq_false hr] at HR
    have HX := Lib.hid hx
    clear hx hr
    go_enter Tryz.func7, Tryz.ntmps7
    go_wp2_with fail
    with_reducible refine (HR.out _).mono ?_
    rintro e w1 ⟨rfl, hb1⟩
    have HB1 := Lib.hid (bel_box hb1)
    clear hb1
    dsimp only
    go_wp2
    go_ret2
    exact ⟨by rw [← HX.out]; exact sr_nil _, HB1.out⟩
end Go.Proofs.YtjdignbmlfbdnaaGreat.Dta
