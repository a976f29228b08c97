/-
  THE CODE's apart, Right (package rights). By an AI agent; no person has read it.
-/
import Derived.Test.YtjikepfgfbnheaaGCRi
import Derived.Test.YtjikepfgfbnheaaG2
namespace Go.Proofs.Ytjikepfgfbnheaa.Rig
open Go.RowKit Wire

set_option linter.unusedSimpArgs false
set_option linter.unusedVariables false
set_option maxHeartbeats 4000000 in
set_option maxRecDepth 1000000 in
theorem apart_any (o f : ByteArray) (ep : Int) (A : Option Addr) (c : Nat) (rs : List ByteArray) (B : Option Addr) (d : Nat) (ws : List ByteArray) (w : World) (hA : SReads w A rs) (hB : SReads w B ws) (hn1 : rs.length ≤ 1000) (hn2 : ws.length ≤ 1000)
    (p1 : (bl rs).Pairwise (fun a b => lt a b = true)) (p2 : (bl ws).Pairwise (fun a b => lt a b = true)) :
    Calls Try.prog 48 #[RV o f ep A rs.length c B ws.length d] w fun e w' => e = .returned (.bool (decide (o.data.toList ∉ bl rs ∧ o.data.toList ∉ bl ws ∧ ∀ x ∈ bl rs, x ∉ bl ws))) ∧ Below w.heap.size w w' := by
  have HA := Lib.hid hA
  have HBB := Lib.hid hB
  have HM1 := Lib.hid fun w h => among_any A c rs o w h (by omega) p1
  have HM2 := Lib.hid fun w h => among_any B d ws o w h (by omega) p2
  have HM3 := Lib.hid fun (u : ByteArray) w h => among_any B d ws u w h (by omega) p2
  obtain ⟨bb, hbb⟩ : ∃ b, decide (o.data.toList ∉ bl rs ∧ o.data.toList ∉ bl ws ∧ ∀ x ∈ bl rs, x ∉ bl ws) = b := ⟨_, rfl⟩
  have HNO : Hid (¬ (o.data.toList ∉ bl rs ∧ o.data.toList ∉ bl ws ∧ ∀ x ∈ bl rs, x ∉ bl ws) → bb = false) := fun h => by rw [← hbb]; exact decide_eq_false h
  have HYES : Hid ((o.data.toList ∉ bl rs ∧ o.data.toList ∉ bl ws ∧ ∀ x ∈ bl rs, x ∉ bl ws) → bb = true) := fun h => by rw [← hbb]; exact decide_eq_true h
  rw [hbb]
  clear hA hB p1 p2 hbb
  unfold RV
  by_cases h1 : o.data.toList ∈ bl rs
  · have hbf : bb = false := HNO.out fun h => h.1 h1
    subst hbf
    rw [decide_eq_true h1] at HM1
    clear HNO HYES h1
    go_enter Try.func48, Try.ntmps48
    go_wp2_with fail
    have HX0 := Lib.hid (bx_alloc w o f ep A rs.length c B ws.length d 24)
    have HB0 := Lib.hid (al w (.cells #[.string o, .string f, .int .i64 ep, .slice A rs.length c, .slice B ws.length d] 24))
    generalize w.alloc (.cells #[.string o, .string f, .int .i64 ep, .slice A rs.length c, .slice B ws.length d] 24) = w0 at HX0 HB0 ⊢
    obtain ⟨c0, c1, c2, c3, c4, _⟩ := HX0.out
    with_reducible refine (HM1.out _ (HA.out.below HB0.out (Nat.le_refl _))).mono ?_
    rintro e w1 ⟨rfl, hb1⟩
    have HB1 := Lib.hid (Bel.call HB0.out hb1)
    have HX1 := Lib.hid (HX0.out.below hb1 HX0.out.2.2.2.2.2)
    clear hb1 c0 c1 c2 c3 c4
    obtain ⟨c0, c1, c2, c3, c4, _⟩ := HX1.out
    dsimp only
    go_wp2
    go_ret
    exact ⟨rfl, HB1.out⟩
  · rw [decide_eq_false h1] at HM1
    by_cases h2 : o.data.toList ∈ bl ws
    · have hbf : bb = false := HNO.out fun h => h.2.1 h2
      subst hbf
      rw [decide_eq_true h2] at HM2
      clear HNO HYES h1 h2
      go_enter Try.func48, Try.ntmps48
      go_wp2_with fail
      have HX0 := Lib.hid (bx_alloc w o f ep A rs.length c B ws.length d 24)
      have HB0 := Lib.hid (al w (.cells #[.string o, .string f, .int .i64 ep, .slice A rs.length c, .slice B ws.length d] 24))
      generalize w.alloc (.cells #[.string o, .string f, .int .i64 ep, .slice A rs.length c, .slice B ws.length d] 24) = w0 at HX0 HB0 ⊢
      obtain ⟨c0, c1, c2, c3, c4, _⟩ := HX0.out
      with_reducible refine (HM1.out _ (HA.out.below HB0.out (Nat.le_refl _))).mono ?_
      rintro e w1 ⟨rfl, hb1⟩
      have HB1 := Lib.hid (Bel.call HB0.out hb1)
      have HX1 := Lib.hid (HX0.out.below hb1 HX0.out.2.2.2.2.2)
      clear hb1 c0 c1 c2 c3 c4
      obtain ⟨c0, c1, c2, c3, c4, _⟩ := HX1.out
      dsimp only
      go_wp2_with fail
      with_reducible refine (HM2.out _ (HBB.out.below HB1.out (Nat.le_refl _))).mono ?_
      rintro e w2 ⟨rfl, hb2⟩
      have HB2 := Lib.hid (Bel.call HB1.out hb2)
      have HX2 := Lib.hid (HX1.out.below hb2 HX1.out.2.2.2.2.2)
      clear hb2 c0 c1 c2 c3 c4
      obtain ⟨c0, c1, c2, c3, c4, _⟩ := HX2.out
      dsimp only
      go_wp2
      go_ret
      exact ⟨rfl, HB2.out⟩
    · rw [decide_eq_false h2] at HM2
      have H1 := Lib.hid h1
      have H2 := Lib.hid h2
      clear h1 h2
      go_enter Try.func48, Try.ntmps48
      go_wp2_with fail
      have HX0 := Lib.hid (bx_alloc w o f ep A rs.length c B ws.length d 24)
      have HB0 := Lib.hid (al w (.cells #[.string o, .string f, .int .i64 ep, .slice A rs.length c, .slice B ws.length d] 24))
      generalize w.alloc (.cells #[.string o, .string f, .int .i64 ep, .slice A rs.length c, .slice B ws.length d] 24) = w0 at HX0 HB0 ⊢
      obtain ⟨c0, c1, c2, c3, c4, _⟩ := HX0.out
      with_reducible refine (HM1.out _ (HA.out.below HB0.out (Nat.le_refl _))).mono ?_
      rintro e w1 ⟨rfl, hb1⟩
      have HB1 := Lib.hid (Bel.call HB0.out hb1)
      have HX1 := Lib.hid (HX0.out.below hb1 HX0.out.2.2.2.2.2)
      clear hb1 c0 c1 c2 c3 c4
      obtain ⟨c0, c1, c2, c3, c4, _⟩ := HX1.out
      dsimp only
      go_wp2_with fail
      with_reducible refine (HM2.out _ (HBB.out.below HB1.out (Nat.le_refl _))).mono ?_
      rintro e w2 ⟨rfl, hb2⟩
      have HB2 := Lib.hid (Bel.call HB1.out hb2)
      have HX2 := Lib.hid (HX1.out.below hb2 HX1.out.2.2.2.2.2)
      clear hb2 c0 c1 c2 c3 c4
      obtain ⟨c0, c1, c2, c3, c4, _⟩ := HX2.out
      dsimp only
      go_wp2_with fail
      go_loopw [20] (fun i wr => ∃ k : Nat, k ≤ rs.length ∧ i = .int .i64 (k : Int) ∧ Hid (∀ x ∈ (bl rs).take k, x ∉ bl ws) ∧ Hid (Below w.heap.size w wr) ∧ Hid (Bx w.heap.size wr o f ep A rs.length c B ws.length d)) (fun i _ => rs.length - (intOf i).toNat)
      case atStart => exact ⟨0, Nat.zero_le _, rfl, Lib.hid (by simp), HB2, HX2⟩
      case round =>
        obtain ⟨k, hk, rfl, HN, HBW, HXW⟩ := hrel
        clear c0 c1 c2 c3 c4
        obtain ⟨c0, c1, c2, c3, c4, _⟩ := HXW.out
        by_cases hlt : k < rs.length
        · obtain ⟨b, off, rfl, hbl, hcl0⟩ := HA.out k hlt
          obtain ⟨y, hy⟩ : ∃ y, rs.getD k ByteArray.empty = y := ⟨_, rfl⟩
          rw [hy, ← HBW.out.cell (p := ⟨b, off + k, none⟩) hbl] at hcl0
          have hg := bl_get hlt
          rw [hy] at hg
          have HG := Lib.hid hg
          clear hg hy hbl
          by_cases hm : y.data.toList ∈ bl ws
          · have hbf : bb = false := HNO.out fun h => h.2.2 y.data.toList (List.mem_of_mem_take (by rw [HG.out]; simp)) hm
            subst hbf
            have HM := HM3.out y
            rw [decide_eq_true hm] at HM
            have HM := Lib.hid HM
            clear HNO HYES hm
            go_wp2_with fail
            with_reducible refine (HM.out _ (HBB.out.below HBW.out (Nat.le_refl _))).mono ?_
            rintro e w4 ⟨rfl, hb4⟩
            have HB4 := Lib.hid (Bel.call HBW.out hb4)
            clear hb4 c0 c1 c2 c3 c4
            dsimp only
            go_wp2
            go_ret
            exact ⟨rfl, HB4.out⟩
          · have HM := HM3.out y
            rw [decide_eq_false hm] at HM
            have HM := Lib.hid HM
            have HNM := Lib.hid hm
            clear hm
            go_wp2_with fail
            with_reducible refine (HM.out _ (HBB.out.below HBW.out (Nat.le_refl _))).mono ?_
            rintro e w4 ⟨rfl, hb4⟩
            have HB4 := Lib.hid (Bel.call HBW.out hb4)
            have HX4 := Lib.hid (HXW.out.below hb4 HXW.out.2.2.2.2.2)
            clear hb4 c0 c1 c2 c3 c4
            dsimp only
            go_wp2
            go_roundw
            case rel =>
              refine ⟨k + 1, by omega, by go_num, Lib.hid ?_, HB4, HX4⟩
              rw [HG.out]
              intro x hx
              rcases List.mem_append.1 hx with hx | hx
              · exact HN.out x hx
              · rw [List.mem_singleton.1 hx]; exact HNM.out
            case measure => simp [intOf]; omega
        · have hbt : bb = true := HYES.out ⟨H1.out, H2.out, by
            have := HN.out
            rw [show k = rs.length by omega, bl_take_all] at this
            exact this⟩
          subst hbt
          go_wp2
          go_ret
          exact ⟨rfl, HBW.out⟩
theorem nright_is (s : ByteArray) (v : Bool) (h : nm s.data.toList = v) (w : World) : Calls Try.prog 30 #[.string s] w fun e w' => e = .returned (.bool v) ∧ Below w.heap.size w w' := by
  have h2 := right_any s w
  rw [show Txt.right s.data.toList = v from h] at h2
  exact h2
set_option maxHeartbeats 4000000 in
set_option maxRecDepth 1000000 in
theorem right_code (o f : ByteArray) (ep : Int) (A : Option Addr) (c : Nat) (rs : List ByteArray) (B : Option Addr) (d : Nat) (ws : List ByteArray) (w : World) (hA : SReads w A rs) (hB : SReads w B ws) (hf : Few ⟨o.data.toList, f.data.toList, ep, bl rs, bl ws⟩) :
    Calls Try.prog 23 #[RV o f ep A rs.length c B ws.length d] w fun e w' => e = .returned (.bool (decide (RR ⟨o.data.toList, f.data.toList, ep, bl rs, bl ws⟩))) ∧ Below w.heap.size w w' := by
  obtain ⟨_, _, f3, f4, _, _, f7, f8⟩ := hf
  simp only at f3 f4 f7 f8
  rw [bl_len] at f3 f4
  have HA := Lib.hid hA
  have HBB := Lib.hid hB
  obtain ⟨bb, hbb⟩ : ∃ b, decide (RR ⟨o.data.toList, f.data.toList, ep, bl rs, bl ws⟩) = b := ⟨_, rfl⟩
  have HNO : Hid (¬ RR ⟨o.data.toList, f.data.toList, ep, bl rs, bl ws⟩ → bb = false) := fun h => by rw [← hbb]; exact decide_eq_false h
  have HBBE := Lib.hid hbb
  rw [hbb]
  have HR1 := Lib.hid fun v h w => nright_is o v h w
  have HR2 := Lib.hid fun v h w => nright_is f v h w
  have HL1 := Lib.hid fun w h => rising_any A c rs w h (by omega)
  have HL2 := Lib.hid fun w h => rising_any B d ws w h (by omega)
  have HAP := Lib.hid fun w h1 h2 p1 p2 => apart_any o f ep A c rs B d ws w h1 h2 (by omega) (by omega) p1 p2
  have hlen : (bl rs).length + (bl ws).length = rs.length + ws.length := by rw [bl_len, bl_len]
  clear hA hB hbb
  unfold RV at HAP ⊢
  cases h1 : nm o.data.toList with
  | false =>
    have hbf : bb = false := HNO.out fun h => by rw [h.1] at h1; cases h1
    subst hbf
    clear HNO HBBE HAP
    go_enter Try.func23, Try.ntmps23
    go_wp2_with fail
    have HX0 := Lib.hid (bx_alloc w o f ep A rs.length c B ws.length d 24)
    have HB0 := Lib.hid (al w (.cells #[.string o, .string f, .int .i64 ep, .slice A rs.length c, .slice B ws.length d] 24))
    generalize w.alloc (.cells #[.string o, .string f, .int .i64 ep, .slice A rs.length c, .slice B ws.length d] 24) = w0 at HX0 HB0 ⊢
    obtain ⟨c0, c1, c2, c3, c4, _⟩ := HX0.out
    with_reducible refine (HR1.out false h1 _).mono ?_
    rintro e w1 ⟨rfl, hb1⟩
    have HB1 := Lib.hid (Bel.call HB0.out hb1)
    have HX1 := Lib.hid (HX0.out.below hb1 HX0.out.2.2.2.2.2)
    clear hb1 c0 c1 c2 c3 c4
    obtain ⟨c0, c1, c2, c3, c4, _⟩ := HX1.out
    dsimp only
    go_wp2
    go_ret
    exact ⟨rfl, HB1.out⟩
  | true =>
    cases h2 : nm f.data.toList with
    | false =>
      have hbf : bb = false := HNO.out fun h => by rw [h.2.1] at h2; cases h2
      subst hbf
      clear HNO HBBE HAP
      go_enter Try.func23, Try.ntmps23
      go_wp2_with fail
      have HX0 := Lib.hid (bx_alloc w o f ep A rs.length c B ws.length d 24)
      have HB0 := Lib.hid (al w (.cells #[.string o, .string f, .int .i64 ep, .slice A rs.length c, .slice B ws.length d] 24))
      generalize w.alloc (.cells #[.string o, .string f, .int .i64 ep, .slice A rs.length c, .slice B ws.length d] 24) = w0 at HX0 HB0 ⊢
      obtain ⟨c0, c1, c2, c3, c4, _⟩ := HX0.out
      with_reducible refine (HR1.out true h1 _).mono ?_
      rintro e w1 ⟨rfl, hb1⟩
      have HB1 := Lib.hid (Bel.call HB0.out hb1)
      have HX1 := Lib.hid (HX0.out.below hb1 HX0.out.2.2.2.2.2)
      clear hb1 c0 c1 c2 c3 c4
      obtain ⟨c0, c1, c2, c3, c4, _⟩ := HX1.out
      dsimp only
      go_wp2_with fail
      with_reducible refine (HR2.out false h2 _).mono ?_
      rintro e w2 ⟨rfl, hb2⟩
      have HB2 := Lib.hid (Bel.call HB1.out hb2)
      have HX2 := Lib.hid (HX1.out.below hb2 HX1.out.2.2.2.2.2)
      clear hb2 c0 c1 c2 c3 c4
      obtain ⟨c0, c1, c2, c3, c4, _⟩ := HX2.out
      dsimp only
      go_wp2
      go_ret
      exact ⟨rfl, HB2.out⟩
    | true =>
      by_cases h3 : ep < 0
      · have hbf : bb = false := HNO.out fun h => by have := h.2.2.1.1; simp only at this; omega
        subst hbf
        clear HNO HBBE HAP
        go_enter Try.func23, Try.ntmps23
        go_wp2_with fail
        have HX0 := Lib.hid (bx_alloc w o f ep A rs.length c B ws.length d 24)
        have HB0 := Lib.hid (al w (.cells #[.string o, .string f, .int .i64 ep, .slice A rs.length c, .slice B ws.length d] 24))
        generalize w.alloc (.cells #[.string o, .string f, .int .i64 ep, .slice A rs.length c, .slice B ws.length d] 24) = w0 at HX0 HB0 ⊢
        obtain ⟨c0, c1, c2, c3, c4, _⟩ := HX0.out
        with_reducible refine (HR1.out true h1 _).mono ?_
        rintro e w1 ⟨rfl, hb1⟩
        have HB1 := Lib.hid (Bel.call HB0.out hb1)
        have HX1 := Lib.hid (HX0.out.below hb1 HX0.out.2.2.2.2.2)
        clear hb1 c0 c1 c2 c3 c4
        obtain ⟨c0, c1, c2, c3, c4, _⟩ := HX1.out
        dsimp only
        go_wp2_with fail
        with_reducible refine (HR2.out true h2 _).mono ?_
        rintro e w2 ⟨rfl, hb2⟩
        have HB2 := Lib.hid (Bel.call HB1.out hb2)
        have HX2 := Lib.hid (HX1.out.below hb2 HX1.out.2.2.2.2.2)
        clear hb2 c0 c1 c2 c3 c4
        obtain ⟨c0, c1, c2, c3, c4, _⟩ := HX2.out
        dsimp only
        go_wp2
        go_ret
        exact ⟨rfl, HB2.out⟩
      by_cases h4 : 7 < ep
      · have hbf : bb = false := HNO.out fun h => by have := h.2.2.1.2; simp only at this; omega
        subst hbf
        clear HNO HBBE HAP
        go_enter Try.func23, Try.ntmps23
        go_wp2_with fail
        have HX0 := Lib.hid (bx_alloc w o f ep A rs.length c B ws.length d 24)
        have HB0 := Lib.hid (al w (.cells #[.string o, .string f, .int .i64 ep, .slice A rs.length c, .slice B ws.length d] 24))
        generalize w.alloc (.cells #[.string o, .string f, .int .i64 ep, .slice A rs.length c, .slice B ws.length d] 24) = w0 at HX0 HB0 ⊢
        obtain ⟨c0, c1, c2, c3, c4, _⟩ := HX0.out
        with_reducible refine (HR1.out true h1 _).mono ?_
        rintro e w1 ⟨rfl, hb1⟩
        have HB1 := Lib.hid (Bel.call HB0.out hb1)
        have HX1 := Lib.hid (HX0.out.below hb1 HX0.out.2.2.2.2.2)
        clear hb1 c0 c1 c2 c3 c4
        obtain ⟨c0, c1, c2, c3, c4, _⟩ := HX1.out
        dsimp only
        go_wp2_with fail
        with_reducible refine (HR2.out true h2 _).mono ?_
        rintro e w2 ⟨rfl, hb2⟩
        have HB2 := Lib.hid (Bel.call HB1.out hb2)
        have HX2 := Lib.hid (HX1.out.below hb2 HX1.out.2.2.2.2.2)
        clear hb2 c0 c1 c2 c3 c4
        obtain ⟨c0, c1, c2, c3, c4, _⟩ := HX2.out
        dsimp only
        go_wp2
        go_ret
        exact ⟨rfl, HB2.out⟩
      have hw : IntKind.i64.wrap ((rs.length : Int) + (ws.length : Int)) = (rs.length : Int) + (ws.length : Int) := by rw [IntKind.wrap_i64]; omega
      by_cases h5 : 5 < rs.length + ws.length
      · have h5' : (5 : Int) < (rs.length : Int) + (ws.length : Int) := by omega
        have hbf : bb = false := HNO.out fun h => by have := h.2.2.2.1; simp only at this; omega
        subst hbf
        clear HNO HBBE HAP
        go_enter Try.func23, Try.ntmps23
        go_wp2_with fail
        have HX0 := Lib.hid (bx_alloc w o f ep A rs.length c B ws.length d 24)
        have HB0 := Lib.hid (al w (.cells #[.string o, .string f, .int .i64 ep, .slice A rs.length c, .slice B ws.length d] 24))
        generalize w.alloc (.cells #[.string o, .string f, .int .i64 ep, .slice A rs.length c, .slice B ws.length d] 24) = w0 at HX0 HB0 ⊢
        obtain ⟨c0, c1, c2, c3, c4, _⟩ := HX0.out
        with_reducible refine (HR1.out true h1 _).mono ?_
        rintro e w1 ⟨rfl, hb1⟩
        have HB1 := Lib.hid (Bel.call HB0.out hb1)
        have HX1 := Lib.hid (HX0.out.below hb1 HX0.out.2.2.2.2.2)
        clear hb1 c0 c1 c2 c3 c4
        obtain ⟨c0, c1, c2, c3, c4, _⟩ := HX1.out
        dsimp only
        go_wp2_with fail
        with_reducible refine (HR2.out true h2 _).mono ?_
        rintro e w2 ⟨rfl, hb2⟩
        have HB2 := Lib.hid (Bel.call HB1.out hb2)
        have HX2 := Lib.hid (HX1.out.below hb2 HX1.out.2.2.2.2.2)
        clear hb2 c0 c1 c2 c3 c4
        obtain ⟨c0, c1, c2, c3, c4, _⟩ := HX2.out
        dsimp only
        go_wp2
        go_ret
        exact ⟨rfl, HB2.out⟩
      have h5' : ¬ ((5 : Int) < (rs.length : Int) + (ws.length : Int)) := by omega
      by_cases h6 : Lsd [] (bl rs)
      case neg =>
        have hbf : bb = false := HNO.out fun h => by exact h6 (lsd_iff.1 h.2.2.2.2.1).1
        subst hbf
        clear HNO HBBE HAP
        rw [decide_eq_false h6] at HL1
        go_enter Try.func23, Try.ntmps23
        go_wp2_with fail
        have HX0 := Lib.hid (bx_alloc w o f ep A rs.length c B ws.length d 24)
        have HB0 := Lib.hid (al w (.cells #[.string o, .string f, .int .i64 ep, .slice A rs.length c, .slice B ws.length d] 24))
        generalize w.alloc (.cells #[.string o, .string f, .int .i64 ep, .slice A rs.length c, .slice B ws.length d] 24) = w0 at HX0 HB0 ⊢
        obtain ⟨c0, c1, c2, c3, c4, _⟩ := HX0.out
        with_reducible refine (HR1.out true h1 _).mono ?_
        rintro e w1 ⟨rfl, hb1⟩
        have HB1 := Lib.hid (Bel.call HB0.out hb1)
        have HX1 := Lib.hid (HX0.out.below hb1 HX0.out.2.2.2.2.2)
        clear hb1 c0 c1 c2 c3 c4
        obtain ⟨c0, c1, c2, c3, c4, _⟩ := HX1.out
        dsimp only
        go_wp2_with fail
        with_reducible refine (HR2.out true h2 _).mono ?_
        rintro e w2 ⟨rfl, hb2⟩
        have HB2 := Lib.hid (Bel.call HB1.out hb2)
        have HX2 := Lib.hid (HX1.out.below hb2 HX1.out.2.2.2.2.2)
        clear hb2 c0 c1 c2 c3 c4
        obtain ⟨c0, c1, c2, c3, c4, _⟩ := HX2.out
        dsimp only
        go_wp2_with fail
        with_reducible refine (HL1.out _ (HA.out.below HB2.out (Nat.le_refl _))).mono ?_
        rintro e w3 ⟨rfl, hb3⟩
        have HB3 := Lib.hid (Bel.call HB2.out hb3)
        have HX3 := Lib.hid (HX2.out.below hb3 HX2.out.2.2.2.2.2)
        clear hb3 c0 c1 c2 c3 c4
        obtain ⟨c0, c1, c2, c3, c4, _⟩ := HX3.out
        dsimp only
        go_wp2
        go_ret
        exact ⟨rfl, HB3.out⟩
      by_cases h7 : Lsd [] (bl ws)
      case neg =>
        have hbf : bb = false := HNO.out fun h => by exact h7 (lsd_iff.1 h.2.2.2.2.2.1).1
        subst hbf
        clear HNO HBBE HAP
        rw [decide_eq_true h6] at HL1
        rw [decide_eq_false h7] at HL2
        go_enter Try.func23, Try.ntmps23
        go_wp2_with fail
        have HX0 := Lib.hid (bx_alloc w o f ep A rs.length c B ws.length d 24)
        have HB0 := Lib.hid (al w (.cells #[.string o, .string f, .int .i64 ep, .slice A rs.length c, .slice B ws.length d] 24))
        generalize w.alloc (.cells #[.string o, .string f, .int .i64 ep, .slice A rs.length c, .slice B ws.length d] 24) = w0 at HX0 HB0 ⊢
        obtain ⟨c0, c1, c2, c3, c4, _⟩ := HX0.out
        with_reducible refine (HR1.out true h1 _).mono ?_
        rintro e w1 ⟨rfl, hb1⟩
        have HB1 := Lib.hid (Bel.call HB0.out hb1)
        have HX1 := Lib.hid (HX0.out.below hb1 HX0.out.2.2.2.2.2)
        clear hb1 c0 c1 c2 c3 c4
        obtain ⟨c0, c1, c2, c3, c4, _⟩ := HX1.out
        dsimp only
        go_wp2_with fail
        with_reducible refine (HR2.out true h2 _).mono ?_
        rintro e w2 ⟨rfl, hb2⟩
        have HB2 := Lib.hid (Bel.call HB1.out hb2)
        have HX2 := Lib.hid (HX1.out.below hb2 HX1.out.2.2.2.2.2)
        clear hb2 c0 c1 c2 c3 c4
        obtain ⟨c0, c1, c2, c3, c4, _⟩ := HX2.out
        dsimp only
        go_wp2_with fail
        with_reducible refine (HL1.out _ (HA.out.below HB2.out (Nat.le_refl _))).mono ?_
        rintro e w3 ⟨rfl, hb3⟩
        have HB3 := Lib.hid (Bel.call HB2.out hb3)
        have HX3 := Lib.hid (HX2.out.below hb3 HX2.out.2.2.2.2.2)
        clear hb3 c0 c1 c2 c3 c4
        obtain ⟨c0, c1, c2, c3, c4, _⟩ := HX3.out
        dsimp only
        go_wp2_with fail
        with_reducible refine (HL2.out _ (HBB.out.below HB3.out (Nat.le_refl _))).mono ?_
        rintro e w4 ⟨rfl, hb4⟩
        have HB4 := Lib.hid (Bel.call HB3.out hb4)
        have HX4 := Lib.hid (HX3.out.below hb4 HX3.out.2.2.2.2.2)
        clear hb4 c0 c1 c2 c3 c4
        obtain ⟨c0, c1, c2, c3, c4, _⟩ := HX4.out
        dsimp only
        go_wp2
        go_ret
        exact ⟨rfl, HB4.out⟩
      have hfin : bb = decide (o.data.toList ∉ bl rs ∧ o.data.toList ∉ bl ws ∧ ∀ x ∈ bl rs, x ∉ bl ws) := by
        rw [← HBBE.out]
        refine decide_eq_decide.2 ⟨fun h => ⟨(lsd_iff.1 h.2.2.2.2.1).2, (lsd_iff.1 h.2.2.2.2.2.1).2, h.2.2.2.2.2.2⟩, fun h => ?_⟩
        exact ⟨h1, h2, ⟨by simp only; omega, by simp only; omega⟩, by simp only; omega, lsd_iff.2 ⟨h6, h.1⟩, lsd_iff.2 ⟨h7, h.2.1⟩, h.2.2⟩
      have HFIN := Lib.hid hfin
      have H6 := Lib.hid h6.2
      have H7 := Lib.hid h7.2
      rw [decide_eq_true h6] at HL1
      rw [decide_eq_true h7] at HL2
      clear hfin h6 h7 HNO HBBE
      go_enter Try.func23, Try.ntmps23
      go_wp2_with fail
      have HX0 := Lib.hid (bx_alloc w o f ep A rs.length c B ws.length d 24)
      have HB0 := Lib.hid (al w (.cells #[.string o, .string f, .int .i64 ep, .slice A rs.length c, .slice B ws.length d] 24))
      generalize w.alloc (.cells #[.string o, .string f, .int .i64 ep, .slice A rs.length c, .slice B ws.length d] 24) = w0 at HX0 HB0 ⊢
      obtain ⟨c0, c1, c2, c3, c4, _⟩ := HX0.out
      with_reducible refine (HR1.out true h1 _).mono ?_
      rintro e w1 ⟨rfl, hb1⟩
      have HB1 := Lib.hid (Bel.call HB0.out hb1)
      have HX1 := Lib.hid (HX0.out.below hb1 HX0.out.2.2.2.2.2)
      clear hb1 c0 c1 c2 c3 c4
      obtain ⟨c0, c1, c2, c3, c4, _⟩ := HX1.out
      dsimp only
      go_wp2_with fail
      with_reducible refine (HR2.out true h2 _).mono ?_
      rintro e w2 ⟨rfl, hb2⟩
      have HB2 := Lib.hid (Bel.call HB1.out hb2)
      have HX2 := Lib.hid (HX1.out.below hb2 HX1.out.2.2.2.2.2)
      clear hb2 c0 c1 c2 c3 c4
      obtain ⟨c0, c1, c2, c3, c4, _⟩ := HX2.out
      dsimp only
      go_wp2_with fail
      with_reducible refine (HL1.out _ (HA.out.below HB2.out (Nat.le_refl _))).mono ?_
      rintro e w3 ⟨rfl, hb3⟩
      have HB3 := Lib.hid (Bel.call HB2.out hb3)
      have HX3 := Lib.hid (HX2.out.below hb3 HX2.out.2.2.2.2.2)
      clear hb3 c0 c1 c2 c3 c4
      obtain ⟨c0, c1, c2, c3, c4, _⟩ := HX3.out
      dsimp only
      go_wp2_with fail
      with_reducible refine (HL2.out _ (HBB.out.below HB3.out (Nat.le_refl _))).mono ?_
      rintro e w4 ⟨rfl, hb4⟩
      have HB4 := Lib.hid (Bel.call HB3.out hb4)
      have HX4 := Lib.hid (HX3.out.below hb4 HX3.out.2.2.2.2.2)
      clear hb4 c0 c1 c2 c3 c4
      obtain ⟨c0, c1, c2, c3, c4, _⟩ := HX4.out
      dsimp only
      go_wp2_with fail
      with_reducible refine (HAP.out _ (HA.out.below HB4.out (Nat.le_refl _)) (HBB.out.below HB4.out (Nat.le_refl _)) H6.out H7.out).mono ?_
      rw [← HFIN.out]
      rintro e w5 ⟨rfl, hb5⟩
      have HB5 := Lib.hid (Bel.call HB4.out hb5)
      clear hb5 c0 c1 c2 c3 c4
      dsimp only
      go_wp2
      go_ret
      exact ⟨rfl, HB5.out⟩
theorem right_at (v : Value) (r : Rt) (w : World) (h : IsR w v r) (hf : Few r) : Calls Try.prog 23 #[v] w fun e w' => e = .returned (.bool (decide (RR r))) ∧ Below w.heap.size w w' := by
  obtain ⟨o, f, A, c, rs, B, d, ws, rfl, h2, h3, h4, _, _⟩ := h
  obtain ⟨ep, hep⟩ : ∃ ep, r.ep = ep := ⟨_, rfl⟩
  rw [hep] at h2 ⊢
  subst h2
  exact right_code o f ep A c rs B d ws w h3 h4 hf
end Go.Proofs.Ytjikepfgfbnheaa.Rig
