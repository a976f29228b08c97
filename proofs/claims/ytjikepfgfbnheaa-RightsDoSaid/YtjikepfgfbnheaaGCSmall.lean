/-
  THE CODE's New, Can, check (package rights). By an AI agent; no person has read it.
-/
import Derived.Test.YtjikepfgfbnheaaGCRight
import Derived.Test.YtjikepfgfbnheaaG2
namespace Go.Proofs.Ytjikepfgfbnheaa.Rig
open Go.RowKit Wire

set_option linter.unusedSimpArgs false
set_option linter.unusedVariables false
set_option maxHeartbeats 2000000 in
set_option maxRecDepth 1000000 in
theorem new_code (o f : ByteArray) (w : World) (ho : o.size ≤ 1000000) (hf : f.size ≤ 1000000) :
    Calls Try.prog 20 #[.string o, .string f] w fun e w' => Re (fun b => w.heap.size ≤ b) (new o.data.toList f.data.toList) e w' ∧ Below w.heap.size w w' := by
  have HR1 := Lib.hid fun v h w => nright_is o v h w
  have HR2 := Lib.hid fun v h w => nright_is f v h w
  cases h1 : nm o.data.toList with
  | false =>
    rw [show new o.data.toList f.data.toList = (zero, 3) by unfold new; rw [if_neg (by rw [h1]; simp)]]
    go_enter Try.func20, Try.ntmps20
    go_wp2_with fail
    with_reducible refine (HR1.out false h1 _).mono ?_
    rintro e w1 ⟨rfl, hb1⟩
    have HB1 := Lib.hid (after_alloc (Below.refl _ w) hb1)
    have HX := Lib.hid (bx_first hb1)
    have HS := Lib.hid (sf_first hb1)
    clear hb1
    dsimp only
    have HB := HB1
    obtain ⟨c0, c1, c2, c3, c4, _⟩ := HX.out
    obtain ⟨f0, f1, f2, f3, f4⟩ := HS.out
    go_wp2
    refine bodyPost_ret (v := .tuple #[RV ⟨#[]⟩ ⟨#[]⟩ 0 none 0 0 none 0 0, .int .i64 3]) (by simp [results, Try.results20, go_sem, RV, c0, c1, c2, c3, c4]) rfl ?_
    exact ⟨⟨_, isX_zero _ _, rfl⟩, set5 HB.out (Nat.le_refl _)⟩
  | true =>
    cases h2 : nm f.data.toList with
    | false =>
      rw [show new o.data.toList f.data.toList = (zero, 3) by unfold new; rw [if_neg (by rw [h2]; simp)]]
      go_enter Try.func20, Try.ntmps20
      go_wp2_with fail
      with_reducible refine (HR1.out true h1 _).mono ?_
      rintro e w1 ⟨rfl, hb1⟩
      have HB1 := Lib.hid (after_alloc (Below.refl _ w) hb1)
      have HX := Lib.hid (bx_first hb1)
      have HS := Lib.hid (sf_first hb1)
      clear hb1
      dsimp only
      go_wp2_with fail
      with_reducible refine (HR2.out false h2 _).mono ?_
      rintro e w2 ⟨rfl, hb2⟩
      have HB := Lib.hid (Bel.call HB1.out hb2)
      obtain ⟨c0, c1, c2, c3, c4, _⟩ := HX.out.below hb2 HX.out.2.2.2.2.2
      obtain ⟨f0, f1, f2, f3, f4⟩ := HS.out.below hb2 HX.out.2.2.2.2.2
      clear hb2
      dsimp only
      go_wp2
      refine bodyPost_ret (v := .tuple #[RV ⟨#[]⟩ ⟨#[]⟩ 0 none 0 0 none 0 0, .int .i64 3]) (by simp [results, Try.results20, go_sem, RV, c0, c1, c2, c3, c4]) rfl ?_
      exact ⟨⟨_, isX_zero _ _, rfl⟩, set5 HB.out (Nat.le_refl _)⟩
    | true =>
      rw [(new_ok h1 h2).1]
      go_enter Try.func20, Try.ntmps20
      go_wp2_with fail
      with_reducible refine (HR1.out true h1 _).mono ?_
      rintro e w1 ⟨rfl, hb1⟩
      have HB1 := Lib.hid (after_alloc (Below.refl _ w) hb1)
      have HX := Lib.hid (bx_first hb1)
      have HS := Lib.hid (sf_first hb1)
      clear hb1
      dsimp only
      go_wp2_with fail
      with_reducible refine (HR2.out true h2 _).mono ?_
      rintro e w2 ⟨rfl, hb2⟩
      have HB := Lib.hid (Bel.call HB1.out hb2)
      obtain ⟨c0, c1, c2, c3, c4, _⟩ := HX.out.below hb2 HX.out.2.2.2.2.2
      obtain ⟨f0, f1, f2, f3, f4⟩ := HS.out.below hb2 HX.out.2.2.2.2.2
      clear hb2
      dsimp only
      go_wp2
      refine bodyPost_ret (v := .tuple #[RV o f 0 none 0 0 none 0 0, .int .i64 0]) (by simp [results, Try.results20, go_sem, RV, c0, c1, c2, c3, c4]) rfl ?_
      exact ⟨⟨_, ⟨o, f, none, 0, [], none, 0, [], rfl, rfl, SReads.nil _ _, SReads.nil _ _, ⟨Nat.le_refl _, fun _ => rfl⟩, ⟨Nat.le_refl _, fun _ => rfl⟩, (fun _ _ h => by cases h), fun _ _ h => by cases h⟩, rfl⟩, set5 HB.out (Nat.le_refl _)⟩
set_option maxHeartbeats 4000000 in
set_option maxRecDepth 1000000 in
theorem can_code (o f : ByteArray) (ep : Int) (A : Option Addr) (c : Nat) (rs : List ByteArray) (B : Option Addr) (d : Nat) (ws : List ByteArray) (u : ByteArray) (wr : Bool) (w : World) (hA : SReads w A rs) (hB : SReads w B ws) (hf : Few ⟨o.data.toList, f.data.toList, ep, bl rs, bl ws⟩) :
    Calls Try.prog 25 #[RV o f ep A rs.length c B ws.length d, .string u, .bool wr] w fun e w' => e = .returned (.bool (can ⟨o.data.toList, f.data.toList, ep, bl rs, bl ws⟩ u.data.toList wr)) ∧ Below w.heap.size w w' := by
  have HA := Lib.hid hA
  have HBB := Lib.hid hB
  have hl1 : rs.length ≤ 40 := by have := hf.2.2.1; rw [bl_len] at this; exact this
  have hl2 : ws.length ≤ 40 := by have := hf.2.2.2.1; rw [bl_len] at this; exact this
  have HRR := Lib.hid fun w h1 h2 => right_code o f ep A c rs B d ws w h1 h2 hf
  obtain ⟨bb, hbb⟩ : ∃ b, can ⟨o.data.toList, f.data.toList, ep, bl rs, bl ws⟩ u.data.toList wr = b := ⟨_, rfl⟩
  have HC : Hid (decide (RR ⟨o.data.toList, f.data.toList, ep, bl rs, bl ws⟩ ∧ (u.data.toList = o.data.toList ∨ u.data.toList ∈ bl ws ∨ (wr = false ∧ u.data.toList ∈ bl rs))) = bb) := hbb
  rw [hbb]
  clear hA hB hf hbb
  unfold RV at HRR ⊢
  by_cases hr : RR ⟨o.data.toList, f.data.toList, ep, bl rs, bl ws⟩
  case neg =>
    obtain rfl : bb = false := by rw [← HC.out]; exact decide_eq_false fun h => hr h.1
    go_enter Try.func25, Try.ntmps25
    go_wp2_with fail
    with_reducible refine (HRR.out _ (HA.out.below (al _ _) (Nat.le_refl _)) (HBB.out.below (al _ _) (Nat.le_refl _))).mono ?_
    rw [decide_eq_false hr]
    rintro e w1 ⟨rfl, hb1⟩
    have HB1 := Lib.hid (after_alloc (Below.refl _ w) hb1)
    have HX1 := Lib.hid (bx_first hb1)
    obtain ⟨c0, c1, c2, c3, c4, _⟩ := HX1.out
    have HA1 := Lib.hid (HA.out.below HB1.out (Nat.le_refl _))
    have HBB1 := Lib.hid (HBB.out.below HB1.out (Nat.le_refl _))
    clear hb1
    dsimp only
    go_wp2
    go_ret
    exact ⟨rfl, HB1.out⟩
  have HH1 := Lib.hid fun w h => among_any A c rs u w h (by omega) hr.2.2.2.2.1.2
  have HH2 := Lib.hid fun w h => among_any B d ws u w h (by omega) hr.2.2.2.2.2.1.2
  by_cases ho : u.data.toList = o.data.toList
  · have q := s_eq ho
    obtain rfl : bb = true := by rw [← HC.out]; exact decide_eq_true ⟨hr, .inl ho⟩
    go_enter Try.func25, Try.ntmps25
    go_wp2_with fail
    with_reducible refine (HRR.out _ (HA.out.below (al _ _) (Nat.le_refl _)) (HBB.out.below (al _ _) (Nat.le_refl _))).mono ?_
    rw [decide_eq_true hr]
    rintro e w1 ⟨rfl, hb1⟩
    have HB1 := Lib.hid (after_alloc (Below.refl _ w) hb1)
    have HX1 := Lib.hid (bx_first hb1)
    obtain ⟨c0, c1, c2, c3, c4, _⟩ := HX1.out
    have HA1 := Lib.hid (HA.out.below HB1.out (Nat.le_refl _))
    have HBB1 := Lib.hid (HBB.out.below HB1.out (Nat.le_refl _))
    clear hb1
    dsimp only
    go_wp2
    go_ret
    exact ⟨rfl, HB1.out⟩
  have q := s_ne ho
  by_cases hw : u.data.toList ∈ bl ws
  · obtain rfl : bb = true := by rw [← HC.out]; exact decide_eq_true ⟨hr, .inr (.inl hw)⟩
    rw [decide_eq_true hw] at HH2
    go_enter Try.func25, Try.ntmps25
    go_wp2_with fail
    with_reducible refine (HRR.out _ (HA.out.below (al _ _) (Nat.le_refl _)) (HBB.out.below (al _ _) (Nat.le_refl _))).mono ?_
    rw [decide_eq_true hr]
    rintro e w1 ⟨rfl, hb1⟩
    have HB1 := Lib.hid (after_alloc (Below.refl _ w) hb1)
    have HX1 := Lib.hid (bx_first hb1)
    obtain ⟨c0, c1, c2, c3, c4, _⟩ := HX1.out
    have HA1 := Lib.hid (HA.out.below HB1.out (Nat.le_refl _))
    have HBB1 := Lib.hid (HBB.out.below HB1.out (Nat.le_refl _))
    clear hb1
    dsimp only
    go_wp2_with fail
    with_reducible refine (HH2.out _ HBB1.out).mono ?_
    rintro e w2 ⟨rfl, hb2⟩
    have HX2 := Lib.hid (HX1.out.below hb2 HX1.out.2.2.2.2.2)
    replace HB1 := Lib.hid (Bel.call HB1.out hb2)
    replace HX1 := HX2
    replace HA1 := Lib.hid (HA.out.below HB1.out (Nat.le_refl _))
    clear hb2 c0 c1 c2 c3 c4 HX2
    obtain ⟨c0, c1, c2, c3, c4, _⟩ := HX1.out
    dsimp only
    go_wp2
    go_ret
    exact ⟨rfl, HB1.out⟩
  rw [decide_eq_false hw] at HH2
  cases wr with
  | true =>
    obtain rfl : bb = false := by rw [← HC.out]; exact decide_eq_false (by rintro ⟨_, h | h | ⟨h, _⟩⟩ <;> first | exact ho h | exact hw h | cases h)
    go_enter Try.func25, Try.ntmps25
    go_wp2_with fail
    with_reducible refine (HRR.out _ (HA.out.below (al _ _) (Nat.le_refl _)) (HBB.out.below (al _ _) (Nat.le_refl _))).mono ?_
    rw [decide_eq_true hr]
    rintro e w1 ⟨rfl, hb1⟩
    have HB1 := Lib.hid (after_alloc (Below.refl _ w) hb1)
    have HX1 := Lib.hid (bx_first hb1)
    obtain ⟨c0, c1, c2, c3, c4, _⟩ := HX1.out
    have HA1 := Lib.hid (HA.out.below HB1.out (Nat.le_refl _))
    have HBB1 := Lib.hid (HBB.out.below HB1.out (Nat.le_refl _))
    clear hb1
    dsimp only
    go_wp2_with fail
    with_reducible refine (HH2.out _ HBB1.out).mono ?_
    rintro e w3 ⟨rfl, hb3⟩
    have HX3 := Lib.hid (HX1.out.below hb3 HX1.out.2.2.2.2.2)
    replace HB1 := Lib.hid (Bel.call HB1.out hb3)
    replace HX1 := HX3
    replace HA1 := Lib.hid (HA.out.below HB1.out (Nat.le_refl _))
    clear hb3 c0 c1 c2 c3 c4 HX3
    obtain ⟨c0, c1, c2, c3, c4, _⟩ := HX1.out
    dsimp only
    go_wp2
    go_ret
    exact ⟨rfl, HB1.out⟩
  | false =>
    obtain ⟨b2, hb2⟩ : ∃ b, decide (u.data.toList ∈ bl rs) = b := ⟨_, rfl⟩
    obtain rfl : bb = b2 := by
      rw [← HC.out, ← hb2]
      refine decide_eq_decide.2 ⟨?_, fun h => ⟨hr, .inr (.inr ⟨rfl, h⟩)⟩⟩
      rintro ⟨_, h | h | ⟨_, h⟩⟩
      · exact absurd h ho
      · exact absurd h hw
      · exact h
    rw [hb2] at HH1
    clear hb2
    go_enter Try.func25, Try.ntmps25
    go_wp2_with fail
    with_reducible refine (HRR.out _ (HA.out.below (al _ _) (Nat.le_refl _)) (HBB.out.below (al _ _) (Nat.le_refl _))).mono ?_
    rw [decide_eq_true hr]
    rintro e w1 ⟨rfl, hb1⟩
    have HB1 := Lib.hid (after_alloc (Below.refl _ w) hb1)
    have HX1 := Lib.hid (bx_first hb1)
    obtain ⟨c0, c1, c2, c3, c4, _⟩ := HX1.out
    have HA1 := Lib.hid (HA.out.below HB1.out (Nat.le_refl _))
    have HBB1 := Lib.hid (HBB.out.below HB1.out (Nat.le_refl _))
    clear hb1
    dsimp only
    go_wp2_with fail
    with_reducible refine (HH2.out _ HBB1.out).mono ?_
    rintro e w4 ⟨rfl, hb4⟩
    have HX4 := Lib.hid (HX1.out.below hb4 HX1.out.2.2.2.2.2)
    replace HB1 := Lib.hid (Bel.call HB1.out hb4)
    replace HX1 := HX4
    replace HA1 := Lib.hid (HA.out.below HB1.out (Nat.le_refl _))
    clear hb4 c0 c1 c2 c3 c4 HX4
    obtain ⟨c0, c1, c2, c3, c4, _⟩ := HX1.out
    dsimp only
    go_wp2_with fail
    with_reducible refine (HH1.out _ HA1.out).mono ?_
    rintro e w5 ⟨rfl, hb5⟩
    have HX5 := Lib.hid (HX1.out.below hb5 HX1.out.2.2.2.2.2)
    replace HB1 := Lib.hid (Bel.call HB1.out hb5)
    replace HX1 := HX5
    replace HA1 := Lib.hid (HA.out.below HB1.out (Nat.le_refl _))
    clear hb5 c0 c1 c2 c3 c4 HX5
    obtain ⟨c0, c1, c2, c3, c4, _⟩ := HX1.out
    dsimp only
    go_wp2
    go_ret
    exact ⟨rfl, HB1.out⟩
/-- What both changes ask first. -/
def ck (r : Rt) (u : Tm) : Int := if ¬ RR r then 1 else if ¬ nm u = true then 3 else 0
set_option maxHeartbeats 4000000 in
set_option maxRecDepth 1000000 in
theorem check_code (o f : ByteArray) (ep : Int) (A : Option Addr) (c : Nat) (rs : List ByteArray) (B : Option Addr) (d : Nat) (ws : List ByteArray) (u : ByteArray) (w : World) (hA : SReads w A rs) (hB : SReads w B ws) (hf : Few ⟨o.data.toList, f.data.toList, ep, bl rs, bl ws⟩) :
    Calls Try.prog 31 #[RV o f ep A rs.length c B ws.length d, .string u] w fun e w' => e = .returned (.int .i64 (ck ⟨o.data.toList, f.data.toList, ep, bl rs, bl ws⟩ u.data.toList)) ∧ Below w.heap.size w w' := by
  have HA := Lib.hid hA
  have HBB := Lib.hid hB
  have HRR := Lib.hid fun w h1 h2 => right_code o f ep A c rs B d ws w h1 h2 hf
  have HU := Lib.hid fun v h w => nright_is u v h w
  clear hA hB hf
  unfold RV at HRR ⊢
  by_cases hr : RR ⟨o.data.toList, f.data.toList, ep, bl rs, bl ws⟩
  case neg =>
    rw [show ck ⟨o.data.toList, f.data.toList, ep, bl rs, bl ws⟩ u.data.toList = 1 by unfold ck; rw [if_pos hr]]
    go_enter Try.func31, Try.ntmps31
    go_wp2_with fail
    with_reducible refine (HRR.out _ (HA.out.below (al _ _) (Nat.le_refl _)) (HBB.out.below (al _ _) (Nat.le_refl _))).mono ?_
    rw [decide_eq_false hr]
    rintro e w1 ⟨rfl, hb1⟩
    have HB1 := Lib.hid (after_alloc (Below.refl _ w) hb1)
    clear hb1
    dsimp only
    go_wp2
    go_ret
    exact ⟨rfl, HB1.out⟩
  cases hu : nm u.data.toList with
  | false =>
    rw [show ck ⟨o.data.toList, f.data.toList, ep, bl rs, bl ws⟩ u.data.toList = 3 by unfold ck; rw [if_neg (by simpa using hr), if_pos (by rw [hu]; decide)]]
    go_enter Try.func31, Try.ntmps31
    go_wp2_with fail
    with_reducible refine (HRR.out _ (HA.out.below (al _ _) (Nat.le_refl _)) (HBB.out.below (al _ _) (Nat.le_refl _))).mono ?_
    rw [decide_eq_true hr]
    rintro e w1 ⟨rfl, hb1⟩
    have HB1 := Lib.hid (after_alloc (Below.refl _ w) hb1)
    clear hb1
    dsimp only
    go_wp2_with fail
    with_reducible refine (HU.out false hu _).mono ?_
    rintro e w2 ⟨rfl, hb2⟩
    have HB2 := Lib.hid (Bel.call HB1.out hb2)
    clear hb2
    dsimp only
    go_wp2
    go_ret
    exact ⟨rfl, HB2.out⟩
  | true =>
    rw [show ck ⟨o.data.toList, f.data.toList, ep, bl rs, bl ws⟩ u.data.toList = 0 by unfold ck; rw [if_neg (by simpa using hr), if_neg (by rw [hu]; decide)]]
    go_enter Try.func31, Try.ntmps31
    go_wp2_with fail
    with_reducible refine (HRR.out _ (HA.out.below (al _ _) (Nat.le_refl _)) (HBB.out.below (al _ _) (Nat.le_refl _))).mono ?_
    rw [decide_eq_true hr]
    rintro e w1 ⟨rfl, hb1⟩
    have HB1 := Lib.hid (after_alloc (Below.refl _ w) hb1)
    clear hb1
    dsimp only
    go_wp2_with fail
    with_reducible refine (HU.out true hu _).mono ?_
    rintro e w2 ⟨rfl, hb2⟩
    have HB2 := Lib.hid (Bel.call HB1.out hb2)
    clear hb2
    dsimp only
    go_wp2
    go_ret
    exact ⟨rfl, HB2.out⟩
end Go.Proofs.Ytjikepfgfbnheaa.Rig
