/-
  THE CODE's Take (package rights). By an AI agent; no person has read it.
-/
import Derived.Test.YtjikepfgfbnheaaGCTake
namespace Go.Proofs.Ytjikepfgfbnheaa.Rig
open Go.RowKit Wire

set_option linter.unusedSimpArgs false
set_option linter.unusedVariables false
theorem few_rd {s : Tm} (hs : s.length ≤ 5000) : Few (rdR s).1 := by
  unfold rdR
  obtain ⟨L, hL⟩ : ∃ L : Int, (s.length : Int) = L := ⟨_, rfl⟩
  rw [hL]
  obtain ⟨l, fl, hl⟩ : ∃ l fl, all s 5 L = (l, fl) := ⟨_, _, rfl⟩
  rw [hl]
  simp only
  split
  · exact few_zero
  obtain ⟨n, q, f, hn⟩ : ∃ n q f, tk (l.getD 2 []) = (n, q, f) := ⟨_, _, _, rfl⟩
  obtain ⟨a, fa, ha⟩ : ∃ a fa, all (l.getD 3 []) 5 L = (a, fa) := ⟨_, _, rfl⟩
  obtain ⟨b, fb, hb⟩ : ∃ b fb, all (l.getD 4 []) 5 L = (b, fb) := ⟨_, _, rfl⟩
  rw [hn, ha, hb]
  simp only
  split
  · exact few_zero
  rename_i h2
  split
  · exact few_zero
  obtain ⟨_, z1⟩ := all_few hl
  obtain ⟨z2, z3⟩ := all_few ha
  obtain ⟨z4, z5⟩ := all_few hb
  have hg : ∀ i, (l.getD i []).length ≤ 5000 := fun i => by
    by_cases h : i < l.length
    · have e : l.getD i [] = l[i] := by simp [List.getD, h]
      rw [e]
      have := z1 l[i] (List.getElem_mem h)
      omega
    · have e : l.getD i [] = [] := by simp [List.getD, h]
      rw [e]; simp
  have h7 : ¬ 7 < n := fun h => h2 (.inr (.inr h))
  exact ⟨hg 0, hg 1, by simp only; omega, by simp only; omega, fun x hx => Nat.le_trans (z3 x hx) (hg 3), fun x hx => Nat.le_trans (z5 x hx) (hg 4), by simp only; omega, by simp only; omega⟩
set_option maxHeartbeats 4000000 in
set_option maxRecDepth 1000000 in
theorem take_code (gs : List Nat) (s : ByteArray) (w : World) (hg : ∀ g ∈ gs, g < w.heap.size) (hs : s.size ≤ 5000) :
    Calls Try.prog 18 #[.string s] w fun e w' => Re (Off gs) (takeR s.data.toList) e w' ∧ Below w.heap.size w w' := by
  have hf : Few (rdR s.data.toList).1 := few_rd (by rw [← Lib.size_eq]; exact hs)
  obtain ⟨x, bt, hx⟩ : ∃ x b, rdR s.data.toList = (x, b) := ⟨_, _, rfl⟩
  have htk := rd_take s.data.toList
  rw [hx] at htk hf
  simp only at htk hf
  have HRD := Lib.hid fun w => read_code s w hs
  rw [hx] at HRD
  have HF := Lib.hid hf
  clear hf hx
  cases bt with
  | false =>
    rw [htk, if_neg (by simp)]
    clear htk
    go_enter Try.func18, Try.ntmps18
    go_wp2_with fail
    with_reducible refine (HRD.out _).mono ?_
    rintro e w1 ⟨⟨v1, hx1, rfl⟩, hb1⟩
    obtain ⟨o1, f1, p1, A1, n1, c1, B1, m1, d1, rfl, hpe, hpn, hpm, hpo, hpf, hx1⟩ := isX_lit hx1
    clear hpe hpn hpm hpo hpf
    have HB1 := Lib.hid (after_alloc (Below.refl _ w) hb1)
    have HR1 := Lib.hid (bx_first hb1)
    have HF1 := Lib.hid (sf_first hb1)
    have HX1 : Hid (IsX (Off (w.heap.size :: gs)) w1 (.agg #[.string o1, .string f1, .int .i64 p1, .slice A1 n1 c1, .slice B1 m1 d1]) x) := Lib.hid (hx1.mono fun b _ hb hm => by
      have hb2 : w.heap.size + 1 ≤ b := by simpa using hb
      rcases List.mem_cons.1 hm with e | e
      · omega
      · have := hg b e; omega)
    clear hb1 hx1
    dsimp only at HX1 ⊢
    obtain ⟨r0, r1, r2, r3, r4, _⟩ := HR1.out.below (al w1 (.cells #[.string o1, .string f1, .int .i64 p1, .slice A1 n1 c1, .slice B1 m1 d1] 24)) HR1.out.2.2.2.2.2
    obtain ⟨f0, f1', f2, f3, f4⟩ := HF1.out.below (al w1 (.cells #[.string o1, .string f1, .int .i64 p1, .slice A1 n1 c1, .slice B1 m1 d1] 24)) HR1.out.2.2.2.2.2
    go_wp2
    refine bodyPost_ret (v := .tuple #[RV ⟨#[]⟩ ⟨#[]⟩ 0 none 0 0 none 0 0, .int .i64 2]) (by simp [results, Try.results18, go_sem, RV, r0, r1, r2, r3, r4]) rfl ?_
    exact ⟨⟨_, isX_zero _ _, rfl⟩, set5 (HB1.out.alloc HB1.out.size _) (Nat.le_refl _)⟩
  | true =>
    by_cases hr : RR x
    case neg =>
      rw [htk, if_neg (fun h => hr h.2)]
      have hrr : decide (RR x) = false := decide_eq_false hr
      clear htk hr
      go_enter Try.func18, Try.ntmps18
      go_wp2_with fail
      with_reducible refine (HRD.out _).mono ?_
      rintro e w1 ⟨⟨v1, hx1, rfl⟩, hb1⟩
      obtain ⟨o1, f1, p1, A1, n1, c1, B1, m1, d1, rfl, hpe, hpn, hpm, hpo, hpf, hx1⟩ := isX_lit hx1
      clear hpe hpn hpm hpo hpf
      have HB1 := Lib.hid (after_alloc (Below.refl _ w) hb1)
      have HR1 := Lib.hid (bx_first hb1)
      have HF1 := Lib.hid (sf_first hb1)
      have HX1 : Hid (IsX (Off (w.heap.size :: gs)) w1 (.agg #[.string o1, .string f1, .int .i64 p1, .slice A1 n1 c1, .slice B1 m1 d1]) x) := Lib.hid (hx1.mono fun b _ hb hm => by
        have hb2 : w.heap.size + 1 ≤ b := by simpa using hb
        rcases List.mem_cons.1 hm with e | e
        · omega
        · have := hg b e; omega)
      clear hb1 hx1
      dsimp only at HX1 ⊢
      go_wp2_with fail
      have hbS := al w1 (.cells #[.string o1, .string f1, .int .i64 p1, .slice A1 n1 c1, .slice B1 m1 d1] 24)
      have hxS := bx_alloc w1 o1 f1 p1 A1 n1 c1 B1 m1 d1 24
      generalize w1.alloc (.cells #[.string o1, .string f1, .int .i64 p1, .slice A1 n1 c1, .slice B1 m1 d1] 24) = wS at hbS hxS ⊢
      have HBS := Lib.hid (Bel.call HB1.out hbS)
      have HRS := Lib.hid (HR1.out.below hbS HR1.out.2.2.2.2.2)
      have HFS := Lib.hid (HF1.out.below hbS HR1.out.2.2.2.2.2)
      have HXS := Lib.hid hxS
      have HXR := Lib.hid (HX1.out.below hbS (Nat.le_refl _))
      clear hbS hxS
      with_reducible refine (right_at _ x _ HXR.out.isR HF.out).mono ?_
      rw [hrr]
      rintro e w2 ⟨rfl, hb2⟩
      have HB2 := Lib.hid (Bel.call HBS.out hb2)
      have HR2 := Lib.hid (HRS.out.below hb2 HRS.out.2.2.2.2.2)
      have HF2 := Lib.hid (HFS.out.below hb2 HRS.out.2.2.2.2.2)
      have HX2 := Lib.hid (HXS.out.below hb2 HXS.out.2.2.2.2.2)
      have HXQ := Lib.hid (HXR.out.below hb2 (Nat.le_refl _))
      clear hb2
      dsimp only
      obtain ⟨r0, r1, r2, r3, r4, _⟩ := HR2.out
      obtain ⟨f0, f1', f2, f3, f4⟩ := HF2.out
      obtain ⟨b0, b1, b2, b3, b4, _⟩ := HX2.out
      go_wp2
      refine bodyPost_ret (v := .tuple #[RV ⟨#[]⟩ ⟨#[]⟩ 0 none 0 0 none 0 0, .int .i64 2]) (by simp [results, Try.results18, go_sem, RV, r0, r1, r2, r3, r4]) rfl ?_
      exact ⟨⟨_, isX_zero _ _, rfl⟩, set5 HB2.out (Nat.le_refl _)⟩
    rw [htk, if_pos ⟨rfl, hr⟩]
    have hrr : decide (RR x) = true := decide_eq_true hr
    clear htk hr
    go_enter Try.func18, Try.ntmps18
    go_wp2_with fail
    with_reducible refine (HRD.out _).mono ?_
    rintro e w1 ⟨⟨v1, hx1, rfl⟩, hb1⟩
    obtain ⟨o1, f1, p1, A1, n1, c1, B1, m1, d1, rfl, hpe, hpn, hpm, hpo, hpf, hx1⟩ := isX_lit hx1
    clear hpe hpn hpm hpo hpf
    have HB1 := Lib.hid (after_alloc (Below.refl _ w) hb1)
    have HR1 := Lib.hid (bx_first hb1)
    have HF1 := Lib.hid (sf_first hb1)
    have HX1 : Hid (IsX (Off (w.heap.size :: gs)) w1 (.agg #[.string o1, .string f1, .int .i64 p1, .slice A1 n1 c1, .slice B1 m1 d1]) x) := Lib.hid (hx1.mono fun b _ hb hm => by
      have hb2 : w.heap.size + 1 ≤ b := by simpa using hb
      rcases List.mem_cons.1 hm with e | e
      · omega
      · have := hg b e; omega)
    clear hb1 hx1
    dsimp only at HX1 ⊢
    go_wp2_with fail
    have hbS := al w1 (.cells #[.string o1, .string f1, .int .i64 p1, .slice A1 n1 c1, .slice B1 m1 d1] 24)
    have hxS := bx_alloc w1 o1 f1 p1 A1 n1 c1 B1 m1 d1 24
    generalize w1.alloc (.cells #[.string o1, .string f1, .int .i64 p1, .slice A1 n1 c1, .slice B1 m1 d1] 24) = wS at hbS hxS ⊢
    have HBS := Lib.hid (Bel.call HB1.out hbS)
    have HRS := Lib.hid (HR1.out.below hbS HR1.out.2.2.2.2.2)
    have HFS := Lib.hid (HF1.out.below hbS HR1.out.2.2.2.2.2)
    have HXS := Lib.hid hxS
    have HXR := Lib.hid (HX1.out.below hbS (Nat.le_refl _))
    clear hbS hxS
    with_reducible refine (right_at _ x _ HXR.out.isR HF.out).mono ?_
    rw [hrr]
    rintro e w2 ⟨rfl, hb2⟩
    have HB2 := Lib.hid (Bel.call HBS.out hb2)
    have HR2 := Lib.hid (HRS.out.below hb2 HRS.out.2.2.2.2.2)
    have HF2 := Lib.hid (HFS.out.below hb2 HRS.out.2.2.2.2.2)
    have HX2 := Lib.hid (HXS.out.below hb2 HXS.out.2.2.2.2.2)
    have HXQ := Lib.hid (HXR.out.below hb2 (Nat.le_refl _))
    clear hb2
    dsimp only
    obtain ⟨r0, r1, r2, r3, r4, _⟩ := HR2.out
    obtain ⟨f0, f1', f2, f3, f4⟩ := HF2.out
    obtain ⟨b0, b1, b2, b3, b4, _⟩ := HX2.out
    go_wp2
    refine bodyPost_ret (v := .tuple #[.agg #[.string o1, .string f1, .int .i64 p1, .slice A1 n1 c1, .slice B1 m1 d1], .int .i64 0]) (by simp [results, Try.results18, go_sem, RV, r0, r1, r2, r3, r4]) rfl ?_
    exact ⟨⟨_, (isX_set5 (List.mem_cons_self ..) HXQ.out).mono (fun b _ hb hm => hb (List.mem_cons_of_mem _ hm)), rfl⟩, set5 HB2.out (Nat.le_refl _)⟩
end Go.Proofs.Ytjikepfgfbnheaa.Rig
