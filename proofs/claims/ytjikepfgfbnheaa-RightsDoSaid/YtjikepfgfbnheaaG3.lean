/-
  One text of several, in their order: GRevoke, GGrant, GSame, GAllF. By an AI agent; no person has read it.
-/
import Derived.Test.YtjikepfgfbnheaaG2
import Derived.Test.YtjikepfgfbnheaaG1
import Derived.Deep.QuietTactic
import Derived.BigQuiet
import Derived.Test.YtjikepfgfbnheaaW0
/-
  CONTRACT of the document's Revoke (letterlockref7) at this program. By an AI agent; no person has read it.
-/
namespace Go.Proofs.Ytjikepfgfbnheaa.Rig
open Go.RowKit Wire

set_option linter.unusedSimpArgs false
theorem Two.bel {w w1 : World} {o f : ByteArray} {ep : Int} {A : Option Addr} {n c : Nat} {B : Option Addr} {m d : Nat} (h : Two w w1 o f ep A n c B m d) : Below w.heap.size w w1 := h.2.2.2
theorem al2 (w : World) (a b : Obj) : Below w.heap.size w ((w.alloc a).alloc b) := (al w a).alloc (by simp) b
theorem sreads_set5 {w : World} {A : Option Addr} {ys : List ByteArray} (h : SReads w A ys) {R : Nat} {v0 v1 v2 v3 v4 : Value} (hR : ∀ b off, A = some ⟨b, off, none⟩ → b ≠ R) : SReads (((((w.setCell ⟨R, 0, none⟩ v0).setCell ⟨R, 1, none⟩ v1).setCell ⟨R, 2, none⟩ v2).setCell ⟨R, 3, none⟩ v3).setCell ⟨R, 4, none⟩ v4) A ys :=
  sreads_set (sreads_set (sreads_set (sreads_set (sreads_set h hR) hR) hR) hR) hR
theorem bel_set5 (w : World) {R : Nat} {v0 v1 v2 v3 v4 : Value} : Below R w (((((w.setCell ⟨R, 0, none⟩ v0).setCell ⟨R, 1, none⟩ v1).setCell ⟨R, 2, none⟩ v2).setCell ⟨R, 3, none⟩ v3).setCell ⟨R, 4, none⟩ v4) :=
  have h : R ≤ R := Nat.le_refl R
  (((((Below.refl R w).setCell (p := ⟨R, 0, none⟩) h v0).setCell (p := ⟨R, 1, none⟩) h v1).setCell (p := ⟨R, 2, none⟩) h v2).setCell (p := ⟨R, 3, none⟩) h v3).setCell (p := ⟨R, 4, none⟩) h v4
set_option maxHeartbeats 8000000 in
set_option maxRecDepth 1000000 in
theorem rrevoke_any (o f : ByteArray) (ep : Int) (A : Option Addr) (c : Nat) (rs : List ByteArray) (B : Option Addr) (d : Nat) (ws : List ByteArray) (u : ByteArray) (w : World) (hA : SReads w A rs) (hB : SReads w B ws) (hf : Few ⟨o.data.toList, f.data.toList, ep, bl rs, bl ws⟩) (hu : u.size ≤ 1000000) :
    Calls Try.prog 15 #[RV o f ep A rs.length c B ws.length d, .string u] w fun e w' => Re (fun b => w.heap.size ≤ b) (rv ⟨o.data.toList, f.data.toList, ep, bl rs, bl ws⟩ u.data.toList) e w' ∧ Below w.heap.size w w' := by
  have HA := Lib.hid hA
  have HBB := Lib.hid hB
  have hl1 : rs.length ≤ 40 := by have := hf.2.2.1; rw [bl_len] at this; exact this
  have hl2 : ws.length ≤ 40 := by have := hf.2.2.2.1; rw [bl_len] at this; exact this
  have HRR := Lib.hid fun w h1 h2 => rright_any o f ep A c rs B d ws w h1 h2 hf
  have HU := Lib.hid fun v h w => refright_is u v h w hu
  have HH1 := Lib.hid fun w h => rhas_any A c rs u w h (by omega)
  have HH2 := Lib.hid fun w h => rhas_any B d ws u w h (by omega)
  have HW1 := Lib.hid fun w h => rwithout_any A c rs u w h (by omega)
  have HW2 := Lib.hid fun w h => rwithout_any B d ws u w h (by omega)
  clear hA hB hf
  unfold RV at HRR ⊢
  by_cases hr : RR ⟨o.data.toList, f.data.toList, ep, bl rs, bl ws⟩
  case neg =>
    rw [show rv ⟨o.data.toList, f.data.toList, ep, bl rs, bl ws⟩ u.data.toList = (zero, 1) by unfold rv; rw [if_pos hr]]
    go_enter Try.func15, Try.ntmps15
    go_wp2_with fail
    with_reducible refine (HRR.out _ (HA.out.below (al2 _ _ _) (Nat.le_refl _)) (HBB.out.below (al2 _ _ _) (Nat.le_refl _))).mono ?_
    rw [decide_eq_false hr]
    rintro e w1 ⟨rfl, hb1⟩
    have HT1 := Lib.hid (two_first hb1)
    clear hb1
    obtain ⟨⟨c0, c1, c2, c3, c4, _⟩, ⟨r0, r1, r2, r3, r4, _⟩, ⟨f0, f1, f2, f3, f4⟩, _⟩ := HT1.out
    dsimp only
    go_wp2
    refine bodyPost_ret (v := .tuple #[RV ⟨#[]⟩ ⟨#[]⟩ 0 none 0 0 none 0 0, .int .i64 1]) (by simp [results, Try.results15, go_sem, RV, r0, r1, r2, r3, r4]) rfl ?_
    exact ⟨⟨_, isX_zero _ _, rfl⟩, set5 HT1.out.2.2.2 (Nat.le_succ _)⟩
  cases hnm : nm u.data.toList with
  | false =>
    rw [show rv ⟨o.data.toList, f.data.toList, ep, bl rs, bl ws⟩ u.data.toList = (zero, 3) by unfold rv; rw [if_neg (by simpa using hr), if_pos (by rw [hnm]; decide)]]
    go_enter Try.func15, Try.ntmps15
    go_wp2_with fail
    with_reducible refine (HRR.out _ (HA.out.below (al2 _ _ _) (Nat.le_refl _)) (HBB.out.below (al2 _ _ _) (Nat.le_refl _))).mono ?_
    rw [decide_eq_true hr]
    rintro e w1 ⟨rfl, hb1⟩
    have HT1 := Lib.hid (two_first hb1)
    clear hb1
    obtain ⟨⟨c0, c1, c2, c3, c4, _⟩, ⟨r0, r1, r2, r3, r4, _⟩, ⟨f0, f1, f2, f3, f4⟩, _⟩ := HT1.out
    dsimp only
    go_wp2_with fail
    with_reducible refine (HU.out false hnm _).mono ?_
    rintro e w2 ⟨rfl, hb2⟩
    have HT2 := Lib.hid (HT1.out.more hb2)
    clear hb2 c0 c1 c2 c3 c4 r0 r1 r2 r3 r4 f0 f1 f2 f3 f4
    obtain ⟨⟨c0, c1, c2, c3, c4, _⟩, ⟨r0, r1, r2, r3, r4, _⟩, ⟨f0, f1, f2, f3, f4⟩, _⟩ := HT2.out
    dsimp only
    go_wp2
    refine bodyPost_ret (v := .tuple #[RV ⟨#[]⟩ ⟨#[]⟩ 0 none 0 0 none 0 0, .int .i64 3]) (by simp [results, Try.results15, go_sem, RV, r0, r1, r2, r3, r4]) rfl ?_
    exact ⟨⟨_, isX_zero _ _, rfl⟩, set5 HT2.out.2.2.2 (Nat.le_succ _)⟩
  | true =>
    rcases rv_cases ⟨o.data.toList, f.data.toList, ep, bl rs, bl ws⟩ u.data.toList hr hnm with ⟨e, h1, h2⟩ | ⟨e, h1, h2⟩ | ⟨h1, h2, e, _⟩
    · rw [e]
      simp only at h1 h2
      rw [decide_eq_false h1] at HH1
      rw [decide_eq_false h2] at HH2
      go_enter Try.func15, Try.ntmps15
      go_wp2_with fail
      with_reducible refine (HRR.out _ (HA.out.below (al2 _ _ _) (Nat.le_refl _)) (HBB.out.below (al2 _ _ _) (Nat.le_refl _))).mono ?_
      rw [decide_eq_true hr]
      rintro e w1 ⟨rfl, hb1⟩
      have HT1 := Lib.hid (two_first hb1)
      clear hb1
      obtain ⟨⟨c0, c1, c2, c3, c4, _⟩, ⟨r0, r1, r2, r3, r4, _⟩, ⟨f0, f1, f2, f3, f4⟩, _⟩ := HT1.out
      dsimp only
      go_wp2_with fail
      with_reducible refine (HU.out true hnm _).mono ?_
      rintro e w2 ⟨rfl, hb2⟩
      have HT2 := Lib.hid (HT1.out.more hb2)
      clear hb2 c0 c1 c2 c3 c4 r0 r1 r2 r3 r4 f0 f1 f2 f3 f4
      obtain ⟨⟨c0, c1, c2, c3, c4, _⟩, ⟨r0, r1, r2, r3, r4, _⟩, ⟨f0, f1, f2, f3, f4⟩, _⟩ := HT2.out
      dsimp only
      go_wp2_with fail
      with_reducible refine (HH1.out _ (HA.out.below HT2.out.bel (Nat.le_refl _))).mono ?_
      rintro e w9 ⟨rfl, h9⟩
      obtain rfl : w2 = w9 := h9.symm
      dsimp only
      go_wp2_with fail
      with_reducible refine (HH2.out _ (HBB.out.below HT2.out.bel (Nat.le_refl _))).mono ?_
      rintro e w9 ⟨rfl, h9⟩
      obtain rfl : w2 = w9 := h9.symm
      dsimp only
      go_wp2
      refine bodyPost_ret (v := .tuple #[RV ⟨#[]⟩ ⟨#[]⟩ 0 none 0 0 none 0 0, .int .i64 4]) (by simp [results, Try.results15, go_sem, RV, r0, r1, r2, r3, r4]) rfl ?_
      exact ⟨⟨_, isX_zero _ _, rfl⟩, set5 HT2.out.2.2.2 (Nat.le_succ _)⟩
    · rw [e]
      simp only at h1 h2
      subst h2
      by_cases hin : u.data.toList ∈ bl rs
      · rw [decide_eq_true hin] at HH1
        go_enter Try.func15, Try.ntmps15
        go_wp2_with fail
        with_reducible refine (HRR.out _ (HA.out.below (al2 _ _ _) (Nat.le_refl _)) (HBB.out.below (al2 _ _ _) (Nat.le_refl _))).mono ?_
        rw [decide_eq_true hr]
        rintro e w1 ⟨rfl, hb1⟩
        have HT1 := Lib.hid (two_first hb1)
        clear hb1
        obtain ⟨⟨c0, c1, c2, c3, c4, _⟩, ⟨r0, r1, r2, r3, r4, _⟩, ⟨f0, f1, f2, f3, f4⟩, _⟩ := HT1.out
        dsimp only
        go_wp2_with fail
        with_reducible refine (HU.out true hnm _).mono ?_
        rintro e w2 ⟨rfl, hb2⟩
        have HT2 := Lib.hid (HT1.out.more hb2)
        clear hb2 c0 c1 c2 c3 c4 r0 r1 r2 r3 r4 f0 f1 f2 f3 f4
        obtain ⟨⟨c0, c1, c2, c3, c4, _⟩, ⟨r0, r1, r2, r3, r4, _⟩, ⟨f0, f1, f2, f3, f4⟩, _⟩ := HT2.out
        dsimp only
        go_wp2_with fail
        with_reducible refine (HH1.out _ (HA.out.below HT2.out.bel (Nat.le_refl _))).mono ?_
        rintro e w9 ⟨rfl, h9⟩
        obtain rfl : w2 = w9 := h9.symm
        dsimp only
        go_wp2
        refine bodyPost_ret (v := .tuple #[RV ⟨#[]⟩ ⟨#[]⟩ 0 none 0 0 none 0 0, .int .i64 9]) (by simp [results, Try.results15, go_sem, RV, r0, r1, r2, r3, r4]) rfl ?_
        exact ⟨⟨_, isX_zero _ _, rfl⟩, set5 HT2.out.2.2.2 (Nat.le_succ _)⟩
      · rw [decide_eq_false hin] at HH1
        rw [decide_eq_true (h1.resolve_left hin)] at HH2
        go_enter Try.func15, Try.ntmps15
        go_wp2_with fail
        with_reducible refine (HRR.out _ (HA.out.below (al2 _ _ _) (Nat.le_refl _)) (HBB.out.below (al2 _ _ _) (Nat.le_refl _))).mono ?_
        rw [decide_eq_true hr]
        rintro e w1 ⟨rfl, hb1⟩
        have HT1 := Lib.hid (two_first hb1)
        clear hb1
        obtain ⟨⟨c0, c1, c2, c3, c4, _⟩, ⟨r0, r1, r2, r3, r4, _⟩, ⟨f0, f1, f2, f3, f4⟩, _⟩ := HT1.out
        dsimp only
        go_wp2_with fail
        with_reducible refine (HU.out true hnm _).mono ?_
        rintro e w2 ⟨rfl, hb2⟩
        have HT2 := Lib.hid (HT1.out.more hb2)
        clear hb2 c0 c1 c2 c3 c4 r0 r1 r2 r3 r4 f0 f1 f2 f3 f4
        obtain ⟨⟨c0, c1, c2, c3, c4, _⟩, ⟨r0, r1, r2, r3, r4, _⟩, ⟨f0, f1, f2, f3, f4⟩, _⟩ := HT2.out
        dsimp only
        go_wp2_with fail
        with_reducible refine (HH1.out _ (HA.out.below HT2.out.bel (Nat.le_refl _))).mono ?_
        rintro e w9 ⟨rfl, h9⟩
        obtain rfl : w2 = w9 := h9.symm
        dsimp only
        go_wp2_with fail
        with_reducible refine (HH2.out _ (HBB.out.below HT2.out.bel (Nat.le_refl _))).mono ?_
        rintro e w9 ⟨rfl, h9⟩
        obtain rfl : w2 = w9 := h9.symm
        dsimp only
        go_wp2
        refine bodyPost_ret (v := .tuple #[RV ⟨#[]⟩ ⟨#[]⟩ 0 none 0 0 none 0 0, .int .i64 9]) (by simp [results, Try.results15, go_sem, RV, r0, r1, r2, r3, r4]) rfl ?_
        exact ⟨⟨_, isX_zero _ _, rfl⟩, set5 HT2.out.2.2.2 (Nat.le_succ _)⟩
    · rw [e]
      simp only at h1 h2
      have he7 : ¬ ep = 7 := by omega
      have hb7 : (ep == 7) = false := by simpa using he7
      have hep0 : 0 ≤ ep := hr.2.2.1.1
      have hw1 : IntKind.i64.wrap (ep + 1) = ep + 1 := by rw [IntKind.wrap_i64]; omega
      by_cases hin : u.data.toList ∈ bl rs
      · rw [decide_eq_true hin] at HH1
        go_enter Try.func15, Try.ntmps15
        go_wp2_with fail
        with_reducible refine (HRR.out _ (HA.out.below (al2 _ _ _) (Nat.le_refl _)) (HBB.out.below (al2 _ _ _) (Nat.le_refl _))).mono ?_
        rw [decide_eq_true hr]
        rintro e w1 ⟨rfl, hb1⟩
        have HT1 := Lib.hid (two_first hb1)
        clear hb1
        obtain ⟨⟨c0, c1, c2, c3, c4, _⟩, ⟨r0, r1, r2, r3, r4, _⟩, ⟨f0, f1, f2, f3, f4⟩, _⟩ := HT1.out
        dsimp only
        go_wp2_with fail
        with_reducible refine (HU.out true hnm _).mono ?_
        rintro e w2 ⟨rfl, hb2⟩
        have HT2 := Lib.hid (HT1.out.more hb2)
        clear hb2 c0 c1 c2 c3 c4 r0 r1 r2 r3 r4 f0 f1 f2 f3 f4
        obtain ⟨⟨c0, c1, c2, c3, c4, _⟩, ⟨r0, r1, r2, r3, r4, _⟩, ⟨f0, f1, f2, f3, f4⟩, _⟩ := HT2.out
        dsimp only
        go_wp2_with fail
        with_reducible refine (HH1.out _ (HA.out.below HT2.out.bel (Nat.le_refl _))).mono ?_
        rintro e w9 ⟨rfl, h9⟩
        obtain rfl : w2 = w9 := h9.symm
        dsimp only
        go_wp2_with fail
        have hT0 : Two w w2.drew o f ep A rs.length c B ws.length d := HT2.out.more (Below.drewN' (Below.refl w2.heap.size w2) 1)
        refine wp_region_held_drew (S := fun w' => Bx w.heap.size w' o f ep A rs.length c B ws.length d) (by kernel_rfl) hT0.1 (fun hHeld => ?_)
        clear c0 c1 c2 c3 c4 r0 r1 r2 r3 r4 f0 f1 f2 f3 f4
        refine wpAnyH_take (i := 0) (v := ?_) (by rw [List.getElem?_toArray]; rfl) (by kernel_rfl) (by kernel_rfl) (by kernel_rfl) (by exact fun _ _ _ h => h) (Or.inl ⟨by rfl, ?_⟩) (by assumption) ?_
        rotate_left
        · intro w' hSw
          obtain ⟨c0, c1, c2, c3, c4, _⟩ := hSw
          go_simp
          try with_reducible rfl
        try simp only [Act.put, List.setIfInBounds_toArray, List.set_cons_zero, List.set_cons_succ]
        refine wpAnyH_take (i := 1) (v := ?_) (by rw [List.getElem?_toArray]; rfl) (by kernel_rfl) (by kernel_rfl) (by kernel_rfl) (by exact fun _ _ _ h => h) (Or.inl ⟨by rfl, ?_⟩) (by assumption) ?_
        rotate_left
        · intro w' hSw
          obtain ⟨c0, c1, c2, c3, c4, _⟩ := hSw
          go_simp
          try with_reducible rfl
        try simp only [Act.put, List.setIfInBounds_toArray, List.set_cons_zero, List.set_cons_succ]
        refine wpAnyH_take (i := 2) (v := ?_) (by rw [List.getElem?_toArray]; rfl) (by kernel_rfl) (by kernel_rfl) (by kernel_rfl) (by exact fun _ _ _ h => h) (Or.inl ⟨by rfl, ?_⟩) (by assumption) ?_
        rotate_left
        · intro w' hSw
          obtain ⟨c0, c1, c2, c3, c4, _⟩ := hSw
          go_simp
          try with_reducible rfl
        try simp only [Act.put, List.setIfInBounds_toArray, List.set_cons_zero, List.set_cons_succ]
        refine wpAnyH_take (i := 3) (v := ?_) (by rw [List.getElem?_toArray]; rfl) (by kernel_rfl) (by kernel_rfl) (by kernel_rfl) (by exact fun _ _ _ h => h) (Or.inl ⟨by rfl, ?_⟩) (by assumption) ?_
        rotate_left
        · intro w' hSw
          obtain ⟨c0, c1, c2, c3, c4, _⟩ := hSw
          go_simp
          try with_reducible rfl
        try simp only [Act.put, List.setIfInBounds_toArray, List.set_cons_zero, List.set_cons_succ]
        refine wpAnyH_take (i := 4) (v := ?_) (by rw [List.getElem?_toArray]; rfl) (by kernel_rfl) (by kernel_rfl) (by kernel_rfl) (by exact fun _ _ _ h => h) (Or.inl ⟨by rfl, ?_⟩) (by assumption) ?_
        rotate_left
        · intro w' hSw
          obtain ⟨c0, c1, c2, c3, c4, _⟩ := hSw
          go_simp
          try with_reducible rfl
        try simp only [Act.put, List.setIfInBounds_toArray, List.set_cons_zero, List.set_cons_succ]
        refine wpAnyH_take (i := 5) (v := ?_) (by rw [List.getElem?_toArray]; rfl) (by kernel_rfl) (by kernel_rfl) (by kernel_rfl) (by exact fun _ _ _ h => h) (Or.inl ⟨by rfl, ?_⟩) (by assumption) ?_
        rotate_left
        · intro w' hSw
          obtain ⟨c0, c1, c2, c3, c4, _⟩ := hSw
          go_simp
          try with_reducible rfl
        try simp only [Act.put, List.setIfInBounds_toArray, List.set_cons_zero, List.set_cons_succ]
        refine wpAnyH_take (i := 6) (v := ?_) (by rw [List.getElem?_toArray]; rfl) (by kernel_rfl) (by kernel_rfl) (by kernel_rfl) (by exact fun _ _ _ h => h) (Or.inl ⟨by rfl, ?_⟩) (by assumption) ?_
        rotate_left
        · intro w' hSw
          obtain ⟨c0, c1, c2, c3, c4, _⟩ := hSw
          go_simp
          try with_reducible rfl
        try simp only [Act.put, List.setIfInBounds_toArray, List.set_cons_zero, List.set_cons_succ]
        refine wpAnyH_take (i := 7) (v := ?_) (by rw [List.getElem?_toArray]; rfl) (by kernel_rfl) (by kernel_rfl) (by kernel_rfl) (by exact fun _ _ _ h => h) (Or.inl ⟨by rfl, ?_⟩) (by assumption) ?_
        rotate_left
        · intro w' hSw
          obtain ⟨c0, c1, c2, c3, c4, _⟩ := hSw
          go_simp
          try with_reducible rfl
        try simp only [Act.put, List.setIfInBounds_toArray, List.set_cons_zero, List.set_cons_succ]
        refine wpAnyH_take (i := 8) (v := ?_) (by rw [List.getElem?_toArray]; rfl) (by kernel_rfl) (by kernel_rfl) (by kernel_rfl) (by exact fun _ _ _ h => h) (Or.inl ⟨by rfl, ?_⟩) (by assumption) ?_
        rotate_left
        · intro w' hSw
          obtain ⟨c0, c1, c2, c3, c4, _⟩ := hSw
          go_simp
          try with_reducible rfl
        try simp only [Act.put, List.setIfInBounds_toArray, List.set_cons_zero, List.set_cons_succ]
        refine wpAnyH_take (i := 9) (v := ?_) (by rw [List.getElem?_toArray]; rfl) (by kernel_rfl) (by kernel_rfl) (by kernel_rfl) (by exact fun _ _ _ h => h) (Or.inl ⟨by rfl, ?_⟩) (by assumption) ?_
        rotate_left
        · intro w' hSw
          obtain ⟨c0, c1, c2, c3, c4, _⟩ := hSw
          go_simp
          try with_reducible rfl
        try simp only [Act.put, List.setIfInBounds_toArray, List.set_cons_zero, List.set_cons_succ]
        refine wpAnyH_take (i := 11) (v := ?_) (by rw [List.getElem?_toArray]; rfl) (by kernel_rfl) (by kernel_rfl) (by kernel_rfl) (by exact fun _ _ _ h => h) (Or.inl ⟨by rfl, ?_⟩) (by assumption) ?_
        rotate_left
        · intro w' hSw
          obtain ⟨c0, c1, c2, c3, c4, _⟩ := hSw
          go_simp
          try with_reducible rfl
        try simp only [Act.put, List.setIfInBounds_toArray, List.set_cons_zero, List.set_cons_succ]
        refine wpAnyH_take (i := 12) (v := ?_) (by rw [List.getElem?_toArray]; rfl) (by kernel_rfl) (by kernel_rfl) (by kernel_rfl) (by exact fun _ _ _ h => h) (Or.inl ⟨by rfl, ?_⟩) (by assumption) ?_
        rotate_left
        · intro w' hSw
          obtain ⟨c0, c1, c2, c3, c4, _⟩ := hSw
          go_simp
          try with_reducible rfl
        try simp only [Act.put, List.setIfInBounds_toArray, List.set_cons_zero, List.set_cons_succ]
        refine wpAnyH_take (i := 13) (v := ?_) (by rw [List.getElem?_toArray]; rfl) (by kernel_rfl) (by kernel_rfl) (by kernel_rfl) (by exact fun _ _ _ h => h) (Or.inl ⟨by rfl, ?_⟩) (by assumption) ?_
        rotate_left
        · intro w' hSw
          obtain ⟨c0, c1, c2, c3, c4, _⟩ := hSw
          go_simp
          try with_reducible rfl
        try simp only [Act.put, List.setIfInBounds_toArray, List.set_cons_zero, List.set_cons_succ]
        clear hHeld
        refine wpAnyH_ready (rs := [10]) (by kernel_rfl) (by simp) ?_
        refine AllReadyH.cons (by rw [List.getElem?_toArray]; rfl) (fun K hK => ?_) AllReadyH.nil
        go_simp
        go_at_call 37
        with_reducible refine (HW1.out _ (HA.out.below hT0.bel (Nat.le_refl _))).mono ?_
        rintro e w3 ⟨⟨A1, c1', y1, hy1, hc1, hs1, hf1, rfl⟩, hb3⟩
        have hT3 := hT0.more hb3
        dsimp only
        refine hK.out _ _ hT3.1 (fun hHeld => ?_)
        try simp only [Act.put, List.setIfInBounds_toArray, List.set_cons_zero, List.set_cons_succ]
        clear hHeld
        refine wpAnyH_ready (rs := [14]) (by kernel_rfl) (by simp) ?_
        refine AllReadyH.cons (by rw [List.getElem?_toArray]; rfl) (fun K hK => ?_) AllReadyH.nil
        go_simp
        go_at_call 37
        with_reducible refine (HW2.out _ (HBB.out.below hT3.bel (Nat.le_refl _))).mono ?_
        rintro e w4 ⟨⟨A2, c2', y2, hy2, hc2, hs2, hf2, rfl⟩, hb4⟩
        have hT4 := hT3.more hb4
        dsimp only
        refine hK.out _ _ hT4.1 (fun hHeld => ?_)
        try simp only [Act.put, List.setIfInBounds_toArray, List.set_cons_zero, List.set_cons_succ]
        refine wpAnyH_take (i := 15) (v := ?_) (by rw [List.getElem?_toArray]; rfl) (by kernel_rfl) (by kernel_rfl) (by kernel_rfl) (by exact fun _ _ _ h => h) (Or.inl ⟨by rfl, ?_⟩) (by assumption) ?_
        rotate_left
        · intro w' hSw
          obtain ⟨c0, c1, c2, c3, c4, _⟩ := hSw
          go_simp
          try with_reducible rfl
        try simp only [Act.put, List.setIfInBounds_toArray, List.set_cons_zero, List.set_cons_succ]
        clear hHeld
        obtain ⟨_, ⟨r0, r1, r2, r3, r4, _⟩, ⟨f0, f1, f2, f3, f4⟩, hbw⟩ := id hT4
        refine wpAnyH_ready (rs := [16]) (by kernel_rfl) (by simp) ?_
        refine AllReadyH.cons (by rw [List.getElem?_toArray]; rfl) (fun K hK => ?_) AllReadyH.nil
        go_simp

        refine hK.out _ _ (hT4.1.below (bel_set5 w4) (Nat.lt_succ_self _)) (fun hHeld => ?_)
        try simp only [Act.put, List.setIfInBounds_toArray, List.set_cons_zero, List.set_cons_succ]
        refine wpAnyH_take (i := 17) (v := ?_) (by rw [List.getElem?_toArray]; rfl) (by kernel_rfl) (by kernel_rfl) (by kernel_rfl) (by exact fun _ _ _ h => h) (Or.inl ⟨by rfl, ?_⟩) (by assumption) ?_
        rotate_left
        · intro w' hSw
          obtain ⟨c0, c1, c2, c3, c4, _⟩ := hSw
          go_simp
          try with_reducible rfl
        try simp only [Act.put, List.setIfInBounds_toArray, List.set_cons_zero, List.set_cons_succ]
        refine wpAnyH_done (by kernel_rfl) ?_ _
        go_wp2
        refine bodyPost_ret (v := .tuple #[RV o f (ep + 1) A1 y1.length c1' A2 y2.length c2', .int .i64 0]) (by simp [results, Try.results15, go_sem, RV, r0, r1, r2, r3, r4]) rfl ?_
        have n1 : ∀ b off, A1 = some ⟨b, off, none⟩ → b ≠ w.heap.size + 1 := fun b off h => by
          have h1 := hf1 b off h
          have h2 := hT0.2.1.2.2.2.2.2
          exact fun e => absurd (Nat.lt_of_lt_of_le h2 h1) (by rw [e]; exact Nat.lt_irrefl _)
        have n2 : ∀ b off, A2 = some ⟨b, off, none⟩ → b ≠ w.heap.size + 1 := fun b off h => by
          have h1 := hf2 b off h
          have h2 := hT3.2.1.2.2.2.2.2
          exact fun e => absurd (Nat.lt_of_lt_of_le h2 h1) (by rw [e]; exact Nat.lt_irrefl _)
        have q1 : ∀ b off, A1 = some ⟨b, off, none⟩ → 0 < y1.length → w.heap.size ≤ b := fun b off h _ => by
          have h1 := hf1 b off h
          have h2 := hT0.2.1.2.2.2.2.2
          exact Nat.le_trans (Nat.le_trans (Nat.le_succ _) (Nat.le_of_lt h2)) h1
        have q2 : ∀ b off, A2 = some ⟨b, off, none⟩ → 0 < y2.length → w.heap.size ≤ b := fun b off h _ => by
          have h1 := hf2 b off h
          have h2 := hT3.2.1.2.2.2.2.2
          exact Nat.le_trans (Nat.le_trans (Nat.le_succ _) (Nat.le_of_lt h2)) h1
        exact ⟨⟨_, ⟨o, f, A1, c1', y1, A2, c2', y2, rfl, by simp only [hy1, hy2], sreads_set5 (hs1.below hb4 (Nat.le_refl _)) n1, sreads_set5 hs2 n2, hc1, hc2, q1, q2⟩, rfl⟩, set5 hbw (Nat.le_succ _)⟩
      · rw [decide_eq_false hin] at HH1
        rw [decide_eq_true (h1.resolve_left hin)] at HH2
        go_enter Try.func15, Try.ntmps15
        go_wp2_with fail
        with_reducible refine (HRR.out _ (HA.out.below (al2 _ _ _) (Nat.le_refl _)) (HBB.out.below (al2 _ _ _) (Nat.le_refl _))).mono ?_
        rw [decide_eq_true hr]
        rintro e w1 ⟨rfl, hb1⟩
        have HT1 := Lib.hid (two_first hb1)
        clear hb1
        obtain ⟨⟨c0, c1, c2, c3, c4, _⟩, ⟨r0, r1, r2, r3, r4, _⟩, ⟨f0, f1, f2, f3, f4⟩, _⟩ := HT1.out
        dsimp only
        go_wp2_with fail
        with_reducible refine (HU.out true hnm _).mono ?_
        rintro e w2 ⟨rfl, hb2⟩
        have HT2 := Lib.hid (HT1.out.more hb2)
        clear hb2 c0 c1 c2 c3 c4 r0 r1 r2 r3 r4 f0 f1 f2 f3 f4
        obtain ⟨⟨c0, c1, c2, c3, c4, _⟩, ⟨r0, r1, r2, r3, r4, _⟩, ⟨f0, f1, f2, f3, f4⟩, _⟩ := HT2.out
        dsimp only
        go_wp2_with fail
        with_reducible refine (HH1.out _ (HA.out.below HT2.out.bel (Nat.le_refl _))).mono ?_
        rintro e w9 ⟨rfl, h9⟩
        obtain rfl : w2 = w9 := h9.symm
        dsimp only
        go_wp2_with fail
        with_reducible refine (HH2.out _ (HBB.out.below HT2.out.bel (Nat.le_refl _))).mono ?_
        rintro e w9 ⟨rfl, h9⟩
        obtain rfl : w2 = w9 := h9.symm
        dsimp only
        go_wp2_with fail
        have hT0 : Two w w2.drew o f ep A rs.length c B ws.length d := HT2.out.more (Below.drewN' (Below.refl w2.heap.size w2) 1)
        refine wp_region_held_drew (S := fun w' => Bx w.heap.size w' o f ep A rs.length c B ws.length d) (by kernel_rfl) hT0.1 (fun hHeld => ?_)
        clear c0 c1 c2 c3 c4 r0 r1 r2 r3 r4 f0 f1 f2 f3 f4
        refine wpAnyH_take (i := 0) (v := ?_) (by rw [List.getElem?_toArray]; rfl) (by kernel_rfl) (by kernel_rfl) (by kernel_rfl) (by exact fun _ _ _ h => h) (Or.inl ⟨by rfl, ?_⟩) (by assumption) ?_
        rotate_left
        · intro w' hSw
          obtain ⟨c0, c1, c2, c3, c4, _⟩ := hSw
          go_simp
          try with_reducible rfl
        try simp only [Act.put, List.setIfInBounds_toArray, List.set_cons_zero, List.set_cons_succ]
        refine wpAnyH_take (i := 1) (v := ?_) (by rw [List.getElem?_toArray]; rfl) (by kernel_rfl) (by kernel_rfl) (by kernel_rfl) (by exact fun _ _ _ h => h) (Or.inl ⟨by rfl, ?_⟩) (by assumption) ?_
        rotate_left
        · intro w' hSw
          obtain ⟨c0, c1, c2, c3, c4, _⟩ := hSw
          go_simp
          try with_reducible rfl
        try simp only [Act.put, List.setIfInBounds_toArray, List.set_cons_zero, List.set_cons_succ]
        refine wpAnyH_take (i := 2) (v := ?_) (by rw [List.getElem?_toArray]; rfl) (by kernel_rfl) (by kernel_rfl) (by kernel_rfl) (by exact fun _ _ _ h => h) (Or.inl ⟨by rfl, ?_⟩) (by assumption) ?_
        rotate_left
        · intro w' hSw
          obtain ⟨c0, c1, c2, c3, c4, _⟩ := hSw
          go_simp
          try with_reducible rfl
        try simp only [Act.put, List.setIfInBounds_toArray, List.set_cons_zero, List.set_cons_succ]
        refine wpAnyH_take (i := 3) (v := ?_) (by rw [List.getElem?_toArray]; rfl) (by kernel_rfl) (by kernel_rfl) (by kernel_rfl) (by exact fun _ _ _ h => h) (Or.inl ⟨by rfl, ?_⟩) (by assumption) ?_
        rotate_left
        · intro w' hSw
          obtain ⟨c0, c1, c2, c3, c4, _⟩ := hSw
          go_simp
          try with_reducible rfl
        try simp only [Act.put, List.setIfInBounds_toArray, List.set_cons_zero, List.set_cons_succ]
        refine wpAnyH_take (i := 4) (v := ?_) (by rw [List.getElem?_toArray]; rfl) (by kernel_rfl) (by kernel_rfl) (by kernel_rfl) (by exact fun _ _ _ h => h) (Or.inl ⟨by rfl, ?_⟩) (by assumption) ?_
        rotate_left
        · intro w' hSw
          obtain ⟨c0, c1, c2, c3, c4, _⟩ := hSw
          go_simp
          try with_reducible rfl
        try simp only [Act.put, List.setIfInBounds_toArray, List.set_cons_zero, List.set_cons_succ]
        refine wpAnyH_take (i := 5) (v := ?_) (by rw [List.getElem?_toArray]; rfl) (by kernel_rfl) (by kernel_rfl) (by kernel_rfl) (by exact fun _ _ _ h => h) (Or.inl ⟨by rfl, ?_⟩) (by assumption) ?_
        rotate_left
        · intro w' hSw
          obtain ⟨c0, c1, c2, c3, c4, _⟩ := hSw
          go_simp
          try with_reducible rfl
        try simp only [Act.put, List.setIfInBounds_toArray, List.set_cons_zero, List.set_cons_succ]
        refine wpAnyH_take (i := 6) (v := ?_) (by rw [List.getElem?_toArray]; rfl) (by kernel_rfl) (by kernel_rfl) (by kernel_rfl) (by exact fun _ _ _ h => h) (Or.inl ⟨by rfl, ?_⟩) (by assumption) ?_
        rotate_left
        · intro w' hSw
          obtain ⟨c0, c1, c2, c3, c4, _⟩ := hSw
          go_simp
          try with_reducible rfl
        try simp only [Act.put, List.setIfInBounds_toArray, List.set_cons_zero, List.set_cons_succ]
        refine wpAnyH_take (i := 7) (v := ?_) (by rw [List.getElem?_toArray]; rfl) (by kernel_rfl) (by kernel_rfl) (by kernel_rfl) (by exact fun _ _ _ h => h) (Or.inl ⟨by rfl, ?_⟩) (by assumption) ?_
        rotate_left
        · intro w' hSw
          obtain ⟨c0, c1, c2, c3, c4, _⟩ := hSw
          go_simp
          try with_reducible rfl
        try simp only [Act.put, List.setIfInBounds_toArray, List.set_cons_zero, List.set_cons_succ]
        refine wpAnyH_take (i := 8) (v := ?_) (by rw [List.getElem?_toArray]; rfl) (by kernel_rfl) (by kernel_rfl) (by kernel_rfl) (by exact fun _ _ _ h => h) (Or.inl ⟨by rfl, ?_⟩) (by assumption) ?_
        rotate_left
        · intro w' hSw
          obtain ⟨c0, c1, c2, c3, c4, _⟩ := hSw
          go_simp
          try with_reducible rfl
        try simp only [Act.put, List.setIfInBounds_toArray, List.set_cons_zero, List.set_cons_succ]
        refine wpAnyH_take (i := 9) (v := ?_) (by rw [List.getElem?_toArray]; rfl) (by kernel_rfl) (by kernel_rfl) (by kernel_rfl) (by exact fun _ _ _ h => h) (Or.inl ⟨by rfl, ?_⟩) (by assumption) ?_
        rotate_left
        · intro w' hSw
          obtain ⟨c0, c1, c2, c3, c4, _⟩ := hSw
          go_simp
          try with_reducible rfl
        try simp only [Act.put, List.setIfInBounds_toArray, List.set_cons_zero, List.set_cons_succ]
        refine wpAnyH_take (i := 11) (v := ?_) (by rw [List.getElem?_toArray]; rfl) (by kernel_rfl) (by kernel_rfl) (by kernel_rfl) (by exact fun _ _ _ h => h) (Or.inl ⟨by rfl, ?_⟩) (by assumption) ?_
        rotate_left
        · intro w' hSw
          obtain ⟨c0, c1, c2, c3, c4, _⟩ := hSw
          go_simp
          try with_reducible rfl
        try simp only [Act.put, List.setIfInBounds_toArray, List.set_cons_zero, List.set_cons_succ]
        refine wpAnyH_take (i := 12) (v := ?_) (by rw [List.getElem?_toArray]; rfl) (by kernel_rfl) (by kernel_rfl) (by kernel_rfl) (by exact fun _ _ _ h => h) (Or.inl ⟨by rfl, ?_⟩) (by assumption) ?_
        rotate_left
        · intro w' hSw
          obtain ⟨c0, c1, c2, c3, c4, _⟩ := hSw
          go_simp
          try with_reducible rfl
        try simp only [Act.put, List.setIfInBounds_toArray, List.set_cons_zero, List.set_cons_succ]
        refine wpAnyH_take (i := 13) (v := ?_) (by rw [List.getElem?_toArray]; rfl) (by kernel_rfl) (by kernel_rfl) (by kernel_rfl) (by exact fun _ _ _ h => h) (Or.inl ⟨by rfl, ?_⟩) (by assumption) ?_
        rotate_left
        · intro w' hSw
          obtain ⟨c0, c1, c2, c3, c4, _⟩ := hSw
          go_simp
          try with_reducible rfl
        try simp only [Act.put, List.setIfInBounds_toArray, List.set_cons_zero, List.set_cons_succ]
        clear hHeld
        refine wpAnyH_ready (rs := [10]) (by kernel_rfl) (by simp) ?_
        refine AllReadyH.cons (by rw [List.getElem?_toArray]; rfl) (fun K hK => ?_) AllReadyH.nil
        go_simp
        go_at_call 37
        with_reducible refine (HW1.out _ (HA.out.below hT0.bel (Nat.le_refl _))).mono ?_
        rintro e w3 ⟨⟨A1, c1', y1, hy1, hc1, hs1, hf1, rfl⟩, hb3⟩
        have hT3 := hT0.more hb3
        dsimp only
        refine hK.out _ _ hT3.1 (fun hHeld => ?_)
        try simp only [Act.put, List.setIfInBounds_toArray, List.set_cons_zero, List.set_cons_succ]
        clear hHeld
        refine wpAnyH_ready (rs := [14]) (by kernel_rfl) (by simp) ?_
        refine AllReadyH.cons (by rw [List.getElem?_toArray]; rfl) (fun K hK => ?_) AllReadyH.nil
        go_simp
        go_at_call 37
        with_reducible refine (HW2.out _ (HBB.out.below hT3.bel (Nat.le_refl _))).mono ?_
        rintro e w4 ⟨⟨A2, c2', y2, hy2, hc2, hs2, hf2, rfl⟩, hb4⟩
        have hT4 := hT3.more hb4
        dsimp only
        refine hK.out _ _ hT4.1 (fun hHeld => ?_)
        try simp only [Act.put, List.setIfInBounds_toArray, List.set_cons_zero, List.set_cons_succ]
        refine wpAnyH_take (i := 15) (v := ?_) (by rw [List.getElem?_toArray]; rfl) (by kernel_rfl) (by kernel_rfl) (by kernel_rfl) (by exact fun _ _ _ h => h) (Or.inl ⟨by rfl, ?_⟩) (by assumption) ?_
        rotate_left
        · intro w' hSw
          obtain ⟨c0, c1, c2, c3, c4, _⟩ := hSw
          go_simp
          try with_reducible rfl
        try simp only [Act.put, List.setIfInBounds_toArray, List.set_cons_zero, List.set_cons_succ]
        clear hHeld
        obtain ⟨_, ⟨r0, r1, r2, r3, r4, _⟩, ⟨f0, f1, f2, f3, f4⟩, hbw⟩ := id hT4
        refine wpAnyH_ready (rs := [16]) (by kernel_rfl) (by simp) ?_
        refine AllReadyH.cons (by rw [List.getElem?_toArray]; rfl) (fun K hK => ?_) AllReadyH.nil
        go_simp

        refine hK.out _ _ (hT4.1.below (bel_set5 w4) (Nat.lt_succ_self _)) (fun hHeld => ?_)
        try simp only [Act.put, List.setIfInBounds_toArray, List.set_cons_zero, List.set_cons_succ]
        refine wpAnyH_take (i := 17) (v := ?_) (by rw [List.getElem?_toArray]; rfl) (by kernel_rfl) (by kernel_rfl) (by kernel_rfl) (by exact fun _ _ _ h => h) (Or.inl ⟨by rfl, ?_⟩) (by assumption) ?_
        rotate_left
        · intro w' hSw
          obtain ⟨c0, c1, c2, c3, c4, _⟩ := hSw
          go_simp
          try with_reducible rfl
        try simp only [Act.put, List.setIfInBounds_toArray, List.set_cons_zero, List.set_cons_succ]
        refine wpAnyH_done (by kernel_rfl) ?_ _
        go_wp2
        refine bodyPost_ret (v := .tuple #[RV o f (ep + 1) A1 y1.length c1' A2 y2.length c2', .int .i64 0]) (by simp [results, Try.results15, go_sem, RV, r0, r1, r2, r3, r4]) rfl ?_
        have n1 : ∀ b off, A1 = some ⟨b, off, none⟩ → b ≠ w.heap.size + 1 := fun b off h => by
          have h1 := hf1 b off h
          have h2 := hT0.2.1.2.2.2.2.2
          exact fun e => absurd (Nat.lt_of_lt_of_le h2 h1) (by rw [e]; exact Nat.lt_irrefl _)
        have n2 : ∀ b off, A2 = some ⟨b, off, none⟩ → b ≠ w.heap.size + 1 := fun b off h => by
          have h1 := hf2 b off h
          have h2 := hT3.2.1.2.2.2.2.2
          exact fun e => absurd (Nat.lt_of_lt_of_le h2 h1) (by rw [e]; exact Nat.lt_irrefl _)
        have q1 : ∀ b off, A1 = some ⟨b, off, none⟩ → 0 < y1.length → w.heap.size ≤ b := fun b off h _ => by
          have h1 := hf1 b off h
          have h2 := hT0.2.1.2.2.2.2.2
          exact Nat.le_trans (Nat.le_trans (Nat.le_succ _) (Nat.le_of_lt h2)) h1
        have q2 : ∀ b off, A2 = some ⟨b, off, none⟩ → 0 < y2.length → w.heap.size ≤ b := fun b off h _ => by
          have h1 := hf2 b off h
          have h2 := hT3.2.1.2.2.2.2.2
          exact Nat.le_trans (Nat.le_trans (Nat.le_succ _) (Nat.le_of_lt h2)) h1
        exact ⟨⟨_, ⟨o, f, A1, c1', y1, A2, c2', y2, rfl, by simp only [hy1, hy2], sreads_set5 (hs1.below hb4 (Nat.le_refl _)) n1, sreads_set5 hs2 n2, hc1, hc2, q1, q2⟩, rfl⟩, set5 hbw (Nat.le_succ _)⟩
end Go.Proofs.Ytjikepfgfbnheaa.Rig

/-
  CONTRACT of the document's Grant (letterlockref7) at this program. By an AI agent; no person has read it.
-/
namespace Go.Proofs.Ytjikepfgfbnheaa.Rig
open Go.RowKit Wire

set_option linter.unusedSimpArgs false
/-- A store elsewhere leaves a list as it is (one of no elements in any case). -/
theorem sreads_setL {w : World} {A : Option Addr} {ys : List ByteArray} (h : SReads w A ys) {R j : Nat} {v : Value} (hR : ∀ b off, A = some ⟨b, off, none⟩ → 0 < ys.length → b ≠ R) : SReads (w.setCell ⟨R, j, none⟩ v) A ys := fun i hi => by
  obtain ⟨b, off, e, hb, hc⟩ := h i hi
  refine ⟨b, off, e, by simpa [World.setCell] using hb, ?_⟩
  rw [World.cell?_setCell_other w ⟨R, j, none⟩ ⟨b, off + i, none⟩ v (fun e2 => hR b off e (by omega) (by injection e2 with e3 _ _; exact e3.symm))]
  exact hc
theorem sreads_setL5 {w : World} {A : Option Addr} {ys : List ByteArray} (h : SReads w A ys) {R : Nat} {v0 v1 v2 v3 v4 : Value} (hR : ∀ b off, A = some ⟨b, off, none⟩ → 0 < ys.length → b ≠ R) : SReads (((((w.setCell ⟨R, 0, none⟩ v0).setCell ⟨R, 1, none⟩ v1).setCell ⟨R, 2, none⟩ v2).setCell ⟨R, 3, none⟩ v3).setCell ⟨R, 4, none⟩ v4) A ys :=
  sreads_setL (sreads_setL (sreads_setL (sreads_setL (sreads_setL h hR) hR) hR) hR) hR
theorem bx_set5 {R : Nat} {w : World} {o' f' : ByteArray} {ep' : Int} {A' : Option Addr} {n' c' : Nat} {B' : Option Addr} {m' d' : Nat} {o f : ByteArray} {ep : Int} {A : Option Addr} {n c : Nat} {B : Option Addr} {m d : Nat} (h : Bx R w o' f' ep' A' n' c' B' m' d') :
    Bx R (((((w.setCell ⟨R, 0, none⟩ (.string o)).setCell ⟨R, 1, none⟩ (.string f)).setCell ⟨R, 2, none⟩ (.int .i64 ep)).setCell ⟨R, 3, none⟩ (.slice A n c)).setCell ⟨R, 4, none⟩ (.slice B m d)) o f ep A n c B m d := by
  obtain ⟨h0, h1, h2, h3, h4, h5⟩ := h
  refine ⟨?_, ?_, ?_, ?_, ?_, by simpa [World.setCell] using h5⟩ <;> simp [World.cell?_setCell_other, World.cell?_setCell_same', h0, h1, h2, h3, h4]
theorem sf_set5 {R : Nat} {w : World} {v0 v1 v2 v3 v4 : Value} (h : Sf R w) : Sf R (((((w.setCell ⟨R, 0, none⟩ v0).setCell ⟨R, 1, none⟩ v1).setCell ⟨R, 2, none⟩ v2).setCell ⟨R, 3, none⟩ v3).setCell ⟨R, 4, none⟩ v4) := by
  obtain ⟨h0, h1, h2, h3, h4⟩ := h
  refine ⟨?_, ?_, ?_, ?_, ?_⟩ <;> simp [h0, h1, h2, h3, h4]
theorem two_set5 {w w1 : World} {o f : ByteArray} {ep : Int} {A : Option Addr} {n c : Nat} {B : Option Addr} {m d : Nat} {G : Nat} {v0 v1 v2 v3 v4 : Value} (h : Two w w1 o f ep A n c B m d) (hG : w.heap.size + 1 < G) :
    Two w (((((w1.setCell ⟨G, 0, none⟩ v0).setCell ⟨G, 1, none⟩ v1).setCell ⟨G, 2, none⟩ v2).setCell ⟨G, 3, none⟩ v3).setCell ⟨G, 4, none⟩ v4) o f ep A n c B m d :=
  ⟨h.1.below (bel_set5 w1) (by omega), h.2.1.below (bel_set5 w1) hG, h.2.2.1.below (bel_set5 w1) hG, set5 h.bel (by omega)⟩
set_option maxHeartbeats 8000000 in
set_option maxRecDepth 1000000 in
theorem rgrant_any (o f : ByteArray) (ep : Int) (A : Option Addr) (c : Nat) (rs : List ByteArray) (B : Option Addr) (d : Nat) (ws : List ByteArray) (u : ByteArray) (wr : Bool) (w : World) (hA : SReads w A rs) (hB : SReads w B ws) (hf : Few ⟨o.data.toList, f.data.toList, ep, bl rs, bl ws⟩) (hu : u.size ≤ 1000000) :
    Calls Try.prog 13 #[RV o f ep A rs.length c B ws.length d, .string u, .bool wr] w fun e w' => Re (fun b => w.heap.size ≤ b) (gr ⟨o.data.toList, f.data.toList, ep, bl rs, bl ws⟩ u.data.toList wr) e w' ∧ Below w.heap.size w w' := by
  have HA := Lib.hid hA
  have HBB := Lib.hid hB
  have hl1 : rs.length ≤ 40 := by have := hf.2.2.1; rw [bl_len] at this; exact this
  have hl2 : ws.length ≤ 40 := by have := hf.2.2.2.1; rw [bl_len] at this; exact this
  have HRR := Lib.hid fun w h1 h2 => rright_any o f ep A c rs B d ws w h1 h2 hf
  have HU := Lib.hid fun v h w => refright_is u v h w hu
  have HH1 := Lib.hid fun w h => rhas_any A c rs u w h (by omega)
  have HH2 := Lib.hid fun w h => rhas_any B d ws u w h (by omega)
  clear hA hB hf
  unfold RV at HRR ⊢
  by_cases hr : RR ⟨o.data.toList, f.data.toList, ep, bl rs, bl ws⟩
  case neg =>
    rw [show gr ⟨o.data.toList, f.data.toList, ep, bl rs, bl ws⟩ u.data.toList wr = (zero, 1) by unfold gr; rw [if_pos hr]]
    go_enter Try.func13, Try.ntmps13
    go_wp2_with fail
    with_reducible refine (HRR.out _ (HA.out.below (al2 _ _ _) (Nat.le_refl _)) (HBB.out.below (al2 _ _ _) (Nat.le_refl _))).mono ?_
    rw [decide_eq_false hr]
    rintro e w1 ⟨rfl, hb1⟩
    have HT1 := Lib.hid (two_first hb1)
    clear hb1
    obtain ⟨⟨c0, c1, c2, c3, c4, _⟩, ⟨r0, r1, r2, r3, r4, _⟩, ⟨f0, f1, f2, f3, f4⟩, _⟩ := HT1.out
    dsimp only
    go_wp2
    refine bodyPost_ret (v := .tuple #[RV ⟨#[]⟩ ⟨#[]⟩ 0 none 0 0 none 0 0, .int .i64 1]) (by simp [results, Try.results13, go_sem, RV, r0, r1, r2, r3, r4]) rfl ?_
    exact ⟨⟨_, isX_zero _ _, rfl⟩, set5 HT1.out.2.2.2 (Nat.le_succ _)⟩
  cases hnm : nm u.data.toList with
  | false =>
    rw [show gr ⟨o.data.toList, f.data.toList, ep, bl rs, bl ws⟩ u.data.toList wr = (zero, 3) by unfold gr; rw [if_neg (by simpa using hr), if_pos (by rw [hnm]; decide)]]
    go_enter Try.func13, Try.ntmps13
    go_wp2_with fail
    with_reducible refine (HRR.out _ (HA.out.below (al2 _ _ _) (Nat.le_refl _)) (HBB.out.below (al2 _ _ _) (Nat.le_refl _))).mono ?_
    rw [decide_eq_true hr]
    rintro e w1 ⟨rfl, hb1⟩
    have HT1 := Lib.hid (two_first hb1)
    clear hb1
    obtain ⟨⟨c0, c1, c2, c3, c4, _⟩, ⟨r0, r1, r2, r3, r4, _⟩, ⟨f0, f1, f2, f3, f4⟩, _⟩ := HT1.out
    dsimp only
    go_wp2_with fail
    with_reducible refine (HU.out false hnm _).mono ?_
    rintro e w2 ⟨rfl, hb2⟩
    have HT2 := Lib.hid (HT1.out.more hb2)
    clear hb2 c0 c1 c2 c3 c4 r0 r1 r2 r3 r4 f0 f1 f2 f3 f4
    obtain ⟨⟨c0, c1, c2, c3, c4, _⟩, ⟨r0, r1, r2, r3, r4, _⟩, ⟨f0, f1, f2, f3, f4⟩, _⟩ := HT2.out
    dsimp only
    go_wp2
    refine bodyPost_ret (v := .tuple #[RV ⟨#[]⟩ ⟨#[]⟩ 0 none 0 0 none 0 0, .int .i64 3]) (by simp [results, Try.results13, go_sem, RV, r0, r1, r2, r3, r4]) rfl ?_
    exact ⟨⟨_, isX_zero _ _, rfl⟩, set5 HT2.out.2.2.2 (Nat.le_succ _)⟩
  | true =>
    rcases gr_cases ⟨o.data.toList, f.data.toList, ep, bl rs, bl ws⟩ u.data.toList wr hr hnm with ⟨e, h1⟩ | ⟨e, h1, h2⟩ | ⟨h1, h2, e, _⟩
    · rw [e]
      simp only at h1
      by_cases hown : u.data.toList = o.data.toList
      · have q := s_eq hown
        go_enter Try.func13, Try.ntmps13
        go_wp2_with fail
        with_reducible refine (HRR.out _ (HA.out.below (al2 _ _ _) (Nat.le_refl _)) (HBB.out.below (al2 _ _ _) (Nat.le_refl _))).mono ?_
        rw [decide_eq_true hr]
        rintro e w1 ⟨rfl, hb1⟩
        have HT1 := Lib.hid (two_first hb1)
        clear hb1
        obtain ⟨⟨c0, c1, c2, c3, c4, _⟩, ⟨r0, r1, r2, r3, r4, _⟩, ⟨f0, f1, f2, f3, f4⟩, _⟩ := HT1.out
        dsimp only
        go_wp2_with fail
        with_reducible refine (HU.out true hnm _).mono ?_
        rintro e w2 ⟨rfl, hb2⟩
        have HT2 := Lib.hid (HT1.out.more hb2)
        clear hb2 c0 c1 c2 c3 c4 r0 r1 r2 r3 r4 f0 f1 f2 f3 f4
        obtain ⟨⟨c0, c1, c2, c3, c4, _⟩, ⟨r0, r1, r2, r3, r4, _⟩, ⟨f0, f1, f2, f3, f4⟩, _⟩ := HT2.out
        dsimp only
        go_wp2
        refine bodyPost_ret (v := .tuple #[RV ⟨#[]⟩ ⟨#[]⟩ 0 none 0 0 none 0 0, .int .i64 5]) (by simp [results, Try.results13, go_sem, RV, r0, r1, r2, r3, r4]) rfl ?_
        exact ⟨⟨_, isX_zero _ _, rfl⟩, set5 HT2.out.2.2.2 (Nat.le_succ _)⟩
      have q := s_ne hown
      by_cases hin : u.data.toList ∈ bl rs
      · rw [decide_eq_true hin] at HH1
        go_enter Try.func13, Try.ntmps13
        go_wp2_with fail
        with_reducible refine (HRR.out _ (HA.out.below (al2 _ _ _) (Nat.le_refl _)) (HBB.out.below (al2 _ _ _) (Nat.le_refl _))).mono ?_
        rw [decide_eq_true hr]
        rintro e w1 ⟨rfl, hb1⟩
        have HT1 := Lib.hid (two_first hb1)
        clear hb1
        obtain ⟨⟨c0, c1, c2, c3, c4, _⟩, ⟨r0, r1, r2, r3, r4, _⟩, ⟨f0, f1, f2, f3, f4⟩, _⟩ := HT1.out
        dsimp only
        go_wp2_with fail
        with_reducible refine (HU.out true hnm _).mono ?_
        rintro e w2 ⟨rfl, hb2⟩
        have HT2 := Lib.hid (HT1.out.more hb2)
        clear hb2 c0 c1 c2 c3 c4 r0 r1 r2 r3 r4 f0 f1 f2 f3 f4
        obtain ⟨⟨c0, c1, c2, c3, c4, _⟩, ⟨r0, r1, r2, r3, r4, _⟩, ⟨f0, f1, f2, f3, f4⟩, _⟩ := HT2.out
        dsimp only
        go_wp2_with fail
        with_reducible refine (HH1.out _ (HA.out.below HT2.out.bel (Nat.le_refl _))).mono ?_
        rintro e w9 ⟨rfl, h9⟩
        obtain rfl : w2 = w9 := h9.symm
        dsimp only
        go_wp2
        refine bodyPost_ret (v := .tuple #[RV ⟨#[]⟩ ⟨#[]⟩ 0 none 0 0 none 0 0, .int .i64 5]) (by simp [results, Try.results13, go_sem, RV, r0, r1, r2, r3, r4]) rfl ?_
        exact ⟨⟨_, isX_zero _ _, rfl⟩, set5 HT2.out.2.2.2 (Nat.le_succ _)⟩
      · rw [decide_eq_false hin] at HH1
        rw [decide_eq_true ((h1.resolve_left hown).resolve_left hin)] at HH2
        go_enter Try.func13, Try.ntmps13
        go_wp2_with fail
        with_reducible refine (HRR.out _ (HA.out.below (al2 _ _ _) (Nat.le_refl _)) (HBB.out.below (al2 _ _ _) (Nat.le_refl _))).mono ?_
        rw [decide_eq_true hr]
        rintro e w1 ⟨rfl, hb1⟩
        have HT1 := Lib.hid (two_first hb1)
        clear hb1
        obtain ⟨⟨c0, c1, c2, c3, c4, _⟩, ⟨r0, r1, r2, r3, r4, _⟩, ⟨f0, f1, f2, f3, f4⟩, _⟩ := HT1.out
        dsimp only
        go_wp2_with fail
        with_reducible refine (HU.out true hnm _).mono ?_
        rintro e w2 ⟨rfl, hb2⟩
        have HT2 := Lib.hid (HT1.out.more hb2)
        clear hb2 c0 c1 c2 c3 c4 r0 r1 r2 r3 r4 f0 f1 f2 f3 f4
        obtain ⟨⟨c0, c1, c2, c3, c4, _⟩, ⟨r0, r1, r2, r3, r4, _⟩, ⟨f0, f1, f2, f3, f4⟩, _⟩ := HT2.out
        dsimp only
        go_wp2_with fail
        with_reducible refine (HH1.out _ (HA.out.below HT2.out.bel (Nat.le_refl _))).mono ?_
        rintro e w9 ⟨rfl, h9⟩
        obtain rfl : w2 = w9 := h9.symm
        dsimp only
        go_wp2_with fail
        with_reducible refine (HH2.out _ (HBB.out.below HT2.out.bel (Nat.le_refl _))).mono ?_
        rintro e w9 ⟨rfl, h9⟩
        obtain rfl : w2 = w9 := h9.symm
        dsimp only
        go_wp2
        refine bodyPost_ret (v := .tuple #[RV ⟨#[]⟩ ⟨#[]⟩ 0 none 0 0 none 0 0, .int .i64 5]) (by simp [results, Try.results13, go_sem, RV, r0, r1, r2, r3, r4]) rfl ?_
        exact ⟨⟨_, isX_zero _ _, rfl⟩, set5 HT2.out.2.2.2 (Nat.le_succ _)⟩
    · rw [e]
      simp only [bl_len] at h1 h2
      have q := s_ne fun h => h1 (.inl h)
      rw [decide_eq_false fun h => h1 (.inr (.inl h))] at HH1
      rw [decide_eq_false fun h => h1 (.inr (.inr h))] at HH2
      go_enter Try.func13, Try.ntmps13
      go_wp2_with fail
      with_reducible refine (HRR.out _ (HA.out.below (al2 _ _ _) (Nat.le_refl _)) (HBB.out.below (al2 _ _ _) (Nat.le_refl _))).mono ?_
      rw [decide_eq_true hr]
      rintro e w1 ⟨rfl, hb1⟩
      have HT1 := Lib.hid (two_first hb1)
      clear hb1
      obtain ⟨⟨c0, c1, c2, c3, c4, _⟩, ⟨r0, r1, r2, r3, r4, _⟩, ⟨f0, f1, f2, f3, f4⟩, _⟩ := HT1.out
      dsimp only
      go_wp2_with fail
      with_reducible refine (HU.out true hnm _).mono ?_
      rintro e w2 ⟨rfl, hb2⟩
      have HT2 := Lib.hid (HT1.out.more hb2)
      clear hb2 c0 c1 c2 c3 c4 r0 r1 r2 r3 r4 f0 f1 f2 f3 f4
      obtain ⟨⟨c0, c1, c2, c3, c4, _⟩, ⟨r0, r1, r2, r3, r4, _⟩, ⟨f0, f1, f2, f3, f4⟩, _⟩ := HT2.out
      dsimp only
      go_wp2_with fail
      with_reducible refine (HH1.out _ (HA.out.below HT2.out.bel (Nat.le_refl _))).mono ?_
      rintro e w9 ⟨rfl, h9⟩
      obtain rfl : w2 = w9 := h9.symm
      dsimp only
      go_wp2_with fail
      with_reducible refine (HH2.out _ (HBB.out.below HT2.out.bel (Nat.le_refl _))).mono ?_
      rintro e w9 ⟨rfl, h9⟩
      obtain rfl : w2 = w9 := h9.symm
      dsimp only
      go_wp2
      refine bodyPost_ret (v := .tuple #[RV ⟨#[]⟩ ⟨#[]⟩ 0 none 0 0 none 0 0, .int .i64 10]) (by simp [results, Try.results13, go_sem, RV, r0, r1, r2, r3, r4]) rfl ?_
      exact ⟨⟨_, isX_zero _ _, rfl⟩, set5 HT2.out.2.2.2 (Nat.le_succ _)⟩
    · simp only [bl_len] at h1 h2
      have q := s_ne fun h => h1 (.inl h)
      rw [decide_eq_false fun h => h1 (.inr (.inl h))] at HH1
      rw [decide_eq_false fun h => h1 (.inr (.inr h))] at HH2
      have HW1 : Hid (∀ w, SReads w A rs → Calls Try.prog 37 #[.slice A rs.length c, .string ⟨#[]⟩] w fun e w' => Lst w.heap.size (bl rs) e w' ∧ Below w.heap.size w w') := fun w h => by
        have h2 := rwithout_any A c rs ⟨#[]⟩ w h (by omega)
        rw [show (ByteArray.mk #[]).data.toList = ([] : Tm) from rfl, del_not (fun hm => by have := hr.2.2.2.2.1.1 _ hm; exact absurd this.1 (by decide))] at h2
        exact h2
      have HW2 : Hid (∀ w, SReads w B ws → Calls Try.prog 37 #[.slice B ws.length d, .string ⟨#[]⟩] w fun e w' => Lst w.heap.size (bl ws) e w' ∧ Below w.heap.size w w') := fun w h => by
        have h2 := rwithout_any B d ws ⟨#[]⟩ w h (by omega)
        rw [show (ByteArray.mk #[]).data.toList = ([] : Tm) from rfl, del_not (fun hm => by have := hr.2.2.2.2.2.1.1 _ hm; exact absurd this.1 (by decide))] at h2
        exact h2
      rcases e with ⟨rfl, e⟩ | ⟨rfl, e⟩
      · rw [e]
        go_enter Try.func13, Try.ntmps13
        go_wp2_with fail
        with_reducible refine (HRR.out _ (HA.out.below (al2 _ _ _) (Nat.le_refl _)) (HBB.out.below (al2 _ _ _) (Nat.le_refl _))).mono ?_
        rw [decide_eq_true hr]
        rintro e w1 ⟨rfl, hb1⟩
        have HT1 := Lib.hid (two_first hb1)
        clear hb1
        obtain ⟨⟨c0, c1, c2, c3, c4, _⟩, ⟨r0, r1, r2, r3, r4, _⟩, ⟨f0, f1, f2, f3, f4⟩, _⟩ := HT1.out
        dsimp only
        go_wp2_with fail
        with_reducible refine (HU.out true hnm _).mono ?_
        rintro e w2 ⟨rfl, hb2⟩
        have HT2 := Lib.hid (HT1.out.more hb2)
        clear hb2 c0 c1 c2 c3 c4 r0 r1 r2 r3 r4 f0 f1 f2 f3 f4
        obtain ⟨⟨c0, c1, c2, c3, c4, _⟩, ⟨r0, r1, r2, r3, r4, _⟩, ⟨f0, f1, f2, f3, f4⟩, _⟩ := HT2.out
        dsimp only
        go_wp2_with fail
        with_reducible refine (HH1.out _ (HA.out.below HT2.out.bel (Nat.le_refl _))).mono ?_
        rintro e w9 ⟨rfl, h9⟩
        obtain rfl : w2 = w9 := h9.symm
        dsimp only
        go_wp2_with fail
        with_reducible refine (HH2.out _ (HBB.out.below HT2.out.bel (Nat.le_refl _))).mono ?_
        rintro e w9 ⟨rfl, h9⟩
        obtain rfl : w2 = w9 := h9.symm
        dsimp only
        go_wp2_with fail
        have hT0 : Two w w2.drew o f ep A rs.length c B ws.length d := HT2.out.more (Below.drewN' (Below.refl w2.heap.size w2) 1)
        refine wp_region_held_drew (S := fun w' => Bx w.heap.size w' o f ep A rs.length c B ws.length d) (by kernel_rfl) hT0.1 (fun hHeld => ?_)
        clear c0 c1 c2 c3 c4 r0 r1 r2 r3 r4 f0 f1 f2 f3 f4
        generalize w2.drew = wd at hT0 hHeld ⊢
        refine wpAnyH_take (i := 0) (v := ?_) (by rw [List.getElem?_toArray]; rfl) (by kernel_rfl) (by kernel_rfl) (by kernel_rfl) (by exact fun _ _ _ h => h) (Or.inl ⟨by rfl, ?_⟩) (by assumption) ?_
        rotate_left
        · intro w' hSw
          obtain ⟨c0, c1, c2, c3, c4, _⟩ := hSw
          go_simp
          try with_reducible rfl
        try simp only [Act.put, List.setIfInBounds_toArray, List.set_cons_zero, List.set_cons_succ]
        refine wpAnyH_take (i := 1) (v := ?_) (by rw [List.getElem?_toArray]; rfl) (by kernel_rfl) (by kernel_rfl) (by kernel_rfl) (by exact fun _ _ _ h => h) (Or.inl ⟨by rfl, ?_⟩) (by assumption) ?_
        rotate_left
        · intro w' hSw
          obtain ⟨c0, c1, c2, c3, c4, _⟩ := hSw
          go_simp
          try with_reducible rfl
        try simp only [Act.put, List.setIfInBounds_toArray, List.set_cons_zero, List.set_cons_succ]
        refine wpAnyH_take (i := 2) (v := ?_) (by rw [List.getElem?_toArray]; rfl) (by kernel_rfl) (by kernel_rfl) (by kernel_rfl) (by exact fun _ _ _ h => h) (Or.inl ⟨by rfl, ?_⟩) (by assumption) ?_
        rotate_left
        · intro w' hSw
          obtain ⟨c0, c1, c2, c3, c4, _⟩ := hSw
          go_simp
          try with_reducible rfl
        try simp only [Act.put, List.setIfInBounds_toArray, List.set_cons_zero, List.set_cons_succ]
        refine wpAnyH_take (i := 3) (v := ?_) (by rw [List.getElem?_toArray]; rfl) (by kernel_rfl) (by kernel_rfl) (by kernel_rfl) (by exact fun _ _ _ h => h) (Or.inl ⟨by rfl, ?_⟩) (by assumption) ?_
        rotate_left
        · intro w' hSw
          obtain ⟨c0, c1, c2, c3, c4, _⟩ := hSw
          go_simp
          try with_reducible rfl
        try simp only [Act.put, List.setIfInBounds_toArray, List.set_cons_zero, List.set_cons_succ]
        refine wpAnyH_take (i := 4) (v := ?_) (by rw [List.getElem?_toArray]; rfl) (by kernel_rfl) (by kernel_rfl) (by kernel_rfl) (by exact fun _ _ _ h => h) (Or.inl ⟨by rfl, ?_⟩) (by assumption) ?_
        rotate_left
        · intro w' hSw
          obtain ⟨c0, c1, c2, c3, c4, _⟩ := hSw
          go_simp
          try with_reducible rfl
        try simp only [Act.put, List.setIfInBounds_toArray, List.set_cons_zero, List.set_cons_succ]
        refine wpAnyH_take (i := 5) (v := ?_) (by rw [List.getElem?_toArray]; rfl) (by kernel_rfl) (by kernel_rfl) (by kernel_rfl) (by exact fun _ _ _ h => h) (Or.inl ⟨by rfl, ?_⟩) (by assumption) ?_
        rotate_left
        · intro w' hSw
          obtain ⟨c0, c1, c2, c3, c4, _⟩ := hSw
          go_simp
          try with_reducible rfl
        try simp only [Act.put, List.setIfInBounds_toArray, List.set_cons_zero, List.set_cons_succ]
        refine wpAnyH_take (i := 6) (v := ?_) (by rw [List.getElem?_toArray]; rfl) (by kernel_rfl) (by kernel_rfl) (by kernel_rfl) (by exact fun _ _ _ h => h) (Or.inl ⟨by rfl, ?_⟩) (by assumption) ?_
        rotate_left
        · intro w' hSw
          obtain ⟨c0, c1, c2, c3, c4, _⟩ := hSw
          go_simp
          try with_reducible rfl
        try simp only [Act.put, List.setIfInBounds_toArray, List.set_cons_zero, List.set_cons_succ]
        refine wpAnyH_take (i := 7) (v := ?_) (by rw [List.getElem?_toArray]; rfl) (by kernel_rfl) (by kernel_rfl) (by kernel_rfl) (by exact fun _ _ _ h => h) (Or.inl ⟨by rfl, ?_⟩) (by assumption) ?_
        rotate_left
        · intro w' hSw
          obtain ⟨c0, c1, c2, c3, c4, _⟩ := hSw
          go_simp
          try with_reducible rfl
        try simp only [Act.put, List.setIfInBounds_toArray, List.set_cons_zero, List.set_cons_succ]
        refine wpAnyH_take (i := 9) (v := ?_) (by rw [List.getElem?_toArray]; rfl) (by kernel_rfl) (by kernel_rfl) (by kernel_rfl) (by exact fun _ _ _ h => h) (Or.inl ⟨by rfl, ?_⟩) (by assumption) ?_
        rotate_left
        · intro w' hSw
          obtain ⟨c0, c1, c2, c3, c4, _⟩ := hSw
          go_simp
          try with_reducible rfl
        try simp only [Act.put, List.setIfInBounds_toArray, List.set_cons_zero, List.set_cons_succ]
        refine wpAnyH_take (i := 10) (v := ?_) (by rw [List.getElem?_toArray]; rfl) (by kernel_rfl) (by kernel_rfl) (by kernel_rfl) (by exact fun _ _ _ h => h) (Or.inl ⟨by rfl, ?_⟩) (by assumption) ?_
        rotate_left
        · intro w' hSw
          obtain ⟨c0, c1, c2, c3, c4, _⟩ := hSw
          go_simp
          try with_reducible rfl
        try simp only [Act.put, List.setIfInBounds_toArray, List.set_cons_zero, List.set_cons_succ]
        clear hHeld
        refine wpAnyH_ready (rs := [8, 13]) (by kernel_rfl) (by simp) ?_
        refine AllReadyH.cons (by rw [List.getElem?_toArray]; rfl) (fun K hK => ?_) (AllReadyH.cons (by rw [List.getElem?_toArray]; rfl) (fun K hK => ?_) AllReadyH.nil)
        · go_simp
          go_at_call 37
          with_reducible refine (HW1.out _ (HA.out.below hT0.bel (Nat.le_refl _))).mono ?_
          rintro e w3 ⟨⟨A1, c1', y1, hy1, hc1, hs1, hf1, rfl⟩, hb3⟩
          have hT3 := hT0.more hb3
          dsimp only
          have nR1 : ∀ b off, A1 = some ⟨b, off, none⟩ → 0 < y1.length → b ≠ w.heap.size + 1 := fun b off h _ e => by
            have h1 := hf1 b off h
            have h2 := hT0.2.1.2.2.2.2.2
            omega
          have q1 : ∀ b off, A1 = some ⟨b, off, none⟩ → 0 < y1.length → w.heap.size ≤ b := fun b off h _ => by
            have h1 := hf1 b off h
            have h2 := hT0.2.1.2.2.2.2.2
            omega
          refine hK.out _ _ hT3.1 (fun hHeld => ?_)
          try simp only [Act.put, List.setIfInBounds_toArray, List.set_cons_zero, List.set_cons_succ]
          clear hHeld
          refine wpAnyH_ready (rs := [11, 13]) (by kernel_rfl) (by simp) ?_
          refine AllReadyH.cons (by rw [List.getElem?_toArray]; rfl) (fun K hK => ?_) (AllReadyH.cons (by rw [List.getElem?_toArray]; rfl) (fun K hK => ?_) AllReadyH.nil)
          · go_simp
            go_at_call 37
            with_reducible refine (HW2.out _ (HBB.out.below hT3.bel (Nat.le_refl _))).mono ?_
            rintro e w4 ⟨⟨A2, c2', y2, hy2, hc2, hs2, hf2, rfl⟩, hb4⟩
            have hT4 := hT3.more hb4
            dsimp only
            have nR2 : ∀ b off, A2 = some ⟨b, off, none⟩ → 0 < y2.length → b ≠ w.heap.size + 1 := fun b off h _ e => by
              have h1 := hf2 b off h
              have h2 := hT3.2.1.2.2.2.2.2
              omega
            have q2 : ∀ b off, A2 = some ⟨b, off, none⟩ → 0 < y2.length → w.heap.size ≤ b := fun b off h _ => by
              have h1 := hf2 b off h
              have h2 := hT3.2.1.2.2.2.2.2
              omega
            have hs1 := hs1.below hb4 (Nat.le_refl _)
            refine hK.out _ _ hT4.1 (fun hHeld => ?_)
            try simp only [Act.put, List.setIfInBounds_toArray, List.set_cons_zero, List.set_cons_succ]
            clear hHeld
            have hHeld : Bx w.heap.size w4 o f ep A rs.length c B ws.length d := hT4.1
            refine wpAnyH_take (i := 12) (v := ?_) (by rw [List.getElem?_toArray]; rfl) (by kernel_rfl) (by kernel_rfl) (by kernel_rfl) (by exact fun _ _ _ h => h) (Or.inl ⟨by rfl, ?_⟩) (by assumption) ?_
            rotate_left
            · intro w' hSw
              obtain ⟨c0, c1, c2, c3, c4, _⟩ := hSw
              go_simp
              try with_reducible rfl
            try simp only [Act.put, List.setIfInBounds_toArray, List.set_cons_zero, List.set_cons_succ]
            clear hHeld
            refine wpAnyH_ready (rs := [13]) (by kernel_rfl) (by simp) ?_
            refine AllReadyH.cons (by rw [List.getElem?_toArray]; rfl) (fun K hK => ?_) AllReadyH.nil
            go_simp
            obtain ⟨G, hG⟩ : ∃ G, w4.heap.size = G := ⟨_, rfl⟩
            have hXx : Bx G (w4.alloc (.cells #[.string ⟨#[]⟩, .string ⟨#[]⟩, .int .i64 0, .slice none 0 0, .slice none 0 0] 24)) ⟨#[]⟩ ⟨#[]⟩ 0 none 0 0 none 0 0 := by rw [← hG]; exact bx_alloc w4 _ _ _ _ _ _ _ _ _ _
            have hSx : Sf G (w4.alloc (.cells #[.string ⟨#[]⟩, .string ⟨#[]⟩, .int .i64 0, .slice none 0 0, .slice none 0 0] 24)) := by rw [← hG]; exact sf_alloc w4 _ _
            have hba := al w4 (.cells #[.string ⟨#[]⟩, .string ⟨#[]⟩, .int .i64 0, .slice none 0 0, .slice none 0 0] 24)
            have hGR : w.heap.size + 1 < G := by rw [← hG]; exact hT4.2.1.2.2.2.2.2
            have nG1 : ∀ b off, A1 = some ⟨b, off, none⟩ → 0 < y1.length → b ≠ G := fun b off h h0 e => by
              obtain ⟨b2, off2, e2, hlt2, _⟩ := hs1 0 h0
              rw [h] at e2
              injection e2 with e2
              injection e2 with e3 _ _
              omega
            have nG2 : ∀ b off, A2 = some ⟨b, off, none⟩ → 0 < y2.length → b ≠ G := fun b off h h0 e => by
              obtain ⟨b2, off2, e2, hlt2, _⟩ := hs2 0 h0
              rw [h] at e2
              injection e2 with e2
              injection e2 with e3 _ _
              omega
            have hTx := hT4.more hba
            have hs1 := hs1.below hba (Nat.le_refl _)
            have hs2 := hs2.below hba (Nat.le_refl _)
            generalize w4.alloc (.cells #[.string ⟨#[]⟩, .string ⟨#[]⟩, .int .i64 0, .slice none 0 0, .slice none 0 0] 24) = wx at *
            try rw [hG]
            refine hK.out _ _ hTx.1 (fun hHeld => ?_)
            try simp only [Act.put, List.setIfInBounds_toArray, List.set_cons_zero, List.set_cons_succ]
            clear hHeld
            obtain ⟨x0, x1, x2, x3, x4, _⟩ := id hXx
            obtain ⟨g0, g1, g2, g3, g4⟩ := id hSx
            refine wpAnyH_ready (rs := [14]) (by kernel_rfl) (by simp) ?_
            refine AllReadyH.cons (by rw [List.getElem?_toArray]; rfl) (fun K hK => ?_) AllReadyH.nil
            go_simp
            refine hK.out _ _ (hTx.1.below (bel_set5 wx) (Nat.lt_trans (Nat.lt_succ_self _) hGR)) (fun hHeld => ?_)
            try simp only [Act.put, List.setIfInBounds_toArray, List.set_cons_zero, List.set_cons_succ]
            clear hHeld x0 x1 x2 x3 x4 g0 g1 g2 g3 g4
            have hXS := bx_set5 (o := o) (f := f) (ep := ep) (A := A1) (n := y1.length) (c := c1') (B := A2) (m := y2.length) (d := c2') hXx
            have hSS : Sf G (((((wx.setCell ⟨G, 0, none⟩ (.string o)).setCell ⟨G, 1, none⟩ (.string f)).setCell ⟨G, 2, none⟩ (.int .i64 ep)).setCell ⟨G, 3, none⟩ (.slice A1 y1.length c1')).setCell ⟨G, 4, none⟩ (.slice A2 y2.length c2')) := sf_set5 hSx
            have hTS : Two w (((((wx.setCell ⟨G, 0, none⟩ (.string o)).setCell ⟨G, 1, none⟩ (.string f)).setCell ⟨G, 2, none⟩ (.int .i64 ep)).setCell ⟨G, 3, none⟩ (.slice A1 y1.length c1')).setCell ⟨G, 4, none⟩ (.slice A2 y2.length c2')) o f ep A rs.length c B ws.length d := two_set5 hTx hGR
            have s1 : SReads (((((wx.setCell ⟨G, 0, none⟩ (.string o)).setCell ⟨G, 1, none⟩ (.string f)).setCell ⟨G, 2, none⟩ (.int .i64 ep)).setCell ⟨G, 3, none⟩ (.slice A1 y1.length c1')).setCell ⟨G, 4, none⟩ (.slice A2 y2.length c2')) A1 y1 := sreads_setL5 hs1 nG1
            have s2 : SReads (((((wx.setCell ⟨G, 0, none⟩ (.string o)).setCell ⟨G, 1, none⟩ (.string f)).setCell ⟨G, 2, none⟩ (.int .i64 ep)).setCell ⟨G, 3, none⟩ (.slice A1 y1.length c1')).setCell ⟨G, 4, none⟩ (.slice A2 y2.length c2')) A2 y2 := sreads_setL5 hs2 nG2
            generalize (((((wx.setCell ⟨G, 0, none⟩ (.string o)).setCell ⟨G, 1, none⟩ (.string f)).setCell ⟨G, 2, none⟩ (.int .i64 ep)).setCell ⟨G, 3, none⟩ (.slice A1 y1.length c1')).setCell ⟨G, 4, none⟩ (.slice A2 y2.length c2')) = wS at *
            refine wpAnyH_done (by kernel_rfl) ?_ _
            have hl3 : y1.length ≤ 40 := by have := congrArg List.length hy1; rw [bl_len, bl_len] at this; omega
            have hl4 : y2.length ≤ 40 := by have := congrArg List.length hy2; rw [bl_len, bl_len] at this; omega
            obtain ⟨x0, x1, x2, x3, x4, _⟩ := id hXS
            go_wp2_with fail
            with_reducible refine (rwith_any A2 c2' y2 u _ s2 (by omega) hu).mono ?_
            rintro e w7 ⟨⟨A3, c3', y3, hy3, hc3, hs3, hf3, rfl⟩, hb7⟩
            clear x0 x1 x2 x3 x4
            have hT7 := hTS.more hb7
            obtain ⟨x0, x1, x2, x3, x4, hG7⟩ := hXS.below hb7 hXS.2.2.2.2.2
            obtain ⟨g0, g1, g2, g3, g4⟩ := hSS.below hb7 hXS.2.2.2.2.2
            obtain ⟨_, ⟨r0, r1, r2, r3, r4, hR7⟩, ⟨f0, f1, f2, f3, f4⟩, hbw⟩ := id hT7
            have hne : ¬ G = w.heap.size + 1 := by omega
            have hne' : ¬ w.heap.size + 1 = G := by omega
            have nR3 : ∀ b off, A3 = some ⟨b, off, none⟩ → 0 < y3.length → b ≠ w.heap.size + 1 := fun b off h _ e => by
              have h1 := hf3 b off h
              have h2 := hTS.2.1.2.2.2.2.2
              omega
            have q3 : ∀ b off, A3 = some ⟨b, off, none⟩ → 0 < y3.length → w.heap.size ≤ b := fun b off h _ => by
              have h1 := hf3 b off h
              have h2 := hTS.2.1.2.2.2.2.2
              omega
            have nG3 : ∀ b off, A3 = some ⟨b, off, none⟩ → 0 < y3.length → b ≠ G := fun b off h _ e => by
              have h1 := hf3 b off h
              have h2 := hXS.2.2.2.2.2
              omega
            dsimp only
            go_wp2
            refine bodyPost_ret (v := .tuple #[RV o f ep A1 y1.length c1' A3 y3.length c3', .int .i64 0]) (by simp [results, Try.results13, go_sem, RV, r0, r1, r2, r3, r4, x0, x1, x2, x3, x4, hne, hne']) rfl ?_
            exact ⟨⟨_, ⟨o, f, A1, c1', y1, A3, c3', y3, rfl, by simp only [hy1, hy3, hy2], sreads_setL5 (sreads_setL (s1.below hb7 (Nat.le_refl _)) nG1) nR1, sreads_setL5 (sreads_setL hs3 nG3) nR3, hc1, hc3, q1, q3⟩, rfl⟩, set5 (hbw.setCell (p := ⟨G, _, none⟩) (show w.heap.size ≤ G by omega) _) (Nat.le_succ _)⟩
          · go_simp
            obtain ⟨G, hG⟩ : ∃ G, w3.heap.size = G := ⟨_, rfl⟩
            have hXx : Bx G (w3.alloc (.cells #[.string ⟨#[]⟩, .string ⟨#[]⟩, .int .i64 0, .slice none 0 0, .slice none 0 0] 24)) ⟨#[]⟩ ⟨#[]⟩ 0 none 0 0 none 0 0 := by rw [← hG]; exact bx_alloc w3 _ _ _ _ _ _ _ _ _ _
            have hSx : Sf G (w3.alloc (.cells #[.string ⟨#[]⟩, .string ⟨#[]⟩, .int .i64 0, .slice none 0 0, .slice none 0 0] 24)) := by rw [← hG]; exact sf_alloc w3 _ _
            have hba := al w3 (.cells #[.string ⟨#[]⟩, .string ⟨#[]⟩, .int .i64 0, .slice none 0 0, .slice none 0 0] 24)
            have hGR : w.heap.size + 1 < G := by rw [← hG]; exact hT3.2.1.2.2.2.2.2
            have nG1 : ∀ b off, A1 = some ⟨b, off, none⟩ → 0 < y1.length → b ≠ G := fun b off h h0 e => by
              obtain ⟨b2, off2, e2, hlt2, _⟩ := hs1 0 h0
              rw [h] at e2
              injection e2 with e2
              injection e2 with e3 _ _
              omega
            have hTx := hT3.more hba
            have hs1 := hs1.below hba (Nat.le_refl _)
            generalize w3.alloc (.cells #[.string ⟨#[]⟩, .string ⟨#[]⟩, .int .i64 0, .slice none 0 0, .slice none 0 0] 24) = wx at *
            try rw [hG]
            refine hK.out _ _ hTx.1 (fun hHeld => ?_)
            try simp only [Act.put, List.setIfInBounds_toArray, List.set_cons_zero, List.set_cons_succ]
            clear hHeld
            refine wpAnyH_ready (rs := [11]) (by kernel_rfl) (by simp) ?_
            refine AllReadyH.cons (by rw [List.getElem?_toArray]; rfl) (fun K hK => ?_) AllReadyH.nil
            go_simp
            go_at_call 37
            with_reducible refine (HW2.out _ (HBB.out.below hTx.bel (Nat.le_refl _))).mono ?_
            rintro e w4 ⟨⟨A2, c2', y2, hy2, hc2, hs2, hf2, rfl⟩, hb4⟩
            have hT4 := hTx.more hb4
            have hX4 := hXx.below hb4 hXx.2.2.2.2.2
            have hS4 := hSx.below hb4 hXx.2.2.2.2.2
            dsimp only
            have nR2 : ∀ b off, A2 = some ⟨b, off, none⟩ → 0 < y2.length → b ≠ w.heap.size + 1 := fun b off h _ e => by
              have h1 := hf2 b off h
              have h2 := hTx.2.1.2.2.2.2.2
              omega
            have q2 : ∀ b off, A2 = some ⟨b, off, none⟩ → 0 < y2.length → w.heap.size ≤ b := fun b off h _ => by
              have h1 := hf2 b off h
              have h2 := hTx.2.1.2.2.2.2.2
              omega
            have nG2 : ∀ b off, A2 = some ⟨b, off, none⟩ → 0 < y2.length → b ≠ G := fun b off h _ e => by
              have h1 := hf2 b off h
              have h2 := hXx.2.2.2.2.2
              omega
            have hs1 := hs1.below hb4 (Nat.le_refl _)
            refine hK.out _ _ hT4.1 (fun hHeld => ?_)
            try simp only [Act.put, List.setIfInBounds_toArray, List.set_cons_zero, List.set_cons_succ]
            clear hHeld
            have hHeld : Bx w.heap.size w4 o f ep A rs.length c B ws.length d := hT4.1
            refine wpAnyH_take (i := 12) (v := ?_) (by rw [List.getElem?_toArray]; rfl) (by kernel_rfl) (by kernel_rfl) (by kernel_rfl) (by exact fun _ _ _ h => h) (Or.inl ⟨by rfl, ?_⟩) (by assumption) ?_
            rotate_left
            · intro w' hSw
              obtain ⟨c0, c1, c2, c3, c4, _⟩ := hSw
              go_simp
              try with_reducible rfl
            try simp only [Act.put, List.setIfInBounds_toArray, List.set_cons_zero, List.set_cons_succ]
            clear hHeld
            obtain ⟨x0, x1, x2, x3, x4, _⟩ := id hX4
            obtain ⟨g0, g1, g2, g3, g4⟩ := id hS4
            refine wpAnyH_ready (rs := [14]) (by kernel_rfl) (by simp) ?_
            refine AllReadyH.cons (by rw [List.getElem?_toArray]; rfl) (fun K hK => ?_) AllReadyH.nil
            go_simp
            refine hK.out _ _ (hT4.1.below (bel_set5 w4) (Nat.lt_trans (Nat.lt_succ_self _) hGR)) (fun hHeld => ?_)
            try simp only [Act.put, List.setIfInBounds_toArray, List.set_cons_zero, List.set_cons_succ]
            clear hHeld x0 x1 x2 x3 x4 g0 g1 g2 g3 g4
            have hXS := bx_set5 (o := o) (f := f) (ep := ep) (A := A1) (n := y1.length) (c := c1') (B := A2) (m := y2.length) (d := c2') hX4
            have hSS : Sf G (((((w4.setCell ⟨G, 0, none⟩ (.string o)).setCell ⟨G, 1, none⟩ (.string f)).setCell ⟨G, 2, none⟩ (.int .i64 ep)).setCell ⟨G, 3, none⟩ (.slice A1 y1.length c1')).setCell ⟨G, 4, none⟩ (.slice A2 y2.length c2')) := sf_set5 hS4
            have hTS : Two w (((((w4.setCell ⟨G, 0, none⟩ (.string o)).setCell ⟨G, 1, none⟩ (.string f)).setCell ⟨G, 2, none⟩ (.int .i64 ep)).setCell ⟨G, 3, none⟩ (.slice A1 y1.length c1')).setCell ⟨G, 4, none⟩ (.slice A2 y2.length c2')) o f ep A rs.length c B ws.length d := two_set5 hT4 hGR
            have s1 : SReads (((((w4.setCell ⟨G, 0, none⟩ (.string o)).setCell ⟨G, 1, none⟩ (.string f)).setCell ⟨G, 2, none⟩ (.int .i64 ep)).setCell ⟨G, 3, none⟩ (.slice A1 y1.length c1')).setCell ⟨G, 4, none⟩ (.slice A2 y2.length c2')) A1 y1 := sreads_setL5 hs1 nG1
            have s2 : SReads (((((w4.setCell ⟨G, 0, none⟩ (.string o)).setCell ⟨G, 1, none⟩ (.string f)).setCell ⟨G, 2, none⟩ (.int .i64 ep)).setCell ⟨G, 3, none⟩ (.slice A1 y1.length c1')).setCell ⟨G, 4, none⟩ (.slice A2 y2.length c2')) A2 y2 := sreads_setL5 hs2 nG2
            generalize (((((w4.setCell ⟨G, 0, none⟩ (.string o)).setCell ⟨G, 1, none⟩ (.string f)).setCell ⟨G, 2, none⟩ (.int .i64 ep)).setCell ⟨G, 3, none⟩ (.slice A1 y1.length c1')).setCell ⟨G, 4, none⟩ (.slice A2 y2.length c2')) = wS at *
            refine wpAnyH_done (by kernel_rfl) ?_ _
            have hl3 : y1.length ≤ 40 := by have := congrArg List.length hy1; rw [bl_len, bl_len] at this; omega
            have hl4 : y2.length ≤ 40 := by have := congrArg List.length hy2; rw [bl_len, bl_len] at this; omega
            obtain ⟨x0, x1, x2, x3, x4, _⟩ := id hXS
            go_wp2_with fail
            with_reducible refine (rwith_any A2 c2' y2 u _ s2 (by omega) hu).mono ?_
            rintro e w7 ⟨⟨A3, c3', y3, hy3, hc3, hs3, hf3, rfl⟩, hb7⟩
            clear x0 x1 x2 x3 x4
            have hT7 := hTS.more hb7
            obtain ⟨x0, x1, x2, x3, x4, hG7⟩ := hXS.below hb7 hXS.2.2.2.2.2
            obtain ⟨g0, g1, g2, g3, g4⟩ := hSS.below hb7 hXS.2.2.2.2.2
            obtain ⟨_, ⟨r0, r1, r2, r3, r4, hR7⟩, ⟨f0, f1, f2, f3, f4⟩, hbw⟩ := id hT7
            have hne : ¬ G = w.heap.size + 1 := by omega
            have hne' : ¬ w.heap.size + 1 = G := by omega
            have nR3 : ∀ b off, A3 = some ⟨b, off, none⟩ → 0 < y3.length → b ≠ w.heap.size + 1 := fun b off h _ e => by
              have h1 := hf3 b off h
              have h2 := hTS.2.1.2.2.2.2.2
              omega
            have q3 : ∀ b off, A3 = some ⟨b, off, none⟩ → 0 < y3.length → w.heap.size ≤ b := fun b off h _ => by
              have h1 := hf3 b off h
              have h2 := hTS.2.1.2.2.2.2.2
              omega
            have nG3 : ∀ b off, A3 = some ⟨b, off, none⟩ → 0 < y3.length → b ≠ G := fun b off h _ e => by
              have h1 := hf3 b off h
              have h2 := hXS.2.2.2.2.2
              omega
            dsimp only
            go_wp2
            refine bodyPost_ret (v := .tuple #[RV o f ep A1 y1.length c1' A3 y3.length c3', .int .i64 0]) (by simp [results, Try.results13, go_sem, RV, r0, r1, r2, r3, r4, x0, x1, x2, x3, x4, hne, hne']) rfl ?_
            exact ⟨⟨_, ⟨o, f, A1, c1', y1, A3, c3', y3, rfl, by simp only [hy1, hy3, hy2], sreads_setL5 (sreads_setL (s1.below hb7 (Nat.le_refl _)) nG1) nR1, sreads_setL5 (sreads_setL hs3 nG3) nR3, hc1, hc3, q1, q3⟩, rfl⟩, set5 (hbw.setCell (p := ⟨G, _, none⟩) (show w.heap.size ≤ G by omega) _) (Nat.le_succ _)⟩
        · go_simp
          obtain ⟨G, hG⟩ : ∃ G, wd.heap.size = G := ⟨_, rfl⟩
          have hXx : Bx G (wd.alloc (.cells #[.string ⟨#[]⟩, .string ⟨#[]⟩, .int .i64 0, .slice none 0 0, .slice none 0 0] 24)) ⟨#[]⟩ ⟨#[]⟩ 0 none 0 0 none 0 0 := by rw [← hG]; exact bx_alloc wd _ _ _ _ _ _ _ _ _ _
          have hSx : Sf G (wd.alloc (.cells #[.string ⟨#[]⟩, .string ⟨#[]⟩, .int .i64 0, .slice none 0 0, .slice none 0 0] 24)) := by rw [← hG]; exact sf_alloc wd _ _
          have hba := al wd (.cells #[.string ⟨#[]⟩, .string ⟨#[]⟩, .int .i64 0, .slice none 0 0, .slice none 0 0] 24)
          have hGR : w.heap.size + 1 < G := by rw [← hG]; exact hT0.2.1.2.2.2.2.2
          have hTx := hT0.more hba
          generalize wd.alloc (.cells #[.string ⟨#[]⟩, .string ⟨#[]⟩, .int .i64 0, .slice none 0 0, .slice none 0 0] 24) = wx at *
          try rw [hG]
          refine hK.out _ _ hTx.1 (fun hHeld => ?_)
          try simp only [Act.put, List.setIfInBounds_toArray, List.set_cons_zero, List.set_cons_succ]
          clear hHeld
          refine wpAnyH_ready (rs := [8]) (by kernel_rfl) (by simp) ?_
          refine AllReadyH.cons (by rw [List.getElem?_toArray]; rfl) (fun K hK => ?_) AllReadyH.nil
          go_simp
          go_at_call 37
          with_reducible refine (HW1.out _ (HA.out.below hTx.bel (Nat.le_refl _))).mono ?_
          rintro e w3 ⟨⟨A1, c1', y1, hy1, hc1, hs1, hf1, rfl⟩, hb3⟩
          have hT3 := hTx.more hb3
          have hX3 := hXx.below hb3 hXx.2.2.2.2.2
          have hS3 := hSx.below hb3 hXx.2.2.2.2.2
          dsimp only
          have nR1 : ∀ b off, A1 = some ⟨b, off, none⟩ → 0 < y1.length → b ≠ w.heap.size + 1 := fun b off h _ e => by
            have h1 := hf1 b off h
            have h2 := hTx.2.1.2.2.2.2.2
            omega
          have q1 : ∀ b off, A1 = some ⟨b, off, none⟩ → 0 < y1.length → w.heap.size ≤ b := fun b off h _ => by
            have h1 := hf1 b off h
            have h2 := hTx.2.1.2.2.2.2.2
            omega
          have nG1 : ∀ b off, A1 = some ⟨b, off, none⟩ → 0 < y1.length → b ≠ G := fun b off h _ e => by
            have h1 := hf1 b off h
            have h2 := hXx.2.2.2.2.2
            omega
          refine hK.out _ _ hT3.1 (fun hHeld => ?_)
          try simp only [Act.put, List.setIfInBounds_toArray, List.set_cons_zero, List.set_cons_succ]
          clear hHeld
          refine wpAnyH_ready (rs := [11]) (by kernel_rfl) (by simp) ?_
          refine AllReadyH.cons (by rw [List.getElem?_toArray]; rfl) (fun K hK => ?_) AllReadyH.nil
          go_simp
          go_at_call 37
          with_reducible refine (HW2.out _ (HBB.out.below hT3.bel (Nat.le_refl _))).mono ?_
          rintro e w4 ⟨⟨A2, c2', y2, hy2, hc2, hs2, hf2, rfl⟩, hb4⟩
          have hT4 := hT3.more hb4
          have hX4 := hX3.below hb4 hX3.2.2.2.2.2
          have hS4 := hS3.below hb4 hX3.2.2.2.2.2
          dsimp only
          have nR2 : ∀ b off, A2 = some ⟨b, off, none⟩ → 0 < y2.length → b ≠ w.heap.size + 1 := fun b off h _ e => by
            have h1 := hf2 b off h
            have h2 := hT3.2.1.2.2.2.2.2
            omega
          have q2 : ∀ b off, A2 = some ⟨b, off, none⟩ → 0 < y2.length → w.heap.size ≤ b := fun b off h _ => by
            have h1 := hf2 b off h
            have h2 := hT3.2.1.2.2.2.2.2
            omega
          have nG2 : ∀ b off, A2 = some ⟨b, off, none⟩ → 0 < y2.length → b ≠ G := fun b off h _ e => by
            have h1 := hf2 b off h
            have h2 := hX3.2.2.2.2.2
            omega
          have hs1 := hs1.below hb4 (Nat.le_refl _)
          refine hK.out _ _ hT4.1 (fun hHeld => ?_)
          try simp only [Act.put, List.setIfInBounds_toArray, List.set_cons_zero, List.set_cons_succ]
          clear hHeld
          have hHeld : Bx w.heap.size w4 o f ep A rs.length c B ws.length d := hT4.1
          refine wpAnyH_take (i := 12) (v := ?_) (by rw [List.getElem?_toArray]; rfl) (by kernel_rfl) (by kernel_rfl) (by kernel_rfl) (by exact fun _ _ _ h => h) (Or.inl ⟨by rfl, ?_⟩) (by assumption) ?_
          rotate_left
          · intro w' hSw
            obtain ⟨c0, c1, c2, c3, c4, _⟩ := hSw
            go_simp
            try with_reducible rfl
          try simp only [Act.put, List.setIfInBounds_toArray, List.set_cons_zero, List.set_cons_succ]
          clear hHeld
          obtain ⟨x0, x1, x2, x3, x4, _⟩ := id hX4
          obtain ⟨g0, g1, g2, g3, g4⟩ := id hS4
          refine wpAnyH_ready (rs := [14]) (by kernel_rfl) (by simp) ?_
          refine AllReadyH.cons (by rw [List.getElem?_toArray]; rfl) (fun K hK => ?_) AllReadyH.nil
          go_simp
          refine hK.out _ _ (hT4.1.below (bel_set5 w4) (Nat.lt_trans (Nat.lt_succ_self _) hGR)) (fun hHeld => ?_)
          try simp only [Act.put, List.setIfInBounds_toArray, List.set_cons_zero, List.set_cons_succ]
          clear hHeld x0 x1 x2 x3 x4 g0 g1 g2 g3 g4
          have hXS := bx_set5 (o := o) (f := f) (ep := ep) (A := A1) (n := y1.length) (c := c1') (B := A2) (m := y2.length) (d := c2') hX4
          have hSS : Sf G (((((w4.setCell ⟨G, 0, none⟩ (.string o)).setCell ⟨G, 1, none⟩ (.string f)).setCell ⟨G, 2, none⟩ (.int .i64 ep)).setCell ⟨G, 3, none⟩ (.slice A1 y1.length c1')).setCell ⟨G, 4, none⟩ (.slice A2 y2.length c2')) := sf_set5 hS4
          have hTS : Two w (((((w4.setCell ⟨G, 0, none⟩ (.string o)).setCell ⟨G, 1, none⟩ (.string f)).setCell ⟨G, 2, none⟩ (.int .i64 ep)).setCell ⟨G, 3, none⟩ (.slice A1 y1.length c1')).setCell ⟨G, 4, none⟩ (.slice A2 y2.length c2')) o f ep A rs.length c B ws.length d := two_set5 hT4 hGR
          have s1 : SReads (((((w4.setCell ⟨G, 0, none⟩ (.string o)).setCell ⟨G, 1, none⟩ (.string f)).setCell ⟨G, 2, none⟩ (.int .i64 ep)).setCell ⟨G, 3, none⟩ (.slice A1 y1.length c1')).setCell ⟨G, 4, none⟩ (.slice A2 y2.length c2')) A1 y1 := sreads_setL5 hs1 nG1
          have s2 : SReads (((((w4.setCell ⟨G, 0, none⟩ (.string o)).setCell ⟨G, 1, none⟩ (.string f)).setCell ⟨G, 2, none⟩ (.int .i64 ep)).setCell ⟨G, 3, none⟩ (.slice A1 y1.length c1')).setCell ⟨G, 4, none⟩ (.slice A2 y2.length c2')) A2 y2 := sreads_setL5 hs2 nG2
          generalize (((((w4.setCell ⟨G, 0, none⟩ (.string o)).setCell ⟨G, 1, none⟩ (.string f)).setCell ⟨G, 2, none⟩ (.int .i64 ep)).setCell ⟨G, 3, none⟩ (.slice A1 y1.length c1')).setCell ⟨G, 4, none⟩ (.slice A2 y2.length c2')) = wS at *
          refine wpAnyH_done (by kernel_rfl) ?_ _
          have hl3 : y1.length ≤ 40 := by have := congrArg List.length hy1; rw [bl_len, bl_len] at this; omega
          have hl4 : y2.length ≤ 40 := by have := congrArg List.length hy2; rw [bl_len, bl_len] at this; omega
          obtain ⟨x0, x1, x2, x3, x4, _⟩ := id hXS
          go_wp2_with fail
          with_reducible refine (rwith_any A2 c2' y2 u _ s2 (by omega) hu).mono ?_
          rintro e w7 ⟨⟨A3, c3', y3, hy3, hc3, hs3, hf3, rfl⟩, hb7⟩
          clear x0 x1 x2 x3 x4
          have hT7 := hTS.more hb7
          obtain ⟨x0, x1, x2, x3, x4, hG7⟩ := hXS.below hb7 hXS.2.2.2.2.2
          obtain ⟨g0, g1, g2, g3, g4⟩ := hSS.below hb7 hXS.2.2.2.2.2
          obtain ⟨_, ⟨r0, r1, r2, r3, r4, hR7⟩, ⟨f0, f1, f2, f3, f4⟩, hbw⟩ := id hT7
          have hne : ¬ G = w.heap.size + 1 := by omega
          have hne' : ¬ w.heap.size + 1 = G := by omega
          have nR3 : ∀ b off, A3 = some ⟨b, off, none⟩ → 0 < y3.length → b ≠ w.heap.size + 1 := fun b off h _ e => by
            have h1 := hf3 b off h
            have h2 := hTS.2.1.2.2.2.2.2
            omega
          have q3 : ∀ b off, A3 = some ⟨b, off, none⟩ → 0 < y3.length → w.heap.size ≤ b := fun b off h _ => by
            have h1 := hf3 b off h
            have h2 := hTS.2.1.2.2.2.2.2
            omega
          have nG3 : ∀ b off, A3 = some ⟨b, off, none⟩ → 0 < y3.length → b ≠ G := fun b off h _ e => by
            have h1 := hf3 b off h
            have h2 := hXS.2.2.2.2.2
            omega
          dsimp only
          go_wp2
          refine bodyPost_ret (v := .tuple #[RV o f ep A1 y1.length c1' A3 y3.length c3', .int .i64 0]) (by simp [results, Try.results13, go_sem, RV, r0, r1, r2, r3, r4, x0, x1, x2, x3, x4, hne, hne']) rfl ?_
          exact ⟨⟨_, ⟨o, f, A1, c1', y1, A3, c3', y3, rfl, by simp only [hy1, hy3, hy2], sreads_setL5 (sreads_setL (s1.below hb7 (Nat.le_refl _)) nG1) nR1, sreads_setL5 (sreads_setL hs3 nG3) nR3, hc1, hc3, q1, q3⟩, rfl⟩, set5 (hbw.setCell (p := ⟨G, _, none⟩) (show w.heap.size ≤ G by omega) _) (Nat.le_succ _)⟩
      · rw [e]
        go_enter Try.func13, Try.ntmps13
        go_wp2_with fail
        with_reducible refine (HRR.out _ (HA.out.below (al2 _ _ _) (Nat.le_refl _)) (HBB.out.below (al2 _ _ _) (Nat.le_refl _))).mono ?_
        rw [decide_eq_true hr]
        rintro e w1 ⟨rfl, hb1⟩
        have HT1 := Lib.hid (two_first hb1)
        clear hb1
        obtain ⟨⟨c0, c1, c2, c3, c4, _⟩, ⟨r0, r1, r2, r3, r4, _⟩, ⟨f0, f1, f2, f3, f4⟩, _⟩ := HT1.out
        dsimp only
        go_wp2_with fail
        with_reducible refine (HU.out true hnm _).mono ?_
        rintro e w2 ⟨rfl, hb2⟩
        have HT2 := Lib.hid (HT1.out.more hb2)
        clear hb2 c0 c1 c2 c3 c4 r0 r1 r2 r3 r4 f0 f1 f2 f3 f4
        obtain ⟨⟨c0, c1, c2, c3, c4, _⟩, ⟨r0, r1, r2, r3, r4, _⟩, ⟨f0, f1, f2, f3, f4⟩, _⟩ := HT2.out
        dsimp only
        go_wp2_with fail
        with_reducible refine (HH1.out _ (HA.out.below HT2.out.bel (Nat.le_refl _))).mono ?_
        rintro e w9 ⟨rfl, h9⟩
        obtain rfl : w2 = w9 := h9.symm
        dsimp only
        go_wp2_with fail
        with_reducible refine (HH2.out _ (HBB.out.below HT2.out.bel (Nat.le_refl _))).mono ?_
        rintro e w9 ⟨rfl, h9⟩
        obtain rfl : w2 = w9 := h9.symm
        dsimp only
        go_wp2_with fail
        have hT0 : Two w w2.drew o f ep A rs.length c B ws.length d := HT2.out.more (Below.drewN' (Below.refl w2.heap.size w2) 1)
        refine wp_region_held_drew (S := fun w' => Bx w.heap.size w' o f ep A rs.length c B ws.length d) (by kernel_rfl) hT0.1 (fun hHeld => ?_)
        clear c0 c1 c2 c3 c4 r0 r1 r2 r3 r4 f0 f1 f2 f3 f4
        generalize w2.drew = wd at hT0 hHeld ⊢
        refine wpAnyH_take (i := 0) (v := ?_) (by rw [List.getElem?_toArray]; rfl) (by kernel_rfl) (by kernel_rfl) (by kernel_rfl) (by exact fun _ _ _ h => h) (Or.inl ⟨by rfl, ?_⟩) (by assumption) ?_
        rotate_left
        · intro w' hSw
          obtain ⟨c0, c1, c2, c3, c4, _⟩ := hSw
          go_simp
          try with_reducible rfl
        try simp only [Act.put, List.setIfInBounds_toArray, List.set_cons_zero, List.set_cons_succ]
        refine wpAnyH_take (i := 1) (v := ?_) (by rw [List.getElem?_toArray]; rfl) (by kernel_rfl) (by kernel_rfl) (by kernel_rfl) (by exact fun _ _ _ h => h) (Or.inl ⟨by rfl, ?_⟩) (by assumption) ?_
        rotate_left
        · intro w' hSw
          obtain ⟨c0, c1, c2, c3, c4, _⟩ := hSw
          go_simp
          try with_reducible rfl
        try simp only [Act.put, List.setIfInBounds_toArray, List.set_cons_zero, List.set_cons_succ]
        refine wpAnyH_take (i := 2) (v := ?_) (by rw [List.getElem?_toArray]; rfl) (by kernel_rfl) (by kernel_rfl) (by kernel_rfl) (by exact fun _ _ _ h => h) (Or.inl ⟨by rfl, ?_⟩) (by assumption) ?_
        rotate_left
        · intro w' hSw
          obtain ⟨c0, c1, c2, c3, c4, _⟩ := hSw
          go_simp
          try with_reducible rfl
        try simp only [Act.put, List.setIfInBounds_toArray, List.set_cons_zero, List.set_cons_succ]
        refine wpAnyH_take (i := 3) (v := ?_) (by rw [List.getElem?_toArray]; rfl) (by kernel_rfl) (by kernel_rfl) (by kernel_rfl) (by exact fun _ _ _ h => h) (Or.inl ⟨by rfl, ?_⟩) (by assumption) ?_
        rotate_left
        · intro w' hSw
          obtain ⟨c0, c1, c2, c3, c4, _⟩ := hSw
          go_simp
          try with_reducible rfl
        try simp only [Act.put, List.setIfInBounds_toArray, List.set_cons_zero, List.set_cons_succ]
        refine wpAnyH_take (i := 4) (v := ?_) (by rw [List.getElem?_toArray]; rfl) (by kernel_rfl) (by kernel_rfl) (by kernel_rfl) (by exact fun _ _ _ h => h) (Or.inl ⟨by rfl, ?_⟩) (by assumption) ?_
        rotate_left
        · intro w' hSw
          obtain ⟨c0, c1, c2, c3, c4, _⟩ := hSw
          go_simp
          try with_reducible rfl
        try simp only [Act.put, List.setIfInBounds_toArray, List.set_cons_zero, List.set_cons_succ]
        refine wpAnyH_take (i := 5) (v := ?_) (by rw [List.getElem?_toArray]; rfl) (by kernel_rfl) (by kernel_rfl) (by kernel_rfl) (by exact fun _ _ _ h => h) (Or.inl ⟨by rfl, ?_⟩) (by assumption) ?_
        rotate_left
        · intro w' hSw
          obtain ⟨c0, c1, c2, c3, c4, _⟩ := hSw
          go_simp
          try with_reducible rfl
        try simp only [Act.put, List.setIfInBounds_toArray, List.set_cons_zero, List.set_cons_succ]
        refine wpAnyH_take (i := 6) (v := ?_) (by rw [List.getElem?_toArray]; rfl) (by kernel_rfl) (by kernel_rfl) (by kernel_rfl) (by exact fun _ _ _ h => h) (Or.inl ⟨by rfl, ?_⟩) (by assumption) ?_
        rotate_left
        · intro w' hSw
          obtain ⟨c0, c1, c2, c3, c4, _⟩ := hSw
          go_simp
          try with_reducible rfl
        try simp only [Act.put, List.setIfInBounds_toArray, List.set_cons_zero, List.set_cons_succ]
        refine wpAnyH_take (i := 7) (v := ?_) (by rw [List.getElem?_toArray]; rfl) (by kernel_rfl) (by kernel_rfl) (by kernel_rfl) (by exact fun _ _ _ h => h) (Or.inl ⟨by rfl, ?_⟩) (by assumption) ?_
        rotate_left
        · intro w' hSw
          obtain ⟨c0, c1, c2, c3, c4, _⟩ := hSw
          go_simp
          try with_reducible rfl
        try simp only [Act.put, List.setIfInBounds_toArray, List.set_cons_zero, List.set_cons_succ]
        refine wpAnyH_take (i := 9) (v := ?_) (by rw [List.getElem?_toArray]; rfl) (by kernel_rfl) (by kernel_rfl) (by kernel_rfl) (by exact fun _ _ _ h => h) (Or.inl ⟨by rfl, ?_⟩) (by assumption) ?_
        rotate_left
        · intro w' hSw
          obtain ⟨c0, c1, c2, c3, c4, _⟩ := hSw
          go_simp
          try with_reducible rfl
        try simp only [Act.put, List.setIfInBounds_toArray, List.set_cons_zero, List.set_cons_succ]
        refine wpAnyH_take (i := 10) (v := ?_) (by rw [List.getElem?_toArray]; rfl) (by kernel_rfl) (by kernel_rfl) (by kernel_rfl) (by exact fun _ _ _ h => h) (Or.inl ⟨by rfl, ?_⟩) (by assumption) ?_
        rotate_left
        · intro w' hSw
          obtain ⟨c0, c1, c2, c3, c4, _⟩ := hSw
          go_simp
          try with_reducible rfl
        try simp only [Act.put, List.setIfInBounds_toArray, List.set_cons_zero, List.set_cons_succ]
        clear hHeld
        refine wpAnyH_ready (rs := [8, 13]) (by kernel_rfl) (by simp) ?_
        refine AllReadyH.cons (by rw [List.getElem?_toArray]; rfl) (fun K hK => ?_) (AllReadyH.cons (by rw [List.getElem?_toArray]; rfl) (fun K hK => ?_) AllReadyH.nil)
        · go_simp
          go_at_call 37
          with_reducible refine (HW1.out _ (HA.out.below hT0.bel (Nat.le_refl _))).mono ?_
          rintro e w3 ⟨⟨A1, c1', y1, hy1, hc1, hs1, hf1, rfl⟩, hb3⟩
          have hT3 := hT0.more hb3
          dsimp only
          have nR1 : ∀ b off, A1 = some ⟨b, off, none⟩ → 0 < y1.length → b ≠ w.heap.size + 1 := fun b off h _ e => by
            have h1 := hf1 b off h
            have h2 := hT0.2.1.2.2.2.2.2
            omega
          have q1 : ∀ b off, A1 = some ⟨b, off, none⟩ → 0 < y1.length → w.heap.size ≤ b := fun b off h _ => by
            have h1 := hf1 b off h
            have h2 := hT0.2.1.2.2.2.2.2
            omega
          refine hK.out _ _ hT3.1 (fun hHeld => ?_)
          try simp only [Act.put, List.setIfInBounds_toArray, List.set_cons_zero, List.set_cons_succ]
          clear hHeld
          refine wpAnyH_ready (rs := [11, 13]) (by kernel_rfl) (by simp) ?_
          refine AllReadyH.cons (by rw [List.getElem?_toArray]; rfl) (fun K hK => ?_) (AllReadyH.cons (by rw [List.getElem?_toArray]; rfl) (fun K hK => ?_) AllReadyH.nil)
          · go_simp
            go_at_call 37
            with_reducible refine (HW2.out _ (HBB.out.below hT3.bel (Nat.le_refl _))).mono ?_
            rintro e w4 ⟨⟨A2, c2', y2, hy2, hc2, hs2, hf2, rfl⟩, hb4⟩
            have hT4 := hT3.more hb4
            dsimp only
            have nR2 : ∀ b off, A2 = some ⟨b, off, none⟩ → 0 < y2.length → b ≠ w.heap.size + 1 := fun b off h _ e => by
              have h1 := hf2 b off h
              have h2 := hT3.2.1.2.2.2.2.2
              omega
            have q2 : ∀ b off, A2 = some ⟨b, off, none⟩ → 0 < y2.length → w.heap.size ≤ b := fun b off h _ => by
              have h1 := hf2 b off h
              have h2 := hT3.2.1.2.2.2.2.2
              omega
            have hs1 := hs1.below hb4 (Nat.le_refl _)
            refine hK.out _ _ hT4.1 (fun hHeld => ?_)
            try simp only [Act.put, List.setIfInBounds_toArray, List.set_cons_zero, List.set_cons_succ]
            clear hHeld
            have hHeld : Bx w.heap.size w4 o f ep A rs.length c B ws.length d := hT4.1
            refine wpAnyH_take (i := 12) (v := ?_) (by rw [List.getElem?_toArray]; rfl) (by kernel_rfl) (by kernel_rfl) (by kernel_rfl) (by exact fun _ _ _ h => h) (Or.inl ⟨by rfl, ?_⟩) (by assumption) ?_
            rotate_left
            · intro w' hSw
              obtain ⟨c0, c1, c2, c3, c4, _⟩ := hSw
              go_simp
              try with_reducible rfl
            try simp only [Act.put, List.setIfInBounds_toArray, List.set_cons_zero, List.set_cons_succ]
            clear hHeld
            refine wpAnyH_ready (rs := [13]) (by kernel_rfl) (by simp) ?_
            refine AllReadyH.cons (by rw [List.getElem?_toArray]; rfl) (fun K hK => ?_) AllReadyH.nil
            go_simp
            obtain ⟨G, hG⟩ : ∃ G, w4.heap.size = G := ⟨_, rfl⟩
            have hXx : Bx G (w4.alloc (.cells #[.string ⟨#[]⟩, .string ⟨#[]⟩, .int .i64 0, .slice none 0 0, .slice none 0 0] 24)) ⟨#[]⟩ ⟨#[]⟩ 0 none 0 0 none 0 0 := by rw [← hG]; exact bx_alloc w4 _ _ _ _ _ _ _ _ _ _
            have hSx : Sf G (w4.alloc (.cells #[.string ⟨#[]⟩, .string ⟨#[]⟩, .int .i64 0, .slice none 0 0, .slice none 0 0] 24)) := by rw [← hG]; exact sf_alloc w4 _ _
            have hba := al w4 (.cells #[.string ⟨#[]⟩, .string ⟨#[]⟩, .int .i64 0, .slice none 0 0, .slice none 0 0] 24)
            have hGR : w.heap.size + 1 < G := by rw [← hG]; exact hT4.2.1.2.2.2.2.2
            have nG1 : ∀ b off, A1 = some ⟨b, off, none⟩ → 0 < y1.length → b ≠ G := fun b off h h0 e => by
              obtain ⟨b2, off2, e2, hlt2, _⟩ := hs1 0 h0
              rw [h] at e2
              injection e2 with e2
              injection e2 with e3 _ _
              omega
            have nG2 : ∀ b off, A2 = some ⟨b, off, none⟩ → 0 < y2.length → b ≠ G := fun b off h h0 e => by
              obtain ⟨b2, off2, e2, hlt2, _⟩ := hs2 0 h0
              rw [h] at e2
              injection e2 with e2
              injection e2 with e3 _ _
              omega
            have hTx := hT4.more hba
            have hs1 := hs1.below hba (Nat.le_refl _)
            have hs2 := hs2.below hba (Nat.le_refl _)
            generalize w4.alloc (.cells #[.string ⟨#[]⟩, .string ⟨#[]⟩, .int .i64 0, .slice none 0 0, .slice none 0 0] 24) = wx at *
            try rw [hG]
            refine hK.out _ _ hTx.1 (fun hHeld => ?_)
            try simp only [Act.put, List.setIfInBounds_toArray, List.set_cons_zero, List.set_cons_succ]
            clear hHeld
            obtain ⟨x0, x1, x2, x3, x4, _⟩ := id hXx
            obtain ⟨g0, g1, g2, g3, g4⟩ := id hSx
            refine wpAnyH_ready (rs := [14]) (by kernel_rfl) (by simp) ?_
            refine AllReadyH.cons (by rw [List.getElem?_toArray]; rfl) (fun K hK => ?_) AllReadyH.nil
            go_simp
            refine hK.out _ _ (hTx.1.below (bel_set5 wx) (Nat.lt_trans (Nat.lt_succ_self _) hGR)) (fun hHeld => ?_)
            try simp only [Act.put, List.setIfInBounds_toArray, List.set_cons_zero, List.set_cons_succ]
            clear hHeld x0 x1 x2 x3 x4 g0 g1 g2 g3 g4
            have hXS := bx_set5 (o := o) (f := f) (ep := ep) (A := A1) (n := y1.length) (c := c1') (B := A2) (m := y2.length) (d := c2') hXx
            have hSS : Sf G (((((wx.setCell ⟨G, 0, none⟩ (.string o)).setCell ⟨G, 1, none⟩ (.string f)).setCell ⟨G, 2, none⟩ (.int .i64 ep)).setCell ⟨G, 3, none⟩ (.slice A1 y1.length c1')).setCell ⟨G, 4, none⟩ (.slice A2 y2.length c2')) := sf_set5 hSx
            have hTS : Two w (((((wx.setCell ⟨G, 0, none⟩ (.string o)).setCell ⟨G, 1, none⟩ (.string f)).setCell ⟨G, 2, none⟩ (.int .i64 ep)).setCell ⟨G, 3, none⟩ (.slice A1 y1.length c1')).setCell ⟨G, 4, none⟩ (.slice A2 y2.length c2')) o f ep A rs.length c B ws.length d := two_set5 hTx hGR
            have s1 : SReads (((((wx.setCell ⟨G, 0, none⟩ (.string o)).setCell ⟨G, 1, none⟩ (.string f)).setCell ⟨G, 2, none⟩ (.int .i64 ep)).setCell ⟨G, 3, none⟩ (.slice A1 y1.length c1')).setCell ⟨G, 4, none⟩ (.slice A2 y2.length c2')) A1 y1 := sreads_setL5 hs1 nG1
            have s2 : SReads (((((wx.setCell ⟨G, 0, none⟩ (.string o)).setCell ⟨G, 1, none⟩ (.string f)).setCell ⟨G, 2, none⟩ (.int .i64 ep)).setCell ⟨G, 3, none⟩ (.slice A1 y1.length c1')).setCell ⟨G, 4, none⟩ (.slice A2 y2.length c2')) A2 y2 := sreads_setL5 hs2 nG2
            generalize (((((wx.setCell ⟨G, 0, none⟩ (.string o)).setCell ⟨G, 1, none⟩ (.string f)).setCell ⟨G, 2, none⟩ (.int .i64 ep)).setCell ⟨G, 3, none⟩ (.slice A1 y1.length c1')).setCell ⟨G, 4, none⟩ (.slice A2 y2.length c2')) = wS at *
            refine wpAnyH_done (by kernel_rfl) ?_ _
            have hl3 : y1.length ≤ 40 := by have := congrArg List.length hy1; rw [bl_len, bl_len] at this; omega
            have hl4 : y2.length ≤ 40 := by have := congrArg List.length hy2; rw [bl_len, bl_len] at this; omega
            obtain ⟨x0, x1, x2, x3, x4, _⟩ := id hXS
            go_wp2_with fail
            with_reducible refine (rwith_any A1 c1' y1 u _ s1 (by omega) hu).mono ?_
            rintro e w7 ⟨⟨A3, c3', y3, hy3, hc3, hs3, hf3, rfl⟩, hb7⟩
            clear x0 x1 x2 x3 x4
            have hT7 := hTS.more hb7
            obtain ⟨x0, x1, x2, x3, x4, hG7⟩ := hXS.below hb7 hXS.2.2.2.2.2
            obtain ⟨g0, g1, g2, g3, g4⟩ := hSS.below hb7 hXS.2.2.2.2.2
            obtain ⟨_, ⟨r0, r1, r2, r3, r4, hR7⟩, ⟨f0, f1, f2, f3, f4⟩, hbw⟩ := id hT7
            have hne : ¬ G = w.heap.size + 1 := by omega
            have hne' : ¬ w.heap.size + 1 = G := by omega
            have nR3 : ∀ b off, A3 = some ⟨b, off, none⟩ → 0 < y3.length → b ≠ w.heap.size + 1 := fun b off h _ e => by
              have h1 := hf3 b off h
              have h2 := hTS.2.1.2.2.2.2.2
              omega
            have q3 : ∀ b off, A3 = some ⟨b, off, none⟩ → 0 < y3.length → w.heap.size ≤ b := fun b off h _ => by
              have h1 := hf3 b off h
              have h2 := hTS.2.1.2.2.2.2.2
              omega
            have nG3 : ∀ b off, A3 = some ⟨b, off, none⟩ → 0 < y3.length → b ≠ G := fun b off h _ e => by
              have h1 := hf3 b off h
              have h2 := hXS.2.2.2.2.2
              omega
            dsimp only
            go_wp2
            refine bodyPost_ret (v := .tuple #[RV o f ep A3 y3.length c3' A2 y2.length c2', .int .i64 0]) (by simp [results, Try.results13, go_sem, RV, r0, r1, r2, r3, r4, x0, x1, x2, x3, x4, hne, hne']) rfl ?_
            exact ⟨⟨_, ⟨o, f, A3, c3', y3, A2, c2', y2, rfl, by simp only [hy1, hy3, hy2], sreads_setL5 (sreads_setL hs3 nG3) nR3, sreads_setL5 (sreads_setL (s2.below hb7 (Nat.le_refl _)) nG2) nR2, hc3, hc2, q3, q2⟩, rfl⟩, set5 (hbw.setCell (p := ⟨G, _, none⟩) (show w.heap.size ≤ G by omega) _) (Nat.le_succ _)⟩
          · go_simp
            obtain ⟨G, hG⟩ : ∃ G, w3.heap.size = G := ⟨_, rfl⟩
            have hXx : Bx G (w3.alloc (.cells #[.string ⟨#[]⟩, .string ⟨#[]⟩, .int .i64 0, .slice none 0 0, .slice none 0 0] 24)) ⟨#[]⟩ ⟨#[]⟩ 0 none 0 0 none 0 0 := by rw [← hG]; exact bx_alloc w3 _ _ _ _ _ _ _ _ _ _
            have hSx : Sf G (w3.alloc (.cells #[.string ⟨#[]⟩, .string ⟨#[]⟩, .int .i64 0, .slice none 0 0, .slice none 0 0] 24)) := by rw [← hG]; exact sf_alloc w3 _ _
            have hba := al w3 (.cells #[.string ⟨#[]⟩, .string ⟨#[]⟩, .int .i64 0, .slice none 0 0, .slice none 0 0] 24)
            have hGR : w.heap.size + 1 < G := by rw [← hG]; exact hT3.2.1.2.2.2.2.2
            have nG1 : ∀ b off, A1 = some ⟨b, off, none⟩ → 0 < y1.length → b ≠ G := fun b off h h0 e => by
              obtain ⟨b2, off2, e2, hlt2, _⟩ := hs1 0 h0
              rw [h] at e2
              injection e2 with e2
              injection e2 with e3 _ _
              omega
            have hTx := hT3.more hba
            have hs1 := hs1.below hba (Nat.le_refl _)
            generalize w3.alloc (.cells #[.string ⟨#[]⟩, .string ⟨#[]⟩, .int .i64 0, .slice none 0 0, .slice none 0 0] 24) = wx at *
            try rw [hG]
            refine hK.out _ _ hTx.1 (fun hHeld => ?_)
            try simp only [Act.put, List.setIfInBounds_toArray, List.set_cons_zero, List.set_cons_succ]
            clear hHeld
            refine wpAnyH_ready (rs := [11]) (by kernel_rfl) (by simp) ?_
            refine AllReadyH.cons (by rw [List.getElem?_toArray]; rfl) (fun K hK => ?_) AllReadyH.nil
            go_simp
            go_at_call 37
            with_reducible refine (HW2.out _ (HBB.out.below hTx.bel (Nat.le_refl _))).mono ?_
            rintro e w4 ⟨⟨A2, c2', y2, hy2, hc2, hs2, hf2, rfl⟩, hb4⟩
            have hT4 := hTx.more hb4
            have hX4 := hXx.below hb4 hXx.2.2.2.2.2
            have hS4 := hSx.below hb4 hXx.2.2.2.2.2
            dsimp only
            have nR2 : ∀ b off, A2 = some ⟨b, off, none⟩ → 0 < y2.length → b ≠ w.heap.size + 1 := fun b off h _ e => by
              have h1 := hf2 b off h
              have h2 := hTx.2.1.2.2.2.2.2
              omega
            have q2 : ∀ b off, A2 = some ⟨b, off, none⟩ → 0 < y2.length → w.heap.size ≤ b := fun b off h _ => by
              have h1 := hf2 b off h
              have h2 := hTx.2.1.2.2.2.2.2
              omega
            have nG2 : ∀ b off, A2 = some ⟨b, off, none⟩ → 0 < y2.length → b ≠ G := fun b off h _ e => by
              have h1 := hf2 b off h
              have h2 := hXx.2.2.2.2.2
              omega
            have hs1 := hs1.below hb4 (Nat.le_refl _)
            refine hK.out _ _ hT4.1 (fun hHeld => ?_)
            try simp only [Act.put, List.setIfInBounds_toArray, List.set_cons_zero, List.set_cons_succ]
            clear hHeld
            have hHeld : Bx w.heap.size w4 o f ep A rs.length c B ws.length d := hT4.1
            refine wpAnyH_take (i := 12) (v := ?_) (by rw [List.getElem?_toArray]; rfl) (by kernel_rfl) (by kernel_rfl) (by kernel_rfl) (by exact fun _ _ _ h => h) (Or.inl ⟨by rfl, ?_⟩) (by assumption) ?_
            rotate_left
            · intro w' hSw
              obtain ⟨c0, c1, c2, c3, c4, _⟩ := hSw
              go_simp
              try with_reducible rfl
            try simp only [Act.put, List.setIfInBounds_toArray, List.set_cons_zero, List.set_cons_succ]
            clear hHeld
            obtain ⟨x0, x1, x2, x3, x4, _⟩ := id hX4
            obtain ⟨g0, g1, g2, g3, g4⟩ := id hS4
            refine wpAnyH_ready (rs := [14]) (by kernel_rfl) (by simp) ?_
            refine AllReadyH.cons (by rw [List.getElem?_toArray]; rfl) (fun K hK => ?_) AllReadyH.nil
            go_simp
            refine hK.out _ _ (hT4.1.below (bel_set5 w4) (Nat.lt_trans (Nat.lt_succ_self _) hGR)) (fun hHeld => ?_)
            try simp only [Act.put, List.setIfInBounds_toArray, List.set_cons_zero, List.set_cons_succ]
            clear hHeld x0 x1 x2 x3 x4 g0 g1 g2 g3 g4
            have hXS := bx_set5 (o := o) (f := f) (ep := ep) (A := A1) (n := y1.length) (c := c1') (B := A2) (m := y2.length) (d := c2') hX4
            have hSS : Sf G (((((w4.setCell ⟨G, 0, none⟩ (.string o)).setCell ⟨G, 1, none⟩ (.string f)).setCell ⟨G, 2, none⟩ (.int .i64 ep)).setCell ⟨G, 3, none⟩ (.slice A1 y1.length c1')).setCell ⟨G, 4, none⟩ (.slice A2 y2.length c2')) := sf_set5 hS4
            have hTS : Two w (((((w4.setCell ⟨G, 0, none⟩ (.string o)).setCell ⟨G, 1, none⟩ (.string f)).setCell ⟨G, 2, none⟩ (.int .i64 ep)).setCell ⟨G, 3, none⟩ (.slice A1 y1.length c1')).setCell ⟨G, 4, none⟩ (.slice A2 y2.length c2')) o f ep A rs.length c B ws.length d := two_set5 hT4 hGR
            have s1 : SReads (((((w4.setCell ⟨G, 0, none⟩ (.string o)).setCell ⟨G, 1, none⟩ (.string f)).setCell ⟨G, 2, none⟩ (.int .i64 ep)).setCell ⟨G, 3, none⟩ (.slice A1 y1.length c1')).setCell ⟨G, 4, none⟩ (.slice A2 y2.length c2')) A1 y1 := sreads_setL5 hs1 nG1
            have s2 : SReads (((((w4.setCell ⟨G, 0, none⟩ (.string o)).setCell ⟨G, 1, none⟩ (.string f)).setCell ⟨G, 2, none⟩ (.int .i64 ep)).setCell ⟨G, 3, none⟩ (.slice A1 y1.length c1')).setCell ⟨G, 4, none⟩ (.slice A2 y2.length c2')) A2 y2 := sreads_setL5 hs2 nG2
            generalize (((((w4.setCell ⟨G, 0, none⟩ (.string o)).setCell ⟨G, 1, none⟩ (.string f)).setCell ⟨G, 2, none⟩ (.int .i64 ep)).setCell ⟨G, 3, none⟩ (.slice A1 y1.length c1')).setCell ⟨G, 4, none⟩ (.slice A2 y2.length c2')) = wS at *
            refine wpAnyH_done (by kernel_rfl) ?_ _
            have hl3 : y1.length ≤ 40 := by have := congrArg List.length hy1; rw [bl_len, bl_len] at this; omega
            have hl4 : y2.length ≤ 40 := by have := congrArg List.length hy2; rw [bl_len, bl_len] at this; omega
            obtain ⟨x0, x1, x2, x3, x4, _⟩ := id hXS
            go_wp2_with fail
            with_reducible refine (rwith_any A1 c1' y1 u _ s1 (by omega) hu).mono ?_
            rintro e w7 ⟨⟨A3, c3', y3, hy3, hc3, hs3, hf3, rfl⟩, hb7⟩
            clear x0 x1 x2 x3 x4
            have hT7 := hTS.more hb7
            obtain ⟨x0, x1, x2, x3, x4, hG7⟩ := hXS.below hb7 hXS.2.2.2.2.2
            obtain ⟨g0, g1, g2, g3, g4⟩ := hSS.below hb7 hXS.2.2.2.2.2
            obtain ⟨_, ⟨r0, r1, r2, r3, r4, hR7⟩, ⟨f0, f1, f2, f3, f4⟩, hbw⟩ := id hT7
            have hne : ¬ G = w.heap.size + 1 := by omega
            have hne' : ¬ w.heap.size + 1 = G := by omega
            have nR3 : ∀ b off, A3 = some ⟨b, off, none⟩ → 0 < y3.length → b ≠ w.heap.size + 1 := fun b off h _ e => by
              have h1 := hf3 b off h
              have h2 := hTS.2.1.2.2.2.2.2
              omega
            have q3 : ∀ b off, A3 = some ⟨b, off, none⟩ → 0 < y3.length → w.heap.size ≤ b := fun b off h _ => by
              have h1 := hf3 b off h
              have h2 := hTS.2.1.2.2.2.2.2
              omega
            have nG3 : ∀ b off, A3 = some ⟨b, off, none⟩ → 0 < y3.length → b ≠ G := fun b off h _ e => by
              have h1 := hf3 b off h
              have h2 := hXS.2.2.2.2.2
              omega
            dsimp only
            go_wp2
            refine bodyPost_ret (v := .tuple #[RV o f ep A3 y3.length c3' A2 y2.length c2', .int .i64 0]) (by simp [results, Try.results13, go_sem, RV, r0, r1, r2, r3, r4, x0, x1, x2, x3, x4, hne, hne']) rfl ?_
            exact ⟨⟨_, ⟨o, f, A3, c3', y3, A2, c2', y2, rfl, by simp only [hy1, hy3, hy2], sreads_setL5 (sreads_setL hs3 nG3) nR3, sreads_setL5 (sreads_setL (s2.below hb7 (Nat.le_refl _)) nG2) nR2, hc3, hc2, q3, q2⟩, rfl⟩, set5 (hbw.setCell (p := ⟨G, _, none⟩) (show w.heap.size ≤ G by omega) _) (Nat.le_succ _)⟩
        · go_simp
          obtain ⟨G, hG⟩ : ∃ G, wd.heap.size = G := ⟨_, rfl⟩
          have hXx : Bx G (wd.alloc (.cells #[.string ⟨#[]⟩, .string ⟨#[]⟩, .int .i64 0, .slice none 0 0, .slice none 0 0] 24)) ⟨#[]⟩ ⟨#[]⟩ 0 none 0 0 none 0 0 := by rw [← hG]; exact bx_alloc wd _ _ _ _ _ _ _ _ _ _
          have hSx : Sf G (wd.alloc (.cells #[.string ⟨#[]⟩, .string ⟨#[]⟩, .int .i64 0, .slice none 0 0, .slice none 0 0] 24)) := by rw [← hG]; exact sf_alloc wd _ _
          have hba := al wd (.cells #[.string ⟨#[]⟩, .string ⟨#[]⟩, .int .i64 0, .slice none 0 0, .slice none 0 0] 24)
          have hGR : w.heap.size + 1 < G := by rw [← hG]; exact hT0.2.1.2.2.2.2.2
          have hTx := hT0.more hba
          generalize wd.alloc (.cells #[.string ⟨#[]⟩, .string ⟨#[]⟩, .int .i64 0, .slice none 0 0, .slice none 0 0] 24) = wx at *
          try rw [hG]
          refine hK.out _ _ hTx.1 (fun hHeld => ?_)
          try simp only [Act.put, List.setIfInBounds_toArray, List.set_cons_zero, List.set_cons_succ]
          clear hHeld
          refine wpAnyH_ready (rs := [8]) (by kernel_rfl) (by simp) ?_
          refine AllReadyH.cons (by rw [List.getElem?_toArray]; rfl) (fun K hK => ?_) AllReadyH.nil
          go_simp
          go_at_call 37
          with_reducible refine (HW1.out _ (HA.out.below hTx.bel (Nat.le_refl _))).mono ?_
          rintro e w3 ⟨⟨A1, c1', y1, hy1, hc1, hs1, hf1, rfl⟩, hb3⟩
          have hT3 := hTx.more hb3
          have hX3 := hXx.below hb3 hXx.2.2.2.2.2
          have hS3 := hSx.below hb3 hXx.2.2.2.2.2
          dsimp only
          have nR1 : ∀ b off, A1 = some ⟨b, off, none⟩ → 0 < y1.length → b ≠ w.heap.size + 1 := fun b off h _ e => by
            have h1 := hf1 b off h
            have h2 := hTx.2.1.2.2.2.2.2
            omega
          have q1 : ∀ b off, A1 = some ⟨b, off, none⟩ → 0 < y1.length → w.heap.size ≤ b := fun b off h _ => by
            have h1 := hf1 b off h
            have h2 := hTx.2.1.2.2.2.2.2
            omega
          have nG1 : ∀ b off, A1 = some ⟨b, off, none⟩ → 0 < y1.length → b ≠ G := fun b off h _ e => by
            have h1 := hf1 b off h
            have h2 := hXx.2.2.2.2.2
            omega
          refine hK.out _ _ hT3.1 (fun hHeld => ?_)
          try simp only [Act.put, List.setIfInBounds_toArray, List.set_cons_zero, List.set_cons_succ]
          clear hHeld
          refine wpAnyH_ready (rs := [11]) (by kernel_rfl) (by simp) ?_
          refine AllReadyH.cons (by rw [List.getElem?_toArray]; rfl) (fun K hK => ?_) AllReadyH.nil
          go_simp
          go_at_call 37
          with_reducible refine (HW2.out _ (HBB.out.below hT3.bel (Nat.le_refl _))).mono ?_
          rintro e w4 ⟨⟨A2, c2', y2, hy2, hc2, hs2, hf2, rfl⟩, hb4⟩
          have hT4 := hT3.more hb4
          have hX4 := hX3.below hb4 hX3.2.2.2.2.2
          have hS4 := hS3.below hb4 hX3.2.2.2.2.2
          dsimp only
          have nR2 : ∀ b off, A2 = some ⟨b, off, none⟩ → 0 < y2.length → b ≠ w.heap.size + 1 := fun b off h _ e => by
            have h1 := hf2 b off h
            have h2 := hT3.2.1.2.2.2.2.2
            omega
          have q2 : ∀ b off, A2 = some ⟨b, off, none⟩ → 0 < y2.length → w.heap.size ≤ b := fun b off h _ => by
            have h1 := hf2 b off h
            have h2 := hT3.2.1.2.2.2.2.2
            omega
          have nG2 : ∀ b off, A2 = some ⟨b, off, none⟩ → 0 < y2.length → b ≠ G := fun b off h _ e => by
            have h1 := hf2 b off h
            have h2 := hX3.2.2.2.2.2
            omega
          have hs1 := hs1.below hb4 (Nat.le_refl _)
          refine hK.out _ _ hT4.1 (fun hHeld => ?_)
          try simp only [Act.put, List.setIfInBounds_toArray, List.set_cons_zero, List.set_cons_succ]
          clear hHeld
          have hHeld : Bx w.heap.size w4 o f ep A rs.length c B ws.length d := hT4.1
          refine wpAnyH_take (i := 12) (v := ?_) (by rw [List.getElem?_toArray]; rfl) (by kernel_rfl) (by kernel_rfl) (by kernel_rfl) (by exact fun _ _ _ h => h) (Or.inl ⟨by rfl, ?_⟩) (by assumption) ?_
          rotate_left
          · intro w' hSw
            obtain ⟨c0, c1, c2, c3, c4, _⟩ := hSw
            go_simp
            try with_reducible rfl
          try simp only [Act.put, List.setIfInBounds_toArray, List.set_cons_zero, List.set_cons_succ]
          clear hHeld
          obtain ⟨x0, x1, x2, x3, x4, _⟩ := id hX4
          obtain ⟨g0, g1, g2, g3, g4⟩ := id hS4
          refine wpAnyH_ready (rs := [14]) (by kernel_rfl) (by simp) ?_
          refine AllReadyH.cons (by rw [List.getElem?_toArray]; rfl) (fun K hK => ?_) AllReadyH.nil
          go_simp
          refine hK.out _ _ (hT4.1.below (bel_set5 w4) (Nat.lt_trans (Nat.lt_succ_self _) hGR)) (fun hHeld => ?_)
          try simp only [Act.put, List.setIfInBounds_toArray, List.set_cons_zero, List.set_cons_succ]
          clear hHeld x0 x1 x2 x3 x4 g0 g1 g2 g3 g4
          have hXS := bx_set5 (o := o) (f := f) (ep := ep) (A := A1) (n := y1.length) (c := c1') (B := A2) (m := y2.length) (d := c2') hX4
          have hSS : Sf G (((((w4.setCell ⟨G, 0, none⟩ (.string o)).setCell ⟨G, 1, none⟩ (.string f)).setCell ⟨G, 2, none⟩ (.int .i64 ep)).setCell ⟨G, 3, none⟩ (.slice A1 y1.length c1')).setCell ⟨G, 4, none⟩ (.slice A2 y2.length c2')) := sf_set5 hS4
          have hTS : Two w (((((w4.setCell ⟨G, 0, none⟩ (.string o)).setCell ⟨G, 1, none⟩ (.string f)).setCell ⟨G, 2, none⟩ (.int .i64 ep)).setCell ⟨G, 3, none⟩ (.slice A1 y1.length c1')).setCell ⟨G, 4, none⟩ (.slice A2 y2.length c2')) o f ep A rs.length c B ws.length d := two_set5 hT4 hGR
          have s1 : SReads (((((w4.setCell ⟨G, 0, none⟩ (.string o)).setCell ⟨G, 1, none⟩ (.string f)).setCell ⟨G, 2, none⟩ (.int .i64 ep)).setCell ⟨G, 3, none⟩ (.slice A1 y1.length c1')).setCell ⟨G, 4, none⟩ (.slice A2 y2.length c2')) A1 y1 := sreads_setL5 hs1 nG1
          have s2 : SReads (((((w4.setCell ⟨G, 0, none⟩ (.string o)).setCell ⟨G, 1, none⟩ (.string f)).setCell ⟨G, 2, none⟩ (.int .i64 ep)).setCell ⟨G, 3, none⟩ (.slice A1 y1.length c1')).setCell ⟨G, 4, none⟩ (.slice A2 y2.length c2')) A2 y2 := sreads_setL5 hs2 nG2
          generalize (((((w4.setCell ⟨G, 0, none⟩ (.string o)).setCell ⟨G, 1, none⟩ (.string f)).setCell ⟨G, 2, none⟩ (.int .i64 ep)).setCell ⟨G, 3, none⟩ (.slice A1 y1.length c1')).setCell ⟨G, 4, none⟩ (.slice A2 y2.length c2')) = wS at *
          refine wpAnyH_done (by kernel_rfl) ?_ _
          have hl3 : y1.length ≤ 40 := by have := congrArg List.length hy1; rw [bl_len, bl_len] at this; omega
          have hl4 : y2.length ≤ 40 := by have := congrArg List.length hy2; rw [bl_len, bl_len] at this; omega
          obtain ⟨x0, x1, x2, x3, x4, _⟩ := id hXS
          go_wp2_with fail
          with_reducible refine (rwith_any A1 c1' y1 u _ s1 (by omega) hu).mono ?_
          rintro e w7 ⟨⟨A3, c3', y3, hy3, hc3, hs3, hf3, rfl⟩, hb7⟩
          clear x0 x1 x2 x3 x4
          have hT7 := hTS.more hb7
          obtain ⟨x0, x1, x2, x3, x4, hG7⟩ := hXS.below hb7 hXS.2.2.2.2.2
          obtain ⟨g0, g1, g2, g3, g4⟩ := hSS.below hb7 hXS.2.2.2.2.2
          obtain ⟨_, ⟨r0, r1, r2, r3, r4, hR7⟩, ⟨f0, f1, f2, f3, f4⟩, hbw⟩ := id hT7
          have hne : ¬ G = w.heap.size + 1 := by omega
          have hne' : ¬ w.heap.size + 1 = G := by omega
          have nR3 : ∀ b off, A3 = some ⟨b, off, none⟩ → 0 < y3.length → b ≠ w.heap.size + 1 := fun b off h _ e => by
            have h1 := hf3 b off h
            have h2 := hTS.2.1.2.2.2.2.2
            omega
          have q3 : ∀ b off, A3 = some ⟨b, off, none⟩ → 0 < y3.length → w.heap.size ≤ b := fun b off h _ => by
            have h1 := hf3 b off h
            have h2 := hTS.2.1.2.2.2.2.2
            omega
          have nG3 : ∀ b off, A3 = some ⟨b, off, none⟩ → 0 < y3.length → b ≠ G := fun b off h _ e => by
            have h1 := hf3 b off h
            have h2 := hXS.2.2.2.2.2
            omega
          dsimp only
          go_wp2
          refine bodyPost_ret (v := .tuple #[RV o f ep A3 y3.length c3' A2 y2.length c2', .int .i64 0]) (by simp [results, Try.results13, go_sem, RV, r0, r1, r2, r3, r4, x0, x1, x2, x3, x4, hne, hne']) rfl ?_
          exact ⟨⟨_, ⟨o, f, A3, c3', y3, A2, c2', y2, rfl, by simp only [hy1, hy3, hy2], sreads_setL5 (sreads_setL hs3 nG3) nR3, sreads_setL5 (sreads_setL (s2.below hb7 (Nat.le_refl _)) nG2) nR2, hc3, hc2, q3, q2⟩, rfl⟩, set5 (hbw.setCell (p := ⟨G, _, none⟩) (show w.heap.size ≤ G by omega) _) (Nat.le_succ _)⟩
end Go.Proofs.Ytjikepfgfbnheaa.Rig

/-
  CONTRACT of the document's Same (letterlockref7) at this program: of rights that say the same it answers true. By an AI agent; no person has read it.
-/
namespace Go.Proofs.Ytjikepfgfbnheaa.Rig
open Go.RowKit Wire

theorem bl_inj {ys zs : List ByteArray} (h : bl ys = bl zs) : ys = zs := by
  induction ys generalizing zs with
  | nil =>
    cases zs with
    | nil => rfl
    | cons z zs => exact absurd h (by simp [bl])
  | cons y ys ih =>
    cases zs with
    | nil => exact absurd h (by simp [bl])
    | cons z zs =>
      have h1 : y.data.toList = z.data.toList ∧ bl ys = bl zs := by simpa [bl] using h
      rw [str_eq h1.1, ih h1.2]
/-- Two boxes in a row. -/
theorem two_boxes (w : World) (o f : ByteArray) (ep : Int) (A : Option Addr) (n c : Nat) (B : Option Addr) (m d : Nat) (A' : Option Addr) (c' : Nat) (B' : Option Addr) (d' : Nat) (t : TypeId) :
    Bx w.heap.size ((w.alloc (.cells #[.string o, .string f, .int .i64 ep, .slice A n c, .slice B m d] t)).alloc (.cells #[.string o, .string f, .int .i64 ep, .slice A' n c', .slice B' m d'] t)) o f ep A n c B m d ∧
    Bx (w.heap.size + 1) ((w.alloc (.cells #[.string o, .string f, .int .i64 ep, .slice A n c, .slice B m d] t)).alloc (.cells #[.string o, .string f, .int .i64 ep, .slice A' n c', .slice B' m d'] t)) o f ep A' n c' B' m d' ∧
    Below w.heap.size w ((w.alloc (.cells #[.string o, .string f, .int .i64 ep, .slice A n c, .slice B m d] t)).alloc (.cells #[.string o, .string f, .int .i64 ep, .slice A' n c', .slice B' m d'] t)) := by
  have e : (w.alloc (.cells #[.string o, .string f, .int .i64 ep, .slice A n c, .slice B m d] t)).heap.size = w.heap.size + 1 := by simp
  have h1 := bx_alloc w o f ep A n c B m d t
  have hw1 : Below w.heap.size w (w.alloc (.cells #[.string o, .string f, .int .i64 ep, .slice A n c, .slice B m d] t)) := (Below.refl _ w).alloc (Nat.le_refl _) _
  generalize w.alloc (.cells #[.string o, .string f, .int .i64 ep, .slice A n c, .slice B m d] t) = wa at e h1 hw1 ⊢
  have h2 := bx_alloc wa o f ep A' n c' B' m d' t
  have h3 : Below wa.heap.size wa (wa.alloc (.cells #[.string o, .string f, .int .i64 ep, .slice A' n c', .slice B' m d'] t)) := (Below.refl _ wa).alloc (Nat.le_refl _) _
  rw [e] at h2
  exact ⟨h1.below h3 (by omega), h2, hw1.trans (h3.mono hw1.size)⟩
set_option maxHeartbeats 4000000 in
set_option maxRecDepth 1000000 in
theorem rsame_any (o f : ByteArray) (ep : Int) (A : Option Addr) (c : Nat) (rs : List ByteArray) (B : Option Addr) (d : Nat) (ws : List ByteArray) (A' : Option Addr) (c' : Nat) (B' : Option Addr) (d' : Nat) (w : World) (hA : SReads w A rs) (hB : SReads w B ws) (hA' : SReads w A' rs) (hB' : SReads w B' ws) (hr : rs.length ≤ 1000000) (hw : ws.length ≤ 1000000) :
    Calls Try.prog 22 #[RV o f ep A rs.length c B ws.length d, RV o f ep A' rs.length c' B' ws.length d'] w fun e w' => e = .returned (.bool true) ∧ Below w.heap.size w w' := by
  have HA := Lib.hid hA
  have HBB := Lib.hid hB
  have HA' := Lib.hid hA'
  have HBB' := Lib.hid hB'
  clear hA hB hA' hB'
  unfold RV
  go_enter Try.func22, Try.ntmps22
  go_wp2_with fail
  obtain ⟨hx, hy, hbw⟩ := two_boxes w o f ep A rs.length c B ws.length d A' c' B' d' 24
  generalize (w.alloc (.cells #[.string o, .string f, .int .i64 ep, .slice A rs.length c, .slice B ws.length d] 24)).alloc (.cells #[.string o, .string f, .int .i64 ep, .slice A' rs.length c', .slice B' ws.length d'] 24) = w1 at hx hy hbw ⊢
  have HX := Lib.hid hx
  have HY := Lib.hid hy
  have HBW := Lib.hid hbw
  clear hx hy hbw
  go_loopw [5] (fun i wr => ∃ k : Nat, k ≤ rs.length ∧ i = .int .i64 (k : Int) ∧ Hid (Below w1.heap.size w1 wr)) (fun i _ => rs.length - (intOf i).toNat)
  case atStart => exact ⟨0, Nat.zero_le _, rfl, Lib.hid (Below.refl _ _)⟩
  case round =>
    obtain ⟨k, hk, rfl, HW⟩ := hrel
    obtain ⟨c0, c1, c2, c3, c4, _⟩ := HX.out.below HW.out HX.out.2.2.2.2.2
    obtain ⟨d0, d1, d2, d3, d4, _⟩ := HY.out.below HW.out HY.out.2.2.2.2.2
    have HBR := Lib.hid (Bel.call HBW.out HW.out)
    by_cases hlt : (k : Int) < (rs.length : Int)
    · obtain ⟨b, off, rfl, hbl, hcl⟩ := (HA.out.below HBR.out (Nat.le_refl _)) k (by omega)
      obtain ⟨b', off', rfl, hbl', hcl'⟩ := (HA'.out.below HBR.out (Nat.le_refl _)) k (by omega)
      obtain ⟨y, hy⟩ : ∃ y, rs.getD k ByteArray.empty = y := ⟨_, rfl⟩
      rw [hy] at hcl hcl'
      have hk0 : (0 : Int) ≤ (k : Int) := by omega
      clear hy hbl hbl'
      go_wp2
      go_quiet (fail)
      go_wp2
      go_roundw
      case rel => exact ⟨k + 1, by omega, by go_num, Lib.hid (Below.drewN' HW.out _)⟩
      case measure => simp [intOf]; omega
    · go_wp2_with fail
      clear c0 c1 c2 c3 c4 d0 d1 d2 d3 d4
      go_loopw [6] (fun i wr2 => ∃ j : Nat, j ≤ ws.length ∧ i = .int .i64 (j : Int) ∧ Hid (Below wr.heap.size wr wr2)) (fun i _ => ws.length - (intOf i).toNat)
      case atStart => exact ⟨0, Nat.zero_le _, rfl, Lib.hid (Below.refl _ _)⟩
      case round =>
        obtain ⟨j, hj, rfl, HW2⟩ := hrel
        have HX2 := Lib.hid (HX.out.below HW.out HX.out.2.2.2.2.2)
        have HY2 := Lib.hid (HY.out.below HW.out HY.out.2.2.2.2.2)
        obtain ⟨c0, c1, c2, c3, c4, _⟩ := HX2.out.below HW2.out HX2.out.2.2.2.2.2
        obtain ⟨d0, d1, d2, d3, d4, _⟩ := HY2.out.below HW2.out HY2.out.2.2.2.2.2
        have HBR2 := Lib.hid (Bel.call HBR.out HW2.out)
        by_cases hlt2 : (j : Int) < (ws.length : Int)
        · obtain ⟨b, off, rfl, hbl, hcl⟩ := (HBB.out.below HBR2.out (Nat.le_refl _)) j (by omega)
          obtain ⟨b', off', rfl, hbl', hcl'⟩ := (HBB'.out.below HBR2.out (Nat.le_refl _)) j (by omega)
          obtain ⟨y, hy⟩ : ∃ y, ws.getD j ByteArray.empty = y := ⟨_, rfl⟩
          rw [hy] at hcl hcl'
          have hj0 : (0 : Int) ≤ (j : Int) := by omega
          clear hy hbl hbl'
          go_wp2
          go_quiet (fail)
          go_wp2
          go_roundw
          case rel => exact ⟨j + 1, by omega, by go_num, Lib.hid (Below.drewN' HW2.out _)⟩
          case measure => simp [intOf]; omega
        · go_wp2
          go_ret
          exact ⟨rfl, HBR2.out⟩
end Go.Proofs.Ytjikepfgfbnheaa.Rig

/-
  CONTRACT of the document's TakeAll (letterlockref2) at this program, its list fresh. By an AI agent; no person has read it.
-/
namespace Go.Proofs.Ytjikepfgfbnheaa.Rig
open Go.RowKit Wire

/-- TakeAll's answer as an ending, its list in memory from B on. -/
def TaF (B : Nat) (x : List Tm × Int) (e : Ending) (w' : World) : Prop := ∃ (A : Option Addr) (c : Nat) (ys : List ByteArray), bl ys = x.1 ∧ (ys.length ≤ c ∧ (A = none → c = 0)) ∧ SReads w' A ys ∧ (∀ b off, A = some ⟨b, off, none⟩ → B ≤ b) ∧ e = .returned (.tuple #[.slice A ys.length c, .int .i64 x.2])
theorem taF_nil (B : Nat) (f : Int) (w' : World) : TaF B ([], f) (.returned (.tuple #[.slice none 0 0, .int .i64 f])) w' := ⟨none, 0, [], rfl, ⟨Nat.le_refl _, fun _ => rfl⟩, SReads.nil _ _, (fun _ _ h => by cases h), rfl⟩

set_option maxHeartbeats 4000000 in
set_option maxRecDepth 1000000 in
theorem refAllF_any (s : ByteArray) (a m : Int) (w : World) (hs : s.size ≤ 1000000000000) (ha : -9223372036854775808 ≤ a ∧ a ≤ 9223372036854775807) (hm : -9223372036854775808 ≤ m ∧ m ≤ 9223372036854775807) :
    Calls Try.prog 45 #[.string s, .int .i64 a, .int .i64 m] w fun e w' => TaF w.heap.size (all s.data.toList a m) e w' ∧ Below w.heap.size w w' := by
  obtain ⟨ha1, ha2⟩ := ha
  rcases take_tk (l := s.data.toList) with ⟨h1, h2⟩ | ⟨n, r, h1, h2, hn⟩
  · have H1 := Lib.hid (all_none (a := a) (b := m) h1)
    have H2 := Lib.hid h2
    clear h1 h2
    go_enter Try.func45, Try.ntmps45
    go_wp2_with fail
    refine (refTake_any _ _ (by omega)).mono ?_
    rw [H2.out]
    rintro e w1 ⟨⟨R, hR, rfl⟩, hb⟩
    dsimp only at hR ⊢
    have HB := Lib.hid hb
    clear hR hb
    go_wp2
    go_ret2
    rw [H1.out]
    exact ⟨taF_nil _ _ _, HB.out⟩
  · have h4 := (Wire.take_len h1).1
    rw [← Lib.size_eq] at h4
    have HT2 := Lib.hid h2
    have HT1 := Lib.hid h1
    have HN := Lib.hid hn
    clear h1 h2 hn
    by_cases hb : max a 0 < (n : Int)
    · have H1 := Lib.hid (all_big (b := m) HT1.out hb)
      by_cases hm0 : a < 0
      · have hb' : (0 : Int) < n := by omega
        clear hb
        go_enter Try.func45, Try.ntmps45
        go_wp2_with fail
        refine (refTake_any _ _ (by omega)).mono ?_
        rw [HT2.out]
        rintro e w0 ⟨⟨R0, hR0, rfl⟩, hb0⟩
        dsimp only at hR0 ⊢
        have HR0 := Lib.hid hR0
        have HB0 := Lib.hid hb0
        clear hR0 hb0
        go_wp2
        go_ret2
        rw [H1.out]
        exact ⟨taF_nil _ _ _, HB0.out⟩
      · have hb' : a < (n : Int) := by omega
        clear hb
        go_enter Try.func45, Try.ntmps45
        go_wp2_with fail
        refine (refTake_any _ _ (by omega)).mono ?_
        rw [HT2.out]
        rintro e w0 ⟨⟨R0, hR0, rfl⟩, hb0⟩
        dsimp only at hR0 ⊢
        have HR0 := Lib.hid hR0
        have HB0 := Lib.hid hb0
        clear hR0 hb0
        go_wp2
        go_ret2
        rw [H1.out]
        exact ⟨taF_nil _ _ _, HB0.out⟩
    · have H2 : Hid ((n : Int) ≤ max a 0) := by show _ ≤ _; omega
      have H1 := HT1
      have hn63 : n ≤ 9223372036854775807 := by omega
      obtain ⟨i0, hi0, hz0, hz1, hz2⟩ := info_parts str_info
      by_cases hm0 : a < 0
      · have hb' : (n : Int) ≤ 0 := by omega
        clear hb
        go_enter Try.func45, Try.ntmps45
        go_wp2_with fail
        refine (refTake_any _ _ (by omega)).mono ?_
        rw [HT2.out]
        rintro e w0 ⟨⟨R0, hR0, rfl⟩, hb0⟩
        dsimp only at hR0 ⊢
        have HR0 := Lib.hid hR0
        have HB0 := Lib.hid hb0
        clear hR0 hb0
        go_wp2
        have hstart : Took w s.size n r m 0 R0 (.slice none 0 0) w0 :=
          ⟨[], World.ownsRow_nil _ _ _ _, rfl, by rw [HR0.out]; rfl, by rw [Lib.size_eq, HR0.out]; omega, HB0.out⟩
        have HST := Lib.hid hstart
        clear hstart
        go_loopw [9, 11, 12] (fun q v i wr => ∃ (k : Nat) (R : ByteArray), k ≤ n ∧ q = .string R ∧ i = .int .u64 k ∧ Hid (Took w s.size n r m k R v wr)) (fun _ _ i _ => n - (intOf i).toNat)
        case atStart => exact ⟨0, R0, Nat.zero_le _, rfl, rfl, HST⟩
        case round =>
          obtain ⟨k, R, hk, rfl, rfl, HT⟩ := hrel
          clear HST
          obtain ⟨ys, ho, hyl, hte, hsz, hbel⟩ := HT.out
          have hRs : R.size ≤ 140737488355328 := by omega
          have HO := Lib.hid ho
          have HYL := Lib.hid hyl
          have HTE := Lib.hid hte
          have HBL := Lib.hid hbel
          by_cases hlt : k < n
          · exact absurd hlt (by omega)
          · obtain rfl : k = n := by omega
            rw [Nat.sub_self, texts_zero] at hte
            obtain ⟨A, c, rfl⟩ := own_value ho
            by_cases hR : R.data.toList = []
            · have hal : all s.data.toList a m = (bl ys, 0) := by
                rw [hR] at hte
                exact all_ok H1.out H2.out hte.symm
              have HAL := Lib.hid hal
              have hem : R.toList.isEmpty = true := by rw [Lib.toList_data, hR]; rfl
              obtain ⟨h6, _, h7⟩ := sreads_own ho
              have H6 := Lib.hid h6
              have h8 : TaF w.heap.size (bl ys, 0) (.returned (.tuple #[.slice A k c, .int .i64 0])) wr := by
                subst hyl
                exact ⟨A, c, ys, rfl, ⟨h7, own_none ho⟩, h6, own_fresh ho, rfl⟩
              have H8 := Lib.hid h8
              clear ho hyl hte hbel hsz hR hal h6 h8
              go_wp2
              go_ret2
              rw [HAL.out]
              exact ⟨H8.out, HBL.out⟩
            · have hal : all s.data.toList a m = ([], 2) := all_left H1.out H2.out hte.symm hR
              have HAL := Lib.hid hal
              have hem : R.toList.isEmpty = false := by
                rw [Lib.toList_data]
                cases h : R.data.toList with
                | nil => exact absurd h hR
                | cons x t => rfl
              clear ho hyl hte hbel hsz hR hal
              go_wp2
              go_ret2
              rw [HAL.out]
              exact ⟨taF_nil _ _ _, HBL.out⟩
      · have hb' : (n : Int) ≤ a := by omega
        clear hb
        go_enter Try.func45, Try.ntmps45
        go_wp2_with fail
        refine (refTake_any _ _ (by omega)).mono ?_
        rw [HT2.out]
        rintro e w0 ⟨⟨R0, hR0, rfl⟩, hb0⟩
        dsimp only at hR0 ⊢
        have HR0 := Lib.hid hR0
        have HB0 := Lib.hid hb0
        clear hR0 hb0
        go_wp2
        have hstart : Took w s.size n r m 0 R0 (.slice none 0 0) w0 :=
          ⟨[], World.ownsRow_nil _ _ _ _, rfl, by rw [HR0.out]; rfl, by rw [Lib.size_eq, HR0.out]; omega, HB0.out⟩
        have HST := Lib.hid hstart
        clear hstart
        go_loopw [9, 11, 12] (fun q v i wr => ∃ (k : Nat) (R : ByteArray), k ≤ n ∧ q = .string R ∧ i = .int .u64 k ∧ Hid (Took w s.size n r m k R v wr)) (fun _ _ i _ => n - (intOf i).toNat)
        case atStart => exact ⟨0, R0, Nat.zero_le _, rfl, rfl, HST⟩
        case round =>
          obtain ⟨k, R, hk, rfl, rfl, HT⟩ := hrel
          clear HST
          obtain ⟨ys, ho, hyl, hte, hsz, hbel⟩ := HT.out
          have hRs : R.size ≤ 140737488355328 := by omega
          have HO := Lib.hid ho
          have HYL := Lib.hid hyl
          have HTE := Lib.hid hte
          have HBL := Lib.hid hbel
          by_cases hlt : k < n
          · obtain ⟨t, q, f, htx⟩ : ∃ t q f, text R.data.toList m = (t, q, f) := ⟨_, _, _, rfl⟩
            have HTX := Lib.hid htx
            obtain ⟨j, hj⟩ : ∃ j, n - k = j + 1 := ⟨n - k - 1, by omega⟩
            rw [hj] at hte
            by_cases hf : f = 0
            · subst hf
              have hlen := text_len htx rfl
              rw [texts_yes htx] at hte
              rw [← Lib.size_eq] at hlen
              have HTE2 := Lib.hid hte
              have HJ := Lib.hid hj
              have hks : k + 1 ≤ s.size := by omega
              have hq : q.length + (k + 1) ≤ s.size := by omega
              clear ho hyl hte hbel htx hj hlen hsz
              go_wp2_with (first
                | (go_at_call 61; refine (refText_any _ _ _ hRs hm).mono ?_; rw [HTX.out]; rintro e w5 ⟨⟨T, Q, hT, hQ, rfl⟩, hb5⟩; have HB5 := Lib.hid (HBL.out.trans (hb5.mono HBL.out.size)); have HB5' := Lib.hid hb5; clear hb5; have HTT := Lib.hid hT; have HQ := Lib.hid hQ; clear hT hQ; dsimp only)
                | (at_builtin
                   refine wpList_append_own _ rfl _ _ _ rfl w.heap.size 9 i0 _ 1 16 Try.underlying22 hi0 hz0 hz1 hz2 rfl (by decide) _ k (sv ys) rfl ?c1 _ 1 1 [.string T] rfl rfl ?c2 ?c3 ?c4 ?c5 ?c6 ?_
                   case c1 => exact (own_below HO.out HB5'.out (Nat.le_refl _)).alloc _
                   case c2 => exact lit_cells _ _ _
                   case c3 => exact sv_one [T]
                   case c4 => simp only [maxLen]; omega
                   case c5 => omega
                   case c6 =>
                     have h := HB5.out.size
                     simp only [World.alloc, Array.size_push]
                     exact Nat.le_succ_of_le h
                   intro v6 w6 hown hgrow _
                   have HO6 := Lib.hid hown
                   have HG6 := Lib.hid hgrow
                   clear hown hgrow))
              go_roundw
              case rel =>
                refine ⟨k + 1, Q, by omega, rfl, by go_num, ys ++ [T], by simpa [sv] using HO6.out, by simp [HYL.out], ?_, ?_, ?_⟩
                · have e : n - (k + 1) = j := by have := HJ.out; omega
                  have e2 : bl (ys ++ [T]) = bl ys ++ [t] := by simp [bl, HTT.out]
                  rw [e, HQ.out, e2]
                  exact HTE2.out
                · rw [Lib.size_eq, HQ.out]; exact hq
                · have h1 := HB5.out
                  refine (h1.alloc h1.size (.cells #[.string T] 9)).grown HG6.out (by
                    have := h1.size
                    simp only [World.alloc, Array.size_push]
                    omega) fun g hg => ?_
                  exact (HO.out.lt g hg).1
              case measure => simp [intOf]; omega
            · have hal : all s.data.toList a m = ([], f) := by
                rw [texts_no htx hf] at hte
                exact all_err H1.out H2.out hte.symm hf
              have HAL := Lib.hid hal
              have hne : (f != 0) = true := by simpa using hf
              clear ho hyl hte hbel htx hj hsz hf hal
              go_wp2_with (go_at_call 61; refine (refText_any _ _ _ hRs hm).mono ?_; rw [HTX.out]; rintro e w5 ⟨⟨T, Q, hT, hQ, rfl⟩, hb5⟩; have HB5 := Lib.hid (HBL.out.trans (hb5.mono HBL.out.size)); have HB5' := Lib.hid hb5; clear hb5; clear hT hQ; dsimp only)
              go_ret2
              rw [HAL.out]
              exact ⟨taF_nil _ _ _, HB5.out⟩
          · obtain rfl : k = n := by omega
            rw [Nat.sub_self, texts_zero] at hte
            obtain ⟨A, c, rfl⟩ := own_value ho
            by_cases hR : R.data.toList = []
            · have hal : all s.data.toList a m = (bl ys, 0) := by
                rw [hR] at hte
                exact all_ok H1.out H2.out hte.symm
              have HAL := Lib.hid hal
              have hem : R.toList.isEmpty = true := by rw [Lib.toList_data, hR]; rfl
              obtain ⟨h6, _, h7⟩ := sreads_own ho
              have H6 := Lib.hid h6
              have h8 : TaF w.heap.size (bl ys, 0) (.returned (.tuple #[.slice A k c, .int .i64 0])) wr := by
                subst hyl
                exact ⟨A, c, ys, rfl, ⟨h7, own_none ho⟩, h6, own_fresh ho, rfl⟩
              have H8 := Lib.hid h8
              clear ho hyl hte hbel hsz hR hal h6 h8
              go_wp2
              go_ret2
              rw [HAL.out]
              exact ⟨H8.out, HBL.out⟩
            · have hal : all s.data.toList a m = ([], 2) := all_left H1.out H2.out hte.symm hR
              have HAL := Lib.hid hal
              have hem : R.toList.isEmpty = false := by
                rw [Lib.toList_data]
                cases h : R.data.toList with
                | nil => exact absurd h hR
                | cons x t => rfl
              clear ho hyl hte hbel hsz hR hal
              go_wp2
              go_ret2
              rw [HAL.out]
              exact ⟨taF_nil _ _ _, HBL.out⟩
end Go.Proofs.Ytjikepfgfbnheaa.Rig
