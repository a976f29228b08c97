/-
  G3. By an AI agent.
-/
import Derived.Test.YtlkgjceddbclpaaGreatEZ
import Derived.Deep.QuietTactic
import Derived.BigQuiet
import Derived.Test.YtlkgjceddbclpaaGreatEG2
import Derived.Test.YtlkgjceddbclpaaGreatEG1
import Derived.Test.YtlkgjceddbclpaaGreatEW0
namespace Go.Proofs.YtlkgjceddbclpaaGreat.Rig
open Go.RowKit Wire

set_option linter.unusedSimpArgs false
theorem Two.bel {w w1 : World} {o f : ByteArray} {ep : Int} {A : Option Addr} {n c : Nat} {B : Option Addr} {m d : Nat} (h : Two w w1 o f ep A n c B m d) : Below w.heap.size w w1 := h.2.2.2
theorem al2 (w : World) (a b : Obj) : Below w.heap.size w ((w.alloc a).alloc b) := (al w a).alloc (by simp) b
theorem sreads_set5 {w : World} {A : Option Addr} {ys : List ByteArray} (h : SReads w A ys) {R : Nat} {v0 v1 v2 v3 v4 : Value} (hR : ∀ b off, A = some ⟨b, off, none⟩ → b ≠ R) : SReads (((((w.setCell ⟨R, 0, none⟩ v0).setCell ⟨R, 1, none⟩ v1).setCell ⟨R, 2, none⟩ v2).setCell ⟨R, 3, none⟩ v3).setCell ⟨R, 4, none⟩ v4) A ys :=
  sreads_set (sreads_set (sreads_set (sreads_set (sreads_set h hR) hR) hR) hR) hR
theorem bel_set5 (w : World) {R : Nat} {v0 v1 v2 v3 v4 : Value} : Below R w (((((w.setCell ⟨R, 0, none⟩ v0).setCell ⟨R, 1, none⟩ v1).setCell ⟨R, 2, none⟩ v2).setCell ⟨R, 3, none⟩ v3).setCell ⟨R, 4, none⟩ v4) :=
  have h : R ≤ R := Nat.le_refl R
  (((((Below.refl R w).setCell (p := ⟨R, 0, none⟩) h v0).setCell (p := ⟨R, 1, none⟩) h v1).setCell (p := ⟨R, 2, none⟩) h v2).setCell (p := ⟨R, 3, none⟩) h v3).setCell (p := ⟨R, 4, none⟩) h v4
set_option maxHeartbeats 8000000 in
set_option maxRecDepth 1000000 in
theorem rrevoke_any (o f : ByteArray) (ep : Int) (A : Option Addr) (c : Nat) (rs : List ByteArray) (B : Option Addr) (d : Nat) (ws : List ByteArray) (u : ByteArray) (w : World) (hA : SReads w A rs) (hB : SReads w B ws) (hf : Few ⟨o.data.toList, f.data.toList, ep, bl rs, bl ws⟩) (hu : u.size ≤ 1000000) :
    Calls Tryz.prog 48 #[RV o f ep A rs.length c B ws.length d, .string u] w fun e w' => Re (fun b => w.heap.size ≤ b) (rv ⟨o.data.toList, f.data.toList, ep, bl rs, bl ws⟩ u.data.toList) e w' ∧ Below w.heap.size w w' := by
  have HA := zh hA; have HBB := zh hB
  have hl1 : rs.length ≤ 40 := by have := hf.2.2.1; rw [bl_len] at this; exact this
  have hl2 : ws.length ≤ 40 := by have := hf.2.2.2.1; rw [bl_len] at this; exact this
  have HRR := zh fun w h1 h2 => rright_any o f ep A c rs B d ws w h1 h2 hf
  have HU := zh fun v h w => refright_is u v h w hu
  have HH1 := zh fun w h => rhas_any A c rs u w h (by omega)
  have HH2 := zh fun w h => rhas_any B d ws u w h (by omega)
  have HW1 := zh fun w h => rwithout_any A c rs u w h (by omega)
  have HW2 := zh fun w h => rwithout_any B d ws u w h (by omega)
  clear hA hB hf
  unfold RV at HRR ⊢
  by_cases hr : RR ⟨o.data.toList, f.data.toList, ep, bl rs, bl ws⟩
  case neg =>
    rw [show rv ⟨o.data.toList, f.data.toList, ep, bl rs, bl ws⟩ u.data.toList = (zero, 1) by unfold rv; rw [if_pos hr]]
    go_enter Tryz.func48, Tryz.ntmps48
    go_wp2_with fail
    (with_reducible refine (HRR.out _ (HA.out.below (al2 _ _ _) zl) (HBB.out.below (al2 _ _ _) zl)).mono ?_); rw [decide_eq_false hr]; rintro e w1 ⟨rfl, hb1⟩; have HT1 := zh (two_first hb1); clear hb1; obtain ⟨⟨c0, c1, c2, c3, c4, _⟩, ⟨r0, r1, r2, r3, r4, _⟩, ⟨f0, f1, f2, f3, f4⟩, _⟩ := HT1.out; dsimp only
    go_wp2
    refine bodyPost_ret (v := .tuple #[RV ⟨#[]⟩ ⟨#[]⟩ 0 none 0 0 none 0 0, .int .i64 1]) (by simp [results, Tryz.results48, go_sem, RV, r0, r1, r2, r3, r4]) rfl ?_
    exact ⟨⟨_, isX_zero _ _, rfl⟩, set5 HT1.out.2.2.2 (Nat.le_succ _)⟩
  cases hnm : nm u.data.toList with
  | false =>
    rw [show rv ⟨o.data.toList, f.data.toList, ep, bl rs, bl ws⟩ u.data.toList = (zero, 3) by unfold rv; rw [if_neg (by simpa using hr), if_pos (by rw [hnm]; decide)]]
    go_enter Tryz.func48, Tryz.ntmps48
    go_wp2_with fail
    (with_reducible refine (HRR.out _ (HA.out.below (al2 _ _ _) zl) (HBB.out.below (al2 _ _ _) zl)).mono ?_); rw [decide_eq_true hr]; rintro e w1 ⟨rfl, hb1⟩; have HT1 := zh (two_first hb1); clear hb1; obtain ⟨⟨c0, c1, c2, c3, c4, _⟩, ⟨r0, r1, r2, r3, r4, _⟩, ⟨f0, f1, f2, f3, f4⟩, _⟩ := HT1.out; dsimp only
    go_wp2_with fail
    (with_reducible refine (HU.out false hnm _).mono ?_); rintro e w2 ⟨rfl, hb2⟩; have HT2 := zh (HT1.out.more hb2); clear hb2 c0 c1 c2 c3 c4 r0 r1 r2 r3 r4 f0 f1 f2 f3 f4; obtain ⟨⟨c0, c1, c2, c3, c4, _⟩, ⟨r0, r1, r2, r3, r4, _⟩, ⟨f0, f1, f2, f3, f4⟩, _⟩ := HT2.out; dsimp only
    go_wp2
    refine bodyPost_ret (v := .tuple #[RV ⟨#[]⟩ ⟨#[]⟩ 0 none 0 0 none 0 0, .int .i64 3]) (by simp [results, Tryz.results48, go_sem, RV, r0, r1, r2, r3, r4]) rfl ?_
    exact ⟨⟨_, isX_zero _ _, rfl⟩, set5 HT2.out.2.2.2 (Nat.le_succ _)⟩
  | true =>
    rcases rv_cases ⟨o.data.toList, f.data.toList, ep, bl rs, bl ws⟩ u.data.toList hr hnm with ⟨e, h1, h2⟩ | ⟨e, h1, h2⟩ | ⟨h1, h2, e, _⟩
    · rw [e]
      simp only at h1 h2
      rw [decide_eq_false h1] at HH1; rw [decide_eq_false h2] at HH2
      go_enter Tryz.func48, Tryz.ntmps48
      go_wp2_with fail
      (with_reducible refine (HRR.out _ (HA.out.below (al2 _ _ _) zl) (HBB.out.below (al2 _ _ _) zl)).mono ?_); rw [decide_eq_true hr]; rintro e w1 ⟨rfl, hb1⟩; have HT1 := zh (two_first hb1); clear hb1; obtain ⟨⟨c0, c1, c2, c3, c4, _⟩, ⟨r0, r1, r2, r3, r4, _⟩, ⟨f0, f1, f2, f3, f4⟩, _⟩ := HT1.out; dsimp only
      go_wp2_with fail
      (with_reducible refine (HU.out true hnm _).mono ?_); rintro e w2 ⟨rfl, hb2⟩; have HT2 := zh (HT1.out.more hb2); clear hb2 c0 c1 c2 c3 c4 r0 r1 r2 r3 r4 f0 f1 f2 f3 f4; obtain ⟨⟨c0, c1, c2, c3, c4, _⟩, ⟨r0, r1, r2, r3, r4, _⟩, ⟨f0, f1, f2, f3, f4⟩, _⟩ := HT2.out; dsimp only
      go_wp2_with fail
      (with_reducible refine (HH1.out _ (HA.out.below HT2.out.bel zl)).mono ?_); rintro e w9 ⟨rfl, h9⟩
      obtain rfl : w2 = w9 := h9.symm
      dsimp only
      go_wp2_with fail
      (with_reducible refine (HH2.out _ (HBB.out.below HT2.out.bel zl)).mono ?_); rintro e w9 ⟨rfl, h9⟩
      obtain rfl : w2 = w9 := h9.symm
      dsimp only
      go_wp2
      refine bodyPost_ret (v := .tuple #[RV ⟨#[]⟩ ⟨#[]⟩ 0 none 0 0 none 0 0, .int .i64 4]) (by simp [results, Tryz.results48, go_sem, RV, r0, r1, r2, r3, r4]) rfl ?_
      exact ⟨⟨_, isX_zero _ _, rfl⟩, set5 HT2.out.2.2.2 (Nat.le_succ _)⟩
    · rw [e]
      simp only at h1 h2
      subst h2
      by_cases hin : u.data.toList ∈ bl rs
      · rw [decide_eq_true hin] at HH1
        go_enter Tryz.func48, Tryz.ntmps48
        go_wp2_with fail
        (with_reducible refine (HRR.out _ (HA.out.below (al2 _ _ _) zl) (HBB.out.below (al2 _ _ _) zl)).mono ?_); rw [decide_eq_true hr]; rintro e w1 ⟨rfl, hb1⟩; have HT1 := zh (two_first hb1); clear hb1; obtain ⟨⟨c0, c1, c2, c3, c4, _⟩, ⟨r0, r1, r2, r3, r4, _⟩, ⟨f0, f1, f2, f3, f4⟩, _⟩ := HT1.out; dsimp only
        go_wp2_with fail
        (with_reducible refine (HU.out true hnm _).mono ?_); rintro e w2 ⟨rfl, hb2⟩; have HT2 := zh (HT1.out.more hb2); clear hb2 c0 c1 c2 c3 c4 r0 r1 r2 r3 r4 f0 f1 f2 f3 f4; obtain ⟨⟨c0, c1, c2, c3, c4, _⟩, ⟨r0, r1, r2, r3, r4, _⟩, ⟨f0, f1, f2, f3, f4⟩, _⟩ := HT2.out; dsimp only
        go_wp2_with fail
        (with_reducible refine (HH1.out _ (HA.out.below HT2.out.bel zl)).mono ?_); rintro e w9 ⟨rfl, h9⟩
        obtain rfl : w2 = w9 := h9.symm
        dsimp only
        go_wp2
        refine bodyPost_ret (v := .tuple #[RV ⟨#[]⟩ ⟨#[]⟩ 0 none 0 0 none 0 0, .int .i64 9]) (by simp [results, Tryz.results48, go_sem, RV, r0, r1, r2, r3, r4]) rfl ?_
        exact ⟨⟨_, isX_zero _ _, rfl⟩, set5 HT2.out.2.2.2 (Nat.le_succ _)⟩
      · rw [decide_eq_false hin] at HH1
        rw [decide_eq_true (h1.resolve_left hin)] at HH2
        go_enter Tryz.func48, Tryz.ntmps48
        go_wp2_with fail
        (with_reducible refine (HRR.out _ (HA.out.below (al2 _ _ _) zl) (HBB.out.below (al2 _ _ _) zl)).mono ?_); rw [decide_eq_true hr]; rintro e w1 ⟨rfl, hb1⟩; have HT1 := zh (two_first hb1); clear hb1; obtain ⟨⟨c0, c1, c2, c3, c4, _⟩, ⟨r0, r1, r2, r3, r4, _⟩, ⟨f0, f1, f2, f3, f4⟩, _⟩ := HT1.out; dsimp only
        go_wp2_with fail
        (with_reducible refine (HU.out true hnm _).mono ?_); rintro e w2 ⟨rfl, hb2⟩; have HT2 := zh (HT1.out.more hb2); clear hb2 c0 c1 c2 c3 c4 r0 r1 r2 r3 r4 f0 f1 f2 f3 f4; obtain ⟨⟨c0, c1, c2, c3, c4, _⟩, ⟨r0, r1, r2, r3, r4, _⟩, ⟨f0, f1, f2, f3, f4⟩, _⟩ := HT2.out; dsimp only
        go_wp2_with fail
        (with_reducible refine (HH1.out _ (HA.out.below HT2.out.bel zl)).mono ?_); rintro e w9 ⟨rfl, h9⟩
        obtain rfl : w2 = w9 := h9.symm
        dsimp only
        go_wp2_with fail
        (with_reducible refine (HH2.out _ (HBB.out.below HT2.out.bel zl)).mono ?_); rintro e w9 ⟨rfl, h9⟩
        obtain rfl : w2 = w9 := h9.symm
        dsimp only
        go_wp2
        refine bodyPost_ret (v := .tuple #[RV ⟨#[]⟩ ⟨#[]⟩ 0 none 0 0 none 0 0, .int .i64 9]) (by simp [results, Tryz.results48, go_sem, RV, r0, r1, r2, r3, r4]) rfl ?_
        exact ⟨⟨_, isX_zero _ _, rfl⟩, set5 HT2.out.2.2.2 (Nat.le_succ _)⟩
    · rw [e]
      simp only at h1 h2
      have he7 : ¬ ep = 7 := by omega
      have hb7 : (ep == 7) = false := by simpa using he7
      have hep0 : 0 ≤ ep := hr.2.2.1.1
      have hw1 : IntKind.i64.wrap (ep + 1) = ep + 1 := by rw [IntKind.wrap_i64]; omega
      by_cases hin : u.data.toList ∈ bl rs
      · rw [decide_eq_true hin] at HH1
        go_enter Tryz.func48, Tryz.ntmps48
        go_wp2_with fail
        (with_reducible refine (HRR.out _ (HA.out.below (al2 _ _ _) zl) (HBB.out.below (al2 _ _ _) zl)).mono ?_); rw [decide_eq_true hr]; rintro e w1 ⟨rfl, hb1⟩; have HT1 := zh (two_first hb1); clear hb1; obtain ⟨⟨c0, c1, c2, c3, c4, _⟩, ⟨r0, r1, r2, r3, r4, _⟩, ⟨f0, f1, f2, f3, f4⟩, _⟩ := HT1.out; dsimp only
        go_wp2_with fail
        (with_reducible refine (HU.out true hnm _).mono ?_); rintro e w2 ⟨rfl, hb2⟩; have HT2 := zh (HT1.out.more hb2); clear hb2 c0 c1 c2 c3 c4 r0 r1 r2 r3 r4 f0 f1 f2 f3 f4; obtain ⟨⟨c0, c1, c2, c3, c4, _⟩, ⟨r0, r1, r2, r3, r4, _⟩, ⟨f0, f1, f2, f3, f4⟩, _⟩ := HT2.out; dsimp only
        go_wp2_with fail
        (with_reducible refine (HH1.out _ (HA.out.below HT2.out.bel zl)).mono ?_); rintro e w9 ⟨rfl, h9⟩
        obtain rfl : w2 = w9 := h9.symm
        dsimp only
        go_wp2_with fail
        have hT0 : Two w w2.drew o f ep A rs.length c B ws.length d := HT2.out.more (Below.drewN' (Below.refl w2.heap.size w2) 1)
        refine wp_region_held_drew (S := fun w' => Bx w.heap.size w' o f ep A rs.length c B ws.length d) (by kernel_rfl) hT0.1 (fun hHeld => ?_)
        clear c0 c1 c2 c3 c4 r0 r1 r2 r3 r4 f0 f1 f2 f3 f4; refine zqT 0 ?_ ?_ ?_; rotate_left
        · intro w' hSw; obtain ⟨c0, c1, c2, c3, c4, _⟩ := hSw; go_simp; try with_reducible rfl
        (try simp only [Act.put, zq1, zq2, zq3]); refine zqT 1 ?_ ?_ ?_; rotate_left
        · intro w' hSw; obtain ⟨c0, c1, c2, c3, c4, _⟩ := hSw; go_simp; try with_reducible rfl
        (try simp only [Act.put, zq1, zq2, zq3]); refine zqT 2 ?_ ?_ ?_; rotate_left
        · intro w' hSw; obtain ⟨c0, c1, c2, c3, c4, _⟩ := hSw; go_simp; try with_reducible rfl
        (try simp only [Act.put, zq1, zq2, zq3]); refine zqT 3 ?_ ?_ ?_; rotate_left
        · intro w' hSw; obtain ⟨c0, c1, c2, c3, c4, _⟩ := hSw; go_simp; try with_reducible rfl
        (try simp only [Act.put, zq1, zq2, zq3]); refine zqT 4 ?_ ?_ ?_; rotate_left
        · intro w' hSw; obtain ⟨c0, c1, c2, c3, c4, _⟩ := hSw; go_simp; try with_reducible rfl
        (try simp only [Act.put, zq1, zq2, zq3]); refine zqT 5 ?_ ?_ ?_; rotate_left
        · intro w' hSw; obtain ⟨c0, c1, c2, c3, c4, _⟩ := hSw; go_simp; try with_reducible rfl
        (try simp only [Act.put, zq1, zq2, zq3]); refine zqT 6 ?_ ?_ ?_; rotate_left
        · intro w' hSw; obtain ⟨c0, c1, c2, c3, c4, _⟩ := hSw; go_simp; try with_reducible rfl
        (try simp only [Act.put, zq1, zq2, zq3]); refine zqT 7 ?_ ?_ ?_; rotate_left
        · intro w' hSw; obtain ⟨c0, c1, c2, c3, c4, _⟩ := hSw; go_simp; try with_reducible rfl
        (try simp only [Act.put, zq1, zq2, zq3]); refine zqT 8 ?_ ?_ ?_; rotate_left
        · intro w' hSw; obtain ⟨c0, c1, c2, c3, c4, _⟩ := hSw; go_simp; try with_reducible rfl
        (try simp only [Act.put, zq1, zq2, zq3]); refine zqT 9 ?_ ?_ ?_; rotate_left
        · intro w' hSw; obtain ⟨c0, c1, c2, c3, c4, _⟩ := hSw; go_simp; try with_reducible rfl
        (try simp only [Act.put, zq1, zq2, zq3]); refine zqT 11 ?_ ?_ ?_; rotate_left
        · intro w' hSw; obtain ⟨c0, c1, c2, c3, c4, _⟩ := hSw; go_simp; try with_reducible rfl
        (try simp only [Act.put, zq1, zq2, zq3]); refine zqT 12 ?_ ?_ ?_; rotate_left
        · intro w' hSw; obtain ⟨c0, c1, c2, c3, c4, _⟩ := hSw; go_simp; try with_reducible rfl
        (try simp only [Act.put, zq1, zq2, zq3]); refine zqT 13 ?_ ?_ ?_; rotate_left
        · intro w' hSw; obtain ⟨c0, c1, c2, c3, c4, _⟩ := hSw; go_simp; try with_reducible rfl
        (try simp only [Act.put, zq1, zq2, zq3]); clear hHeld; refine zqR [10] ?_
        refine zqN fun K hK => ?_
        go_simp
        go_at_call 100
        (with_reducible refine (HW1.out _ (HA.out.below hT0.bel zl)).mono ?_); rintro e w3 ⟨⟨A1, c1', y1, hy1, hc1, hs1, hf1, rfl⟩, hb3⟩
        have hT3 := hT0.more hb3
        dsimp only; refine hK.out _ _ hT3.1 (fun hHeld => ?_); (try simp only [Act.put, zq1, zq2, zq3]); clear hHeld; refine zqR [14] ?_
        refine zqN fun K hK => ?_
        go_simp
        go_at_call 100
        (with_reducible refine (HW2.out _ (HBB.out.below hT3.bel zl)).mono ?_); rintro e w4 ⟨⟨A2, c2', y2, hy2, hc2, hs2, hf2, rfl⟩, hb4⟩
        have hT4 := hT3.more hb4
        dsimp only; refine hK.out _ _ hT4.1 (fun hHeld => ?_); (try simp only [Act.put, zq1, zq2, zq3]); refine zqT 15 ?_ ?_ ?_; rotate_left
        · intro w' hSw; obtain ⟨c0, c1, c2, c3, c4, _⟩ := hSw; go_simp; try with_reducible rfl
        (try simp only [Act.put, zq1, zq2, zq3]); clear hHeld; obtain ⟨_, ⟨r0, r1, r2, r3, r4, _⟩, ⟨f0, f1, f2, f3, f4⟩, hbw⟩ := id hT4; refine zqR [16] ?_
        refine zqN fun K hK => ?_
        go_simp

        refine hK.out _ _ (hT4.1.below (bel_set5 w4) (Nat.lt_succ_self _)) (fun hHeld => ?_); (try simp only [Act.put, zq1, zq2, zq3]); refine zqT 17 ?_ ?_ ?_; rotate_left
        · intro w' hSw; obtain ⟨c0, c1, c2, c3, c4, _⟩ := hSw; go_simp; try with_reducible rfl
        try simp only [Act.put, zq1, zq2, zq3]
        refine wpAnyH_done (by kernel_rfl) ?_ _
        go_wp2
        refine bodyPost_ret (v := .tuple #[RV o f (ep + 1) A1 y1.length c1' A2 y2.length c2', .int .i64 0]) (by simp [results, Tryz.results48, go_sem, RV, r0, r1, r2, r3, r4]) rfl ?_
        have n1 : ∀ b off, A1 = some ⟨b, off, none⟩ → b ≠ w.heap.size + 1 := fun b off h => by
          have h1 := hf1 b off h
          have h2 := hT0.2.1.2.2.2.2.2
          exact fun e => absurd (Nat.lt_of_lt_of_le h2 h1) (by rw [e]; exact Nat.lt_irrefl _)
        have n2 : ∀ b off, A2 = some ⟨b, off, none⟩ → b ≠ w.heap.size + 1 := fun b off h => by
          have h1 := hf2 b off h
          have h2 := hT3.2.1.2.2.2.2.2
          exact fun e => absurd (Nat.lt_of_lt_of_le h2 h1) (by rw [e]; exact Nat.lt_irrefl _)
        have q1 : ∀ b off, A1 = some ⟨b, off, none⟩ → 0 < y1.length → w.heap.size ≤ b := fun b off h _ => by
          have h1 := hf1 b off h
          have h2 := hT0.2.1.2.2.2.2.2
          exact Nat.le_trans (Nat.le_trans (Nat.le_succ _) (Nat.le_of_lt h2)) h1
        have q2 : ∀ b off, A2 = some ⟨b, off, none⟩ → 0 < y2.length → w.heap.size ≤ b := fun b off h _ => by
          have h1 := hf2 b off h
          have h2 := hT3.2.1.2.2.2.2.2
          exact Nat.le_trans (Nat.le_trans (Nat.le_succ _) (Nat.le_of_lt h2)) h1
        exact ⟨⟨_, ⟨o, f, A1, c1', y1, A2, c2', y2, rfl, by simp only [hy1, hy2], sreads_set5 (hs1.below hb4 zl) n1, sreads_set5 hs2 n2, hc1, hc2, q1, q2⟩, rfl⟩, set5 hbw (Nat.le_succ _)⟩
      · rw [decide_eq_false hin] at HH1
        rw [decide_eq_true (h1.resolve_left hin)] at HH2
        go_enter Tryz.func48, Tryz.ntmps48
        go_wp2_with fail
        (with_reducible refine (HRR.out _ (HA.out.below (al2 _ _ _) zl) (HBB.out.below (al2 _ _ _) zl)).mono ?_); rw [decide_eq_true hr]; rintro e w1 ⟨rfl, hb1⟩; have HT1 := zh (two_first hb1); clear hb1; obtain ⟨⟨c0, c1, c2, c3, c4, _⟩, ⟨r0, r1, r2, r3, r4, _⟩, ⟨f0, f1, f2, f3, f4⟩, _⟩ := HT1.out; dsimp only
        go_wp2_with fail
        (with_reducible refine (HU.out true hnm _).mono ?_); rintro e w2 ⟨rfl, hb2⟩; have HT2 := zh (HT1.out.more hb2); clear hb2 c0 c1 c2 c3 c4 r0 r1 r2 r3 r4 f0 f1 f2 f3 f4; obtain ⟨⟨c0, c1, c2, c3, c4, _⟩, ⟨r0, r1, r2, r3, r4, _⟩, ⟨f0, f1, f2, f3, f4⟩, _⟩ := HT2.out; dsimp only
        go_wp2_with fail
        (with_reducible refine (HH1.out _ (HA.out.below HT2.out.bel zl)).mono ?_); rintro e w9 ⟨rfl, h9⟩
        obtain rfl : w2 = w9 := h9.symm
        dsimp only
        go_wp2_with fail
        (with_reducible refine (HH2.out _ (HBB.out.below HT2.out.bel zl)).mono ?_); rintro e w9 ⟨rfl, h9⟩
        obtain rfl : w2 = w9 := h9.symm
        dsimp only
        go_wp2_with fail
        have hT0 : Two w w2.drew o f ep A rs.length c B ws.length d := HT2.out.more (Below.drewN' (Below.refl w2.heap.size w2) 1)
        refine wp_region_held_drew (S := fun w' => Bx w.heap.size w' o f ep A rs.length c B ws.length d) (by kernel_rfl) hT0.1 (fun hHeld => ?_)
        clear c0 c1 c2 c3 c4 r0 r1 r2 r3 r4 f0 f1 f2 f3 f4; refine zqT 0 ?_ ?_ ?_; rotate_left
        · intro w' hSw; obtain ⟨c0, c1, c2, c3, c4, _⟩ := hSw; go_simp; try with_reducible rfl
        (try simp only [Act.put, zq1, zq2, zq3]); refine zqT 1 ?_ ?_ ?_; rotate_left
        · intro w' hSw; obtain ⟨c0, c1, c2, c3, c4, _⟩ := hSw; go_simp; try with_reducible rfl
        (try simp only [Act.put, zq1, zq2, zq3]); refine zqT 2 ?_ ?_ ?_; rotate_left
        · intro w' hSw; obtain ⟨c0, c1, c2, c3, c4, _⟩ := hSw; go_simp; try with_reducible rfl
        (try simp only [Act.put, zq1, zq2, zq3]); refine zqT 3 ?_ ?_ ?_; rotate_left
        · intro w' hSw; obtain ⟨c0, c1, c2, c3, c4, _⟩ := hSw; go_simp; try with_reducible rfl
        (try simp only [Act.put, zq1, zq2, zq3]); refine zqT 4 ?_ ?_ ?_; rotate_left
        · intro w' hSw; obtain ⟨c0, c1, c2, c3, c4, _⟩ := hSw; go_simp; try with_reducible rfl
        (try simp only [Act.put, zq1, zq2, zq3]); refine zqT 5 ?_ ?_ ?_; rotate_left
        · intro w' hSw; obtain ⟨c0, c1, c2, c3, c4, _⟩ := hSw; go_simp; try with_reducible rfl
        (try simp only [Act.put, zq1, zq2, zq3]); refine zqT 6 ?_ ?_ ?_; rotate_left
        · intro w' hSw; obtain ⟨c0, c1, c2, c3, c4, _⟩ := hSw; go_simp; try with_reducible rfl
        (try simp only [Act.put, zq1, zq2, zq3]); refine zqT 7 ?_ ?_ ?_; rotate_left
        · intro w' hSw; obtain ⟨c0, c1, c2, c3, c4, _⟩ := hSw; go_simp; try with_reducible rfl
        (try simp only [Act.put, zq1, zq2, zq3]); refine zqT 8 ?_ ?_ ?_; rotate_left
        · intro w' hSw; obtain ⟨c0, c1, c2, c3, c4, _⟩ := hSw; go_simp; try with_reducible rfl
        (try simp only [Act.put, zq1, zq2, zq3]); refine zqT 9 ?_ ?_ ?_; rotate_left
        · intro w' hSw; obtain ⟨c0, c1, c2, c3, c4, _⟩ := hSw; go_simp; try with_reducible rfl
        (try simp only [Act.put, zq1, zq2, zq3]); refine zqT 11 ?_ ?_ ?_; rotate_left
        · intro w' hSw; obtain ⟨c0, c1, c2, c3, c4, _⟩ := hSw; go_simp; try with_reducible rfl
        (try simp only [Act.put, zq1, zq2, zq3]); refine zqT 12 ?_ ?_ ?_; rotate_left
        · intro w' hSw; obtain ⟨c0, c1, c2, c3, c4, _⟩ := hSw; go_simp; try with_reducible rfl
        (try simp only [Act.put, zq1, zq2, zq3]); refine zqT 13 ?_ ?_ ?_; rotate_left
        · intro w' hSw; obtain ⟨c0, c1, c2, c3, c4, _⟩ := hSw; go_simp; try with_reducible rfl
        (try simp only [Act.put, zq1, zq2, zq3]); clear hHeld; refine zqR [10] ?_
        refine zqN fun K hK => ?_
        go_simp
        go_at_call 100
        (with_reducible refine (HW1.out _ (HA.out.below hT0.bel zl)).mono ?_); rintro e w3 ⟨⟨A1, c1', y1, hy1, hc1, hs1, hf1, rfl⟩, hb3⟩
        have hT3 := hT0.more hb3
        dsimp only; refine hK.out _ _ hT3.1 (fun hHeld => ?_); (try simp only [Act.put, zq1, zq2, zq3]); clear hHeld; refine zqR [14] ?_
        refine zqN fun K hK => ?_
        go_simp
        go_at_call 100
        (with_reducible refine (HW2.out _ (HBB.out.below hT3.bel zl)).mono ?_); rintro e w4 ⟨⟨A2, c2', y2, hy2, hc2, hs2, hf2, rfl⟩, hb4⟩
        have hT4 := hT3.more hb4
        dsimp only; refine hK.out _ _ hT4.1 (fun hHeld => ?_); (try simp only [Act.put, zq1, zq2, zq3]); refine zqT 15 ?_ ?_ ?_; rotate_left
        · intro w' hSw; obtain ⟨c0, c1, c2, c3, c4, _⟩ := hSw; go_simp; try with_reducible rfl
        (try simp only [Act.put, zq1, zq2, zq3]); clear hHeld; obtain ⟨_, ⟨r0, r1, r2, r3, r4, _⟩, ⟨f0, f1, f2, f3, f4⟩, hbw⟩ := id hT4; refine zqR [16] ?_
        refine zqN fun K hK => ?_
        go_simp

        refine hK.out _ _ (hT4.1.below (bel_set5 w4) (Nat.lt_succ_self _)) (fun hHeld => ?_); (try simp only [Act.put, zq1, zq2, zq3]); refine zqT 17 ?_ ?_ ?_; rotate_left
        · intro w' hSw; obtain ⟨c0, c1, c2, c3, c4, _⟩ := hSw; go_simp; try with_reducible rfl
        try simp only [Act.put, zq1, zq2, zq3]
        refine wpAnyH_done (by kernel_rfl) ?_ _
        go_wp2
        refine bodyPost_ret (v := .tuple #[RV o f (ep + 1) A1 y1.length c1' A2 y2.length c2', .int .i64 0]) (by simp [results, Tryz.results48, go_sem, RV, r0, r1, r2, r3, r4]) rfl ?_
        have n1 : ∀ b off, A1 = some ⟨b, off, none⟩ → b ≠ w.heap.size + 1 := fun b off h => by
          have h1 := hf1 b off h
          have h2 := hT0.2.1.2.2.2.2.2
          exact fun e => absurd (Nat.lt_of_lt_of_le h2 h1) (by rw [e]; exact Nat.lt_irrefl _)
        have n2 : ∀ b off, A2 = some ⟨b, off, none⟩ → b ≠ w.heap.size + 1 := fun b off h => by
          have h1 := hf2 b off h
          have h2 := hT3.2.1.2.2.2.2.2
          exact fun e => absurd (Nat.lt_of_lt_of_le h2 h1) (by rw [e]; exact Nat.lt_irrefl _)
        have q1 : ∀ b off, A1 = some ⟨b, off, none⟩ → 0 < y1.length → w.heap.size ≤ b := fun b off h _ => by
          have h1 := hf1 b off h
          have h2 := hT0.2.1.2.2.2.2.2
          exact Nat.le_trans (Nat.le_trans (Nat.le_succ _) (Nat.le_of_lt h2)) h1
        have q2 : ∀ b off, A2 = some ⟨b, off, none⟩ → 0 < y2.length → w.heap.size ≤ b := fun b off h _ => by
          have h1 := hf2 b off h
          have h2 := hT3.2.1.2.2.2.2.2
          exact Nat.le_trans (Nat.le_trans (Nat.le_succ _) (Nat.le_of_lt h2)) h1
        exact ⟨⟨_, ⟨o, f, A1, c1', y1, A2, c2', y2, rfl, by simp only [hy1, hy2], sreads_set5 (hs1.below hb4 zl) n1, sreads_set5 hs2 n2, hc1, hc2, q1, q2⟩, rfl⟩, set5 hbw (Nat.le_succ _)⟩
end Go.Proofs.YtlkgjceddbclpaaGreat.Rig

namespace Go.Proofs.YtlkgjceddbclpaaGreat.Rig
open Go.RowKit Wire

set_option linter.unusedSimpArgs false
theorem sreads_setL {w : World} {A : Option Addr} {ys : List ByteArray} (h : SReads w A ys) {R j : Nat} {v : Value} (hR : ∀ b off, A = some ⟨b, off, none⟩ → 0 < ys.length → b ≠ R) : SReads (w.setCell ⟨R, j, none⟩ v) A ys := fun i hi => by
  obtain ⟨b, off, e, hb, hc⟩ := h i hi
  refine ⟨b, off, e, by simpa [World.setCell] using hb, ?_⟩
  rw [World.cell?_setCell_other w ⟨R, j, none⟩ ⟨b, off + i, none⟩ v (fun e2 => hR b off e (by omega) (by injection e2 with e3 _ _; exact e3.symm))]
  exact hc
theorem sreads_setL5 {w : World} {A : Option Addr} {ys : List ByteArray} (h : SReads w A ys) {R : Nat} {v0 v1 v2 v3 v4 : Value} (hR : ∀ b off, A = some ⟨b, off, none⟩ → 0 < ys.length → b ≠ R) : SReads (((((w.setCell ⟨R, 0, none⟩ v0).setCell ⟨R, 1, none⟩ v1).setCell ⟨R, 2, none⟩ v2).setCell ⟨R, 3, none⟩ v3).setCell ⟨R, 4, none⟩ v4) A ys :=
  sreads_setL (sreads_setL (sreads_setL (sreads_setL (sreads_setL h hR) hR) hR) hR) hR
theorem bx_set5 {R : Nat} {w : World} {o' f' : ByteArray} {ep' : Int} {A' : Option Addr} {n' c' : Nat} {B' : Option Addr} {m' d' : Nat} {o f : ByteArray} {ep : Int} {A : Option Addr} {n c : Nat} {B : Option Addr} {m d : Nat} (h : Bx R w o' f' ep' A' n' c' B' m' d') :
    Bx R (((((w.setCell ⟨R, 0, none⟩ (.string o)).setCell ⟨R, 1, none⟩ (.string f)).setCell ⟨R, 2, none⟩ (.int .i64 ep)).setCell ⟨R, 3, none⟩ (.slice A n c)).setCell ⟨R, 4, none⟩ (.slice B m d)) o f ep A n c B m d := by
  obtain ⟨h0, h1, h2, h3, h4, h5⟩ := h
  refine ⟨?_, ?_, ?_, ?_, ?_, by simpa [World.setCell] using h5⟩ <;> simp [World.cell?_setCell_other, World.cell?_setCell_same', h0, h1, h2, h3, h4]
theorem sf_set5 {R : Nat} {w : World} {v0 v1 v2 v3 v4 : Value} (h : Sf R w) : Sf R (((((w.setCell ⟨R, 0, none⟩ v0).setCell ⟨R, 1, none⟩ v1).setCell ⟨R, 2, none⟩ v2).setCell ⟨R, 3, none⟩ v3).setCell ⟨R, 4, none⟩ v4) := by
  obtain ⟨h0, h1, h2, h3, h4⟩ := h
  refine ⟨?_, ?_, ?_, ?_, ?_⟩ <;> simp [h0, h1, h2, h3, h4]
theorem two_set5 {w w1 : World} {o f : ByteArray} {ep : Int} {A : Option Addr} {n c : Nat} {B : Option Addr} {m d : Nat} {G : Nat} {v0 v1 v2 v3 v4 : Value} (h : Two w w1 o f ep A n c B m d) (hG : w.heap.size + 1 < G) :
    Two w (((((w1.setCell ⟨G, 0, none⟩ v0).setCell ⟨G, 1, none⟩ v1).setCell ⟨G, 2, none⟩ v2).setCell ⟨G, 3, none⟩ v3).setCell ⟨G, 4, none⟩ v4) o f ep A n c B m d :=
  ⟨h.1.below (bel_set5 w1) (by omega), h.2.1.below (bel_set5 w1) hG, h.2.2.1.below (bel_set5 w1) hG, set5 h.bel (by omega)⟩
set_option maxHeartbeats 8000000 in
set_option maxRecDepth 1000000 in
theorem rgrant_any (o f : ByteArray) (ep : Int) (A : Option Addr) (c : Nat) (rs : List ByteArray) (B : Option Addr) (d : Nat) (ws : List ByteArray) (u : ByteArray) (wr : Bool) (w : World) (hA : SReads w A rs) (hB : SReads w B ws) (hf : Few ⟨o.data.toList, f.data.toList, ep, bl rs, bl ws⟩) (hu : u.size ≤ 1000000) :
    Calls Tryz.prog 47 #[RV o f ep A rs.length c B ws.length d, .string u, .bool wr] w fun e w' => Re (fun b => w.heap.size ≤ b) (gr ⟨o.data.toList, f.data.toList, ep, bl rs, bl ws⟩ u.data.toList wr) e w' ∧ Below w.heap.size w w' := by
  have HA := zh hA; have HBB := zh hB
  have hl1 : rs.length ≤ 40 := by have := hf.2.2.1; rw [bl_len] at this; exact this
  have hl2 : ws.length ≤ 40 := by have := hf.2.2.2.1; rw [bl_len] at this; exact this
  have HRR := zh fun w h1 h2 => rright_any o f ep A c rs B d ws w h1 h2 hf
  have HU := zh fun v h w => refright_is u v h w hu
  have HH1 := zh fun w h => rhas_any A c rs u w h (by omega)
  have HH2 := zh fun w h => rhas_any B d ws u w h (by omega)
  clear hA hB hf
  unfold RV at HRR ⊢
  by_cases hr : RR ⟨o.data.toList, f.data.toList, ep, bl rs, bl ws⟩
  case neg =>
    rw [show gr ⟨o.data.toList, f.data.toList, ep, bl rs, bl ws⟩ u.data.toList wr = (zero, 1) by unfold gr; rw [if_pos hr]]
    go_enter Tryz.func47, Tryz.ntmps47
    go_wp2_with fail
    (with_reducible refine (HRR.out _ (HA.out.below (al2 _ _ _) zl) (HBB.out.below (al2 _ _ _) zl)).mono ?_); rw [decide_eq_false hr]; rintro e w1 ⟨rfl, hb1⟩; have HT1 := zh (two_first hb1); clear hb1; obtain ⟨⟨c0, c1, c2, c3, c4, _⟩, ⟨r0, r1, r2, r3, r4, _⟩, ⟨f0, f1, f2, f3, f4⟩, _⟩ := HT1.out; dsimp only
    go_wp2
    refine bodyPost_ret (v := .tuple #[RV ⟨#[]⟩ ⟨#[]⟩ 0 none 0 0 none 0 0, .int .i64 1]) (by simp [results, Tryz.results47, go_sem, RV, r0, r1, r2, r3, r4]) rfl ?_
    exact ⟨⟨_, isX_zero _ _, rfl⟩, set5 HT1.out.2.2.2 (Nat.le_succ _)⟩
  cases hnm : nm u.data.toList with
  | false =>
    rw [show gr ⟨o.data.toList, f.data.toList, ep, bl rs, bl ws⟩ u.data.toList wr = (zero, 3) by unfold gr; rw [if_neg (by simpa using hr), if_pos (by rw [hnm]; decide)]]
    go_enter Tryz.func47, Tryz.ntmps47
    go_wp2_with fail
    (with_reducible refine (HRR.out _ (HA.out.below (al2 _ _ _) zl) (HBB.out.below (al2 _ _ _) zl)).mono ?_); rw [decide_eq_true hr]; rintro e w1 ⟨rfl, hb1⟩; have HT1 := zh (two_first hb1); clear hb1; obtain ⟨⟨c0, c1, c2, c3, c4, _⟩, ⟨r0, r1, r2, r3, r4, _⟩, ⟨f0, f1, f2, f3, f4⟩, _⟩ := HT1.out; dsimp only
    go_wp2_with fail
    (with_reducible refine (HU.out false hnm _).mono ?_); rintro e w2 ⟨rfl, hb2⟩; have HT2 := zh (HT1.out.more hb2); clear hb2 c0 c1 c2 c3 c4 r0 r1 r2 r3 r4 f0 f1 f2 f3 f4; obtain ⟨⟨c0, c1, c2, c3, c4, _⟩, ⟨r0, r1, r2, r3, r4, _⟩, ⟨f0, f1, f2, f3, f4⟩, _⟩ := HT2.out; dsimp only
    go_wp2
    refine bodyPost_ret (v := .tuple #[RV ⟨#[]⟩ ⟨#[]⟩ 0 none 0 0 none 0 0, .int .i64 3]) (by simp [results, Tryz.results47, go_sem, RV, r0, r1, r2, r3, r4]) rfl ?_
    exact ⟨⟨_, isX_zero _ _, rfl⟩, set5 HT2.out.2.2.2 (Nat.le_succ _)⟩
  | true =>
    rcases gr_cases ⟨o.data.toList, f.data.toList, ep, bl rs, bl ws⟩ u.data.toList wr hr hnm with ⟨e, h1⟩ | ⟨e, h1, h2⟩ | ⟨h1, h2, e, _⟩
    · rw [e]
      simp only at h1
      by_cases hown : u.data.toList = o.data.toList
      · have q := s_eq hown
        go_enter Tryz.func47, Tryz.ntmps47
        go_wp2_with fail
        (with_reducible refine (HRR.out _ (HA.out.below (al2 _ _ _) zl) (HBB.out.below (al2 _ _ _) zl)).mono ?_); rw [decide_eq_true hr]; rintro e w1 ⟨rfl, hb1⟩; have HT1 := zh (two_first hb1); clear hb1; obtain ⟨⟨c0, c1, c2, c3, c4, _⟩, ⟨r0, r1, r2, r3, r4, _⟩, ⟨f0, f1, f2, f3, f4⟩, _⟩ := HT1.out; dsimp only
        go_wp2_with fail
        (with_reducible refine (HU.out true hnm _).mono ?_); rintro e w2 ⟨rfl, hb2⟩; have HT2 := zh (HT1.out.more hb2); clear hb2 c0 c1 c2 c3 c4 r0 r1 r2 r3 r4 f0 f1 f2 f3 f4; obtain ⟨⟨c0, c1, c2, c3, c4, _⟩, ⟨r0, r1, r2, r3, r4, _⟩, ⟨f0, f1, f2, f3, f4⟩, _⟩ := HT2.out; dsimp only
        go_wp2
        refine bodyPost_ret (v := .tuple #[RV ⟨#[]⟩ ⟨#[]⟩ 0 none 0 0 none 0 0, .int .i64 5]) (by simp [results, Tryz.results47, go_sem, RV, r0, r1, r2, r3, r4]) rfl ?_
        exact ⟨⟨_, isX_zero _ _, rfl⟩, set5 HT2.out.2.2.2 (Nat.le_succ _)⟩
      have q := s_ne hown
      by_cases hin : u.data.toList ∈ bl rs
      · rw [decide_eq_true hin] at HH1
        go_enter Tryz.func47, Tryz.ntmps47
        go_wp2_with fail
        (with_reducible refine (HRR.out _ (HA.out.below (al2 _ _ _) zl) (HBB.out.below (al2 _ _ _) zl)).mono ?_); rw [decide_eq_true hr]; rintro e w1 ⟨rfl, hb1⟩; have HT1 := zh (two_first hb1); clear hb1; obtain ⟨⟨c0, c1, c2, c3, c4, _⟩, ⟨r0, r1, r2, r3, r4, _⟩, ⟨f0, f1, f2, f3, f4⟩, _⟩ := HT1.out; dsimp only
        go_wp2_with fail
        (with_reducible refine (HU.out true hnm _).mono ?_); rintro e w2 ⟨rfl, hb2⟩; have HT2 := zh (HT1.out.more hb2); clear hb2 c0 c1 c2 c3 c4 r0 r1 r2 r3 r4 f0 f1 f2 f3 f4; obtain ⟨⟨c0, c1, c2, c3, c4, _⟩, ⟨r0, r1, r2, r3, r4, _⟩, ⟨f0, f1, f2, f3, f4⟩, _⟩ := HT2.out; dsimp only
        go_wp2_with fail
        (with_reducible refine (HH1.out _ (HA.out.below HT2.out.bel zl)).mono ?_); rintro e w9 ⟨rfl, h9⟩
        obtain rfl : w2 = w9 := h9.symm
        dsimp only
        go_wp2
        refine bodyPost_ret (v := .tuple #[RV ⟨#[]⟩ ⟨#[]⟩ 0 none 0 0 none 0 0, .int .i64 5]) (by simp [results, Tryz.results47, go_sem, RV, r0, r1, r2, r3, r4]) rfl ?_
        exact ⟨⟨_, isX_zero _ _, rfl⟩, set5 HT2.out.2.2.2 (Nat.le_succ _)⟩
      · rw [decide_eq_false hin] at HH1
        rw [decide_eq_true ((h1.resolve_left hown).resolve_left hin)] at HH2
        go_enter Tryz.func47, Tryz.ntmps47
        go_wp2_with fail
        (with_reducible refine (HRR.out _ (HA.out.below (al2 _ _ _) zl) (HBB.out.below (al2 _ _ _) zl)).mono ?_); rw [decide_eq_true hr]; rintro e w1 ⟨rfl, hb1⟩; have HT1 := zh (two_first hb1); clear hb1; obtain ⟨⟨c0, c1, c2, c3, c4, _⟩, ⟨r0, r1, r2, r3, r4, _⟩, ⟨f0, f1, f2, f3, f4⟩, _⟩ := HT1.out; dsimp only
        go_wp2_with fail
        (with_reducible refine (HU.out true hnm _).mono ?_); rintro e w2 ⟨rfl, hb2⟩; have HT2 := zh (HT1.out.more hb2); clear hb2 c0 c1 c2 c3 c4 r0 r1 r2 r3 r4 f0 f1 f2 f3 f4; obtain ⟨⟨c0, c1, c2, c3, c4, _⟩, ⟨r0, r1, r2, r3, r4, _⟩, ⟨f0, f1, f2, f3, f4⟩, _⟩ := HT2.out; dsimp only
        go_wp2_with fail
        (with_reducible refine (HH1.out _ (HA.out.below HT2.out.bel zl)).mono ?_); rintro e w9 ⟨rfl, h9⟩
        obtain rfl : w2 = w9 := h9.symm
        dsimp only
        go_wp2_with fail
        (with_reducible refine (HH2.out _ (HBB.out.below HT2.out.bel zl)).mono ?_); rintro e w9 ⟨rfl, h9⟩
        obtain rfl : w2 = w9 := h9.symm
        dsimp only
        go_wp2
        refine bodyPost_ret (v := .tuple #[RV ⟨#[]⟩ ⟨#[]⟩ 0 none 0 0 none 0 0, .int .i64 5]) (by simp [results, Tryz.results47, go_sem, RV, r0, r1, r2, r3, r4]) rfl ?_
        exact ⟨⟨_, isX_zero _ _, rfl⟩, set5 HT2.out.2.2.2 (Nat.le_succ _)⟩
    · rw [e]
      simp only [bl_len] at h1 h2
      have q := s_ne fun h => h1 (.inl h)
      rw [decide_eq_false fun h => h1 (.inr (.inl h))] at HH1; rw [decide_eq_false fun h => h1 (.inr (.inr h))] at HH2
      go_enter Tryz.func47, Tryz.ntmps47
      go_wp2_with fail
      (with_reducible refine (HRR.out _ (HA.out.below (al2 _ _ _) zl) (HBB.out.below (al2 _ _ _) zl)).mono ?_); rw [decide_eq_true hr]; rintro e w1 ⟨rfl, hb1⟩; have HT1 := zh (two_first hb1); clear hb1; obtain ⟨⟨c0, c1, c2, c3, c4, _⟩, ⟨r0, r1, r2, r3, r4, _⟩, ⟨f0, f1, f2, f3, f4⟩, _⟩ := HT1.out; dsimp only
      go_wp2_with fail
      (with_reducible refine (HU.out true hnm _).mono ?_); rintro e w2 ⟨rfl, hb2⟩; have HT2 := zh (HT1.out.more hb2); clear hb2 c0 c1 c2 c3 c4 r0 r1 r2 r3 r4 f0 f1 f2 f3 f4; obtain ⟨⟨c0, c1, c2, c3, c4, _⟩, ⟨r0, r1, r2, r3, r4, _⟩, ⟨f0, f1, f2, f3, f4⟩, _⟩ := HT2.out; dsimp only
      go_wp2_with fail
      (with_reducible refine (HH1.out _ (HA.out.below HT2.out.bel zl)).mono ?_); rintro e w9 ⟨rfl, h9⟩
      obtain rfl : w2 = w9 := h9.symm
      dsimp only
      go_wp2_with fail
      (with_reducible refine (HH2.out _ (HBB.out.below HT2.out.bel zl)).mono ?_); rintro e w9 ⟨rfl, h9⟩
      obtain rfl : w2 = w9 := h9.symm
      dsimp only
      go_wp2
      refine bodyPost_ret (v := .tuple #[RV ⟨#[]⟩ ⟨#[]⟩ 0 none 0 0 none 0 0, .int .i64 10]) (by simp [results, Tryz.results47, go_sem, RV, r0, r1, r2, r3, r4]) rfl ?_
      exact ⟨⟨_, isX_zero _ _, rfl⟩, set5 HT2.out.2.2.2 (Nat.le_succ _)⟩
    · simp only [bl_len] at h1 h2
      have q := s_ne fun h => h1 (.inl h)
      rw [decide_eq_false fun h => h1 (.inr (.inl h))] at HH1; rw [decide_eq_false fun h => h1 (.inr (.inr h))] at HH2
      have HW1 : Hid (∀ w, SReads w A rs → Calls Tryz.prog 100 #[.slice A rs.length c, .string ⟨#[]⟩] w fun e w' => Lst w.heap.size (bl rs) e w' ∧ Below w.heap.size w w') := fun w h => by
        have h2 := rwithout_any A c rs ⟨#[]⟩ w h (by omega)
        rw [show (ByteArray.mk #[]).data.toList = ([] : Tm) from rfl, del_not (fun hm => by have := hr.2.2.2.2.1.1 _ hm; exact absurd this.1 (by decide))] at h2
        exact h2
      have HW2 : Hid (∀ w, SReads w B ws → Calls Tryz.prog 100 #[.slice B ws.length d, .string ⟨#[]⟩] w fun e w' => Lst w.heap.size (bl ws) e w' ∧ Below w.heap.size w w') := fun w h => by
        have h2 := rwithout_any B d ws ⟨#[]⟩ w h (by omega)
        rw [show (ByteArray.mk #[]).data.toList = ([] : Tm) from rfl, del_not (fun hm => by have := hr.2.2.2.2.2.1.1 _ hm; exact absurd this.1 (by decide))] at h2
        exact h2
      rcases e with ⟨rfl, e⟩ | ⟨rfl, e⟩
      · rw [e]
        go_enter Tryz.func47, Tryz.ntmps47
        go_wp2_with fail
        (with_reducible refine (HRR.out _ (HA.out.below (al2 _ _ _) zl) (HBB.out.below (al2 _ _ _) zl)).mono ?_); rw [decide_eq_true hr]; rintro e w1 ⟨rfl, hb1⟩; have HT1 := zh (two_first hb1); clear hb1; obtain ⟨⟨c0, c1, c2, c3, c4, _⟩, ⟨r0, r1, r2, r3, r4, _⟩, ⟨f0, f1, f2, f3, f4⟩, _⟩ := HT1.out; dsimp only
        go_wp2_with fail
        (with_reducible refine (HU.out true hnm _).mono ?_); rintro e w2 ⟨rfl, hb2⟩; have HT2 := zh (HT1.out.more hb2); clear hb2 c0 c1 c2 c3 c4 r0 r1 r2 r3 r4 f0 f1 f2 f3 f4; obtain ⟨⟨c0, c1, c2, c3, c4, _⟩, ⟨r0, r1, r2, r3, r4, _⟩, ⟨f0, f1, f2, f3, f4⟩, _⟩ := HT2.out; dsimp only
        go_wp2_with fail
        (with_reducible refine (HH1.out _ (HA.out.below HT2.out.bel zl)).mono ?_); rintro e w9 ⟨rfl, h9⟩
        obtain rfl : w2 = w9 := h9.symm
        dsimp only
        go_wp2_with fail
        (with_reducible refine (HH2.out _ (HBB.out.below HT2.out.bel zl)).mono ?_); rintro e w9 ⟨rfl, h9⟩
        obtain rfl : w2 = w9 := h9.symm
        dsimp only
        go_wp2_with fail
        have hT0 : Two w w2.drew o f ep A rs.length c B ws.length d := HT2.out.more (Below.drewN' (Below.refl w2.heap.size w2) 1)
        refine wp_region_held_drew (S := fun w' => Bx w.heap.size w' o f ep A rs.length c B ws.length d) (by kernel_rfl) hT0.1 (fun hHeld => ?_)
        clear c0 c1 c2 c3 c4 r0 r1 r2 r3 r4 f0 f1 f2 f3 f4
        generalize w2.drew = wd at hT0 hHeld ⊢
        refine zqT 0 ?_ ?_ ?_; rotate_left
        · intro w' hSw; obtain ⟨c0, c1, c2, c3, c4, _⟩ := hSw; go_simp; try with_reducible rfl
        (try simp only [Act.put, zq1, zq2, zq3]); refine zqT 1 ?_ ?_ ?_; rotate_left
        · intro w' hSw; obtain ⟨c0, c1, c2, c3, c4, _⟩ := hSw; go_simp; try with_reducible rfl
        (try simp only [Act.put, zq1, zq2, zq3]); refine zqT 2 ?_ ?_ ?_; rotate_left
        · intro w' hSw; obtain ⟨c0, c1, c2, c3, c4, _⟩ := hSw; go_simp; try with_reducible rfl
        (try simp only [Act.put, zq1, zq2, zq3]); refine zqT 3 ?_ ?_ ?_; rotate_left
        · intro w' hSw; obtain ⟨c0, c1, c2, c3, c4, _⟩ := hSw; go_simp; try with_reducible rfl
        (try simp only [Act.put, zq1, zq2, zq3]); refine zqT 4 ?_ ?_ ?_; rotate_left
        · intro w' hSw; obtain ⟨c0, c1, c2, c3, c4, _⟩ := hSw; go_simp; try with_reducible rfl
        (try simp only [Act.put, zq1, zq2, zq3]); refine zqT 5 ?_ ?_ ?_; rotate_left
        · intro w' hSw; obtain ⟨c0, c1, c2, c3, c4, _⟩ := hSw; go_simp; try with_reducible rfl
        (try simp only [Act.put, zq1, zq2, zq3]); refine zqT 6 ?_ ?_ ?_; rotate_left
        · intro w' hSw; obtain ⟨c0, c1, c2, c3, c4, _⟩ := hSw; go_simp; try with_reducible rfl
        (try simp only [Act.put, zq1, zq2, zq3]); refine zqT 7 ?_ ?_ ?_; rotate_left
        · intro w' hSw; obtain ⟨c0, c1, c2, c3, c4, _⟩ := hSw; go_simp; try with_reducible rfl
        (try simp only [Act.put, zq1, zq2, zq3]); refine zqT 9 ?_ ?_ ?_; rotate_left
        · intro w' hSw; obtain ⟨c0, c1, c2, c3, c4, _⟩ := hSw; go_simp; try with_reducible rfl
        (try simp only [Act.put, zq1, zq2, zq3]); refine zqT 10 ?_ ?_ ?_; rotate_left
        · intro w' hSw; obtain ⟨c0, c1, c2, c3, c4, _⟩ := hSw; go_simp; try with_reducible rfl
        (try simp only [Act.put, zq1, zq2, zq3]); clear hHeld; refine zqR [8, 13] ?_; refine zqC (fun K hK => ?_) (zqN fun K hK => ?_)
        · go_simp
          go_at_call 100
          (with_reducible refine (HW1.out _ (HA.out.below hT0.bel zl)).mono ?_); rintro e w3 ⟨⟨A1, c1', y1, hy1, hc1, hs1, hf1, rfl⟩, hb3⟩
          have hT3 := hT0.more hb3
          dsimp only
          have nR1 : ∀ b off, A1 = some ⟨b, off, none⟩ → 0 < y1.length → b ≠ w.heap.size + 1 := fun b off h _ e => by
            have h1 := hf1 b off h
            have h2 := hT0.2.1.2.2.2.2.2
            omega
          have q1 : ∀ b off, A1 = some ⟨b, off, none⟩ → 0 < y1.length → w.heap.size ≤ b := fun b off h _ => by
            have h1 := hf1 b off h
            have h2 := hT0.2.1.2.2.2.2.2
            omega
          refine hK.out _ _ hT3.1 (fun hHeld => ?_); (try simp only [Act.put, zq1, zq2, zq3]); clear hHeld; refine zqR [11, 13] ?_; refine zqC (fun K hK => ?_) (zqN fun K hK => ?_)
          · go_simp
            go_at_call 100
            (with_reducible refine (HW2.out _ (HBB.out.below hT3.bel zl)).mono ?_); rintro e w4 ⟨⟨A2, c2', y2, hy2, hc2, hs2, hf2, rfl⟩, hb4⟩
            have hT4 := hT3.more hb4
            dsimp only
            have nR2 : ∀ b off, A2 = some ⟨b, off, none⟩ → 0 < y2.length → b ≠ w.heap.size + 1 := fun b off h _ e => by
              have h1 := hf2 b off h
              have h2 := hT3.2.1.2.2.2.2.2
              omega
            have q2 : ∀ b off, A2 = some ⟨b, off, none⟩ → 0 < y2.length → w.heap.size ≤ b := fun b off h _ => by
              have h1 := hf2 b off h
              have h2 := hT3.2.1.2.2.2.2.2
              omega
            have hs1 := hs1.below hb4 zl
            refine hK.out _ _ hT4.1 (fun hHeld => ?_); (try simp only [Act.put, zq1, zq2, zq3]); clear hHeld
            have hHeld : Bx w.heap.size w4 o f ep A rs.length c B ws.length d := hT4.1
            refine zqT 12 ?_ ?_ ?_; rotate_left
            · intro w' hSw; obtain ⟨c0, c1, c2, c3, c4, _⟩ := hSw; go_simp; try with_reducible rfl
            (try simp only [Act.put, zq1, zq2, zq3]); clear hHeld; refine zqR [13] ?_
            refine zqN fun K hK => ?_
            go_simp; obtain ⟨G, hG⟩ : ∃ G, w4.heap.size = G := ⟨_, rfl⟩
            have hXx : Bx G (w4.alloc (.cells #[.string ⟨#[]⟩, .string ⟨#[]⟩, .int .i64 0, .slice none 0 0, .slice none 0 0] 27)) ⟨#[]⟩ ⟨#[]⟩ 0 none 0 0 none 0 0 := by rw [← hG]; exact bx_alloc w4 _ _ _ _ _ _ _ _ _ _
            have hSx : Sf G (w4.alloc (.cells #[.string ⟨#[]⟩, .string ⟨#[]⟩, .int .i64 0, .slice none 0 0, .slice none 0 0] 27)) := by rw [← hG]; exact sf_alloc w4 _ _
            have hba := al w4 (.cells #[.string ⟨#[]⟩, .string ⟨#[]⟩, .int .i64 0, .slice none 0 0, .slice none 0 0] 27)
            have hGR : w.heap.size + 1 < G := by rw [← hG]; exact hT4.2.1.2.2.2.2.2
            have nG1 : ∀ b off, A1 = some ⟨b, off, none⟩ → 0 < y1.length → b ≠ G := fun b off h h0 e => by
              obtain ⟨b2, off2, e2, hlt2, _⟩ := hs1 0 h0; rw [h] at e2
              injection e2 with e2
              injection e2 with e3 _ _
              omega
            have nG2 : ∀ b off, A2 = some ⟨b, off, none⟩ → 0 < y2.length → b ≠ G := fun b off h h0 e => by
              obtain ⟨b2, off2, e2, hlt2, _⟩ := hs2 0 h0; rw [h] at e2
              injection e2 with e2
              injection e2 with e3 _ _
              omega
            have hTx := hT4.more hba
            have hs1 := hs1.below hba zl
            have hs2 := hs2.below hba zl
            generalize w4.alloc (.cells #[.string ⟨#[]⟩, .string ⟨#[]⟩, .int .i64 0, .slice none 0 0, .slice none 0 0] 27) = wx at *
            try rw [hG]
            refine hK.out _ _ hTx.1 (fun hHeld => ?_); (try simp only [Act.put, zq1, zq2, zq3]); clear hHeld; obtain ⟨x0, x1, x2, x3, x4, _⟩ := id hXx; obtain ⟨g0, g1, g2, g3, g4⟩ := id hSx; refine zqR [14] ?_
            refine zqN fun K hK => ?_
            go_simp; refine hK.out _ _ (hTx.1.below (bel_set5 wx) (Nat.lt_trans (Nat.lt_succ_self _) hGR)) (fun hHeld => ?_); (try simp only [Act.put, zq1, zq2, zq3]); clear hHeld x0 x1 x2 x3 x4 g0 g1 g2 g3 g4
            have hXS := bx_set5 (o := o) (f := f) (ep := ep) (A := A1) (n := y1.length) (c := c1') (B := A2) (m := y2.length) (d := c2') hXx
            have hSS : Sf G (((((wx.setCell ⟨G, 0, none⟩ (.string o)).setCell ⟨G, 1, none⟩ (.string f)).setCell ⟨G, 2, none⟩ (.int .i64 ep)).setCell ⟨G, 3, none⟩ (.slice A1 y1.length c1')).setCell ⟨G, 4, none⟩ (.slice A2 y2.length c2')) := sf_set5 hSx
            have hTS : Two w (((((wx.setCell ⟨G, 0, none⟩ (.string o)).setCell ⟨G, 1, none⟩ (.string f)).setCell ⟨G, 2, none⟩ (.int .i64 ep)).setCell ⟨G, 3, none⟩ (.slice A1 y1.length c1')).setCell ⟨G, 4, none⟩ (.slice A2 y2.length c2')) o f ep A rs.length c B ws.length d := two_set5 hTx hGR
            have s1 : SReads (((((wx.setCell ⟨G, 0, none⟩ (.string o)).setCell ⟨G, 1, none⟩ (.string f)).setCell ⟨G, 2, none⟩ (.int .i64 ep)).setCell ⟨G, 3, none⟩ (.slice A1 y1.length c1')).setCell ⟨G, 4, none⟩ (.slice A2 y2.length c2')) A1 y1 := sreads_setL5 hs1 nG1
            have s2 : SReads (((((wx.setCell ⟨G, 0, none⟩ (.string o)).setCell ⟨G, 1, none⟩ (.string f)).setCell ⟨G, 2, none⟩ (.int .i64 ep)).setCell ⟨G, 3, none⟩ (.slice A1 y1.length c1')).setCell ⟨G, 4, none⟩ (.slice A2 y2.length c2')) A2 y2 := sreads_setL5 hs2 nG2
            generalize (((((wx.setCell ⟨G, 0, none⟩ (.string o)).setCell ⟨G, 1, none⟩ (.string f)).setCell ⟨G, 2, none⟩ (.int .i64 ep)).setCell ⟨G, 3, none⟩ (.slice A1 y1.length c1')).setCell ⟨G, 4, none⟩ (.slice A2 y2.length c2')) = wS at *
            refine wpAnyH_done (by kernel_rfl) ?_ _
            have hl3 : y1.length ≤ 40 := by have := congrArg List.length hy1; rw [bl_len, bl_len] at this; omega
            have hl4 : y2.length ≤ 40 := by have := congrArg List.length hy2; rw [bl_len, bl_len] at this; omega
            obtain ⟨x0, x1, x2, x3, x4, _⟩ := id hXS
            go_wp2_with fail
            (with_reducible refine (rwith_any A2 c2' y2 u _ s2 (by omega) hu).mono ?_); rintro e w7 ⟨⟨A3, c3', y3, hy3, hc3, hs3, hf3, rfl⟩, hb7⟩; clear x0 x1 x2 x3 x4
            have hT7 := hTS.more hb7
            obtain ⟨x0, x1, x2, x3, x4, hG7⟩ := hXS.below hb7 hXS.2.2.2.2.2; obtain ⟨g0, g1, g2, g3, g4⟩ := hSS.below hb7 hXS.2.2.2.2.2; obtain ⟨_, ⟨r0, r1, r2, r3, r4, hR7⟩, ⟨f0, f1, f2, f3, f4⟩, hbw⟩ := id hT7
            have hne : ¬ G = w.heap.size + 1 := by omega
            have hne' : ¬ w.heap.size + 1 = G := by omega
            have nR3 : ∀ b off, A3 = some ⟨b, off, none⟩ → 0 < y3.length → b ≠ w.heap.size + 1 := fun b off h _ e => by
              have h1 := hf3 b off h
              have h2 := hTS.2.1.2.2.2.2.2
              omega
            have q3 : ∀ b off, A3 = some ⟨b, off, none⟩ → 0 < y3.length → w.heap.size ≤ b := fun b off h _ => by
              have h1 := hf3 b off h
              have h2 := hTS.2.1.2.2.2.2.2
              omega
            have nG3 : ∀ b off, A3 = some ⟨b, off, none⟩ → 0 < y3.length → b ≠ G := fun b off h _ e => by
              have h1 := hf3 b off h
              have h2 := hXS.2.2.2.2.2
              omega
            dsimp only
            go_wp2
            refine bodyPost_ret (v := .tuple #[RV o f ep A1 y1.length c1' A3 y3.length c3', .int .i64 0]) (by simp [results, Tryz.results47, go_sem, RV, r0, r1, r2, r3, r4, x0, x1, x2, x3, x4, hne, hne']) rfl ?_
            exact ⟨⟨_, ⟨o, f, A1, c1', y1, A3, c3', y3, rfl, by simp only [hy1, hy3, hy2], sreads_setL5 (sreads_setL (s1.below hb7 zl) nG1) nR1, sreads_setL5 (sreads_setL hs3 nG3) nR3, hc1, hc3, q1, q3⟩, rfl⟩, set5 (hbw.setCell (p := ⟨G, _, none⟩) (show w.heap.size ≤ G by omega) _) (Nat.le_succ _)⟩
          · go_simp
            obtain ⟨G, hG⟩ : ∃ G, w3.heap.size = G := ⟨_, rfl⟩
            have hXx : Bx G (w3.alloc (.cells #[.string ⟨#[]⟩, .string ⟨#[]⟩, .int .i64 0, .slice none 0 0, .slice none 0 0] 27)) ⟨#[]⟩ ⟨#[]⟩ 0 none 0 0 none 0 0 := by rw [← hG]; exact bx_alloc w3 _ _ _ _ _ _ _ _ _ _
            have hSx : Sf G (w3.alloc (.cells #[.string ⟨#[]⟩, .string ⟨#[]⟩, .int .i64 0, .slice none 0 0, .slice none 0 0] 27)) := by rw [← hG]; exact sf_alloc w3 _ _
            have hba := al w3 (.cells #[.string ⟨#[]⟩, .string ⟨#[]⟩, .int .i64 0, .slice none 0 0, .slice none 0 0] 27)
            have hGR : w.heap.size + 1 < G := by rw [← hG]; exact hT3.2.1.2.2.2.2.2
            have nG1 : ∀ b off, A1 = some ⟨b, off, none⟩ → 0 < y1.length → b ≠ G := fun b off h h0 e => by
              obtain ⟨b2, off2, e2, hlt2, _⟩ := hs1 0 h0; rw [h] at e2
              injection e2 with e2
              injection e2 with e3 _ _
              omega
            have hTx := hT3.more hba
            have hs1 := hs1.below hba zl
            generalize w3.alloc (.cells #[.string ⟨#[]⟩, .string ⟨#[]⟩, .int .i64 0, .slice none 0 0, .slice none 0 0] 27) = wx at *
            try rw [hG]
            refine hK.out _ _ hTx.1 (fun hHeld => ?_); (try simp only [Act.put, zq1, zq2, zq3]); clear hHeld; refine zqR [11] ?_
            refine zqN fun K hK => ?_
            go_simp
            go_at_call 100
            (with_reducible refine (HW2.out _ (HBB.out.below hTx.bel zl)).mono ?_); rintro e w4 ⟨⟨A2, c2', y2, hy2, hc2, hs2, hf2, rfl⟩, hb4⟩
            have hT4 := hTx.more hb4
            have hX4 := hXx.below hb4 hXx.2.2.2.2.2
            have hS4 := hSx.below hb4 hXx.2.2.2.2.2
            dsimp only
            have nR2 : ∀ b off, A2 = some ⟨b, off, none⟩ → 0 < y2.length → b ≠ w.heap.size + 1 := fun b off h _ e => by
              have h1 := hf2 b off h
              have h2 := hTx.2.1.2.2.2.2.2
              omega
            have q2 : ∀ b off, A2 = some ⟨b, off, none⟩ → 0 < y2.length → w.heap.size ≤ b := fun b off h _ => by
              have h1 := hf2 b off h
              have h2 := hTx.2.1.2.2.2.2.2
              omega
            have nG2 : ∀ b off, A2 = some ⟨b, off, none⟩ → 0 < y2.length → b ≠ G := fun b off h _ e => by
              have h1 := hf2 b off h
              have h2 := hXx.2.2.2.2.2
              omega
            have hs1 := hs1.below hb4 zl
            refine hK.out _ _ hT4.1 (fun hHeld => ?_); (try simp only [Act.put, zq1, zq2, zq3]); clear hHeld
            have hHeld : Bx w.heap.size w4 o f ep A rs.length c B ws.length d := hT4.1
            refine zqT 12 ?_ ?_ ?_; rotate_left
            · intro w' hSw; obtain ⟨c0, c1, c2, c3, c4, _⟩ := hSw; go_simp; try with_reducible rfl
            (try simp only [Act.put, zq1, zq2, zq3]); clear hHeld; obtain ⟨x0, x1, x2, x3, x4, _⟩ := id hX4; obtain ⟨g0, g1, g2, g3, g4⟩ := id hS4; refine zqR [14] ?_
            refine zqN fun K hK => ?_
            go_simp; refine hK.out _ _ (hT4.1.below (bel_set5 w4) (Nat.lt_trans (Nat.lt_succ_self _) hGR)) (fun hHeld => ?_); (try simp only [Act.put, zq1, zq2, zq3]); clear hHeld x0 x1 x2 x3 x4 g0 g1 g2 g3 g4
            have hXS := bx_set5 (o := o) (f := f) (ep := ep) (A := A1) (n := y1.length) (c := c1') (B := A2) (m := y2.length) (d := c2') hX4
            have hSS : Sf G (((((w4.setCell ⟨G, 0, none⟩ (.string o)).setCell ⟨G, 1, none⟩ (.string f)).setCell ⟨G, 2, none⟩ (.int .i64 ep)).setCell ⟨G, 3, none⟩ (.slice A1 y1.length c1')).setCell ⟨G, 4, none⟩ (.slice A2 y2.length c2')) := sf_set5 hS4
            have hTS : Two w (((((w4.setCell ⟨G, 0, none⟩ (.string o)).setCell ⟨G, 1, none⟩ (.string f)).setCell ⟨G, 2, none⟩ (.int .i64 ep)).setCell ⟨G, 3, none⟩ (.slice A1 y1.length c1')).setCell ⟨G, 4, none⟩ (.slice A2 y2.length c2')) o f ep A rs.length c B ws.length d := two_set5 hT4 hGR
            have s1 : SReads (((((w4.setCell ⟨G, 0, none⟩ (.string o)).setCell ⟨G, 1, none⟩ (.string f)).setCell ⟨G, 2, none⟩ (.int .i64 ep)).setCell ⟨G, 3, none⟩ (.slice A1 y1.length c1')).setCell ⟨G, 4, none⟩ (.slice A2 y2.length c2')) A1 y1 := sreads_setL5 hs1 nG1
            have s2 : SReads (((((w4.setCell ⟨G, 0, none⟩ (.string o)).setCell ⟨G, 1, none⟩ (.string f)).setCell ⟨G, 2, none⟩ (.int .i64 ep)).setCell ⟨G, 3, none⟩ (.slice A1 y1.length c1')).setCell ⟨G, 4, none⟩ (.slice A2 y2.length c2')) A2 y2 := sreads_setL5 hs2 nG2
            generalize (((((w4.setCell ⟨G, 0, none⟩ (.string o)).setCell ⟨G, 1, none⟩ (.string f)).setCell ⟨G, 2, none⟩ (.int .i64 ep)).setCell ⟨G, 3, none⟩ (.slice A1 y1.length c1')).setCell ⟨G, 4, none⟩ (.slice A2 y2.length c2')) = wS at *
            refine wpAnyH_done (by kernel_rfl) ?_ _
            have hl3 : y1.length ≤ 40 := by have := congrArg List.length hy1; rw [bl_len, bl_len] at this; omega
            have hl4 : y2.length ≤ 40 := by have := congrArg List.length hy2; rw [bl_len, bl_len] at this; omega
            obtain ⟨x0, x1, x2, x3, x4, _⟩ := id hXS
            go_wp2_with fail
            (with_reducible refine (rwith_any A2 c2' y2 u _ s2 (by omega) hu).mono ?_); rintro e w7 ⟨⟨A3, c3', y3, hy3, hc3, hs3, hf3, rfl⟩, hb7⟩; clear x0 x1 x2 x3 x4
            have hT7 := hTS.more hb7
            obtain ⟨x0, x1, x2, x3, x4, hG7⟩ := hXS.below hb7 hXS.2.2.2.2.2; obtain ⟨g0, g1, g2, g3, g4⟩ := hSS.below hb7 hXS.2.2.2.2.2; obtain ⟨_, ⟨r0, r1, r2, r3, r4, hR7⟩, ⟨f0, f1, f2, f3, f4⟩, hbw⟩ := id hT7
            have hne : ¬ G = w.heap.size + 1 := by omega
            have hne' : ¬ w.heap.size + 1 = G := by omega
            have nR3 : ∀ b off, A3 = some ⟨b, off, none⟩ → 0 < y3.length → b ≠ w.heap.size + 1 := fun b off h _ e => by
              have h1 := hf3 b off h
              have h2 := hTS.2.1.2.2.2.2.2
              omega
            have q3 : ∀ b off, A3 = some ⟨b, off, none⟩ → 0 < y3.length → w.heap.size ≤ b := fun b off h _ => by
              have h1 := hf3 b off h
              have h2 := hTS.2.1.2.2.2.2.2
              omega
            have nG3 : ∀ b off, A3 = some ⟨b, off, none⟩ → 0 < y3.length → b ≠ G := fun b off h _ e => by
              have h1 := hf3 b off h
              have h2 := hXS.2.2.2.2.2
              omega
            dsimp only
            go_wp2
            refine bodyPost_ret (v := .tuple #[RV o f ep A1 y1.length c1' A3 y3.length c3', .int .i64 0]) (by simp [results, Tryz.results47, go_sem, RV, r0, r1, r2, r3, r4, x0, x1, x2, x3, x4, hne, hne']) rfl ?_
            exact ⟨⟨_, ⟨o, f, A1, c1', y1, A3, c3', y3, rfl, by simp only [hy1, hy3, hy2], sreads_setL5 (sreads_setL (s1.below hb7 zl) nG1) nR1, sreads_setL5 (sreads_setL hs3 nG3) nR3, hc1, hc3, q1, q3⟩, rfl⟩, set5 (hbw.setCell (p := ⟨G, _, none⟩) (show w.heap.size ≤ G by omega) _) (Nat.le_succ _)⟩
        · go_simp
          obtain ⟨G, hG⟩ : ∃ G, wd.heap.size = G := ⟨_, rfl⟩
          have hXx : Bx G (wd.alloc (.cells #[.string ⟨#[]⟩, .string ⟨#[]⟩, .int .i64 0, .slice none 0 0, .slice none 0 0] 27)) ⟨#[]⟩ ⟨#[]⟩ 0 none 0 0 none 0 0 := by rw [← hG]; exact bx_alloc wd _ _ _ _ _ _ _ _ _ _
          have hSx : Sf G (wd.alloc (.cells #[.string ⟨#[]⟩, .string ⟨#[]⟩, .int .i64 0, .slice none 0 0, .slice none 0 0] 27)) := by rw [← hG]; exact sf_alloc wd _ _
          have hba := al wd (.cells #[.string ⟨#[]⟩, .string ⟨#[]⟩, .int .i64 0, .slice none 0 0, .slice none 0 0] 27)
          have hGR : w.heap.size + 1 < G := by rw [← hG]; exact hT0.2.1.2.2.2.2.2
          have hTx := hT0.more hba
          generalize wd.alloc (.cells #[.string ⟨#[]⟩, .string ⟨#[]⟩, .int .i64 0, .slice none 0 0, .slice none 0 0] 27) = wx at *
          try rw [hG]
          refine hK.out _ _ hTx.1 (fun hHeld => ?_); (try simp only [Act.put, zq1, zq2, zq3]); clear hHeld; refine zqR [8] ?_
          refine zqN fun K hK => ?_
          go_simp
          go_at_call 100
          (with_reducible refine (HW1.out _ (HA.out.below hTx.bel zl)).mono ?_); rintro e w3 ⟨⟨A1, c1', y1, hy1, hc1, hs1, hf1, rfl⟩, hb3⟩
          have hT3 := hTx.more hb3
          have hX3 := hXx.below hb3 hXx.2.2.2.2.2
          have hS3 := hSx.below hb3 hXx.2.2.2.2.2
          dsimp only
          have nR1 : ∀ b off, A1 = some ⟨b, off, none⟩ → 0 < y1.length → b ≠ w.heap.size + 1 := fun b off h _ e => by
            have h1 := hf1 b off h
            have h2 := hTx.2.1.2.2.2.2.2
            omega
          have q1 : ∀ b off, A1 = some ⟨b, off, none⟩ → 0 < y1.length → w.heap.size ≤ b := fun b off h _ => by
            have h1 := hf1 b off h
            have h2 := hTx.2.1.2.2.2.2.2
            omega
          have nG1 : ∀ b off, A1 = some ⟨b, off, none⟩ → 0 < y1.length → b ≠ G := fun b off h _ e => by
            have h1 := hf1 b off h
            have h2 := hXx.2.2.2.2.2
            omega
          refine hK.out _ _ hT3.1 (fun hHeld => ?_); (try simp only [Act.put, zq1, zq2, zq3]); clear hHeld; refine zqR [11] ?_
          refine zqN fun K hK => ?_
          go_simp
          go_at_call 100
          (with_reducible refine (HW2.out _ (HBB.out.below hT3.bel zl)).mono ?_); rintro e w4 ⟨⟨A2, c2', y2, hy2, hc2, hs2, hf2, rfl⟩, hb4⟩
          have hT4 := hT3.more hb4
          have hX4 := hX3.below hb4 hX3.2.2.2.2.2
          have hS4 := hS3.below hb4 hX3.2.2.2.2.2
          dsimp only
          have nR2 : ∀ b off, A2 = some ⟨b, off, none⟩ → 0 < y2.length → b ≠ w.heap.size + 1 := fun b off h _ e => by
            have h1 := hf2 b off h
            have h2 := hT3.2.1.2.2.2.2.2
            omega
          have q2 : ∀ b off, A2 = some ⟨b, off, none⟩ → 0 < y2.length → w.heap.size ≤ b := fun b off h _ => by
            have h1 := hf2 b off h
            have h2 := hT3.2.1.2.2.2.2.2
            omega
          have nG2 : ∀ b off, A2 = some ⟨b, off, none⟩ → 0 < y2.length → b ≠ G := fun b off h _ e => by
            have h1 := hf2 b off h
            have h2 := hX3.2.2.2.2.2
            omega
          have hs1 := hs1.below hb4 zl
          refine hK.out _ _ hT4.1 (fun hHeld => ?_); (try simp only [Act.put, zq1, zq2, zq3]); clear hHeld
          have hHeld : Bx w.heap.size w4 o f ep A rs.length c B ws.length d := hT4.1
          refine zqT 12 ?_ ?_ ?_; rotate_left
          · intro w' hSw; obtain ⟨c0, c1, c2, c3, c4, _⟩ := hSw; go_simp; try with_reducible rfl
          (try simp only [Act.put, zq1, zq2, zq3]); clear hHeld; obtain ⟨x0, x1, x2, x3, x4, _⟩ := id hX4; obtain ⟨g0, g1, g2, g3, g4⟩ := id hS4; refine zqR [14] ?_
          refine zqN fun K hK => ?_
          go_simp; refine hK.out _ _ (hT4.1.below (bel_set5 w4) (Nat.lt_trans (Nat.lt_succ_self _) hGR)) (fun hHeld => ?_); (try simp only [Act.put, zq1, zq2, zq3]); clear hHeld x0 x1 x2 x3 x4 g0 g1 g2 g3 g4
          have hXS := bx_set5 (o := o) (f := f) (ep := ep) (A := A1) (n := y1.length) (c := c1') (B := A2) (m := y2.length) (d := c2') hX4
          have hSS : Sf G (((((w4.setCell ⟨G, 0, none⟩ (.string o)).setCell ⟨G, 1, none⟩ (.string f)).setCell ⟨G, 2, none⟩ (.int .i64 ep)).setCell ⟨G, 3, none⟩ (.slice A1 y1.length c1')).setCell ⟨G, 4, none⟩ (.slice A2 y2.length c2')) := sf_set5 hS4
          have hTS : Two w (((((w4.setCell ⟨G, 0, none⟩ (.string o)).setCell ⟨G, 1, none⟩ (.string f)).setCell ⟨G, 2, none⟩ (.int .i64 ep)).setCell ⟨G, 3, none⟩ (.slice A1 y1.length c1')).setCell ⟨G, 4, none⟩ (.slice A2 y2.length c2')) o f ep A rs.length c B ws.length d := two_set5 hT4 hGR
          have s1 : SReads (((((w4.setCell ⟨G, 0, none⟩ (.string o)).setCell ⟨G, 1, none⟩ (.string f)).setCell ⟨G, 2, none⟩ (.int .i64 ep)).setCell ⟨G, 3, none⟩ (.slice A1 y1.length c1')).setCell ⟨G, 4, none⟩ (.slice A2 y2.length c2')) A1 y1 := sreads_setL5 hs1 nG1
          have s2 : SReads (((((w4.setCell ⟨G, 0, none⟩ (.string o)).setCell ⟨G, 1, none⟩ (.string f)).setCell ⟨G, 2, none⟩ (.int .i64 ep)).setCell ⟨G, 3, none⟩ (.slice A1 y1.length c1')).setCell ⟨G, 4, none⟩ (.slice A2 y2.length c2')) A2 y2 := sreads_setL5 hs2 nG2
          generalize (((((w4.setCell ⟨G, 0, none⟩ (.string o)).setCell ⟨G, 1, none⟩ (.string f)).setCell ⟨G, 2, none⟩ (.int .i64 ep)).setCell ⟨G, 3, none⟩ (.slice A1 y1.length c1')).setCell ⟨G, 4, none⟩ (.slice A2 y2.length c2')) = wS at *
          refine wpAnyH_done (by kernel_rfl) ?_ _
          have hl3 : y1.length ≤ 40 := by have := congrArg List.length hy1; rw [bl_len, bl_len] at this; omega
          have hl4 : y2.length ≤ 40 := by have := congrArg List.length hy2; rw [bl_len, bl_len] at this; omega
          obtain ⟨x0, x1, x2, x3, x4, _⟩ := id hXS
          go_wp2_with fail
          (with_reducible refine (rwith_any A2 c2' y2 u _ s2 (by omega) hu).mono ?_); rintro e w7 ⟨⟨A3, c3', y3, hy3, hc3, hs3, hf3, rfl⟩, hb7⟩; clear x0 x1 x2 x3 x4
          have hT7 := hTS.more hb7
          obtain ⟨x0, x1, x2, x3, x4, hG7⟩ := hXS.below hb7 hXS.2.2.2.2.2; obtain ⟨g0, g1, g2, g3, g4⟩ := hSS.below hb7 hXS.2.2.2.2.2; obtain ⟨_, ⟨r0, r1, r2, r3, r4, hR7⟩, ⟨f0, f1, f2, f3, f4⟩, hbw⟩ := id hT7
          have hne : ¬ G = w.heap.size + 1 := by omega
          have hne' : ¬ w.heap.size + 1 = G := by omega
          have nR3 : ∀ b off, A3 = some ⟨b, off, none⟩ → 0 < y3.length → b ≠ w.heap.size + 1 := fun b off h _ e => by
            have h1 := hf3 b off h
            have h2 := hTS.2.1.2.2.2.2.2
            omega
          have q3 : ∀ b off, A3 = some ⟨b, off, none⟩ → 0 < y3.length → w.heap.size ≤ b := fun b off h _ => by
            have h1 := hf3 b off h
            have h2 := hTS.2.1.2.2.2.2.2
            omega
          have nG3 : ∀ b off, A3 = some ⟨b, off, none⟩ → 0 < y3.length → b ≠ G := fun b off h _ e => by
            have h1 := hf3 b off h
            have h2 := hXS.2.2.2.2.2
            omega
          dsimp only
          go_wp2
          refine bodyPost_ret (v := .tuple #[RV o f ep A1 y1.length c1' A3 y3.length c3', .int .i64 0]) (by simp [results, Tryz.results47, go_sem, RV, r0, r1, r2, r3, r4, x0, x1, x2, x3, x4, hne, hne']) rfl ?_
          exact ⟨⟨_, ⟨o, f, A1, c1', y1, A3, c3', y3, rfl, by simp only [hy1, hy3, hy2], sreads_setL5 (sreads_setL (s1.below hb7 zl) nG1) nR1, sreads_setL5 (sreads_setL hs3 nG3) nR3, hc1, hc3, q1, q3⟩, rfl⟩, set5 (hbw.setCell (p := ⟨G, _, none⟩) (show w.heap.size ≤ G by omega) _) (Nat.le_succ _)⟩
      · rw [e]
        go_enter Tryz.func47, Tryz.ntmps47
        go_wp2_with fail
        (with_reducible refine (HRR.out _ (HA.out.below (al2 _ _ _) zl) (HBB.out.below (al2 _ _ _) zl)).mono ?_); rw [decide_eq_true hr]; rintro e w1 ⟨rfl, hb1⟩; have HT1 := zh (two_first hb1); clear hb1; obtain ⟨⟨c0, c1, c2, c3, c4, _⟩, ⟨r0, r1, r2, r3, r4, _⟩, ⟨f0, f1, f2, f3, f4⟩, _⟩ := HT1.out; dsimp only
        go_wp2_with fail
        (with_reducible refine (HU.out true hnm _).mono ?_); rintro e w2 ⟨rfl, hb2⟩; have HT2 := zh (HT1.out.more hb2); clear hb2 c0 c1 c2 c3 c4 r0 r1 r2 r3 r4 f0 f1 f2 f3 f4; obtain ⟨⟨c0, c1, c2, c3, c4, _⟩, ⟨r0, r1, r2, r3, r4, _⟩, ⟨f0, f1, f2, f3, f4⟩, _⟩ := HT2.out; dsimp only
        go_wp2_with fail
        (with_reducible refine (HH1.out _ (HA.out.below HT2.out.bel zl)).mono ?_); rintro e w9 ⟨rfl, h9⟩
        obtain rfl : w2 = w9 := h9.symm
        dsimp only
        go_wp2_with fail
        (with_reducible refine (HH2.out _ (HBB.out.below HT2.out.bel zl)).mono ?_); rintro e w9 ⟨rfl, h9⟩
        obtain rfl : w2 = w9 := h9.symm
        dsimp only
        go_wp2_with fail
        have hT0 : Two w w2.drew o f ep A rs.length c B ws.length d := HT2.out.more (Below.drewN' (Below.refl w2.heap.size w2) 1)
        refine wp_region_held_drew (S := fun w' => Bx w.heap.size w' o f ep A rs.length c B ws.length d) (by kernel_rfl) hT0.1 (fun hHeld => ?_)
        clear c0 c1 c2 c3 c4 r0 r1 r2 r3 r4 f0 f1 f2 f3 f4
        generalize w2.drew = wd at hT0 hHeld ⊢
        refine zqT 0 ?_ ?_ ?_; rotate_left
        · intro w' hSw; obtain ⟨c0, c1, c2, c3, c4, _⟩ := hSw; go_simp; try with_reducible rfl
        (try simp only [Act.put, zq1, zq2, zq3]); refine zqT 1 ?_ ?_ ?_; rotate_left
        · intro w' hSw; obtain ⟨c0, c1, c2, c3, c4, _⟩ := hSw; go_simp; try with_reducible rfl
        (try simp only [Act.put, zq1, zq2, zq3]); refine zqT 2 ?_ ?_ ?_; rotate_left
        · intro w' hSw; obtain ⟨c0, c1, c2, c3, c4, _⟩ := hSw; go_simp; try with_reducible rfl
        (try simp only [Act.put, zq1, zq2, zq3]); refine zqT 3 ?_ ?_ ?_; rotate_left
        · intro w' hSw; obtain ⟨c0, c1, c2, c3, c4, _⟩ := hSw; go_simp; try with_reducible rfl
        (try simp only [Act.put, zq1, zq2, zq3]); refine zqT 4 ?_ ?_ ?_; rotate_left
        · intro w' hSw; obtain ⟨c0, c1, c2, c3, c4, _⟩ := hSw; go_simp; try with_reducible rfl
        (try simp only [Act.put, zq1, zq2, zq3]); refine zqT 5 ?_ ?_ ?_; rotate_left
        · intro w' hSw; obtain ⟨c0, c1, c2, c3, c4, _⟩ := hSw; go_simp; try with_reducible rfl
        (try simp only [Act.put, zq1, zq2, zq3]); refine zqT 6 ?_ ?_ ?_; rotate_left
        · intro w' hSw; obtain ⟨c0, c1, c2, c3, c4, _⟩ := hSw; go_simp; try with_reducible rfl
        (try simp only [Act.put, zq1, zq2, zq3]); refine zqT 7 ?_ ?_ ?_; rotate_left
        · intro w' hSw; obtain ⟨c0, c1, c2, c3, c4, _⟩ := hSw; go_simp; try with_reducible rfl
        (try simp only [Act.put, zq1, zq2, zq3]); refine zqT 9 ?_ ?_ ?_; rotate_left
        · intro w' hSw; obtain ⟨c0, c1, c2, c3, c4, _⟩ := hSw; go_simp; try with_reducible rfl
        (try simp only [Act.put, zq1, zq2, zq3]); refine zqT 10 ?_ ?_ ?_; rotate_left
        · intro w' hSw; obtain ⟨c0, c1, c2, c3, c4, _⟩ := hSw; go_simp; try with_reducible rfl
        (try simp only [Act.put, zq1, zq2, zq3]); clear hHeld; refine zqR [8, 13] ?_; refine zqC (fun K hK => ?_) (zqN fun K hK => ?_)
        · go_simp
          go_at_call 100
          (with_reducible refine (HW1.out _ (HA.out.below hT0.bel zl)).mono ?_); rintro e w3 ⟨⟨A1, c1', y1, hy1, hc1, hs1, hf1, rfl⟩, hb3⟩
          have hT3 := hT0.more hb3
          dsimp only
          have nR1 : ∀ b off, A1 = some ⟨b, off, none⟩ → 0 < y1.length → b ≠ w.heap.size + 1 := fun b off h _ e => by
            have h1 := hf1 b off h
            have h2 := hT0.2.1.2.2.2.2.2
            omega
          have q1 : ∀ b off, A1 = some ⟨b, off, none⟩ → 0 < y1.length → w.heap.size ≤ b := fun b off h _ => by
            have h1 := hf1 b off h
            have h2 := hT0.2.1.2.2.2.2.2
            omega
          refine hK.out _ _ hT3.1 (fun hHeld => ?_); (try simp only [Act.put, zq1, zq2, zq3]); clear hHeld; refine zqR [11, 13] ?_; refine zqC (fun K hK => ?_) (zqN fun K hK => ?_)
          · go_simp
            go_at_call 100
            (with_reducible refine (HW2.out _ (HBB.out.below hT3.bel zl)).mono ?_); rintro e w4 ⟨⟨A2, c2', y2, hy2, hc2, hs2, hf2, rfl⟩, hb4⟩
            have hT4 := hT3.more hb4
            dsimp only
            have nR2 : ∀ b off, A2 = some ⟨b, off, none⟩ → 0 < y2.length → b ≠ w.heap.size + 1 := fun b off h _ e => by
              have h1 := hf2 b off h
              have h2 := hT3.2.1.2.2.2.2.2
              omega
            have q2 : ∀ b off, A2 = some ⟨b, off, none⟩ → 0 < y2.length → w.heap.size ≤ b := fun b off h _ => by
              have h1 := hf2 b off h
              have h2 := hT3.2.1.2.2.2.2.2
              omega
            have hs1 := hs1.below hb4 zl
            refine hK.out _ _ hT4.1 (fun hHeld => ?_); (try simp only [Act.put, zq1, zq2, zq3]); clear hHeld
            have hHeld : Bx w.heap.size w4 o f ep A rs.length c B ws.length d := hT4.1
            refine zqT 12 ?_ ?_ ?_; rotate_left
            · intro w' hSw; obtain ⟨c0, c1, c2, c3, c4, _⟩ := hSw; go_simp; try with_reducible rfl
            (try simp only [Act.put, zq1, zq2, zq3]); clear hHeld; refine zqR [13] ?_
            refine zqN fun K hK => ?_
            go_simp; obtain ⟨G, hG⟩ : ∃ G, w4.heap.size = G := ⟨_, rfl⟩
            have hXx : Bx G (w4.alloc (.cells #[.string ⟨#[]⟩, .string ⟨#[]⟩, .int .i64 0, .slice none 0 0, .slice none 0 0] 27)) ⟨#[]⟩ ⟨#[]⟩ 0 none 0 0 none 0 0 := by rw [← hG]; exact bx_alloc w4 _ _ _ _ _ _ _ _ _ _
            have hSx : Sf G (w4.alloc (.cells #[.string ⟨#[]⟩, .string ⟨#[]⟩, .int .i64 0, .slice none 0 0, .slice none 0 0] 27)) := by rw [← hG]; exact sf_alloc w4 _ _
            have hba := al w4 (.cells #[.string ⟨#[]⟩, .string ⟨#[]⟩, .int .i64 0, .slice none 0 0, .slice none 0 0] 27)
            have hGR : w.heap.size + 1 < G := by rw [← hG]; exact hT4.2.1.2.2.2.2.2
            have nG1 : ∀ b off, A1 = some ⟨b, off, none⟩ → 0 < y1.length → b ≠ G := fun b off h h0 e => by
              obtain ⟨b2, off2, e2, hlt2, _⟩ := hs1 0 h0; rw [h] at e2
              injection e2 with e2
              injection e2 with e3 _ _
              omega
            have nG2 : ∀ b off, A2 = some ⟨b, off, none⟩ → 0 < y2.length → b ≠ G := fun b off h h0 e => by
              obtain ⟨b2, off2, e2, hlt2, _⟩ := hs2 0 h0; rw [h] at e2
              injection e2 with e2
              injection e2 with e3 _ _
              omega
            have hTx := hT4.more hba
            have hs1 := hs1.below hba zl
            have hs2 := hs2.below hba zl
            generalize w4.alloc (.cells #[.string ⟨#[]⟩, .string ⟨#[]⟩, .int .i64 0, .slice none 0 0, .slice none 0 0] 27) = wx at *
            try rw [hG]
            refine hK.out _ _ hTx.1 (fun hHeld => ?_); (try simp only [Act.put, zq1, zq2, zq3]); clear hHeld; obtain ⟨x0, x1, x2, x3, x4, _⟩ := id hXx; obtain ⟨g0, g1, g2, g3, g4⟩ := id hSx; refine zqR [14] ?_
            refine zqN fun K hK => ?_
            go_simp; refine hK.out _ _ (hTx.1.below (bel_set5 wx) (Nat.lt_trans (Nat.lt_succ_self _) hGR)) (fun hHeld => ?_); (try simp only [Act.put, zq1, zq2, zq3]); clear hHeld x0 x1 x2 x3 x4 g0 g1 g2 g3 g4
            have hXS := bx_set5 (o := o) (f := f) (ep := ep) (A := A1) (n := y1.length) (c := c1') (B := A2) (m := y2.length) (d := c2') hXx
            have hSS : Sf G (((((wx.setCell ⟨G, 0, none⟩ (.string o)).setCell ⟨G, 1, none⟩ (.string f)).setCell ⟨G, 2, none⟩ (.int .i64 ep)).setCell ⟨G, 3, none⟩ (.slice A1 y1.length c1')).setCell ⟨G, 4, none⟩ (.slice A2 y2.length c2')) := sf_set5 hSx
            have hTS : Two w (((((wx.setCell ⟨G, 0, none⟩ (.string o)).setCell ⟨G, 1, none⟩ (.string f)).setCell ⟨G, 2, none⟩ (.int .i64 ep)).setCell ⟨G, 3, none⟩ (.slice A1 y1.length c1')).setCell ⟨G, 4, none⟩ (.slice A2 y2.length c2')) o f ep A rs.length c B ws.length d := two_set5 hTx hGR
            have s1 : SReads (((((wx.setCell ⟨G, 0, none⟩ (.string o)).setCell ⟨G, 1, none⟩ (.string f)).setCell ⟨G, 2, none⟩ (.int .i64 ep)).setCell ⟨G, 3, none⟩ (.slice A1 y1.length c1')).setCell ⟨G, 4, none⟩ (.slice A2 y2.length c2')) A1 y1 := sreads_setL5 hs1 nG1
            have s2 : SReads (((((wx.setCell ⟨G, 0, none⟩ (.string o)).setCell ⟨G, 1, none⟩ (.string f)).setCell ⟨G, 2, none⟩ (.int .i64 ep)).setCell ⟨G, 3, none⟩ (.slice A1 y1.length c1')).setCell ⟨G, 4, none⟩ (.slice A2 y2.length c2')) A2 y2 := sreads_setL5 hs2 nG2
            generalize (((((wx.setCell ⟨G, 0, none⟩ (.string o)).setCell ⟨G, 1, none⟩ (.string f)).setCell ⟨G, 2, none⟩ (.int .i64 ep)).setCell ⟨G, 3, none⟩ (.slice A1 y1.length c1')).setCell ⟨G, 4, none⟩ (.slice A2 y2.length c2')) = wS at *
            refine wpAnyH_done (by kernel_rfl) ?_ _
            have hl3 : y1.length ≤ 40 := by have := congrArg List.length hy1; rw [bl_len, bl_len] at this; omega
            have hl4 : y2.length ≤ 40 := by have := congrArg List.length hy2; rw [bl_len, bl_len] at this; omega
            obtain ⟨x0, x1, x2, x3, x4, _⟩ := id hXS
            go_wp2_with fail
            (with_reducible refine (rwith_any A1 c1' y1 u _ s1 (by omega) hu).mono ?_); rintro e w7 ⟨⟨A3, c3', y3, hy3, hc3, hs3, hf3, rfl⟩, hb7⟩; clear x0 x1 x2 x3 x4
            have hT7 := hTS.more hb7
            obtain ⟨x0, x1, x2, x3, x4, hG7⟩ := hXS.below hb7 hXS.2.2.2.2.2; obtain ⟨g0, g1, g2, g3, g4⟩ := hSS.below hb7 hXS.2.2.2.2.2; obtain ⟨_, ⟨r0, r1, r2, r3, r4, hR7⟩, ⟨f0, f1, f2, f3, f4⟩, hbw⟩ := id hT7
            have hne : ¬ G = w.heap.size + 1 := by omega
            have hne' : ¬ w.heap.size + 1 = G := by omega
            have nR3 : ∀ b off, A3 = some ⟨b, off, none⟩ → 0 < y3.length → b ≠ w.heap.size + 1 := fun b off h _ e => by
              have h1 := hf3 b off h
              have h2 := hTS.2.1.2.2.2.2.2
              omega
            have q3 : ∀ b off, A3 = some ⟨b, off, none⟩ → 0 < y3.length → w.heap.size ≤ b := fun b off h _ => by
              have h1 := hf3 b off h
              have h2 := hTS.2.1.2.2.2.2.2
              omega
            have nG3 : ∀ b off, A3 = some ⟨b, off, none⟩ → 0 < y3.length → b ≠ G := fun b off h _ e => by
              have h1 := hf3 b off h
              have h2 := hXS.2.2.2.2.2
              omega
            dsimp only
            go_wp2
            refine bodyPost_ret (v := .tuple #[RV o f ep A3 y3.length c3' A2 y2.length c2', .int .i64 0]) (by simp [results, Tryz.results47, go_sem, RV, r0, r1, r2, r3, r4, x0, x1, x2, x3, x4, hne, hne']) rfl ?_
            exact ⟨⟨_, ⟨o, f, A3, c3', y3, A2, c2', y2, rfl, by simp only [hy1, hy3, hy2], sreads_setL5 (sreads_setL hs3 nG3) nR3, sreads_setL5 (sreads_setL (s2.below hb7 zl) nG2) nR2, hc3, hc2, q3, q2⟩, rfl⟩, set5 (hbw.setCell (p := ⟨G, _, none⟩) (show w.heap.size ≤ G by omega) _) (Nat.le_succ _)⟩
          · go_simp
            obtain ⟨G, hG⟩ : ∃ G, w3.heap.size = G := ⟨_, rfl⟩
            have hXx : Bx G (w3.alloc (.cells #[.string ⟨#[]⟩, .string ⟨#[]⟩, .int .i64 0, .slice none 0 0, .slice none 0 0] 27)) ⟨#[]⟩ ⟨#[]⟩ 0 none 0 0 none 0 0 := by rw [← hG]; exact bx_alloc w3 _ _ _ _ _ _ _ _ _ _
            have hSx : Sf G (w3.alloc (.cells #[.string ⟨#[]⟩, .string ⟨#[]⟩, .int .i64 0, .slice none 0 0, .slice none 0 0] 27)) := by rw [← hG]; exact sf_alloc w3 _ _
            have hba := al w3 (.cells #[.string ⟨#[]⟩, .string ⟨#[]⟩, .int .i64 0, .slice none 0 0, .slice none 0 0] 27)
            have hGR : w.heap.size + 1 < G := by rw [← hG]; exact hT3.2.1.2.2.2.2.2
            have nG1 : ∀ b off, A1 = some ⟨b, off, none⟩ → 0 < y1.length → b ≠ G := fun b off h h0 e => by
              obtain ⟨b2, off2, e2, hlt2, _⟩ := hs1 0 h0; rw [h] at e2
              injection e2 with e2
              injection e2 with e3 _ _
              omega
            have hTx := hT3.more hba
            have hs1 := hs1.below hba zl
            generalize w3.alloc (.cells #[.string ⟨#[]⟩, .string ⟨#[]⟩, .int .i64 0, .slice none 0 0, .slice none 0 0] 27) = wx at *
            try rw [hG]
            refine hK.out _ _ hTx.1 (fun hHeld => ?_); (try simp only [Act.put, zq1, zq2, zq3]); clear hHeld; refine zqR [11] ?_
            refine zqN fun K hK => ?_
            go_simp
            go_at_call 100
            (with_reducible refine (HW2.out _ (HBB.out.below hTx.bel zl)).mono ?_); rintro e w4 ⟨⟨A2, c2', y2, hy2, hc2, hs2, hf2, rfl⟩, hb4⟩
            have hT4 := hTx.more hb4
            have hX4 := hXx.below hb4 hXx.2.2.2.2.2
            have hS4 := hSx.below hb4 hXx.2.2.2.2.2
            dsimp only
            have nR2 : ∀ b off, A2 = some ⟨b, off, none⟩ → 0 < y2.length → b ≠ w.heap.size + 1 := fun b off h _ e => by
              have h1 := hf2 b off h
              have h2 := hTx.2.1.2.2.2.2.2
              omega
            have q2 : ∀ b off, A2 = some ⟨b, off, none⟩ → 0 < y2.length → w.heap.size ≤ b := fun b off h _ => by
              have h1 := hf2 b off h
              have h2 := hTx.2.1.2.2.2.2.2
              omega
            have nG2 : ∀ b off, A2 = some ⟨b, off, none⟩ → 0 < y2.length → b ≠ G := fun b off h _ e => by
              have h1 := hf2 b off h
              have h2 := hXx.2.2.2.2.2
              omega
            have hs1 := hs1.below hb4 zl
            refine hK.out _ _ hT4.1 (fun hHeld => ?_); (try simp only [Act.put, zq1, zq2, zq3]); clear hHeld
            have hHeld : Bx w.heap.size w4 o f ep A rs.length c B ws.length d := hT4.1
            refine zqT 12 ?_ ?_ ?_; rotate_left
            · intro w' hSw; obtain ⟨c0, c1, c2, c3, c4, _⟩ := hSw; go_simp; try with_reducible rfl
            (try simp only [Act.put, zq1, zq2, zq3]); clear hHeld; obtain ⟨x0, x1, x2, x3, x4, _⟩ := id hX4; obtain ⟨g0, g1, g2, g3, g4⟩ := id hS4; refine zqR [14] ?_
            refine zqN fun K hK => ?_
            go_simp; refine hK.out _ _ (hT4.1.below (bel_set5 w4) (Nat.lt_trans (Nat.lt_succ_self _) hGR)) (fun hHeld => ?_); (try simp only [Act.put, zq1, zq2, zq3]); clear hHeld x0 x1 x2 x3 x4 g0 g1 g2 g3 g4
            have hXS := bx_set5 (o := o) (f := f) (ep := ep) (A := A1) (n := y1.length) (c := c1') (B := A2) (m := y2.length) (d := c2') hX4
            have hSS : Sf G (((((w4.setCell ⟨G, 0, none⟩ (.string o)).setCell ⟨G, 1, none⟩ (.string f)).setCell ⟨G, 2, none⟩ (.int .i64 ep)).setCell ⟨G, 3, none⟩ (.slice A1 y1.length c1')).setCell ⟨G, 4, none⟩ (.slice A2 y2.length c2')) := sf_set5 hS4
            have hTS : Two w (((((w4.setCell ⟨G, 0, none⟩ (.string o)).setCell ⟨G, 1, none⟩ (.string f)).setCell ⟨G, 2, none⟩ (.int .i64 ep)).setCell ⟨G, 3, none⟩ (.slice A1 y1.length c1')).setCell ⟨G, 4, none⟩ (.slice A2 y2.length c2')) o f ep A rs.length c B ws.length d := two_set5 hT4 hGR
            have s1 : SReads (((((w4.setCell ⟨G, 0, none⟩ (.string o)).setCell ⟨G, 1, none⟩ (.string f)).setCell ⟨G, 2, none⟩ (.int .i64 ep)).setCell ⟨G, 3, none⟩ (.slice A1 y1.length c1')).setCell ⟨G, 4, none⟩ (.slice A2 y2.length c2')) A1 y1 := sreads_setL5 hs1 nG1
            have s2 : SReads (((((w4.setCell ⟨G, 0, none⟩ (.string o)).setCell ⟨G, 1, none⟩ (.string f)).setCell ⟨G, 2, none⟩ (.int .i64 ep)).setCell ⟨G, 3, none⟩ (.slice A1 y1.length c1')).setCell ⟨G, 4, none⟩ (.slice A2 y2.length c2')) A2 y2 := sreads_setL5 hs2 nG2
            generalize (((((w4.setCell ⟨G, 0, none⟩ (.string o)).setCell ⟨G, 1, none⟩ (.string f)).setCell ⟨G, 2, none⟩ (.int .i64 ep)).setCell ⟨G, 3, none⟩ (.slice A1 y1.length c1')).setCell ⟨G, 4, none⟩ (.slice A2 y2.length c2')) = wS at *
            refine wpAnyH_done (by kernel_rfl) ?_ _
            have hl3 : y1.length ≤ 40 := by have := congrArg List.length hy1; rw [bl_len, bl_len] at this; omega
            have hl4 : y2.length ≤ 40 := by have := congrArg List.length hy2; rw [bl_len, bl_len] at this; omega
            obtain ⟨x0, x1, x2, x3, x4, _⟩ := id hXS
            go_wp2_with fail
            (with_reducible refine (rwith_any A1 c1' y1 u _ s1 (by omega) hu).mono ?_); rintro e w7 ⟨⟨A3, c3', y3, hy3, hc3, hs3, hf3, rfl⟩, hb7⟩; clear x0 x1 x2 x3 x4
            have hT7 := hTS.more hb7
            obtain ⟨x0, x1, x2, x3, x4, hG7⟩ := hXS.below hb7 hXS.2.2.2.2.2; obtain ⟨g0, g1, g2, g3, g4⟩ := hSS.below hb7 hXS.2.2.2.2.2; obtain ⟨_, ⟨r0, r1, r2, r3, r4, hR7⟩, ⟨f0, f1, f2, f3, f4⟩, hbw⟩ := id hT7
            have hne : ¬ G = w.heap.size + 1 := by omega
            have hne' : ¬ w.heap.size + 1 = G := by omega
            have nR3 : ∀ b off, A3 = some ⟨b, off, none⟩ → 0 < y3.length → b ≠ w.heap.size + 1 := fun b off h _ e => by
              have h1 := hf3 b off h
              have h2 := hTS.2.1.2.2.2.2.2
              omega
            have q3 : ∀ b off, A3 = some ⟨b, off, none⟩ → 0 < y3.length → w.heap.size ≤ b := fun b off h _ => by
              have h1 := hf3 b off h
              have h2 := hTS.2.1.2.2.2.2.2
              omega
            have nG3 : ∀ b off, A3 = some ⟨b, off, none⟩ → 0 < y3.length → b ≠ G := fun b off h _ e => by
              have h1 := hf3 b off h
              have h2 := hXS.2.2.2.2.2
              omega
            dsimp only
            go_wp2
            refine bodyPost_ret (v := .tuple #[RV o f ep A3 y3.length c3' A2 y2.length c2', .int .i64 0]) (by simp [results, Tryz.results47, go_sem, RV, r0, r1, r2, r3, r4, x0, x1, x2, x3, x4, hne, hne']) rfl ?_
            exact ⟨⟨_, ⟨o, f, A3, c3', y3, A2, c2', y2, rfl, by simp only [hy1, hy3, hy2], sreads_setL5 (sreads_setL hs3 nG3) nR3, sreads_setL5 (sreads_setL (s2.below hb7 zl) nG2) nR2, hc3, hc2, q3, q2⟩, rfl⟩, set5 (hbw.setCell (p := ⟨G, _, none⟩) (show w.heap.size ≤ G by omega) _) (Nat.le_succ _)⟩
        · go_simp
          obtain ⟨G, hG⟩ : ∃ G, wd.heap.size = G := ⟨_, rfl⟩
          have hXx : Bx G (wd.alloc (.cells #[.string ⟨#[]⟩, .string ⟨#[]⟩, .int .i64 0, .slice none 0 0, .slice none 0 0] 27)) ⟨#[]⟩ ⟨#[]⟩ 0 none 0 0 none 0 0 := by rw [← hG]; exact bx_alloc wd _ _ _ _ _ _ _ _ _ _
          have hSx : Sf G (wd.alloc (.cells #[.string ⟨#[]⟩, .string ⟨#[]⟩, .int .i64 0, .slice none 0 0, .slice none 0 0] 27)) := by rw [← hG]; exact sf_alloc wd _ _
          have hba := al wd (.cells #[.string ⟨#[]⟩, .string ⟨#[]⟩, .int .i64 0, .slice none 0 0, .slice none 0 0] 27)
          have hGR : w.heap.size + 1 < G := by rw [← hG]; exact hT0.2.1.2.2.2.2.2
          have hTx := hT0.more hba
          generalize wd.alloc (.cells #[.string ⟨#[]⟩, .string ⟨#[]⟩, .int .i64 0, .slice none 0 0, .slice none 0 0] 27) = wx at *
          try rw [hG]
          refine hK.out _ _ hTx.1 (fun hHeld => ?_); (try simp only [Act.put, zq1, zq2, zq3]); clear hHeld; refine zqR [8] ?_
          refine zqN fun K hK => ?_
          go_simp
          go_at_call 100
          (with_reducible refine (HW1.out _ (HA.out.below hTx.bel zl)).mono ?_); rintro e w3 ⟨⟨A1, c1', y1, hy1, hc1, hs1, hf1, rfl⟩, hb3⟩
          have hT3 := hTx.more hb3
          have hX3 := hXx.below hb3 hXx.2.2.2.2.2
          have hS3 := hSx.below hb3 hXx.2.2.2.2.2
          dsimp only
          have nR1 : ∀ b off, A1 = some ⟨b, off, none⟩ → 0 < y1.length → b ≠ w.heap.size + 1 := fun b off h _ e => by
            have h1 := hf1 b off h
            have h2 := hTx.2.1.2.2.2.2.2
            omega
          have q1 : ∀ b off, A1 = some ⟨b, off, none⟩ → 0 < y1.length → w.heap.size ≤ b := fun b off h _ => by
            have h1 := hf1 b off h
            have h2 := hTx.2.1.2.2.2.2.2
            omega
          have nG1 : ∀ b off, A1 = some ⟨b, off, none⟩ → 0 < y1.length → b ≠ G := fun b off h _ e => by
            have h1 := hf1 b off h
            have h2 := hXx.2.2.2.2.2
            omega
          refine hK.out _ _ hT3.1 (fun hHeld => ?_); (try simp only [Act.put, zq1, zq2, zq3]); clear hHeld; refine zqR [11] ?_
          refine zqN fun K hK => ?_
          go_simp
          go_at_call 100
          (with_reducible refine (HW2.out _ (HBB.out.below hT3.bel zl)).mono ?_); rintro e w4 ⟨⟨A2, c2', y2, hy2, hc2, hs2, hf2, rfl⟩, hb4⟩
          have hT4 := hT3.more hb4
          have hX4 := hX3.below hb4 hX3.2.2.2.2.2
          have hS4 := hS3.below hb4 hX3.2.2.2.2.2
          dsimp only
          have nR2 : ∀ b off, A2 = some ⟨b, off, none⟩ → 0 < y2.length → b ≠ w.heap.size + 1 := fun b off h _ e => by
            have h1 := hf2 b off h
            have h2 := hT3.2.1.2.2.2.2.2
            omega
          have q2 : ∀ b off, A2 = some ⟨b, off, none⟩ → 0 < y2.length → w.heap.size ≤ b := fun b off h _ => by
            have h1 := hf2 b off h
            have h2 := hT3.2.1.2.2.2.2.2
            omega
          have nG2 : ∀ b off, A2 = some ⟨b, off, none⟩ → 0 < y2.length → b ≠ G := fun b off h _ e => by
            have h1 := hf2 b off h
            have h2 := hX3.2.2.2.2.2
            omega
          have hs1 := hs1.below hb4 zl
          refine hK.out _ _ hT4.1 (fun hHeld => ?_); (try simp only [Act.put, zq1, zq2, zq3]); clear hHeld
          have hHeld : Bx w.heap.size w4 o f ep A rs.length c B ws.length d := hT4.1
          refine zqT 12 ?_ ?_ ?_; rotate_left
          · intro w' hSw; obtain ⟨c0, c1, c2, c3, c4, _⟩ := hSw; go_simp; try with_reducible rfl
          (try simp only [Act.put, zq1, zq2, zq3]); clear hHeld; obtain ⟨x0, x1, x2, x3, x4, _⟩ := id hX4; obtain ⟨g0, g1, g2, g3, g4⟩ := id hS4; refine zqR [14] ?_
          refine zqN fun K hK => ?_
          go_simp; refine hK.out _ _ (hT4.1.below (bel_set5 w4) (Nat.lt_trans (Nat.lt_succ_self _) hGR)) (fun hHeld => ?_); (try simp only [Act.put, zq1, zq2, zq3]); clear hHeld x0 x1 x2 x3 x4 g0 g1 g2 g3 g4
          have hXS := bx_set5 (o := o) (f := f) (ep := ep) (A := A1) (n := y1.length) (c := c1') (B := A2) (m := y2.length) (d := c2') hX4
          have hSS : Sf G (((((w4.setCell ⟨G, 0, none⟩ (.string o)).setCell ⟨G, 1, none⟩ (.string f)).setCell ⟨G, 2, none⟩ (.int .i64 ep)).setCell ⟨G, 3, none⟩ (.slice A1 y1.length c1')).setCell ⟨G, 4, none⟩ (.slice A2 y2.length c2')) := sf_set5 hS4
          have hTS : Two w (((((w4.setCell ⟨G, 0, none⟩ (.string o)).setCell ⟨G, 1, none⟩ (.string f)).setCell ⟨G, 2, none⟩ (.int .i64 ep)).setCell ⟨G, 3, none⟩ (.slice A1 y1.length c1')).setCell ⟨G, 4, none⟩ (.slice A2 y2.length c2')) o f ep A rs.length c B ws.length d := two_set5 hT4 hGR
          have s1 : SReads (((((w4.setCell ⟨G, 0, none⟩ (.string o)).setCell ⟨G, 1, none⟩ (.string f)).setCell ⟨G, 2, none⟩ (.int .i64 ep)).setCell ⟨G, 3, none⟩ (.slice A1 y1.length c1')).setCell ⟨G, 4, none⟩ (.slice A2 y2.length c2')) A1 y1 := sreads_setL5 hs1 nG1
          have s2 : SReads (((((w4.setCell ⟨G, 0, none⟩ (.string o)).setCell ⟨G, 1, none⟩ (.string f)).setCell ⟨G, 2, none⟩ (.int .i64 ep)).setCell ⟨G, 3, none⟩ (.slice A1 y1.length c1')).setCell ⟨G, 4, none⟩ (.slice A2 y2.length c2')) A2 y2 := sreads_setL5 hs2 nG2
          generalize (((((w4.setCell ⟨G, 0, none⟩ (.string o)).setCell ⟨G, 1, none⟩ (.string f)).setCell ⟨G, 2, none⟩ (.int .i64 ep)).setCell ⟨G, 3, none⟩ (.slice A1 y1.length c1')).setCell ⟨G, 4, none⟩ (.slice A2 y2.length c2')) = wS at *
          refine wpAnyH_done (by kernel_rfl) ?_ _
          have hl3 : y1.length ≤ 40 := by have := congrArg List.length hy1; rw [bl_len, bl_len] at this; omega
          have hl4 : y2.length ≤ 40 := by have := congrArg List.length hy2; rw [bl_len, bl_len] at this; omega
          obtain ⟨x0, x1, x2, x3, x4, _⟩ := id hXS
          go_wp2_with fail
          (with_reducible refine (rwith_any A1 c1' y1 u _ s1 (by omega) hu).mono ?_); rintro e w7 ⟨⟨A3, c3', y3, hy3, hc3, hs3, hf3, rfl⟩, hb7⟩; clear x0 x1 x2 x3 x4
          have hT7 := hTS.more hb7
          obtain ⟨x0, x1, x2, x3, x4, hG7⟩ := hXS.below hb7 hXS.2.2.2.2.2; obtain ⟨g0, g1, g2, g3, g4⟩ := hSS.below hb7 hXS.2.2.2.2.2; obtain ⟨_, ⟨r0, r1, r2, r3, r4, hR7⟩, ⟨f0, f1, f2, f3, f4⟩, hbw⟩ := id hT7
          have hne : ¬ G = w.heap.size + 1 := by omega
          have hne' : ¬ w.heap.size + 1 = G := by omega
          have nR3 : ∀ b off, A3 = some ⟨b, off, none⟩ → 0 < y3.length → b ≠ w.heap.size + 1 := fun b off h _ e => by
            have h1 := hf3 b off h
            have h2 := hTS.2.1.2.2.2.2.2
            omega
          have q3 : ∀ b off, A3 = some ⟨b, off, none⟩ → 0 < y3.length → w.heap.size ≤ b := fun b off h _ => by
            have h1 := hf3 b off h
            have h2 := hTS.2.1.2.2.2.2.2
            omega
          have nG3 : ∀ b off, A3 = some ⟨b, off, none⟩ → 0 < y3.length → b ≠ G := fun b off h _ e => by
            have h1 := hf3 b off h
            have h2 := hXS.2.2.2.2.2
            omega
          dsimp only
          go_wp2
          refine bodyPost_ret (v := .tuple #[RV o f ep A3 y3.length c3' A2 y2.length c2', .int .i64 0]) (by simp [results, Tryz.results47, go_sem, RV, r0, r1, r2, r3, r4, x0, x1, x2, x3, x4, hne, hne']) rfl ?_
          exact ⟨⟨_, ⟨o, f, A3, c3', y3, A2, c2', y2, rfl, by simp only [hy1, hy3, hy2], sreads_setL5 (sreads_setL hs3 nG3) nR3, sreads_setL5 (sreads_setL (s2.below hb7 zl) nG2) nR2, hc3, hc2, q3, q2⟩, rfl⟩, set5 (hbw.setCell (p := ⟨G, _, none⟩) (show w.heap.size ≤ G by omega) _) (Nat.le_succ _)⟩
end Go.Proofs.YtlkgjceddbclpaaGreat.Rig

namespace Go.Proofs.YtlkgjceddbclpaaGreat.Rig
open Go.RowKit Wire

theorem bl_inj {ys zs : List ByteArray} (h : bl ys = bl zs) : ys = zs := by
  induction ys generalizing zs with
  | nil =>
    cases zs with
    | nil => rfl
    | cons z zs => exact absurd h (by simp [bl])
  | cons y ys ih =>
    cases zs with
    | nil => exact absurd h (by simp [bl])
    | cons z zs =>
      have h1 : y.data.toList = z.data.toList ∧ bl ys = bl zs := by simpa [bl] using h
      rw [str_eq h1.1, ih h1.2]
end Go.Proofs.YtlkgjceddbclpaaGreat.Rig

namespace Go.Proofs.YtlkgjceddbclpaaGreat.Rig
open Go.RowKit Wire

def TaF (B : Nat) (x : List Tm × Int) (e : Ending) (w' : World) : Prop := ∃ (A : Option Addr) (c : Nat) (ys : List ByteArray), bl ys = x.1 ∧ (ys.length ≤ c ∧ (A = none → c = 0)) ∧ SReads w' A ys ∧ (∀ b off, A = some ⟨b, off, none⟩ → B ≤ b) ∧ e = .returned (.tuple #[.slice A ys.length c, .int .i64 x.2])
theorem taF_nil (B : Nat) (f : Int) (w' : World) : TaF B ([], f) (.returned (.tuple #[.slice none 0 0, .int .i64 f])) w' := ⟨none, 0, [], rfl, ⟨Nat.le_refl _, fun _ => rfl⟩, SReads.nil _ _, (fun _ _ h => by cases h), rfl⟩

end Go.Proofs.YtlkgjceddbclpaaGreat.Rig

