/-
  C2. By an AI agent.
-/
import Derived.Test.YtbdealddjonobaaGreatYZ
import Derived.Test.YtbdealddjonobaaGreatYC1
import Derived.Test.YtbdealddjonobaaGreatYH1
namespace Go.Proofs.YtbdealddjonobaaGreat.Rig
open Go.RowKit Wire

set_option linter.unusedSimpArgs false
set_option linter.unusedVariables false
theorem copy_at {a : Option Addr} {c : Nat} (g : Nat) (ys : List ByteArray) (w : World) (hp : Pieces w g [(a, c, ys)]) (hl : ys.length ≤ 40) :
  Calls Tryz.prog 146 #[.slice (some ⟨g, 0, none⟩) 1 1] w fun e w' => Lst w.heap.size (bl ys) e w' ∧ Below w.heap.size w w' := by
 have he : whole [(a, c, ys)] = ys := by simp [whole]
 have h := concat_at g 1 _ _ hp rfl (by simp) (by rw [he]; omega)
 rw [he] at h
 exact h
theorem box_safe {w w1 : World} {o f : ByteArray} {ep : Int} {A : Option Addr} {n c : Nat} {B : Option Addr} {m d : Nat} {t : TypeId}
    (hb : Below ((w.alloc (.cells #[.string o, .string f, .int .i64 ep, .slice A n c, .slice B m d] t)).alloc (.cells #[.string ⟨#[]⟩, .string ⟨#[]⟩, .int .i64 0, .slice none 0 0, .slice none 0 0] t)).heap.size
      ((w.alloc (.cells #[.string o, .string f, .int .i64 ep, .slice A n c, .slice B m d] t)).alloc (.cells #[.string ⟨#[]⟩, .string ⟨#[]⟩, .int .i64 0, .slice none 0 0, .slice none 0 0] t)) w1) : Sf w.heap.size w1 := by
  have h1 := sf_alloc w #[.string o, .string f, .int .i64 ep, .slice A n c, .slice B m d] t
  refine (h1.below (al _ _) (by simp)).below hb (by simp; omega)
set_option maxHeartbeats 16000000 in
set_option maxRecDepth 1000000 in
theorem grant_code (o f : ByteArray) (ep : Int) (A : Option Addr) (c : Nat) (rs : List ByteArray) (B : Option Addr) (d : Nat) (ws : List ByteArray) (u : ByteArray) (wr : Bool) (w : World) (hA : SReads w A rs) (hB : SReads w B ws) (hf : Few ⟨o.data.toList, f.data.toList, ep, bl rs, bl ws⟩) (hAn : rs.length ≤ c ∧ (A = none → c = 0)) (hBn : ws.length ≤ d ∧ (B = none → d = 0)) :
  Calls Tryz.prog 103 #[RV o f ep A rs.length c B ws.length d, .string u, .bool wr] w fun e w' => Re (fun b => w.heap.size ≤ b) (gr ⟨o.data.toList, f.data.toList, ep, bl rs, bl ws⟩ u.data.toList wr) e w' ∧ Below w.heap.size w w' := by
 have HA := zh hA
 have HBB := zh hB
 have hl1 : rs.length ≤ 40 := by have := hf.2.2.1; rw [bl_len] at this; exact this
 have hl2 : ws.length ≤ 40 := by have := hf.2.2.2.1; rw [bl_len] at this; exact this
 obtain ⟨ke, hke⟩ : ∃ z, ck ⟨o.data.toList, f.data.toList, ep, bl rs, bl ws⟩ u.data.toList = z := ⟨_, rfl⟩
 have HCK := zh fun w h1 h2 => check_code o f ep A c rs B d ws u w h1 h2 hf
 rw [hke] at HCK
 have HAN := zh hAn
 have HBN := zh hBn
 clear hA hB hf hAn hBn
 unfold RV at HCK ⊢
 by_cases hr : RR ⟨o.data.toList, f.data.toList, ep, bl rs, bl ws⟩
 case neg =>
  rw [show gr ⟨o.data.toList, f.data.toList, ep, bl rs, bl ws⟩ u.data.toList wr = (zero, 1) by unfold gr; rw [if_pos hr]]
  obtain rfl : ke = 1 := by rw [← hke]; unfold ck; rw [if_pos hr]
  clear hke
  go_enter Tryz.func103, Tryz.ntmps103
  go_wp2_with fail
  with_reducible refine (HCK.out _ (HA.out.below (al2 _ _ _) zl) (HBB.out.below (al2 _ _ _) zl)).mono ?_
  rintro e w1 ⟨rfl, hb1⟩
  have HT1 := zh (two_first hb1)
  have HSB1 := zh (box_safe hb1)
  clear hb1
  obtain ⟨⟨c0, c1, c2, c3, c4, _⟩, ⟨r0, r1, r2, r3, r4, _⟩, ⟨f0, f1, f2, f3, f4⟩, _⟩ := HT1.out
  dsimp only
  go_wp2
  refine bodyPost_ret (v := .tuple #[RV ⟨#[]⟩ ⟨#[]⟩ 0 none 0 0 none 0 0, .int .i64 1]) (by simp [results, Tryz.results103, go_sem, RV, r0, r1, r2, r3, r4]) rfl ?_
  exact ⟨⟨_, isX_zero _ _, rfl⟩, set5 HT1.out.2.2.2 (Nat.le_succ _)⟩
 cases hnm : nm u.data.toList with
 | false =>
  rw [show gr ⟨o.data.toList, f.data.toList, ep, bl rs, bl ws⟩ u.data.toList wr = (zero, 3) by unfold gr; rw [if_neg (by simpa using hr), if_pos (by rw [hnm]; decide)]]
  obtain rfl : ke = 3 := by rw [← hke]; unfold ck; rw [if_neg (by simpa using hr), if_pos (by rw [hnm]; decide)]
  clear hke
  go_enter Tryz.func103, Tryz.ntmps103
  go_wp2_with fail
  with_reducible refine (HCK.out _ (HA.out.below (al2 _ _ _) zl) (HBB.out.below (al2 _ _ _) zl)).mono ?_
  rintro e w1 ⟨rfl, hb1⟩
  have HT1 := zh (two_first hb1)
  have HSB1 := zh (box_safe hb1)
  clear hb1
  obtain ⟨⟨c0, c1, c2, c3, c4, _⟩, ⟨r0, r1, r2, r3, r4, _⟩, ⟨f0, f1, f2, f3, f4⟩, _⟩ := HT1.out
  dsimp only
  go_wp2
  refine bodyPost_ret (v := .tuple #[RV ⟨#[]⟩ ⟨#[]⟩ 0 none 0 0 none 0 0, .int .i64 3]) (by simp [results, Tryz.results103, go_sem, RV, r0, r1, r2, r3, r4]) rfl ?_
  exact ⟨⟨_, isX_zero _ _, rfl⟩, set5 HT1.out.2.2.2 (Nat.le_succ _)⟩
 | true =>
  obtain rfl : ke = 0 := by rw [← hke]; unfold ck; rw [if_neg (by simpa using hr), if_neg (by rw [hnm]; decide)]
  clear hke
  have HM1 := zh fun w h => among_any A c rs u w h (by omega) hr.2.2.2.2.1.2
  have HM2 := zh fun w h => among_any B d ws u w h (by omega) hr.2.2.2.2.2.1.2
  rcases gr_cases ⟨o.data.toList, f.data.toList, ep, bl rs, bl ws⟩ u.data.toList wr hr hnm with ⟨e, h1⟩ | ⟨e, h1, h2⟩ | ⟨h1, h2, e, _⟩
  ·
   rw [e]
   simp only at h1
   by_cases ho : u.data.toList = o.data.toList
   ·
    have q := s_eq ho
    go_enter Tryz.func103, Tryz.ntmps103
    go_wp2_with fail
    with_reducible refine (HCK.out _ (HA.out.below (al2 _ _ _) zl) (HBB.out.below (al2 _ _ _) zl)).mono ?_
    rintro e w1 ⟨rfl, hb1⟩
    have HT1 := zh (two_first hb1)
    have HSB1 := zh (box_safe hb1)
    clear hb1
    obtain ⟨⟨c0, c1, c2, c3, c4, _⟩, ⟨r0, r1, r2, r3, r4, _⟩, ⟨f0, f1, f2, f3, f4⟩, _⟩ := HT1.out
    dsimp only
    go_wp2
    refine bodyPost_ret (v := .tuple #[RV ⟨#[]⟩ ⟨#[]⟩ 0 none 0 0 none 0 0, .int .i64 5]) (by simp [results, Tryz.results103, go_sem, RV, r0, r1, r2, r3, r4]) rfl ?_
    exact ⟨⟨_, isX_zero _ _, rfl⟩, set5 HT1.out.2.2.2 (Nat.le_succ _)⟩
   have q := s_ne ho
   by_cases hin : u.data.toList ∈ bl rs
   ·
    rw [decide_eq_true hin] at HM1
    go_enter Tryz.func103, Tryz.ntmps103
    go_wp2_with fail
    with_reducible refine (HCK.out _ (HA.out.below (al2 _ _ _) zl) (HBB.out.below (al2 _ _ _) zl)).mono ?_
    rintro e w1 ⟨rfl, hb1⟩
    have HT1 := zh (two_first hb1)
    have HSB1 := zh (box_safe hb1)
    clear hb1
    obtain ⟨⟨c0, c1, c2, c3, c4, _⟩, ⟨r0, r1, r2, r3, r4, _⟩, ⟨f0, f1, f2, f3, f4⟩, _⟩ := HT1.out
    dsimp only
    go_wp2_with fail
    with_reducible refine (HM1.out _ (HA.out.below HT1.out.bel zl)).mono ?_
    rintro e w2 ⟨rfl, hb2⟩
    have HT2 := zh (HT1.out.more hb2)
    have HSB2 := zh (HSB1.out.below hb2 HT1.out.1.2.2.2.2.2)
    clear hb2 c0 c1 c2 c3 c4 r0 r1 r2 r3 r4 f0 f1 f2 f3 f4
    obtain ⟨⟨c0, c1, c2, c3, c4, _⟩, ⟨r0, r1, r2, r3, r4, _⟩, ⟨f0, f1, f2, f3, f4⟩, _⟩ := HT2.out
    dsimp only
    go_wp2
    refine bodyPost_ret (v := .tuple #[RV ⟨#[]⟩ ⟨#[]⟩ 0 none 0 0 none 0 0, .int .i64 5]) (by simp [results, Tryz.results103, go_sem, RV, r0, r1, r2, r3, r4]) rfl ?_
    exact ⟨⟨_, isX_zero _ _, rfl⟩, set5 HT2.out.2.2.2 (Nat.le_succ _)⟩
   ·
    rw [decide_eq_false hin] at HM1
    rw [decide_eq_true ((h1.resolve_left ho).resolve_left hin)] at HM2
    go_enter Tryz.func103, Tryz.ntmps103
    go_wp2_with fail
    with_reducible refine (HCK.out _ (HA.out.below (al2 _ _ _) zl) (HBB.out.below (al2 _ _ _) zl)).mono ?_
    rintro e w1 ⟨rfl, hb1⟩
    have HT1 := zh (two_first hb1)
    have HSB1 := zh (box_safe hb1)
    clear hb1
    obtain ⟨⟨c0, c1, c2, c3, c4, _⟩, ⟨r0, r1, r2, r3, r4, _⟩, ⟨f0, f1, f2, f3, f4⟩, _⟩ := HT1.out
    dsimp only
    go_wp2_with fail
    with_reducible refine (HM1.out _ (HA.out.below HT1.out.bel zl)).mono ?_
    rintro e w2 ⟨rfl, hb2⟩
    have HT2 := zh (HT1.out.more hb2)
    have HSB2 := zh (HSB1.out.below hb2 HT1.out.1.2.2.2.2.2)
    clear hb2 c0 c1 c2 c3 c4 r0 r1 r2 r3 r4 f0 f1 f2 f3 f4
    obtain ⟨⟨c0, c1, c2, c3, c4, _⟩, ⟨r0, r1, r2, r3, r4, _⟩, ⟨f0, f1, f2, f3, f4⟩, _⟩ := HT2.out
    dsimp only
    go_wp2_with fail
    with_reducible refine (HM2.out _ (HBB.out.below HT2.out.bel zl)).mono ?_
    rintro e w3 ⟨rfl, hb3⟩
    have HT3 := zh (HT2.out.more hb3)
    have HSB3 := zh (HSB2.out.below hb3 HT2.out.1.2.2.2.2.2)
    clear hb3 c0 c1 c2 c3 c4 r0 r1 r2 r3 r4 f0 f1 f2 f3 f4
    obtain ⟨⟨c0, c1, c2, c3, c4, _⟩, ⟨r0, r1, r2, r3, r4, _⟩, ⟨f0, f1, f2, f3, f4⟩, _⟩ := HT3.out
    dsimp only
    go_wp2
    refine bodyPost_ret (v := .tuple #[RV ⟨#[]⟩ ⟨#[]⟩ 0 none 0 0 none 0 0, .int .i64 5]) (by simp [results, Tryz.results103, go_sem, RV, r0, r1, r2, r3, r4]) rfl ?_
    exact ⟨⟨_, isX_zero _ _, rfl⟩, set5 HT3.out.2.2.2 (Nat.le_succ _)⟩
  ·
   rw [e]
   simp only [bl_len] at h1 h2
   have q := s_ne fun h => h1 (.inl h)
   rw [decide_eq_false fun h => h1 (.inr (.inl h))] at HM1
   rw [decide_eq_false fun h => h1 (.inr (.inr h))] at HM2
   have hw : IntKind.i64.wrap ((rs.length : Int) + (ws.length : Int)) = 5 := by rw [IntKind.wrap_i64]; omega
   clear h1 h2
   go_enter Tryz.func103, Tryz.ntmps103
   go_wp2_with fail
   with_reducible refine (HCK.out _ (HA.out.below (al2 _ _ _) zl) (HBB.out.below (al2 _ _ _) zl)).mono ?_
   rintro e w1 ⟨rfl, hb1⟩
   have HT1 := zh (two_first hb1)
   have HSB1 := zh (box_safe hb1)
   clear hb1
   obtain ⟨⟨c0, c1, c2, c3, c4, _⟩, ⟨r0, r1, r2, r3, r4, _⟩, ⟨f0, f1, f2, f3, f4⟩, _⟩ := HT1.out
   dsimp only
   go_wp2_with fail
   with_reducible refine (HM1.out _ (HA.out.below HT1.out.bel zl)).mono ?_
   rintro e w2 ⟨rfl, hb2⟩
   have HT2 := zh (HT1.out.more hb2)
   have HSB2 := zh (HSB1.out.below hb2 HT1.out.1.2.2.2.2.2)
   clear hb2 c0 c1 c2 c3 c4 r0 r1 r2 r3 r4 f0 f1 f2 f3 f4
   obtain ⟨⟨c0, c1, c2, c3, c4, _⟩, ⟨r0, r1, r2, r3, r4, _⟩, ⟨f0, f1, f2, f3, f4⟩, _⟩ := HT2.out
   dsimp only
   go_wp2_with fail
   with_reducible refine (HM2.out _ (HBB.out.below HT2.out.bel zl)).mono ?_
   rintro e w3 ⟨rfl, hb3⟩
   have HT3 := zh (HT2.out.more hb3)
   have HSB3 := zh (HSB2.out.below hb3 HT2.out.1.2.2.2.2.2)
   clear hb3 c0 c1 c2 c3 c4 r0 r1 r2 r3 r4 f0 f1 f2 f3 f4
   obtain ⟨⟨c0, c1, c2, c3, c4, _⟩, ⟨r0, r1, r2, r3, r4, _⟩, ⟨f0, f1, f2, f3, f4⟩, _⟩ := HT3.out
   dsimp only
   go_wp2
   refine bodyPost_ret (v := .tuple #[RV ⟨#[]⟩ ⟨#[]⟩ 0 none 0 0 none 0 0, .int .i64 10]) (by simp [results, Tryz.results103, go_sem, RV, r0, r1, r2, r3, r4]) rfl ?_
   exact ⟨⟨_, isX_zero _ _, rfl⟩, set5 HT3.out.2.2.2 (Nat.le_succ _)⟩
  ·
   simp only [bl_len] at h1 h2
   have q := s_ne fun h => h1 (.inl h)
   rw [decide_eq_false fun h => h1 (.inr (.inl h))] at HM1
   rw [decide_eq_false fun h => h1 (.inr (.inr h))] at HM2
   have hw : IntKind.i64.wrap ((rs.length : Int) + (ws.length : Int)) = (rs.length : Int) + (ws.length : Int) := by rw [IntKind.wrap_i64]; omega
   have hw5 : ((rs.length : Int) + (ws.length : Int) == 5) = false := by
    rw [beq_eq_false_iff_ne]; omega
   have HN1 : Hid (u.data.toList ∉ bl rs) := fun h => h1 (.inr (.inl h))
   have HN2 : Hid (u.data.toList ∉ bl ws) := fun h => h1 (.inr (.inr h))
   clear h1 h2
   rcases e with ⟨rfl, e⟩ | ⟨rfl, e⟩
   ·
    rw [e]
    clear e
    go_enter Tryz.func103, Tryz.ntmps103
    go_wp2_with fail
    with_reducible refine (HCK.out _ (HA.out.below (al2 _ _ _) zl) (HBB.out.below (al2 _ _ _) zl)).mono ?_
    rintro e w1 ⟨rfl, hb1⟩
    have HT1 := zh (two_first hb1)
    have HSB1 := zh (box_safe hb1)
    clear hb1
    obtain ⟨⟨c0, c1, c2, c3, c4, _⟩, ⟨r0, r1, r2, r3, r4, _⟩, ⟨f0, f1, f2, f3, f4⟩, _⟩ := HT1.out
    dsimp only
    go_wp2_with fail
    with_reducible refine (HM1.out _ (HA.out.below HT1.out.bel zl)).mono ?_
    rintro e w2 ⟨rfl, hb2⟩
    have HT2 := zh (HT1.out.more hb2)
    have HSB2 := zh (HSB1.out.below hb2 HT1.out.1.2.2.2.2.2)
    clear hb2 c0 c1 c2 c3 c4 r0 r1 r2 r3 r4 f0 f1 f2 f3 f4
    obtain ⟨⟨c0, c1, c2, c3, c4, _⟩, ⟨r0, r1, r2, r3, r4, _⟩, ⟨f0, f1, f2, f3, f4⟩, _⟩ := HT2.out
    dsimp only
    go_wp2_with fail
    with_reducible refine (HM2.out _ (HBB.out.below HT2.out.bel zl)).mono ?_
    rintro e w3 ⟨rfl, hb3⟩
    have HT3 := zh (HT2.out.more hb3)
    have HSB3 := zh (HSB2.out.below hb3 HT2.out.1.2.2.2.2.2)
    clear hb3 c0 c1 c2 c3 c4 r0 r1 r2 r3 r4 f0 f1 f2 f3 f4
    obtain ⟨⟨c0, c1, c2, c3, c4, _⟩, ⟨r0, r1, r2, r3, r4, _⟩, ⟨f0, f1, f2, f3, f4⟩, _⟩ := HT3.out
    dsimp only
    go_wp2_with fail
    have hT0 : Two w w3.drew o f ep A rs.length c B ws.length d := HT3.out.more (Below.drewN' (Below.refl w3.heap.size w3) 1)
    have hSB0 : Sf w.heap.size w3.drew := HSB3.out.below (Below.drewN' (Below.refl w3.heap.size w3) 1) HT3.out.1.2.2.2.2.2
    refine wp_region_held_drew (S := fun _ => True) (by kernel_rfl) trivial (fun hHeld => ?_)
    clear c0 c1 c2 c3 c4 r0 r1 r2 r3 r4 f0 f1 f2 f3 f4
    generalize w3.drew = wd at hT0 hSB0 ⊢
    have HTd := zh hT0
    have HSBd := zh hSB0
    clear hT0 hSB0
    obtain ⟨⟨c0, c1, c2, c3, c4, _⟩, ⟨r0, r1, r2, r3, r4, _⟩, ⟨f0, f1, f2, f3, f4⟩, _⟩ := HTd.out
    obtain ⟨b0, b1, b2, b3, b4⟩ := HSBd.out
    refine zqT 0 ?_ ?_ ?_
    rotate_left
    · intro w' hSw; go_simp; try with_reducible rfl
    try simp only [Act.put, zq1, zq2, zq3]
    refine zqT 4 ?_ ?_ ?_
    rotate_left
    · intro w' hSw; go_simp; try with_reducible rfl
    try simp only [Act.put, zq1, zq2, zq3]
    refine zqT 6 ?_ ?_ ?_
    rotate_left
    · intro w' hSw; go_simp; try with_reducible rfl
    try simp only [Act.put, zq1, zq2, zq3]
    refine zqR [1, 5] ?_
    refine zqC (fun K hK => ?_) ?_
    ·
     go_simp
     skip
     refine hK.out _ _ trivial (fun hHeld => ?_)
     try simp only [Act.put, zq1, zq2, zq3]
     refine zqR [2, 5] ?_
     refine zqC (fun K hK => ?_) ?_
     ·
      go_simp
      skip
      refine hK.out _ _ trivial (fun hHeld => ?_)
      try simp only [Act.put, zq1, zq2, zq3]
      refine zqR [3, 5] ?_
      refine zqC (fun K hK => ?_) ?_
      ·
       go_simp
       go_at_call 146
       with_reducible refine (copy_any A rs.length c rs wd _ rfl (HA.out.below HTd.out.bel zl) (by omega) HAN.out.2 rfl).mono ?_
       intro e w4 hh
       obtain ⟨hh1, hb4⟩ := hh
       unfold Lst at hh1
       obtain ⟨A1, k1, y1, hy1, hc1, hr1, hf1, he1⟩ := hh1
       subst he1
       have HT4 := zh (HTd.out.more hb4)
       have HSB4 := zh (HSBd.out.below hb4 HTd.out.1.2.2.2.2.2)
       have HS1 := zh hr1
       have HY1 := zh hy1
       have HL1 := zh hc1
       have HF1 : Hid (∀ b off, A1 = some ⟨b, off, none⟩ → w.heap.size ≤ b ∧ b ≠ w.heap.size ∧ b ≠ w.heap.size + 1) := zh fun b off h => by
        have h1 := hf1 b off h
        have h2 := HTd.out.2.1.2.2.2.2.2
        exact ⟨by omega, by omega, by omega⟩
       clear hb4 hy1 hc1 hr1 hf1
       clear c0 c1 c2 c3 c4 r0 r1 r2 r3 r4 f0 f1 f2 f3 f4 b0 b1 b2 b3 b4
       obtain ⟨⟨c0, c1, c2, c3, c4, _⟩, ⟨r0, r1, r2, r3, r4, _⟩, ⟨f0, f1, f2, f3, f4⟩, _⟩ := HT4.out
       obtain ⟨b0, b1, b2, b3, b4⟩ := HSB4.out
       dsimp only
       refine hK.out _ _ trivial (fun hHeld => ?_)
       try simp only [Act.put, zq1, zq2, zq3]
       refine zqR [5] ?_
       refine zqN fun K hK => ?_
       go_simp
       skip
       refine hK.out _ _ trivial (fun hHeld => ?_)
       try simp only [Act.put, zq1, zq2, zq3]
       refine zqT 8 ?_ ?_ ?_
       rotate_left
       · intro w' hSw; go_simp; try with_reducible rfl
       try simp only [Act.put, zq1, zq2, zq3]
       refine zqR [7] ?_
       refine zqN fun K hK => ?_
       go_simp
       go_at_call 147
       with_reducible refine (with_any B d ws u w4 (HBB.out.below HT4.out.bel zl) (by omega) HBN.out HN2.out).mono ?_
       intro e w5 hh
       obtain ⟨hh1, hb5⟩ := hh
       unfold Lst at hh1
       obtain ⟨A2, k2, y2, hy2, hc2, hr2, hf2, he2⟩ := hh1
       subst he2
       have HT5 := zh (HT4.out.more hb5)
       have HSB5 := zh (HSB4.out.below hb5 HT4.out.1.2.2.2.2.2)
       replace HS1 := zh (HS1.out.below hb5 zl)
       have HS2 := zh hr2
       have HY2 := zh hy2
       have HL2 := zh hc2
       have HF2 : Hid (∀ b off, A2 = some ⟨b, off, none⟩ → w.heap.size ≤ b ∧ b ≠ w.heap.size ∧ b ≠ w.heap.size + 1) := zh fun b off h => by
        have h1 := hf2 b off h
        have h2 := HT4.out.2.1.2.2.2.2.2
        exact ⟨by omega, by omega, by omega⟩
       clear hb5 hy2 hc2 hr2 hf2
       clear c0 c1 c2 c3 c4 r0 r1 r2 r3 r4 f0 f1 f2 f3 f4 b0 b1 b2 b3 b4
       obtain ⟨⟨c0, c1, c2, c3, c4, _⟩, ⟨r0, r1, r2, r3, r4, _⟩, ⟨f0, f1, f2, f3, f4⟩, _⟩ := HT5.out
       obtain ⟨b0, b1, b2, b3, b4⟩ := HSB5.out
       dsimp only
       refine hK.out _ _ trivial (fun hHeld => ?_)
       try simp only [Act.put, zq1, zq2, zq3]
       refine zqR [9] ?_
       refine zqN fun K hK => ?_
       go_simp
       skip
       refine hK.out _ _ trivial (fun hHeld => ?_)
       try simp only [Act.put, zq1, zq2, zq3]
       refine zqT 10 ?_ ?_ ?_
       rotate_left
       · intro w' hSw; go_simp; try with_reducible rfl
       try simp only [Act.put, zq1, zq2, zq3]
       refine zqR [11] ?_
       refine zqN fun K hK => ?_
       go_simp
       skip
       refine hK.out _ _ trivial (fun hHeld => ?_)
       try simp only [Act.put, zq1, zq2, zq3]
       refine wpAnyH_done (by kernel_rfl) ?_ _
       have hS1 := HS1.out
       have hS2 := HS2.out
       have hB5 := HT5.out.bel
       go_wp2
       refine bodyPost_ret (v := .tuple #[RV o f ep A1 y1.length k1 A2 y2.length k2, .int .i64 0]) (by simp [results, Tryz.results103, go_sem, RV, r0, r1, r2, r3, r4]) rfl ?_
       have p1 : ∀ b off, A1 = some ⟨b, off, none⟩ → b ≠ w.heap.size := fun b off h => (HF1.out b off h).2.1
       have p2 : ∀ b off, A2 = some ⟨b, off, none⟩ → b ≠ w.heap.size := fun b off h => (HF2.out b off h).2.1
       have q1 : ∀ b off, A1 = some ⟨b, off, none⟩ → b ≠ w.heap.size + 1 := fun b off h => (HF1.out b off h).2.2
       have q2 : ∀ b off, A2 = some ⟨b, off, none⟩ → b ≠ w.heap.size + 1 := fun b off h => (HF2.out b off h).2.2
       exact ⟨⟨_, ⟨o, f, A1, k1, y1, A2, k2, y2, rfl, by simp only [HY1.out, HY2.out], sreads_set5 (sreads_set (sreads_set hS1 p1) p1) q1, sreads_set5 (sreads_set (sreads_set hS2 p2) p2) q2, HL1.out, HL2.out, fun b off h _ => (HF1.out b off h).1, fun b off h _ => (HF2.out b off h).1⟩, rfl⟩, set5 ((hB5.setCell (p := ⟨w.heap.size, 3, none⟩) zl _).setCell (p := ⟨w.heap.size, 4, none⟩) zl _) (Nat.le_succ _)⟩
      refine zqN fun K hK => ?_
      go_simp
      skip
      refine hK.out _ _ trivial (fun hHeld => ?_)
      try simp only [Act.put, zq1, zq2, zq3]
      refine zqR [3] ?_
      refine zqN fun K hK => ?_
      go_simp
      go_at_call 146
      with_reducible refine (copy_any A rs.length c rs wd _ rfl (HA.out.below HTd.out.bel zl) (by omega) HAN.out.2 rfl).mono ?_
      intro e w4 hh
      obtain ⟨hh1, hb4⟩ := hh
      unfold Lst at hh1
      obtain ⟨A1, k1, y1, hy1, hc1, hr1, hf1, he1⟩ := hh1
      subst he1
      have HT4 := zh (HTd.out.more hb4)
      have HSB4 := zh (HSBd.out.below hb4 HTd.out.1.2.2.2.2.2)
      have HS1 := zh hr1
      have HY1 := zh hy1
      have HL1 := zh hc1
      have HF1 : Hid (∀ b off, A1 = some ⟨b, off, none⟩ → w.heap.size ≤ b ∧ b ≠ w.heap.size ∧ b ≠ w.heap.size + 1) := zh fun b off h => by
       have h1 := hf1 b off h
       have h2 := HTd.out.2.1.2.2.2.2.2
       exact ⟨by omega, by omega, by omega⟩
      clear hb4 hy1 hc1 hr1 hf1
      clear c0 c1 c2 c3 c4 r0 r1 r2 r3 r4 f0 f1 f2 f3 f4 b0 b1 b2 b3 b4
      obtain ⟨⟨c0, c1, c2, c3, c4, _⟩, ⟨r0, r1, r2, r3, r4, _⟩, ⟨f0, f1, f2, f3, f4⟩, _⟩ := HT4.out
      obtain ⟨b0, b1, b2, b3, b4⟩ := HSB4.out
      dsimp only
      refine hK.out _ _ trivial (fun hHeld => ?_)
      try simp only [Act.put, zq1, zq2, zq3]
      refine zqT 8 ?_ ?_ ?_
      rotate_left
      · intro w' hSw; go_simp; try with_reducible rfl
      try simp only [Act.put, zq1, zq2, zq3]
      refine zqR [7] ?_
      refine zqN fun K hK => ?_
      go_simp
      go_at_call 147
      with_reducible refine (with_any B d ws u w4 (HBB.out.below HT4.out.bel zl) (by omega) HBN.out HN2.out).mono ?_
      intro e w5 hh
      obtain ⟨hh1, hb5⟩ := hh
      unfold Lst at hh1
      obtain ⟨A2, k2, y2, hy2, hc2, hr2, hf2, he2⟩ := hh1
      subst he2
      have HT5 := zh (HT4.out.more hb5)
      have HSB5 := zh (HSB4.out.below hb5 HT4.out.1.2.2.2.2.2)
      replace HS1 := zh (HS1.out.below hb5 zl)
      have HS2 := zh hr2
      have HY2 := zh hy2
      have HL2 := zh hc2
      have HF2 : Hid (∀ b off, A2 = some ⟨b, off, none⟩ → w.heap.size ≤ b ∧ b ≠ w.heap.size ∧ b ≠ w.heap.size + 1) := zh fun b off h => by
       have h1 := hf2 b off h
       have h2 := HT4.out.2.1.2.2.2.2.2
       exact ⟨by omega, by omega, by omega⟩
      clear hb5 hy2 hc2 hr2 hf2
      clear c0 c1 c2 c3 c4 r0 r1 r2 r3 r4 f0 f1 f2 f3 f4 b0 b1 b2 b3 b4
      obtain ⟨⟨c0, c1, c2, c3, c4, _⟩, ⟨r0, r1, r2, r3, r4, _⟩, ⟨f0, f1, f2, f3, f4⟩, _⟩ := HT5.out
      obtain ⟨b0, b1, b2, b3, b4⟩ := HSB5.out
      dsimp only
      refine hK.out _ _ trivial (fun hHeld => ?_)
      try simp only [Act.put, zq1, zq2, zq3]
      refine zqR [9] ?_
      refine zqN fun K hK => ?_
      go_simp
      skip
      refine hK.out _ _ trivial (fun hHeld => ?_)
      try simp only [Act.put, zq1, zq2, zq3]
      refine zqT 10 ?_ ?_ ?_
      rotate_left
      · intro w' hSw; go_simp; try with_reducible rfl
      try simp only [Act.put, zq1, zq2, zq3]
      refine zqR [11] ?_
      refine zqN fun K hK => ?_
      go_simp
      skip
      refine hK.out _ _ trivial (fun hHeld => ?_)
      try simp only [Act.put, zq1, zq2, zq3]
      refine wpAnyH_done (by kernel_rfl) ?_ _
      have hS1 := HS1.out
      have hS2 := HS2.out
      have hB5 := HT5.out.bel
      go_wp2
      refine bodyPost_ret (v := .tuple #[RV o f ep A1 y1.length k1 A2 y2.length k2, .int .i64 0]) (by simp [results, Tryz.results103, go_sem, RV, r0, r1, r2, r3, r4]) rfl ?_
      have p1 : ∀ b off, A1 = some ⟨b, off, none⟩ → b ≠ w.heap.size := fun b off h => (HF1.out b off h).2.1
      have p2 : ∀ b off, A2 = some ⟨b, off, none⟩ → b ≠ w.heap.size := fun b off h => (HF2.out b off h).2.1
      have q1 : ∀ b off, A1 = some ⟨b, off, none⟩ → b ≠ w.heap.size + 1 := fun b off h => (HF1.out b off h).2.2
      have q2 : ∀ b off, A2 = some ⟨b, off, none⟩ → b ≠ w.heap.size + 1 := fun b off h => (HF2.out b off h).2.2
      exact ⟨⟨_, ⟨o, f, A1, k1, y1, A2, k2, y2, rfl, by simp only [HY1.out, HY2.out], sreads_set5 (sreads_set (sreads_set hS1 p1) p1) q1, sreads_set5 (sreads_set (sreads_set hS2 p2) p2) q2, HL1.out, HL2.out, fun b off h _ => (HF1.out b off h).1, fun b off h _ => (HF2.out b off h).1⟩, rfl⟩, set5 ((hB5.setCell (p := ⟨w.heap.size, 3, none⟩) zl _).setCell (p := ⟨w.heap.size, 4, none⟩) zl _) (Nat.le_succ _)⟩
     refine zqN fun K hK => ?_
     go_simp
     skip
     refine hK.out _ _ trivial (fun hHeld => ?_)
     try simp only [Act.put, zq1, zq2, zq3]
     refine zqR [2] ?_
     refine zqN fun K hK => ?_
     go_simp
     skip
     refine hK.out _ _ trivial (fun hHeld => ?_)
     try simp only [Act.put, zq1, zq2, zq3]
     refine zqR [3] ?_
     refine zqN fun K hK => ?_
     go_simp
     go_at_call 146
     with_reducible refine (copy_any A rs.length c rs wd _ rfl (HA.out.below HTd.out.bel zl) (by omega) HAN.out.2 rfl).mono ?_
     intro e w4 hh
     obtain ⟨hh1, hb4⟩ := hh
     unfold Lst at hh1
     obtain ⟨A1, k1, y1, hy1, hc1, hr1, hf1, he1⟩ := hh1
     subst he1
     have HT4 := zh (HTd.out.more hb4)
     have HSB4 := zh (HSBd.out.below hb4 HTd.out.1.2.2.2.2.2)
     have HS1 := zh hr1
     have HY1 := zh hy1
     have HL1 := zh hc1
     have HF1 : Hid (∀ b off, A1 = some ⟨b, off, none⟩ → w.heap.size ≤ b ∧ b ≠ w.heap.size ∧ b ≠ w.heap.size + 1) := zh fun b off h => by
      have h1 := hf1 b off h
      have h2 := HTd.out.2.1.2.2.2.2.2
      exact ⟨by omega, by omega, by omega⟩
     clear hb4 hy1 hc1 hr1 hf1
     clear c0 c1 c2 c3 c4 r0 r1 r2 r3 r4 f0 f1 f2 f3 f4 b0 b1 b2 b3 b4
     obtain ⟨⟨c0, c1, c2, c3, c4, _⟩, ⟨r0, r1, r2, r3, r4, _⟩, ⟨f0, f1, f2, f3, f4⟩, _⟩ := HT4.out
     obtain ⟨b0, b1, b2, b3, b4⟩ := HSB4.out
     dsimp only
     refine hK.out _ _ trivial (fun hHeld => ?_)
     try simp only [Act.put, zq1, zq2, zq3]
     refine zqT 8 ?_ ?_ ?_
     rotate_left
     · intro w' hSw; go_simp; try with_reducible rfl
     try simp only [Act.put, zq1, zq2, zq3]
     refine zqR [7] ?_
     refine zqN fun K hK => ?_
     go_simp
     go_at_call 147
     with_reducible refine (with_any B d ws u w4 (HBB.out.below HT4.out.bel zl) (by omega) HBN.out HN2.out).mono ?_
     intro e w5 hh
     obtain ⟨hh1, hb5⟩ := hh
     unfold Lst at hh1
     obtain ⟨A2, k2, y2, hy2, hc2, hr2, hf2, he2⟩ := hh1
     subst he2
     have HT5 := zh (HT4.out.more hb5)
     have HSB5 := zh (HSB4.out.below hb5 HT4.out.1.2.2.2.2.2)
     replace HS1 := zh (HS1.out.below hb5 zl)
     have HS2 := zh hr2
     have HY2 := zh hy2
     have HL2 := zh hc2
     have HF2 : Hid (∀ b off, A2 = some ⟨b, off, none⟩ → w.heap.size ≤ b ∧ b ≠ w.heap.size ∧ b ≠ w.heap.size + 1) := zh fun b off h => by
      have h1 := hf2 b off h
      have h2 := HT4.out.2.1.2.2.2.2.2
      exact ⟨by omega, by omega, by omega⟩
     clear hb5 hy2 hc2 hr2 hf2
     clear c0 c1 c2 c3 c4 r0 r1 r2 r3 r4 f0 f1 f2 f3 f4 b0 b1 b2 b3 b4
     obtain ⟨⟨c0, c1, c2, c3, c4, _⟩, ⟨r0, r1, r2, r3, r4, _⟩, ⟨f0, f1, f2, f3, f4⟩, _⟩ := HT5.out
     obtain ⟨b0, b1, b2, b3, b4⟩ := HSB5.out
     dsimp only
     refine hK.out _ _ trivial (fun hHeld => ?_)
     try simp only [Act.put, zq1, zq2, zq3]
     refine zqR [9] ?_
     refine zqN fun K hK => ?_
     go_simp
     skip
     refine hK.out _ _ trivial (fun hHeld => ?_)
     try simp only [Act.put, zq1, zq2, zq3]
     refine zqT 10 ?_ ?_ ?_
     rotate_left
     · intro w' hSw; go_simp; try with_reducible rfl
     try simp only [Act.put, zq1, zq2, zq3]
     refine zqR [11] ?_
     refine zqN fun K hK => ?_
     go_simp
     skip
     refine hK.out _ _ trivial (fun hHeld => ?_)
     try simp only [Act.put, zq1, zq2, zq3]
     refine wpAnyH_done (by kernel_rfl) ?_ _
     have hS1 := HS1.out
     have hS2 := HS2.out
     have hB5 := HT5.out.bel
     go_wp2
     refine bodyPost_ret (v := .tuple #[RV o f ep A1 y1.length k1 A2 y2.length k2, .int .i64 0]) (by simp [results, Tryz.results103, go_sem, RV, r0, r1, r2, r3, r4]) rfl ?_
     have p1 : ∀ b off, A1 = some ⟨b, off, none⟩ → b ≠ w.heap.size := fun b off h => (HF1.out b off h).2.1
     have p2 : ∀ b off, A2 = some ⟨b, off, none⟩ → b ≠ w.heap.size := fun b off h => (HF2.out b off h).2.1
     have q1 : ∀ b off, A1 = some ⟨b, off, none⟩ → b ≠ w.heap.size + 1 := fun b off h => (HF1.out b off h).2.2
     have q2 : ∀ b off, A2 = some ⟨b, off, none⟩ → b ≠ w.heap.size + 1 := fun b off h => (HF2.out b off h).2.2
     exact ⟨⟨_, ⟨o, f, A1, k1, y1, A2, k2, y2, rfl, by simp only [HY1.out, HY2.out], sreads_set5 (sreads_set (sreads_set hS1 p1) p1) q1, sreads_set5 (sreads_set (sreads_set hS2 p2) p2) q2, HL1.out, HL2.out, fun b off h _ => (HF1.out b off h).1, fun b off h _ => (HF2.out b off h).1⟩, rfl⟩, set5 ((hB5.setCell (p := ⟨w.heap.size, 3, none⟩) zl _).setCell (p := ⟨w.heap.size, 4, none⟩) zl _) (Nat.le_succ _)⟩
    refine zqN fun K hK => ?_
    go_simp
    skip
    refine hK.out _ _ trivial (fun hHeld => ?_)
    try simp only [Act.put, zq1, zq2, zq3]
    refine zqR [1] ?_
    refine zqN fun K hK => ?_
    go_simp
    skip
    refine hK.out _ _ trivial (fun hHeld => ?_)
    try simp only [Act.put, zq1, zq2, zq3]
    refine zqR [2] ?_
    refine zqN fun K hK => ?_
    go_simp
    skip
    refine hK.out _ _ trivial (fun hHeld => ?_)
    try simp only [Act.put, zq1, zq2, zq3]
    refine zqR [3] ?_
    refine zqN fun K hK => ?_
    go_simp
    go_at_call 146
    with_reducible refine (copy_any A rs.length c rs wd _ rfl (HA.out.below HTd.out.bel zl) (by omega) HAN.out.2 rfl).mono ?_
    intro e w4 hh
    obtain ⟨hh1, hb4⟩ := hh
    unfold Lst at hh1
    obtain ⟨A1, k1, y1, hy1, hc1, hr1, hf1, he1⟩ := hh1
    subst he1
    have HT4 := zh (HTd.out.more hb4)
    have HSB4 := zh (HSBd.out.below hb4 HTd.out.1.2.2.2.2.2)
    have HS1 := zh hr1
    have HY1 := zh hy1
    have HL1 := zh hc1
    have HF1 : Hid (∀ b off, A1 = some ⟨b, off, none⟩ → w.heap.size ≤ b ∧ b ≠ w.heap.size ∧ b ≠ w.heap.size + 1) := zh fun b off h => by
     have h1 := hf1 b off h
     have h2 := HTd.out.2.1.2.2.2.2.2
     exact ⟨by omega, by omega, by omega⟩
    clear hb4 hy1 hc1 hr1 hf1
    clear c0 c1 c2 c3 c4 r0 r1 r2 r3 r4 f0 f1 f2 f3 f4 b0 b1 b2 b3 b4
    obtain ⟨⟨c0, c1, c2, c3, c4, _⟩, ⟨r0, r1, r2, r3, r4, _⟩, ⟨f0, f1, f2, f3, f4⟩, _⟩ := HT4.out
    obtain ⟨b0, b1, b2, b3, b4⟩ := HSB4.out
    dsimp only
    refine hK.out _ _ trivial (fun hHeld => ?_)
    try simp only [Act.put, zq1, zq2, zq3]
    refine zqT 8 ?_ ?_ ?_
    rotate_left
    · intro w' hSw; go_simp; try with_reducible rfl
    try simp only [Act.put, zq1, zq2, zq3]
    refine zqR [7] ?_
    refine zqN fun K hK => ?_
    go_simp
    go_at_call 147
    with_reducible refine (with_any B d ws u w4 (HBB.out.below HT4.out.bel zl) (by omega) HBN.out HN2.out).mono ?_
    intro e w5 hh
    obtain ⟨hh1, hb5⟩ := hh
    unfold Lst at hh1
    obtain ⟨A2, k2, y2, hy2, hc2, hr2, hf2, he2⟩ := hh1
    subst he2
    have HT5 := zh (HT4.out.more hb5)
    have HSB5 := zh (HSB4.out.below hb5 HT4.out.1.2.2.2.2.2)
    replace HS1 := zh (HS1.out.below hb5 zl)
    have HS2 := zh hr2
    have HY2 := zh hy2
    have HL2 := zh hc2
    have HF2 : Hid (∀ b off, A2 = some ⟨b, off, none⟩ → w.heap.size ≤ b ∧ b ≠ w.heap.size ∧ b ≠ w.heap.size + 1) := zh fun b off h => by
     have h1 := hf2 b off h
     have h2 := HT4.out.2.1.2.2.2.2.2
     exact ⟨by omega, by omega, by omega⟩
    clear hb5 hy2 hc2 hr2 hf2
    clear c0 c1 c2 c3 c4 r0 r1 r2 r3 r4 f0 f1 f2 f3 f4 b0 b1 b2 b3 b4
    obtain ⟨⟨c0, c1, c2, c3, c4, _⟩, ⟨r0, r1, r2, r3, r4, _⟩, ⟨f0, f1, f2, f3, f4⟩, _⟩ := HT5.out
    obtain ⟨b0, b1, b2, b3, b4⟩ := HSB5.out
    dsimp only
    refine hK.out _ _ trivial (fun hHeld => ?_)
    try simp only [Act.put, zq1, zq2, zq3]
    refine zqR [9] ?_
    refine zqN fun K hK => ?_
    go_simp
    skip
    refine hK.out _ _ trivial (fun hHeld => ?_)
    try simp only [Act.put, zq1, zq2, zq3]
    refine zqT 10 ?_ ?_ ?_
    rotate_left
    · intro w' hSw; go_simp; try with_reducible rfl
    try simp only [Act.put, zq1, zq2, zq3]
    refine zqR [11] ?_
    refine zqN fun K hK => ?_
    go_simp
    skip
    refine hK.out _ _ trivial (fun hHeld => ?_)
    try simp only [Act.put, zq1, zq2, zq3]
    refine wpAnyH_done (by kernel_rfl) ?_ _
    have hS1 := HS1.out
    have hS2 := HS2.out
    have hB5 := HT5.out.bel
    go_wp2
    refine bodyPost_ret (v := .tuple #[RV o f ep A1 y1.length k1 A2 y2.length k2, .int .i64 0]) (by simp [results, Tryz.results103, go_sem, RV, r0, r1, r2, r3, r4]) rfl ?_
    have p1 : ∀ b off, A1 = some ⟨b, off, none⟩ → b ≠ w.heap.size := fun b off h => (HF1.out b off h).2.1
    have p2 : ∀ b off, A2 = some ⟨b, off, none⟩ → b ≠ w.heap.size := fun b off h => (HF2.out b off h).2.1
    have q1 : ∀ b off, A1 = some ⟨b, off, none⟩ → b ≠ w.heap.size + 1 := fun b off h => (HF1.out b off h).2.2
    have q2 : ∀ b off, A2 = some ⟨b, off, none⟩ → b ≠ w.heap.size + 1 := fun b off h => (HF2.out b off h).2.2
    exact ⟨⟨_, ⟨o, f, A1, k1, y1, A2, k2, y2, rfl, by simp only [HY1.out, HY2.out], sreads_set5 (sreads_set (sreads_set hS1 p1) p1) q1, sreads_set5 (sreads_set (sreads_set hS2 p2) p2) q2, HL1.out, HL2.out, fun b off h _ => (HF1.out b off h).1, fun b off h _ => (HF2.out b off h).1⟩, rfl⟩, set5 ((hB5.setCell (p := ⟨w.heap.size, 3, none⟩) zl _).setCell (p := ⟨w.heap.size, 4, none⟩) zl _) (Nat.le_succ _)⟩
   ·
    rw [e]
    clear e
    go_enter Tryz.func103, Tryz.ntmps103
    go_wp2_with fail
    with_reducible refine (HCK.out _ (HA.out.below (al2 _ _ _) zl) (HBB.out.below (al2 _ _ _) zl)).mono ?_
    rintro e w1 ⟨rfl, hb1⟩
    have HT1 := zh (two_first hb1)
    have HSB1 := zh (box_safe hb1)
    clear hb1
    obtain ⟨⟨c0, c1, c2, c3, c4, _⟩, ⟨r0, r1, r2, r3, r4, _⟩, ⟨f0, f1, f2, f3, f4⟩, _⟩ := HT1.out
    dsimp only
    go_wp2_with fail
    with_reducible refine (HM1.out _ (HA.out.below HT1.out.bel zl)).mono ?_
    rintro e w2 ⟨rfl, hb2⟩
    have HT2 := zh (HT1.out.more hb2)
    have HSB2 := zh (HSB1.out.below hb2 HT1.out.1.2.2.2.2.2)
    clear hb2 c0 c1 c2 c3 c4 r0 r1 r2 r3 r4 f0 f1 f2 f3 f4
    obtain ⟨⟨c0, c1, c2, c3, c4, _⟩, ⟨r0, r1, r2, r3, r4, _⟩, ⟨f0, f1, f2, f3, f4⟩, _⟩ := HT2.out
    dsimp only
    go_wp2_with fail
    with_reducible refine (HM2.out _ (HBB.out.below HT2.out.bel zl)).mono ?_
    rintro e w3 ⟨rfl, hb3⟩
    have HT3 := zh (HT2.out.more hb3)
    have HSB3 := zh (HSB2.out.below hb3 HT2.out.1.2.2.2.2.2)
    clear hb3 c0 c1 c2 c3 c4 r0 r1 r2 r3 r4 f0 f1 f2 f3 f4
    obtain ⟨⟨c0, c1, c2, c3, c4, _⟩, ⟨r0, r1, r2, r3, r4, _⟩, ⟨f0, f1, f2, f3, f4⟩, _⟩ := HT3.out
    dsimp only
    go_wp2_with fail
    have hT0 : Two w w3.drew o f ep A rs.length c B ws.length d := HT3.out.more (Below.drewN' (Below.refl w3.heap.size w3) 1)
    have hSB0 : Sf w.heap.size w3.drew := HSB3.out.below (Below.drewN' (Below.refl w3.heap.size w3) 1) HT3.out.1.2.2.2.2.2
    refine wp_region_held_drew (S := fun _ => True) (by kernel_rfl) trivial (fun hHeld => ?_)
    clear c0 c1 c2 c3 c4 r0 r1 r2 r3 r4 f0 f1 f2 f3 f4
    generalize w3.drew = wd at hT0 hSB0 ⊢
    have HTd := zh hT0
    have HSBd := zh hSB0
    clear hT0 hSB0
    obtain ⟨⟨c0, c1, c2, c3, c4, _⟩, ⟨r0, r1, r2, r3, r4, _⟩, ⟨f0, f1, f2, f3, f4⟩, _⟩ := HTd.out
    obtain ⟨b0, b1, b2, b3, b4⟩ := HSBd.out
    refine zqT 0 ?_ ?_ ?_
    rotate_left
    · intro w' hSw; go_simp; try with_reducible rfl
    try simp only [Act.put, zq1, zq2, zq3]
    refine zqT 2 ?_ ?_ ?_
    rotate_left
    · intro w' hSw; go_simp; try with_reducible rfl
    try simp only [Act.put, zq1, zq2, zq3]
    refine zqT 4 ?_ ?_ ?_
    rotate_left
    · intro w' hSw; go_simp; try with_reducible rfl
    try simp only [Act.put, zq1, zq2, zq3]
    refine zqR [1, 5] ?_
    refine zqC (fun K hK => ?_) ?_
    ·
     go_simp
     skip
     refine hK.out _ _ trivial (fun hHeld => ?_)
     try simp only [Act.put, zq1, zq2, zq3]
     refine zqR [3, 5] ?_
     refine zqC (fun K hK => ?_) ?_
     ·
      go_simp
      go_at_call 147
      with_reducible refine (with_any A c rs u wd (HA.out.below HTd.out.bel zl) (by omega) HAN.out HN1.out).mono ?_
      intro e w4 hh
      obtain ⟨hh1, hb4⟩ := hh
      unfold Lst at hh1
      obtain ⟨A1, k1, y1, hy1, hc1, hr1, hf1, he1⟩ := hh1
      subst he1
      have HT4 := zh (HTd.out.more hb4)
      have HSB4 := zh (HSBd.out.below hb4 HTd.out.1.2.2.2.2.2)
      have HS1 := zh hr1
      have HY1 := zh hy1
      have HL1 := zh hc1
      have HF1 : Hid (∀ b off, A1 = some ⟨b, off, none⟩ → w.heap.size ≤ b ∧ b ≠ w.heap.size ∧ b ≠ w.heap.size + 1) := zh fun b off h => by
       have h1 := hf1 b off h
       have h2 := HTd.out.2.1.2.2.2.2.2
       exact ⟨by omega, by omega, by omega⟩
      clear hb4 hy1 hc1 hr1 hf1
      clear c0 c1 c2 c3 c4 r0 r1 r2 r3 r4 f0 f1 f2 f3 f4 b0 b1 b2 b3 b4
      obtain ⟨⟨c0, c1, c2, c3, c4, _⟩, ⟨r0, r1, r2, r3, r4, _⟩, ⟨f0, f1, f2, f3, f4⟩, _⟩ := HT4.out
      obtain ⟨b0, b1, b2, b3, b4⟩ := HSB4.out
      dsimp only
      refine hK.out _ _ trivial (fun hHeld => ?_)
      try simp only [Act.put, zq1, zq2, zq3]
      refine zqR [5] ?_
      refine zqN fun K hK => ?_
      go_simp
      skip
      refine hK.out _ _ trivial (fun hHeld => ?_)
      try simp only [Act.put, zq1, zq2, zq3]
      refine zqT 8 ?_ ?_ ?_
      rotate_left
      · intro w' hSw; go_simp; try with_reducible rfl
      try simp only [Act.put, zq1, zq2, zq3]
      refine zqR [6] ?_
      refine zqN fun K hK => ?_
      go_simp
      skip
      refine hK.out _ _ trivial (fun hHeld => ?_)
      try simp only [Act.put, zq1, zq2, zq3]
      refine zqR [7] ?_
      refine zqN fun K hK => ?_
      go_simp
      go_at_call 146
      with_reducible refine (copy_any B ws.length d ws w4 _ rfl (HBB.out.below HT4.out.bel zl) (by omega) HBN.out.2 rfl).mono ?_
      intro e w5 hh
      obtain ⟨hh1, hb5⟩ := hh
      unfold Lst at hh1
      obtain ⟨A2, k2, y2, hy2, hc2, hr2, hf2, he2⟩ := hh1
      subst he2
      have HT5 := zh (HT4.out.more hb5)
      have HSB5 := zh (HSB4.out.below hb5 HT4.out.1.2.2.2.2.2)
      replace HS1 := zh (HS1.out.below hb5 zl)
      have HS2 := zh hr2
      have HY2 := zh hy2
      have HL2 := zh hc2
      have HF2 : Hid (∀ b off, A2 = some ⟨b, off, none⟩ → w.heap.size ≤ b ∧ b ≠ w.heap.size ∧ b ≠ w.heap.size + 1) := zh fun b off h => by
       have h1 := hf2 b off h
       have h2 := HT4.out.2.1.2.2.2.2.2
       exact ⟨by omega, by omega, by omega⟩
      clear hb5 hy2 hc2 hr2 hf2
      clear c0 c1 c2 c3 c4 r0 r1 r2 r3 r4 f0 f1 f2 f3 f4 b0 b1 b2 b3 b4
      obtain ⟨⟨c0, c1, c2, c3, c4, _⟩, ⟨r0, r1, r2, r3, r4, _⟩, ⟨f0, f1, f2, f3, f4⟩, _⟩ := HT5.out
      obtain ⟨b0, b1, b2, b3, b4⟩ := HSB5.out
      dsimp only
      refine hK.out _ _ trivial (fun hHeld => ?_)
      try simp only [Act.put, zq1, zq2, zq3]
      refine zqR [9] ?_
      refine zqN fun K hK => ?_
      go_simp
      skip
      refine hK.out _ _ trivial (fun hHeld => ?_)
      try simp only [Act.put, zq1, zq2, zq3]
      refine zqT 10 ?_ ?_ ?_
      rotate_left
      · intro w' hSw; go_simp; try with_reducible rfl
      try simp only [Act.put, zq1, zq2, zq3]
      refine zqR [11] ?_
      refine zqN fun K hK => ?_
      go_simp
      skip
      refine hK.out _ _ trivial (fun hHeld => ?_)
      try simp only [Act.put, zq1, zq2, zq3]
      refine wpAnyH_done (by kernel_rfl) ?_ _
      have hS1 := HS1.out
      have hS2 := HS2.out
      have hB5 := HT5.out.bel
      go_wp2
      refine bodyPost_ret (v := .tuple #[RV o f ep A1 y1.length k1 A2 y2.length k2, .int .i64 0]) (by simp [results, Tryz.results103, go_sem, RV, r0, r1, r2, r3, r4]) rfl ?_
      have p1 : ∀ b off, A1 = some ⟨b, off, none⟩ → b ≠ w.heap.size := fun b off h => (HF1.out b off h).2.1
      have p2 : ∀ b off, A2 = some ⟨b, off, none⟩ → b ≠ w.heap.size := fun b off h => (HF2.out b off h).2.1
      have q1 : ∀ b off, A1 = some ⟨b, off, none⟩ → b ≠ w.heap.size + 1 := fun b off h => (HF1.out b off h).2.2
      have q2 : ∀ b off, A2 = some ⟨b, off, none⟩ → b ≠ w.heap.size + 1 := fun b off h => (HF2.out b off h).2.2
      exact ⟨⟨_, ⟨o, f, A1, k1, y1, A2, k2, y2, rfl, by simp only [HY1.out, HY2.out], sreads_set5 (sreads_set (sreads_set hS1 p1) p1) q1, sreads_set5 (sreads_set (sreads_set hS2 p2) p2) q2, HL1.out, HL2.out, fun b off h _ => (HF1.out b off h).1, fun b off h _ => (HF2.out b off h).1⟩, rfl⟩, set5 ((hB5.setCell (p := ⟨w.heap.size, 3, none⟩) zl _).setCell (p := ⟨w.heap.size, 4, none⟩) zl _) (Nat.le_succ _)⟩
     refine zqN fun K hK => ?_
     go_simp
     skip
     refine hK.out _ _ trivial (fun hHeld => ?_)
     try simp only [Act.put, zq1, zq2, zq3]
     refine zqR [3, 6] ?_
     refine zqC (fun K hK => ?_) ?_
     ·
      go_simp
      go_at_call 147
      with_reducible refine (with_any A c rs u wd (HA.out.below HTd.out.bel zl) (by omega) HAN.out HN1.out).mono ?_
      intro e w4 hh
      obtain ⟨hh1, hb4⟩ := hh
      unfold Lst at hh1
      obtain ⟨A1, k1, y1, hy1, hc1, hr1, hf1, he1⟩ := hh1
      subst he1
      have HT4 := zh (HTd.out.more hb4)
      have HSB4 := zh (HSBd.out.below hb4 HTd.out.1.2.2.2.2.2)
      have HS1 := zh hr1
      have HY1 := zh hy1
      have HL1 := zh hc1
      have HF1 : Hid (∀ b off, A1 = some ⟨b, off, none⟩ → w.heap.size ≤ b ∧ b ≠ w.heap.size ∧ b ≠ w.heap.size + 1) := zh fun b off h => by
       have h1 := hf1 b off h
       have h2 := HTd.out.2.1.2.2.2.2.2
       exact ⟨by omega, by omega, by omega⟩
      clear hb4 hy1 hc1 hr1 hf1
      clear c0 c1 c2 c3 c4 r0 r1 r2 r3 r4 f0 f1 f2 f3 f4 b0 b1 b2 b3 b4
      obtain ⟨⟨c0, c1, c2, c3, c4, _⟩, ⟨r0, r1, r2, r3, r4, _⟩, ⟨f0, f1, f2, f3, f4⟩, _⟩ := HT4.out
      obtain ⟨b0, b1, b2, b3, b4⟩ := HSB4.out
      dsimp only
      refine hK.out _ _ trivial (fun hHeld => ?_)
      try simp only [Act.put, zq1, zq2, zq3]
      refine zqT 8 ?_ ?_ ?_
      rotate_left
      · intro w' hSw; go_simp; try with_reducible rfl
      try simp only [Act.put, zq1, zq2, zq3]
      refine zqR [6] ?_
      refine zqN fun K hK => ?_
      go_simp
      skip
      refine hK.out _ _ trivial (fun hHeld => ?_)
      try simp only [Act.put, zq1, zq2, zq3]
      refine zqR [7] ?_
      refine zqN fun K hK => ?_
      go_simp
      go_at_call 146
      with_reducible refine (copy_any B ws.length d ws w4 _ rfl (HBB.out.below HT4.out.bel zl) (by omega) HBN.out.2 rfl).mono ?_
      intro e w5 hh
      obtain ⟨hh1, hb5⟩ := hh
      unfold Lst at hh1
      obtain ⟨A2, k2, y2, hy2, hc2, hr2, hf2, he2⟩ := hh1
      subst he2
      have HT5 := zh (HT4.out.more hb5)
      have HSB5 := zh (HSB4.out.below hb5 HT4.out.1.2.2.2.2.2)
      replace HS1 := zh (HS1.out.below hb5 zl)
      have HS2 := zh hr2
      have HY2 := zh hy2
      have HL2 := zh hc2
      have HF2 : Hid (∀ b off, A2 = some ⟨b, off, none⟩ → w.heap.size ≤ b ∧ b ≠ w.heap.size ∧ b ≠ w.heap.size + 1) := zh fun b off h => by
       have h1 := hf2 b off h
       have h2 := HT4.out.2.1.2.2.2.2.2
       exact ⟨by omega, by omega, by omega⟩
      clear hb5 hy2 hc2 hr2 hf2
      clear c0 c1 c2 c3 c4 r0 r1 r2 r3 r4 f0 f1 f2 f3 f4 b0 b1 b2 b3 b4
      obtain ⟨⟨c0, c1, c2, c3, c4, _⟩, ⟨r0, r1, r2, r3, r4, _⟩, ⟨f0, f1, f2, f3, f4⟩, _⟩ := HT5.out
      obtain ⟨b0, b1, b2, b3, b4⟩ := HSB5.out
      dsimp only
      refine hK.out _ _ trivial (fun hHeld => ?_)
      try simp only [Act.put, zq1, zq2, zq3]
      refine zqR [9] ?_
      refine zqN fun K hK => ?_
      go_simp
      skip
      refine hK.out _ _ trivial (fun hHeld => ?_)
      try simp only [Act.put, zq1, zq2, zq3]
      refine zqT 10 ?_ ?_ ?_
      rotate_left
      · intro w' hSw; go_simp; try with_reducible rfl
      try simp only [Act.put, zq1, zq2, zq3]
      refine zqR [11] ?_
      refine zqN fun K hK => ?_
      go_simp
      skip
      refine hK.out _ _ trivial (fun hHeld => ?_)
      try simp only [Act.put, zq1, zq2, zq3]
      refine wpAnyH_done (by kernel_rfl) ?_ _
      have hS1 := HS1.out
      have hS2 := HS2.out
      have hB5 := HT5.out.bel
      go_wp2
      refine bodyPost_ret (v := .tuple #[RV o f ep A1 y1.length k1 A2 y2.length k2, .int .i64 0]) (by simp [results, Tryz.results103, go_sem, RV, r0, r1, r2, r3, r4]) rfl ?_
      have p1 : ∀ b off, A1 = some ⟨b, off, none⟩ → b ≠ w.heap.size := fun b off h => (HF1.out b off h).2.1
      have p2 : ∀ b off, A2 = some ⟨b, off, none⟩ → b ≠ w.heap.size := fun b off h => (HF2.out b off h).2.1
      have q1 : ∀ b off, A1 = some ⟨b, off, none⟩ → b ≠ w.heap.size + 1 := fun b off h => (HF1.out b off h).2.2
      have q2 : ∀ b off, A2 = some ⟨b, off, none⟩ → b ≠ w.heap.size + 1 := fun b off h => (HF2.out b off h).2.2
      exact ⟨⟨_, ⟨o, f, A1, k1, y1, A2, k2, y2, rfl, by simp only [HY1.out, HY2.out], sreads_set5 (sreads_set (sreads_set hS1 p1) p1) q1, sreads_set5 (sreads_set (sreads_set hS2 p2) p2) q2, HL1.out, HL2.out, fun b off h _ => (HF1.out b off h).1, fun b off h _ => (HF2.out b off h).1⟩, rfl⟩, set5 ((hB5.setCell (p := ⟨w.heap.size, 3, none⟩) zl _).setCell (p := ⟨w.heap.size, 4, none⟩) zl _) (Nat.le_succ _)⟩
     refine zqN fun K hK => ?_
     go_simp
     have hpc := one_piece wd wd.heap.size 44 rfl (rfl : ws.length = ws.length) (HBB.out.below HTd.out.bel zl) HBN.out.2
     have hTe := HTd.out.more (al wd (.cells #[.slice B ws.length d] 44))
     have hSBe := HSBd.out.below (al wd (.cells #[.slice B ws.length d] 44)) HTd.out.1.2.2.2.2.2
     generalize wd.alloc (.cells #[.slice B ws.length d] 44) = we at hpc hTe hSBe ⊢
     have HPC := zh hpc
     have HTe := zh hTe
     have HSBe := zh hSBe
     clear hpc hTe hSBe
     clear c0 c1 c2 c3 c4 r0 r1 r2 r3 r4 f0 f1 f2 f3 f4 b0 b1 b2 b3 b4
     obtain ⟨⟨c0, c1, c2, c3, c4, _⟩, ⟨r0, r1, r2, r3, r4, _⟩, ⟨f0, f1, f2, f3, f4⟩, _⟩ := HTe.out
     obtain ⟨b0, b1, b2, b3, b4⟩ := HSBe.out
     refine hK.out _ _ trivial (fun hHeld => ?_)
     try simp only [Act.put, zq1, zq2, zq3]
     refine zqR [3] ?_
     refine zqN fun K hK => ?_
     go_simp
     go_at_call 147
     with_reducible refine (with_any A c rs u we (HA.out.below HTe.out.bel zl) (by omega) HAN.out HN1.out).mono ?_
     intro e w4 hh
     obtain ⟨hh1, hb4⟩ := hh
     unfold Lst at hh1
     obtain ⟨A1, k1, y1, hy1, hc1, hr1, hf1, he1⟩ := hh1
     subst he1
     have HT4 := zh (HTe.out.more hb4)
     have HSB4 := zh (HSBe.out.below hb4 HTe.out.1.2.2.2.2.2)
     have HS1 := zh hr1
     have HY1 := zh hy1
     have HL1 := zh hc1
     have HF1 : Hid (∀ b off, A1 = some ⟨b, off, none⟩ → w.heap.size ≤ b ∧ b ≠ w.heap.size ∧ b ≠ w.heap.size + 1) := zh fun b off h => by
      have h1 := hf1 b off h
      have h2 := HTe.out.2.1.2.2.2.2.2
      exact ⟨by omega, by omega, by omega⟩
     replace HPC := zh (HPC.out.below hb4 zl)
     clear hb4 hy1 hc1 hr1 hf1
     clear c0 c1 c2 c3 c4 r0 r1 r2 r3 r4 f0 f1 f2 f3 f4 b0 b1 b2 b3 b4
     obtain ⟨⟨c0, c1, c2, c3, c4, _⟩, ⟨r0, r1, r2, r3, r4, _⟩, ⟨f0, f1, f2, f3, f4⟩, _⟩ := HT4.out
     obtain ⟨b0, b1, b2, b3, b4⟩ := HSB4.out
     dsimp only
     refine hK.out _ _ trivial (fun hHeld => ?_)
     try simp only [Act.put, zq1, zq2, zq3]
     refine zqT 8 ?_ ?_ ?_
     rotate_left
     · intro w' hSw; go_simp; try with_reducible rfl
     try simp only [Act.put, zq1, zq2, zq3]
     refine zqR [7] ?_
     refine zqN fun K hK => ?_
     go_simp
     go_at_call 146
     with_reducible refine (copy_at wd.heap.size ws w4 HPC.out (by omega)).mono ?_
     intro e w5 hh
     obtain ⟨hh1, hb5⟩ := hh
     unfold Lst at hh1
     obtain ⟨A2, k2, y2, hy2, hc2, hr2, hf2, he2⟩ := hh1
     subst he2
     have HT5 := zh (HT4.out.more hb5)
     have HSB5 := zh (HSB4.out.below hb5 HT4.out.1.2.2.2.2.2)
     replace HS1 := zh (HS1.out.below hb5 zl)
     have HS2 := zh hr2
     have HY2 := zh hy2
     have HL2 := zh hc2
     have HF2 : Hid (∀ b off, A2 = some ⟨b, off, none⟩ → w.heap.size ≤ b ∧ b ≠ w.heap.size ∧ b ≠ w.heap.size + 1) := zh fun b off h => by
      have h1 := hf2 b off h
      have h2 := HT4.out.2.1.2.2.2.2.2
      exact ⟨by omega, by omega, by omega⟩
     clear hb5 hy2 hc2 hr2 hf2
     clear c0 c1 c2 c3 c4 r0 r1 r2 r3 r4 f0 f1 f2 f3 f4 b0 b1 b2 b3 b4
     obtain ⟨⟨c0, c1, c2, c3, c4, _⟩, ⟨r0, r1, r2, r3, r4, _⟩, ⟨f0, f1, f2, f3, f4⟩, _⟩ := HT5.out
     obtain ⟨b0, b1, b2, b3, b4⟩ := HSB5.out
     dsimp only
     refine hK.out _ _ trivial (fun hHeld => ?_)
     try simp only [Act.put, zq1, zq2, zq3]
     refine zqR [9] ?_
     refine zqN fun K hK => ?_
     go_simp
     skip
     refine hK.out _ _ trivial (fun hHeld => ?_)
     try simp only [Act.put, zq1, zq2, zq3]
     refine zqT 10 ?_ ?_ ?_
     rotate_left
     · intro w' hSw; go_simp; try with_reducible rfl
     try simp only [Act.put, zq1, zq2, zq3]
     refine zqR [11] ?_
     refine zqN fun K hK => ?_
     go_simp
     skip
     refine hK.out _ _ trivial (fun hHeld => ?_)
     try simp only [Act.put, zq1, zq2, zq3]
     refine wpAnyH_done (by kernel_rfl) ?_ _
     have hS1 := HS1.out
     have hS2 := HS2.out
     have hB5 := HT5.out.bel
     go_wp2
     refine bodyPost_ret (v := .tuple #[RV o f ep A1 y1.length k1 A2 y2.length k2, .int .i64 0]) (by simp [results, Tryz.results103, go_sem, RV, r0, r1, r2, r3, r4]) rfl ?_
     have p1 : ∀ b off, A1 = some ⟨b, off, none⟩ → b ≠ w.heap.size := fun b off h => (HF1.out b off h).2.1
     have p2 : ∀ b off, A2 = some ⟨b, off, none⟩ → b ≠ w.heap.size := fun b off h => (HF2.out b off h).2.1
     have q1 : ∀ b off, A1 = some ⟨b, off, none⟩ → b ≠ w.heap.size + 1 := fun b off h => (HF1.out b off h).2.2
     have q2 : ∀ b off, A2 = some ⟨b, off, none⟩ → b ≠ w.heap.size + 1 := fun b off h => (HF2.out b off h).2.2
     exact ⟨⟨_, ⟨o, f, A1, k1, y1, A2, k2, y2, rfl, by simp only [HY1.out, HY2.out], sreads_set5 (sreads_set (sreads_set hS1 p1) p1) q1, sreads_set5 (sreads_set (sreads_set hS2 p2) p2) q2, HL1.out, HL2.out, fun b off h _ => (HF1.out b off h).1, fun b off h _ => (HF2.out b off h).1⟩, rfl⟩, set5 ((hB5.setCell (p := ⟨w.heap.size, 3, none⟩) zl _).setCell (p := ⟨w.heap.size, 4, none⟩) zl _) (Nat.le_succ _)⟩
    refine zqN fun K hK => ?_
    go_simp
    skip
    refine hK.out _ _ trivial (fun hHeld => ?_)
    try simp only [Act.put, zq1, zq2, zq3]
    refine zqR [1, 6] ?_
    refine zqC (fun K hK => ?_) ?_
    ·
     go_simp
     skip
     refine hK.out _ _ trivial (fun hHeld => ?_)
     try simp only [Act.put, zq1, zq2, zq3]
     refine zqR [3, 6] ?_
     refine zqC (fun K hK => ?_) ?_
     ·
      go_simp
      go_at_call 147
      with_reducible refine (with_any A c rs u wd (HA.out.below HTd.out.bel zl) (by omega) HAN.out HN1.out).mono ?_
      intro e w4 hh
      obtain ⟨hh1, hb4⟩ := hh
      unfold Lst at hh1
      obtain ⟨A1, k1, y1, hy1, hc1, hr1, hf1, he1⟩ := hh1
      subst he1
      have HT4 := zh (HTd.out.more hb4)
      have HSB4 := zh (HSBd.out.below hb4 HTd.out.1.2.2.2.2.2)
      have HS1 := zh hr1
      have HY1 := zh hy1
      have HL1 := zh hc1
      have HF1 : Hid (∀ b off, A1 = some ⟨b, off, none⟩ → w.heap.size ≤ b ∧ b ≠ w.heap.size ∧ b ≠ w.heap.size + 1) := zh fun b off h => by
       have h1 := hf1 b off h
       have h2 := HTd.out.2.1.2.2.2.2.2
       exact ⟨by omega, by omega, by omega⟩
      clear hb4 hy1 hc1 hr1 hf1
      clear c0 c1 c2 c3 c4 r0 r1 r2 r3 r4 f0 f1 f2 f3 f4 b0 b1 b2 b3 b4
      obtain ⟨⟨c0, c1, c2, c3, c4, _⟩, ⟨r0, r1, r2, r3, r4, _⟩, ⟨f0, f1, f2, f3, f4⟩, _⟩ := HT4.out
      obtain ⟨b0, b1, b2, b3, b4⟩ := HSB4.out
      dsimp only
      refine hK.out _ _ trivial (fun hHeld => ?_)
      try simp only [Act.put, zq1, zq2, zq3]
      refine zqT 8 ?_ ?_ ?_
      rotate_left
      · intro w' hSw; go_simp; try with_reducible rfl
      try simp only [Act.put, zq1, zq2, zq3]
      refine zqR [6] ?_
      refine zqN fun K hK => ?_
      go_simp
      skip
      refine hK.out _ _ trivial (fun hHeld => ?_)
      try simp only [Act.put, zq1, zq2, zq3]
      refine zqR [7] ?_
      refine zqN fun K hK => ?_
      go_simp
      go_at_call 146
      with_reducible refine (copy_any B ws.length d ws w4 _ rfl (HBB.out.below HT4.out.bel zl) (by omega) HBN.out.2 rfl).mono ?_
      intro e w5 hh
      obtain ⟨hh1, hb5⟩ := hh
      unfold Lst at hh1
      obtain ⟨A2, k2, y2, hy2, hc2, hr2, hf2, he2⟩ := hh1
      subst he2
      have HT5 := zh (HT4.out.more hb5)
      have HSB5 := zh (HSB4.out.below hb5 HT4.out.1.2.2.2.2.2)
      replace HS1 := zh (HS1.out.below hb5 zl)
      have HS2 := zh hr2
      have HY2 := zh hy2
      have HL2 := zh hc2
      have HF2 : Hid (∀ b off, A2 = some ⟨b, off, none⟩ → w.heap.size ≤ b ∧ b ≠ w.heap.size ∧ b ≠ w.heap.size + 1) := zh fun b off h => by
       have h1 := hf2 b off h
       have h2 := HT4.out.2.1.2.2.2.2.2
       exact ⟨by omega, by omega, by omega⟩
      clear hb5 hy2 hc2 hr2 hf2
      clear c0 c1 c2 c3 c4 r0 r1 r2 r3 r4 f0 f1 f2 f3 f4 b0 b1 b2 b3 b4
      obtain ⟨⟨c0, c1, c2, c3, c4, _⟩, ⟨r0, r1, r2, r3, r4, _⟩, ⟨f0, f1, f2, f3, f4⟩, _⟩ := HT5.out
      obtain ⟨b0, b1, b2, b3, b4⟩ := HSB5.out
      dsimp only
      refine hK.out _ _ trivial (fun hHeld => ?_)
      try simp only [Act.put, zq1, zq2, zq3]
      refine zqR [9] ?_
      refine zqN fun K hK => ?_
      go_simp
      skip
      refine hK.out _ _ trivial (fun hHeld => ?_)
      try simp only [Act.put, zq1, zq2, zq3]
      refine zqT 10 ?_ ?_ ?_
      rotate_left
      · intro w' hSw; go_simp; try with_reducible rfl
      try simp only [Act.put, zq1, zq2, zq3]
      refine zqR [11] ?_
      refine zqN fun K hK => ?_
      go_simp
      skip
      refine hK.out _ _ trivial (fun hHeld => ?_)
      try simp only [Act.put, zq1, zq2, zq3]
      refine wpAnyH_done (by kernel_rfl) ?_ _
      have hS1 := HS1.out
      have hS2 := HS2.out
      have hB5 := HT5.out.bel
      go_wp2
      refine bodyPost_ret (v := .tuple #[RV o f ep A1 y1.length k1 A2 y2.length k2, .int .i64 0]) (by simp [results, Tryz.results103, go_sem, RV, r0, r1, r2, r3, r4]) rfl ?_
      have p1 : ∀ b off, A1 = some ⟨b, off, none⟩ → b ≠ w.heap.size := fun b off h => (HF1.out b off h).2.1
      have p2 : ∀ b off, A2 = some ⟨b, off, none⟩ → b ≠ w.heap.size := fun b off h => (HF2.out b off h).2.1
      have q1 : ∀ b off, A1 = some ⟨b, off, none⟩ → b ≠ w.heap.size + 1 := fun b off h => (HF1.out b off h).2.2
      have q2 : ∀ b off, A2 = some ⟨b, off, none⟩ → b ≠ w.heap.size + 1 := fun b off h => (HF2.out b off h).2.2
      exact ⟨⟨_, ⟨o, f, A1, k1, y1, A2, k2, y2, rfl, by simp only [HY1.out, HY2.out], sreads_set5 (sreads_set (sreads_set hS1 p1) p1) q1, sreads_set5 (sreads_set (sreads_set hS2 p2) p2) q2, HL1.out, HL2.out, fun b off h _ => (HF1.out b off h).1, fun b off h _ => (HF2.out b off h).1⟩, rfl⟩, set5 ((hB5.setCell (p := ⟨w.heap.size, 3, none⟩) zl _).setCell (p := ⟨w.heap.size, 4, none⟩) zl _) (Nat.le_succ _)⟩
     refine zqN fun K hK => ?_
     go_simp
     have hpc := one_piece wd wd.heap.size 44 rfl (rfl : ws.length = ws.length) (HBB.out.below HTd.out.bel zl) HBN.out.2
     have hTe := HTd.out.more (al wd (.cells #[.slice B ws.length d] 44))
     have hSBe := HSBd.out.below (al wd (.cells #[.slice B ws.length d] 44)) HTd.out.1.2.2.2.2.2
     generalize wd.alloc (.cells #[.slice B ws.length d] 44) = we at hpc hTe hSBe ⊢
     have HPC := zh hpc
     have HTe := zh hTe
     have HSBe := zh hSBe
     clear hpc hTe hSBe
     clear c0 c1 c2 c3 c4 r0 r1 r2 r3 r4 f0 f1 f2 f3 f4 b0 b1 b2 b3 b4
     obtain ⟨⟨c0, c1, c2, c3, c4, _⟩, ⟨r0, r1, r2, r3, r4, _⟩, ⟨f0, f1, f2, f3, f4⟩, _⟩ := HTe.out
     obtain ⟨b0, b1, b2, b3, b4⟩ := HSBe.out
     refine hK.out _ _ trivial (fun hHeld => ?_)
     try simp only [Act.put, zq1, zq2, zq3]
     refine zqR [3] ?_
     refine zqN fun K hK => ?_
     go_simp
     go_at_call 147
     with_reducible refine (with_any A c rs u we (HA.out.below HTe.out.bel zl) (by omega) HAN.out HN1.out).mono ?_
     intro e w4 hh
     obtain ⟨hh1, hb4⟩ := hh
     unfold Lst at hh1
     obtain ⟨A1, k1, y1, hy1, hc1, hr1, hf1, he1⟩ := hh1
     subst he1
     have HT4 := zh (HTe.out.more hb4)
     have HSB4 := zh (HSBe.out.below hb4 HTe.out.1.2.2.2.2.2)
     have HS1 := zh hr1
     have HY1 := zh hy1
     have HL1 := zh hc1
     have HF1 : Hid (∀ b off, A1 = some ⟨b, off, none⟩ → w.heap.size ≤ b ∧ b ≠ w.heap.size ∧ b ≠ w.heap.size + 1) := zh fun b off h => by
      have h1 := hf1 b off h
      have h2 := HTe.out.2.1.2.2.2.2.2
      exact ⟨by omega, by omega, by omega⟩
     replace HPC := zh (HPC.out.below hb4 zl)
     clear hb4 hy1 hc1 hr1 hf1
     clear c0 c1 c2 c3 c4 r0 r1 r2 r3 r4 f0 f1 f2 f3 f4 b0 b1 b2 b3 b4
     obtain ⟨⟨c0, c1, c2, c3, c4, _⟩, ⟨r0, r1, r2, r3, r4, _⟩, ⟨f0, f1, f2, f3, f4⟩, _⟩ := HT4.out
     obtain ⟨b0, b1, b2, b3, b4⟩ := HSB4.out
     dsimp only
     refine hK.out _ _ trivial (fun hHeld => ?_)
     try simp only [Act.put, zq1, zq2, zq3]
     refine zqT 8 ?_ ?_ ?_
     rotate_left
     · intro w' hSw; go_simp; try with_reducible rfl
     try simp only [Act.put, zq1, zq2, zq3]
     refine zqR [7] ?_
     refine zqN fun K hK => ?_
     go_simp
     go_at_call 146
     with_reducible refine (copy_at wd.heap.size ws w4 HPC.out (by omega)).mono ?_
     intro e w5 hh
     obtain ⟨hh1, hb5⟩ := hh
     unfold Lst at hh1
     obtain ⟨A2, k2, y2, hy2, hc2, hr2, hf2, he2⟩ := hh1
     subst he2
     have HT5 := zh (HT4.out.more hb5)
     have HSB5 := zh (HSB4.out.below hb5 HT4.out.1.2.2.2.2.2)
     replace HS1 := zh (HS1.out.below hb5 zl)
     have HS2 := zh hr2
     have HY2 := zh hy2
     have HL2 := zh hc2
     have HF2 : Hid (∀ b off, A2 = some ⟨b, off, none⟩ → w.heap.size ≤ b ∧ b ≠ w.heap.size ∧ b ≠ w.heap.size + 1) := zh fun b off h => by
      have h1 := hf2 b off h
      have h2 := HT4.out.2.1.2.2.2.2.2
      exact ⟨by omega, by omega, by omega⟩
     clear hb5 hy2 hc2 hr2 hf2
     clear c0 c1 c2 c3 c4 r0 r1 r2 r3 r4 f0 f1 f2 f3 f4 b0 b1 b2 b3 b4
     obtain ⟨⟨c0, c1, c2, c3, c4, _⟩, ⟨r0, r1, r2, r3, r4, _⟩, ⟨f0, f1, f2, f3, f4⟩, _⟩ := HT5.out
     obtain ⟨b0, b1, b2, b3, b4⟩ := HSB5.out
     dsimp only
     refine hK.out _ _ trivial (fun hHeld => ?_)
     try simp only [Act.put, zq1, zq2, zq3]
     refine zqR [9] ?_
     refine zqN fun K hK => ?_
     go_simp
     skip
     refine hK.out _ _ trivial (fun hHeld => ?_)
     try simp only [Act.put, zq1, zq2, zq3]
     refine zqT 10 ?_ ?_ ?_
     rotate_left
     · intro w' hSw; go_simp; try with_reducible rfl
     try simp only [Act.put, zq1, zq2, zq3]
     refine zqR [11] ?_
     refine zqN fun K hK => ?_
     go_simp
     skip
     refine hK.out _ _ trivial (fun hHeld => ?_)
     try simp only [Act.put, zq1, zq2, zq3]
     refine wpAnyH_done (by kernel_rfl) ?_ _
     have hS1 := HS1.out
     have hS2 := HS2.out
     have hB5 := HT5.out.bel
     go_wp2
     refine bodyPost_ret (v := .tuple #[RV o f ep A1 y1.length k1 A2 y2.length k2, .int .i64 0]) (by simp [results, Tryz.results103, go_sem, RV, r0, r1, r2, r3, r4]) rfl ?_
     have p1 : ∀ b off, A1 = some ⟨b, off, none⟩ → b ≠ w.heap.size := fun b off h => (HF1.out b off h).2.1
     have p2 : ∀ b off, A2 = some ⟨b, off, none⟩ → b ≠ w.heap.size := fun b off h => (HF2.out b off h).2.1
     have q1 : ∀ b off, A1 = some ⟨b, off, none⟩ → b ≠ w.heap.size + 1 := fun b off h => (HF1.out b off h).2.2
     have q2 : ∀ b off, A2 = some ⟨b, off, none⟩ → b ≠ w.heap.size + 1 := fun b off h => (HF2.out b off h).2.2
     exact ⟨⟨_, ⟨o, f, A1, k1, y1, A2, k2, y2, rfl, by simp only [HY1.out, HY2.out], sreads_set5 (sreads_set (sreads_set hS1 p1) p1) q1, sreads_set5 (sreads_set (sreads_set hS2 p2) p2) q2, HL1.out, HL2.out, fun b off h _ => (HF1.out b off h).1, fun b off h _ => (HF2.out b off h).1⟩, rfl⟩, set5 ((hB5.setCell (p := ⟨w.heap.size, 3, none⟩) zl _).setCell (p := ⟨w.heap.size, 4, none⟩) zl _) (Nat.le_succ _)⟩
    refine zqN fun K hK => ?_
    go_simp
    have hpc := one_piece wd wd.heap.size 44 rfl (rfl : ws.length = ws.length) (HBB.out.below HTd.out.bel zl) HBN.out.2
    have hTe := HTd.out.more (al wd (.cells #[.slice B ws.length d] 44))
    have hSBe := HSBd.out.below (al wd (.cells #[.slice B ws.length d] 44)) HTd.out.1.2.2.2.2.2
    generalize wd.alloc (.cells #[.slice B ws.length d] 44) = we at hpc hTe hSBe ⊢
    have HPC := zh hpc
    have HTe := zh hTe
    have HSBe := zh hSBe
    clear hpc hTe hSBe
    clear c0 c1 c2 c3 c4 r0 r1 r2 r3 r4 f0 f1 f2 f3 f4 b0 b1 b2 b3 b4
    obtain ⟨⟨c0, c1, c2, c3, c4, _⟩, ⟨r0, r1, r2, r3, r4, _⟩, ⟨f0, f1, f2, f3, f4⟩, _⟩ := HTe.out
    obtain ⟨b0, b1, b2, b3, b4⟩ := HSBe.out
    refine hK.out _ _ trivial (fun hHeld => ?_)
    try simp only [Act.put, zq1, zq2, zq3]
    refine zqR [1] ?_
    refine zqN fun K hK => ?_
    go_simp
    skip
    refine hK.out _ _ trivial (fun hHeld => ?_)
    try simp only [Act.put, zq1, zq2, zq3]
    refine zqR [3] ?_
    refine zqN fun K hK => ?_
    go_simp
    go_at_call 147
    with_reducible refine (with_any A c rs u we (HA.out.below HTe.out.bel zl) (by omega) HAN.out HN1.out).mono ?_
    intro e w4 hh
    obtain ⟨hh1, hb4⟩ := hh
    unfold Lst at hh1
    obtain ⟨A1, k1, y1, hy1, hc1, hr1, hf1, he1⟩ := hh1
    subst he1
    have HT4 := zh (HTe.out.more hb4)
    have HSB4 := zh (HSBe.out.below hb4 HTe.out.1.2.2.2.2.2)
    have HS1 := zh hr1
    have HY1 := zh hy1
    have HL1 := zh hc1
    have HF1 : Hid (∀ b off, A1 = some ⟨b, off, none⟩ → w.heap.size ≤ b ∧ b ≠ w.heap.size ∧ b ≠ w.heap.size + 1) := zh fun b off h => by
     have h1 := hf1 b off h
     have h2 := HTe.out.2.1.2.2.2.2.2
     exact ⟨by omega, by omega, by omega⟩
    replace HPC := zh (HPC.out.below hb4 zl)
    clear hb4 hy1 hc1 hr1 hf1
    clear c0 c1 c2 c3 c4 r0 r1 r2 r3 r4 f0 f1 f2 f3 f4 b0 b1 b2 b3 b4
    obtain ⟨⟨c0, c1, c2, c3, c4, _⟩, ⟨r0, r1, r2, r3, r4, _⟩, ⟨f0, f1, f2, f3, f4⟩, _⟩ := HT4.out
    obtain ⟨b0, b1, b2, b3, b4⟩ := HSB4.out
    dsimp only
    refine hK.out _ _ trivial (fun hHeld => ?_)
    try simp only [Act.put, zq1, zq2, zq3]
    refine zqT 8 ?_ ?_ ?_
    rotate_left
    · intro w' hSw; go_simp; try with_reducible rfl
    try simp only [Act.put, zq1, zq2, zq3]
    refine zqR [7] ?_
    refine zqN fun K hK => ?_
    go_simp
    go_at_call 146
    with_reducible refine (copy_at wd.heap.size ws w4 HPC.out (by omega)).mono ?_
    intro e w5 hh
    obtain ⟨hh1, hb5⟩ := hh
    unfold Lst at hh1
    obtain ⟨A2, k2, y2, hy2, hc2, hr2, hf2, he2⟩ := hh1
    subst he2
    have HT5 := zh (HT4.out.more hb5)
    have HSB5 := zh (HSB4.out.below hb5 HT4.out.1.2.2.2.2.2)
    replace HS1 := zh (HS1.out.below hb5 zl)
    have HS2 := zh hr2
    have HY2 := zh hy2
    have HL2 := zh hc2
    have HF2 : Hid (∀ b off, A2 = some ⟨b, off, none⟩ → w.heap.size ≤ b ∧ b ≠ w.heap.size ∧ b ≠ w.heap.size + 1) := zh fun b off h => by
     have h1 := hf2 b off h
     have h2 := HT4.out.2.1.2.2.2.2.2
     exact ⟨by omega, by omega, by omega⟩
    clear hb5 hy2 hc2 hr2 hf2
    clear c0 c1 c2 c3 c4 r0 r1 r2 r3 r4 f0 f1 f2 f3 f4 b0 b1 b2 b3 b4
    obtain ⟨⟨c0, c1, c2, c3, c4, _⟩, ⟨r0, r1, r2, r3, r4, _⟩, ⟨f0, f1, f2, f3, f4⟩, _⟩ := HT5.out
    obtain ⟨b0, b1, b2, b3, b4⟩ := HSB5.out
    dsimp only
    refine hK.out _ _ trivial (fun hHeld => ?_)
    try simp only [Act.put, zq1, zq2, zq3]
    refine zqR [9] ?_
    refine zqN fun K hK => ?_
    go_simp
    skip
    refine hK.out _ _ trivial (fun hHeld => ?_)
    try simp only [Act.put, zq1, zq2, zq3]
    refine zqT 10 ?_ ?_ ?_
    rotate_left
    · intro w' hSw; go_simp; try with_reducible rfl
    try simp only [Act.put, zq1, zq2, zq3]
    refine zqR [11] ?_
    refine zqN fun K hK => ?_
    go_simp
    skip
    refine hK.out _ _ trivial (fun hHeld => ?_)
    try simp only [Act.put, zq1, zq2, zq3]
    refine wpAnyH_done (by kernel_rfl) ?_ _
    have hS1 := HS1.out
    have hS2 := HS2.out
    have hB5 := HT5.out.bel
    go_wp2
    refine bodyPost_ret (v := .tuple #[RV o f ep A1 y1.length k1 A2 y2.length k2, .int .i64 0]) (by simp [results, Tryz.results103, go_sem, RV, r0, r1, r2, r3, r4]) rfl ?_
    have p1 : ∀ b off, A1 = some ⟨b, off, none⟩ → b ≠ w.heap.size := fun b off h => (HF1.out b off h).2.1
    have p2 : ∀ b off, A2 = some ⟨b, off, none⟩ → b ≠ w.heap.size := fun b off h => (HF2.out b off h).2.1
    have q1 : ∀ b off, A1 = some ⟨b, off, none⟩ → b ≠ w.heap.size + 1 := fun b off h => (HF1.out b off h).2.2
    have q2 : ∀ b off, A2 = some ⟨b, off, none⟩ → b ≠ w.heap.size + 1 := fun b off h => (HF2.out b off h).2.2
    exact ⟨⟨_, ⟨o, f, A1, k1, y1, A2, k2, y2, rfl, by simp only [HY1.out, HY2.out], sreads_set5 (sreads_set (sreads_set hS1 p1) p1) q1, sreads_set5 (sreads_set (sreads_set hS2 p2) p2) q2, HL1.out, HL2.out, fun b off h _ => (HF1.out b off h).1, fun b off h _ => (HF2.out b off h).1⟩, rfl⟩, set5 ((hB5.setCell (p := ⟨w.heap.size, 3, none⟩) zl _).setCell (p := ⟨w.heap.size, 4, none⟩) zl _) (Nat.le_succ _)⟩
end Go.Proofs.YtbdealddjonobaaGreat.Rig

namespace Go.Proofs.YtbdealddjonobaaGreat.Rig
open Go.RowKit Wire

set_option linter.unusedSimpArgs false
set_option linter.unusedVariables false
set_option maxHeartbeats 16000000 in
set_option maxRecDepth 1000000 in
theorem revoke_code (o f : ByteArray) (ep : Int) (A : Option Addr) (c : Nat) (rs : List ByteArray) (B : Option Addr) (d : Nat) (ws : List ByteArray) (u : ByteArray) (w : World) (hA : SReads w A rs) (hB : SReads w B ws) (hf : Few ⟨o.data.toList, f.data.toList, ep, bl rs, bl ws⟩) (hAn : rs.length ≤ c ∧ (A = none → c = 0)) (hBn : ws.length ≤ d ∧ (B = none → d = 0)) :
  Calls Tryz.prog 104 #[RV o f ep A rs.length c B ws.length d, .string u] w fun e w' => Re (fun b => w.heap.size ≤ b) (rv ⟨o.data.toList, f.data.toList, ep, bl rs, bl ws⟩ u.data.toList) e w' ∧ Below w.heap.size w w' := by
 have HA := zh hA
 have HBB := zh hB
 have hl1 : rs.length ≤ 40 := by have := hf.2.2.1; rw [bl_len] at this; exact this
 have hl2 : ws.length ≤ 40 := by have := hf.2.2.2.1; rw [bl_len] at this; exact this
 obtain ⟨ke, hke⟩ : ∃ z, ck ⟨o.data.toList, f.data.toList, ep, bl rs, bl ws⟩ u.data.toList = z := ⟨_, rfl⟩
 have HCK := zh fun w h1 h2 => check_code o f ep A c rs B d ws u w h1 h2 hf
 rw [hke] at HCK
 have HAN := zh hAn
 have HBN := zh hBn
 clear hA hB hf hAn hBn
 unfold RV at HCK ⊢
 by_cases hr : RR ⟨o.data.toList, f.data.toList, ep, bl rs, bl ws⟩
 case neg =>
  rw [show rv ⟨o.data.toList, f.data.toList, ep, bl rs, bl ws⟩ u.data.toList = (zero, 1) by unfold rv; rw [if_pos hr]]
  obtain rfl : ke = 1 := by rw [← hke]; unfold ck; rw [if_pos hr]
  clear hke
  go_enter Tryz.func104, Tryz.ntmps104
  go_wp2_with fail
  with_reducible refine (HCK.out _ (HA.out.below (al2 _ _ _) zl) (HBB.out.below (al2 _ _ _) zl)).mono ?_
  rintro e w1 ⟨rfl, hb1⟩
  have HT1 := zh (two_first hb1)
  have HSB1 := zh (box_safe hb1)
  clear hb1
  obtain ⟨⟨c0, c1, c2, c3, c4, _⟩, ⟨r0, r1, r2, r3, r4, _⟩, ⟨f0, f1, f2, f3, f4⟩, _⟩ := HT1.out
  dsimp only
  go_wp2
  refine bodyPost_ret (v := .tuple #[RV ⟨#[]⟩ ⟨#[]⟩ 0 none 0 0 none 0 0, .int .i64 1]) (by simp [results, Tryz.results104, go_sem, RV, r0, r1, r2, r3, r4]) rfl ?_
  exact ⟨⟨_, isX_zero _ _, rfl⟩, set5 HT1.out.2.2.2 (Nat.le_succ _)⟩
 cases hnm : nm u.data.toList with
 | false =>
  rw [show rv ⟨o.data.toList, f.data.toList, ep, bl rs, bl ws⟩ u.data.toList = (zero, 3) by unfold rv; rw [if_neg (by simpa using hr), if_pos (by rw [hnm]; decide)]]
  obtain rfl : ke = 3 := by rw [← hke]; unfold ck; rw [if_neg (by simpa using hr), if_pos (by rw [hnm]; decide)]
  clear hke
  go_enter Tryz.func104, Tryz.ntmps104
  go_wp2_with fail
  with_reducible refine (HCK.out _ (HA.out.below (al2 _ _ _) zl) (HBB.out.below (al2 _ _ _) zl)).mono ?_
  rintro e w1 ⟨rfl, hb1⟩
  have HT1 := zh (two_first hb1)
  have HSB1 := zh (box_safe hb1)
  clear hb1
  obtain ⟨⟨c0, c1, c2, c3, c4, _⟩, ⟨r0, r1, r2, r3, r4, _⟩, ⟨f0, f1, f2, f3, f4⟩, _⟩ := HT1.out
  dsimp only
  go_wp2
  refine bodyPost_ret (v := .tuple #[RV ⟨#[]⟩ ⟨#[]⟩ 0 none 0 0 none 0 0, .int .i64 3]) (by simp [results, Tryz.results104, go_sem, RV, r0, r1, r2, r3, r4]) rfl ?_
  exact ⟨⟨_, isX_zero _ _, rfl⟩, set5 HT1.out.2.2.2 (Nat.le_succ _)⟩
 | true =>
  obtain rfl : ke = 0 := by rw [← hke]; unfold ck; rw [if_neg (by simpa using hr), if_neg (by rw [hnm]; decide)]
  clear hke
  have HM1 := zh fun w h => among_any A c rs u w h (by omega) hr.2.2.2.2.1.2
  have HM2 := zh fun w h => among_any B d ws u w h (by omega) hr.2.2.2.2.2.1.2
  rcases rv_cases ⟨o.data.toList, f.data.toList, ep, bl rs, bl ws⟩ u.data.toList hr hnm with ⟨e, h1, h2⟩ | ⟨e, h1, h2⟩ | ⟨h1, h2, e, _⟩
  ·
   rw [e]
   simp only at h1 h2
   rw [decide_eq_false h1] at HM1
   rw [decide_eq_false h2] at HM2
   clear h1 h2
   go_enter Tryz.func104, Tryz.ntmps104
   go_wp2_with fail
   with_reducible refine (HCK.out _ (HA.out.below (al2 _ _ _) zl) (HBB.out.below (al2 _ _ _) zl)).mono ?_
   rintro e w1 ⟨rfl, hb1⟩
   have HT1 := zh (two_first hb1)
   have HSB1 := zh (box_safe hb1)
   clear hb1
   obtain ⟨⟨c0, c1, c2, c3, c4, _⟩, ⟨r0, r1, r2, r3, r4, _⟩, ⟨f0, f1, f2, f3, f4⟩, _⟩ := HT1.out
   dsimp only
   go_wp2_with fail
   with_reducible refine (HM1.out _ (HA.out.below HT1.out.bel zl)).mono ?_
   rintro e w2 ⟨rfl, hb2⟩
   have HT2 := zh (HT1.out.more hb2)
   have HSB2 := zh (HSB1.out.below hb2 HT1.out.1.2.2.2.2.2)
   clear hb2 c0 c1 c2 c3 c4 r0 r1 r2 r3 r4 f0 f1 f2 f3 f4
   obtain ⟨⟨c0, c1, c2, c3, c4, _⟩, ⟨r0, r1, r2, r3, r4, _⟩, ⟨f0, f1, f2, f3, f4⟩, _⟩ := HT2.out
   dsimp only
   go_wp2_with fail
   with_reducible refine (HM2.out _ (HBB.out.below HT2.out.bel zl)).mono ?_
   rintro e w3 ⟨rfl, hb3⟩
   have HT3 := zh (HT2.out.more hb3)
   have HSB3 := zh (HSB2.out.below hb3 HT2.out.1.2.2.2.2.2)
   clear hb3 c0 c1 c2 c3 c4 r0 r1 r2 r3 r4 f0 f1 f2 f3 f4
   obtain ⟨⟨c0, c1, c2, c3, c4, _⟩, ⟨r0, r1, r2, r3, r4, _⟩, ⟨f0, f1, f2, f3, f4⟩, _⟩ := HT3.out
   dsimp only
   go_wp2
   refine bodyPost_ret (v := .tuple #[RV ⟨#[]⟩ ⟨#[]⟩ 0 none 0 0 none 0 0, .int .i64 4]) (by simp [results, Tryz.results104, go_sem, RV, r0, r1, r2, r3, r4]) rfl ?_
   exact ⟨⟨_, isX_zero _ _, rfl⟩, set5 HT3.out.2.2.2 (Nat.le_succ _)⟩
  ·
   rw [e]
   simp only at h1 h2
   subst h2
   by_cases hin : u.data.toList ∈ bl rs
   ·
    rw [decide_eq_true hin] at HM1
    go_enter Tryz.func104, Tryz.ntmps104
    go_wp2_with fail
    with_reducible refine (HCK.out _ (HA.out.below (al2 _ _ _) zl) (HBB.out.below (al2 _ _ _) zl)).mono ?_
    rintro e w1 ⟨rfl, hb1⟩
    have HT1 := zh (two_first hb1)
    have HSB1 := zh (box_safe hb1)
    clear hb1
    obtain ⟨⟨c0, c1, c2, c3, c4, _⟩, ⟨r0, r1, r2, r3, r4, _⟩, ⟨f0, f1, f2, f3, f4⟩, _⟩ := HT1.out
    dsimp only
    go_wp2_with fail
    with_reducible refine (HM1.out _ (HA.out.below HT1.out.bel zl)).mono ?_
    rintro e w2 ⟨rfl, hb2⟩
    have HT2 := zh (HT1.out.more hb2)
    have HSB2 := zh (HSB1.out.below hb2 HT1.out.1.2.2.2.2.2)
    clear hb2 c0 c1 c2 c3 c4 r0 r1 r2 r3 r4 f0 f1 f2 f3 f4
    obtain ⟨⟨c0, c1, c2, c3, c4, _⟩, ⟨r0, r1, r2, r3, r4, _⟩, ⟨f0, f1, f2, f3, f4⟩, _⟩ := HT2.out
    dsimp only
    go_wp2
    refine bodyPost_ret (v := .tuple #[RV ⟨#[]⟩ ⟨#[]⟩ 0 none 0 0 none 0 0, .int .i64 9]) (by simp [results, Tryz.results104, go_sem, RV, r0, r1, r2, r3, r4]) rfl ?_
    exact ⟨⟨_, isX_zero _ _, rfl⟩, set5 HT2.out.2.2.2 (Nat.le_succ _)⟩
   ·
    rw [decide_eq_false hin] at HM1
    rw [decide_eq_true (h1.resolve_left hin)] at HM2
    go_enter Tryz.func104, Tryz.ntmps104
    go_wp2_with fail
    with_reducible refine (HCK.out _ (HA.out.below (al2 _ _ _) zl) (HBB.out.below (al2 _ _ _) zl)).mono ?_
    rintro e w1 ⟨rfl, hb1⟩
    have HT1 := zh (two_first hb1)
    have HSB1 := zh (box_safe hb1)
    clear hb1
    obtain ⟨⟨c0, c1, c2, c3, c4, _⟩, ⟨r0, r1, r2, r3, r4, _⟩, ⟨f0, f1, f2, f3, f4⟩, _⟩ := HT1.out
    dsimp only
    go_wp2_with fail
    with_reducible refine (HM1.out _ (HA.out.below HT1.out.bel zl)).mono ?_
    rintro e w2 ⟨rfl, hb2⟩
    have HT2 := zh (HT1.out.more hb2)
    have HSB2 := zh (HSB1.out.below hb2 HT1.out.1.2.2.2.2.2)
    clear hb2 c0 c1 c2 c3 c4 r0 r1 r2 r3 r4 f0 f1 f2 f3 f4
    obtain ⟨⟨c0, c1, c2, c3, c4, _⟩, ⟨r0, r1, r2, r3, r4, _⟩, ⟨f0, f1, f2, f3, f4⟩, _⟩ := HT2.out
    dsimp only
    go_wp2_with fail
    with_reducible refine (HM2.out _ (HBB.out.below HT2.out.bel zl)).mono ?_
    rintro e w3 ⟨rfl, hb3⟩
    have HT3 := zh (HT2.out.more hb3)
    have HSB3 := zh (HSB2.out.below hb3 HT2.out.1.2.2.2.2.2)
    clear hb3 c0 c1 c2 c3 c4 r0 r1 r2 r3 r4 f0 f1 f2 f3 f4
    obtain ⟨⟨c0, c1, c2, c3, c4, _⟩, ⟨r0, r1, r2, r3, r4, _⟩, ⟨f0, f1, f2, f3, f4⟩, _⟩ := HT3.out
    dsimp only
    go_wp2
    refine bodyPost_ret (v := .tuple #[RV ⟨#[]⟩ ⟨#[]⟩ 0 none 0 0 none 0 0, .int .i64 9]) (by simp [results, Tryz.results104, go_sem, RV, r0, r1, r2, r3, r4]) rfl ?_
    exact ⟨⟨_, isX_zero _ _, rfl⟩, set5 HT3.out.2.2.2 (Nat.le_succ _)⟩
  ·
   rw [e]
   simp only at h1 h2
   have he7 : ¬ ep = 7 := by omega
   have hb7 : (ep == 7) = false := by simpa using he7
   have hep0 : 0 ≤ ep := hr.2.2.1.1
   have hw1 : IntKind.i64.wrap (ep + 1) = ep + 1 := by rw [IntKind.wrap_i64]; omega
   have P1 := zh hr.2.2.2.2.1.2
   have P2 := zh hr.2.2.2.2.2.1.2
   clear e he7
   by_cases hin : u.data.toList ∈ bl rs
   ·
    rw [decide_eq_true hin] at HM1
    clear h1 h2 hin
    go_enter Tryz.func104, Tryz.ntmps104
    go_wp2_with fail
    with_reducible refine (HCK.out _ (HA.out.below (al2 _ _ _) zl) (HBB.out.below (al2 _ _ _) zl)).mono ?_
    rintro e w1 ⟨rfl, hb1⟩
    have HT1 := zh (two_first hb1)
    have HSB1 := zh (box_safe hb1)
    clear hb1
    obtain ⟨⟨c0, c1, c2, c3, c4, _⟩, ⟨r0, r1, r2, r3, r4, _⟩, ⟨f0, f1, f2, f3, f4⟩, _⟩ := HT1.out
    dsimp only
    go_wp2_with fail
    with_reducible refine (HM1.out _ (HA.out.below HT1.out.bel zl)).mono ?_
    rintro e w2 ⟨rfl, hb2⟩
    have HT2 := zh (HT1.out.more hb2)
    have HSB2 := zh (HSB1.out.below hb2 HT1.out.1.2.2.2.2.2)
    clear hb2 c0 c1 c2 c3 c4 r0 r1 r2 r3 r4 f0 f1 f2 f3 f4
    obtain ⟨⟨c0, c1, c2, c3, c4, _⟩, ⟨r0, r1, r2, r3, r4, _⟩, ⟨f0, f1, f2, f3, f4⟩, _⟩ := HT2.out
    dsimp only
    go_wp2_with fail
    have hT0 : Two w w2.drew o f ep A rs.length c B ws.length d := HT2.out.more (Below.drewN' (Below.refl w2.heap.size w2) 1)
    have hSB0 : Sf w.heap.size w2.drew := HSB2.out.below (Below.drewN' (Below.refl w2.heap.size w2) 1) HT2.out.1.2.2.2.2.2
    refine wp_region_held_drew (S := fun _ => True) (by kernel_rfl) trivial (fun hHeld => ?_)
    clear c0 c1 c2 c3 c4 r0 r1 r2 r3 r4 f0 f1 f2 f3 f4
    generalize w2.drew = wd at hT0 hSB0 ⊢
    have HTd := zh hT0
    have HSBd := zh hSB0
    clear hT0 hSB0
    obtain ⟨⟨c0, c1, c2, c3, c4, _⟩, ⟨r0, r1, r2, r3, r4, _⟩, ⟨f0, f1, f2, f3, f4⟩, _⟩ := HTd.out
    obtain ⟨b0, b1, b2, b3, b4⟩ := HSBd.out
    refine zqT 0 ?_ ?_ ?_
    rotate_left
    · intro w' hSw; go_simp; try with_reducible rfl
    try simp only [Act.put, zq1, zq2, zq3]
    refine zqT 2 ?_ ?_ ?_
    rotate_left
    · intro w' hSw; go_simp; try with_reducible rfl
    try simp only [Act.put, zq1, zq2, zq3]
    refine zqT 4 ?_ ?_ ?_
    rotate_left
    · intro w' hSw; go_simp; try with_reducible rfl
    try simp only [Act.put, zq1, zq2, zq3]
    refine zqT 6 ?_ ?_ ?_
    rotate_left
    · intro w' hSw; go_simp; try with_reducible rfl
    try simp only [Act.put, zq1, zq2, zq3]
    refine zqR [1, 5] ?_
    refine zqC (fun K hK => ?_) ?_
    ·
     go_simp
     skip
     refine hK.out _ _ trivial (fun hHeld => ?_)
     try simp only [Act.put, zq1, zq2, zq3]
     refine zqR [3, 5] ?_
     refine zqC (fun K hK => ?_) ?_
     ·
      go_simp
      go_at_call 148
      with_reducible refine (without_any A c rs u wd (HA.out.below HTd.out.bel zl) (by omega) HAN.out P1.out).mono ?_
      intro e w4 hh
      obtain ⟨hh1, hb4⟩ := hh
      unfold Lst at hh1
      obtain ⟨A1, k1, y1, hy1, hc1, hr1, hf1, he1⟩ := hh1
      subst he1
      have HT4 := zh (HTd.out.more hb4)
      have HSB4 := zh (HSBd.out.below hb4 HTd.out.1.2.2.2.2.2)
      have HS1 := zh hr1
      have HY1 := zh hy1
      have HL1 := zh hc1
      have HF1 : Hid (∀ b off, A1 = some ⟨b, off, none⟩ → w.heap.size ≤ b ∧ b ≠ w.heap.size ∧ b ≠ w.heap.size + 1) := zh fun b off h => by
       have h1 := hf1 b off h
       have h2 := HTd.out.2.1.2.2.2.2.2
       exact ⟨by omega, by omega, by omega⟩
      clear hb4 hy1 hc1 hr1 hf1
      clear c0 c1 c2 c3 c4 r0 r1 r2 r3 r4 f0 f1 f2 f3 f4 b0 b1 b2 b3 b4
      obtain ⟨⟨c0, c1, c2, c3, c4, _⟩, ⟨r0, r1, r2, r3, r4, _⟩, ⟨f0, f1, f2, f3, f4⟩, _⟩ := HT4.out
      obtain ⟨b0, b1, b2, b3, b4⟩ := HSB4.out
      dsimp only
      refine hK.out _ _ trivial (fun hHeld => ?_)
      try simp only [Act.put, zq1, zq2, zq3]
      refine zqR [5] ?_
      refine zqN fun K hK => ?_
      go_simp
      skip
      refine hK.out _ _ trivial (fun hHeld => ?_)
      try simp only [Act.put, zq1, zq2, zq3]
      refine zqT 8 ?_ ?_ ?_
      rotate_left
      · intro w' hSw; go_simp; try with_reducible rfl
      try simp only [Act.put, zq1, zq2, zq3]
      refine zqR [7] ?_
      refine zqN fun K hK => ?_
      go_simp
      go_at_call 148
      with_reducible refine (without_any B d ws u w4 (HBB.out.below HT4.out.bel zl) (by omega) HBN.out P2.out).mono ?_
      intro e w5 hh
      obtain ⟨hh1, hb5⟩ := hh
      unfold Lst at hh1
      obtain ⟨A2, k2, y2, hy2, hc2, hr2, hf2, he2⟩ := hh1
      subst he2
      have HT5 := zh (HT4.out.more hb5)
      have HSB5 := zh (HSB4.out.below hb5 HT4.out.1.2.2.2.2.2)
      replace HS1 := zh (HS1.out.below hb5 zl)
      have HS2 := zh hr2
      have HY2 := zh hy2
      have HL2 := zh hc2
      have HF2 : Hid (∀ b off, A2 = some ⟨b, off, none⟩ → w.heap.size ≤ b ∧ b ≠ w.heap.size ∧ b ≠ w.heap.size + 1) := zh fun b off h => by
       have h1 := hf2 b off h
       have h2 := HT4.out.2.1.2.2.2.2.2
       exact ⟨by omega, by omega, by omega⟩
      clear hb5 hy2 hc2 hr2 hf2
      clear c0 c1 c2 c3 c4 r0 r1 r2 r3 r4 f0 f1 f2 f3 f4 b0 b1 b2 b3 b4
      obtain ⟨⟨c0, c1, c2, c3, c4, _⟩, ⟨r0, r1, r2, r3, r4, _⟩, ⟨f0, f1, f2, f3, f4⟩, _⟩ := HT5.out
      obtain ⟨b0, b1, b2, b3, b4⟩ := HSB5.out
      dsimp only
      refine hK.out _ _ trivial (fun hHeld => ?_)
      try simp only [Act.put, zq1, zq2, zq3]
      refine zqR [9] ?_
      refine zqN fun K hK => ?_
      go_simp
      skip
      refine hK.out _ _ trivial (fun hHeld => ?_)
      try simp only [Act.put, zq1, zq2, zq3]
      refine zqT 10 ?_ ?_ ?_
      rotate_left
      · intro w' hSw; go_simp; try with_reducible rfl
      try simp only [Act.put, zq1, zq2, zq3]
      refine zqR [11] ?_
      refine zqN fun K hK => ?_
      go_simp
      skip
      refine hK.out _ _ trivial (fun hHeld => ?_)
      try simp only [Act.put, zq1, zq2, zq3]
      refine wpAnyH_done (by kernel_rfl) ?_ _
      have hS1 := HS1.out
      have hS2 := HS2.out
      have hB5 := HT5.out.bel
      go_wp2
      refine bodyPost_ret (v := .tuple #[RV o f (ep + 1) A1 y1.length k1 A2 y2.length k2, .int .i64 0]) (by simp [results, Tryz.results104, go_sem, RV, r0, r1, r2, r3, r4]) rfl ?_
      have p1 : ∀ b off, A1 = some ⟨b, off, none⟩ → b ≠ w.heap.size := fun b off h => (HF1.out b off h).2.1
      have p2 : ∀ b off, A2 = some ⟨b, off, none⟩ → b ≠ w.heap.size := fun b off h => (HF2.out b off h).2.1
      have q1 : ∀ b off, A1 = some ⟨b, off, none⟩ → b ≠ w.heap.size + 1 := fun b off h => (HF1.out b off h).2.2
      have q2 : ∀ b off, A2 = some ⟨b, off, none⟩ → b ≠ w.heap.size + 1 := fun b off h => (HF2.out b off h).2.2
      exact ⟨⟨_, ⟨o, f, A1, k1, y1, A2, k2, y2, rfl, by simp only [HY1.out, HY2.out], sreads_set5 (sreads_set (sreads_set (sreads_set hS1 p1) p1) p1) q1, sreads_set5 (sreads_set (sreads_set (sreads_set hS2 p2) p2) p2) q2, HL1.out, HL2.out, fun b off h _ => (HF1.out b off h).1, fun b off h _ => (HF2.out b off h).1⟩, rfl⟩, set5 (((hB5.setCell (p := ⟨w.heap.size, 3, none⟩) zl _).setCell (p := ⟨w.heap.size, 4, none⟩) zl _).setCell (p := ⟨w.heap.size, 2, none⟩) zl _) (Nat.le_succ _)⟩
     refine zqN fun K hK => ?_
     go_simp
     skip
     refine hK.out _ _ trivial (fun hHeld => ?_)
     try simp only [Act.put, zq1, zq2, zq3]
     refine zqR [3] ?_
     refine zqN fun K hK => ?_
     go_simp
     go_at_call 148
     with_reducible refine (without_any A c rs u wd (HA.out.below HTd.out.bel zl) (by omega) HAN.out P1.out).mono ?_
     intro e w4 hh
     obtain ⟨hh1, hb4⟩ := hh
     unfold Lst at hh1
     obtain ⟨A1, k1, y1, hy1, hc1, hr1, hf1, he1⟩ := hh1
     subst he1
     have HT4 := zh (HTd.out.more hb4)
     have HSB4 := zh (HSBd.out.below hb4 HTd.out.1.2.2.2.2.2)
     have HS1 := zh hr1
     have HY1 := zh hy1
     have HL1 := zh hc1
     have HF1 : Hid (∀ b off, A1 = some ⟨b, off, none⟩ → w.heap.size ≤ b ∧ b ≠ w.heap.size ∧ b ≠ w.heap.size + 1) := zh fun b off h => by
      have h1 := hf1 b off h
      have h2 := HTd.out.2.1.2.2.2.2.2
      exact ⟨by omega, by omega, by omega⟩
     clear hb4 hy1 hc1 hr1 hf1
     clear c0 c1 c2 c3 c4 r0 r1 r2 r3 r4 f0 f1 f2 f3 f4 b0 b1 b2 b3 b4
     obtain ⟨⟨c0, c1, c2, c3, c4, _⟩, ⟨r0, r1, r2, r3, r4, _⟩, ⟨f0, f1, f2, f3, f4⟩, _⟩ := HT4.out
     obtain ⟨b0, b1, b2, b3, b4⟩ := HSB4.out
     dsimp only
     refine hK.out _ _ trivial (fun hHeld => ?_)
     try simp only [Act.put, zq1, zq2, zq3]
     refine zqT 8 ?_ ?_ ?_
     rotate_left
     · intro w' hSw; go_simp; try with_reducible rfl
     try simp only [Act.put, zq1, zq2, zq3]
     refine zqR [7] ?_
     refine zqN fun K hK => ?_
     go_simp
     go_at_call 148
     with_reducible refine (without_any B d ws u w4 (HBB.out.below HT4.out.bel zl) (by omega) HBN.out P2.out).mono ?_
     intro e w5 hh
     obtain ⟨hh1, hb5⟩ := hh
     unfold Lst at hh1
     obtain ⟨A2, k2, y2, hy2, hc2, hr2, hf2, he2⟩ := hh1
     subst he2
     have HT5 := zh (HT4.out.more hb5)
     have HSB5 := zh (HSB4.out.below hb5 HT4.out.1.2.2.2.2.2)
     replace HS1 := zh (HS1.out.below hb5 zl)
     have HS2 := zh hr2
     have HY2 := zh hy2
     have HL2 := zh hc2
     have HF2 : Hid (∀ b off, A2 = some ⟨b, off, none⟩ → w.heap.size ≤ b ∧ b ≠ w.heap.size ∧ b ≠ w.heap.size + 1) := zh fun b off h => by
      have h1 := hf2 b off h
      have h2 := HT4.out.2.1.2.2.2.2.2
      exact ⟨by omega, by omega, by omega⟩
     clear hb5 hy2 hc2 hr2 hf2
     clear c0 c1 c2 c3 c4 r0 r1 r2 r3 r4 f0 f1 f2 f3 f4 b0 b1 b2 b3 b4
     obtain ⟨⟨c0, c1, c2, c3, c4, _⟩, ⟨r0, r1, r2, r3, r4, _⟩, ⟨f0, f1, f2, f3, f4⟩, _⟩ := HT5.out
     obtain ⟨b0, b1, b2, b3, b4⟩ := HSB5.out
     dsimp only
     refine hK.out _ _ trivial (fun hHeld => ?_)
     try simp only [Act.put, zq1, zq2, zq3]
     refine zqR [9] ?_
     refine zqN fun K hK => ?_
     go_simp
     skip
     refine hK.out _ _ trivial (fun hHeld => ?_)
     try simp only [Act.put, zq1, zq2, zq3]
     refine zqT 10 ?_ ?_ ?_
     rotate_left
     · intro w' hSw; go_simp; try with_reducible rfl
     try simp only [Act.put, zq1, zq2, zq3]
     refine zqR [11] ?_
     refine zqN fun K hK => ?_
     go_simp
     skip
     refine hK.out _ _ trivial (fun hHeld => ?_)
     try simp only [Act.put, zq1, zq2, zq3]
     refine wpAnyH_done (by kernel_rfl) ?_ _
     have hS1 := HS1.out
     have hS2 := HS2.out
     have hB5 := HT5.out.bel
     go_wp2
     refine bodyPost_ret (v := .tuple #[RV o f (ep + 1) A1 y1.length k1 A2 y2.length k2, .int .i64 0]) (by simp [results, Tryz.results104, go_sem, RV, r0, r1, r2, r3, r4]) rfl ?_
     have p1 : ∀ b off, A1 = some ⟨b, off, none⟩ → b ≠ w.heap.size := fun b off h => (HF1.out b off h).2.1
     have p2 : ∀ b off, A2 = some ⟨b, off, none⟩ → b ≠ w.heap.size := fun b off h => (HF2.out b off h).2.1
     have q1 : ∀ b off, A1 = some ⟨b, off, none⟩ → b ≠ w.heap.size + 1 := fun b off h => (HF1.out b off h).2.2
     have q2 : ∀ b off, A2 = some ⟨b, off, none⟩ → b ≠ w.heap.size + 1 := fun b off h => (HF2.out b off h).2.2
     exact ⟨⟨_, ⟨o, f, A1, k1, y1, A2, k2, y2, rfl, by simp only [HY1.out, HY2.out], sreads_set5 (sreads_set (sreads_set (sreads_set hS1 p1) p1) p1) q1, sreads_set5 (sreads_set (sreads_set (sreads_set hS2 p2) p2) p2) q2, HL1.out, HL2.out, fun b off h _ => (HF1.out b off h).1, fun b off h _ => (HF2.out b off h).1⟩, rfl⟩, set5 (((hB5.setCell (p := ⟨w.heap.size, 3, none⟩) zl _).setCell (p := ⟨w.heap.size, 4, none⟩) zl _).setCell (p := ⟨w.heap.size, 2, none⟩) zl _) (Nat.le_succ _)⟩
    refine zqN fun K hK => ?_
    go_simp
    skip
    refine hK.out _ _ trivial (fun hHeld => ?_)
    try simp only [Act.put, zq1, zq2, zq3]
    refine zqR [1] ?_
    refine zqN fun K hK => ?_
    go_simp
    skip
    refine hK.out _ _ trivial (fun hHeld => ?_)
    try simp only [Act.put, zq1, zq2, zq3]
    refine zqR [3] ?_
    refine zqN fun K hK => ?_
    go_simp
    go_at_call 148
    with_reducible refine (without_any A c rs u wd (HA.out.below HTd.out.bel zl) (by omega) HAN.out P1.out).mono ?_
    intro e w4 hh
    obtain ⟨hh1, hb4⟩ := hh
    unfold Lst at hh1
    obtain ⟨A1, k1, y1, hy1, hc1, hr1, hf1, he1⟩ := hh1
    subst he1
    have HT4 := zh (HTd.out.more hb4)
    have HSB4 := zh (HSBd.out.below hb4 HTd.out.1.2.2.2.2.2)
    have HS1 := zh hr1
    have HY1 := zh hy1
    have HL1 := zh hc1
    have HF1 : Hid (∀ b off, A1 = some ⟨b, off, none⟩ → w.heap.size ≤ b ∧ b ≠ w.heap.size ∧ b ≠ w.heap.size + 1) := zh fun b off h => by
     have h1 := hf1 b off h
     have h2 := HTd.out.2.1.2.2.2.2.2
     exact ⟨by omega, by omega, by omega⟩
    clear hb4 hy1 hc1 hr1 hf1
    clear c0 c1 c2 c3 c4 r0 r1 r2 r3 r4 f0 f1 f2 f3 f4 b0 b1 b2 b3 b4
    obtain ⟨⟨c0, c1, c2, c3, c4, _⟩, ⟨r0, r1, r2, r3, r4, _⟩, ⟨f0, f1, f2, f3, f4⟩, _⟩ := HT4.out
    obtain ⟨b0, b1, b2, b3, b4⟩ := HSB4.out
    dsimp only
    refine hK.out _ _ trivial (fun hHeld => ?_)
    try simp only [Act.put, zq1, zq2, zq3]
    refine zqT 8 ?_ ?_ ?_
    rotate_left
    · intro w' hSw; go_simp; try with_reducible rfl
    try simp only [Act.put, zq1, zq2, zq3]
    refine zqR [7] ?_
    refine zqN fun K hK => ?_
    go_simp
    go_at_call 148
    with_reducible refine (without_any B d ws u w4 (HBB.out.below HT4.out.bel zl) (by omega) HBN.out P2.out).mono ?_
    intro e w5 hh
    obtain ⟨hh1, hb5⟩ := hh
    unfold Lst at hh1
    obtain ⟨A2, k2, y2, hy2, hc2, hr2, hf2, he2⟩ := hh1
    subst he2
    have HT5 := zh (HT4.out.more hb5)
    have HSB5 := zh (HSB4.out.below hb5 HT4.out.1.2.2.2.2.2)
    replace HS1 := zh (HS1.out.below hb5 zl)
    have HS2 := zh hr2
    have HY2 := zh hy2
    have HL2 := zh hc2
    have HF2 : Hid (∀ b off, A2 = some ⟨b, off, none⟩ → w.heap.size ≤ b ∧ b ≠ w.heap.size ∧ b ≠ w.heap.size + 1) := zh fun b off h => by
     have h1 := hf2 b off h
     have h2 := HT4.out.2.1.2.2.2.2.2
     exact ⟨by omega, by omega, by omega⟩
    clear hb5 hy2 hc2 hr2 hf2
    clear c0 c1 c2 c3 c4 r0 r1 r2 r3 r4 f0 f1 f2 f3 f4 b0 b1 b2 b3 b4
    obtain ⟨⟨c0, c1, c2, c3, c4, _⟩, ⟨r0, r1, r2, r3, r4, _⟩, ⟨f0, f1, f2, f3, f4⟩, _⟩ := HT5.out
    obtain ⟨b0, b1, b2, b3, b4⟩ := HSB5.out
    dsimp only
    refine hK.out _ _ trivial (fun hHeld => ?_)
    try simp only [Act.put, zq1, zq2, zq3]
    refine zqR [9] ?_
    refine zqN fun K hK => ?_
    go_simp
    skip
    refine hK.out _ _ trivial (fun hHeld => ?_)
    try simp only [Act.put, zq1, zq2, zq3]
    refine zqT 10 ?_ ?_ ?_
    rotate_left
    · intro w' hSw; go_simp; try with_reducible rfl
    try simp only [Act.put, zq1, zq2, zq3]
    refine zqR [11] ?_
    refine zqN fun K hK => ?_
    go_simp
    skip
    refine hK.out _ _ trivial (fun hHeld => ?_)
    try simp only [Act.put, zq1, zq2, zq3]
    refine wpAnyH_done (by kernel_rfl) ?_ _
    have hS1 := HS1.out
    have hS2 := HS2.out
    have hB5 := HT5.out.bel
    go_wp2
    refine bodyPost_ret (v := .tuple #[RV o f (ep + 1) A1 y1.length k1 A2 y2.length k2, .int .i64 0]) (by simp [results, Tryz.results104, go_sem, RV, r0, r1, r2, r3, r4]) rfl ?_
    have p1 : ∀ b off, A1 = some ⟨b, off, none⟩ → b ≠ w.heap.size := fun b off h => (HF1.out b off h).2.1
    have p2 : ∀ b off, A2 = some ⟨b, off, none⟩ → b ≠ w.heap.size := fun b off h => (HF2.out b off h).2.1
    have q1 : ∀ b off, A1 = some ⟨b, off, none⟩ → b ≠ w.heap.size + 1 := fun b off h => (HF1.out b off h).2.2
    have q2 : ∀ b off, A2 = some ⟨b, off, none⟩ → b ≠ w.heap.size + 1 := fun b off h => (HF2.out b off h).2.2
    exact ⟨⟨_, ⟨o, f, A1, k1, y1, A2, k2, y2, rfl, by simp only [HY1.out, HY2.out], sreads_set5 (sreads_set (sreads_set (sreads_set hS1 p1) p1) p1) q1, sreads_set5 (sreads_set (sreads_set (sreads_set hS2 p2) p2) p2) q2, HL1.out, HL2.out, fun b off h _ => (HF1.out b off h).1, fun b off h _ => (HF2.out b off h).1⟩, rfl⟩, set5 (((hB5.setCell (p := ⟨w.heap.size, 3, none⟩) zl _).setCell (p := ⟨w.heap.size, 4, none⟩) zl _).setCell (p := ⟨w.heap.size, 2, none⟩) zl _) (Nat.le_succ _)⟩
   ·
    rw [decide_eq_false hin] at HM1
    rw [decide_eq_true (h1.resolve_left hin)] at HM2
    clear h1 h2 hin
    go_enter Tryz.func104, Tryz.ntmps104
    go_wp2_with fail
    with_reducible refine (HCK.out _ (HA.out.below (al2 _ _ _) zl) (HBB.out.below (al2 _ _ _) zl)).mono ?_
    rintro e w1 ⟨rfl, hb1⟩
    have HT1 := zh (two_first hb1)
    have HSB1 := zh (box_safe hb1)
    clear hb1
    obtain ⟨⟨c0, c1, c2, c3, c4, _⟩, ⟨r0, r1, r2, r3, r4, _⟩, ⟨f0, f1, f2, f3, f4⟩, _⟩ := HT1.out
    dsimp only
    go_wp2_with fail
    with_reducible refine (HM1.out _ (HA.out.below HT1.out.bel zl)).mono ?_
    rintro e w2 ⟨rfl, hb2⟩
    have HT2 := zh (HT1.out.more hb2)
    have HSB2 := zh (HSB1.out.below hb2 HT1.out.1.2.2.2.2.2)
    clear hb2 c0 c1 c2 c3 c4 r0 r1 r2 r3 r4 f0 f1 f2 f3 f4
    obtain ⟨⟨c0, c1, c2, c3, c4, _⟩, ⟨r0, r1, r2, r3, r4, _⟩, ⟨f0, f1, f2, f3, f4⟩, _⟩ := HT2.out
    dsimp only
    go_wp2_with fail
    with_reducible refine (HM2.out _ (HBB.out.below HT2.out.bel zl)).mono ?_
    rintro e w3 ⟨rfl, hb3⟩
    have HT3 := zh (HT2.out.more hb3)
    have HSB3 := zh (HSB2.out.below hb3 HT2.out.1.2.2.2.2.2)
    clear hb3 c0 c1 c2 c3 c4 r0 r1 r2 r3 r4 f0 f1 f2 f3 f4
    obtain ⟨⟨c0, c1, c2, c3, c4, _⟩, ⟨r0, r1, r2, r3, r4, _⟩, ⟨f0, f1, f2, f3, f4⟩, _⟩ := HT3.out
    dsimp only
    go_wp2_with fail
    have hT0 : Two w w3.drew o f ep A rs.length c B ws.length d := HT3.out.more (Below.drewN' (Below.refl w3.heap.size w3) 1)
    have hSB0 : Sf w.heap.size w3.drew := HSB3.out.below (Below.drewN' (Below.refl w3.heap.size w3) 1) HT3.out.1.2.2.2.2.2
    refine wp_region_held_drew (S := fun _ => True) (by kernel_rfl) trivial (fun hHeld => ?_)
    clear c0 c1 c2 c3 c4 r0 r1 r2 r3 r4 f0 f1 f2 f3 f4
    generalize w3.drew = wd at hT0 hSB0 ⊢
    have HTd := zh hT0
    have HSBd := zh hSB0
    clear hT0 hSB0
    obtain ⟨⟨c0, c1, c2, c3, c4, _⟩, ⟨r0, r1, r2, r3, r4, _⟩, ⟨f0, f1, f2, f3, f4⟩, _⟩ := HTd.out
    obtain ⟨b0, b1, b2, b3, b4⟩ := HSBd.out
    refine zqT 0 ?_ ?_ ?_
    rotate_left
    · intro w' hSw; go_simp; try with_reducible rfl
    try simp only [Act.put, zq1, zq2, zq3]
    refine zqT 2 ?_ ?_ ?_
    rotate_left
    · intro w' hSw; go_simp; try with_reducible rfl
    try simp only [Act.put, zq1, zq2, zq3]
    refine zqT 4 ?_ ?_ ?_
    rotate_left
    · intro w' hSw; go_simp; try with_reducible rfl
    try simp only [Act.put, zq1, zq2, zq3]
    refine zqT 6 ?_ ?_ ?_
    rotate_left
    · intro w' hSw; go_simp; try with_reducible rfl
    try simp only [Act.put, zq1, zq2, zq3]
    refine zqR [1, 5] ?_
    refine zqC (fun K hK => ?_) ?_
    ·
     go_simp
     skip
     refine hK.out _ _ trivial (fun hHeld => ?_)
     try simp only [Act.put, zq1, zq2, zq3]
     refine zqR [3, 5] ?_
     refine zqC (fun K hK => ?_) ?_
     ·
      go_simp
      go_at_call 148
      with_reducible refine (without_any A c rs u wd (HA.out.below HTd.out.bel zl) (by omega) HAN.out P1.out).mono ?_
      intro e w4 hh
      obtain ⟨hh1, hb4⟩ := hh
      unfold Lst at hh1
      obtain ⟨A1, k1, y1, hy1, hc1, hr1, hf1, he1⟩ := hh1
      subst he1
      have HT4 := zh (HTd.out.more hb4)
      have HSB4 := zh (HSBd.out.below hb4 HTd.out.1.2.2.2.2.2)
      have HS1 := zh hr1
      have HY1 := zh hy1
      have HL1 := zh hc1
      have HF1 : Hid (∀ b off, A1 = some ⟨b, off, none⟩ → w.heap.size ≤ b ∧ b ≠ w.heap.size ∧ b ≠ w.heap.size + 1) := zh fun b off h => by
       have h1 := hf1 b off h
       have h2 := HTd.out.2.1.2.2.2.2.2
       exact ⟨by omega, by omega, by omega⟩
      clear hb4 hy1 hc1 hr1 hf1
      clear c0 c1 c2 c3 c4 r0 r1 r2 r3 r4 f0 f1 f2 f3 f4 b0 b1 b2 b3 b4
      obtain ⟨⟨c0, c1, c2, c3, c4, _⟩, ⟨r0, r1, r2, r3, r4, _⟩, ⟨f0, f1, f2, f3, f4⟩, _⟩ := HT4.out
      obtain ⟨b0, b1, b2, b3, b4⟩ := HSB4.out
      dsimp only
      refine hK.out _ _ trivial (fun hHeld => ?_)
      try simp only [Act.put, zq1, zq2, zq3]
      refine zqR [5] ?_
      refine zqN fun K hK => ?_
      go_simp
      skip
      refine hK.out _ _ trivial (fun hHeld => ?_)
      try simp only [Act.put, zq1, zq2, zq3]
      refine zqT 8 ?_ ?_ ?_
      rotate_left
      · intro w' hSw; go_simp; try with_reducible rfl
      try simp only [Act.put, zq1, zq2, zq3]
      refine zqR [7] ?_
      refine zqN fun K hK => ?_
      go_simp
      go_at_call 148
      with_reducible refine (without_any B d ws u w4 (HBB.out.below HT4.out.bel zl) (by omega) HBN.out P2.out).mono ?_
      intro e w5 hh
      obtain ⟨hh1, hb5⟩ := hh
      unfold Lst at hh1
      obtain ⟨A2, k2, y2, hy2, hc2, hr2, hf2, he2⟩ := hh1
      subst he2
      have HT5 := zh (HT4.out.more hb5)
      have HSB5 := zh (HSB4.out.below hb5 HT4.out.1.2.2.2.2.2)
      replace HS1 := zh (HS1.out.below hb5 zl)
      have HS2 := zh hr2
      have HY2 := zh hy2
      have HL2 := zh hc2
      have HF2 : Hid (∀ b off, A2 = some ⟨b, off, none⟩ → w.heap.size ≤ b ∧ b ≠ w.heap.size ∧ b ≠ w.heap.size + 1) := zh fun b off h => by
       have h1 := hf2 b off h
       have h2 := HT4.out.2.1.2.2.2.2.2
       exact ⟨by omega, by omega, by omega⟩
      clear hb5 hy2 hc2 hr2 hf2
      clear c0 c1 c2 c3 c4 r0 r1 r2 r3 r4 f0 f1 f2 f3 f4 b0 b1 b2 b3 b4
      obtain ⟨⟨c0, c1, c2, c3, c4, _⟩, ⟨r0, r1, r2, r3, r4, _⟩, ⟨f0, f1, f2, f3, f4⟩, _⟩ := HT5.out
      obtain ⟨b0, b1, b2, b3, b4⟩ := HSB5.out
      dsimp only
      refine hK.out _ _ trivial (fun hHeld => ?_)
      try simp only [Act.put, zq1, zq2, zq3]
      refine zqR [9] ?_
      refine zqN fun K hK => ?_
      go_simp
      skip
      refine hK.out _ _ trivial (fun hHeld => ?_)
      try simp only [Act.put, zq1, zq2, zq3]
      refine zqT 10 ?_ ?_ ?_
      rotate_left
      · intro w' hSw; go_simp; try with_reducible rfl
      try simp only [Act.put, zq1, zq2, zq3]
      refine zqR [11] ?_
      refine zqN fun K hK => ?_
      go_simp
      skip
      refine hK.out _ _ trivial (fun hHeld => ?_)
      try simp only [Act.put, zq1, zq2, zq3]
      refine wpAnyH_done (by kernel_rfl) ?_ _
      have hS1 := HS1.out
      have hS2 := HS2.out
      have hB5 := HT5.out.bel
      go_wp2
      refine bodyPost_ret (v := .tuple #[RV o f (ep + 1) A1 y1.length k1 A2 y2.length k2, .int .i64 0]) (by simp [results, Tryz.results104, go_sem, RV, r0, r1, r2, r3, r4]) rfl ?_
      have p1 : ∀ b off, A1 = some ⟨b, off, none⟩ → b ≠ w.heap.size := fun b off h => (HF1.out b off h).2.1
      have p2 : ∀ b off, A2 = some ⟨b, off, none⟩ → b ≠ w.heap.size := fun b off h => (HF2.out b off h).2.1
      have q1 : ∀ b off, A1 = some ⟨b, off, none⟩ → b ≠ w.heap.size + 1 := fun b off h => (HF1.out b off h).2.2
      have q2 : ∀ b off, A2 = some ⟨b, off, none⟩ → b ≠ w.heap.size + 1 := fun b off h => (HF2.out b off h).2.2
      exact ⟨⟨_, ⟨o, f, A1, k1, y1, A2, k2, y2, rfl, by simp only [HY1.out, HY2.out], sreads_set5 (sreads_set (sreads_set (sreads_set hS1 p1) p1) p1) q1, sreads_set5 (sreads_set (sreads_set (sreads_set hS2 p2) p2) p2) q2, HL1.out, HL2.out, fun b off h _ => (HF1.out b off h).1, fun b off h _ => (HF2.out b off h).1⟩, rfl⟩, set5 (((hB5.setCell (p := ⟨w.heap.size, 3, none⟩) zl _).setCell (p := ⟨w.heap.size, 4, none⟩) zl _).setCell (p := ⟨w.heap.size, 2, none⟩) zl _) (Nat.le_succ _)⟩
     refine zqN fun K hK => ?_
     go_simp
     skip
     refine hK.out _ _ trivial (fun hHeld => ?_)
     try simp only [Act.put, zq1, zq2, zq3]
     refine zqR [3] ?_
     refine zqN fun K hK => ?_
     go_simp
     go_at_call 148
     with_reducible refine (without_any A c rs u wd (HA.out.below HTd.out.bel zl) (by omega) HAN.out P1.out).mono ?_
     intro e w4 hh
     obtain ⟨hh1, hb4⟩ := hh
     unfold Lst at hh1
     obtain ⟨A1, k1, y1, hy1, hc1, hr1, hf1, he1⟩ := hh1
     subst he1
     have HT4 := zh (HTd.out.more hb4)
     have HSB4 := zh (HSBd.out.below hb4 HTd.out.1.2.2.2.2.2)
     have HS1 := zh hr1
     have HY1 := zh hy1
     have HL1 := zh hc1
     have HF1 : Hid (∀ b off, A1 = some ⟨b, off, none⟩ → w.heap.size ≤ b ∧ b ≠ w.heap.size ∧ b ≠ w.heap.size + 1) := zh fun b off h => by
      have h1 := hf1 b off h
      have h2 := HTd.out.2.1.2.2.2.2.2
      exact ⟨by omega, by omega, by omega⟩
     clear hb4 hy1 hc1 hr1 hf1
     clear c0 c1 c2 c3 c4 r0 r1 r2 r3 r4 f0 f1 f2 f3 f4 b0 b1 b2 b3 b4
     obtain ⟨⟨c0, c1, c2, c3, c4, _⟩, ⟨r0, r1, r2, r3, r4, _⟩, ⟨f0, f1, f2, f3, f4⟩, _⟩ := HT4.out
     obtain ⟨b0, b1, b2, b3, b4⟩ := HSB4.out
     dsimp only
     refine hK.out _ _ trivial (fun hHeld => ?_)
     try simp only [Act.put, zq1, zq2, zq3]
     refine zqT 8 ?_ ?_ ?_
     rotate_left
     · intro w' hSw; go_simp; try with_reducible rfl
     try simp only [Act.put, zq1, zq2, zq3]
     refine zqR [7] ?_
     refine zqN fun K hK => ?_
     go_simp
     go_at_call 148
     with_reducible refine (without_any B d ws u w4 (HBB.out.below HT4.out.bel zl) (by omega) HBN.out P2.out).mono ?_
     intro e w5 hh
     obtain ⟨hh1, hb5⟩ := hh
     unfold Lst at hh1
     obtain ⟨A2, k2, y2, hy2, hc2, hr2, hf2, he2⟩ := hh1
     subst he2
     have HT5 := zh (HT4.out.more hb5)
     have HSB5 := zh (HSB4.out.below hb5 HT4.out.1.2.2.2.2.2)
     replace HS1 := zh (HS1.out.below hb5 zl)
     have HS2 := zh hr2
     have HY2 := zh hy2
     have HL2 := zh hc2
     have HF2 : Hid (∀ b off, A2 = some ⟨b, off, none⟩ → w.heap.size ≤ b ∧ b ≠ w.heap.size ∧ b ≠ w.heap.size + 1) := zh fun b off h => by
      have h1 := hf2 b off h
      have h2 := HT4.out.2.1.2.2.2.2.2
      exact ⟨by omega, by omega, by omega⟩
     clear hb5 hy2 hc2 hr2 hf2
     clear c0 c1 c2 c3 c4 r0 r1 r2 r3 r4 f0 f1 f2 f3 f4 b0 b1 b2 b3 b4
     obtain ⟨⟨c0, c1, c2, c3, c4, _⟩, ⟨r0, r1, r2, r3, r4, _⟩, ⟨f0, f1, f2, f3, f4⟩, _⟩ := HT5.out
     obtain ⟨b0, b1, b2, b3, b4⟩ := HSB5.out
     dsimp only
     refine hK.out _ _ trivial (fun hHeld => ?_)
     try simp only [Act.put, zq1, zq2, zq3]
     refine zqR [9] ?_
     refine zqN fun K hK => ?_
     go_simp
     skip
     refine hK.out _ _ trivial (fun hHeld => ?_)
     try simp only [Act.put, zq1, zq2, zq3]
     refine zqT 10 ?_ ?_ ?_
     rotate_left
     · intro w' hSw; go_simp; try with_reducible rfl
     try simp only [Act.put, zq1, zq2, zq3]
     refine zqR [11] ?_
     refine zqN fun K hK => ?_
     go_simp
     skip
     refine hK.out _ _ trivial (fun hHeld => ?_)
     try simp only [Act.put, zq1, zq2, zq3]
     refine wpAnyH_done (by kernel_rfl) ?_ _
     have hS1 := HS1.out
     have hS2 := HS2.out
     have hB5 := HT5.out.bel
     go_wp2
     refine bodyPost_ret (v := .tuple #[RV o f (ep + 1) A1 y1.length k1 A2 y2.length k2, .int .i64 0]) (by simp [results, Tryz.results104, go_sem, RV, r0, r1, r2, r3, r4]) rfl ?_
     have p1 : ∀ b off, A1 = some ⟨b, off, none⟩ → b ≠ w.heap.size := fun b off h => (HF1.out b off h).2.1
     have p2 : ∀ b off, A2 = some ⟨b, off, none⟩ → b ≠ w.heap.size := fun b off h => (HF2.out b off h).2.1
     have q1 : ∀ b off, A1 = some ⟨b, off, none⟩ → b ≠ w.heap.size + 1 := fun b off h => (HF1.out b off h).2.2
     have q2 : ∀ b off, A2 = some ⟨b, off, none⟩ → b ≠ w.heap.size + 1 := fun b off h => (HF2.out b off h).2.2
     exact ⟨⟨_, ⟨o, f, A1, k1, y1, A2, k2, y2, rfl, by simp only [HY1.out, HY2.out], sreads_set5 (sreads_set (sreads_set (sreads_set hS1 p1) p1) p1) q1, sreads_set5 (sreads_set (sreads_set (sreads_set hS2 p2) p2) p2) q2, HL1.out, HL2.out, fun b off h _ => (HF1.out b off h).1, fun b off h _ => (HF2.out b off h).1⟩, rfl⟩, set5 (((hB5.setCell (p := ⟨w.heap.size, 3, none⟩) zl _).setCell (p := ⟨w.heap.size, 4, none⟩) zl _).setCell (p := ⟨w.heap.size, 2, none⟩) zl _) (Nat.le_succ _)⟩
    refine zqN fun K hK => ?_
    go_simp
    skip
    refine hK.out _ _ trivial (fun hHeld => ?_)
    try simp only [Act.put, zq1, zq2, zq3]
    refine zqR [1] ?_
    refine zqN fun K hK => ?_
    go_simp
    skip
    refine hK.out _ _ trivial (fun hHeld => ?_)
    try simp only [Act.put, zq1, zq2, zq3]
    refine zqR [3] ?_
    refine zqN fun K hK => ?_
    go_simp
    go_at_call 148
    with_reducible refine (without_any A c rs u wd (HA.out.below HTd.out.bel zl) (by omega) HAN.out P1.out).mono ?_
    intro e w4 hh
    obtain ⟨hh1, hb4⟩ := hh
    unfold Lst at hh1
    obtain ⟨A1, k1, y1, hy1, hc1, hr1, hf1, he1⟩ := hh1
    subst he1
    have HT4 := zh (HTd.out.more hb4)
    have HSB4 := zh (HSBd.out.below hb4 HTd.out.1.2.2.2.2.2)
    have HS1 := zh hr1
    have HY1 := zh hy1
    have HL1 := zh hc1
    have HF1 : Hid (∀ b off, A1 = some ⟨b, off, none⟩ → w.heap.size ≤ b ∧ b ≠ w.heap.size ∧ b ≠ w.heap.size + 1) := zh fun b off h => by
     have h1 := hf1 b off h
     have h2 := HTd.out.2.1.2.2.2.2.2
     exact ⟨by omega, by omega, by omega⟩
    clear hb4 hy1 hc1 hr1 hf1
    clear c0 c1 c2 c3 c4 r0 r1 r2 r3 r4 f0 f1 f2 f3 f4 b0 b1 b2 b3 b4
    obtain ⟨⟨c0, c1, c2, c3, c4, _⟩, ⟨r0, r1, r2, r3, r4, _⟩, ⟨f0, f1, f2, f3, f4⟩, _⟩ := HT4.out
    obtain ⟨b0, b1, b2, b3, b4⟩ := HSB4.out
    dsimp only
    refine hK.out _ _ trivial (fun hHeld => ?_)
    try simp only [Act.put, zq1, zq2, zq3]
    refine zqT 8 ?_ ?_ ?_
    rotate_left
    · intro w' hSw; go_simp; try with_reducible rfl
    try simp only [Act.put, zq1, zq2, zq3]
    refine zqR [7] ?_
    refine zqN fun K hK => ?_
    go_simp
    go_at_call 148
    with_reducible refine (without_any B d ws u w4 (HBB.out.below HT4.out.bel zl) (by omega) HBN.out P2.out).mono ?_
    intro e w5 hh
    obtain ⟨hh1, hb5⟩ := hh
    unfold Lst at hh1
    obtain ⟨A2, k2, y2, hy2, hc2, hr2, hf2, he2⟩ := hh1
    subst he2
    have HT5 := zh (HT4.out.more hb5)
    have HSB5 := zh (HSB4.out.below hb5 HT4.out.1.2.2.2.2.2)
    replace HS1 := zh (HS1.out.below hb5 zl)
    have HS2 := zh hr2
    have HY2 := zh hy2
    have HL2 := zh hc2
    have HF2 : Hid (∀ b off, A2 = some ⟨b, off, none⟩ → w.heap.size ≤ b ∧ b ≠ w.heap.size ∧ b ≠ w.heap.size + 1) := zh fun b off h => by
     have h1 := hf2 b off h
     have h2 := HT4.out.2.1.2.2.2.2.2
     exact ⟨by omega, by omega, by omega⟩
    clear hb5 hy2 hc2 hr2 hf2
    clear c0 c1 c2 c3 c4 r0 r1 r2 r3 r4 f0 f1 f2 f3 f4 b0 b1 b2 b3 b4
    obtain ⟨⟨c0, c1, c2, c3, c4, _⟩, ⟨r0, r1, r2, r3, r4, _⟩, ⟨f0, f1, f2, f3, f4⟩, _⟩ := HT5.out
    obtain ⟨b0, b1, b2, b3, b4⟩ := HSB5.out
    dsimp only
    refine hK.out _ _ trivial (fun hHeld => ?_)
    try simp only [Act.put, zq1, zq2, zq3]
    refine zqR [9] ?_
    refine zqN fun K hK => ?_
    go_simp
    skip
    refine hK.out _ _ trivial (fun hHeld => ?_)
    try simp only [Act.put, zq1, zq2, zq3]
    refine zqT 10 ?_ ?_ ?_
    rotate_left
    · intro w' hSw; go_simp; try with_reducible rfl
    try simp only [Act.put, zq1, zq2, zq3]
    refine zqR [11] ?_
    refine zqN fun K hK => ?_
    go_simp
    skip
    refine hK.out _ _ trivial (fun hHeld => ?_)
    try simp only [Act.put, zq1, zq2, zq3]
    refine wpAnyH_done (by kernel_rfl) ?_ _
    have hS1 := HS1.out
    have hS2 := HS2.out
    have hB5 := HT5.out.bel
    go_wp2
    refine bodyPost_ret (v := .tuple #[RV o f (ep + 1) A1 y1.length k1 A2 y2.length k2, .int .i64 0]) (by simp [results, Tryz.results104, go_sem, RV, r0, r1, r2, r3, r4]) rfl ?_
    have p1 : ∀ b off, A1 = some ⟨b, off, none⟩ → b ≠ w.heap.size := fun b off h => (HF1.out b off h).2.1
    have p2 : ∀ b off, A2 = some ⟨b, off, none⟩ → b ≠ w.heap.size := fun b off h => (HF2.out b off h).2.1
    have q1 : ∀ b off, A1 = some ⟨b, off, none⟩ → b ≠ w.heap.size + 1 := fun b off h => (HF1.out b off h).2.2
    have q2 : ∀ b off, A2 = some ⟨b, off, none⟩ → b ≠ w.heap.size + 1 := fun b off h => (HF2.out b off h).2.2
    exact ⟨⟨_, ⟨o, f, A1, k1, y1, A2, k2, y2, rfl, by simp only [HY1.out, HY2.out], sreads_set5 (sreads_set (sreads_set (sreads_set hS1 p1) p1) p1) q1, sreads_set5 (sreads_set (sreads_set (sreads_set hS2 p2) p2) p2) q2, HL1.out, HL2.out, fun b off h _ => (HF1.out b off h).1, fun b off h _ => (HF2.out b off h).1⟩, rfl⟩, set5 (((hB5.setCell (p := ⟨w.heap.size, 3, none⟩) zl _).setCell (p := ⟨w.heap.size, 4, none⟩) zl _).setCell (p := ⟨w.heap.size, 2, none⟩) zl _) (Nat.le_succ _)⟩
end Go.Proofs.YtbdealddjonobaaGreat.Rig

