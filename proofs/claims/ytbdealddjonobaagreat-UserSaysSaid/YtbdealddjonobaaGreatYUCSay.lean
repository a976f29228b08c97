/-
  UCSay. By an AI agent.
-/
import Derived.Test.YtbdealddjonobaaGreatYZ
import Derived.Test.YtbdealddjonobaaGreatYUCode
import Derived.Test.YtbdealddjonobaaGreatYU3
import Derived.Test.YtbdealddjonobaaGreatYB2
import Derived.Test.YtbdealddjonobaaGreatYE1
namespace Go.Proofs.YtbdealddjonobaaGreat.Usr
open Go Go.RowKit Wire Rig Draw Frm Mta Mga

set_option linter.unusedSimpArgs false
set_option linter.unusedVariables false
noncomputable def elseB (w : World) (S M : Nat → Prop) : List Nat := by
 classical
 exact (List.range w.heap.size).filter fun b => decide (¬ (S b ∧ ¬ M b))
theorem mem_elseB {w : World} {S M : Nat → Prop} {b : Nat} : b ∈ elseB w S M ↔ b < w.heap.size ∧ ¬ (S b ∧ ¬ M b) := by
 classical
 unfold elseB
 rw [List.mem_filter, List.mem_range, decide_eq_true_eq]
theorem off_shy {w : World} {S M : Nat → Prop} {b : Nat} (h : Off (elseB w S M) b) : Shy w S M b := by
 by_cases hb : b < w.heap.size
 · exact .inl (Classical.byContradiction fun hn => h (mem_elseB.2 ⟨hb, hn⟩))
 · exact .inr (by omega)
theorem says_gone {u : Us} {f : Tm} {ks : List (Tm × Tm)} (h : u.live f = false) : says u f ks = (mzero, 4) := by unfold says; rw [own_no h]; rfl
theorem says_live {u : Us} {f : Tm} {ks : List (Tm × Tm)} (h : u.live f = true) : says u f ks = build u.sec (u.of f).r (u.of f).ver (u.of f).root (u.of f).sg ks := by unfold says; rw [own_yes h]; rfl
theorem bl_mem {ys : List ByteArray} {y : ByteArray} (h : y ∈ ys) : y.data.toList ∈ bl ys := List.mem_map.2 ⟨y, h, rfl⟩
set_option maxHeartbeats 4000000 in
set_option maxRecDepth 1000000 in
theorem meta_c (n : Nat) (a : Addr) (S M : Nat → Prop) (u : Us) (F : ByteArray) (K : Option Addr) (ck : Nat) (ks : List (ByteArray × ByteArray)) (w : World) (h : DU w a S M u) (f : Fine n u) (hn : n ≤ 200) (hfair : AllFair u) (hF : F.size ≤ 10000) (hK : PReads w K ks) (hKc : ks.length ≤ ck ∧ (K = none → ck = 0)) (hkl : ks.length ≤ 40) (hkz : ∀ k ∈ ks, k.1.size ≤ 10000 ∧ k.2.size ≤ 10000) (BO : MBuildOK) : Calls Tryz.prog 29 #[.pointer (some a), .string F, .slice K ks.length ck] w fun e w' => (∃ vs : List Value, IsM (Shy w S M) w' (.agg vs.toArray) (says u F.data.toList (pl ks)).1 ∧ e = .returned (.tuple #[.agg vs.toArray, .int .i64 (says u F.data.toList (pl ks)).2])) ∧ Below w.heap.size w w' := by
  obtain ⟨g, me, mg, db, dc, N, C, V, sb, rfl, h, hS, hM⟩ := h
  have c1 := h.c1
  have c4 := h.c4
  have glt := h.g_lt
  have hl := fun V T => held_look (h.below ((Below.refl _ w).alloc zl (.cells V T))) hF
  have HH := zh h
  have HS := zh (And.intro hS hM)
  have HFI := zh f
  clear h hS hM f
  cases hb : u.live F.data.toList
  case false =>
    have HR := zh (says_gone (ks := pl ks) hb)
    rw [hb] at hl
    simp only [Bool.false_eq_true, if_false, OV] at hl
    clear hb
    have HF := zh (fm_refl w)
    go_enter Tryz.func29, Tryz.ntmps29
    go_wp2_with fail
    have hF := (HF.out.box #[.string ⟨#[]⟩, .string ⟨#[]⟩, .int .i64 0, .slice none 0 0, .slice none 0 0, .int .u64 0, .slice none 0 0, .slice none 0 0, .string ⟨#[]⟩] 60).box #[.string ⟨#[]⟩, .string ⟨#[]⟩, .int .i64 0, .slice none 0 0, .slice none 0 0, .int .u64 0, .string ⟨#[]⟩, .slice none 0 0, .bool false] 50
    rw [show (w.alloc (.cells #[.string ⟨#[]⟩, .string ⟨#[]⟩, .int .i64 0, .slice none 0 0, .slice none 0 0, .int .u64 0, .slice none 0 0, .slice none 0 0, .string ⟨#[]⟩] 60)).heap.size = w.heap.size + 1 by simp] at hF
    generalize (w.alloc (.cells #[.string ⟨#[]⟩, .string ⟨#[]⟩, .int .i64 0, .slice none 0 0, .slice none 0 0, .int .u64 0, .slice none 0 0, .slice none 0 0, .string ⟨#[]⟩] 60)).alloc (.cells #[.string ⟨#[]⟩, .string ⟨#[]⟩, .int .i64 0, .slice none 0 0, .slice none 0 0, .int .u64 0, .string ⟨#[]⟩, .slice none 0 0, .bool false] 50) = w1 at hF ⊢
    replace HF := zh hF
    clear hF
    have hh := HF.out.at 1 rfl
    refine bodyPost_ret (results_cell_tmp (g := w.heap.size) rfl _ _ _ _ _ _ rfl hh Tryz.underlying60 rfl (by kernel_rfl)) rfl ?_
    rw [HR.out]
    exact ⟨⟨_, isM_zero _ _, rfl⟩, HF.out.bel⟩
  case true =>
    have HR := zh (says_live (ks := pl ks) hb)
    rw [hb] at hl
    simp only [if_true] at hl
    obtain ⟨o, f, ep, A, m, c, B, p, d, R, T, e, ss, hv, hx, hR, hss, hgo, hrow, hob⟩ := HH.out.rows _ hb
    rw [hv] at hl
    simp only [OV] at hl
    have hfe := HFI.out.each _ (live_in hb).1
    have hfa := hfair.2 _ (live_in hb).1
    obtain ⟨vr, hvr⟩ : ∃ vr, (u.of F.data.toList).ver = vr := ⟨_, rfl⟩
    rw [hvr] at hl
    have hg : ∀ x ∈ elseB w S M, x < w.heap.size := fun x hx => (mem_elseB.1 hx).1
    have hxo : IsX (Off (elseB w S M)) w (RV o f ep A m c B p d) (u.of F.data.toList).r := by
      obtain ⟨o', f', A', c', rs, B', d', ws, h1, h2, h3, h4, h5, h6, h7, h8⟩ := id hx
      unfold RV at h1
      injection h1 with h1
      simp only [Array.mk.injEq, List.cons.injEq, Value.string.injEq, Value.int.injEq, Value.slice.injEq, and_true, true_and] at h1
      obtain ⟨rfl, rfl, rfl, ⟨rfl, rfl, rfl⟩, rfl, rfl, rfl⟩ := h1
      have hS : ∀ j, (0 < rs.length ∧ ∃ off, A = some ⟨j, off, none⟩) ∨ (0 < ws.length ∧ ∃ off, B = some ⟨j, off, none⟩) → Off (elseB w S M) j := fun j hj hm => (mem_elseB.1 hm).2 ⟨(HS.out.1 j).2 (.inr (.inr ⟨F.data.toList, hb, _, hv, by
        rcases hj with ⟨h0, off, e⟩ | ⟨h0, off, e⟩
        · exact ⟨off, _, c, by simp [OV, e], h0⟩
        · exact ⟨off, _, d, by simp [OV, e], h0⟩⟩)), fun hM => (isX_in hx hj).1 ((HS.out.2 j).1 hM)⟩
      exact ⟨o, f, A, c, rs, B, d, ws, rfl, h2, h3, h4, h5, h6, fun j off e h0 => hS j (.inl ⟨h0, off, e⟩), fun j off e h0 => hS j (.inr ⟨h0, off, e⟩)⟩
    have hrs := (sreads_own hrow).1
    have hTc : ss.length ≤ e := by
      obtain ⟨_, _, hTe, hTc⟩ := own_value' hrow
      injection hTe with _ _ hTe2
      omega
    have hTn : T = none → e = 0 := fun h => by rw [h] at hob; cases hob
    have hr1 : R.size ≤ 10000 := by rw [Lib.size_eq, hR]; have := hfa.R.2; omega
    have hC1 : C.size ≤ 10000 := by rw [Lib.size_eq, HH.out.hC]; have := sec_le [117, 115, 101, 114] u.nm (draw u.sd 0); unfold Us.sec; omega
    have hsl : ss.length ≤ 40 := by have h1 := hfe.2.2.2.2.2; have h2 := hfe.1.2.2.1; rw [← hss, bl_len] at h1; omega
    have hsz : ∀ x ∈ ss, x.size ≤ 10000 := fun x hx => by have h1 := (hfa.g x.data.toList (by rw [← hss]; exact bl_mem hx)).2.1; rw [Lib.size_eq]; omega
    have hvl : vr < 18446744073709551616 := by have := hfe.2.2.2.2.1; omega
    have hfw := few_right hfe.1
    have HB := zh fun (w1 : World) (hb1 : Below w.heap.size w w1) (hz1 : w.heap.size < w1.heap.size) => BO (w.heap.size :: elseB w S M) C (.agg #[.string o, .string f, .int .i64 ep, .slice A m c, .slice B p d]) (u.of F.data.toList).r vr R T e ss K ck ks w1 (fun x hx => by rcases List.mem_cons.1 hx with rfl | hx; exact hz1; exact Nat.lt_of_lt_of_le (hg x hx) hb1.size) ((offX_new hxo zl).below hb1 zl) hfw hvl hC1 hr1 (hrs.below hb1 zl) ⟨hTc, hTn⟩ hsl hsz (PReads.below hK hb1 zl) hKc hkl hkz
    rw [hvr, ← hR, ← hss, ← HH.out.hC] at HR
    clear hb hv hx hR hss hgo hrow hob hfe hfa hvr hg hxo hrs hTc hTn hr1 hC1 hsl hsz hvl hfw
    have HF := zh (fm_refl w)
    go_enter Tryz.func29, Tryz.ntmps29
    go_wp2_with fail
    have hF := (HF.out.box #[.string ⟨#[]⟩, .string ⟨#[]⟩, .int .i64 0, .slice none 0 0, .slice none 0 0, .int .u64 0, .slice none 0 0, .slice none 0 0, .string ⟨#[]⟩] 60).box #[.string o, .string f, .int .i64 ep, .slice A m c, .slice B p d, .int .u64 (vr : Int), .string R, .slice T ss.length e, .bool false] 50
    rw [show (w.alloc (.cells #[.string ⟨#[]⟩, .string ⟨#[]⟩, .int .i64 0, .slice none 0 0, .slice none 0 0, .int .u64 0, .slice none 0 0, .slice none 0 0, .string ⟨#[]⟩] 60)).heap.size = w.heap.size + 1 by simp] at hF
    generalize (w.alloc (.cells #[.string ⟨#[]⟩, .string ⟨#[]⟩, .int .i64 0, .slice none 0 0, .slice none 0 0, .int .u64 0, .slice none 0 0, .slice none 0 0, .string ⟨#[]⟩] 60)).alloc (.cells #[.string o, .string f, .int .i64 ep, .slice A m c, .slice B p d, .int .u64 (vr : Int), .string R, .slice T ss.length e, .bool false] 50) = w1 at hF ⊢
    replace HF := zh hF
    clear hF
    clear hl c1 c4
    go_wp2_with fail
    have hdr := (HF.out.hide 1).go (Below.drewN' (Below.refl w1.heap.size w1) 1)
    have hfull := HF.out.go (Below.drewN' (Below.refl w1.heap.size w1) 1)
    refine wp_region_held_drew (S := fun w' => Fm w w' _) (by kernel_rfl) hdr (fun _ => ?_)
    replace hdr : Fm w w1.drew _ := hdr
    replace hfull : Fm w w1.drew _ := hfull
    generalize w1.drew = w1 at hdr hfull ⊢
    replace HF := zh hfull
    have hHeld := hdr
    clear hdr hfull
    refine zqT 0 ?_ ?_ ?_; rotate_left; · (intro w' hSw; go_simp; try with_reducible rfl)
    refine zqT 1 ?_ ?_ ?_; rotate_left; · (intro w' hSw; go_simp; try with_reducible rfl)
    refine zqT 2 ?_ ?_ ?_; rotate_left; · (intro w' hSw; go_simp; try with_reducible rfl)
    try simp only [Act.put, zq1, zq2, zq3]
    refine zqT 3 ?_ ?_ ?_; rotate_left; · (intro w' hSw; obtain ⟨q00, q01, q02, q03, q04, q05, q06, q07, q08, q09⟩ := bx9 (hSw.at 0 rfl); have k1_ := (HH.out.below hSw.bel).c1; go_simp; try with_reducible rfl)
    refine zqT 4 ?_ ?_ ?_; rotate_left; · (intro w' hSw; go_simp; try with_reducible rfl)
    refine zqT 5 ?_ ?_ ?_; rotate_left; · (intro w' hSw; obtain ⟨q00, q01, q02, q03, q04, q05, q06, q07, q08, q09⟩ := bx9 (hSw.at 0 rfl); have k1_ := (HH.out.below hSw.bel).c1; go_simp; try with_reducible rfl)
    try simp only [Act.put, zq1, zq2, zq3]
    refine zqT 6 ?_ ?_ ?_; rotate_left; · (intro w' hSw; go_simp; try with_reducible rfl)
    refine zqT 7 ?_ ?_ ?_; rotate_left; · (intro w' hSw; obtain ⟨q00, q01, q02, q03, q04, q05, q06, q07, q08, q09⟩ := bx9 (hSw.at 0 rfl); have k1_ := (HH.out.below hSw.bel).c1; go_simp; try with_reducible rfl)
    refine zqT 8 ?_ ?_ ?_; rotate_left; · (intro w' hSw; go_simp; try with_reducible rfl)
    try simp only [Act.put, zq1, zq2, zq3]
    refine zqT 9 ?_ ?_ ?_; rotate_left; · (intro w' hSw; obtain ⟨q00, q01, q02, q03, q04, q05, q06, q07, q08, q09⟩ := bx9 (hSw.at 0 rfl); have k1_ := (HH.out.below hSw.bel).c1; go_simp; try with_reducible rfl)
    refine zqT 10 ?_ ?_ ?_; rotate_left; · (intro w' hSw; go_simp; try with_reducible rfl)
    refine zqT 11 ?_ ?_ ?_; rotate_left; · (intro w' hSw; obtain ⟨q00, q01, q02, q03, q04, q05, q06, q07, q08, q09⟩ := bx9 (hSw.at 0 rfl); have k1_ := (HH.out.below hSw.bel).c1; go_simp; try with_reducible rfl)
    try simp only [Act.put, zq1, zq2, zq3]
    refine zqT 12 ?_ ?_ ?_; rotate_left; · (intro w' hSw; go_simp; try with_reducible rfl)
    try simp only [Act.put, zq1, zq2, zq3]
    clear hHeld
    refine zqR [13] ?_
    refine zqC (fun Kn hK => ?_) AllReadyH.nil
    go_simp
    with_reducible refine (HB.out w1 HF.out.bel (box_lt (HF.out.at 1 rfl))).mono ?_
    rintro en w2 ⟨⟨v, hM, _, rfl⟩, hb⟩
    rw [← HR.out] at hM ⊢
    obtain ⟨m1, k1, hmk⟩ : ∃ m1 k1, says u F.data.toList (pl ks) = (m1, k1) := ⟨_, _, rfl⟩
    rw [hmk] at hM ⊢
    have HMK := zh hmk
    have HIM := zh hM
    obtain ⟨o2, f2, sg2, A2, c2, r2, B2, d2, w2s, V2, cv2, v2s, K2, ck2, k2s, rfl, _⟩ := hM
    replace HF := zh (HF.out.go hb)
    clear hb hmk
    generalize w2 = w1 at HF HIM ⊢
    try dsimp only
    refine hK.out _ _ (HF.out.hide 1) (fun hHeld => ?_)
    refine zqT 14 ?_ ?_ ?_; rotate_left; · (intro w' hSw; go_simp; try with_reducible rfl)
    refine zqT 15 ?_ ?_ ?_; rotate_left; · (intro w' hSw; go_simp; try with_reducible rfl)
    try simp only [Act.put, zq1, zq2, zq3]
    clear hHeld
    refine zqR [16] ?_
    refine zqC (fun Kn hK => ?_) AllReadyH.nil
    obtain ⟨x0, x1, x2, x3, x4, x5, x6, x7, x8, x9⟩ := bx9 (HF.out.at 1 rfl)
    have fq := box_sf (HF.out.at 1 rfl)
    go_simp
    have hF := HF.out.fill9 1 rfl (.string o2) (.string f2) (.int .i64 m1.r.ep) (.slice A2 r2.length c2) (.slice B2 w2s.length d2) (.int .u64 (m1.ver : Int)) (.slice V2 v2s.length cv2) (.slice K2 k2s.length ck2) (.string sg2)
    simp only [List.set_cons_zero, List.set_cons_succ] at hF
    have HI2 := zh (isM_set9 (g := w.heap.size) (List.mem_cons_self) (v0 := .string o2) (v1 := .string f2) (v2 := .int .i64 m1.r.ep) (v3 := .slice A2 r2.length c2) (v4 := .slice B2 w2s.length d2) (v5 := .int .u64 (m1.ver : Int)) (v6 := .slice V2 v2s.length cv2) (v7 := .slice K2 k2s.length ck2) (v8 := .string sg2) HIM.out)
    clear x0 x1 x2 x3 x4 x5 x6 x7 x8 x9
    clear fq
    generalize (((((((((w1.setCell ⟨w.heap.size, 0, none⟩ (.string o2)).setCell ⟨w.heap.size, 1, none⟩ (.string f2)).setCell ⟨w.heap.size, 2, none⟩ (.int .i64 m1.r.ep)).setCell ⟨w.heap.size, 3, none⟩ (.slice A2 r2.length c2)).setCell ⟨w.heap.size, 4, none⟩ (.slice B2 w2s.length d2)).setCell ⟨w.heap.size, 5, none⟩ (.int .u64 (m1.ver : Int))).setCell ⟨w.heap.size, 6, none⟩ (.slice V2 v2s.length cv2)).setCell ⟨w.heap.size, 7, none⟩ (.slice K2 k2s.length ck2)).setCell ⟨w.heap.size, 8, none⟩ (.string sg2)) = w2 at hF HI2 ⊢
    replace HF := zh hF
    clear hF
    generalize w2 = w1 at HF HI2 ⊢
    refine hK.out _ _ (HF.out.hide 1) (fun hHeld => ?_)
    refine zqT 17 ?_ ?_ ?_; rotate_left; · (intro w' hSw; go_simp; try with_reducible rfl)
    try simp only [Act.put, zq1, zq2, zq3]
    refine wpAnyH_done (by kernel_rfl) ?_ _
    clear hHeld
    go_wp2_with fail
    have hh := HF.out.at 1 rfl
    refine bodyPost_ret (results_cell_tmp (g := w.heap.size) rfl _ _ _ _ _ _ rfl hh Tryz.underlying60 rfl (by kernel_rfl)) rfl ?_
    rw [HMK.out]
    exact ⟨⟨_, HI2.out.mono fun b _ hb => off_shy fun hm => hb (List.mem_cons_of_mem _ hm), rfl⟩, HF.out.bel⟩
theorem sayok (BO : MBuildOK) : SayOK DU := fun n a S M u F K ck ks w h f hn hf hF hK hKc hkl hkz => meta_c n a S M u F K ck ks w h f hn hf hF hK hKc hkl hkz BO
end Go.Proofs.YtbdealddjonobaaGreat.Usr

