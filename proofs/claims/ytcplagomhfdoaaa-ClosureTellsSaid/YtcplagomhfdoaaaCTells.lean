/-
  THE WALK of ClosureTells. By an AI agent; no person has read it.
-/
import Derived.Test.YtcplagomhfdoaaaCLaw
import Derived.Test.YtcplagomhfdoaaaCRef4
namespace Go.Proofs.Ytcplagomhfdoaaa.Clo
open Go.RowKit Wire Term

theorem ap_two {held : List (List UInt8)} {xs ys : List ByteArray} {f g : Int} (h1 : Ap held (bl xs, f)) (h2 : Ap held (bl ys, g)) : bl xs = bl ys ∧ f = g := by
  have h := ap_fun h1 h2
  injection h with h3 h4
  exact ⟨h3, h4⟩
set_option maxHeartbeats 16000000 in
set_option maxRecDepth 1000000 in
theorem tells_walk (CA : ApartOK) (CD : DerivesOK) (a : Option Addr) (ca : Nat) (hs : List ByteArray) (l : Option Addr) (cl : Nat) (rows : List (List Int)) (s : ByteArray) (k : Option Addr) (ck : Nat) (ks : List Int) (w : World)
    (hr : SReads w a hs) (hn : hs.length ≤ 140737488355328) (hca : hs.length ≤ ca) (hl : RReads w l rows) (hs1 : s.size ≤ 140737488355328) (hk : IReads w k ks) :
    Calls Try.prog 3 #[.slice a hs.length ca, .slice l rows.length cl, .string s, .slice k ks.length ck] w fun e w' => e = .returned (.bool true) ∧ Below w.heap.size w w' := by
  have HR := Lib.hid hr
  have HL := Lib.hid hl
  have HK := Lib.hid hk
  have HSH : Hid (∀ w : World, Calls Try.prog 10 #[] w fun e w' => e = .returned (.bool true) ∧ Below w.heap.size w w') := fun w => shown_any CD w
  clear hr hl hk
  go_enter Try.func3, Try.ntmps3
  go_wp2_with fail
  refine (HSH.out _).mono ?_
  rintro e w1 ⟨rfl, hb1⟩
  have HB1 := Lib.hid hb1
  clear hb1
  go_wp2_with fail
  refine (few_any a ca hs _ (HR.out.below HB1.out (Nat.le_refl _)) hn).mono ?_
  rintro e w2 ⟨⟨b, hb, rfl⟩, rfl⟩
  have HFEW := Lib.hid hb
  clear hb
  cases b with
  | false =>
    go_wp2
    go_ret
    exact ⟨rfl, HB1.out⟩
  | true =>
  obtain ⟨hz1, hn1, hsum1⟩ := HFEW.out rfl
  have HZ1 := Lib.hid hz1
  have HZ3 : Hid (∀ y ∈ hs, y.size ≤ 140737488355328) := fun y hy => Nat.le_trans (hz1 y hy) (by decide)
  clear hz1 hsum1 HFEW HZ1
  by_cases hs2 : (1000 : Int) < (s.size : Int)
  · go_wp2
    go_ret
    exact ⟨rfl, HB1.out⟩
  by_cases hl2 : (20 : Int) < (rows.length : Int)
  · go_wp2
    go_ret
    exact ⟨rfl, HB1.out⟩
  go_wp2_with fail
  refine (some_any l cl rows _ (HL.out.below HB1.out (Nat.le_refl _))).mono ?_
  rintro e w3 ⟨⟨D, cd, ys, hy6, hyc, hnil, hyr, hyg, rfl⟩, hb3⟩
  have HB3 := Lib.hid (Bel.call HB1.out hb3)
  have HYR := Lib.hid hyr
  have HYZ3 : Hid (∀ y ∈ ys, y.size ≤ 140737488355328) := fun y hy => Nat.le_trans (good_size (hyg y hy)) (by decide)
  clear hb3 hyr hyg hnil
  dsimp only
  go_wp2_with fail
  refine (grownG_any k ck ks _ (HK.out.below HB3.out (Nat.le_refl _))).mono ?_
  rintro e w4 ⟨⟨T, hT, rfl⟩, hb4⟩
  have BB4 := Lib.hid hb4
  have hTz := good_size hT
  clear hb4 hT
  go_wp2_with fail
  refine (CA a ca hs _ (HR.out.below (Bel.call HB3.out BB4.out) (Nat.le_refl _)) hca hn HZ3.out).mono ?_
  rintro e w5 ⟨⟨E, ce, us, f5, hap5, hec, hel, her, rfl⟩, hb5⟩
  have HAP5 := Lib.hid hap5
  have HER := Lib.hid her
  have BB5 := Lib.hid (Bel.call BB4.out hb5)
  clear hb5 hap5 her BB4
  dsimp only
  go_wp2_with fail
  refine (apart4_any a ca hs _ (HR.out.below (Bel.call HB3.out BB5.out) (Nat.le_refl _)) hn HZ3.out).mono ?_
  rintro e w6 ⟨⟨G, cg, gs, f6, hap6, hgc, hgl, hgr, rfl⟩, hb6⟩
  obtain ⟨he6, rfl⟩ := ap_two HAP5.out hap6
  have HE6 := Lib.hid he6
  have HGR := Lib.hid hgr
  have HER6 := Lib.hid (HER.out.below hb6 (Nat.le_refl _))
  have BB6 := Lib.hid (Bel.call BB5.out hb6)
  clear hb6 hap6 hgr HER HAP5 BB5 he6
  have hf5 : (f5 != f5) = false := by simp
  dsimp only
  go_wp2_with (go_at_call 16; refine (same_any E G ce cg us gs _ HER6.out HGR.out hel).mono ?_; rw [show decide (bl us = bl gs) = true from decide_eq_true HE6.out]; rintro e w7 ⟨rfl, hb7⟩; have BB7 := Lib.hid (Bel.call BB6.out hb7); clear hb7)
  refine (CA D cd ys _ (HYR.out.below BB7.out (Nat.le_refl _)) hyc (by omega) HYZ3.out).mono ?_
  clear HE6 HGR HER6 BB6
  rintro e w8 ⟨⟨E2, ce2, bs, f8, hap8, hec2, hel2, her2, rfl⟩, hb8⟩
  have HAP8 := Lib.hid hap8
  have HER8 := Lib.hid her2
  have BB8 := Lib.hid (Bel.call BB7.out hb8)
  clear hb8 hap8 her2 BB7
  dsimp only
  go_wp2_with fail
  refine (apart4_any D cd ys _ (HYR.out.below BB8.out (Nat.le_refl _)) (by omega) HYZ3.out).mono ?_
  rintro e w9 ⟨⟨G2, cg2, qs, f9, hap9, hgc2, hgl2, hgr2, rfl⟩, hb9⟩
  obtain ⟨he9, rfl⟩ := ap_two HAP8.out hap9
  have HE9 := Lib.hid he9
  have HGR9 := Lib.hid hgr2
  have HER9 := Lib.hid (HER8.out.below hb9 (Nat.le_refl _))
  have BB9 := Lib.hid (Bel.call BB8.out hb9)
  clear hb9 hap9 hgr2 HER8 HAP8 BB8 he9
  have hf8 : (f8 != f8) = false := by simp
  dsimp only
  go_wp2_with (go_at_call 16; refine (same_any E2 G2 ce2 cg2 bs qs _ HER9.out HGR9.out hel2).mono ?_; rw [show decide (bl bs = bl qs) = true from decide_eq_true HE9.out]; rintro e w10 ⟨rfl, hb10⟩; have BB10 := Lib.hid (Bel.call BB9.out hb10); clear hb10)
  refine (CD a ca hs s _ (HR.out.below (Bel.call HB3.out BB10.out) (Nat.le_refl _)) hca hn HZ3.out hs1).mono ?_
  clear HE9 HGR9 HER9 BB9
  rintro e w11 ⟨⟨b11, f11, h11, rfl⟩, hb11⟩
  have HD11 := Lib.hid h11
  have BB11 := Lib.hid (Bel.call BB10.out hb11)
  clear hb11 h11 BB10
  dsimp only
  go_wp2_with fail
  refine (derives4_any a ca hs s _ (HR.out.below (Bel.call HB3.out BB11.out) (Nat.le_refl _)) hn HZ3.out (by omega)).mono ?_
  rintro e w12 ⟨⟨b12, f12, h12, rfl⟩, hb12⟩
  obtain ⟨rfl, rfl⟩ := dv_fun HD11.out h12
  have BB12 := Lib.hid (Bel.call BB11.out hb12)
  clear hb12 h12 BB11 HD11
  dsimp only
  go_wp2_with fail
  refine (CD D cd ys T _ (HYR.out.below BB12.out (Nat.le_refl _)) hyc (by omega) HYZ3.out (by omega)).mono ?_
  rintro e w13 ⟨⟨b13, f13, h13, rfl⟩, hb13⟩
  have HD13 := Lib.hid h13
  have BB13 := Lib.hid (Bel.call BB12.out hb13)
  clear hb13 h13 BB12
  dsimp only
  go_wp2_with fail
  refine (derives4_any D cd ys T _ (HYR.out.below BB13.out (Nat.le_refl _)) (by omega) HYZ3.out (by omega)).mono ?_
  rintro e w14 ⟨⟨b14, f14, h14, rfl⟩, hb14⟩
  obtain ⟨rfl, rfl⟩ := dv_fun HD13.out h14
  have BB14 := Lib.hid (Bel.call HB3.out (Bel.call BB13.out hb14))
  clear hb14 h14 BB13 HD13
  have c1 : (b11 == b11) = true := by simp
  have c2 : (f11 == f11) = true := by simp
  have c3 : (b13 == b13) = true := by simp
  have c4 : (f13 == f13) = true := by simp
  dsimp only
  go_wp2
  go_ret
  exact ⟨rfl, BB14.out⟩
end Go.Proofs.Ytcplagomhfdoaaa.Clo
