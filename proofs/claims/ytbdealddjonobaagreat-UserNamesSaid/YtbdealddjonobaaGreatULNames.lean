/-
  THE DOCUMENT's New, Public (letterlockref14); the law UserNames, walked over what package user is held to. By an AI agent; no person has read it.
-/
import Derived.Test.YtbdealddjonobaaGreatUDo
import Derived.Test.YtbdealddjonobaaGreatOrd
import Derived.Test.YtbdealddjonobaaGreatD1
import Derived.Test.YtbdealddjonobaaGreatN5
namespace Go.Proofs.YtbdealddjonobaaGreat.Usr
open Go Go.RowKit Wire Rig Draw Frm

set_option linter.unusedSimpArgs false
set_option linter.unusedVariables false
theorem bx5 {w : World} {g : Nat} {v0 v1 v2 v3 v4 : Value} {t : TypeId} (h : (box g #[v0, v1, v2, v3, v4] t).P w) : w.cell? ⟨g, 0, none⟩ = some v0 ∧ w.cell? ⟨g, 1, none⟩ = some v1 ∧ w.cell? ⟨g, 2, none⟩ = some v2 ∧ w.cell? ⟨g, 3, none⟩ = some v3 ∧ w.cell? ⟨g, 4, none⟩ = some v4 ∧ g < w.heap.size :=
  ⟨box_at h 0, box_at h 1, box_at h 2, box_at h 3, box_at h 4, box_lt h⟩
theorem draw_lt (s k : Nat) : draw s k < 18446744073709551616 := mix_lt _
theorem sec_len (u : Us) : u.sec.length ≤ 4000 := by
  unfold Us.sec
  rcases secret_cases (use := [117, 115, 101, 114]) (who := u.nm) (draw_lt u.sd 0) with ⟨h, _, _, h3⟩ | ⟨h, _⟩
  · rw [h]; exact (Term.right_len h3).2
  · rw [h]; exact Nat.zero_le _
set_option maxHeartbeats 4000000 in
set_option maxRecDepth 1000000 in
theorem rdraw14_any {w0 w : World} {l : List Part} {g : Nat} {N T : ByteArray} {sd k : Nat} {A : Option Addr} {n c : Nat} (i : Nat) (hi : l[i]? = some (box g #[.string N, .string T, .int .u64 (sd : Int), .int .i64 (k : Int), .slice A n c] 35)) (h : Fm w0 w l) (hk : k ≤ 1000000) : Calls Tryz.prog 48 #[.pointer (some ⟨g, 0, none⟩)] w fun e w' => e = .returned (.int .u64 ((draw sd k : Nat) : Int)) ∧ Fm w0 w' (l.set i (box g #[.string N, .string T, .int .u64 (sd : Int), .int .i64 ((k : Int) + 1), .slice A n c] 35)) := by
  have HD : Hid (∀ w1, Calls Tryz.prog 93 #[.int .u64 (sd : Int), .int .i64 (k : Int)] w1 fun e w' => e = .returned (.int .u64 ((draw sd k : Nat) : Int)) ∧ Below w1.heap.size w1 w') := Lib.hid fun w1 => (rdraw_any sd k (Nat.le_trans hk (by decide)) w1).mono fun e w' h => ⟨h.1, by rw [h.2]; exact Below.refl _ _⟩
  have hw1 : IntKind.i64.wrap ((k : Int) + 1) = ((k : Int) + 1) := by rw [IntKind.wrap_i64]; omega
  have hw3 : IntKind.i64.wrap (k : Int) = (k : Int) := by rw [IntKind.wrap_i64]; omega
  have hw2 : IntKind.i64.wrap ((k : Int) + 1 - 1) = (k : Int) := by rw [IntKind.wrap_i64]; omega
  have hb := h.at i hi
  obtain ⟨c0, c1, c2, c3, c4, c5⟩ := bx5 hb
  have fz := box_sf hb 3
  have HF := Lib.hid (h.put i hi 3 (.int .i64 ((k : Int) + 1)) #[.string N, .string T, .int .u64 (sd : Int), .int .i64 ((k : Int) + 1), .slice A n c] rfl)
  clear h hb
  go_enter Tryz.func48, Tryz.ntmps48
  go_wp2_with fail
  clear c0 c1 c2 c3 c4 c5 fz
  have HLu := Lib.hid (List.getElem?_set_self (a := box g #[.string N, .string T, .int .u64 (sd : Int), .int .i64 ((k : Int) + 1), .slice A n c] 35) (List.getElem?_eq_some_iff.1 hi).1)
  obtain ⟨L, hL⟩ : ∃ L, l.set i (box g #[.string N, .string T, .int .u64 (sd : Int), .int .i64 ((k : Int) + 1), .slice A n c] 35) = L := ⟨_, rfl⟩
  rw [hL] at HF HLu
  have HLe := Lib.hid hL
  clear hL
  generalize w.setCell ⟨g, 3, none⟩ (.int .i64 ((k : Int) + 1)) = w1 at HF ⊢
  clear hi
  refine Ord.region_lit (S := fun w' => Fm w0 w' _) (by kernel_rfl) (by kernel_rfl) (HF.out.go (Below.drewN' (Below.refl _ _) 1)) ?_
  iterate 3 (refine Ord.stepR (v := ?_) (by rfl) ?_ ?_; rotate_left; · (intro w' hSw; go_simp; try with_reducible rfl))
  try simp only [Act.put, List.setIfInBounds_toArray, List.set_cons_zero, List.set_cons_succ]
  (refine Ord.stepR (v := ?_) (by rfl) ?_ ?_; rotate_left; · (intro w' hSw; obtain ⟨q00, q01, q02, q03, q04, q05⟩ := bx5 (hSw.at i HLu.out); go_simp; try with_reducible rfl))
  try simp only [Act.put, List.setIfInBounds_toArray, List.set_cons_zero, List.set_cons_succ]
  iterate 3 (refine Ord.stepR (v := ?_) (by rfl) ?_ ?_; rotate_left; · (intro w' hSw; go_simp; try with_reducible rfl))
  try simp only [Act.put, List.setIfInBounds_toArray, List.set_cons_zero, List.set_cons_succ]
  (refine Ord.stepR (v := ?_) (by rfl) ?_ ?_; rotate_left; · (intro w' hSw; obtain ⟨q00, q01, q02, q03, q04, q05⟩ := bx5 (hSw.at i HLu.out); go_simp; try with_reducible rfl))
  try simp only [Act.put, List.setIfInBounds_toArray, List.set_cons_zero, List.set_cons_succ]
  (refine Ord.stepR (v := ?_) (by rfl) ?_ ?_; rotate_left; · (intro w' hSw; go_simp; try with_reducible rfl))
  try simp only [Act.put, List.setIfInBounds_toArray, List.set_cons_zero, List.set_cons_succ]
  refine Ord.stepC (v := .int .u64 ((draw sd k : Nat) : Int)) (by rfl) ?_ (fun w1 hS => (HD.out w1).mono fun e w2 h => ⟨h.1, hS.go h.2⟩) ?_
  · (intro w' hSw; go_simp; try with_reducible rfl)
  try simp only [Act.put, List.setIfInBounds_toArray, List.set_cons_zero, List.set_cons_succ]
  (refine Ord.stepR (v := ?_) (by rfl) ?_ ?_; rotate_left; · (intro w' hSw; go_simp; try with_reducible rfl))
  try simp only [Act.put, List.setIfInBounds_toArray, List.set_cons_zero, List.set_cons_succ]
  refine Ord.stepD fun w1 hZ => ?_
  replace HF := Lib.hid hZ
  clear hZ
  go_wp2_with fail
  go_ret
  exact ⟨rfl, by rw [HLe.out]; exact HF.out⟩
set_option maxHeartbeats 4000000 in
set_option maxRecDepth 1000000 in
theorem rnew14_no {w0 w : World} {l : List Part} (h : Fm w0 w l) (N : ByteArray) (sd : Nat) (hN : N.size ≤ 10000) (hn : nm N.data.toList = false) : Calls Tryz.prog 10 #[.string N, .int .u64 (sd : Int)] w fun e w' => e = .returned (.tuple #[.pointer none, .int .i64 3]) ∧ Fm w0 w' l := by
  have HR := Lib.hid (refright_is N false hn)
  have HF := Lib.hid h
  clear hn h
  go_enter Tryz.func10, Tryz.ntmps10
  go_wp2_with fail
  with_reducible refine (HR.out _ (by omega)).mono ?_
  rintro e w1 ⟨rfl, hb⟩
  replace HF := Lib.hid (HF.out.go hb)
  clear hb
  try dsimp only
  go_wp2_with fail
  go_ret2
  exact ⟨rfl, HF.out⟩
set_option maxHeartbeats 4000000 in
set_option maxRecDepth 1000000 in
theorem rnew14_yes {w0 w : World} {l : List Part} (h : Fm w0 w l) (N : ByteArray) (sd : Nat) (hN : N.size ≤ 10000) (hn : nm N.data.toList = true) : Calls Tryz.prog 10 #[.string N, .int .u64 (sd : Int)] w fun e w' => ∃ g T, e = .returned (.tuple #[.pointer (some ⟨g, 0, none⟩), .int .i64 0]) ∧ T.data.toList = (us0 N.data.toList sd).sec ∧ Fm w0 w' (box g #[.string N, .string T, .int .u64 (sd : Int), .int .i64 1, .slice none 0 0] 35 :: l) := by
  have HR := Lib.hid (refright_is N true hn)
  have HF := Lib.hid h
  have HS := Lib.hid fun w => rsecret_any ⟨#[117, 115, 101, 114]⟩ N (draw sd 0) w (by decide) (by omega) (by have : (⟨#[117, 115, 101, 114]⟩ : ByteArray).size = 4 := rfl; omega) (draw_lt sd 0)
  clear hn h
  go_enter Tryz.func10, Tryz.ntmps10
  go_wp2_with fail
  with_reducible refine (HR.out _ (by omega)).mono ?_
  rintro e w1 ⟨rfl, hb⟩
  replace HF := Lib.hid (HF.out.go hb)
  clear hb
  try dsimp only
  go_wp2_with fail
  have hF := HF.out.box #[.string N, .string ⟨#[]⟩, .int .u64 (sd : Int), .int .i64 0, .slice none 0 0] 35
  obtain ⟨g, hg⟩ : ∃ g, w1.heap.size = g := ⟨_, rfl⟩
  rw [hg] at hF ⊢
  clear hg
  generalize w1.alloc (.cells #[.string N, .string ⟨#[]⟩, .int .u64 (sd : Int), .int .i64 0, .slice none 0 0] 35) = w1 at hF ⊢
  replace HF := Lib.hid hF
  clear hF
  have HD := rdraw14_any (k := 0) 0 rfl HF.out (by decide)
  rw [show ((0 : Nat) : Int) + 1 = 1 from rfl] at HD
  replace HD := Lib.hid HD
  go_wp2_with fail
  with_reducible refine (HD.out).mono ?_
  rintro e w1 ⟨rfl, hF⟩
  replace HF := Lib.hid hF
  clear hF
  try dsimp only
  clear HD
  go_wp2_with fail
  with_reducible refine (HS.out _).mono ?_
  rintro e w1 ⟨⟨T, hT, rfl⟩, hb⟩
  replace HF := Lib.hid (HF.out.go hb)
  clear hb
  have HT := Lib.hid hT
  clear hT
  try dsimp only
  obtain ⟨c0, c1, c2, c3, c4, c5⟩ := bx5 (HF.out.at 0 rfl)
  have fz := box_sf (HF.out.at 0 rfl) 1
  go_wp2_with fail
  replace HF := Lib.hid (HF.out.put 0 rfl 1 (.string T) #[.string N, .string T, .int .u64 (sd : Int), .int .i64 1, .slice none 0 0] rfl)
  go_ret2
  exact ⟨g, T, rfl, HT.out, HF.out⟩
set_option maxHeartbeats 4000000 in
set_option maxRecDepth 1000000 in
theorem rpub14_any {w0 w : World} {l : List Part} {g : Nat} {N T : ByteArray} {sd k : Nat} {A : Option Addr} {n c : Nat} (i : Nat) (hi : l[i]? = some (box g #[.string N, .string T, .int .u64 (sd : Int), .int .i64 (k : Int), .slice A n c] 35)) (h : Fm w0 w l) (hT : T.size ≤ 140737488355328) : Calls Tryz.prog 14 #[.pointer (some ⟨g, 0, none⟩)] w fun e w' => St (Term.one 117 T.data.toList).1 e ∧ Fm w0 w' l := by
  have HF := Lib.hid h
  have HP := Lib.hid fun w => Term.ofPublic_any T w hT
  have hb := h.at i hi
  obtain ⟨c0, c1, c2, c3, c4, c5⟩ := bx5 hb
  clear h hi hb
  go_enter Tryz.func14, Tryz.ntmps14
  go_wp2_with fail
  clear c0 c1 c2 c3 c4 c5
  with_reducible refine (HP.out _).mono ?_
  rintro e w1 ⟨⟨P, hP, rfl⟩, hb⟩
  replace HF := Lib.hid (HF.out.go hb)
  clear hb
  have HPP := Lib.hid hP
  clear hP
  try dsimp only
  go_wp2_with fail
  go_ret
  exact ⟨⟨P, HPP.out, rfl⟩, HF.out⟩
set_option maxHeartbeats 16000000 in
set_option maxRecDepth 1000000 in
theorem names_walk {D : UPred} (ok : UserOK D) (N : ByteArray) (sd : Nat) (w : World) (hz : N.size ≤ 140737488351232) (hs : sd < 18446744073709551616) : Calls Tryz.prog 4 #[.string N, .int .u64 (sd : Int)] w fun e w' => e = .returned (.bool true) ∧ Below w.heap.size w w' := by
  have HK := Lib.hid ok
  have HSH := Lib.hid fun w => shown14_any ok w
  have HF := Lib.hid (fm_refl w)
  go_enter Tryz.func4, Tryz.ntmps4
  go_wp2_with fail
  with_reducible refine (HSH.out _).mono ?_
  rintro e w1 ⟨rfl, hb⟩
  replace HF := Lib.hid (HF.out.go hb)
  clear hb
  try dsimp only
  by_cases h5 : (500 : Int) < (N.size : Int)
  · go_wp2_with fail
    go_ret
    exact ⟨rfl, HF.out.bel⟩
  have hN : N.size ≤ 10000 := by omega
  cases hnm : nm N.data.toList with
  | false =>
    go_wp2_with fail
    with_reducible refine (u_no HK.out HF.out N sd hN hs hnm).mono ?_
    rintro e w1 ⟨rfl, hF⟩
    replace HF := Lib.hid hF
    clear hF
    try dsimp only
    go_wp2_with fail
    with_reducible refine (rnew14_no HF.out N sd hN hnm).mono ?_
    rintro e w1 ⟨rfl, hF⟩
    replace HF := Lib.hid hF
    clear hF
    try dsimp only
    go_wp2_with fail
    go_ret
    exact ⟨rfl, HF.out.bel⟩
  | true =>
    have HFI := Lib.hid (fine0 (sd := sd) hnm hs)
    go_wp2_with fail
    with_reducible refine (u_new HK.out HF.out N sd hN hs hnm).mono ?_
    rintro e w1 ⟨a, S, M, rfl, hF⟩
    replace HF := Lib.hid hF
    clear hF
    try dsimp only
    go_wp2_with fail
    with_reducible refine (rnew14_yes HF.out N sd hN hnm).mono ?_
    rintro e w1 ⟨g, T, rfl, hT, hF⟩
    replace HF := Lib.hid hF
    clear hF
    have HT := Lib.hid hT
    have HTZ : Hid (T.size ≤ 140737488355328) := Lib.hid (by rw [Lib.size_eq, hT]; have := sec_len (us0 N.data.toList sd); omega)
    clear hT hnm
    try dsimp only
    have hnl : ∀ ys : List ByteArray, (∀ x, x ∈ bl ys ↔ (us0 N.data.toList sd).live x = true) → ys = [] := fun ys h => by
      cases ys with
      | nil => rfl
      | cons y t => exact absurd ((h y.data.toList).1 (by simp [bl])) (by simp [Us.live, us0])
    have HNL := Lib.hid hnl
    clear hnl
    have hnn : (N.toList == N.toList) = true := eq_bool rfl
    have htt : (T.toList == T.toList) = true := eq_bool rfl
    have hpp : ∀ P : ByteArray, (P.toList == P.toList) = true := fun P => eq_bool rfl
    go_wp2_with fail
    have hdr := HF.out.go (Below.drewN' (Below.refl w1.heap.size w1) 1)
    refine wp_region_held_drew (S := fun w' => Fm w w' _) (by kernel_rfl) hdr (fun hHeld => ?_)
    clear hHeld
    replace hdr : Fm w w1.drew _ := hdr
    generalize w1.drew = w1 at hdr ⊢
    replace HF := Lib.hid hdr
    have hHeld := HF.out
    clear hdr
    refine wpAnyH_take (i := 0) (v := ?_) (by rw [List.getElem?_toArray]; rfl) (by kernel_rfl) (by kernel_rfl) (by kernel_rfl) (by exact fun _ _ _ h => h) (Or.inl ⟨by rfl, ?_⟩) hHeld ?_; rotate_left; · (intro w' hSw; go_simp; try with_reducible rfl)
    refine wpAnyH_take (i := 1) (v := ?_) (by rw [List.getElem?_toArray]; rfl) (by kernel_rfl) (by kernel_rfl) (by kernel_rfl) (by exact fun _ _ _ h => h) (Or.inl ⟨by rfl, ?_⟩) hHeld ?_; rotate_left; · (intro w' hSw; go_simp; try with_reducible rfl)
    refine wpAnyH_take (i := 2) (v := ?_) (by rw [List.getElem?_toArray]; rfl) (by kernel_rfl) (by kernel_rfl) (by kernel_rfl) (by exact fun _ _ _ h => h) (Or.inl ⟨by rfl, ?_⟩) hHeld ?_; rotate_left; · (intro w' hSw; go_simp; try with_reducible rfl)
    try simp only [Act.put, List.setIfInBounds_toArray, List.set_cons_zero, List.set_cons_succ]
    refine wpAnyH_take (i := 3) (v := ?_) (by rw [List.getElem?_toArray]; rfl) (by kernel_rfl) (by kernel_rfl) (by kernel_rfl) (by exact fun _ _ _ h => h) (Or.inl ⟨by rfl, ?_⟩) hHeld ?_; rotate_left; · (intro w' hSw; go_simp; try with_reducible rfl)
    refine wpAnyH_take (i := 4) (v := ?_) (by rw [List.getElem?_toArray]; rfl) (by kernel_rfl) (by kernel_rfl) (by kernel_rfl) (by exact fun _ _ _ h => h) (Or.inl ⟨by rfl, ?_⟩) hHeld ?_; rotate_left; · (intro w' hSw; go_simp; try with_reducible rfl)
    refine wpAnyH_take (i := 6) (v := ?_) (by rw [List.getElem?_toArray]; rfl) (by kernel_rfl) (by kernel_rfl) (by kernel_rfl) (by exact fun _ _ _ h => h) (Or.inl ⟨by rfl, ?_⟩) hHeld ?_; rotate_left; · (intro w' hSw; go_simp; try with_reducible rfl)
    try simp only [Act.put, List.setIfInBounds_toArray, List.set_cons_zero, List.set_cons_succ]
    try simp only [Act.put, List.setIfInBounds_toArray, List.set_cons_zero, List.set_cons_succ]
    clear hHeld
    refine wpAnyH_ready (rs := [5]) (by kernel_rfl) (by simp) ?_
    refine AllReadyH.cons (by rw [List.getElem?_toArray]; rfl) (fun Kn hK => ?_) AllReadyH.nil
    go_simp
    go_at_call 11
    with_reducible refine (u_name HK.out 1 rfl HF.out HFI.out (by decide)).mono ?_
    rintro e w1 ⟨⟨T1, hT1, rfl⟩, hF⟩
    replace HF := Lib.hid hF
    clear hF
    obtain rfl : N = T1 := (str_eq hT1).symm
    clear hT1
    try dsimp only
    refine hK.out _ _ HF.out (fun hHeld => ?_)
    refine wpAnyH_take (i := 7) (v := ?_) (by rw [List.getElem?_toArray]; rfl) (by kernel_rfl) (by kernel_rfl) (by kernel_rfl) (by exact fun _ _ _ h => h) (Or.inl ⟨by rfl, ?_⟩) hHeld ?_; rotate_left; · (intro w' hSw; go_simp; try with_reducible rfl)
    refine wpAnyH_take (i := 8) (v := ?_) (by rw [List.getElem?_toArray]; rfl) (by kernel_rfl) (by kernel_rfl) (by kernel_rfl) (by exact fun _ _ _ h => h) (Or.inl ⟨by rfl, ?_⟩) hHeld ?_; rotate_left; · (intro w' hSw; go_simp; try with_reducible rfl)
    refine wpAnyH_take (i := 9) (v := ?_) (by rw [List.getElem?_toArray]; rfl) (by kernel_rfl) (by kernel_rfl) (by kernel_rfl) (by exact fun _ _ _ h => h) (Or.inl ⟨by rfl, ?_⟩) hHeld ?_; rotate_left; · (intro w' hSw; go_simp; try with_reducible rfl)
    try simp only [Act.put, List.setIfInBounds_toArray, List.set_cons_zero, List.set_cons_succ]
    refine wpAnyH_take (i := 10) (v := ?_) (by rw [List.getElem?_toArray]; rfl) (by kernel_rfl) (by kernel_rfl) (by kernel_rfl) (by exact fun _ _ _ h => h) (Or.inl ⟨by rfl, ?_⟩) hHeld ?_; rotate_left; · (intro w' hSw; go_simp; try with_reducible rfl)
    refine wpAnyH_take (i := 12) (v := ?_) (by rw [List.getElem?_toArray]; rfl) (by kernel_rfl) (by kernel_rfl) (by kernel_rfl) (by exact fun _ _ _ h => h) (Or.inl ⟨by rfl, ?_⟩) hHeld ?_; rotate_left; · (intro w' hSw; go_simp; try with_reducible rfl)
    refine wpAnyH_take (i := 13) (v := ?_) (by rw [List.getElem?_toArray]; rfl) (by kernel_rfl) (by kernel_rfl) (by kernel_rfl) (by exact fun _ _ _ h => h) (Or.inl ⟨by rfl, ?_⟩) hHeld ?_; rotate_left; · (intro w' hSw; go_simp; try with_reducible rfl)
    try simp only [Act.put, List.setIfInBounds_toArray, List.set_cons_zero, List.set_cons_succ]
    refine wpAnyH_take (i := 14) (v := ?_) (by rw [List.getElem?_toArray]; rfl) (by kernel_rfl) (by kernel_rfl) (by kernel_rfl) (by exact fun _ _ _ h => h) (Or.inl ⟨by rfl, ?_⟩) hHeld ?_; rotate_left; · (intro w' hSw; go_simp; try with_reducible rfl)
    refine wpAnyH_take (i := 15) (v := ?_) (by rw [List.getElem?_toArray]; rfl) (by kernel_rfl) (by kernel_rfl) (by kernel_rfl) (by exact fun _ _ _ h => h) (Or.inl ⟨by rfl, ?_⟩) hHeld ?_; rotate_left; · (intro w' hSw; obtain ⟨q00, q01, q02, q03, q04, q05⟩ := bx5 (hSw.at 0 rfl); go_simp; try with_reducible rfl)
    try simp only [Act.put, List.setIfInBounds_toArray, List.set_cons_zero, List.set_cons_succ]
    clear hHeld
    refine wpAnyH_ready (rs := [11]) (by kernel_rfl) (by simp) ?_
    refine AllReadyH.cons (by rw [List.getElem?_toArray]; rfl) (fun Kn hK => ?_) AllReadyH.nil
    go_simp
    go_at_call 12
    with_reducible refine (u_secret HK.out 1 rfl HF.out HFI.out (by decide)).mono ?_
    rintro e w1 ⟨⟨T2, hT2, rfl⟩, hF⟩
    replace HF := Lib.hid hF
    clear hF
    obtain rfl : T = T2 := str_eq (HT.out.trans hT2.symm)
    clear hT2
    try dsimp only
    refine hK.out _ _ HF.out (fun hHeld => ?_)
    refine wpAnyH_take (i := 16) (v := ?_) (by rw [List.getElem?_toArray]; rfl) (by kernel_rfl) (by kernel_rfl) (by kernel_rfl) (by exact fun _ _ _ h => h) (Or.inl ⟨by rfl, ?_⟩) hHeld ?_; rotate_left; · (intro w' hSw; go_simp; try with_reducible rfl)
    refine wpAnyH_take (i := 17) (v := ?_) (by rw [List.getElem?_toArray]; rfl) (by kernel_rfl) (by kernel_rfl) (by kernel_rfl) (by exact fun _ _ _ h => h) (Or.inl ⟨by rfl, ?_⟩) hHeld ?_; rotate_left; · (intro w' hSw; go_simp; try with_reducible rfl)
    refine wpAnyH_take (i := 18) (v := ?_) (by rw [List.getElem?_toArray]; rfl) (by kernel_rfl) (by kernel_rfl) (by kernel_rfl) (by exact fun _ _ _ h => h) (Or.inl ⟨by rfl, ?_⟩) hHeld ?_; rotate_left; · (intro w' hSw; go_simp; try with_reducible rfl)
    try simp only [Act.put, List.setIfInBounds_toArray, List.set_cons_zero, List.set_cons_succ]
    refine wpAnyH_take (i := 19) (v := ?_) (by rw [List.getElem?_toArray]; rfl) (by kernel_rfl) (by kernel_rfl) (by kernel_rfl) (by exact fun _ _ _ h => h) (Or.inl ⟨by rfl, ?_⟩) hHeld ?_; rotate_left; · (intro w' hSw; go_simp; try with_reducible rfl)
    refine wpAnyH_take (i := 21) (v := ?_) (by rw [List.getElem?_toArray]; rfl) (by kernel_rfl) (by kernel_rfl) (by kernel_rfl) (by exact fun _ _ _ h => h) (Or.inl ⟨by rfl, ?_⟩) hHeld ?_; rotate_left; · (intro w' hSw; go_simp; try with_reducible rfl)
    try simp only [Act.put, List.setIfInBounds_toArray, List.set_cons_zero, List.set_cons_succ]
    clear hHeld
    refine wpAnyH_ready (rs := [20]) (by kernel_rfl) (by simp) ?_
    refine AllReadyH.cons (by rw [List.getElem?_toArray]; rfl) (fun Kn hK => ?_) AllReadyH.nil
    go_simp
    go_at_call 13
    with_reducible refine (u_public HK.out 1 rfl HF.out HFI.out (by decide)).mono ?_
    rintro e w1 ⟨⟨P1, hP1, rfl⟩, hF⟩
    replace HF := Lib.hid hF
    clear hF
    have HP1 := Lib.hid hP1
    clear hP1
    try dsimp only
    refine hK.out _ _ HF.out (fun hHeld => ?_)
    try simp only [Act.put, List.setIfInBounds_toArray, List.set_cons_zero, List.set_cons_succ]
    clear hHeld
    refine wpAnyH_ready (rs := [22]) (by kernel_rfl) (by simp) ?_
    refine AllReadyH.cons (by rw [List.getElem?_toArray]; rfl) (fun Kn hK => ?_) AllReadyH.nil
    go_simp
    go_at_call 14
    with_reducible refine (rpub14_any 0 rfl HF.out HTZ.out).mono ?_
    rintro e w1 ⟨⟨P2, hP2, rfl⟩, hF⟩
    replace HF := Lib.hid hF
    clear hF
    obtain rfl : P1 = P2 := str_eq (HP1.out.trans (by rw [hP2, HT.out]))
    clear hP2
    try dsimp only
    refine hK.out _ _ HF.out (fun hHeld => ?_)
    refine wpAnyH_take (i := 23) (v := ?_) (by rw [List.getElem?_toArray]; rfl) (by kernel_rfl) (by kernel_rfl) (by kernel_rfl) (by exact fun _ _ _ h => h) (Or.inl ⟨by rfl, ?_⟩) hHeld ?_; rotate_left; · (intro w' hSw; go_simp; try with_reducible rfl)
    refine wpAnyH_take (i := 24) (v := ?_) (by rw [List.getElem?_toArray]; rfl) (by kernel_rfl) (by kernel_rfl) (by kernel_rfl) (by exact fun _ _ _ h => h) (Or.inl ⟨by rfl, ?_⟩) hHeld ?_; rotate_left; · (intro w' hSw; go_simp; try with_reducible rfl)
    refine wpAnyH_take (i := 25) (v := ?_) (by rw [List.getElem?_toArray]; rfl) (by kernel_rfl) (by kernel_rfl) (by kernel_rfl) (by exact fun _ _ _ h => h) (Or.inl ⟨by rfl, ?_⟩) hHeld ?_; rotate_left; · (intro w' hSw; go_simp; try with_reducible rfl)
    try simp only [Act.put, List.setIfInBounds_toArray, List.set_cons_zero, List.set_cons_succ]
    refine wpAnyH_take (i := 26) (v := ?_) (by rw [List.getElem?_toArray]; rfl) (by kernel_rfl) (by kernel_rfl) (by kernel_rfl) (by exact fun _ _ _ h => h) (Or.inl ⟨by rfl, ?_⟩) hHeld ?_; rotate_left; · (intro w' hSw; go_simp; try with_reducible rfl)
    try simp only [Act.put, List.setIfInBounds_toArray, List.set_cons_zero, List.set_cons_succ]
    clear hHeld
    refine wpAnyH_ready (rs := [27]) (by kernel_rfl) (by simp) ?_
    refine AllReadyH.cons (by rw [List.getElem?_toArray]; rfl) (fun Kn hK => ?_) AllReadyH.nil
    go_simp
    go_at_call 22
    with_reducible refine (u_files HK.out 1 rfl HF.out HFI.out (by decide)).mono ?_
    rintro e w1 ⟨A1, c1, Y1, h1, hc1, hF, rfl⟩
    replace HF := Lib.hid hF
    clear hF
    obtain rfl := HNL.out _ h1.2
    clear h1 hc1
    replace HF := Lib.hid HF.out.tail
    try dsimp only
    refine hK.out _ _ HF.out (fun hHeld => ?_)
    refine wpAnyH_take (i := 28) (v := ?_) (by rw [List.getElem?_toArray]; rfl) (by kernel_rfl) (by kernel_rfl) (by kernel_rfl) (by exact fun _ _ _ h => h) (Or.inl ⟨by rfl, ?_⟩) hHeld ?_; rotate_left; · (intro w' hSw; go_simp; try with_reducible rfl)
    refine wpAnyH_take (i := 29) (v := ?_) (by rw [List.getElem?_toArray]; rfl) (by kernel_rfl) (by kernel_rfl) (by kernel_rfl) (by exact fun _ _ _ h => h) (Or.inl ⟨by rfl, ?_⟩) hHeld ?_; rotate_left; · (intro w' hSw; go_simp; try with_reducible rfl)
    refine wpAnyH_take (i := 30) (v := ?_) (by rw [List.getElem?_toArray]; rfl) (by kernel_rfl) (by kernel_rfl) (by kernel_rfl) (by exact fun _ _ _ h => h) (Or.inl ⟨by rfl, ?_⟩) hHeld ?_; rotate_left; · (intro w' hSw; go_simp; try with_reducible rfl)
    try simp only [Act.put, List.setIfInBounds_toArray, List.set_cons_zero, List.set_cons_succ]
    refine wpAnyH_take (i := 31) (v := ?_) (by rw [List.getElem?_toArray]; rfl) (by kernel_rfl) (by kernel_rfl) (by kernel_rfl) (by exact fun _ _ _ h => h) (Or.inl ⟨by rfl, ?_⟩) hHeld ?_; rotate_left; · (intro w' hSw; go_simp; try with_reducible rfl)
    try simp only [Act.put, List.setIfInBounds_toArray, List.set_cons_zero, List.set_cons_succ]
    refine wpAnyH_done (by kernel_rfl) ?_ _
    clear hHeld
    go_wp2_with fail
    go_ret
    exact ⟨rfl, HF.out.bel⟩
end Go.Proofs.YtbdealddjonobaaGreat.Usr
