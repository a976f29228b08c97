/-
  THE LAWS' OWN ACTS of layer 14 (does), and their example (shown). By an AI agent; no person has read it.
-/
import Derived.Test.YtbdealddjonobaaGreatUHelp
import Derived.Test.YtbdealddjonobaaGreatActs
namespace Go.Proofs.YtbdealddjonobaaGreat.Usr
open Go Go.RowKit Wire Rig Draw Frm

set_option linter.unusedSimpArgs false
set_option linter.unusedVariables false
/-- What an act of raw numbers makes of a user. -/
def doU (u : Us) (z0 z1 z2 : Int) : Us × Int :=
  if Rig.pk z0 9 < 2 then create u (fileN z1).data.toList
  else if Rig.pk z0 9 < 5 then grant u (fileN z1).data.toList (whoN (Rig.pk z2 8)).data.toList (decide (Rig.pk z0 9 = 4))
  else if Rig.pk z0 9 < 8 then revoke u (fileN z1).data.toList (whoN (Rig.pk z2 8)).data.toList
  else remove u (fileN z1).data.toList
theorem fine_do {n : Nat} {u : Us} (h : Fine n u) (z0 z1 z2 : Int) : Fine (n + 1) (doU u z0 z1 z2).1 := by
  unfold doU
  split
  · exact fine_create h _
  · split
    · exact fine_grant h _ _ _
    · split
      · exact fine_revoke h _ _
      · exact fine_remove h _
theorem do_err {u : Us} {z0 z1 z2 : Int} (h : (doU u z0 z1 z2).2 ≠ 0) : (doU u z0 z1 z2).1 = u := by
  unfold doU at h ⊢
  split
  · rename_i h1; rw [if_pos h1] at h; exact create_err h
  · rename_i h1; rw [if_neg h1] at h
    split
    · rename_i h2; rw [if_pos h2] at h; exact grant_err h
    · rename_i h2; rw [if_neg h2] at h
      split
      · rename_i h3; rw [if_pos h3] at h; exact revoke_err h
      · rename_i h3; rw [if_neg h3] at h; exact remove_err h
theorem do_who (u : Us) (z0 z1 z2 : Int) : (doU u z0 z1 z2).1.nm = u.nm ∧ (doU u z0 z1 z2).1.sd = u.sd := by
  unfold doU; split
  · exact create_who _ _
  · split
    · exact grant_who _ _ _ _
    · split
      · exact revoke_who _ _ _
      · exact remove_who _ _
theorem sec_same {u v : Us} (h1 : u.nm = v.nm) (h2 : u.sd = v.sd) : u.sec = v.sec := by unfold Us.sec; rw [h1, h2]
section
variable {D : UPred} {w0 w : World} {l : List Part} {a : Addr} {S M : Nat → Prop} {u : Us} {n : Nat}
theorem up {p q : Part} {i : Nat} (h : l[i]? = some p) : (q :: l)[i + 1]? = some p := by simpa using h
theorem act_at {A : Option Addr} {m i : Nat} {Z : Nat → Nat → Int} (h : Acts.AReads 3 w A m Z) (hi : (i : Int) < (m : Int)) : ∃ (b off : Nat) (z0 z1 z2 : Int), A = some ⟨b, off, none⟩ ∧ (∀ wr, Below w.heap.size w wr → wr.cell? ⟨b, off + i * 3, none⟩ = some (.int .i64 z0) ∧ wr.cell? ⟨b, off + i * 3 + 1, none⟩ = some (.int .i64 z1) ∧ wr.cell? ⟨b, off + i * 3 + 2, none⟩ = some (.int .i64 z2)) ∧
    (-9223372036854775808 ≤ z0 ∧ z0 ≤ 9223372036854775807) ∧ (-9223372036854775808 ≤ z1 ∧ z1 ≤ 9223372036854775807) ∧ (-9223372036854775808 ≤ z2 ∧ z2 ≤ 9223372036854775807) ∧ Hid (z0 = Z i 0 ∧ z1 = Z i 1 ∧ z2 = Z i 2) := by
  obtain ⟨b, off, e, hlt, hc⟩ := h i (by omega)
  have k : ∀ wr, Below w.heap.size w wr → ∀ j, j < 3 → wr.cell? ⟨b, off + i * 3 + j, none⟩ = some (.int .i64 (Z i j)) := fun wr hb j hj => (hb.cell (p := ⟨b, off + i * 3 + j, none⟩) hlt).trans (hc j hj).1
  exact ⟨b, off, _, _, _, e, fun wr hb => ⟨k wr hb 0 (by decide), k wr hb 1 (by decide), k wr hb 2 (by decide)⟩, (hc 0 (by decide)).2, (hc 1 (by decide)).2, (hc 2 (by decide)).2, rfl, rfl, rfl⟩
theorem turnF_tail {k : UserOK D} {p : Part} {i : Nat} {x : Us × Int} {e : Ending} {w' : World} (h : TurnF k w0 (p :: l) (i + 1) a x e w') : TurnF k w0 l i a x e w' := by
  obtain ⟨h1, S', M', h2⟩ := h
  exact ⟨h1, S', M', (show Fm w0 w' (p :: l.set i (usP k a S' M' x.1)) from h2).tail⟩
set_option maxHeartbeats 8000000 in
set_option maxRecDepth 1000000 in
theorem does_any (k : UserOK D) (i : Nat) (hi : l[i]? = some (usP k a S M u)) (h : Fm w0 w l) (f : Fine n u) (hn : n ≤ 200) (z0 z1 z2 : Int) (h0 : -9223372036854775808 ≤ z0 ∧ z0 ≤ 9223372036854775807) (h1 : -9223372036854775808 ≤ z1 ∧ z1 ≤ 9223372036854775807) (h2 : -9223372036854775808 ≤ z2 ∧ z2 ≤ 9223372036854775807) : Calls Tryz.prog 19 #[.pointer (some a), .agg #[.int .i64 z0, .int .i64 z1, .int .i64 z2]] w (TurnF k w0 l i a (doU u z0 z1 z2)) := by
  have HK := Lib.hid k
  have HI : Hid (∀ p : Part, (p :: l)[i + 1]? = some (usP k a S M u)) := Lib.hid fun p => by simpa using hi
  have HFI := Lib.hid f
  have HF := Lib.hid h
  have HP : Hid (∀ w, Calls Tryz.prog 15 #[.int .i64 z0, .int .i64 9] w fun e w' => e = .returned (.int .i64 ((Rig.pk z0 9 : Nat) : Int)) ∧ w' = w) := Lib.hid fun w => pick7_any z0 9 w h0 (by decide) (by decide)
  have HFN := Lib.hid fun w => file_any z1 h1 w
  have HWN := Lib.hid fun w => who_any z2 w h2
  have hfs := fileN_size z1
  have hws := who_size (Rig.pk z2 8)
  have hlt := Rig.pk_lt z0 (n := 9) (by decide)
  obtain ⟨xd, hxd⟩ : ∃ xd, doU u z0 z1 z2 = xd := ⟨_, rfl⟩
  rw [hxd]
  unfold doU at hxd
  have HD := Lib.hid hxd
  clear hxd
  generalize fileN z1 = F at *
  generalize whoN (Rig.pk z2 8) = W at *
  generalize Rig.pk z0 9 = m at *
  have hF5 : F.size ≤ 10000 := by omega
  have hW5 : W.size ≤ 10000 := by omega
  clear hfs hws h0 h1 h2 h hi f
  by_cases g0 : m < 2
  · have HX := HD.out
    rw [if_pos g0] at HX
    have i0 : (m : Int) < 2 := by omega
    have HX2 := Lib.hid HX
    clear HX HD g0
    go_enter Tryz.func19, Tryz.ntmps19
    go_wp2_with fail
    have hF := HF.out.box #[.int .i64 z0, .int .i64 z1, .int .i64 z2] 41
    generalize w.alloc (.cells #[.int .i64 z0, .int .i64 z1, .int .i64 z2] 41) = w1 at hF ⊢
    replace HF := Lib.hid hF
    clear hF
    obtain ⟨c0, c1, c2, c3⟩ := bx3 (HF.out.at 0 rfl)
    go_wp2_with fail
    clear c0 c1 c2 c3
    with_reducible refine (HFN.out _).mono ?_
    rintro e w1 ⟨rfl, hb⟩
    replace HF := Lib.hid (HF.out.go hb)
    clear hb
    try dsimp only
    obtain ⟨c0, c1, c2, c3⟩ := bx3 (HF.out.at 0 rfl)
    go_wp2_with fail
    clear c0 c1 c2 c3
    with_reducible refine (HP.out _).mono ?_
    rintro e w2 ⟨rfl, hw⟩
    obtain rfl : w1 = w2 := hw.symm
    try dsimp only
    obtain ⟨c0, c1, c2, c3⟩ := bx3 (HF.out.at 0 rfl)
    go_wp2_with fail
    clear c0 c1 c2 c3
    with_reducible refine (u_create HK.out _ (HI.out _) HF.out HFI.out hn F hF5).mono ?_
    rintro e w1 hT
    rw [HX2.out] at hT
    have HT := Lib.hid (turnF_tail hT)
    obtain ⟨rfl, _⟩ := hT
    dsimp only
    go_wp2
    go_ret
    exact HT.out
  by_cases g1 : m < 5
  · by_cases g4 : m = 4
    · have HX := HD.out
      rw [if_neg g0] at HX
      rw [if_pos g1] at HX
      have i0 : ¬ (m : Int) < 2 := by omega
      have i1 : (m : Int) < 5 := by omega
      subst g4
      rw [show decide (4 = 4) = true from rfl] at HX
      have HX2 := Lib.hid HX
      clear HX HD g0 g1
      go_enter Tryz.func19, Tryz.ntmps19
      go_wp2_with fail
      have hF := HF.out.box #[.int .i64 z0, .int .i64 z1, .int .i64 z2] 41
      generalize w.alloc (.cells #[.int .i64 z0, .int .i64 z1, .int .i64 z2] 41) = w1 at hF ⊢
      replace HF := Lib.hid hF
      clear hF
      obtain ⟨c0, c1, c2, c3⟩ := bx3 (HF.out.at 0 rfl)
      go_wp2_with fail
      clear c0 c1 c2 c3
      with_reducible refine (HFN.out _).mono ?_
      rintro e w1 ⟨rfl, hb⟩
      replace HF := Lib.hid (HF.out.go hb)
      clear hb
      try dsimp only
      obtain ⟨c0, c1, c2, c3⟩ := bx3 (HF.out.at 0 rfl)
      go_wp2_with fail
      clear c0 c1 c2 c3
      with_reducible refine (HP.out _).mono ?_
      rintro e w2 ⟨rfl, hw⟩
      obtain rfl : w1 = w2 := hw.symm
      try dsimp only
      obtain ⟨c0, c1, c2, c3⟩ := bx3 (HF.out.at 0 rfl)
      go_wp2_with fail
      clear c0 c1 c2 c3
      with_reducible refine (HWN.out _).mono ?_
      rintro e w1 ⟨rfl, hb⟩
      replace HF := Lib.hid (HF.out.go hb)
      clear hb
      try dsimp only
      go_wp2_with fail
      with_reducible refine (u_grant HK.out _ (HI.out _) HF.out HFI.out hn F W true hF5 hW5).mono ?_
      rintro e w1 hT
      rw [HX2.out] at hT
      have HT := Lib.hid (turnF_tail hT)
      obtain ⟨rfl, _⟩ := hT
      dsimp only
      go_wp2
      go_ret
      exact HT.out
    · have HX := HD.out
      rw [if_neg g0] at HX
      rw [if_pos g1] at HX
      have i0 : ¬ (m : Int) < 2 := by omega
      have i1 : (m : Int) < 5 := by omega
      have i4 : ((m : Int) == 4) = false := by simpa using (by omega : ¬ (m : Int) = 4)
      rw [decide_eq_false g4] at HX
      have HX2 := Lib.hid HX
      clear HX HD g0 g1
      go_enter Tryz.func19, Tryz.ntmps19
      go_wp2_with fail
      have hF := HF.out.box #[.int .i64 z0, .int .i64 z1, .int .i64 z2] 41
      generalize w.alloc (.cells #[.int .i64 z0, .int .i64 z1, .int .i64 z2] 41) = w1 at hF ⊢
      replace HF := Lib.hid hF
      clear hF
      obtain ⟨c0, c1, c2, c3⟩ := bx3 (HF.out.at 0 rfl)
      go_wp2_with fail
      clear c0 c1 c2 c3
      with_reducible refine (HFN.out _).mono ?_
      rintro e w1 ⟨rfl, hb⟩
      replace HF := Lib.hid (HF.out.go hb)
      clear hb
      try dsimp only
      obtain ⟨c0, c1, c2, c3⟩ := bx3 (HF.out.at 0 rfl)
      go_wp2_with fail
      clear c0 c1 c2 c3
      with_reducible refine (HP.out _).mono ?_
      rintro e w2 ⟨rfl, hw⟩
      obtain rfl : w1 = w2 := hw.symm
      try dsimp only
      obtain ⟨c0, c1, c2, c3⟩ := bx3 (HF.out.at 0 rfl)
      go_wp2_with fail
      clear c0 c1 c2 c3
      with_reducible refine (HWN.out _).mono ?_
      rintro e w1 ⟨rfl, hb⟩
      replace HF := Lib.hid (HF.out.go hb)
      clear hb
      try dsimp only
      go_wp2_with fail
      with_reducible refine (u_grant HK.out _ (HI.out _) HF.out HFI.out hn F W false hF5 hW5).mono ?_
      rintro e w1 hT
      rw [HX2.out] at hT
      have HT := Lib.hid (turnF_tail hT)
      obtain ⟨rfl, _⟩ := hT
      dsimp only
      go_wp2
      go_ret
      exact HT.out
  by_cases g2 : m < 8
  · have HX := HD.out
    rw [if_neg g0] at HX
    rw [if_neg g1] at HX
    rw [if_pos g2] at HX
    have i0 : ¬ (m : Int) < 2 := by omega
    have i1 : ¬ (m : Int) < 5 := by omega
    have i2 : (m : Int) < 8 := by omega
    have HX2 := Lib.hid HX
    clear HX HD g0 g1 g2
    go_enter Tryz.func19, Tryz.ntmps19
    go_wp2_with fail
    have hF := HF.out.box #[.int .i64 z0, .int .i64 z1, .int .i64 z2] 41
    generalize w.alloc (.cells #[.int .i64 z0, .int .i64 z1, .int .i64 z2] 41) = w1 at hF ⊢
    replace HF := Lib.hid hF
    clear hF
    obtain ⟨c0, c1, c2, c3⟩ := bx3 (HF.out.at 0 rfl)
    go_wp2_with fail
    clear c0 c1 c2 c3
    with_reducible refine (HFN.out _).mono ?_
    rintro e w1 ⟨rfl, hb⟩
    replace HF := Lib.hid (HF.out.go hb)
    clear hb
    try dsimp only
    obtain ⟨c0, c1, c2, c3⟩ := bx3 (HF.out.at 0 rfl)
    go_wp2_with fail
    clear c0 c1 c2 c3
    with_reducible refine (HP.out _).mono ?_
    rintro e w2 ⟨rfl, hw⟩
    obtain rfl : w1 = w2 := hw.symm
    try dsimp only
    obtain ⟨c0, c1, c2, c3⟩ := bx3 (HF.out.at 0 rfl)
    go_wp2_with fail
    clear c0 c1 c2 c3
    with_reducible refine (HWN.out _).mono ?_
    rintro e w1 ⟨rfl, hb⟩
    replace HF := Lib.hid (HF.out.go hb)
    clear hb
    try dsimp only
    go_wp2_with fail
    with_reducible refine (u_revoke HK.out _ (HI.out _) HF.out HFI.out hn F W hF5 hW5).mono ?_
    rintro e w1 hT
    rw [HX2.out] at hT
    have HT := Lib.hid (turnF_tail hT)
    obtain ⟨rfl, _⟩ := hT
    dsimp only
    go_wp2
    go_ret
    exact HT.out
  have HX := HD.out
  rw [if_neg g0] at HX
  rw [if_neg g1] at HX
  rw [if_neg g2] at HX
  have i0 : ¬ (m : Int) < 2 := by omega
  have i1 : ¬ (m : Int) < 5 := by omega
  have i2 : ¬ (m : Int) < 8 := by omega
  have HX2 := Lib.hid HX
  clear HX HD g0 g1 g2
  go_enter Tryz.func19, Tryz.ntmps19
  go_wp2_with fail
  have hF := HF.out.box #[.int .i64 z0, .int .i64 z1, .int .i64 z2] 41
  generalize w.alloc (.cells #[.int .i64 z0, .int .i64 z1, .int .i64 z2] 41) = w1 at hF ⊢
  replace HF := Lib.hid hF
  clear hF
  obtain ⟨c0, c1, c2, c3⟩ := bx3 (HF.out.at 0 rfl)
  go_wp2_with fail
  clear c0 c1 c2 c3
  with_reducible refine (HFN.out _).mono ?_
  rintro e w1 ⟨rfl, hb⟩
  replace HF := Lib.hid (HF.out.go hb)
  clear hb
  try dsimp only
  obtain ⟨c0, c1, c2, c3⟩ := bx3 (HF.out.at 0 rfl)
  go_wp2_with fail
  clear c0 c1 c2 c3
  with_reducible refine (HP.out _).mono ?_
  rintro e w2 ⟨rfl, hw⟩
  obtain rfl : w1 = w2 := hw.symm
  try dsimp only
  obtain ⟨c0, c1, c2, c3⟩ := bx3 (HF.out.at 0 rfl)
  go_wp2_with fail
  clear c0 c1 c2 c3
  with_reducible refine (u_remove HK.out _ (HI.out _) HF.out HFI.out hn F hF5).mono ?_
  rintro e w1 hT
  rw [HX2.out] at hT
  have HT := Lib.hid (turnF_tail hT)
  obtain ⟨rfl, _⟩ := hT
  dsimp only
  go_wp2
  go_ret
  exact HT.out
end
theorem create_first {n f : Tm} {sd : Nat} (h : nm f = true) : create (us0 n sd) f = ((create (us0 n sd) f).1, 0) ∧ own (create (us0 n sd) f).1 f = ((us0 n sd).made f, 0) := by
  have e : create (us0 n sd) f = (⟨n, sd, 3, [f], updO (fun _ => ow0) f ((us0 n sd).made f)⟩, 0) := by
    unfold create
    rw [if_neg (by rw [h]; decide), if_neg (by simp [Us.live, us0]), if_neg (by simp [Us.lives, us0]), if_neg (by simp [us0])]
    rfl
  refine ⟨by rw [e], ?_⟩
  rw [e]
  unfold own
  rw [if_neg (by simp [Us.live, updO, Us.made])]
  simp [updO]
theorem made_ver {n f : Tm} {sd : Nat} : ((us0 n sd).made f).ver = 1 := by simp [Us.made, us0]
theorem nm_anna : nm (⟨#[97, 110, 110, 97]⟩ : ByteArray).data.toList = true := by decide +kernel
theorem nm_notes : nm (⟨#[110, 111, 116, 101, 115]⟩ : ByteArray).data.toList = true := by decide +kernel
set_option maxHeartbeats 8000000 in
set_option maxRecDepth 1000000 in
theorem shown14_any {D : UPred} (k : UserOK D) (w : World) : Calls Tryz.prog 8 #[] w fun e w' => e = .returned (.bool true) ∧ Below w.heap.size w w' := by
  have HK := Lib.hid k
  have HC := Lib.hid (create_first (n := (⟨#[97, 110, 110, 97]⟩ : ByteArray).data.toList) (sd := 1) nm_notes).1
  have HO := Lib.hid (create_first (n := (⟨#[97, 110, 110, 97]⟩ : ByteArray).data.toList) (sd := 1) nm_notes).2
  have HFI := Lib.hid (fine0 (sd := 1) nm_anna (by decide))
  have HFJ := Lib.hid (fine_create HFI.out (⟨#[110, 111, 116, 101, 115]⟩ : ByteArray).data.toList)
  generalize (create (us0 (⟨#[97, 110, 110, 97]⟩ : ByteArray).data.toList 1) (⟨#[110, 111, 116, 101, 115]⟩ : ByteArray).data.toList).1 = u1 at HC HO HFJ
  have HF := Lib.hid (fm_refl w)
  go_enter Tryz.func8, Tryz.ntmps8
  have HN := u_new HK.out HF.out ⟨#[97, 110, 110, 97]⟩ 1 (by decide) (by decide) nm_anna
  rw [show ((1 : Nat) : Int) = 1 from rfl] at HN
  replace HN := Lib.hid HN
  go_wp2_with fail
  with_reducible refine (HN.out).mono ?_
  rintro e w1 ⟨a, S, M, rfl, hF⟩
  replace HF := Lib.hid hF
  clear hF
  try dsimp only
  go_wp2_with fail
  with_reducible refine (u_create HK.out 0 rfl HF.out HFI.out (by decide) ⟨#[110, 111, 116, 101, 115]⟩ (by decide)).mono ?_
  rintro e w1 hT
  rw [HC.out] at hT
  obtain ⟨rfl, S1, M1, hF⟩ := hT
  dsimp only at hF
  replace HF := Lib.hid hF
  clear hF
  try dsimp only
  have HV : Hid (((us0 (⟨#[97, 110, 110, 97]⟩ : ByteArray).data.toList 1).made (⟨#[110, 111, 116, 101, 115]⟩ : ByteArray).data.toList).ver = 1) := Lib.hid made_ver
  generalize (us0 (⟨#[97, 110, 110, 97]⟩ : ByteArray).data.toList 1).made (⟨#[110, 111, 116, 101, 115]⟩ : ByteArray).data.toList = o1 at HO HV
  go_wp2_with fail
  with_reducible refine (u_own HK.out 0 rfl HF.out HFJ.out (by decide) ⟨#[110, 111, 116, 101, 115]⟩ (by decide)).mono ?_
  rintro e w1 ⟨vs, hF, rfl⟩
  rw [HO.out] at hF ⊢
  obtain ⟨o1, f1, A1, c1, B1, d1, R1, T1, e1, rfl, ho, hf, hr⟩ := isO_lit (hF.at 0 rfl)
  have HO1 := Lib.hid ho
  have HP1 := Lib.hid hf
  have HR1 := Lib.hid hr
  clear ho hf hr
  unfold OV at hF ⊢
  replace HF := Lib.hid hF
  clear hF
  dsimp only
  rw [HV.out]
  go_wp2_with fail
  go_ret
  exact ⟨rfl, (HF.out.box _ _).bel⟩
end Go.Proofs.YtbdealddjonobaaGreat.Usr
