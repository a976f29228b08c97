/-
  ULSays. By an AI agent.
-/
import Derived.Test.YtbdealddjonobaaGreatYZ
import Derived.Test.YtbdealddjonobaaGreatYU3
import Derived.Test.YtbdealddjonobaaGreatYB1
namespace Go.Proofs.YtbdealddjonobaaGreat.Usr
open Go Go.RowKit Wire Term Rig Draw Frm Mta Mga

set_option linter.unusedSimpArgs false
set_option linter.unusedVariables false
theorem u_known {w0 w : World} {l : List Part} (h : Fm w0 w l) : Calls Tryz.prog 30 #[] w fun e w' => ∃ (A : Option Addr) (c : Nat) (ks : List (ByteArray × ByteArray)), pl ks = knownL ∧ (ks.length ≤ c ∧ (A = none → c = 0)) ∧ Fm w0 w' (prsP A ks :: l) ∧ e = .returned (.slice A ks.length c) :=
 (known14_any w).mono fun e w' t => by
  obtain ⟨⟨A, c, ks, h1, h2, h3, h4, rfl⟩, hb⟩ := t
  exact ⟨A, c, ks, h1, h2, h.new hb h3 (fun b hb => by obtain ⟨_, off, e⟩ := hb; exact h4 b off e) (fun b hb => hb.elim), rfl⟩
theorem own_no_s {u : Us} {f : Tm} (h : ¬ u.live f = true) : own u f = (ow0, 4) := by unfold own; rw [if_pos (by simpa using h)]
theorem own_yes_s {u : Us} {f : Tm} (h : u.live f = true) : own u f = (u.of f, 0) := by unfold own; rw [if_neg (by rw [h]; simp)]
theorem isR_mt {ok : Nat → Prop} {w : World} {x : Mt} {r : Rt} {o f : ByteArray} {ep : Int} {A : Option Addr} {n c : Nat} {B : Option Addr} {m d : Nat} {v5 v6 v7 v8 : Value} (h : IsM ok w (.agg #[.string o, .string f, .int .i64 ep, .slice A n c, .slice B m d, v5, v6, v7, v8]) x) (hr : x.r = r) : IsR w (.agg #[.string o, .string f, .int .i64 ep, .slice A n c, .slice B m d]) r := by
 subst hr
 obtain ⟨o', f', sig, A', c', rs, B', d', ws, V, cv, ys, K, ck, ks, h1, h2, h3, h4, h5, h6, h7, h8, _⟩ := h
 simp only [Value.agg.injEq, Array.mk.injEq, List.cons.injEq, Value.string.injEq, Value.int.injEq, Value.slice.injEq, true_and] at h1
 obtain ⟨rfl, rfl, rfl, ⟨rfl, rfl, rfl⟩, ⟨rfl, rfl, rfl⟩, _⟩ := h1
 exact ⟨o, f, A, c, rs, B, d, ws, rfl, congrArg Mt.r h2, h3, h4, h7.1, h8.1⟩
theorem isR_ow {w : World} {x : Ow} {o f : ByteArray} {ep : Int} {A : Option Addr} {n c : Nat} {B : Option Addr} {m d : Nat} {v5 v6 v7 v8 : Value} (h : IsO w [.string o, .string f, .int .i64 ep, .slice A n c, .slice B m d, v5, v6, v7, v8] x) : IsR w (.agg #[.string o, .string f, .int .i64 ep, .slice A n c, .slice B m d]) x.r := by
 obtain ⟨o', f', A', c', rs, B', d', ws, R, S, e, ss, h1, h2, h3, h4, h5, h6, h7, _⟩ := h
 unfold OV at h1
 simp only [List.cons.injEq, Value.string.injEq, Value.int.injEq, Value.slice.injEq, true_and] at h1
 obtain ⟨rfl, rfl, rfl, ⟨rfl, rfl, rfl⟩, ⟨rfl, rfl, rfl⟩, _⟩ := h1
 exact ⟨o, f, A, c, rs, B, d, ws, rfl, congrArg Ow.r h2, h3, h4, h6, h7⟩
theorem says_more {n : Nat} {u : Us} {x : Ow} {y : Mt} {f : Tm} (k : KOk ⟨u.sec, x.root, x.sg⟩ x.r) (hy : mG ⟨u.sec, x.root, x.sg⟩ x.r x.ver = y) (he : RR x.r ∧ x.r.o = u.nm ∧ x.r.f = f ∧ 1 ≤ x.ver ∧ x.ver ≤ n ∧ (x.sg.length : Int) = x.r.ep + 1) (hn : n ≤ 200) : checkM y (117 :: u.sec) u.nm f = 0 ∧ IntKind.i64.wrap (x.r.ep + 1) = (x.sg.length : Int) ∧ FewM y := by
 obtain ⟨a1, a2, a3, a4, a5, a6⟩ := he
 have hv : x.ver < 18446744073709551616 := by omega
 have hc := check_g k hv
 have hep := a1.2.2.1
 subst hy
 rw [a2, a3] at hc
 exact ⟨hc, by rw [IntKind.wrap_i64]; omega, few_MR (mG_right k hv) hv⟩
theorem state_at {k : Kt} {r : Rt} (h : KOk k r) {R : ByteArray} (hR : R.data.toList = k.R) (w : World) : Calls Tryz.prog 38 #[.string R, .int .i64 r.ep] w fun e w' => Sr (k.st r, 0) e ∧ Below w.heap.size w w' := by
 have hep := h.rr.2.2.1
 have h1 := Reg.rstate_any R r.ep w (by rw [Lib.size_eq, hR]; have := h.R.2; omega) ⟨by omega, by omega⟩
 have hr : right k.R = true := Reg.sz_right h.R.1 (by omega) (by have := h.R.2; omega)
 have e3 : Reg.state k.R r.ep = (k.st r, 0) := by
  unfold Reg.state
  rw [if_pos hr, if_pos (by omega), show (7 - r.ep).toNat = 7 - r.ep.toNat by omega]
  exact Reg.backN_yes (pairg_right h []).2.1
 rw [hR, e3] at h1
 exact h1
theorem open_at (MO : MOpenOK) {v : Value} {m : Mt} {U P S T : ByteArray} {c : Int} (hc : openM m U.data.toList P.data.toList = (S.data.toList, T.data.toList, c)) (hf : FewM m) (hu : U.size ≤ 10000) (hp : P.size ≤ 10000) (w : World) (hm : IsM AnyB w v m) :
  Calls Tryz.prog 39 #[v, .string U, .string P] w fun e w' => e = .returned (.tuple #[.string S, .string T, .int .i64 c]) ∧ Below w.heap.size w w' :=
 (MO v m U P w hm hf hu hp).mono fun e w' t => by
  obtain ⟨⟨S', T', h1, h2, rfl⟩, hb⟩ := t
  rw [hc] at h1 h2 ⊢
  obtain rfl := str_eq h1
  obtain rfl := str_eq h2
  exact ⟨rfl, hb⟩
theorem sec_at (s : ByteArray) (w : World) (hs : s.size ≤ 12) : Calls Tryz.prog 41 #[.string s] w fun e w' => e = .returned (.string ⟨(secU s.data.toList).toArray⟩) ∧ Below w.heap.size w w' :=
 (secretOf_any s w hs).mono fun e w' t => by
  obtain ⟨⟨T, hT, rfl⟩, hb⟩ := t
  rw [str_eq (S := T) (H := ⟨(secU s.data.toList).toArray⟩) (by rw [hT])]
  exact ⟨rfl, hb⟩
theorem tx_some {w : World} {x : Ow} {v0 v1 v2 v3 v4 v5 v6 v8 : Value} {T : Option Addr} {n e : Nat} (h : IsO w [v0, v1, v2, v3, v4, v5, v6, .slice T n e, v8] x) (hl : 0 < x.sg.length) : ∃ b off, T = some ⟨b, off, none⟩ := by
 obtain ⟨o', f', A', c', rs, B', d', ws, R, S, e, ss, h1, h2, h3, h4, h5, _⟩ := h
 unfold OV at h1
 simp only [List.cons.injEq, Value.slice.injEq] at h1
 obtain ⟨_, _, _, _, _, _, _, ⟨rfl, _, _⟩, _⟩ := h1
 have hs : x.sg = bl ss := congrArg Ow.sg h2
 rw [hs, bl_len] at hl
 obtain ⟨b, off, hb, _⟩ := h5 0 hl
 exact ⟨b, off, hb⟩
theorem last_cell {w : World} {x : Ow} {v0 v1 v2 v3 v4 v5 v6 v8 : Value} {b off n e j : Nat} (h : IsO w [v0, v1, v2, v3, v4, v5, v6, .slice (some ⟨b, off, none⟩) n e, v8] x) (hl : j < x.sg.length) {L : ByteArray} (hL : L.data.toList = x.sg.getD j []) : w.cell? ⟨b, off + j, none⟩ = some (.string L) := by
  obtain ⟨o', f', A', c', rs, B', d', ws, R, S, e, ss, h1, h2, h3, h4, h5, _⟩ := h
  unfold OV at h1
  simp only [List.cons.injEq, Value.slice.injEq] at h1
  obtain ⟨_, _, _, _, _, _, _, ⟨rfl, _, _⟩, _⟩ := h1
  have hs : x.sg = bl ss := congrArg Ow.sg h2
  rw [hs, bl_len] at hl
  obtain ⟨b', off', hb, _, hc⟩ := h5 j hl
  injection hb with hb
  injection hb with e1 e2 _
  subst e1 e2
  rw [hc]
  rw [hs] at hL
  have : L = ss.getD j default := str_eq (by
    rw [hL]
    unfold bl
    simp [List.getD, hl])
  rw [this]; rfl
theorem can_0 {r : Rt} {u : Tm} (hr : RR r) (ho : u ≠ r.o) : can r u false = decide (u ∈ oth r) := by
 by_cases h : u ∈ oth r
 ·
  rw [decide_eq_true h]
  refine can_yes hr ?_
  rcases mem_oth.1 h with h2 | h2
  · exact .inr (.inr ⟨rfl, h2⟩)
  · exact .inr (.inl h2)
 ·
  rw [decide_eq_false h]
  refine can_no fun h2 => ?_
  rcases h2 with h2 | h2 | h2
  · exact ho h2
  · exact h (mem_oth.2 (.inr h2))
  · exact h (mem_oth.2 (.inl h2.2))
theorem can_1 {r : Rt} {u : Tm} (hr : RR r) (ho : u ≠ r.o) : can r u true = decide (u ∈ r.ws) := by
 by_cases h : u ∈ r.ws
 ·
  rw [decide_eq_true h]
  exact can_yes hr (.inr (.inl h))
 ·
  rw [decide_eq_false h]
  refine can_no fun h2 => ?_
  rcases h2 with h2 | h2 | h2
  · exact ho h2
  · exact h h2
  · cases h2.1
theorem public_at {D : UPred} {w0 w : World} {l : List Part} {a : Addr} {S M : Nat → Prop} {u : Us} {n : Nat} (k : UserOK D) (i : Nat) (hi : l[i]? = some (usP k a S M u)) (h : Fm w0 w l) (f : Fine n u) (hn : n ≤ 200) (hf : AllFair u) : Calls Tryz.prog 13 #[.pointer (some a)] w fun e w' => e = .returned (.string ⟨(117 :: u.sec).toArray⟩) ∧ Below w.heap.size w w' :=
 (k.pub n a S M u w (h.at i hi) f hn).mono fun e w' t => by
  obtain ⟨⟨T, hT, rfl⟩, hb⟩ := t
  have h1 := sec_is hf.1
  rw [(one_u h1.1 (by have := h1.2; omega)).1] at hT
  rw [str_eq (S := T) (H := ⟨(117 :: u.sec).toArray⟩) (by rw [hT])]
  exact ⟨rfl, hb⟩
set_option maxHeartbeats 16000000 in
set_option maxRecDepth 1000000 in
theorem says_walk {D : UPred} (ok : UserOK D) (ok2 : SayOK D) (MC : MCheckOK) (MO : MOpenOK) (sd : Nat) (A : Option Addr) (n c : Nat) (Z : Nat → Nat → Int) (z : Int) (w : World) (hs : sd < 18446744073709551616) (ha : Acts.AReads 3 w A n Z) (hz : -9223372036854775808 ≤ z ∧ z ≤ 9223372036854775807) : Calls Tryz.prog 7 #[.int .u64 (sd : Int), .slice A n c, .int .i64 z] w fun e w' => e = .returned (.bool true) ∧ Below w.heap.size w w' := by
  have HK := zh ok
  have HK2 := zh ok2
  have HSH := zh fun w => shown14_any ok w
  have HA := zh ha
  have HFI := zh (fine0 (sd := sd) nm_anna hs)
  have HFA := zh (fair0 (n := (⟨#[97, 110, 110, 97]⟩ : ByteArray).data.toList) (sd := sd) (by decide))
  have HN := fun (w0 w : World) (l : List Part) (h : Fm w0 w l) => zh (u_new ok h ⟨#[97, 110, 110, 97]⟩ sd (by decide) hs nm_anna)
  clear ha
  have hn0 : (0 : Int) ≤ (n : Int) := Int.natCast_nonneg n
  have HF := zh (fm_refl w)
  go_enter Tryz.func7, Tryz.ntmps7
  go_wp2_with fail
  with_reducible refine (HSH.out _).mono ?_
  rintro e w1 ⟨rfl, hb⟩
  replace HF := zh (HF.out.go hb)
  clear hb
  try dsimp only
  go_wp2_with fail
  with_reducible refine ((HN _ _ _ HF.out).out).mono ?_
  rintro e w1 ⟨a, S, M, rfl, hF⟩
  replace HF := zh hF
  clear hF
  try dsimp only
  by_cases h40 : (40 : Int) < (n : Int)
  · go_wp2_with fail
    go_ret
    exact ⟨rfl, HF.out.bel⟩
  go_wp2_with fail
  clear HN
  have HW0 : Hid ((us0 (⟨#[97, 110, 110, 97]⟩ : ByteArray).data.toList sd).nm = (⟨#[97, 110, 110, 97]⟩ : ByteArray).data.toList) := zh rfl
  generalize us0 _ sd = s0 at HF HFI HFA HW0
  go_loopw [10] (fun vi wr => ∃ i : Nat, i ≤ n ∧ vi = .int .i64 (i : Int) ∧ ∃ s S M, Fine i s ∧ AllFair s ∧ s.nm = (⟨#[97, 110, 110, 97]⟩ : ByteArray).data.toList ∧ Hid (Fm w wr [usP ok a S M s])) (fun i _ => n - (intOf i).toNat)
  case atStart => exact ⟨0, Nat.zero_le _, rfl, s0, S, M, HFI.out, HFA.out, HW0.out, HF⟩
  case round =>
    obtain ⟨i, hi, rfl, s, S, M, hfi, hfa, hwh, HF⟩ := hrel
    have HFS := zh hfi
    have HFR := zh hfa
    have HWH := zh hwh
    clear hfi HFI hfa HFA hwh HW0
    have hi0 : (0 : Int) ≤ (i : Int) := Int.natCast_nonneg i
    by_cases hlt : (i : Int) < (n : Int)
    · obtain ⟨ba, off, z0, z1, z2, rfl, hl, q0, q1, q2, hz⟩ := act_at HA.out hlt
      have HLC := zh hl
      clear hl hz
      obtain ⟨l0, l1, l2⟩ := HLC.out _ HF.out.bel
      have HF1 := zh (fine_do HFS.out z0 z1 z2)
      have HR1 := zh (fair_do HFR.out HFS.out z0 z1 z2)
      have HW1 := zh ((do_who s z0 z1 z2).1.trans HWH.out)
      have hi40 : i ≤ 200 := by omega
      obtain ⟨s1, e1, hx⟩ : ∃ s1 e1, doU s z0 z1 z2 = (s1, e1) := ⟨_, _, rfl⟩
      rw [hx] at HF1 HR1 HW1
      have HX := zh hx
      clear hx
      go_wp2_with fail
      with_reducible refine (does_any HK.out 0 rfl HF.out HFS.out hi40 z0 z1 z2 q0 q1 q2).mono ?_
      rintro e w1 hT
      rw [HX.out] at hT
      obtain ⟨rfl, S1, M1, hF⟩ := hT
      dsimp only at hF
      replace HF := zh hF
      clear hF
      try dsimp only
      clear l0 l1 l2
      go_wp2_with fail
      go_roundw
      case rel => exact ⟨i + 1, by omega, by go_num, s1, S1, M1, HF1.out, HR1.out, HW1.out, HF⟩
      case measure => simp [intOf]; omega
    have hi40 : i ≤ 200 := by omega
    have HFN := zh fun w => file_any z hz w
    have hfs := fileN_size z
    generalize fileN z = F at HFN hfs
    have hF5 : F.size ≤ 10000 := by omega
    clear hfs
    by_cases hlv : s.live F.data.toList = true
    · obtain ⟨x1, hx1⟩ : ∃ x1, s.of F.data.toList = x1 := ⟨_, rfl⟩
      have hin := (live_in hlv).1
      have hg := (live_in hlv).2
      have hea := HFS.out.each _ hin
      have hko := kok HFR.out HFS.out hin
      have HX : Hid (own s F.data.toList = (x1, 0)) := zh (by rw [own_yes_s hlv, hx1])
      have hor : ∀ t ∈ oth (s.of F.data.toList).r, pub knownL t = (pubU t, 0) := fun t ht => knows_all t ((HFR.out.2 _ hin).wn t (mem_oth.1 ht))
      obtain ⟨x2, hx2⟩ : ∃ x2, mG (kOf s F.data.toList) (s.of F.data.toList).r (s.of F.data.toList).ver = x2 := ⟨_, rfl⟩
      have HSY : Hid (says s F.data.toList knownL = (x2, 0)) := zh (by rw [says_yes HFR.out HFS.out hi40 hlv hor, hx2])
      rw [hx1] at hg hea hko hx2
      have HXS := zh hx1
      have HKO : Hid (KOk ⟨s.sec, x1.root, x1.sg⟩ x1.r) := zh (by rw [← hx1]; rw [← hx1] at hko; exact hko)
      have HX2 : Hid (mG ⟨s.sec, x1.root, x1.sg⟩ x1.r x1.ver = x2) := zh (by rw [← hx1] at hx2 ⊢; exact hx2)
      have HG := zh hg
      have HEA := zh hea
      have HVR : Hid (x2.r = x1.r) := zh (by rw [← HX2.out]; rfl)
      have HVV : Hid ((x2.ver : Int) = (x1.ver : Int)) := zh (by rw [← HX2.out]; rfl)
      clear hx1 hin hg hea hko hor hx2
      go_wp2_with fail
      with_reducible refine (HFN.out _).mono ?_
      rintro e w1 ⟨rfl, hb⟩
      replace HF := zh (HF.out.go hb)
      clear hb
      try dsimp only
      go_wp2_with fail
      with_reducible refine (u_own HK.out 0 rfl HF.out HFS.out hi40 F hF5).mono ?_
      rintro e w1 ⟨vs, hF, rfl⟩
      rw [HX.out] at hF ⊢
      obtain ⟨ox, fx, Ax, cx, Bx, dx, Rx, Tx, ex, rfl, ho, hf, hr⟩ := isO_lit (hF.at 0 rfl)
      have HOx := zh ho
      have HPx := zh hf
      have HRx := zh hr
      clear ho hf hr
      unfold OV at hF ⊢
      replace HF := zh hF
      clear hF
      dsimp only
      go_wp2_with fail
      have hF := HF.out.box #[.string ox, .string fx, .int .i64 x1.r.ep, .slice Ax x1.r.rs.length cx, .slice Bx x1.r.ws.length dx, .int .u64 (x1.ver : Int), .string Rx, .slice Tx x1.sg.length ex, .bool x1.gone] 50
      obtain ⟨gx, hg⟩ : ∃ g, w1.heap.size = g := ⟨_, rfl⟩
      rw [hg] at hF ⊢
      clear hg
      generalize w1.alloc (.cells #[.string ox, .string fx, .int .i64 x1.r.ep, .slice Ax x1.r.rs.length cx, .slice Bx x1.r.ws.length dx, .int .u64 (x1.ver : Int), .string Rx, .slice Tx x1.sg.length ex, .bool x1.gone] 50) = w1 at hF ⊢
      replace HF := zh hF
      clear hF
      with_reducible refine (u_known HF.out).mono ?_
      rintro e w1 ⟨KA, kc, ks, hkl, hkc, hF, rfl⟩
      replace HF := zh hF
      clear hF
      have HKL := zh hkl
      have HKC := zh hkc
      clear hkl hkc
      try dsimp only
      have hfit : Fit (pl ks) := by rw [HKL.out]; exact fit_known
      go_wp2_with fail
      with_reducible refine (u_meta HK.out HK2.out 3 rfl HF.out HFS.out hi40 HFR.out F hF5 (HF.out.at 0 rfl) HKC.out hfit (x := (x2, 0)) (by rw [HKL.out]; exact HSY.out)).mono ?_
      rintro e w1 ⟨vs, hF, rfl⟩
      try dsimp only at hF
      obtain ⟨mo, mf, mA, mc, mB, md, mV, mcv, mK, mck, msig, rfl, ho, hf⟩ := isM_cells (hF.at 0 rfl)
      have HMO := zh ho
      have HMF := zh hf
      clear ho hf
      unfold MVs at hF ⊢
      replace HF := zh hF
      clear hF
      dsimp only
      have hF := HF.out
      rw [HVV.out, HVR.out, HG.out] at hF
      rw [HVV.out, HVR.out]
      replace HF := zh hF
      clear hF
      have hF := HF.out.box #[.string mo, .string mf, .int .i64 x1.r.ep, .slice mA x1.r.rs.length mc, .slice mB x1.r.ws.length md, .int .u64 (x1.ver : Int), .slice mV x2.vf.length mcv, .slice mK x2.bs.length mck, .string msig] 60
      obtain ⟨gm, hgm⟩ : ∃ g, w1.heap.size = g := ⟨_, rfl⟩
      obtain ⟨q0, q1, q2, q3, q4, q5, q6, q7, q8, q9⟩ := bx9 (hF.at 0 rfl)
      obtain ⟨p0, p1, p2, p3, p4, p5, p6, p7, p8, p9⟩ := bx9 (hF.at 3 rfl)
      go_wp2_with fail
      clear HF p0 p1 p2 p3 p4 p5 p6 p7 p8 p9 q0 q1 q2 q3 q4 q5 q6 q7 q8 q9
      rw [hgm] at hF
      clear hgm
      generalize w1.alloc (.cells #[.string mo, .string mf, .int .i64 x1.r.ep, .slice mA x1.r.rs.length mc, .slice mB x1.r.ws.length md, .int .u64 (x1.ver : Int), .slice mV x2.vf.length mcv, .slice mK x2.bs.length mck, .string msig] 60) = w1 at hF ⊢
      have HF := zh hF
      clear hF
      obtain ⟨hs1, hs2, hs3⟩ := says_more HKO.out HX2.out HEA.out hi40
      rw [HWH.out] at hs1
      have HS1 := zh hs1
      have hsl := (sec_is HFR.out.1).2
      have hw1 : IntKind.i64.wrap (x1.r.ep + 1) = (x1.sg.length : Int) := hs2
      have HS3 := zh hs3
      clear hs1 hs2 hs3
      have HCK : Hid (∀ (v : Value) (w : World), IsM AnyB w v x2 → Calls Tryz.prog 37 #[v, .string ⟨(117 :: s.sec).toArray⟩, .string ⟨#[97, 110, 110, 97]⟩, .string F] w fun e w' => e = .returned (.int .i64 0) ∧ Below w.heap.size w w') := zh fun v w hm => check_to MC HS1.out HS3.out (by rw [Lib.size_eq]; show (117 :: s.sec).length ≤ 10000; rw [List.length_cons]; omega) (by decide) hF5 w hm
      refine Ord.region_lit (S := fun w' => Fm w w' _) (by kernel_rfl) (by kernel_rfl) (HF.out.go (Below.drewN' (Below.refl _ _) 1)) ?_
      iterate 4 (refine Ord.stepR (v := ?_) (by rfl) ?_ ?_; rotate_left; · (intro w' hSw; go_simp; try with_reducible rfl))
      try simp only [Act.put, zq1, zq2, zq3]
      (refine Ord.stepR (v := ?_) (by rfl) ?_ ?_; rotate_left; · (intro w' hSw; obtain ⟨q00, q01, q02, q03, q04, q05, q06, q07, q08, q09⟩ := bx9 (hSw.at 0 rfl); obtain ⟨q10, q11, q12, q13, q14, q15, q16, q17, q18, q19⟩ := bx9 (hSw.at 3 rfl); go_simp; try with_reducible rfl))
      try simp only [Act.put, zq1, zq2, zq3]
      (refine Ord.stepR (v := ?_) (by rfl) ?_ ?_; rotate_left; · (intro w' hSw; go_simp; try with_reducible rfl))
      try simp only [Act.put, zq1, zq2, zq3]
      (refine Ord.stepR (v := ?_) (by rfl) ?_ ?_; rotate_left; · (intro w' hSw; obtain ⟨q00, q01, q02, q03, q04, q05, q06, q07, q08, q09⟩ := bx9 (hSw.at 0 rfl); obtain ⟨q10, q11, q12, q13, q14, q15, q16, q17, q18, q19⟩ := bx9 (hSw.at 3 rfl); go_simp; try with_reducible rfl))
      try simp only [Act.put, zq1, zq2, zq3]
      iterate 4 (refine Ord.stepR (v := ?_) (by rfl) ?_ ?_; rotate_left; · (intro w' hSw; go_simp; try with_reducible rfl))
      try simp only [Act.put, zq1, zq2, zq3]
      (refine Ord.stepR (v := ?_) (by rfl) ?_ ?_; rotate_left; · (intro w' hSw; obtain ⟨q00, q01, q02, q03, q04, q05, q06, q07, q08, q09⟩ := bx9 (hSw.at 0 rfl); obtain ⟨q10, q11, q12, q13, q14, q15, q16, q17, q18, q19⟩ := bx9 (hSw.at 3 rfl); go_simp; try with_reducible rfl))
      try simp only [Act.put, zq1, zq2, zq3]
      (refine Ord.stepR (v := ?_) (by rfl) ?_ ?_; rotate_left; · (intro w' hSw; go_simp; try with_reducible rfl))
      try simp only [Act.put, zq1, zq2, zq3]
      (refine Ord.stepR (v := ?_) (by rfl) ?_ ?_; rotate_left; · (intro w' hSw; obtain ⟨q00, q01, q02, q03, q04, q05, q06, q07, q08, q09⟩ := bx9 (hSw.at 0 rfl); obtain ⟨q10, q11, q12, q13, q14, q15, q16, q17, q18, q19⟩ := bx9 (hSw.at 3 rfl); go_simp; try with_reducible rfl))
      try simp only [Act.put, zq1, zq2, zq3]
      refine Ord.stepC (v := .bool true) (by rfl) ?_ (fun w1 hS => (rsame_is _ _ _ _ (isR_mt (hS.at 1 rfl) HVR.out) (isR_ow (hS.at 4 rfl)) (few_right HKO.out.rr)).mono fun e w2 h => ⟨h.1, hS.go h.2⟩) ?_
      · (intro w' hSw; go_simp; try with_reducible rfl)
      try simp only [Act.put, zq1, zq2, zq3]
      iterate 3 (refine Ord.stepR (v := ?_) (by rfl) ?_ ?_; rotate_left; · (intro w' hSw; go_simp; try with_reducible rfl))
      try simp only [Act.put, zq1, zq2, zq3]
      (refine Ord.stepR (v := ?_) (by rfl) ?_ ?_; rotate_left; · (intro w' hSw; obtain ⟨q00, q01, q02, q03, q04, q05, q06, q07, q08, q09⟩ := bx9 (hSw.at 0 rfl); obtain ⟨q10, q11, q12, q13, q14, q15, q16, q17, q18, q19⟩ := bx9 (hSw.at 3 rfl); go_simp; try with_reducible rfl))
      try simp only [Act.put, zq1, zq2, zq3]
      (refine Ord.stepR (v := ?_) (by rfl) ?_ ?_; rotate_left; · (intro w' hSw; go_simp; try with_reducible rfl))
      try simp only [Act.put, zq1, zq2, zq3]
      refine Ord.stepC (v := .string ⟨(117 :: s.sec).toArray⟩) (by rfl) ?_ (fun w1 hS => (public_at HK.out 5 rfl hS HFS.out hi40 HFR.out).mono fun e w2 h => ⟨h.1, hS.go h.2⟩) ?_
      · (intro w' hSw; go_simp; try with_reducible rfl)
      try simp only [Act.put, zq1, zq2, zq3]
      (refine Ord.stepR (v := ?_) (by rfl) ?_ ?_; rotate_left; · (intro w' hSw; go_simp; try with_reducible rfl))
      try simp only [Act.put, zq1, zq2, zq3]
      refine Ord.stepC (v := .int .i64 0) (by rfl) ?_ (fun w1 hS => (HCK.out _ _ (hS.at 1 rfl)).mono fun e w2 h => ⟨h.1, hS.go h.2⟩) ?_
      · (intro w' hSw; go_simp; try with_reducible rfl)
      try simp only [Act.put, zq1, zq2, zq3]
      iterate 4 (refine Ord.stepR (v := ?_) (by rfl) ?_ ?_; rotate_left; · (intro w' hSw; go_simp; try with_reducible rfl))
      try simp only [Act.put, zq1, zq2, zq3]
      (refine Ord.stepR (v := ?_) (by rfl) ?_ ?_; rotate_left; · (intro w' hSw; obtain ⟨q00, q01, q02, q03, q04, q05, q06, q07, q08, q09⟩ := bx9 (hSw.at 0 rfl); obtain ⟨q10, q11, q12, q13, q14, q15, q16, q17, q18, q19⟩ := bx9 (hSw.at 3 rfl); go_simp; try with_reducible rfl))
      try simp only [Act.put, zq1, zq2, zq3]
      iterate 3 (refine Ord.stepR (v := ?_) (by rfl) ?_ ?_; rotate_left; · (intro w' hSw; go_simp; try with_reducible rfl))
      try simp only [Act.put, zq1, zq2, zq3]
      (refine Ord.stepR (v := ?_) (by rfl) ?_ ?_; rotate_left; · (intro w' hSw; obtain ⟨q00, q01, q02, q03, q04, q05, q06, q07, q08, q09⟩ := bx9 (hSw.at 0 rfl); obtain ⟨q10, q11, q12, q13, q14, q15, q16, q17, q18, q19⟩ := bx9 (hSw.at 3 rfl); go_simp; try with_reducible rfl))
      try simp only [Act.put, zq1, zq2, zq3]
      iterate 4 (refine Ord.stepR (v := ?_) (by rfl) ?_ ?_; rotate_left; · (intro w' hSw; go_simp; try with_reducible rfl))
      try simp only [Act.put, zq1, zq2, zq3]
      (refine Ord.stepR (v := ?_) (by rfl) ?_ ?_; rotate_left; · (intro w' hSw; go_simp; try with_reducible rfl))
      try simp only [Act.put, zq1, zq2, zq3]
      (refine Ord.stepR (v := ?_) (by rfl) ?_ ?_; rotate_left; · (intro w' hSw; obtain ⟨q00, q01, q02, q03, q04, q05, q06, q07, q08, q09⟩ := bx9 (hSw.at 0 rfl); obtain ⟨q10, q11, q12, q13, q14, q15, q16, q17, q18, q19⟩ := bx9 (hSw.at 3 rfl); go_simp; try with_reducible rfl))
      try simp only [Act.put, zq1, zq2, zq3]
      (refine Ord.stepR (v := ?_) (by rfl) ?_ ?_; rotate_left; · (intro w' hSw; go_simp; try with_reducible rfl))
      try simp only [Act.put, zq1, zq2, zq3]
      refine Ord.stepD fun w1 hZ => ?_
      replace HF := zh hZ
      clear hZ
      clear hw1 hsl hfit
      have HST : Hid (∀ w, Calls Tryz.prog 38 #[.string Rx, .int .i64 x1.r.ep] w fun e w' => Sr (Kt.st ⟨s.sec, x1.root, x1.sg⟩ x1.r, 0) e ∧ Below w.heap.size w w') := zh fun w => state_at HKO.out HRx.out w
      obtain ⟨p0, p1, p2, p3, p4, p5, p6, p7, p8, p9⟩ := bx9 (HF.out.at 3 rfl)
      go_wp2_with fail
      with_reducible refine (HST.out _).mono ?_
      rintro e w1 ⟨⟨ST, hst, rfl⟩, hb⟩
      replace HF := zh (HF.out.go hb)
      clear hb
      have HSTT := zh hst
      clear hst p0 p1 p2 p3 p4 p5 p6 p7 p8 p9
      try dsimp only
      obtain ⟨tb, toff, rfl⟩ := tx_some (HF.out.at 4 rfl) (by have := HKO.out.len; simp only at this; omega)
      replace HF := zh (HF.out.hide 2)
      go_wp2_with fail
      obtain ⟨L, hF, hLbm, hLmeta, hLbx, hLownx, hLu⟩ : ∃ L, Fm w w1 L ∧ L[0]? = some (box gm #[.string mo, .string mf, .int .i64 x1.r.ep, .slice mA x1.r.rs.length mc, .slice mB x1.r.ws.length md, .int .u64 (x1.ver : Int), .slice mV x2.vf.length mcv, .slice mK x2.bs.length mck, .string msig] 60) ∧ L[1]? = some (mtP [.string mo, .string mf, .int .i64 x1.r.ep, .slice mA x1.r.rs.length mc, .slice mB x1.r.ws.length md, .int .u64 (x1.ver : Int), .slice mV x2.vf.length mcv, .slice mK x2.bs.length mck, .string msig] x2) ∧ L[2]? = some (box gx #[.string ox, .string fx, .int .i64 x1.r.ep, .slice Ax x1.r.rs.length cx, .slice Bx x1.r.ws.length dx, .int .u64 (x1.ver : Int), .string Rx, .slice (some ⟨tb, toff, none⟩) x1.sg.length ex, .bool false] 50) ∧ L[3]? = some (ownP [.string ox, .string fx, .int .i64 x1.r.ep, .slice Ax x1.r.rs.length cx, .slice Bx x1.r.ws.length dx, .int .u64 (x1.ver : Int), .string Rx, .slice (some ⟨tb, toff, none⟩) x1.sg.length ex, .bool false] x1) ∧ L[4]? = some (usP ok a S M s) := ⟨_, HF.out, rfl, rfl, rfl, rfl, rfl⟩
      replace HF := zh hF
      have HLbm := zh hLbm
      have HLmeta := zh hLmeta
      have HLbx := zh hLbx
      have HLownx := zh hLownx
      have HLu := zh hLu
      clear hF hLbm hLmeta hLbx hLownx hLu
      go_loopw [18, 19, 20, 21, 22] (fun vk va vb vc vd wr2 => ∃ j : Nat, 1 ≤ j ∧ j ≤ 8 ∧ vk = .int .i64 (j : Int) ∧ ∃ V, V = va ∧ ∃ V', V' = vb ∧ ∃ V2, V2 = vc ∧ ∃ V3, V3 = vd ∧ Hid (Fm w wr2 L)) (fun i _ _ _ _ _ => 8 - (intOf i).toNat)
      case atStart => exact ⟨1, Nat.le_refl _, by decide, rfl, _, rfl, _, rfl, _, rfl, _, rfl, HF⟩
      case round =>
        obtain ⟨j, hj1, hj, rfl, va, rfl, vb, rfl, vc, rfl, vd, rfl, HF⟩ := hrel
        have hj0 : (0 : Int) ≤ (j : Int) := Int.natCast_nonneg j
        by_cases hjl : (j : Int) < 8
        · obtain ⟨U, hU⟩ : ∃ U, whoN j = U := ⟨_, rfl⟩
          have hj8 : j < 8 := by omega
          have HWU : Hid (∀ w, Calls Tryz.prog 40 #[.int .i64 (j : Int)] w fun e w' => e = .returned (.string U) ∧ Below w.heap.size w w') := zh fun w => by
            have h := who_any (j : Int) w ⟨by omega, by omega⟩
            rw [Rig.pk_small hj8, hU] at h
            exact h
          have hus := who_size j
          rw [hU] at hus
          have hul : U.data.toList.length ≤ 12 := by rw [← Lib.size_eq]; omega
          have hno : U.data.toList ≠ x1.r.o := by
            rw [HEA.out.2.1, HWH.out, ← hU]
            intro h
            have := who_inj hj8 (by decide : 0 < 8) h
            omega
          have hrr := HKO.out.rr
          have hv : x1.ver < 18446744073709551616 := by have := HEA.out.2.2.2.2.1; omega
          have HSU := zh fun w => sec_at U w (by omega)
          have HC0 : Hid (∀ v w, IsR w v x1.r → Calls Tryz.prog 42 #[v, .string U, .bool false] w fun e w' => e = .returned (.bool (decide (U.data.toList ∈ oth x1.r))) ∧ Below w.heap.size w w') := zh fun v w h => by
            have h1 := rcan_is v x1.r U false w h (few_right hrr)
            rw [can_0 hrr hno] at h1
            exact h1
          have HC1 : Hid (∀ v w, IsR w v x1.r → Calls Tryz.prog 42 #[v, .string U, .bool true] w fun e w' => e = .returned (.bool (decide (U.data.toList ∈ x1.r.ws))) ∧ Below w.heap.size w w') := zh fun v w h => by
            have h1 := rcan_is v x1.r U true w h (few_right hrr)
            rw [can_1 hrr hno] at h1
            exact h1
          have hsz : (⟨(secU U.data.toList).toArray⟩ : ByteArray).size ≤ 10000 := by rw [Lib.size_eq]; show (secU U.data.toList).length ≤ 10000; have := (secU_sz hul).2; omega
          obtain ⟨LS, hLS⟩ : ∃ LS : ByteArray, LS.data.toList = Kt.last (⟨s.sec, x1.root, x1.sg⟩ : Kt) x1.r := ⟨⟨(Kt.last (⟨s.sec, x1.root, x1.sg⟩ : Kt) x1.r).toArray⟩, rfl⟩
          have hxe := HEA.out.2.2.2.2.2
          have hxe2 := hrr.2.2.1
          have hE0 : 0 ≤ x1.r.ep := by omega
          have hEl : x1.r.ep < (x1.sg.length : Int) := by omega
          have HLC : Hid (∀ w1, Fm w w1 L → w1.cell? ⟨tb, toff + x1.r.ep.toNat, none⟩ = some (.string LS)) := zh fun w1 h => last_cell (h.at 3 HLownx.out) (by omega) hLS
          by_cases hA : U.data.toList ∈ oth x1.r
          · by_cases hB : U.data.toList ∈ x1.r.ws
            · rw [decide_eq_true hA] at HC0
              rw [decide_eq_true hB] at HC1
              have HOP : Hid (∀ (v : Value) (w : World), IsM AnyB w v x2 → Calls Tryz.prog 39 #[v, .string U, .string ⟨(secU U.data.toList).toArray⟩] w fun e w' => e = .returned (.tuple #[.string ST, .string LS, .int .i64 0]) ∧ Below w.heap.size w w') := zh fun v w hm => open_at MO (by
                rw [← HX2.out, open_g HKO.out hv hA, if_pos hB, hLS]; rw [HSTT.out]) HS3.out (by omega) hsz w hm
              clear hU hus hul hno hsz hLS hrr hxe hxe2 hv hA hB
              go_wp2_with fail
              refine Ord.region_lit (S := fun w' => Fm w w' _) (by kernel_rfl) (by kernel_rfl) (HF.out.go (Below.drewN' (Below.refl _ _) 1)) ?_
              (refine Ord.stepR (v := ?_) (by rfl) ?_ ?_; rotate_left; · (intro w' hSw; obtain ⟨q00, q01, q02, q03, q04, q05, q06, q07, q08, q09⟩ := bx9 (hSw.at 0 HLbm.out); go_simp; try with_reducible rfl))
              try simp only [Act.put, zq1, zq2, zq3]
              (refine Ord.stepR (v := ?_) (by rfl) ?_ ?_; rotate_left; · (intro w' hSw; go_simp; try with_reducible rfl))
              try simp only [Act.put, zq1, zq2, zq3]
              refine Ord.stepC (v := .string U) (by rfl) ?_ (fun w1 hS => (HWU.out w1).mono fun e w2 h => ⟨h.1, hS.go h.2⟩) ?_
              · (intro w' hSw; go_simp; try with_reducible rfl)
              try simp only [Act.put, zq1, zq2, zq3]
              (refine Ord.stepR (v := ?_) (by rfl) ?_ ?_; rotate_left; · (intro w' hSw; go_simp; try with_reducible rfl))
              try simp only [Act.put, zq1, zq2, zq3]
              refine Ord.stepC (v := .string U) (by rfl) ?_ (fun w1 hS => (HWU.out w1).mono fun e w2 h => ⟨h.1, hS.go h.2⟩) ?_
              · (intro w' hSw; go_simp; try with_reducible rfl)
              try simp only [Act.put, zq1, zq2, zq3]
              refine Ord.stepC (v := .string ⟨(secU U.data.toList).toArray⟩) (by rfl) ?_ (fun w1 hS => (HSU.out w1).mono fun e w2 h => ⟨h.1, hS.go h.2⟩) ?_
              · (intro w' hSw; go_simp; try with_reducible rfl)
              try simp only [Act.put, zq1, zq2, zq3]
              refine Ord.stepC (v := .tuple #[.string ST, .string LS, .int .i64 0]) (by rfl) ?_ (fun w1 hS => (HOP.out _ _ (hS.at 1 HLmeta.out)).mono fun e w2 h => ⟨h.1, hS.go h.2⟩) ?_
              · (intro w' hSw; go_simp; try with_reducible rfl)
              try simp only [Act.put, zq1, zq2, zq3]
              iterate 4 (refine Ord.stepR (v := ?_) (by rfl) ?_ ?_; rotate_left; · (intro w' hSw; go_simp; try with_reducible rfl))
              try simp only [Act.put, zq1, zq2, zq3]
              iterate 3 (refine Ord.stepR (v := ?_) (by rfl) ?_ ?_; rotate_left; · (intro w' hSw; go_simp; try with_reducible rfl))
              try simp only [Act.put, zq1, zq2, zq3]
              refine Ord.stepD fun w1 hZ => ?_
              replace HF := zh hZ
              clear hZ
              go_wp2_with fail
              refine Ord.region_lit (S := fun w' => Fm w w' _) (by kernel_rfl) (by kernel_rfl) (HF.out.go (Below.drewN' (Below.refl _ _) 1)) ?_
              (refine Ord.stepR (v := ?_) (by rfl) ?_ ?_; rotate_left; · (intro w' hSw; go_simp; try with_reducible rfl))
              try simp only [Act.put, zq1, zq2, zq3]
              (refine Ord.stepR (v := ?_) (by rfl) ?_ ?_; rotate_left; · (intro w' hSw; obtain ⟨q00, q01, q02, q03, q04, q05, q06, q07, q08, q09⟩ := bx9 (hSw.at 2 HLbx.out); go_simp; try with_reducible rfl))
              try simp only [Act.put, zq1, zq2, zq3]
              (refine Ord.stepR (v := ?_) (by rfl) ?_ ?_; rotate_left; · (intro w' hSw; go_simp; try with_reducible rfl))
              try simp only [Act.put, zq1, zq2, zq3]
              refine Ord.stepC (v := .string U) (by rfl) ?_ (fun w1 hS => (HWU.out w1).mono fun e w2 h => ⟨h.1, hS.go h.2⟩) ?_
              · (intro w' hSw; go_simp; try with_reducible rfl)
              try simp only [Act.put, zq1, zq2, zq3]
              refine Ord.stepC (v := .bool true) (by rfl) ?_ (fun w1 hS => (HC0.out _ _ (isR_ow (hS.at 3 HLownx.out))).mono fun e w2 h => ⟨h.1, hS.go h.2⟩) ?_
              · (intro w' hSw; go_simp; try with_reducible rfl)
              try simp only [Act.put, zq1, zq2, zq3]
              (refine Ord.stepR (v := ?_) (by rfl) ?_ ?_; rotate_left; · (intro w' hSw; go_simp; try with_reducible rfl))
              try simp only [Act.put, zq1, zq2, zq3]
              refine Ord.stepD fun w1 hZ => ?_
              replace HF := zh hZ
              clear hZ
              go_wp2_with fail
              refine Ord.region_lit (S := fun w' => Fm w w' _) (by kernel_rfl) (by kernel_rfl) (HF.out.go (Below.drewN' (Below.refl _ _) 1)) ?_
              (refine Ord.stepR (v := ?_) (by rfl) ?_ ?_; rotate_left; · (intro w' hSw; go_simp; try with_reducible rfl))
              try simp only [Act.put, zq1, zq2, zq3]
              (refine Ord.stepR (v := ?_) (by rfl) ?_ ?_; rotate_left; · (intro w' hSw; obtain ⟨q00, q01, q02, q03, q04, q05, q06, q07, q08, q09⟩ := bx9 (hSw.at 2 HLbx.out); go_simp; try with_reducible rfl))
              try simp only [Act.put, zq1, zq2, zq3]
              (refine Ord.stepR (v := ?_) (by rfl) ?_ ?_; rotate_left; · (intro w' hSw; go_simp; try with_reducible rfl))
              try simp only [Act.put, zq1, zq2, zq3]
              refine Ord.stepC (v := .string U) (by rfl) ?_ (fun w1 hS => (HWU.out w1).mono fun e w2 h => ⟨h.1, hS.go h.2⟩) ?_
              · (intro w' hSw; go_simp; try with_reducible rfl)
              try simp only [Act.put, zq1, zq2, zq3]
              refine Ord.stepC (v := .bool true) (by rfl) ?_ (fun w1 hS => (HC1.out _ _ (isR_ow (hS.at 3 HLownx.out))).mono fun e w2 h => ⟨h.1, hS.go h.2⟩) ?_
              · (intro w' hSw; go_simp; try with_reducible rfl)
              try simp only [Act.put, zq1, zq2, zq3]
              refine Ord.stepD fun w1 hZ => ?_
              replace HF := zh hZ
              clear hZ
              obtain ⟨p0, p1, p2, p3, p4, p5, p6, p7, p8, p9⟩ := bx9 (HF.out.at 2 HLbx.out)
              have hlc := HLC.out _ HF.out
              go_wp2_with fail
              go_roundw
              case rel => exact ⟨j + 1, by omega, by omega, by go_num, _, rfl, _, rfl, _, rfl, _, rfl, HF⟩
              case measure => simp [intOf]; omega
            · rw [decide_eq_true hA] at HC0
              rw [decide_eq_false hB] at HC1
              have HOP : Hid (∀ (v : Value) (w : World), IsM AnyB w v x2 → Calls Tryz.prog 39 #[v, .string U, .string ⟨(secU U.data.toList).toArray⟩] w fun e w' => e = .returned (.tuple #[.string ST, .string ⟨#[]⟩, .int .i64 0]) ∧ Below w.heap.size w w') := zh fun v w hm => open_at MO (by
                rw [← HX2.out, open_g HKO.out hv hA, if_neg hB]; rw [HSTT.out]) HS3.out (by omega) hsz w hm
              clear hU hus hul hno hsz hLS hrr hxe hxe2 hv hA hB
              go_wp2_with fail
              refine Ord.region_lit (S := fun w' => Fm w w' _) (by kernel_rfl) (by kernel_rfl) (HF.out.go (Below.drewN' (Below.refl _ _) 1)) ?_
              (refine Ord.stepR (v := ?_) (by rfl) ?_ ?_; rotate_left; · (intro w' hSw; obtain ⟨q00, q01, q02, q03, q04, q05, q06, q07, q08, q09⟩ := bx9 (hSw.at 0 HLbm.out); go_simp; try with_reducible rfl))
              try simp only [Act.put, zq1, zq2, zq3]
              (refine Ord.stepR (v := ?_) (by rfl) ?_ ?_; rotate_left; · (intro w' hSw; go_simp; try with_reducible rfl))
              try simp only [Act.put, zq1, zq2, zq3]
              refine Ord.stepC (v := .string U) (by rfl) ?_ (fun w1 hS => (HWU.out w1).mono fun e w2 h => ⟨h.1, hS.go h.2⟩) ?_
              · (intro w' hSw; go_simp; try with_reducible rfl)
              try simp only [Act.put, zq1, zq2, zq3]
              (refine Ord.stepR (v := ?_) (by rfl) ?_ ?_; rotate_left; · (intro w' hSw; go_simp; try with_reducible rfl))
              try simp only [Act.put, zq1, zq2, zq3]
              refine Ord.stepC (v := .string U) (by rfl) ?_ (fun w1 hS => (HWU.out w1).mono fun e w2 h => ⟨h.1, hS.go h.2⟩) ?_
              · (intro w' hSw; go_simp; try with_reducible rfl)
              try simp only [Act.put, zq1, zq2, zq3]
              refine Ord.stepC (v := .string ⟨(secU U.data.toList).toArray⟩) (by rfl) ?_ (fun w1 hS => (HSU.out w1).mono fun e w2 h => ⟨h.1, hS.go h.2⟩) ?_
              · (intro w' hSw; go_simp; try with_reducible rfl)
              try simp only [Act.put, zq1, zq2, zq3]
              refine Ord.stepC (v := .tuple #[.string ST, .string ⟨#[]⟩, .int .i64 0]) (by rfl) ?_ (fun w1 hS => (HOP.out _ _ (hS.at 1 HLmeta.out)).mono fun e w2 h => ⟨h.1, hS.go h.2⟩) ?_
              · (intro w' hSw; go_simp; try with_reducible rfl)
              try simp only [Act.put, zq1, zq2, zq3]
              iterate 4 (refine Ord.stepR (v := ?_) (by rfl) ?_ ?_; rotate_left; · (intro w' hSw; go_simp; try with_reducible rfl))
              try simp only [Act.put, zq1, zq2, zq3]
              iterate 3 (refine Ord.stepR (v := ?_) (by rfl) ?_ ?_; rotate_left; · (intro w' hSw; go_simp; try with_reducible rfl))
              try simp only [Act.put, zq1, zq2, zq3]
              refine Ord.stepD fun w1 hZ => ?_
              replace HF := zh hZ
              clear hZ
              go_wp2_with fail
              refine Ord.region_lit (S := fun w' => Fm w w' _) (by kernel_rfl) (by kernel_rfl) (HF.out.go (Below.drewN' (Below.refl _ _) 1)) ?_
              (refine Ord.stepR (v := ?_) (by rfl) ?_ ?_; rotate_left; · (intro w' hSw; go_simp; try with_reducible rfl))
              try simp only [Act.put, zq1, zq2, zq3]
              (refine Ord.stepR (v := ?_) (by rfl) ?_ ?_; rotate_left; · (intro w' hSw; obtain ⟨q00, q01, q02, q03, q04, q05, q06, q07, q08, q09⟩ := bx9 (hSw.at 2 HLbx.out); go_simp; try with_reducible rfl))
              try simp only [Act.put, zq1, zq2, zq3]
              (refine Ord.stepR (v := ?_) (by rfl) ?_ ?_; rotate_left; · (intro w' hSw; go_simp; try with_reducible rfl))
              try simp only [Act.put, zq1, zq2, zq3]
              refine Ord.stepC (v := .string U) (by rfl) ?_ (fun w1 hS => (HWU.out w1).mono fun e w2 h => ⟨h.1, hS.go h.2⟩) ?_
              · (intro w' hSw; go_simp; try with_reducible rfl)
              try simp only [Act.put, zq1, zq2, zq3]
              refine Ord.stepC (v := .bool true) (by rfl) ?_ (fun w1 hS => (HC0.out _ _ (isR_ow (hS.at 3 HLownx.out))).mono fun e w2 h => ⟨h.1, hS.go h.2⟩) ?_
              · (intro w' hSw; go_simp; try with_reducible rfl)
              try simp only [Act.put, zq1, zq2, zq3]
              (refine Ord.stepR (v := ?_) (by rfl) ?_ ?_; rotate_left; · (intro w' hSw; go_simp; try with_reducible rfl))
              try simp only [Act.put, zq1, zq2, zq3]
              refine Ord.stepD fun w1 hZ => ?_
              replace HF := zh hZ
              clear hZ
              go_wp2_with fail
              refine Ord.region_lit (S := fun w' => Fm w w' _) (by kernel_rfl) (by kernel_rfl) (HF.out.go (Below.drewN' (Below.refl _ _) 1)) ?_
              (refine Ord.stepR (v := ?_) (by rfl) ?_ ?_; rotate_left; · (intro w' hSw; go_simp; try with_reducible rfl))
              try simp only [Act.put, zq1, zq2, zq3]
              (refine Ord.stepR (v := ?_) (by rfl) ?_ ?_; rotate_left; · (intro w' hSw; obtain ⟨q00, q01, q02, q03, q04, q05, q06, q07, q08, q09⟩ := bx9 (hSw.at 2 HLbx.out); go_simp; try with_reducible rfl))
              try simp only [Act.put, zq1, zq2, zq3]
              (refine Ord.stepR (v := ?_) (by rfl) ?_ ?_; rotate_left; · (intro w' hSw; go_simp; try with_reducible rfl))
              try simp only [Act.put, zq1, zq2, zq3]
              refine Ord.stepC (v := .string U) (by rfl) ?_ (fun w1 hS => (HWU.out w1).mono fun e w2 h => ⟨h.1, hS.go h.2⟩) ?_
              · (intro w' hSw; go_simp; try with_reducible rfl)
              try simp only [Act.put, zq1, zq2, zq3]
              refine Ord.stepC (v := .bool false) (by rfl) ?_ (fun w1 hS => (HC1.out _ _ (isR_ow (hS.at 3 HLownx.out))).mono fun e w2 h => ⟨h.1, hS.go h.2⟩) ?_
              · (intro w' hSw; go_simp; try with_reducible rfl)
              try simp only [Act.put, zq1, zq2, zq3]
              refine Ord.stepD fun w1 hZ => ?_
              replace HF := zh hZ
              clear hZ
              go_wp2_with fail
              go_roundw
              case rel => exact ⟨j + 1, by omega, by omega, by go_num, _, rfl, _, rfl, _, rfl, _, rfl, HF⟩
              case measure => simp [intOf]; omega
          · rw [decide_eq_false hA] at HC0
            have HOP : Hid (∀ (v : Value) (w : World), IsM AnyB w v x2 → Calls Tryz.prog 39 #[v, .string U, .string ⟨(secU U.data.toList).toArray⟩] w fun e w' => e = .returned (.tuple #[.string ⟨#[]⟩, .string ⟨#[]⟩, .int .i64 6]) ∧ Below w.heap.size w w') := zh fun v w hm => open_at MO (by
              rw [← HX2.out, open_gout HKO.out hv hA hul]) HS3.out (by omega) hsz w hm
            clear hU hus hul hno hsz hLS hrr hxe hxe2 hv hA
            go_wp2_with fail
            refine Ord.region_lit (S := fun w' => Fm w w' _) (by kernel_rfl) (by kernel_rfl) (HF.out.go (Below.drewN' (Below.refl _ _) 1)) ?_
            (refine Ord.stepR (v := ?_) (by rfl) ?_ ?_; rotate_left; · (intro w' hSw; obtain ⟨q00, q01, q02, q03, q04, q05, q06, q07, q08, q09⟩ := bx9 (hSw.at 0 HLbm.out); go_simp; try with_reducible rfl))
            try simp only [Act.put, zq1, zq2, zq3]
            (refine Ord.stepR (v := ?_) (by rfl) ?_ ?_; rotate_left; · (intro w' hSw; go_simp; try with_reducible rfl))
            try simp only [Act.put, zq1, zq2, zq3]
            refine Ord.stepC (v := .string U) (by rfl) ?_ (fun w1 hS => (HWU.out w1).mono fun e w2 h => ⟨h.1, hS.go h.2⟩) ?_
            · (intro w' hSw; go_simp; try with_reducible rfl)
            try simp only [Act.put, zq1, zq2, zq3]
            (refine Ord.stepR (v := ?_) (by rfl) ?_ ?_; rotate_left; · (intro w' hSw; go_simp; try with_reducible rfl))
            try simp only [Act.put, zq1, zq2, zq3]
            refine Ord.stepC (v := .string U) (by rfl) ?_ (fun w1 hS => (HWU.out w1).mono fun e w2 h => ⟨h.1, hS.go h.2⟩) ?_
            · (intro w' hSw; go_simp; try with_reducible rfl)
            try simp only [Act.put, zq1, zq2, zq3]
            refine Ord.stepC (v := .string ⟨(secU U.data.toList).toArray⟩) (by rfl) ?_ (fun w1 hS => (HSU.out w1).mono fun e w2 h => ⟨h.1, hS.go h.2⟩) ?_
            · (intro w' hSw; go_simp; try with_reducible rfl)
            try simp only [Act.put, zq1, zq2, zq3]
            refine Ord.stepC (v := .tuple #[.string ⟨#[]⟩, .string ⟨#[]⟩, .int .i64 6]) (by rfl) ?_ (fun w1 hS => (HOP.out _ _ (hS.at 1 HLmeta.out)).mono fun e w2 h => ⟨h.1, hS.go h.2⟩) ?_
            · (intro w' hSw; go_simp; try with_reducible rfl)
            try simp only [Act.put, zq1, zq2, zq3]
            iterate 4 (refine Ord.stepR (v := ?_) (by rfl) ?_ ?_; rotate_left; · (intro w' hSw; go_simp; try with_reducible rfl))
            try simp only [Act.put, zq1, zq2, zq3]
            iterate 3 (refine Ord.stepR (v := ?_) (by rfl) ?_ ?_; rotate_left; · (intro w' hSw; go_simp; try with_reducible rfl))
            try simp only [Act.put, zq1, zq2, zq3]
            refine Ord.stepD fun w1 hZ => ?_
            replace HF := zh hZ
            clear hZ
            go_wp2_with fail
            refine Ord.region_lit (S := fun w' => Fm w w' _) (by kernel_rfl) (by kernel_rfl) (HF.out.go (Below.drewN' (Below.refl _ _) 1)) ?_
            (refine Ord.stepR (v := ?_) (by rfl) ?_ ?_; rotate_left; · (intro w' hSw; go_simp; try with_reducible rfl))
            try simp only [Act.put, zq1, zq2, zq3]
            (refine Ord.stepR (v := ?_) (by rfl) ?_ ?_; rotate_left; · (intro w' hSw; obtain ⟨q00, q01, q02, q03, q04, q05, q06, q07, q08, q09⟩ := bx9 (hSw.at 2 HLbx.out); go_simp; try with_reducible rfl))
            try simp only [Act.put, zq1, zq2, zq3]
            (refine Ord.stepR (v := ?_) (by rfl) ?_ ?_; rotate_left; · (intro w' hSw; go_simp; try with_reducible rfl))
            try simp only [Act.put, zq1, zq2, zq3]
            refine Ord.stepC (v := .string U) (by rfl) ?_ (fun w1 hS => (HWU.out w1).mono fun e w2 h => ⟨h.1, hS.go h.2⟩) ?_
            · (intro w' hSw; go_simp; try with_reducible rfl)
            try simp only [Act.put, zq1, zq2, zq3]
            refine Ord.stepC (v := .bool false) (by rfl) ?_ (fun w1 hS => (HC0.out _ _ (isR_ow (hS.at 3 HLownx.out))).mono fun e w2 h => ⟨h.1, hS.go h.2⟩) ?_
            · (intro w' hSw; go_simp; try with_reducible rfl)
            try simp only [Act.put, zq1, zq2, zq3]
            (refine Ord.stepR (v := ?_) (by rfl) ?_ ?_; rotate_left; · (intro w' hSw; go_simp; try with_reducible rfl))
            try simp only [Act.put, zq1, zq2, zq3]
            refine Ord.stepD fun w1 hZ => ?_
            replace HF := zh hZ
            clear hZ
            go_wp2_with fail
            go_roundw
            case rel => exact ⟨j + 1, by omega, by omega, by go_num, _, rfl, _, rfl, _, rfl, _, rfl, HF⟩
            case measure => simp [intOf]; omega
        go_wp2_with fail
        go_ret
        exact ⟨rfl, HF.out.bel⟩
    · obtain ⟨x1, e1, hx⟩ : ∃ x1 e1, own s F.data.toList = (x1, e1) := ⟨_, _, rfl⟩
      have HX := zh hx
      obtain ⟨x2, e2, hx2⟩ : ∃ x2 e2, says s F.data.toList knownL = (x2, e2) := ⟨_, _, rfl⟩
      have HSY := zh hx2
      rw [own_no_s hlv] at hx
      rw [says_no (by simpa using hlv)] at hx2
      obtain ⟨hx3, rfl⟩ := Prod.mk.inj hx
      obtain ⟨hx4, rfl⟩ := Prod.mk.inj hx2
      have HV1 : Hid ((x1.ver : Int) = 0) := by rw [← hx3]; exact zh rfl
      have HV2 : Hid ((x2.ver : Int) = 0) := by rw [← hx4]; exact zh rfl
      clear hx hx2 hx3 hx4
      go_wp2_with fail
      with_reducible refine (HFN.out _).mono ?_
      rintro e w1 ⟨rfl, hb⟩
      replace HF := zh (HF.out.go hb)
      clear hb
      try dsimp only
      go_wp2_with fail
      with_reducible refine (u_own HK.out 0 rfl HF.out HFS.out hi40 F hF5).mono ?_
      rintro e w1 ⟨vs, hF, rfl⟩
      rw [HX.out] at hF ⊢
      obtain ⟨ox, fx, Ax, cx, Bx, dx, Rx, Tx, ex, rfl, ho, hf, hr⟩ := isO_lit (hF.at 0 rfl)
      have HOx := zh ho
      have HPx := zh hf
      have HRx := zh hr
      clear ho hf hr
      unfold OV at hF ⊢
      replace HF := zh hF
      clear hF
      dsimp only
      go_wp2_with fail
      have hF := HF.out.box #[.string ox, .string fx, .int .i64 x1.r.ep, .slice Ax x1.r.rs.length cx, .slice Bx x1.r.ws.length dx, .int .u64 (x1.ver : Int), .string Rx, .slice Tx x1.sg.length ex, .bool x1.gone] 50
      obtain ⟨gx, hg⟩ : ∃ g, w1.heap.size = g := ⟨_, rfl⟩
      rw [hg] at hF ⊢
      clear hg
      generalize w1.alloc (.cells #[.string ox, .string fx, .int .i64 x1.r.ep, .slice Ax x1.r.rs.length cx, .slice Bx x1.r.ws.length dx, .int .u64 (x1.ver : Int), .string Rx, .slice Tx x1.sg.length ex, .bool x1.gone] 50) = w1 at hF ⊢
      replace HF := zh hF
      clear hF
      with_reducible refine (u_known HF.out).mono ?_
      rintro e w1 ⟨KA, kc, ks, hkl, hkc, hF, rfl⟩
      replace HF := zh hF
      clear hF
      have HKL := zh hkl
      have HKC := zh hkc
      clear hkl hkc
      try dsimp only
      have hfit : Fit (pl ks) := by rw [HKL.out]; exact fit_known
      go_wp2_with fail
      with_reducible refine (u_meta HK.out HK2.out 3 rfl HF.out HFS.out hi40 HFR.out F hF5 (HF.out.at 0 rfl) HKC.out hfit (x := (x2, 4)) (by rw [HKL.out]; exact HSY.out)).mono ?_
      rintro e w1 ⟨vs, hF, rfl⟩
      try dsimp only at hF
      obtain ⟨mo, mf, mA, mc, mB, md, mV, mcv, mK, mck, msig, rfl, ho, hf⟩ := isM_cells (hF.at 0 rfl)
      have HMO := zh ho
      have HMF := zh hf
      clear ho hf
      unfold MVs at hF ⊢
      replace HF := zh hF
      clear hF
      dsimp only
      have hF := HF.out.box #[.string mo, .string mf, .int .i64 x2.r.ep, .slice mA x2.r.rs.length mc, .slice mB x2.r.ws.length md, .int .u64 (x2.ver : Int), .slice mV x2.vf.length mcv, .slice mK x2.bs.length mck, .string msig] 60
      obtain ⟨q0, q1, q2, q3, q4, q5, q6, q7, q8, q9⟩ := bx9 (hF.at 0 rfl)
      obtain ⟨p0, p1, p2, p3, p4, p5, p6, p7, p8, p9⟩ := bx9 (hF.at 3 rfl)
      replace HF := zh hF
      clear hF
      rw [HV1.out] at p5
      go_wp2_with fail
      go_ret
      exact ⟨by rw [HV2.out]; rfl, HF.out.bel⟩
end Go.Proofs.YtbdealddjonobaaGreat.Usr

