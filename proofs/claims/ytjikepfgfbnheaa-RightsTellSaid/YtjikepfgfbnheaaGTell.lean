/-
  RightsTell's walk, over what package rights is held to. By an AI agent; no person has read it.
-/
import Derived.Test.YtjikepfgfbnheaaGBackLaw
import Derived.Test.YtjikepfgfbnheaaOrd
namespace Go.Proofs.Ytjikepfgfbnheaa.Rig
open Go.RowKit Wire

set_option linter.unusedSimpArgs false
theorem new_few {o f : Tm} {r : Rt} {e : Int} (h : new o f = (r, e)) : Few r := by
  unfold new at h
  by_cases h1 : nm o = true ∧ nm f = true
  · have h2 := (new_ok h1.1 h1.2).2
    unfold new at h2
    rw [if_pos h1] at h h2
    rw [h] at h2
    exact few_right h2
  · rw [if_neg h1] at h
    rw [← (Prod.mk.inj h).1]; exact few_zero
theorem takeR_few {s : Tm} {r : Rt} {e : Int} (h : takeR s = (r, e)) : Few r := by
  rcases takeR_cases s with h2 | ⟨q, h2, h3, _⟩
  · rw [h2] at h; rw [← (Prod.mk.inj h).1]; exact few_zero
  · rw [h2] at h; rw [← (Prod.mk.inj h).1]; exact few_right h3
/-- What came in, as rights. -/
theorem isX_in {w : World} {o f : ByteArray} {ep : Int} {A : Option Addr} {c : Nat} {rs : List ByteArray} {B : Option Addr} {d : Nat} {ws : List ByteArray} (hA : SReads w A rs) (hB : SReads w B ws) (hc : rs.length ≤ c ∧ (A = none → c = 0)) (hd : ws.length ≤ d ∧ (B = none → d = 0)) :
    IsX (Off []) w (.agg #[.string o, .string f, .int .i64 ep, .slice A rs.length c, .slice B ws.length d]) ⟨o.data.toList, f.data.toList, ep, bl rs, bl ws⟩ :=
  ⟨o, f, A, c, rs, B, d, ws, rfl, rfl, hA, hB, hc, hd, fun _ _ _ _ h => (List.not_mem_nil h).elim, fun _ _ _ _ h => (List.not_mem_nil h).elim⟩
set_option maxHeartbeats 16000000 in
set_option maxRecDepth 1000000 in
theorem tell_walk (RG : RightOK) (CO : CanOK) (NO : NewOK) (GO : GrantOK) (RO : RevokeOK) (PO : PutOK) (TO : TakeOK) (op fp : ByteArray) (pp : Int) (Ap : Option Addr) (cp : Nat) (rs : List ByteArray) (Bp : Option Addr) (dp : Nat) (ws : List ByteArray) (u s : ByteArray) (wr : Bool) (w : World)
    (hA : SReads w Ap rs) (hB : SReads w Bp ws) (hc : rs.length ≤ cp ∧ (Ap = none → cp = 0)) (hd : ws.length ≤ dp ∧ (Bp = none → dp = 0)) (hpp : -9223372036854775808 ≤ pp ∧ pp ≤ 9223372036854775807) (ho : op.size ≤ 140737488355328) (hf : fp.size ≤ 140737488355328) (hrl : rs.length ≤ 9223372036854775807) (hwl : ws.length ≤ 9223372036854775807) (hsr : ∀ y ∈ rs, y.size ≤ 9223372036854775807) (hsw : ∀ y ∈ ws, y.size ≤ 9223372036854775807) (hu : u.size ≤ 140737488355328) (hs : s.size ≤ 140737488355328) :
    Calls Try.prog 3 #[.agg #[.string op, .string fp, .int .i64 pp, .slice Ap rs.length cp, .slice Bp ws.length dp], .string u, .string s, .bool wr] w fun e w' => e = .returned (.bool true) ∧ Below w.heap.size w w' := by
  have HSH := Lib.hid fun w => shown7_any NO GO CO w
  have HXp := Lib.hid (isX_in (o := op) (f := fp) (ep := pp) hA hB hc hd)
  have HFW := Lib.hid fun w' hb => few_any op fp pp Ap cp rs Bp dp ws w' (hA.below hb (Nat.le_refl w.heap.size)) (hB.below hb (Nat.le_refl w.heap.size)) ho hf hrl hwl hsr hsw
  unfold RV at HFW
  obtain ⟨n0, hn0⟩ : ∃ n, rs.length = n := ⟨_, rfl⟩
  obtain ⟨m0, hm0⟩ : ∃ m, ws.length = m := ⟨_, rfl⟩
  have HLR := Lib.hid hn0
  have HLW := Lib.hid hm0
  obtain ⟨r, hr⟩ : ∃ r, (⟨op.data.toList, fp.data.toList, pp, bl rs, bl ws⟩ : Rt) = r := ⟨_, rfl⟩
  rw [hr] at HXp
  have HR := Lib.hid hr
  rw [hn0, hm0] at HXp HFW ⊢
  clear hA hB hc hd ho hf hrl hwl hsr hsw hn0 hm0 hr
  go_enter Try.func3, Try.ntmps3
  go_wp2_with fail
  obtain ⟨gp, hgp⟩ : ∃ g, w.heap.size = g := ⟨_, rfl⟩
  have hh := hold_alloc (t := 24) HXp.out
  have hb0 := al w (.cells #[.string op, .string fp, .int .i64 pp, .slice Ap n0 cp, .slice Bp m0 dp] 24)
  generalize w.alloc (.cells #[.string op, .string fp, .int .i64 pp, .slice Ap n0 cp, .slice Bp m0 dp] 24) = w0 at hh hb0 ⊢
  rw [hgp] at hh ⊢
  have HHp := Lib.hid hh
  have HB0 := Lib.hid hb0
  clear hh hb0 hgp
  with_reducible refine (HSH.out _).mono ?_
  rintro e2 w2 ⟨rfl, hb2⟩
  have HB2 := Lib.hid (Bel.call HB0.out hb2)
  replace HHp := Lib.hid (HHp.out.call hb2)
  clear hb2
  dsimp only
  obtain ⟨⟨pc0, pc1, pc2, pc3, pc4, _⟩, _, _⟩ := HHp.out
  go_wp2_with fail
  clear pc0 pc1 pc2 pc3 pc4
  with_reducible refine (HFW.out _ HB2.out).mono ?_
  rintro e3 w3 ⟨⟨ok, rfl, hok⟩, hb3⟩
  have HB3 := Lib.hid (Bel.call HB2.out hb3)
  replace HHp := Lib.hid (HHp.out.call hb3)
  clear hb3
  dsimp only
  cases ok with
  | false =>
    clear hok
    go_wp2
    go_ret
    exact ⟨rfl, HB3.out⟩
  | true =>
    obtain ⟨k1, k2, k3, k4, k5⟩ := hok rfl
    have HFR : Hid (Few r) := by
      rw [← HR.out]
      have h1 := Lib.size_eq op
      have h2 := Lib.size_eq fp
      exact ⟨by show op.data.toList.length ≤ 5000; omega, by show fp.data.toList.length ≤ 5000; omega, by simp only [bl_len]; omega, by simp only [bl_len]; omega, fun x hx => by
        obtain ⟨y, hy, rfl⟩ := List.mem_map.1 hx
        have := k4 y hy
        rw [← Lib.size_eq]; omega, fun x hx => by
        obtain ⟨y, hy, rfl⟩ := List.mem_map.1 hx
        have := k5 y hy
        rw [← Lib.size_eq]; omega, hpp⟩
    clear hok k1 k2 k3 k4 k5
    by_cases hu5 : (500 : Int) < (u.size : Int)
    · go_wp2
      go_ret
      exact ⟨rfl, HB3.out⟩
    by_cases hs3 : (3000 : Int) < (s.size : Int)
    · go_wp2
      go_ret
      exact ⟨rfl, HB3.out⟩
    have huz : u.size ≤ 5000 := by omega
    have hsz : s.size ≤ 5000 := by omega
    obtain ⟨x1, e1, h1⟩ : ∃ x e, gr r u.data.toList wr = (x, e) := ⟨_, _, rfl⟩
    obtain ⟨x2, e2, h2⟩ : ∃ x e, rv r u.data.toList = (x, e) := ⟨_, _, rfl⟩
    obtain ⟨x3, e3, h3⟩ : ∃ x e, putR r = (x, e) := ⟨_, _, rfl⟩
    obtain ⟨x4, e4, h4⟩ : ∃ x e, takeR s.data.toList = (x, e) := ⟨_, _, rfl⟩
    obtain ⟨x5, e5, h5⟩ : ∃ x e, new u.data.toList s.data.toList = (x, e) := ⟨_, _, rfl⟩
    have HFw1 := Lib.hid (gr_few h1)
    have HFw2 := Lib.hid (rv_few h2)
    have HFw4 := Lib.hid (takeR_few h4)
    have HFw5 := Lib.hid (new_few h5)
    have HC1 := Lib.hid (grant_to GO h1 HFR.out huz)
    have HD1 : Hid (∀ v w gs, (∀ g ∈ gs, g < w.heap.size) → IsX (Off gs) w v r → Calls Try.prog 13 #[v, .string u, .bool wr] w fun en w' => Re (Off gs) (x1, e1) en w' ∧ Below w.heap.size w w') := fun v w gs hg hx => by
      have h := rgrant_is gs v r u wr w hg hx HFR.out huz
      rw [h1] at h
      exact h
    have HC2 := Lib.hid (revoke_to RO h2 HFR.out huz)
    have HD2 : Hid (∀ v w gs, (∀ g ∈ gs, g < w.heap.size) → IsX (Off gs) w v r → Calls Try.prog 15 #[v, .string u] w fun en w' => Re (Off gs) (x2, e2) en w' ∧ Below w.heap.size w w') := fun v w gs hg hx => by
      have h := rrevoke_is gs v r u w hg hx HFR.out huz
      rw [h2] at h
      exact h
    have HC3 := Lib.hid (put_to PO h3 HFR.out)
    have HD3 : Hid (∀ v w, IsR w v r → Calls Try.prog 17 #[v] w fun en w' => Srt (x3, e3) en ∧ Below w.heap.size w w') := fun v w hx => by
      have h := rput_is v r w hx HFR.out
      rw [h3] at h
      exact h
    have HC4 := Lib.hid (take_to TO h4 hsz)
    have HD4 : Hid (∀ w gs, (∀ g ∈ gs, g < w.heap.size) → Calls Try.prog 19 #[.string s] w fun en w' => Re (Off gs) (x4, e4) en w' ∧ Below w.heap.size w w') := fun w gs hg => by
      have h := rtake_is gs s w hg hsz
      rw [h4] at h
      exact h
    have HC5 : Hid (∀ w gs, (∀ g ∈ gs, g < w.heap.size) → Calls Try.prog 20 #[.string u, .string s] w fun en w' => Re (Off gs) (x5, e5) en w' ∧ Below w.heap.size w w') := fun w gs hg => by
      have h := NO gs u s w hg huz hsz
      rw [h5] at h
      exact h
    have HD5 : Hid (∀ w gs, (∀ g ∈ gs, g < w.heap.size) → Calls Try.prog 21 #[.string u, .string s] w fun en w' => Re (Off gs) (x5, e5) en w' ∧ Below w.heap.size w w') := fun w gs hg => by
      have h := rnew_is gs u s w hg huz hsz
      rw [h5] at h
      exact h
    obtain ⟨b6, h6⟩ : ∃ b, decide (RR r) = b := ⟨_, rfl⟩
    have HC6 := Lib.hid (right_to RG h6 HFR.out)
    have HD6 : Hid (∀ v w, IsR w v r → Calls Try.prog 24 #[v] w fun en w' => en = .returned (.bool b6) ∧ Below w.heap.size w w') := fun v w hx => by
      have h := rright_is v r w hx HFR.out
      rw [h6] at h
      exact h
    obtain ⟨b7, h7⟩ : ∃ b, can r u.data.toList wr = b := ⟨_, rfl⟩
    have HC7 := Lib.hid (can_to CO h7 HFR.out huz)
    have HD7 : Hid (∀ v w, IsR w v r → Calls Try.prog 26 #[v, .string u, .bool wr] w fun en w' => en = .returned (.bool b7) ∧ Below w.heap.size w w') := fun v w hx => by
      have h := rcan_is v r u wr w hx HFR.out
      rw [h7] at h
      exact h
    clear h1 h2 h3 h4 h5 h6 h7
    obtain ⟨⟨pc0, pc1, pc2, pc3, pc4, _⟩, _, _⟩ := HHp.out
    go_wp2_with fail
    clear pc0 pc1 pc2 pc3 pc4
    with_reducible refine (HC1.out _ _ _ (gs_cons HHp.out.lt gs_nil) HHp.out.isX).mono ?_
    rintro e4 w4 ⟨⟨v4, hx4, rfl⟩, hb4⟩
    obtain ⟨o4, f4, p4, A4, n4, c4, B4, m4, d4, rfl, hp4, hn4, hm4, ho4, hf4, hx4⟩ := isX_lit hx4
    have HB4 := Lib.hid (Bel.call HB3.out hb4)
    replace HHp := Lib.hid (HHp.out.call hb4)
    have HX4 := Lib.hid hx4
    have HO4 := Lib.hid ho4
    have HF4 := Lib.hid hf4
    have HP4 := Lib.hid hp4
    have HN4 := Lib.hid hn4
    have HM4 := Lib.hid hm4
    clear hb4 hx4 ho4 hf4 hp4 hn4 hm4
    dsimp only at HX4 HO4 HF4 HP4 HN4 HM4 ⊢
    obtain ⟨⟨pc0, pc1, pc2, pc3, pc4, _⟩, _, _⟩ := HHp.out
    go_wp2_with fail
    clear pc0 pc1 pc2 pc3 pc4
    obtain ⟨ga, hga⟩ : ∃ g, w4.heap.size = g := ⟨_, rfl⟩
    have hh5 := hold_alloc (t := 24) HX4.out
    have hba5 := al w4 (.cells #[.string o4, .string f4, .int .i64 p4, .slice A4 n4 c4, .slice B4 m4 d4] 24)
    have hnp5 := HHp.out.new (ob := (.cells #[.string o4, .string f4, .int .i64 p4, .slice A4 n4 c4, .slice B4 m4 d4] 24))
    generalize w4.alloc (.cells #[.string o4, .string f4, .int .i64 p4, .slice A4 n4 c4, .slice B4 m4 d4] 24) = w5 at hh5 hba5 hnp5 ⊢
    rw [hga] at hh5 hnp5 ⊢
    replace HHp := Lib.hid hnp5
    have HHa := Lib.hid hh5
    have HB5 := Lib.hid (Bel.call HB4.out hba5)
    clear hh5 hba5 hga hnp5
    with_reducible refine (HD1.out _ _ _ (gs_cons HHa.out.lt (gs_cons HHp.out.lt gs_nil)) HHp.out.isX).mono ?_
    rintro e6 w6 ⟨⟨v6, hx6, rfl⟩, hb6⟩
    obtain ⟨o6, f6, p6, A6, n6, c6, B6, m6, d6, rfl, hp6, hn6, hm6, ho6, hf6, hx6⟩ := isX_lit hx6
    have HB6 := Lib.hid (Bel.call HB5.out hb6)
    replace HHp := Lib.hid (HHp.out.call hb6)
    replace HHa := Lib.hid (HHa.out.call hb6)
    have HX6 := Lib.hid hx6
    have HO6 := Lib.hid ho6
    have HF6 := Lib.hid hf6
    have HP6 := Lib.hid hp6
    have HN6 := Lib.hid hn6
    have HM6 := Lib.hid hm6
    clear hb6 hx6 ho6 hf6 hp6 hn6 hm6
    dsimp only at HX6 HO6 HF6 HP6 HN6 HM6 ⊢
    obtain ⟨⟨pc0, pc1, pc2, pc3, pc4, _⟩, _, _⟩ := HHp.out
    go_wp2_with fail
    clear pc0 pc1 pc2 pc3 pc4
    obtain ⟨gb, hgb⟩ : ∃ g, w6.heap.size = g := ⟨_, rfl⟩
    have hh7 := hold_alloc (t := 24) HX6.out
    have hba7 := al w6 (.cells #[.string o6, .string f6, .int .i64 p6, .slice A6 n6 c6, .slice B6 m6 d6] 24)
    have hnp7 := HHp.out.new (ob := (.cells #[.string o6, .string f6, .int .i64 p6, .slice A6 n6 c6, .slice B6 m6 d6] 24))
    have hna7 := HHa.out.new (ob := (.cells #[.string o6, .string f6, .int .i64 p6, .slice A6 n6 c6, .slice B6 m6 d6] 24))
    generalize w6.alloc (.cells #[.string o6, .string f6, .int .i64 p6, .slice A6 n6 c6, .slice B6 m6 d6] 24) = w7 at hh7 hba7 hnp7 hna7 ⊢
    rw [hgb] at hh7 hnp7 hna7 ⊢
    replace HHp := Lib.hid hnp7
    replace HHa := Lib.hid hna7
    have HHb := Lib.hid hh7
    have HB7 := Lib.hid (Bel.call HB6.out hba7)
    clear hh7 hba7 hgb hnp7 hna7
    with_reducible refine (HC2.out _ _ _ (gs_cons HHb.out.lt (gs_cons HHa.out.lt (gs_cons HHp.out.lt gs_nil))) HHp.out.isX).mono ?_
    rintro e8 w8 ⟨⟨v8, hx8, rfl⟩, hb8⟩
    obtain ⟨o8, f8, p8, A8, n8, c8, B8, m8, d8, rfl, hp8, hn8, hm8, ho8, hf8, hx8⟩ := isX_lit hx8
    have HB8 := Lib.hid (Bel.call HB7.out hb8)
    replace HHp := Lib.hid (HHp.out.call hb8)
    replace HHa := Lib.hid (HHa.out.call hb8)
    replace HHb := Lib.hid (HHb.out.call hb8)
    have HX8 := Lib.hid hx8
    have HO8 := Lib.hid ho8
    have HF8 := Lib.hid hf8
    have HP8 := Lib.hid hp8
    have HN8 := Lib.hid hn8
    have HM8 := Lib.hid hm8
    clear hb8 hx8 ho8 hf8 hp8 hn8 hm8
    dsimp only at HX8 HO8 HF8 HP8 HN8 HM8 ⊢
    obtain ⟨⟨pc0, pc1, pc2, pc3, pc4, _⟩, _, _⟩ := HHp.out
    go_wp2_with fail
    clear pc0 pc1 pc2 pc3 pc4
    obtain ⟨gc, hgc⟩ : ∃ g, w8.heap.size = g := ⟨_, rfl⟩
    have hh9 := hold_alloc (t := 24) HX8.out
    have hba9 := al w8 (.cells #[.string o8, .string f8, .int .i64 p8, .slice A8 n8 c8, .slice B8 m8 d8] 24)
    have hnp9 := HHp.out.new (ob := (.cells #[.string o8, .string f8, .int .i64 p8, .slice A8 n8 c8, .slice B8 m8 d8] 24))
    have hna9 := HHa.out.new (ob := (.cells #[.string o8, .string f8, .int .i64 p8, .slice A8 n8 c8, .slice B8 m8 d8] 24))
    have hnb9 := HHb.out.new (ob := (.cells #[.string o8, .string f8, .int .i64 p8, .slice A8 n8 c8, .slice B8 m8 d8] 24))
    generalize w8.alloc (.cells #[.string o8, .string f8, .int .i64 p8, .slice A8 n8 c8, .slice B8 m8 d8] 24) = w9 at hh9 hba9 hnp9 hna9 hnb9 ⊢
    rw [hgc] at hh9 hnp9 hna9 hnb9 ⊢
    replace HHp := Lib.hid hnp9
    replace HHa := Lib.hid hna9
    replace HHb := Lib.hid hnb9
    have HHc := Lib.hid hh9
    have HB9 := Lib.hid (Bel.call HB8.out hba9)
    clear hh9 hba9 hgc hnp9 hna9 hnb9
    with_reducible refine (HD2.out _ _ _ (gs_cons HHc.out.lt (gs_cons HHb.out.lt (gs_cons HHa.out.lt (gs_cons HHp.out.lt gs_nil)))) HHp.out.isX).mono ?_
    rintro e10 w10 ⟨⟨v10, hx10, rfl⟩, hb10⟩
    obtain ⟨o10, f10, p10, A10, n10, c10, B10, m10, d10, rfl, hp10, hn10, hm10, ho10, hf10, hx10⟩ := isX_lit hx10
    have HB10 := Lib.hid (Bel.call HB9.out hb10)
    replace HHp := Lib.hid (HHp.out.call hb10)
    replace HHa := Lib.hid (HHa.out.call hb10)
    replace HHb := Lib.hid (HHb.out.call hb10)
    replace HHc := Lib.hid (HHc.out.call hb10)
    have HX10 := Lib.hid hx10
    have HO10 := Lib.hid ho10
    have HF10 := Lib.hid hf10
    have HP10 := Lib.hid hp10
    have HN10 := Lib.hid hn10
    have HM10 := Lib.hid hm10
    clear hb10 hx10 ho10 hf10 hp10 hn10 hm10
    dsimp only at HX10 HO10 HF10 HP10 HN10 HM10 ⊢
    obtain ⟨⟨pc0, pc1, pc2, pc3, pc4, _⟩, _, _⟩ := HHp.out
    go_wp2_with fail
    clear pc0 pc1 pc2 pc3 pc4
    obtain ⟨gd, hgd⟩ : ∃ g, w10.heap.size = g := ⟨_, rfl⟩
    have hh11 := hold_alloc (t := 24) HX10.out
    have hba11 := al w10 (.cells #[.string o10, .string f10, .int .i64 p10, .slice A10 n10 c10, .slice B10 m10 d10] 24)
    have hnp11 := HHp.out.new (ob := (.cells #[.string o10, .string f10, .int .i64 p10, .slice A10 n10 c10, .slice B10 m10 d10] 24))
    have hna11 := HHa.out.new (ob := (.cells #[.string o10, .string f10, .int .i64 p10, .slice A10 n10 c10, .slice B10 m10 d10] 24))
    have hnb11 := HHb.out.new (ob := (.cells #[.string o10, .string f10, .int .i64 p10, .slice A10 n10 c10, .slice B10 m10 d10] 24))
    have hnc11 := HHc.out.new (ob := (.cells #[.string o10, .string f10, .int .i64 p10, .slice A10 n10 c10, .slice B10 m10 d10] 24))
    generalize w10.alloc (.cells #[.string o10, .string f10, .int .i64 p10, .slice A10 n10 c10, .slice B10 m10 d10] 24) = w11 at hh11 hba11 hnp11 hna11 hnb11 hnc11 ⊢
    rw [hgd] at hh11 hnp11 hna11 hnb11 hnc11 ⊢
    replace HHp := Lib.hid hnp11
    replace HHa := Lib.hid hna11
    replace HHb := Lib.hid hnb11
    replace HHc := Lib.hid hnc11
    have HHd := Lib.hid hh11
    have HB11 := Lib.hid (Bel.call HB10.out hba11)
    clear hh11 hba11 hgd hnp11 hna11 hnb11 hnc11
    with_reducible refine (HC3.out _ _ HHp.out.isR).mono ?_
    rintro e12 w12 ⟨⟨S1, hS1, rfl⟩, hb12⟩
    have HB12 := Lib.hid (Bel.call HB11.out hb12)
    replace HHp := Lib.hid (HHp.out.call hb12)
    replace HHa := Lib.hid (HHa.out.call hb12)
    replace HHb := Lib.hid (HHb.out.call hb12)
    replace HHc := Lib.hid (HHc.out.call hb12)
    replace HHd := Lib.hid (HHd.out.call hb12)
    clear hb12
    dsimp only at hS1
    have HS1 := Lib.hid hS1
    clear hS1
    dsimp only
    obtain ⟨⟨pc0, pc1, pc2, pc3, pc4, _⟩, _, _⟩ := HHp.out
    go_wp2_with fail
    clear pc0 pc1 pc2 pc3 pc4
    with_reducible refine (HD3.out _ _ HHp.out.isR).mono ?_
    rintro e13 w13 ⟨⟨S2, hS2, rfl⟩, hb13⟩
    have HB13 := Lib.hid (Bel.call HB12.out hb13)
    replace HHp := Lib.hid (HHp.out.call hb13)
    replace HHa := Lib.hid (HHa.out.call hb13)
    replace HHb := Lib.hid (HHb.out.call hb13)
    replace HHc := Lib.hid (HHc.out.call hb13)
    replace HHd := Lib.hid (HHd.out.call hb13)
    clear hb13
    dsimp only at hS2
    obtain rfl : S1 = S2 := str_eq (HS1.out.trans hS2.symm)
    clear hS2
    dsimp only
    go_wp2_with fail
    with_reducible refine (HC4.out _ _ (gs_cons HHd.out.lt (gs_cons HHc.out.lt (gs_cons HHb.out.lt (gs_cons HHa.out.lt (gs_cons HHp.out.lt gs_nil)))))).mono ?_
    rintro e14 w14 ⟨⟨v14, hx14, rfl⟩, hb14⟩
    obtain ⟨o14, f14, p14, A14, n14, c14, B14, m14, d14, rfl, hp14, hn14, hm14, ho14, hf14, hx14⟩ := isX_lit hx14
    have HB14 := Lib.hid (Bel.call HB13.out hb14)
    replace HHp := Lib.hid (HHp.out.call hb14)
    replace HHa := Lib.hid (HHa.out.call hb14)
    replace HHb := Lib.hid (HHb.out.call hb14)
    replace HHc := Lib.hid (HHc.out.call hb14)
    replace HHd := Lib.hid (HHd.out.call hb14)
    have HX14 := Lib.hid hx14
    have HO14 := Lib.hid ho14
    have HF14 := Lib.hid hf14
    have HP14 := Lib.hid hp14
    have HN14 := Lib.hid hn14
    have HM14 := Lib.hid hm14
    clear hb14 hx14 ho14 hf14 hp14 hn14 hm14
    dsimp only at HX14 HO14 HF14 HP14 HN14 HM14 ⊢
    go_wp2_with fail
    obtain ⟨ge, hge⟩ : ∃ g, w14.heap.size = g := ⟨_, rfl⟩
    have hh15 := hold_alloc (t := 24) HX14.out
    have hba15 := al w14 (.cells #[.string o14, .string f14, .int .i64 p14, .slice A14 n14 c14, .slice B14 m14 d14] 24)
    have hnp15 := HHp.out.new (ob := (.cells #[.string o14, .string f14, .int .i64 p14, .slice A14 n14 c14, .slice B14 m14 d14] 24))
    have hna15 := HHa.out.new (ob := (.cells #[.string o14, .string f14, .int .i64 p14, .slice A14 n14 c14, .slice B14 m14 d14] 24))
    have hnb15 := HHb.out.new (ob := (.cells #[.string o14, .string f14, .int .i64 p14, .slice A14 n14 c14, .slice B14 m14 d14] 24))
    have hnc15 := HHc.out.new (ob := (.cells #[.string o14, .string f14, .int .i64 p14, .slice A14 n14 c14, .slice B14 m14 d14] 24))
    have hnd15 := HHd.out.new (ob := (.cells #[.string o14, .string f14, .int .i64 p14, .slice A14 n14 c14, .slice B14 m14 d14] 24))
    generalize w14.alloc (.cells #[.string o14, .string f14, .int .i64 p14, .slice A14 n14 c14, .slice B14 m14 d14] 24) = w15 at hh15 hba15 hnp15 hna15 hnb15 hnc15 hnd15 ⊢
    rw [hge] at hh15 hnp15 hna15 hnb15 hnc15 hnd15 ⊢
    replace HHp := Lib.hid hnp15
    replace HHa := Lib.hid hna15
    replace HHb := Lib.hid hnb15
    replace HHc := Lib.hid hnc15
    replace HHd := Lib.hid hnd15
    have HHe := Lib.hid hh15
    have HB15 := Lib.hid (Bel.call HB14.out hba15)
    clear hh15 hba15 hge hnp15 hna15 hnb15 hnc15 hnd15
    with_reducible refine (HD4.out _ _ (gs_cons HHe.out.lt (gs_cons HHd.out.lt (gs_cons HHc.out.lt (gs_cons HHb.out.lt (gs_cons HHa.out.lt (gs_cons HHp.out.lt gs_nil))))))).mono ?_
    rintro e16 w16 ⟨⟨v16, hx16, rfl⟩, hb16⟩
    obtain ⟨o16, f16, p16, A16, n16, c16, B16, m16, d16, rfl, hp16, hn16, hm16, ho16, hf16, hx16⟩ := isX_lit hx16
    have HB16 := Lib.hid (Bel.call HB15.out hb16)
    replace HHp := Lib.hid (HHp.out.call hb16)
    replace HHa := Lib.hid (HHa.out.call hb16)
    replace HHb := Lib.hid (HHb.out.call hb16)
    replace HHc := Lib.hid (HHc.out.call hb16)
    replace HHd := Lib.hid (HHd.out.call hb16)
    replace HHe := Lib.hid (HHe.out.call hb16)
    have HX16 := Lib.hid hx16
    have HO16 := Lib.hid ho16
    have HF16 := Lib.hid hf16
    have HP16 := Lib.hid hp16
    have HN16 := Lib.hid hn16
    have HM16 := Lib.hid hm16
    clear hb16 hx16 ho16 hf16 hp16 hn16 hm16
    dsimp only at HX16 HO16 HF16 HP16 HN16 HM16 ⊢
    go_wp2_with fail
    obtain ⟨gf, hgf⟩ : ∃ g, w16.heap.size = g := ⟨_, rfl⟩
    have hh17 := hold_alloc (t := 24) HX16.out
    have hba17 := al w16 (.cells #[.string o16, .string f16, .int .i64 p16, .slice A16 n16 c16, .slice B16 m16 d16] 24)
    have hnp17 := HHp.out.new (ob := (.cells #[.string o16, .string f16, .int .i64 p16, .slice A16 n16 c16, .slice B16 m16 d16] 24))
    have hna17 := HHa.out.new (ob := (.cells #[.string o16, .string f16, .int .i64 p16, .slice A16 n16 c16, .slice B16 m16 d16] 24))
    have hnb17 := HHb.out.new (ob := (.cells #[.string o16, .string f16, .int .i64 p16, .slice A16 n16 c16, .slice B16 m16 d16] 24))
    have hnc17 := HHc.out.new (ob := (.cells #[.string o16, .string f16, .int .i64 p16, .slice A16 n16 c16, .slice B16 m16 d16] 24))
    have hnd17 := HHd.out.new (ob := (.cells #[.string o16, .string f16, .int .i64 p16, .slice A16 n16 c16, .slice B16 m16 d16] 24))
    have hne17 := HHe.out.new (ob := (.cells #[.string o16, .string f16, .int .i64 p16, .slice A16 n16 c16, .slice B16 m16 d16] 24))
    generalize w16.alloc (.cells #[.string o16, .string f16, .int .i64 p16, .slice A16 n16 c16, .slice B16 m16 d16] 24) = w17 at hh17 hba17 hnp17 hna17 hnb17 hnc17 hnd17 hne17 ⊢
    rw [hgf] at hh17 hnp17 hna17 hnb17 hnc17 hnd17 hne17 ⊢
    replace HHp := Lib.hid hnp17
    replace HHa := Lib.hid hna17
    replace HHb := Lib.hid hnb17
    replace HHc := Lib.hid hnc17
    replace HHd := Lib.hid hnd17
    replace HHe := Lib.hid hne17
    have HHf := Lib.hid hh17
    have HB17 := Lib.hid (Bel.call HB16.out hba17)
    clear hh17 hba17 hgf hnp17 hna17 hnb17 hnc17 hnd17 hne17
    with_reducible refine (HC5.out _ _ (gs_cons HHf.out.lt (gs_cons HHe.out.lt (gs_cons HHd.out.lt (gs_cons HHc.out.lt (gs_cons HHb.out.lt (gs_cons HHa.out.lt (gs_cons HHp.out.lt gs_nil)))))))).mono ?_
    rintro e18 w18 ⟨⟨v18, hx18, rfl⟩, hb18⟩
    obtain ⟨o18, f18, p18, A18, n18, c18, B18, m18, d18, rfl, hp18, hn18, hm18, ho18, hf18, hx18⟩ := isX_lit hx18
    have HB18 := Lib.hid (Bel.call HB17.out hb18)
    replace HHp := Lib.hid (HHp.out.call hb18)
    replace HHa := Lib.hid (HHa.out.call hb18)
    replace HHb := Lib.hid (HHb.out.call hb18)
    replace HHc := Lib.hid (HHc.out.call hb18)
    replace HHd := Lib.hid (HHd.out.call hb18)
    replace HHe := Lib.hid (HHe.out.call hb18)
    replace HHf := Lib.hid (HHf.out.call hb18)
    have HX18 := Lib.hid hx18
    have HO18 := Lib.hid ho18
    have HF18 := Lib.hid hf18
    have HP18 := Lib.hid hp18
    have HN18 := Lib.hid hn18
    have HM18 := Lib.hid hm18
    clear hb18 hx18 ho18 hf18 hp18 hn18 hm18
    dsimp only at HX18 HO18 HF18 HP18 HN18 HM18 ⊢
    go_wp2_with fail
    obtain ⟨gg, hgg⟩ : ∃ g, w18.heap.size = g := ⟨_, rfl⟩
    have hh19 := hold_alloc (t := 24) HX18.out
    have hba19 := al w18 (.cells #[.string o18, .string f18, .int .i64 p18, .slice A18 n18 c18, .slice B18 m18 d18] 24)
    have hnp19 := HHp.out.new (ob := (.cells #[.string o18, .string f18, .int .i64 p18, .slice A18 n18 c18, .slice B18 m18 d18] 24))
    have hna19 := HHa.out.new (ob := (.cells #[.string o18, .string f18, .int .i64 p18, .slice A18 n18 c18, .slice B18 m18 d18] 24))
    have hnb19 := HHb.out.new (ob := (.cells #[.string o18, .string f18, .int .i64 p18, .slice A18 n18 c18, .slice B18 m18 d18] 24))
    have hnc19 := HHc.out.new (ob := (.cells #[.string o18, .string f18, .int .i64 p18, .slice A18 n18 c18, .slice B18 m18 d18] 24))
    have hnd19 := HHd.out.new (ob := (.cells #[.string o18, .string f18, .int .i64 p18, .slice A18 n18 c18, .slice B18 m18 d18] 24))
    have hne19 := HHe.out.new (ob := (.cells #[.string o18, .string f18, .int .i64 p18, .slice A18 n18 c18, .slice B18 m18 d18] 24))
    have hnf19 := HHf.out.new (ob := (.cells #[.string o18, .string f18, .int .i64 p18, .slice A18 n18 c18, .slice B18 m18 d18] 24))
    generalize w18.alloc (.cells #[.string o18, .string f18, .int .i64 p18, .slice A18 n18 c18, .slice B18 m18 d18] 24) = w19 at hh19 hba19 hnp19 hna19 hnb19 hnc19 hnd19 hne19 hnf19 ⊢
    rw [hgg] at hh19 hnp19 hna19 hnb19 hnc19 hnd19 hne19 hnf19 ⊢
    replace HHp := Lib.hid hnp19
    replace HHa := Lib.hid hna19
    replace HHb := Lib.hid hnb19
    replace HHc := Lib.hid hnc19
    replace HHd := Lib.hid hnd19
    replace HHe := Lib.hid hne19
    replace HHf := Lib.hid hnf19
    have HHg := Lib.hid hh19
    have HB19 := Lib.hid (Bel.call HB18.out hba19)
    clear hh19 hba19 hgg hnp19 hna19 hnb19 hnc19 hnd19 hne19 hnf19
    with_reducible refine (HD5.out _ _ (gs_cons HHg.out.lt (gs_cons HHf.out.lt (gs_cons HHe.out.lt (gs_cons HHd.out.lt (gs_cons HHc.out.lt (gs_cons HHb.out.lt (gs_cons HHa.out.lt (gs_cons HHp.out.lt gs_nil))))))))).mono ?_
    rintro e20 w20 ⟨⟨v20, hx20, rfl⟩, hb20⟩
    obtain ⟨o20, f20, p20, A20, n20, c20, B20, m20, d20, rfl, hp20, hn20, hm20, ho20, hf20, hx20⟩ := isX_lit hx20
    have HB20 := Lib.hid (Bel.call HB19.out hb20)
    replace HHp := Lib.hid (HHp.out.call hb20)
    replace HHa := Lib.hid (HHa.out.call hb20)
    replace HHb := Lib.hid (HHb.out.call hb20)
    replace HHc := Lib.hid (HHc.out.call hb20)
    replace HHd := Lib.hid (HHd.out.call hb20)
    replace HHe := Lib.hid (HHe.out.call hb20)
    replace HHf := Lib.hid (HHf.out.call hb20)
    replace HHg := Lib.hid (HHg.out.call hb20)
    have HX20 := Lib.hid hx20
    have HO20 := Lib.hid ho20
    have HF20 := Lib.hid hf20
    have HP20 := Lib.hid hp20
    have HN20 := Lib.hid hn20
    have HM20 := Lib.hid hm20
    clear hb20 hx20 ho20 hf20 hp20 hn20 hm20
    dsimp only at HX20 HO20 HF20 HP20 HN20 HM20 ⊢
    have HSM1 := Lib.hid fun v v' w h h' => rsame_is v v' x1 w h h' HFw1.out
    have HSM2 := Lib.hid fun v v' w h h' => rsame_is v v' x2 w h h' HFw2.out
    have HSM4 := Lib.hid fun v v' w h h' => rsame_is v v' x4 w h h' HFw4.out
    have HSM5 := Lib.hid fun v v' w h h' => rsame_is v v' x5 w h h' HFw5.out
    have qs : (S1.toList == S1.toList) = true := beq_self_eq_true _
    have hna := HHa.out.new (ob := (.cells #[.string o20, .string f20, .int .i64 p20, .slice A20 n20 c20, .slice B20 m20 d20] 24))
    have hnb := HHb.out.new (ob := (.cells #[.string o20, .string f20, .int .i64 p20, .slice A20 n20 c20, .slice B20 m20 d20] 24))
    obtain ⟨⟨ac0, ac1, ac2, ac3, ac4, _⟩, _⟩ := hna
    obtain ⟨⟨bc0, bc1, bc2, bc3, bc4, _⟩, _⟩ := hnb
    go_wp2_with fail
    clear ac0 ac1 ac2 ac3 ac4
    clear bc0 bc1 bc2 bc3 bc4
    obtain ⟨gh, hgh⟩ : ∃ g, w20.heap.size = g := ⟨_, rfl⟩
    have hh21 := hold_alloc (t := 24) HX20.out
    have hba21 := al w20 (.cells #[.string o20, .string f20, .int .i64 p20, .slice A20 n20 c20, .slice B20 m20 d20] 24)
    have hnp21 := HHp.out.new (ob := (.cells #[.string o20, .string f20, .int .i64 p20, .slice A20 n20 c20, .slice B20 m20 d20] 24))
    have hna21 := HHa.out.new (ob := (.cells #[.string o20, .string f20, .int .i64 p20, .slice A20 n20 c20, .slice B20 m20 d20] 24))
    have hnb21 := HHb.out.new (ob := (.cells #[.string o20, .string f20, .int .i64 p20, .slice A20 n20 c20, .slice B20 m20 d20] 24))
    have hnc21 := HHc.out.new (ob := (.cells #[.string o20, .string f20, .int .i64 p20, .slice A20 n20 c20, .slice B20 m20 d20] 24))
    have hnd21 := HHd.out.new (ob := (.cells #[.string o20, .string f20, .int .i64 p20, .slice A20 n20 c20, .slice B20 m20 d20] 24))
    have hne21 := HHe.out.new (ob := (.cells #[.string o20, .string f20, .int .i64 p20, .slice A20 n20 c20, .slice B20 m20 d20] 24))
    have hnf21 := HHf.out.new (ob := (.cells #[.string o20, .string f20, .int .i64 p20, .slice A20 n20 c20, .slice B20 m20 d20] 24))
    have hng21 := HHg.out.new (ob := (.cells #[.string o20, .string f20, .int .i64 p20, .slice A20 n20 c20, .slice B20 m20 d20] 24))
    generalize w20.alloc (.cells #[.string o20, .string f20, .int .i64 p20, .slice A20 n20 c20, .slice B20 m20 d20] 24) = w21 at hh21 hba21 hnp21 hna21 hnb21 hnc21 hnd21 hne21 hnf21 hng21 ⊢
    rw [hgh] at hh21 hnp21 hna21 hnb21 hnc21 hnd21 hne21 hnf21 hng21 ⊢
    replace HHp := Lib.hid hnp21
    replace HHa := Lib.hid hna21
    replace HHb := Lib.hid hnb21
    replace HHc := Lib.hid hnc21
    replace HHd := Lib.hid hnd21
    replace HHe := Lib.hid hne21
    replace HHf := Lib.hid hnf21
    replace HHg := Lib.hid hng21
    have HHh := Lib.hid hh21
    have HB21 := Lib.hid (Bel.call HB20.out hba21)
    clear hh21 hba21 hgh hnp21 hna21 hnb21 hnc21 hnd21 hne21 hnf21 hng21
    with_reducible refine (HSM1.out _ _ _ HHa.out.isR HHb.out.isR).mono ?_
    rintro e22 w22 ⟨rfl, hb22⟩
    have HB22 := Lib.hid (Bel.call HB21.out hb22)
    replace HHp := Lib.hid (HHp.out.call hb22)
    replace HHa := Lib.hid (HHa.out.call hb22)
    replace HHb := Lib.hid (HHb.out.call hb22)
    replace HHc := Lib.hid (HHc.out.call hb22)
    replace HHd := Lib.hid (HHd.out.call hb22)
    replace HHe := Lib.hid (HHe.out.call hb22)
    replace HHf := Lib.hid (HHf.out.call hb22)
    replace HHg := Lib.hid (HHg.out.call hb22)
    replace HHh := Lib.hid (HHh.out.call hb22)
    clear hb22
    dsimp only
    obtain ⟨⟨cc0, cc1, cc2, cc3, cc4, _⟩, _, _⟩ := HHc.out
    obtain ⟨⟨dc0, dc1, dc2, dc3, dc4, _⟩, _, _⟩ := HHd.out
    go_wp2_with fail
    clear cc0 cc1 cc2 cc3 cc4
    clear dc0 dc1 dc2 dc3 dc4
    with_reducible refine (HSM2.out _ _ _ HHc.out.isR HHd.out.isR).mono ?_
    rintro e23 w23 ⟨rfl, hb23⟩
    have HB23 := Lib.hid (Bel.call HB22.out hb23)
    replace HHp := Lib.hid (HHp.out.call hb23)
    replace HHa := Lib.hid (HHa.out.call hb23)
    replace HHb := Lib.hid (HHb.out.call hb23)
    replace HHc := Lib.hid (HHc.out.call hb23)
    replace HHd := Lib.hid (HHd.out.call hb23)
    replace HHe := Lib.hid (HHe.out.call hb23)
    replace HHf := Lib.hid (HHf.out.call hb23)
    replace HHg := Lib.hid (HHg.out.call hb23)
    replace HHh := Lib.hid (HHh.out.call hb23)
    clear hb23
    dsimp only
    go_wp2_with fail
    have hdr := Below.drewN' (Below.refl w23.heap.size w23) 1
    refine Ord.region_lit (S := fun w' => Below w.heap.size w w' ∧ HoldL [gh, gg, gf, ge, gd, gc, gb, ga, gp] gp w' op fp pp Ap n0 cp Bp m0 dp r ∧ HoldL [gh, gg, gf, ge, gd, gc, gb, ga, gp] ge w' o14 f14 p14 A14 n14 c14 B14 m14 d14 x4 ∧ HoldL [gh, gg, gf, ge, gd, gc, gb, ga, gp] gf w' o16 f16 p16 A16 n16 c16 B16 m16 d16 x4 ∧ HoldL [gh, gg, gf, ge, gd, gc, gb, ga, gp] gg w' o18 f18 p18 A18 n18 c18 B18 m18 d18 x5 ∧ HoldL [gh, gg, gf, ge, gd, gc, gb, ga, gp] gh w' o20 f20 p20 A20 n20 c20 B20 m20 d20 x5) (by kernel_rfl) (by kernel_rfl) ⟨Bel.call HB23.out hdr, HHp.out.call hdr, HHe.out.call hdr, HHf.out.call hdr, HHg.out.call hdr, HHh.out.call hdr⟩ ?_
    clear hdr
    refine Ord.stepR (v := ?_) (by rfl) ?_ ?_
    rotate_left
    · intro w' hSw
      obtain ⟨_, ⟨⟨pc0, pc1, pc2, pc3, pc4, _⟩, _⟩, ⟨⟨ec0, ec1, ec2, ec3, ec4, _⟩, _⟩, ⟨⟨fc0, fc1, fc2, fc3, fc4, _⟩, _⟩, ⟨⟨gc0, gc1, gc2, gc3, gc4, _⟩, _⟩, ⟨⟨hc0, hc1, hc2, hc3, hc4, _⟩, _⟩⟩ := hSw
      go_simp
      try with_reducible rfl
    try simp only [Act.put, List.setIfInBounds_toArray, List.set_cons_zero, List.set_cons_succ]
    refine Ord.stepR (v := ?_) (by rfl) ?_ ?_
    rotate_left
    · intro w' hSw
      obtain ⟨_, ⟨⟨pc0, pc1, pc2, pc3, pc4, _⟩, _⟩, ⟨⟨ec0, ec1, ec2, ec3, ec4, _⟩, _⟩, ⟨⟨fc0, fc1, fc2, fc3, fc4, _⟩, _⟩, ⟨⟨gc0, gc1, gc2, gc3, gc4, _⟩, _⟩, ⟨⟨hc0, hc1, hc2, hc3, hc4, _⟩, _⟩⟩ := hSw
      go_simp
      try with_reducible rfl
    try simp only [Act.put, List.setIfInBounds_toArray, List.set_cons_zero, List.set_cons_succ]
    refine Ord.stepR (v := ?_) (by rfl) ?_ ?_
    rotate_left
    · intro w' hSw
      obtain ⟨_, ⟨⟨pc0, pc1, pc2, pc3, pc4, _⟩, _⟩, ⟨⟨ec0, ec1, ec2, ec3, ec4, _⟩, _⟩, ⟨⟨fc0, fc1, fc2, fc3, fc4, _⟩, _⟩, ⟨⟨gc0, gc1, gc2, gc3, gc4, _⟩, _⟩, ⟨⟨hc0, hc1, hc2, hc3, hc4, _⟩, _⟩⟩ := hSw
      go_simp
      try with_reducible rfl
    try simp only [Act.put, List.setIfInBounds_toArray, List.set_cons_zero, List.set_cons_succ]
    refine Ord.stepR (v := ?_) (by rfl) ?_ ?_
    rotate_left
    · intro w' hSw
      obtain ⟨_, ⟨⟨pc0, pc1, pc2, pc3, pc4, _⟩, _⟩, ⟨⟨ec0, ec1, ec2, ec3, ec4, _⟩, _⟩, ⟨⟨fc0, fc1, fc2, fc3, fc4, _⟩, _⟩, ⟨⟨gc0, gc1, gc2, gc3, gc4, _⟩, _⟩, ⟨⟨hc0, hc1, hc2, hc3, hc4, _⟩, _⟩⟩ := hSw
      go_simp
      try with_reducible rfl
    try simp only [Act.put, List.setIfInBounds_toArray, List.set_cons_zero, List.set_cons_succ]
    refine Ord.stepC (v := .bool true) (by rfl) ?_ (fun w1 hS => (HSM4.out _ _ _ hS.2.2.1.isR hS.2.2.2.1.isR).mono fun e w2 h => ⟨h.1, Bel.call hS.1 h.2, hS.2.1.call h.2, hS.2.2.1.call h.2, hS.2.2.2.1.call h.2, hS.2.2.2.2.1.call h.2, hS.2.2.2.2.2.call h.2⟩) ?_
    · intro w' hSw
      go_simp
      try with_reducible rfl
    try simp only [Act.put, List.setIfInBounds_toArray, List.set_cons_zero, List.set_cons_succ]
    refine Ord.stepR (v := ?_) (by rfl) ?_ ?_
    rotate_left
    · intro w' hSw
      obtain ⟨_, ⟨⟨pc0, pc1, pc2, pc3, pc4, _⟩, _⟩, ⟨⟨ec0, ec1, ec2, ec3, ec4, _⟩, _⟩, ⟨⟨fc0, fc1, fc2, fc3, fc4, _⟩, _⟩, ⟨⟨gc0, gc1, gc2, gc3, gc4, _⟩, _⟩, ⟨⟨hc0, hc1, hc2, hc3, hc4, _⟩, _⟩⟩ := hSw
      go_simp
      try with_reducible rfl
    try simp only [Act.put, List.setIfInBounds_toArray, List.set_cons_zero, List.set_cons_succ]
    refine Ord.stepR (v := ?_) (by rfl) ?_ ?_
    rotate_left
    · intro w' hSw
      obtain ⟨_, ⟨⟨pc0, pc1, pc2, pc3, pc4, _⟩, _⟩, ⟨⟨ec0, ec1, ec2, ec3, ec4, _⟩, _⟩, ⟨⟨fc0, fc1, fc2, fc3, fc4, _⟩, _⟩, ⟨⟨gc0, gc1, gc2, gc3, gc4, _⟩, _⟩, ⟨⟨hc0, hc1, hc2, hc3, hc4, _⟩, _⟩⟩ := hSw
      go_simp
      try with_reducible rfl
    try simp only [Act.put, List.setIfInBounds_toArray, List.set_cons_zero, List.set_cons_succ]
    refine Ord.stepR (v := ?_) (by rfl) ?_ ?_
    rotate_left
    · intro w' hSw
      obtain ⟨_, ⟨⟨pc0, pc1, pc2, pc3, pc4, _⟩, _⟩, ⟨⟨ec0, ec1, ec2, ec3, ec4, _⟩, _⟩, ⟨⟨fc0, fc1, fc2, fc3, fc4, _⟩, _⟩, ⟨⟨gc0, gc1, gc2, gc3, gc4, _⟩, _⟩, ⟨⟨hc0, hc1, hc2, hc3, hc4, _⟩, _⟩⟩ := hSw
      go_simp
      try with_reducible rfl
    try simp only [Act.put, List.setIfInBounds_toArray, List.set_cons_zero, List.set_cons_succ]
    refine Ord.stepR (v := ?_) (by rfl) ?_ ?_
    rotate_left
    · intro w' hSw
      obtain ⟨_, ⟨⟨pc0, pc1, pc2, pc3, pc4, _⟩, _⟩, ⟨⟨ec0, ec1, ec2, ec3, ec4, _⟩, _⟩, ⟨⟨fc0, fc1, fc2, fc3, fc4, _⟩, _⟩, ⟨⟨gc0, gc1, gc2, gc3, gc4, _⟩, _⟩, ⟨⟨hc0, hc1, hc2, hc3, hc4, _⟩, _⟩⟩ := hSw
      go_simp
      try with_reducible rfl
    try simp only [Act.put, List.setIfInBounds_toArray, List.set_cons_zero, List.set_cons_succ]
    refine Ord.stepR (v := ?_) (by rfl) ?_ ?_
    rotate_left
    · intro w' hSw
      obtain ⟨_, ⟨⟨pc0, pc1, pc2, pc3, pc4, _⟩, _⟩, ⟨⟨ec0, ec1, ec2, ec3, ec4, _⟩, _⟩, ⟨⟨fc0, fc1, fc2, fc3, fc4, _⟩, _⟩, ⟨⟨gc0, gc1, gc2, gc3, gc4, _⟩, _⟩, ⟨⟨hc0, hc1, hc2, hc3, hc4, _⟩, _⟩⟩ := hSw
      go_simp
      try with_reducible rfl
    try simp only [Act.put, List.setIfInBounds_toArray, List.set_cons_zero, List.set_cons_succ]
    refine Ord.stepR (v := ?_) (by rfl) ?_ ?_
    rotate_left
    · intro w' hSw
      obtain ⟨_, ⟨⟨pc0, pc1, pc2, pc3, pc4, _⟩, _⟩, ⟨⟨ec0, ec1, ec2, ec3, ec4, _⟩, _⟩, ⟨⟨fc0, fc1, fc2, fc3, fc4, _⟩, _⟩, ⟨⟨gc0, gc1, gc2, gc3, gc4, _⟩, _⟩, ⟨⟨hc0, hc1, hc2, hc3, hc4, _⟩, _⟩⟩ := hSw
      go_simp
      try with_reducible rfl
    try simp only [Act.put, List.setIfInBounds_toArray, List.set_cons_zero, List.set_cons_succ]
    refine Ord.stepR (v := ?_) (by rfl) ?_ ?_
    rotate_left
    · intro w' hSw
      obtain ⟨_, ⟨⟨pc0, pc1, pc2, pc3, pc4, _⟩, _⟩, ⟨⟨ec0, ec1, ec2, ec3, ec4, _⟩, _⟩, ⟨⟨fc0, fc1, fc2, fc3, fc4, _⟩, _⟩, ⟨⟨gc0, gc1, gc2, gc3, gc4, _⟩, _⟩, ⟨⟨hc0, hc1, hc2, hc3, hc4, _⟩, _⟩⟩ := hSw
      go_simp
      try with_reducible rfl
    try simp only [Act.put, List.setIfInBounds_toArray, List.set_cons_zero, List.set_cons_succ]
    refine Ord.stepR (v := ?_) (by rfl) ?_ ?_
    rotate_left
    · intro w' hSw
      obtain ⟨_, ⟨⟨pc0, pc1, pc2, pc3, pc4, _⟩, _⟩, ⟨⟨ec0, ec1, ec2, ec3, ec4, _⟩, _⟩, ⟨⟨fc0, fc1, fc2, fc3, fc4, _⟩, _⟩, ⟨⟨gc0, gc1, gc2, gc3, gc4, _⟩, _⟩, ⟨⟨hc0, hc1, hc2, hc3, hc4, _⟩, _⟩⟩ := hSw
      go_simp
      try with_reducible rfl
    try simp only [Act.put, List.setIfInBounds_toArray, List.set_cons_zero, List.set_cons_succ]
    refine Ord.stepR (v := ?_) (by rfl) ?_ ?_
    rotate_left
    · intro w' hSw
      obtain ⟨_, ⟨⟨pc0, pc1, pc2, pc3, pc4, _⟩, _⟩, ⟨⟨ec0, ec1, ec2, ec3, ec4, _⟩, _⟩, ⟨⟨fc0, fc1, fc2, fc3, fc4, _⟩, _⟩, ⟨⟨gc0, gc1, gc2, gc3, gc4, _⟩, _⟩, ⟨⟨hc0, hc1, hc2, hc3, hc4, _⟩, _⟩⟩ := hSw
      go_simp
      try with_reducible rfl
    try simp only [Act.put, List.setIfInBounds_toArray, List.set_cons_zero, List.set_cons_succ]
    refine Ord.stepC (v := .bool true) (by rfl) ?_ (fun w1 hS => (HSM5.out _ _ _ hS.2.2.2.2.1.isR hS.2.2.2.2.2.isR).mono fun e w2 h => ⟨h.1, Bel.call hS.1 h.2, hS.2.1.call h.2, hS.2.2.1.call h.2, hS.2.2.2.1.call h.2, hS.2.2.2.2.1.call h.2, hS.2.2.2.2.2.call h.2⟩) ?_
    · intro w' hSw
      go_simp
      try with_reducible rfl
    try simp only [Act.put, List.setIfInBounds_toArray, List.set_cons_zero, List.set_cons_succ]
    refine Ord.stepR (v := ?_) (by rfl) ?_ ?_
    rotate_left
    · intro w' hSw
      obtain ⟨_, ⟨⟨pc0, pc1, pc2, pc3, pc4, _⟩, _⟩, ⟨⟨ec0, ec1, ec2, ec3, ec4, _⟩, _⟩, ⟨⟨fc0, fc1, fc2, fc3, fc4, _⟩, _⟩, ⟨⟨gc0, gc1, gc2, gc3, gc4, _⟩, _⟩, ⟨⟨hc0, hc1, hc2, hc3, hc4, _⟩, _⟩⟩ := hSw
      go_simp
      try with_reducible rfl
    try simp only [Act.put, List.setIfInBounds_toArray, List.set_cons_zero, List.set_cons_succ]
    refine Ord.stepR (v := ?_) (by rfl) ?_ ?_
    rotate_left
    · intro w' hSw
      obtain ⟨_, ⟨⟨pc0, pc1, pc2, pc3, pc4, _⟩, _⟩, ⟨⟨ec0, ec1, ec2, ec3, ec4, _⟩, _⟩, ⟨⟨fc0, fc1, fc2, fc3, fc4, _⟩, _⟩, ⟨⟨gc0, gc1, gc2, gc3, gc4, _⟩, _⟩, ⟨⟨hc0, hc1, hc2, hc3, hc4, _⟩, _⟩⟩ := hSw
      go_simp
      try with_reducible rfl
    try simp only [Act.put, List.setIfInBounds_toArray, List.set_cons_zero, List.set_cons_succ]
    refine Ord.stepR (v := ?_) (by rfl) ?_ ?_
    rotate_left
    · intro w' hSw
      obtain ⟨_, ⟨⟨pc0, pc1, pc2, pc3, pc4, _⟩, _⟩, ⟨⟨ec0, ec1, ec2, ec3, ec4, _⟩, _⟩, ⟨⟨fc0, fc1, fc2, fc3, fc4, _⟩, _⟩, ⟨⟨gc0, gc1, gc2, gc3, gc4, _⟩, _⟩, ⟨⟨hc0, hc1, hc2, hc3, hc4, _⟩, _⟩⟩ := hSw
      go_simp
      try with_reducible rfl
    try simp only [Act.put, List.setIfInBounds_toArray, List.set_cons_zero, List.set_cons_succ]
    refine Ord.stepR (v := ?_) (by rfl) ?_ ?_
    rotate_left
    · intro w' hSw
      obtain ⟨_, ⟨⟨pc0, pc1, pc2, pc3, pc4, _⟩, _⟩, ⟨⟨ec0, ec1, ec2, ec3, ec4, _⟩, _⟩, ⟨⟨fc0, fc1, fc2, fc3, fc4, _⟩, _⟩, ⟨⟨gc0, gc1, gc2, gc3, gc4, _⟩, _⟩, ⟨⟨hc0, hc1, hc2, hc3, hc4, _⟩, _⟩⟩ := hSw
      go_simp
      try with_reducible rfl
    try simp only [Act.put, List.setIfInBounds_toArray, List.set_cons_zero, List.set_cons_succ]
    refine Ord.stepR (v := ?_) (by rfl) ?_ ?_
    rotate_left
    · intro w' hSw
      obtain ⟨_, ⟨⟨pc0, pc1, pc2, pc3, pc4, _⟩, _⟩, ⟨⟨ec0, ec1, ec2, ec3, ec4, _⟩, _⟩, ⟨⟨fc0, fc1, fc2, fc3, fc4, _⟩, _⟩, ⟨⟨gc0, gc1, gc2, gc3, gc4, _⟩, _⟩, ⟨⟨hc0, hc1, hc2, hc3, hc4, _⟩, _⟩⟩ := hSw
      go_simp
      try with_reducible rfl
    try simp only [Act.put, List.setIfInBounds_toArray, List.set_cons_zero, List.set_cons_succ]
    refine Ord.stepR (v := ?_) (by rfl) ?_ ?_
    rotate_left
    · intro w' hSw
      obtain ⟨_, ⟨⟨pc0, pc1, pc2, pc3, pc4, _⟩, _⟩, ⟨⟨ec0, ec1, ec2, ec3, ec4, _⟩, _⟩, ⟨⟨fc0, fc1, fc2, fc3, fc4, _⟩, _⟩, ⟨⟨gc0, gc1, gc2, gc3, gc4, _⟩, _⟩, ⟨⟨hc0, hc1, hc2, hc3, hc4, _⟩, _⟩⟩ := hSw
      go_simp
      try with_reducible rfl
    try simp only [Act.put, List.setIfInBounds_toArray, List.set_cons_zero, List.set_cons_succ]
    refine Ord.stepR (v := ?_) (by rfl) ?_ ?_
    rotate_left
    · intro w' hSw
      obtain ⟨_, ⟨⟨pc0, pc1, pc2, pc3, pc4, _⟩, _⟩, ⟨⟨ec0, ec1, ec2, ec3, ec4, _⟩, _⟩, ⟨⟨fc0, fc1, fc2, fc3, fc4, _⟩, _⟩, ⟨⟨gc0, gc1, gc2, gc3, gc4, _⟩, _⟩, ⟨⟨hc0, hc1, hc2, hc3, hc4, _⟩, _⟩⟩ := hSw
      go_simp
      try with_reducible rfl
    try simp only [Act.put, List.setIfInBounds_toArray, List.set_cons_zero, List.set_cons_succ]
    refine Ord.stepR (v := ?_) (by rfl) ?_ ?_
    rotate_left
    · intro w' hSw
      obtain ⟨_, ⟨⟨pc0, pc1, pc2, pc3, pc4, _⟩, _⟩, ⟨⟨ec0, ec1, ec2, ec3, ec4, _⟩, _⟩, ⟨⟨fc0, fc1, fc2, fc3, fc4, _⟩, _⟩, ⟨⟨gc0, gc1, gc2, gc3, gc4, _⟩, _⟩, ⟨⟨hc0, hc1, hc2, hc3, hc4, _⟩, _⟩⟩ := hSw
      go_simp
      try with_reducible rfl
    try simp only [Act.put, List.setIfInBounds_toArray, List.set_cons_zero, List.set_cons_succ]
    refine Ord.stepC (v := .bool b6) (by rfl) ?_ (fun w1 hS => (HC6.out _ _ hS.2.1.isR).mono fun e w2 h => ⟨h.1, Bel.call hS.1 h.2, hS.2.1.call h.2, hS.2.2.1.call h.2, hS.2.2.2.1.call h.2, hS.2.2.2.2.1.call h.2, hS.2.2.2.2.2.call h.2⟩) ?_
    · intro w' hSw
      go_simp
      try with_reducible rfl
    try simp only [Act.put, List.setIfInBounds_toArray, List.set_cons_zero, List.set_cons_succ]
    refine Ord.stepR (v := ?_) (by rfl) ?_ ?_
    rotate_left
    · intro w' hSw
      obtain ⟨_, ⟨⟨pc0, pc1, pc2, pc3, pc4, _⟩, _⟩, ⟨⟨ec0, ec1, ec2, ec3, ec4, _⟩, _⟩, ⟨⟨fc0, fc1, fc2, fc3, fc4, _⟩, _⟩, ⟨⟨gc0, gc1, gc2, gc3, gc4, _⟩, _⟩, ⟨⟨hc0, hc1, hc2, hc3, hc4, _⟩, _⟩⟩ := hSw
      go_simp
      try with_reducible rfl
    try simp only [Act.put, List.setIfInBounds_toArray, List.set_cons_zero, List.set_cons_succ]
    refine Ord.stepC (v := .bool b6) (by rfl) ?_ (fun w1 hS => (HD6.out _ _ hS.2.1.isR).mono fun e w2 h => ⟨h.1, Bel.call hS.1 h.2, hS.2.1.call h.2, hS.2.2.1.call h.2, hS.2.2.2.1.call h.2, hS.2.2.2.2.1.call h.2, hS.2.2.2.2.2.call h.2⟩) ?_
    · intro w' hSw
      go_simp
      try with_reducible rfl
    try simp only [Act.put, List.setIfInBounds_toArray, List.set_cons_zero, List.set_cons_succ]
    refine Ord.stepR (v := ?_) (by rfl) ?_ ?_
    rotate_left
    · intro w' hSw
      obtain ⟨_, ⟨⟨pc0, pc1, pc2, pc3, pc4, _⟩, _⟩, ⟨⟨ec0, ec1, ec2, ec3, ec4, _⟩, _⟩, ⟨⟨fc0, fc1, fc2, fc3, fc4, _⟩, _⟩, ⟨⟨gc0, gc1, gc2, gc3, gc4, _⟩, _⟩, ⟨⟨hc0, hc1, hc2, hc3, hc4, _⟩, _⟩⟩ := hSw
      go_simp
      try with_reducible rfl
    try simp only [Act.put, List.setIfInBounds_toArray, List.set_cons_zero, List.set_cons_succ]
    refine Ord.stepR (v := ?_) (by rfl) ?_ ?_
    rotate_left
    · intro w' hSw
      obtain ⟨_, ⟨⟨pc0, pc1, pc2, pc3, pc4, _⟩, _⟩, ⟨⟨ec0, ec1, ec2, ec3, ec4, _⟩, _⟩, ⟨⟨fc0, fc1, fc2, fc3, fc4, _⟩, _⟩, ⟨⟨gc0, gc1, gc2, gc3, gc4, _⟩, _⟩, ⟨⟨hc0, hc1, hc2, hc3, hc4, _⟩, _⟩⟩ := hSw
      go_simp
      try with_reducible rfl
    try simp only [Act.put, List.setIfInBounds_toArray, List.set_cons_zero, List.set_cons_succ]
    refine Ord.stepR (v := ?_) (by rfl) ?_ ?_
    rotate_left
    · intro w' hSw
      obtain ⟨_, ⟨⟨pc0, pc1, pc2, pc3, pc4, _⟩, _⟩, ⟨⟨ec0, ec1, ec2, ec3, ec4, _⟩, _⟩, ⟨⟨fc0, fc1, fc2, fc3, fc4, _⟩, _⟩, ⟨⟨gc0, gc1, gc2, gc3, gc4, _⟩, _⟩, ⟨⟨hc0, hc1, hc2, hc3, hc4, _⟩, _⟩⟩ := hSw
      go_simp
      try with_reducible rfl
    try simp only [Act.put, List.setIfInBounds_toArray, List.set_cons_zero, List.set_cons_succ]
    refine Ord.stepR (v := ?_) (by rfl) ?_ ?_
    rotate_left
    · intro w' hSw
      obtain ⟨_, ⟨⟨pc0, pc1, pc2, pc3, pc4, _⟩, _⟩, ⟨⟨ec0, ec1, ec2, ec3, ec4, _⟩, _⟩, ⟨⟨fc0, fc1, fc2, fc3, fc4, _⟩, _⟩, ⟨⟨gc0, gc1, gc2, gc3, gc4, _⟩, _⟩, ⟨⟨hc0, hc1, hc2, hc3, hc4, _⟩, _⟩⟩ := hSw
      go_simp
      try with_reducible rfl
    try simp only [Act.put, List.setIfInBounds_toArray, List.set_cons_zero, List.set_cons_succ]
    refine Ord.stepR (v := ?_) (by rfl) ?_ ?_
    rotate_left
    · intro w' hSw
      obtain ⟨_, ⟨⟨pc0, pc1, pc2, pc3, pc4, _⟩, _⟩, ⟨⟨ec0, ec1, ec2, ec3, ec4, _⟩, _⟩, ⟨⟨fc0, fc1, fc2, fc3, fc4, _⟩, _⟩, ⟨⟨gc0, gc1, gc2, gc3, gc4, _⟩, _⟩, ⟨⟨hc0, hc1, hc2, hc3, hc4, _⟩, _⟩⟩ := hSw
      go_simp
      try with_reducible rfl
    try simp only [Act.put, List.setIfInBounds_toArray, List.set_cons_zero, List.set_cons_succ]
    refine Ord.stepR (v := ?_) (by rfl) ?_ ?_
    rotate_left
    · intro w' hSw
      obtain ⟨_, ⟨⟨pc0, pc1, pc2, pc3, pc4, _⟩, _⟩, ⟨⟨ec0, ec1, ec2, ec3, ec4, _⟩, _⟩, ⟨⟨fc0, fc1, fc2, fc3, fc4, _⟩, _⟩, ⟨⟨gc0, gc1, gc2, gc3, gc4, _⟩, _⟩, ⟨⟨hc0, hc1, hc2, hc3, hc4, _⟩, _⟩⟩ := hSw
      go_simp
      try with_reducible rfl
    try simp only [Act.put, List.setIfInBounds_toArray, List.set_cons_zero, List.set_cons_succ]
    refine Ord.stepC (v := .bool b7) (by rfl) ?_ (fun w1 hS => (HC7.out _ _ hS.2.1.isR).mono fun e w2 h => ⟨h.1, Bel.call hS.1 h.2, hS.2.1.call h.2, hS.2.2.1.call h.2, hS.2.2.2.1.call h.2, hS.2.2.2.2.1.call h.2, hS.2.2.2.2.2.call h.2⟩) ?_
    · intro w' hSw
      go_simp
      try with_reducible rfl
    try simp only [Act.put, List.setIfInBounds_toArray, List.set_cons_zero, List.set_cons_succ]
    refine Ord.stepR (v := ?_) (by rfl) ?_ ?_
    rotate_left
    · intro w' hSw
      obtain ⟨_, ⟨⟨pc0, pc1, pc2, pc3, pc4, _⟩, _⟩, ⟨⟨ec0, ec1, ec2, ec3, ec4, _⟩, _⟩, ⟨⟨fc0, fc1, fc2, fc3, fc4, _⟩, _⟩, ⟨⟨gc0, gc1, gc2, gc3, gc4, _⟩, _⟩, ⟨⟨hc0, hc1, hc2, hc3, hc4, _⟩, _⟩⟩ := hSw
      go_simp
      try with_reducible rfl
    try simp only [Act.put, List.setIfInBounds_toArray, List.set_cons_zero, List.set_cons_succ]
    refine Ord.stepR (v := ?_) (by rfl) ?_ ?_
    rotate_left
    · intro w' hSw
      obtain ⟨_, ⟨⟨pc0, pc1, pc2, pc3, pc4, _⟩, _⟩, ⟨⟨ec0, ec1, ec2, ec3, ec4, _⟩, _⟩, ⟨⟨fc0, fc1, fc2, fc3, fc4, _⟩, _⟩, ⟨⟨gc0, gc1, gc2, gc3, gc4, _⟩, _⟩, ⟨⟨hc0, hc1, hc2, hc3, hc4, _⟩, _⟩⟩ := hSw
      go_simp
      try with_reducible rfl
    try simp only [Act.put, List.setIfInBounds_toArray, List.set_cons_zero, List.set_cons_succ]
    refine Ord.stepR (v := ?_) (by rfl) ?_ ?_
    rotate_left
    · intro w' hSw
      obtain ⟨_, ⟨⟨pc0, pc1, pc2, pc3, pc4, _⟩, _⟩, ⟨⟨ec0, ec1, ec2, ec3, ec4, _⟩, _⟩, ⟨⟨fc0, fc1, fc2, fc3, fc4, _⟩, _⟩, ⟨⟨gc0, gc1, gc2, gc3, gc4, _⟩, _⟩, ⟨⟨hc0, hc1, hc2, hc3, hc4, _⟩, _⟩⟩ := hSw
      go_simp
      try with_reducible rfl
    try simp only [Act.put, List.setIfInBounds_toArray, List.set_cons_zero, List.set_cons_succ]
    refine Ord.stepC (v := .bool b7) (by rfl) ?_ (fun w1 hS => (HD7.out _ _ hS.2.1.isR).mono fun e w2 h => ⟨h.1, Bel.call hS.1 h.2, hS.2.1.call h.2, hS.2.2.1.call h.2, hS.2.2.2.1.call h.2, hS.2.2.2.2.1.call h.2, hS.2.2.2.2.2.call h.2⟩) ?_
    · intro w' hSw
      go_simp
      try with_reducible rfl
    try simp only [Act.put, List.setIfInBounds_toArray, List.set_cons_zero, List.set_cons_succ]
    refine Ord.stepR (v := ?_) (by rfl) ?_ ?_
    rotate_left
    · intro w' hSw
      obtain ⟨_, ⟨⟨pc0, pc1, pc2, pc3, pc4, _⟩, _⟩, ⟨⟨ec0, ec1, ec2, ec3, ec4, _⟩, _⟩, ⟨⟨fc0, fc1, fc2, fc3, fc4, _⟩, _⟩, ⟨⟨gc0, gc1, gc2, gc3, gc4, _⟩, _⟩, ⟨⟨hc0, hc1, hc2, hc3, hc4, _⟩, _⟩⟩ := hSw
      go_simp
      try with_reducible rfl
    try simp only [Act.put, List.setIfInBounds_toArray, List.set_cons_zero, List.set_cons_succ]
    refine Ord.stepR (v := ?_) (by rfl) ?_ ?_
    rotate_left
    · intro w' hSw
      obtain ⟨_, ⟨⟨pc0, pc1, pc2, pc3, pc4, _⟩, _⟩, ⟨⟨ec0, ec1, ec2, ec3, ec4, _⟩, _⟩, ⟨⟨fc0, fc1, fc2, fc3, fc4, _⟩, _⟩, ⟨⟨gc0, gc1, gc2, gc3, gc4, _⟩, _⟩, ⟨⟨hc0, hc1, hc2, hc3, hc4, _⟩, _⟩⟩ := hSw
      go_simp
      try with_reducible rfl
    try simp only [Act.put, List.setIfInBounds_toArray, List.set_cons_zero, List.set_cons_succ]
    refine Ord.stepR (v := ?_) (by rfl) ?_ ?_
    rotate_left
    · intro w' hSw
      obtain ⟨_, ⟨⟨pc0, pc1, pc2, pc3, pc4, _⟩, _⟩, ⟨⟨ec0, ec1, ec2, ec3, ec4, _⟩, _⟩, ⟨⟨fc0, fc1, fc2, fc3, fc4, _⟩, _⟩, ⟨⟨gc0, gc1, gc2, gc3, gc4, _⟩, _⟩, ⟨⟨hc0, hc1, hc2, hc3, hc4, _⟩, _⟩⟩ := hSw
      go_simp
      try with_reducible rfl
    try simp only [Act.put, List.setIfInBounds_toArray, List.set_cons_zero, List.set_cons_succ]
    refine Ord.stepD ?_
    rintro w9 hS9
    have HS9 := Lib.hid hS9
    clear hS9
    go_wp2
    go_ret
    exact ⟨rfl, HS9.out.1⟩
end Go.Proofs.Ytjikepfgfbnheaa.Rig
