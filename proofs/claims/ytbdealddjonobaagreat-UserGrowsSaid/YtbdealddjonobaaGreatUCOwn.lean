/-
  CONTRACT of the landed code's Own (package user). By an AI agent; no person has read it.
-/
import Derived.Test.YtbdealddjonobaaGreatUCTurn
import Derived.Test.YtbdealddjonobaaGreatUCApart
namespace Go.Proofs.YtbdealddjonobaaGreat.Usr
open Go Go.RowKit Wire Rig Draw Frm

set_option linter.unusedSimpArgs false
set_option linter.unusedVariables false
theorem results_cell_tmp {P : Program} {fn : Func} {p q : Tmp} {ty : TypeId} (h : fn.results = #[.cell p ty, .tmp q]) (tmps : Array Value) (w : World) (g : Nat) (t : TypeId) (cs : Array Value) (fr : Nat × Nat) (d : TypeDesc)
    (hp : tmps.getD p undef = .pointer (some ⟨g, 0, none⟩)) (hg : w.heap[g]? = some (.cells cs t fr))
    (hu : P.underlying ty = some d) (hd : (match d with | .struct _ | .array _ _ => true | _ => false) = true) (hi : (P.info? ty).map (·.size) = some cs.size) :
    (results fn tmps).run P w = .ok (.tuple #[.agg cs, tmps.getD q undef]) w := by
  have hp' : tmps[p]?.getD undef = .pointer (some ⟨g, 0, none⟩) := by simpa using hp
  simp [results, h, hp', asAddr, run_loadVar_row w g t ty cs fr d hg hu hd hi]
/-- What is held, opened: its lists' lengths are small. -/
theorem held_small {n : Nat} {u : Us} (f : Fine n u) {t : Tm} (ht : u.live t = true) : (u.of t).r.rs.length ≤ 1000 ∧ (u.of t).r.ws.length ≤ 1000 ∧ (u.of t).sg.length ≤ 1000 := by
  obtain ⟨h1, _, _, _, _, h2⟩ := f.each t (live_in ht).1
  have h3 := few_right h1
  have h4 := h1.2.2.2.1
  obtain ⟨_, _, h5, h6, _⟩ := h3
  have := h1
  refine ⟨by omega, by omega, ?_⟩
  obtain ⟨a1, a2, a3, a4, a5, a6, a7⟩ := h1
  omega
theorem own_no {u : Us} {f : Tm} (h : u.live f = false) : own u f = (ow0, 4) := by unfold own; rw [if_pos h]
theorem own_yes {u : Us} {f : Tm} (h : u.live f = true) : own u f = (u.of f, 0) := by unfold own; rw [if_neg (by rw [h]; decide)]
theorem apart_fm {w0 w : World} {l : List Part} (h : Fm w0 w l) (o f : ByteArray) (ep : Int) (A : Option Addr) (c : Nat) (rs : List ByteArray) (B : Option Addr) (d : Nat) (ws : List ByteArray) (v : Int) (R : ByteArray) (S : Option Addr) (e : Nat) (ss : List ByteArray) (gone : Bool)
    (hr : SReads w A rs) (hw : SReads w B ws) (hs : SReads w S ss) (hl1 : rs.length ≤ 1000) (hl2 : ws.length ≤ 1000) (hl3 : ss.length ≤ 1000) :
    Calls Tryz.prog 55 #[.agg #[.string o, .string f, .int .i64 ep, .slice A rs.length c, .slice B ws.length d, .int .u64 v, .string R, .slice S ss.length e, .bool gone]] w fun en w' => ∃ a b g, en = .returned (.agg #[.string o, .string f, .int .i64 ep, .slice (some ⟨a, 0, none⟩) rs.length rs.length, .slice (some ⟨b, 0, none⟩) ws.length ws.length, .int .u64 v, .string R, .slice (some ⟨g, 0, none⟩) ss.length ss.length, .bool gone]) ∧ Fm w0 w' (rowO g ss :: rowO b ws :: rowO a rs :: l) ∧ (w.heap.size ≤ a ∧ w.heap.size ≤ b ∧ w.heap.size ≤ g) ∧ (a ≠ b ∧ a ≠ g ∧ b ≠ g) :=
  (apart_c o f ep A c rs B d ws v R S e ss gone w hr hw hs hl1 hl2 hl3).mono fun en w' t => by
    obtain ⟨a, b, g, h1, h2⟩ := t
    have la := h2.lo 2 rfl a rfl
    have lb := h2.lo 1 rfl b rfl
    have lg := h2.lo 0 rfl g rfl
    have nab : a ≠ b := fun e => (h2.apart 2 1 (by decide) rfl rfl a).1 ⟨rfl, e⟩
    have nag : a ≠ g := fun e => (h2.apart 2 0 (by decide) rfl rfl a).1 ⟨rfl, e⟩
    have nbg : b ≠ g := fun e => (h2.apart 1 0 (by decide) rfl rfl b).1 ⟨rfl, e⟩
    refine ⟨a, b, g, h1, ?_, ⟨la, lb, lg⟩, nab, nag, nbg⟩
    have hg := h.go h2.bel
    have hlo : ∀ (x : Nat) (ys : List ByteArray), w.heap.size ≤ x → ∀ q ∈ l, Apart (rowO x ys) q := fun x ys hx q hq y => ⟨fun h3 => by
      have h4 := q.old (h.all q hq).1 y h3.2
      have h5 : y = x := h3.1
      omega, fun h3 => by
      have h4 := q.old (h.all q hq).1 y (q.sub y h3.2)
      have h5 : y = x := h3.1
      omega⟩
    have hne : ∀ (x y : Nat) (ys zs : List ByteArray), x ≠ y → Apart (rowO x ys) (rowO y zs) := fun x y ys zs hxy z => ⟨fun h3 => hxy (Eq.trans (Eq.symm h3.1) h3.2), fun h3 => hxy (Eq.trans (Eq.symm h3.1) h3.2)⟩
    have hM : ∀ (x : Nat) (ys : List ByteArray), w.heap.size ≤ x → ∀ z, (rowO x ys).M z → w0.heap.size ≤ z := fun x ys hx z hz => by
      rw [show z = x from hz]
      exact Nat.le_trans h.bel.size hx
    refine ((hg.add (h2.at 2 rfl) (hM a rs la) (hlo a rs la)).add (h2.at 1 rfl) (hM b ws lb) fun q hq => ?_).add (h2.at 0 rfl) (hM g ss lg) fun q hq => ?_
    · rcases List.mem_cons.1 hq with rfl | hq
      · exact hne b a ws rs (Ne.symm nab)
      · exact hlo b ws lb q hq
    · rcases List.mem_cons.1 hq with rfl | hq
      · exact hne g b ss ws (Ne.symm nbg)
      · rcases List.mem_cons.1 hq with rfl | hq
        · exact hne g a ss rs (Ne.symm nag)
        · exact hlo g ss lg q hq
theorem isX_read {ok : Nat → Prop} {w : World} {o f : ByteArray} {ep : Int} {A : Option Addr} {n c : Nat} {B : Option Addr} {m d : Nat} {r : Rt} (h : IsX ok w (RV o f ep A n c B m d) r) : ∃ rs ws : List ByteArray, n = rs.length ∧ m = ws.length ∧ SReads w A rs ∧ SReads w B ws ∧ r = ⟨o.data.toList, f.data.toList, ep, bl rs, bl ws⟩ := by
  obtain ⟨o', f', A', c', rs, B', d', ws, h1, h2, h3, h4, _⟩ := h
  unfold RV at h1
  injection h1 with h1
  simp only [Array.mk.injEq, List.cons.injEq, Value.string.injEq, Value.int.injEq, Value.slice.injEq, and_true, true_and] at h1
  obtain ⟨rfl, rfl, rfl, ⟨rfl, rfl, rfl⟩, rfl, rfl, rfl⟩ := h1
  exact ⟨rs, ws, rfl, rfl, h3, h4, h2⟩
theorem rowO_reads {w : World} {g : Nat} {ys : List ByteArray} (h : (rowO g ys).P w) : SReads w (some ⟨g, 0, none⟩) ys := (sreads_own h).1
set_option maxHeartbeats 4000000 in
set_option maxRecDepth 1000000 in
theorem own_c (n : Nat) (a : Addr) (S M : Nat → Prop) (u : Us) (F : ByteArray) (w : World) (h : DU w a S M u) (f : Fine n u) (hn : n ≤ 200) (hF : F.size ≤ 10000) : Calls Tryz.prog 25 #[.pointer (some a), .string F] w fun e w' => (∃ vs, IsO w' vs (own u F.data.toList).1 ∧ (∀ b, Bk vs b → Shy w S M b) ∧ e = .returned (.tuple #[.agg vs.toArray, .int .i64 (own u F.data.toList).2])) ∧ Below w.heap.size w w' := by
  obtain ⟨g, me, mg, db, dc, N, C, V, sb, rfl, h, hS, hM⟩ := h
  have c4 := h.c4
  have glt := h.g_lt
  have hl := fun V T => held_look (h.below ((Below.refl _ w).alloc (Nat.le_refl _) (.cells V T))) hF
  have HH := Lib.hid h
  have HS := Lib.hid (And.intro hS hM)
  have HFI := Lib.hid f
  clear h hS hM f
  cases hb : u.live F.data.toList
  case false =>
    have HR := Lib.hid (own_no hb)
    rw [hb] at hl
    simp only [Bool.false_eq_true, if_false, OV] at hl
    clear hb
    have HF := Lib.hid (fm_refl w)
    go_enter Tryz.func25, Tryz.ntmps25
    go_wp2_with fail
    have hF := (HF.out.box #[.string ⟨#[]⟩, .string ⟨#[]⟩, .int .i64 0, .slice none 0 0, .slice none 0 0, .int .u64 0, .string ⟨#[]⟩, .slice none 0 0, .bool false] 50).box #[.string ⟨#[]⟩, .string ⟨#[]⟩, .int .i64 0, .slice none 0 0, .slice none 0 0, .int .u64 0, .string ⟨#[]⟩, .slice none 0 0, .bool false] 50
    rw [show (w.alloc (.cells #[.string ⟨#[]⟩, .string ⟨#[]⟩, .int .i64 0, .slice none 0 0, .slice none 0 0, .int .u64 0, .string ⟨#[]⟩, .slice none 0 0, .bool false] 50)).heap.size = w.heap.size + 1 by simp] at hF
    generalize (w.alloc (.cells #[.string ⟨#[]⟩, .string ⟨#[]⟩, .int .i64 0, .slice none 0 0, .slice none 0 0, .int .u64 0, .string ⟨#[]⟩, .slice none 0 0, .bool false] 50)).alloc (.cells #[.string ⟨#[]⟩, .string ⟨#[]⟩, .int .i64 0, .slice none 0 0, .slice none 0 0, .int .u64 0, .string ⟨#[]⟩, .slice none 0 0, .bool false] 50) = w1 at hF ⊢
    replace HF := Lib.hid hF
    clear hF
    have hh := HF.out.at 1 rfl
    refine bodyPost_ret (results_cell_tmp (g := w.heap.size) rfl _ _ _ _ _ _ rfl hh Tryz.underlying50 rfl (by kernel_rfl)) rfl ?_
    rw [HR.out]
    refine ⟨⟨_, isO_zero _, fun b hb => ?_, rfl⟩, HF.out.bel⟩
    obtain ⟨off, k, c, hm, h0⟩ := hb
    simp only [OV, List.mem_cons, reduceCtorEq, Value.slice.injEq, List.not_mem_nil, or_false, false_or] at hm
    omega
  case true =>
    have HR := Lib.hid (own_yes hb)
    have hsm := held_small HFI.out hb
    rw [hb] at hl
    simp only [if_true] at hl
    obtain ⟨o, f, ep, A, m, c, B, p, d, R, T, e, ss, hv, hx, hR, hss, hgo, hrow, _⟩ := HH.out.rows _ hb
    rw [hv] at hl
    simp only [OV] at hl
    obtain ⟨rs, ws, rfl, rfl, hrr, hrw, hre⟩ := isX_read hx
    have hrs := (sreads_own hrow).1
    have hb1 : rs.length ≤ 1000 := by have := hsm.1; rw [hre, bl_len] at this; exact this
    have hb2 : ws.length ≤ 1000 := by have := hsm.2.1; rw [hre, bl_len] at this; exact this
    have hb3 : ss.length ≤ 1000 := by have := hsm.2.2; rw [← hss, bl_len] at this; exact this
    have HSR := Lib.hid (And.intro hrr (And.intro hrw hrs))
    have HIS : Hid (u.of F.data.toList = ⟨⟨o.data.toList, f.data.toList, ep, bl rs, bl ws⟩, (u.of F.data.toList).ver, R.data.toList, bl ss, false⟩) := by
      show _ = _
      rw [hR, hss, ← hre, ← hgo]
    clear hb hv hx hR hss hgo hrow hrr hrw hre hrs hsm
    obtain ⟨vr, hvr⟩ : ∃ vr, (u.of F.data.toList).ver = vr := ⟨_, rfl⟩
    rw [hvr] at HIS hl
    have HVR := Lib.hid hvr
    clear hvr
    have HF := Lib.hid (fm_refl w)
    go_enter Tryz.func25, Tryz.ntmps25
    go_wp2_with fail
    have hF := (HF.out.box #[.string ⟨#[]⟩, .string ⟨#[]⟩, .int .i64 0, .slice none 0 0, .slice none 0 0, .int .u64 0, .string ⟨#[]⟩, .slice none 0 0, .bool false] 50).box #[.string o, .string f, .int .i64 ep, .slice A rs.length c, .slice B ws.length d, .int .u64 (vr : Int), .string R, .slice T ss.length e, .bool false] 50
    rw [show (w.alloc (.cells #[.string ⟨#[]⟩, .string ⟨#[]⟩, .int .i64 0, .slice none 0 0, .slice none 0 0, .int .u64 0, .string ⟨#[]⟩, .slice none 0 0, .bool false] 50)).heap.size = w.heap.size + 1 by simp] at hF
    generalize (w.alloc (.cells #[.string ⟨#[]⟩, .string ⟨#[]⟩, .int .i64 0, .slice none 0 0, .slice none 0 0, .int .u64 0, .string ⟨#[]⟩, .slice none 0 0, .bool false] 50)).alloc (.cells #[.string o, .string f, .int .i64 ep, .slice A rs.length c, .slice B ws.length d, .int .u64 (vr : Int), .string R, .slice T ss.length e, .bool false] 50) = w1 at hF ⊢
    replace HF := Lib.hid hF
    clear hF
    have HA := Lib.hid (apart_fm HF.out o f ep A c rs B d ws (vr : Int) R T e ss false (HSR.out.1.below HF.out.bel (Nat.le_refl _)) (HSR.out.2.1.below HF.out.bel (Nat.le_refl _)) (HSR.out.2.2.below HF.out.bel (Nat.le_refl _)) hb1 hb2 hb3)
    have hsz := HF.out.bel.size
    clear hl
    with_reducible refine HA.out.mono ?_
    rintro en w1 ⟨a, b, gs, rfl, hF2, hlo, _⟩
    have HL := Lib.hid (And.intro hlo hsz)
    replace HF := Lib.hid hF2
    clear hF2 HA hlo hsz
    try dsimp only
    obtain ⟨c0, c1, c2, c3, c4, c5, c6, c7, c8, c9⟩ := bx9 (HF.out.at 4 rfl)
    have fq := box_sf (HF.out.at 4 rfl)
    go_wp2_with fail
    have hF := HF.out.fill9 4 rfl (.string o) (.string f) (.int .i64 ep) (.slice (some ⟨a, 0, none⟩) rs.length rs.length) (.slice (some ⟨b, 0, none⟩) ws.length ws.length) (.int .u64 (vr : Int)) (.string R) (.slice (some ⟨gs, 0, none⟩) ss.length ss.length) (.bool false)
    clear c0 c1 c2 c3 c4 c5 c6 c7 c8 c9
    clear fq
    generalize (((((((((w1.setCell ⟨w.heap.size, 0, none⟩ (.string o)).setCell ⟨w.heap.size, 1, none⟩ (.string f)).setCell ⟨w.heap.size, 2, none⟩ (.int .i64 ep)).setCell ⟨w.heap.size, 3, none⟩ (.slice (some ⟨a, 0, none⟩) rs.length rs.length)).setCell ⟨w.heap.size, 4, none⟩ (.slice (some ⟨b, 0, none⟩) ws.length ws.length)).setCell ⟨w.heap.size, 5, none⟩ (.int .u64 (vr : Int))).setCell ⟨w.heap.size, 6, none⟩ (.string R)).setCell ⟨w.heap.size, 7, none⟩ (.slice (some ⟨gs, 0, none⟩) ss.length ss.length)).setCell ⟨w.heap.size, 8, none⟩ (.bool false)) = w1 at hF ⊢
    replace HF := Lib.hid hF
    clear hF
    have hh := HF.out.at 4 rfl
    refine bodyPost_ret (results_cell_tmp (g := w.heap.size) rfl _ _ _ _ _ _ rfl hh Tryz.underlying50 rfl (by kernel_rfl)) rfl ?_
    rw [HR.out]
    refine ⟨⟨OV o f ep (some ⟨a, 0, none⟩) rs.length rs.length (some ⟨b, 0, none⟩) ws.length ws.length (vr : Int) R (some ⟨gs, 0, none⟩) ss.length ss.length false, ?_, fun x hx => ?_, rfl⟩, HF.out.bel⟩
    · show IsO _ _ (u.of F.data.toList)
      rw [HIS.out]
      exact ⟨o, f, _, _, rs, _, _, ws, R, _, _, ss, rfl, rfl, rowO_reads (HF.out.at 2 rfl), rowO_reads (HF.out.at 1 rfl), rowO_reads (HF.out.at 0 rfl), Nat.le_refl _, Nat.le_refl _, Nat.le_refl _⟩
    · obtain ⟨off, k, c, hm, h0⟩ := hx
      simp only [OV, List.mem_cons, reduceCtorEq, Value.slice.injEq, Option.some.injEq, Addr.mk.injEq, List.not_mem_nil, or_false, false_or] at hm
      have h1 := HL.out
      exact .inr (by omega)
end Go.Proofs.YtbdealddjonobaaGreat.Usr
