/-
  THE LAWS' HELPERS of layer 14: file, same, asOwned; the document's Same. By an AI agent; no person has read it.
-/
import Derived.Test.YtbdealddjonobaaGreatUSpec
import Derived.Test.YtbdealddjonobaaGreatH1
import Derived.Test.YtbdealddjonobaaGreatG3
namespace Go.Proofs.YtbdealddjonobaaGreat.Usr
open Go Go.RowKit Wire Rig Draw Frm

set_option linter.unusedSimpArgs false
set_option linter.unusedVariables false
theorem bx1 {w : World} {g : Nat} {v0 : Value} {t : TypeId} (h : (box g #[v0] t).P w) : w.cell? ⟨g, 0, none⟩ = some v0 ∧ g < w.heap.size := ⟨box_at h 0, box_lt h⟩
theorem bx3 {w : World} {g : Nat} {v0 v1 v2 : Value} {t : TypeId} (h : (box g #[v0, v1, v2] t).P w) : w.cell? ⟨g, 0, none⟩ = some v0 ∧ w.cell? ⟨g, 1, none⟩ = some v1 ∧ w.cell? ⟨g, 2, none⟩ = some v2 ∧ g < w.heap.size := ⟨box_at h 0, box_at h 1, box_at h 2, box_lt h⟩
theorem bx9 {w : World} {g : Nat} {v0 v1 v2 v3 v4 v5 v6 v7 v8 : Value} {t : TypeId} (h : (box g #[v0, v1, v2, v3, v4, v5, v6, v7, v8] t).P w) : w.cell? ⟨g, 0, none⟩ = some v0 ∧ w.cell? ⟨g, 1, none⟩ = some v1 ∧ w.cell? ⟨g, 2, none⟩ = some v2 ∧ w.cell? ⟨g, 3, none⟩ = some v3 ∧ w.cell? ⟨g, 4, none⟩ = some v4 ∧ w.cell? ⟨g, 5, none⟩ = some v5 ∧ w.cell? ⟨g, 6, none⟩ = some v6 ∧ w.cell? ⟨g, 7, none⟩ = some v7 ∧ w.cell? ⟨g, 8, none⟩ = some v8 ∧ g < w.heap.size :=
  ⟨box_at h 0, box_at h 1, box_at h 2, box_at h 3, box_at h 4, box_at h 5, box_at h 6, box_at h 7, box_at h 8, box_lt h⟩
/-- One of ten file's names, one of which is none. -/
def fileK : List ByteArray := [⟨#[110, 111, 116, 101, 115]⟩, ⟨#[97]⟩, ⟨#[98]⟩, ⟨#[99]⟩, ⟨#[100]⟩, ⟨#[101]⟩, ⟨#[102]⟩, ⟨#[103]⟩, ⟨#[104]⟩, ⟨#[88]⟩]
def fileN (c : Int) : ByteArray := fileK.getD (Rig.pk c 10) ByteArray.empty
theorem fileN_size (c : Int) : (fileN c).size ≤ 5 := by
  have h := Rig.pk_lt c (n := 10) (by decide)
  unfold fileN
  generalize Rig.pk c 10 = m at h
  have : ∀ a : Fin 10, (fileK.getD a.1 ByteArray.empty).size ≤ 5 := by decide +kernel
  exact this ⟨m, h⟩
set_option maxHeartbeats 4000000 in
set_option maxRecDepth 1000000 in
theorem file_any (k : Int) (hk : -9223372036854775808 ≤ k ∧ k ≤ 9223372036854775807) (w : World) : Calls Tryz.prog 24 #[.int .i64 k] w fun e w' => e = .returned (.string (fileN k)) ∧ Below w.heap.size w w' := by
  have HP : Hid (∀ w, Calls Tryz.prog 15 #[.int .i64 k, .int .i64 10] w fun e w' => e = .returned (.int .i64 ((Rig.pk k 10 : Nat) : Int)) ∧ w' = w) := Lib.hid fun w => pick7_any k 10 w hk (by decide) (by decide)
  have hlt := Rig.pk_lt k (n := 10) (by decide)
  obtain ⟨s, hs⟩ : ∃ s, fileN k = s := ⟨_, rfl⟩
  rw [hs]
  unfold fileN at hs
  generalize Rig.pk k 10 = m at HP hlt hs
  have hm0 : (0 : Int) ≤ (m : Int) := Int.natCast_nonneg m
  have hm5 : (m : Int) < 10 := by omega
  obtain ⟨W, hW⟩ : ∃ W, (w.alloc (.cells #[.string ⟨#[110, 111, 116, 101, 115]⟩, .string ⟨#[97]⟩, .string ⟨#[98]⟩, .string ⟨#[99]⟩, .string ⟨#[100]⟩, .string ⟨#[101]⟩, .string ⟨#[102]⟩, .string ⟨#[103]⟩, .string ⟨#[104]⟩, .string ⟨#[88]⟩] 9)) = W := ⟨_, rfl⟩
  have hbW : Below w.heap.size w W := by rw [← hW]; exact (Below.refl _ w).alloc (Nat.le_refl _) _
  have hcell : W.cell? ⟨w.heap.size, m, none⟩ = some (.string (fileK.getD m ByteArray.empty)) := by
    rw [← hW]
    have h5 : m = 0 ∨ m = 1 ∨ m = 2 ∨ m = 3 ∨ m = 4 ∨ m = 5 ∨ m = 6 ∨ m = 7 ∨ m = 8 ∨ m = 9 := by omega
    rcases h5 with rfl | rfl | rfl | rfl | rfl | rfl | rfl | rfl | rfl | rfl <;> simp [go_sem, fileK]
  rw [hs] at hcell
  go_enter Tryz.func24, Tryz.ntmps24
  go_wp2_with fail
  clear hW
  with_reducible refine (HP.out _).mono ?_
  rintro e v1 ⟨rfl, rfl⟩
  dsimp only
  go_wp2
  go_ret
  exact ⟨rfl, hbW⟩
set_option maxHeartbeats 2000000 in
set_option maxRecDepth 1000000 in
theorem same_any (a b : Option Addr) (c d : Nat) (xs ys : List ByteArray) (w : World) (hr : SReads w a xs) (hq : SReads w b ys) (hn : xs.length ≤ 9223372036854775807) :
    Calls Tryz.prog 21 #[.slice a xs.length c, .slice b ys.length d] w fun e w' => e = .returned (.bool (decide (bl xs = bl ys))) ∧ Below w.heap.size w w' := by
  have HR := Lib.hid hr
  have HQ := Lib.hid hq
  clear hr hq
  by_cases hl : xs.length = ys.length
  · obtain ⟨n, hxn⟩ : ∃ n, xs.length = n := ⟨_, rfl⟩
    have hyn : ys.length = n := by omega
    rw [hxn] at hn ⊢
    rw [hyn]
    have HX := Lib.hid hxn
    have HY := Lib.hid hyn
    clear hl hxn hyn
    go_enter Tryz.func21, Tryz.ntmps21
    go_wp2
    go_loopw [5] (fun i wr => ∃ k d : Nat, k ≤ n ∧ i = .int .i64 k ∧ wr = w.drewN d ∧ Hid (bl (xs.take k) = bl (ys.take k))) (fun i _ => n - (intOf i).toNat)
    case atStart => exact ⟨0, 0, Nat.zero_le _, rfl, rfl, rfl⟩
    case round =>
      obtain ⟨k, d, hk, rfl, rfl, HA⟩ := hrel
      by_cases hlt : k < n
      · have hlx : k < xs.length := by rw [HX.out]; exact hlt
        have hly : k < ys.length := by rw [HY.out]; exact hlt
        obtain ⟨b1, o1, rfl, hb1, hc1⟩ := HR.out k hlx
        obtain ⟨b2, o2, rfl, hb2, hc2⟩ := HQ.out k hly
        obtain ⟨x, hx⟩ : ∃ x, xs.getD k ByteArray.empty = x := ⟨_, rfl⟩
        obtain ⟨y, hy⟩ : ∃ y, ys.getD k ByteArray.empty = y := ⟨_, rfl⟩
        rw [hx] at hc1
        rw [hy] at hc2
        have GX := Lib.hid hx
        have GY := Lib.hid hy
        have hk0 : (0 : Int) ≤ (k : Int) := by omega
        have hk1 : (k : Int) < (n : Int) := by omega
        clear hx hy
        by_cases he : x.data.toList = y.data.toList
        · have hb := eq_bool he
          have HE := Lib.hid he
          clear he
          go_wp2
          go_quiet (fail)
          go_wp2
          go_roundw
          case rel => exact ⟨k + 1, _, by omega, by go_num, rfl, bl_take_step hlx hly GX.out GY.out HA.out HE.out⟩
          case measure => simp [intOf]; omega
        · have hb := ne_bool he
          have HE := Lib.hid he
          clear he
          go_wp2
          go_quiet (fail)
          go_wp2
          go_ret
          refine ⟨ret_bool ?_, (bdrew w d).trans (bdrew _ _)⟩
          exact (decide_eq_false (bl_differ hlx hly GX.out GY.out HE.out)).symm
      · obtain rfl : k = n := by omega
        go_wp2
        go_ret
        refine ⟨ret_bool ?_, bdrew _ _⟩
        have h := HA.out
        rw [List.take_of_length_le (by rw [HX.out]; exact Nat.le_refl _), List.take_of_length_le (by rw [HY.out]; exact Nat.le_refl _)] at h
        exact (decide_eq_true h).symm
  · have hne : ((xs.length : Int) != (ys.length : Int)) = true := by simp; omega
    have hd : decide (bl xs = bl ys) = false := decide_eq_false fun h => hl (by rw [← bl_len, ← bl_len, h])
    have HD := Lib.hid hd
    clear hd
    go_enter Tryz.func21, Tryz.ntmps21
    go_wp2
    go_ret
    exact ⟨ret_bool HD.out.symm, Below.refl _ _⟩
set_option maxHeartbeats 4000000 in
set_option maxRecDepth 1000000 in
theorem asowned_any (o f : ByteArray) (ep : Int) (A : Option Addr) (m c : Nat) (B : Option Addr) (p d : Nat) (ver : Int) (R : ByteArray) (S : Option Addr) (q e : Nat) (g : Bool) (w : World) : Calls Tryz.prog 28 #[.agg #[.string o, .string f, .int .i64 ep, .slice A m c, .slice B p d, .int .u64 ver, .string R, .slice S q e, .bool g]] w fun z w' => z = .returned (.agg #[.string o, .string f, .int .i64 ep, .slice A m c, .slice B p d, .int .u64 ver, .string R, .slice S q e, .bool g]) ∧ Below w.heap.size w w' := by
  have HF := Lib.hid (fm_refl w)
  go_enter Tryz.func28, Tryz.ntmps28
  go_wp2_with fail
  have HZ : Hid ((w.alloc (.cells #[.string o, .string f, .int .i64 ep, .slice A m c, .slice B p d, .int .u64 ver, .string R, .slice S q e, .bool g] 50)).heap.size = w.heap.size + 1) := Lib.hid (by simp)
  have hF := HF.out.box #[.string o, .string f, .int .i64 ep, .slice A m c, .slice B p d, .int .u64 ver, .string R, .slice S q e, .bool g] 50
  generalize w.alloc (.cells #[.string o, .string f, .int .i64 ep, .slice A m c, .slice B p d, .int .u64 ver, .string R, .slice S q e, .bool g] 50) = w1 at hF HZ ⊢
  replace HF := Lib.hid hF
  clear hF
  obtain ⟨c0, c1, c2, c3, c4, c5, c6, c7, c8, c9⟩ := bx9 (HF.out.at 0 rfl)
  go_wp2_with fail
  have hh := heap_alloc_new w1 (.cells #[.string o, .string f, .int .i64 ep, .slice A m c, .slice B p d, .int .u64 ver, .string R, .slice S q e, .bool g] 53)
  rw [HZ.out] at hh
  refine bodyPost_ret (results_cell_row (g := w.heap.size + 1) rfl _ _ _ _ _ _ rfl hh Tryz.underlying53 rfl (by kernel_rfl)) rfl ?_
  exact ⟨rfl, (HF.out.box #[.string o, .string f, .int .i64 ep, .slice A m c, .slice B p d, .int .u64 ver, .string R, .slice S q e, .bool g] 53).bel⟩
theorem isO_two {w : World} {vs us : List Value} {x : Ow} (h : IsO w vs x) (h' : IsO w us x) : ∃ (o f : ByteArray) (A : Option Addr) (c : Nat) (rs : List ByteArray) (B : Option Addr) (d : Nat) (ws : List ByteArray) (R : ByteArray) (S : Option Addr) (e : Nat) (ss : List ByteArray) (A' : Option Addr) (c' : Nat) (B' : Option Addr) (d' : Nat) (S' : Option Addr) (e' : Nat),
    vs = OV o f x.r.ep A rs.length c B ws.length d (x.ver : Int) R S ss.length e x.gone ∧ us = OV o f x.r.ep A' rs.length c' B' ws.length d' (x.ver : Int) R S' ss.length e' x.gone ∧ SReads w A rs ∧ SReads w B ws ∧ SReads w S ss ∧ SReads w A' rs ∧ SReads w B' ws ∧ SReads w S' ss ∧ rs.length = x.r.rs.length ∧ ws.length = x.r.ws.length ∧ ss.length = x.sg.length := by
  obtain ⟨o, f, A, c, rs, B, d, ws, R, S, e, ss, h1, h2, h3, h4, h5, _⟩ := h
  obtain ⟨o', f', A', c', rs', B', d', ws', R', S', e', ss', h1', h2', h3', h4', h5', _⟩ := h'
  have q := h2.symm.trans h2'
  simp only [Ow.mk.injEq, Rt.mk.injEq] at q
  obtain ⟨⟨q1, q2, _, q4, q5⟩, _, q6, q7, _⟩ := q
  obtain rfl := str_eq q1
  obtain rfl := str_eq q2
  obtain rfl := bl_inj q4
  obtain rfl := bl_inj q5
  obtain rfl := str_eq q6
  obtain rfl := bl_inj q7
  have p1 := congrArg (fun z : Ow => z.r.rs) h2
  have p2 := congrArg (fun z : Ow => z.r.ws) h2
  have p3 := congrArg Ow.sg h2
  simp only at p1 p2 p3
  exact ⟨o, f, A, c, rs, B, d, ws, R, S, e, ss, A', c', B', d', S', e', h1, h1', h3, h4, h5, h3', h4', h5', by rw [p1, bl_len], by rw [p2, bl_len], by rw [p3, bl_len]⟩
set_option maxHeartbeats 4000000 in
set_option maxRecDepth 1000000 in
theorem same14_any (vs us : List Value) (x : Ow) (w : World) (h : IsO w vs x) (h' : IsO w us x) (hn : x.r.rs.length ≤ 1000000 ∧ x.r.ws.length ≤ 1000000) (hs : x.sg.length ≤ 1000000) : Calls Tryz.prog 27 #[.agg vs.toArray, .agg us.toArray] w fun z w' => z = .returned (.bool true) ∧ Below w.heap.size w w' := by
  obtain ⟨o, f, A, c, rs, B, d, ws, R, S, e, ss, A', c', B', d', S', e', rfl, rfl, h1, h2, h3, h4, h5, h6, l1, l2, l3⟩ := isO_two h h'
  rw [← l1, ← l2] at hn
  rw [← l3] at hs
  generalize x.r.ep = ep
  generalize ((x.ver : Nat) : Int) = ver
  generalize x.gone = g
  clear l1 l2 l3 h h'
  have HSM : Hid (∀ w1, Below w.heap.size w w1 → Calls Tryz.prog 36 #[.agg #[.string o, .string f, .int .i64 ep, .slice A rs.length c, .slice B ws.length d], .agg #[.string o, .string f, .int .i64 ep, .slice A' rs.length c', .slice B' ws.length d']] w1 fun e w' => e = .returned (.bool true) ∧ Below w1.heap.size w1 w') := Lib.hid fun w1 hb => rsame_any o f ep A c rs B d ws A' c' B' d' w1 (h1.below hb (Nat.le_refl _)) (h2.below hb (Nat.le_refl _)) (h4.below hb (Nat.le_refl _)) (h5.below hb (Nat.le_refl _)) (by omega) (by omega)
  have HS1 := Lib.hid h3
  have HS2 := Lib.hid h6
  clear h1 h2 h3 h4 h5 h6
  obtain ⟨m, hm⟩ : ∃ m, rs.length = m := ⟨_, rfl⟩
  obtain ⟨p, hp⟩ : ∃ p, ws.length = p := ⟨_, rfl⟩
  rw [hm, hp] at HSM ⊢
  rw [hm, hp] at hn
  obtain ⟨q, hq⟩ : ∃ q, ss.length = q := ⟨_, rfl⟩
  have HQ := Lib.hid hq
  rw [hq] at hs ⊢
  clear hm hp hq
  unfold OV
  have HF := Lib.hid (fm_refl w)
  go_enter Tryz.func27, Tryz.ntmps27
  go_wp2_with fail
  have hF := (HF.out.box #[.string o, .string f, .int .i64 ep, .slice A m c, .slice B p d, .int .u64 ver, .string R, .slice S q e, .bool g] 53).box #[.string o, .string f, .int .i64 ep, .slice A' m c', .slice B' p d', .int .u64 ver, .string R, .slice S' q e', .bool g] 53
  rw [show (w.alloc (.cells #[.string o, .string f, .int .i64 ep, .slice A m c, .slice B p d, .int .u64 ver, .string R, .slice S q e, .bool g] 53)).heap.size = w.heap.size + 1 by simp] at hF
  generalize (w.alloc (.cells #[.string o, .string f, .int .i64 ep, .slice A m c, .slice B p d, .int .u64 ver, .string R, .slice S q e, .bool g] 53)).alloc (.cells #[.string o, .string f, .int .i64 ep, .slice A' m c', .slice B' p d', .int .u64 ver, .string R, .slice S' q e', .bool g] 53) = w1 at hF ⊢
  replace HF := Lib.hid hF
  clear hF
  obtain ⟨c0, c1, c2, c3, c4, c5, c6, c7, c8, c9⟩ := bx9 (HF.out.at 1 rfl)
  obtain ⟨d0, d1, d2, d3, d4, d5, d6, d7, d8, d9⟩ := bx9 (HF.out.at 0 rfl)
  go_wp2_with fail
  clear c0 c1 c2 c3 c4 c5 c6 c7 c8 c9
  clear d0 d1 d2 d3 d4 d5 d6 d7 d8 d9
  with_reducible refine (HSM.out _ HF.out.bel).mono ?_
  rintro e w1 ⟨rfl, hb⟩
  replace HF := Lib.hid (HF.out.go hb)
  clear hb
  try dsimp only
  obtain ⟨c0, c1, c2, c3, c4, c5, c6, c7, c8, c9⟩ := bx9 (HF.out.at 1 rfl)
  obtain ⟨d0, d1, d2, d3, d4, d5, d6, d7, d8, d9⟩ := bx9 (HF.out.at 0 rfl)
  go_wp2_with fail
  clear c0 c1 c2 c3 c4 c5 c6 c7 c8 c9
  clear d0 d1 d2 d3 d4 d5 d6 d7 d8 d9
  go_loopw [5] (fun i wr => ∃ k : Nat, k ≤ q ∧ i = .int .i64 (k : Int) ∧ Hid (Below w1.heap.size w1 wr)) (fun i _ => q - (intOf i).toNat)
  case atStart => exact ⟨0, Nat.zero_le _, rfl, Lib.hid (Below.refl _ _)⟩
  case round =>
    obtain ⟨k, hk, rfl, HW⟩ := hrel
    have HFR := Lib.hid (HF.out.go HW.out)
    obtain ⟨c0, c1, c2, c3, c4, c5, c6, c7, c8, c9⟩ := bx9 (HFR.out.at 1 rfl)
    obtain ⟨d0, d1, d2, d3, d4, d5, d6, d7, d8, d9⟩ := bx9 (HFR.out.at 0 rfl)
    by_cases hlt : (k : Int) < (q : Int)
    · obtain ⟨b1, o1, rfl, hb1, e1⟩ := (HS1.out.below HFR.out.bel (Nat.le_refl _)) k (by rw [HQ.out]; omega)
      obtain ⟨b2, o2, rfl, hb2, e2⟩ := (HS2.out.below HFR.out.bel (Nat.le_refl _)) k (by rw [HQ.out]; omega)
      obtain ⟨y, hy⟩ : ∃ y, ss.getD k ByteArray.empty = y := ⟨_, rfl⟩
      rw [hy] at e1 e2
      have hk0 : (0 : Int) ≤ (k : Int) := by omega
      clear hy hb1 hb2
      go_wp2
      go_quiet (fail)
      go_wp2
      go_roundw
      case rel => exact ⟨k + 1, by omega, by go_num, Lib.hid (Below.drewN' HW.out _)⟩
      case measure => simp [intOf]; omega
    · go_wp2
      go_ret
      exact ⟨rfl, HFR.out.bel⟩
end Go.Proofs.YtbdealddjonobaaGreat.Usr
