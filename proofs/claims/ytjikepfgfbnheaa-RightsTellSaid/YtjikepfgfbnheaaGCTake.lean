/-
  THE CODE's TakeAll (package wire), its list fresh; read, Take (package rights). By an AI agent; no person has read it.
-/
import Derived.Test.YtjikepfgfbnheaaGCRight
import Derived.Test.YtjikepfgfbnheaaGSpec
import Derived.Test.YtjikepfgfbnheaaW1
namespace Go.Proofs.Ytjikepfgfbnheaa.Rig
open Go.RowKit Wire

set_option linter.unusedSimpArgs false
set_option linter.unusedVariables false
set_option maxHeartbeats 4000000 in
set_option maxRecDepth 1000000 in
theorem takeAllF_any (s : ByteArray) (a m : Int) (w : World) (hs : s.size ≤ 1000000000000) (ha : -9223372036854775808 ≤ a ∧ a ≤ 9223372036854775807) (hm : -9223372036854775808 ≤ m ∧ m ≤ 9223372036854775807) :
    Calls Try.prog 59 #[.string s, .int .i64 a, .int .i64 m] w fun e w' => TaF w.heap.size (all s.data.toList a m) e w' ∧ Below w.heap.size w w' := by
  obtain ⟨n, r, f, hu⟩ : ∃ n r f, upTo s.data.toList a = (n, r, f) := ⟨_, _, _, rfl⟩
  have HU := Lib.hid hu
  rcases all_upTo (b := m) hu with ⟨h0, h1⟩ | ⟨rfl, h1, h2, h3, h4⟩
  · have H1 := Lib.hid h1
    have hne : (f != 0) = true := by simpa using h0
    clear h1 hu h0
    go_enter Try.func59, Try.ntmps59
    go_wp2_with (go_at_call 65; refine (upTo_any _ _ _ (by omega) ha).mono ?_; rw [HU.out]; rintro e w' ⟨⟨R, hR, rfl⟩, k, rfl⟩; clear hR; dsimp only)
    go_ret2
    rw [H1.out]
    exact ⟨taF_nil _ _ _, bdrew _ _⟩
  · clear hu
    have hn63 : n ≤ 9223372036854775807 := by omega
    rw [← Lib.size_eq] at h4
    have H1 := Lib.hid h1
    have H2 := Lib.hid h2
    obtain ⟨i0, hi0, hz0, hz1, hz2⟩ := info_parts str_info
    clear h1 h2 h3
    go_enter Try.func59, Try.ntmps59
    go_wp2_with (go_at_call 65; refine (upTo_any _ _ _ (by omega) ha).mono ?_; rw [HU.out]; rintro e w' ⟨⟨R0, hR0, rfl⟩, k0, rfl⟩; have HR0 := Lib.hid hR0; clear hR0; dsimp only)
    have hstart : Took w s.size n r m 0 R0 (.slice none 0 0) (w.drewN k0) :=
      ⟨[], World.ownsRow_nil _ _ _ _, rfl, by rw [HR0.out]; rfl, by rw [Lib.size_eq, HR0.out]; omega, bdrew _ _⟩
    have HST := Lib.hid hstart
    clear hstart
    go_loopw [9, 11, 26] (fun q v i wr => ∃ (k : Nat) (R : ByteArray), k ≤ n ∧ q = .string R ∧ i = .int .u64 k ∧ Hid (Took w s.size n r m k R v wr)) (fun _ _ i _ => n - (intOf i).toNat)
    case atStart => exact ⟨0, R0, Nat.zero_le _, rfl, rfl, HST⟩
    case round =>
      obtain ⟨k, R, hk, rfl, rfl, HT⟩ := hrel
      clear HST
      obtain ⟨ys, ho, hyl, hte, hsz, hbel⟩ := HT.out
      have hRs : R.size ≤ 140737488355328 := by omega
      have HO := Lib.hid ho
      have HYL := Lib.hid hyl
      have HTE := Lib.hid hte
      have HBL := Lib.hid hbel
      by_cases hlt : k < n
      · obtain ⟨t, q, f, htx⟩ : ∃ t q f, text R.data.toList m = (t, q, f) := ⟨_, _, _, rfl⟩
        have HTX := Lib.hid htx
        obtain ⟨j, hj⟩ : ∃ j, n - k = j + 1 := ⟨n - k - 1, by omega⟩
        rw [hj] at hte
        by_cases hf : f = 0
        · subst hf
          have hlen := text_len htx rfl
          rw [texts_yes htx] at hte
          rw [← Lib.size_eq] at hlen
          have HTE2 := Lib.hid hte
          have HJ := Lib.hid hj
          have hks : k + 1 ≤ s.size := by omega
          have hq : q.length + (k + 1) ≤ s.size := by omega
          clear ho hyl hte hbel htx hj hlen hsz
          go_wp2_with (first
            | (go_at_call 66; refine (text_any _ _ _ hRs hm).mono ?_; rw [HTX.out]; rintro e w' ⟨⟨T, Q, hT, hQ, rfl⟩, kd, rfl⟩; have HTT := Lib.hid hT; have HQ := Lib.hid hQ; clear hT hQ; dsimp only)
            | (at_builtin
               refine wpList_append_own _ rfl _ _ _ rfl w.heap.size 9 i0 _ 1 16 Try.underlying22 hi0 hz0 hz1 hz2 rfl (by decide) _ k (sv ys) rfl ?c1 _ 1 1 [.string T] rfl rfl ?c2 ?c3 ?c4 ?c5 ?c6 ?_
               case c1 => exact (own_below HO.out (bdrew _ kd) (Nat.le_refl _)).alloc _
               case c2 => exact lit_cells _ _ _
               case c3 => exact sv_one [T]
               case c4 => simp only [maxLen]; omega
               case c5 => omega
               case c6 =>
                 have h := HBL.out.size
                 simp only [World.alloc, Array.size_push]
                 exact Nat.le_succ_of_le h
               intro v6 w6 hown hgrow _
               have HO6 := Lib.hid hown
               have HG6 := Lib.hid hgrow
               clear hown hgrow))
          go_roundw
          case rel =>
            refine ⟨k + 1, Q, by omega, rfl, by go_num, ys ++ [T], by simpa [sv] using HO6.out, by simp [HYL.out], ?_, ?_, ?_⟩
            · have e : n - (k + 1) = j := by have := HJ.out; omega
              have e2 : bl (ys ++ [T]) = bl ys ++ [t] := by simp [bl, HTT.out]
              rw [e, HQ.out, e2]
              exact HTE2.out
            · rw [Lib.size_eq, HQ.out]; exact hq
            · have h1 := HBL.out.trans (bdrew (B := w.heap.size) _ kd)
              refine (h1.alloc h1.size (.cells #[.string T] 9)).grown HG6.out (by
                have := h1.size
                simp only [World.alloc, Array.size_push]
                omega) fun g hg => ?_
              exact (HO.out.lt g hg).1
          case measure => simp [intOf]; omega
        · have hal : all s.data.toList a m = ([], f) := by
            rw [texts_no htx hf] at hte
            exact all_err H1.out H2.out hte.symm hf
          have HAL := Lib.hid hal
          have hne : (f != 0) = true := by simpa using hf
          clear ho hyl hte hbel htx hj hsz hf hal
          go_wp2_with (go_at_call 66; refine (text_any _ _ _ hRs hm).mono ?_; rw [HTX.out]; rintro e w' ⟨⟨T, Q, hT, hQ, rfl⟩, kd, rfl⟩; clear hT hQ; dsimp only)
          go_ret2
          rw [HAL.out]
          exact ⟨taF_nil _ _ _, HBL.out.trans (bdrew _ kd)⟩
      · obtain rfl : k = n := by omega
        rw [Nat.sub_self, texts_zero] at hte
        obtain ⟨A, c, rfl⟩ := own_value ho
        by_cases hR : R.data.toList = []
        · have hal : all s.data.toList a m = (bl ys, 0) := by
            rw [hR] at hte
            exact all_ok H1.out H2.out hte.symm
          have HAL := Lib.hid hal
          have hem : R.toList.isEmpty = true := by rw [Lib.toList_data, hR]; rfl
          obtain ⟨h6, _, h7⟩ := sreads_own ho
          have H6 := Lib.hid h6
          have h8 : TaF w.heap.size (bl ys, 0) (.returned (.tuple #[.slice A k c, .int .i64 0])) wr := by
            subst hyl
            exact ⟨A, c, ys, rfl, ⟨h7, own_none ho⟩, h6, own_fresh ho, rfl⟩
          have H8 := Lib.hid h8
          clear ho hyl hte hbel hsz hR hal h6 h8
          go_wp2
          go_ret2
          rw [HAL.out]
          exact ⟨H8.out, HBL.out⟩
        · have hal : all s.data.toList a m = ([], 2) := all_left H1.out H2.out hte.symm hR
          have HAL := Lib.hid hal
          have hem : R.toList.isEmpty = false := by
            rw [Lib.toList_data]
            cases h : R.data.toList with
            | nil => exact absurd h hR
            | cons x t => rfl
          clear ho hyl hte hbel hsz hR hal
          go_wp2
          go_ret2
          rw [HAL.out]
          exact ⟨taF_nil _ _ _, HBL.out⟩
theorem takeB_any (s : ByteArray) (w : World) (hs : s.size ≤ 1000000) : Calls Try.prog 60 #[.string s] w fun e w' => Tk (tk s.data.toList) e ∧ Below w.heap.size w w' :=
  (take_any s w (by omega)).mono fun _ _ h => ⟨h.1, by obtain ⟨k, hk⟩ := h.2; rw [hk]; exact bdrew _ k⟩
/-- What is read of bytes, right or not. -/
def rdR (s : Tm) : Rt × Bool :=
  if (all s 5 (s.length : Int)).2 ≠ 0 ∨ (all s 5 (s.length : Int)).1.length ≠ 5 then (zero, false)
  else if (tk ((all s 5 (s.length : Int)).1.getD 2 [])).2.2 ≠ 0 ∨ (tk ((all s 5 (s.length : Int)).1.getD 2 [])).2.1 ≠ [] ∨ 7 < (tk ((all s 5 (s.length : Int)).1.getD 2 [])).1 then (zero, false)
  else if (all ((all s 5 (s.length : Int)).1.getD 3 []) 5 (s.length : Int)).2 ≠ 0 ∨ (all ((all s 5 (s.length : Int)).1.getD 4 []) 5 (s.length : Int)).2 ≠ 0 then (zero, false)
  else (⟨(all s 5 (s.length : Int)).1.getD 0 [], (all s 5 (s.length : Int)).1.getD 1 [], ((tk ((all s 5 (s.length : Int)).1.getD 2 [])).1 : Int), (all ((all s 5 (s.length : Int)).1.getD 3 []) 5 (s.length : Int)).1, (all ((all s 5 (s.length : Int)).1.getD 4 []) 5 (s.length : Int)).1⟩, true)
theorem all_putB {l : List Tm} {m : Nat} (h5 : l.length ≤ 5) (hm : m < 18446744073709551616) (h : ∀ t ∈ l, t.length ≤ m) : all (putAll l) 5 (m : Int) = (l, 0) := by
  have h2 := Wire.all_put (ls := l) (a := 5) (m := (m : Int)) (q := []) (by omega) (by omega) fun t ht => ⟨by have := h t ht; omega, by have := h t ht; omega⟩
  rw [List.append_nil, if_pos rfl] at h2
  exact h2
theorem putAll_mem {l : List Tm} {t : Tm} (h : t ∈ l) : t.length ≤ (putAll l).length := by
  have := mem_flat h
  unfold putAll; rw [List.length_append]; omega
theorem flat_le' {l : List Tm} (h : ∀ t ∈ l, t.length ≤ 4000) : (l.flatMap putText).length ≤ l.length * 4009 := by
  induction l with
  | nil => simp
  | cons x l ih =>
    rw [List.flatMap_cons, List.length_append, List.length_cons, putText_len]
    have h1 := h x (by simp)
    have h2 := ih fun y hy => h y (by simp [hy])
    have h3 := (put_le (n := x.length) (by omega)).2
    omega
theorem rdR_row {r : Rt} (h : RR r) : rdR (rowR r) = (r, true) := by
  obtain ⟨l5, l4⟩ := row_list h
  have hl : (rowR r).length < 18446744073709551616 := by
    have h1 := flat_le' l4
    have h2 := (put_le (n := 5) (by omega)).2
    have e : rowR r = put 5 ++ [r.o, r.f, put r.ep.toNat, putAll r.rs, putAll r.ws].flatMap putText := rfl
    rw [e, List.length_append]
    simp only [List.length_cons, List.length_nil] at h1
    omega
  have hm : ∀ t ∈ [r.o, r.f, put r.ep.toNat, putAll r.rs, putAll r.ws], t.length ≤ (rowR r).length := fun t ht => putAll_mem ht
  have hall : all (rowR r) 5 ((rowR r).length : Int) = ([r.o, r.f, put r.ep.toNat, putAll r.rs, putAll r.ws], 0) := all_putB l5 hl hm
  have g1 := hm (putAll r.rs) (by simp)
  have g2 := hm (putAll r.ws) (by simp)
  obtain ⟨L, hL⟩ : ∃ L, (rowR r).length = L := ⟨_, rfl⟩
  rw [hL] at hall hl g1 g2
  obtain ⟨a1, a2, a3, a4, a5, a6, a7⟩ := h
  have h1 : all (putAll r.rs) 5 (L : Int) = (r.rs, 0) := all_putB (by omega) hl fun t ht => Nat.le_trans (putAll_mem ht) g1
  have h2 : all (putAll r.ws) 5 (L : Int) = (r.ws, 0) := all_putB (by omega) hl fun t ht => Nat.le_trans (putAll_mem ht) g2
  have h3 : tk (put r.ep.toNat) = (r.ep.toNat, [], 0) := tk_put (by omega)
  have h4 : ((r.ep.toNat : Nat) : Int) = r.ep := by omega
  unfold rdR
  rw [hL, hall]
  simp only [List.getD_cons_zero, List.getD_cons_succ, List.length_cons, List.length_nil]
  rw [h1, h2, h3]
  simp only [h4]
  rw [if_neg (by simp), if_neg (by simp; omega), if_neg (by simp)]
theorem rdR_back {s : Tm} {r : Rt} (h : rdR s = (r, true)) : s = rowR r := by
  unfold rdR at h
  obtain ⟨L, hL⟩ : ∃ L : Int, (s.length : Int) = L := ⟨_, rfl⟩
  rw [hL] at h
  obtain ⟨l, fl, hl⟩ : ∃ l fl, all s 5 L = (l, fl) := ⟨_, _, rfl⟩
  rw [hl] at h
  simp only at h
  by_cases h1 : fl ≠ 0 ∨ l.length ≠ 5
  · rw [if_pos h1] at h; cases h
  rw [if_neg h1] at h
  have e1 : fl = 0 := Decidable.byContradiction fun h => h1 (.inl h)
  have e2 : l.length = 5 := Decidable.byContradiction fun h => h1 (.inr h)
  subst e1
  obtain ⟨n, q, f, hn⟩ : ∃ n q f, tk (l.getD 2 []) = (n, q, f) := ⟨_, _, _, rfl⟩
  obtain ⟨a, fa, ha⟩ : ∃ a fa, all (l.getD 3 []) 5 L = (a, fa) := ⟨_, _, rfl⟩
  obtain ⟨b, fb, hb⟩ : ∃ b fb, all (l.getD 4 []) 5 L = (b, fb) := ⟨_, _, rfl⟩
  rw [hn, ha, hb] at h
  simp only at h
  by_cases h2 : f ≠ 0 ∨ q ≠ [] ∨ 7 < n
  · rw [if_pos h2] at h; cases h
  rw [if_neg h2] at h
  by_cases h3 : fa ≠ 0 ∨ fb ≠ 0
  · rw [if_pos h3] at h; cases h
  rw [if_neg h3] at h
  obtain ⟨hr, _⟩ := Prod.mk.inj h
  have hf : f = 0 := Decidable.byContradiction fun h => h2 (.inl h)
  have hq : q = [] := Decidable.byContradiction fun h => h2 (.inr (.inl h))
  have hfa : fa = 0 := Decidable.byContradiction fun h => h3 (.inl h)
  have hfb : fb = 0 := Decidable.byContradiction fun h => h3 (.inr h)
  subst hf; subst hq; subst hfa; subst hfb
  have hs : s = putAll l := ((all_back hl).1 rfl).1
  have e3 : l.getD 2 [] = put n := by
    cases ht : take (l.getD 2 []) with
    | none => rw [tk_none ht] at hn; simp only [Prod.mk.injEq] at hn; exact absurd hn.2.2 (by decide)
    | some p =>
      obtain ⟨m, r⟩ := p
      rw [tk_some ht] at hn
      simp only [Prod.mk.injEq] at hn
      obtain ⟨rfl, rfl, _⟩ := hn
      have := (take_some ht).1
      rw [List.append_nil] at this
      exact this
  have e4 : l.getD 3 [] = putAll a := ((all_back ha).1 rfl).1
  have e5 : l.getD 4 [] = putAll b := ((all_back hb).1 rfl).1
  rw [← hr]
  unfold rowR
  rw [hs]
  conv => lhs; rw [five e2]
  rw [e3, e4, e5]
  have h0 : ((n : Int)).toNat = n := by omega
  simp only [h0]
theorem rd_take (s : Tm) : takeR s = if (rdR s).2 = true ∧ RR (rdR s).1 then ((rdR s).1, 0) else (zero, 2) := by
  split
  · rename_i h
    obtain ⟨h1, h2⟩ := h
    have e : rdR s = ((rdR s).1, true) := by rw [← h1]
    have h3 := rdR_back e
    rw [← takeR_row h2, ← h3]
  · rename_i h
    rcases takeR_cases s with h1 | ⟨r, h1, h2, h3⟩
    · exact h1
    · refine absurd ?_ h
      rw [h3, rdR_row h2]
      exact ⟨rfl, h2⟩
/-- read's answer as an ending. -/
def Rd (ok : Nat → Prop) (x : Rt × Bool) (e : Ending) (w' : World) : Prop := ∃ v, IsX ok w' v x.1 ∧ e = .returned (.tuple #[v, .bool x.2])
set_option maxHeartbeats 16000000 in
set_option maxRecDepth 1000000 in
theorem read_code (s : ByteArray) (w : World) (hs : s.size ≤ 5000) :
    Calls Try.prog 44 #[.string s] w fun e w' => Rd (fun b => w.heap.size ≤ b) (rdR s.data.toList) e w' ∧ Below w.heap.size w w' := by
  have hsz : (s.data.toList.length : Int) = (s.size : Int) := by rw [← Lib.size_eq]
  obtain ⟨x, fx, hx⟩ : ∃ x fx, all s.data.toList 5 (s.size : Int) = (x, fx) := ⟨_, _, rfl⟩
  have HX := Lib.hid hx
  have HA0 := Lib.hid fun w => takeAllF_any s 5 (s.size : Int) w (by omega) (by decide) ⟨by omega, by omega⟩
  by_cases hfx : fx = 0
  case neg =>
    rw [show rdR s.data.toList = (zero, false) by unfold rdR; rw [hsz, hx, if_pos (.inl hfx)]]
    have q : (fx != 0) = true := by simpa using hfx
    clear hx hfx hsz
    go_enter Try.func44, Try.ntmps44
    go_wp2_with fail
    with_reducible refine (HA0.out _).mono ?_
    rw [HX.out]
    rintro e w1 ⟨⟨A0, k0, y0, hy0, hk0, hs0, _, rfl⟩, hb1⟩
    have HB1 := Lib.hid (after_alloc (Below.refl _ w) hb1)
    have HR1 := Lib.hid (bx_first hb1)
    have HF1 := Lib.hid (sf_first hb1)
    clear hb1
    dsimp only at hy0 ⊢
    obtain ⟨r0, r1, r2, r3, r4, _⟩ := HR1.out
    obtain ⟨f0, f1, f2, f3, f4⟩ := HF1.out
    go_wp2
    refine bodyPost_ret (v := .tuple #[RV ⟨#[]⟩ ⟨#[]⟩ 0 none 0 0 none 0 0, .bool false]) (by simp [results, Try.results44, go_sem, RV, r0, r1, r2, r3, r4]) rfl ?_
    exact ⟨⟨_, isX_zero _ _, rfl⟩, set5 HB1.out (Nat.le_refl _)⟩
  subst hfx
  by_cases h5 : x.length = 5
  case neg =>
    rw [show rdR s.data.toList = (zero, false) by unfold rdR; rw [hsz, hx, if_pos (.inr h5)]]
    clear hsz
    go_enter Try.func44, Try.ntmps44
    go_wp2_with fail
    with_reducible refine (HA0.out _).mono ?_
    rw [HX.out]
    rintro e w1 ⟨⟨A0, k0, y0, hy0, hk0, hs0, _, rfl⟩, hb1⟩
    have HB1 := Lib.hid (after_alloc (Below.refl _ w) hb1)
    have HR1 := Lib.hid (bx_first hb1)
    have HF1 := Lib.hid (sf_first hb1)
    clear hb1
    dsimp only at hy0 ⊢
    have hl : ¬ (y0.length : Int) = 5 := by
      have := bl_len y0
      rw [hy0] at this
      omega
    have q : ((y0.length : Int) != 5) = true := by simpa using hl
    obtain ⟨r0, r1, r2, r3, r4, _⟩ := HR1.out
    obtain ⟨f0, f1, f2, f3, f4⟩ := HF1.out
    go_wp2
    refine bodyPost_ret (v := .tuple #[RV ⟨#[]⟩ ⟨#[]⟩ 0 none 0 0 none 0 0, .bool false]) (by simp [results, Try.results44, go_sem, RV, r0, r1, r2, r3, r4]) rfl ?_
    exact ⟨⟨_, isX_zero _ _, rfl⟩, set5 HB1.out (Nat.le_refl _)⟩
  obtain ⟨zl, zs⟩ := all_few hx
  obtain ⟨a, b, c, d, e, rfl⟩ : ∃ a b c d e, x = [a, b, c, d, e] := ⟨_, _, _, _, _, five h5⟩
  have ZS : Hid (∀ t ∈ [a, b, c, d, e], t.length ≤ 1000000) := fun t ht => by
    have := zs t ht
    rw [← Lib.size_eq] at this
    omega
  obtain ⟨n, r, fc, htc⟩ : ∃ n r fc, tk c = (n, r, fc) := ⟨_, _, _, rfl⟩
  obtain ⟨xd, fd, htd⟩ : ∃ xd fd, all d 5 (s.size : Int) = (xd, fd) := ⟨_, _, rfl⟩
  obtain ⟨xe, fe, hte⟩ : ∃ xe fe, all e 5 (s.size : Int) = (xe, fe) := ⟨_, _, rfl⟩
  have HTC := Lib.hid htc
  have HTD := Lib.hid htd
  have HTE := Lib.hid hte
  have hrd : rdR s.data.toList = if fc ≠ 0 ∨ r ≠ [] ∨ 7 < n then (zero, false) else if fd ≠ 0 ∨ fe ≠ 0 then (zero, false) else (⟨a, b, (n : Int), xd, xe⟩, true) := by
    unfold rdR
    rw [hsz, hx, if_neg (by simp)]
    show (if (tk c).2.2 ≠ 0 ∨ (tk c).2.1 ≠ [] ∨ 7 < (tk c).1 then ((zero, false) : Rt × Bool) else if (all d 5 (s.size : Int)).2 ≠ 0 ∨ (all e 5 (s.size : Int)).2 ≠ 0 then (zero, false) else ((⟨a, b, ((tk c).1 : Int), (all d 5 (s.size : Int)).1, (all e 5 (s.size : Int)).1⟩ : Rt), true)) = _
    rw [htc, htd, hte]
  clear hx htc htd hte zl zs h5 hsz
  by_cases h1 : fc = 0
  case neg =>
    rw [hrd, if_pos (.inl h1)]
    have q1 : (fc != 0) = true := by simpa using h1
    clear hrd
    go_enter Try.func44, Try.ntmps44
    go_wp2_with fail
    with_reducible refine (HA0.out _).mono ?_
    rw [HX.out]
    rintro e w1 ⟨⟨A0, k0, y0, hy0, hk0, hs0, _, rfl⟩, hb1⟩
    have HB1 := Lib.hid (after_alloc (Below.refl _ w) hb1)
    have HR1 := Lib.hid (bx_first hb1)
    have HF1 := Lib.hid (sf_first hb1)
    clear hb1
    dsimp only at hy0 ⊢
    obtain ⟨FA, FB, FC, FD, FE, rfl, hfa, hfb, hfc, hfd, hfe⟩ := bl_five hy0
    obtain ⟨g, off, rfl, hg1, l0, l1, l2, l3, l4⟩ := five_reads hs0
    clear hs0 hy0 hk0
    have zc : FC.size ≤ 1000000 := by rw [Lib.size_eq, hfc]; exact ZS.out c (by simp)
    have zd : FD.size ≤ 1000000 := by rw [Lib.size_eq, hfd]; exact ZS.out d (by simp)
    have ze : FE.size ≤ 1000000 := by rw [Lib.size_eq, hfe]; exact ZS.out e (by simp)
    have HFA := Lib.hid hfa
    have HFB := Lib.hid hfb
    have HFC := Lib.hid hfc
    have HFD := Lib.hid hfd
    have HFE := Lib.hid hfe
    clear hfa hfb hfc hfd hfe
    have HC := Lib.hid fun w => takeB_any FC w (by omega)
    have HD := Lib.hid fun w => takeAllF_any FD 5 (s.size : Int) w (by omega) (by decide) ⟨by omega, by omega⟩
    have HE := Lib.hid fun w => takeAllF_any FE 5 (s.size : Int) w (by omega) (by decide) ⟨by omega, by omega⟩
    rw [HFC.out, HTC.out] at HC
    rw [HFD.out, HTD.out] at HD
    rw [HFE.out, HTE.out] at HE
    go_wp2_with fail
    with_reducible refine (HC.out _).mono ?_
    rintro e2 w2 ⟨⟨R, hR, rfl⟩, hb2⟩
    have HB2 := Lib.hid (Bel.call HB1.out hb2)
    have HR2 := Lib.hid (HR1.out.below hb2 HR1.out.2.2.2.2.2)
    have HF2 := Lib.hid (HF1.out.below hb2 HR1.out.2.2.2.2.2)
    have hg2 : g < w2.heap.size := Nat.lt_of_lt_of_le hg1 hb2.size
    replace l0 := (hb2.cell (p := ⟨g, off, none⟩) hg1).trans l0
    replace l1 := (hb2.cell (p := ⟨g, off + 1, none⟩) hg1).trans l1
    replace l2 := (hb2.cell (p := ⟨g, off + 2, none⟩) hg1).trans l2
    replace l3 := (hb2.cell (p := ⟨g, off + 3, none⟩) hg1).trans l3
    replace l4 := (hb2.cell (p := ⟨g, off + 4, none⟩) hg1).trans l4
    have HRR := Lib.hid hR
    clear hR hb2
    dsimp only at HRR ⊢
    obtain ⟨r0, r1, r2, r3, r4, _⟩ := HR2.out
    obtain ⟨f0, f1, f2, f3, f4⟩ := HF2.out
    go_wp2
    refine bodyPost_ret (v := .tuple #[RV ⟨#[]⟩ ⟨#[]⟩ 0 none 0 0 none 0 0, .bool false]) (by simp [results, Try.results44, go_sem, RV, r0, r1, r2, r3, r4]) rfl ?_
    exact ⟨⟨_, isX_zero _ _, rfl⟩, set5 HB2.out (Nat.le_refl _)⟩
  subst h1
  by_cases h2 : r = []
  case neg =>
    rw [hrd, if_pos (.inr (.inl h2))]
    have H2 := Lib.hid h2
    clear hrd h2
    go_enter Try.func44, Try.ntmps44
    go_wp2_with fail
    with_reducible refine (HA0.out _).mono ?_
    rw [HX.out]
    rintro e w1 ⟨⟨A0, k0, y0, hy0, hk0, hs0, _, rfl⟩, hb1⟩
    have HB1 := Lib.hid (after_alloc (Below.refl _ w) hb1)
    have HR1 := Lib.hid (bx_first hb1)
    have HF1 := Lib.hid (sf_first hb1)
    clear hb1
    dsimp only at hy0 ⊢
    obtain ⟨FA, FB, FC, FD, FE, rfl, hfa, hfb, hfc, hfd, hfe⟩ := bl_five hy0
    obtain ⟨g, off, rfl, hg1, l0, l1, l2, l3, l4⟩ := five_reads hs0
    clear hs0 hy0 hk0
    have zc : FC.size ≤ 1000000 := by rw [Lib.size_eq, hfc]; exact ZS.out c (by simp)
    have zd : FD.size ≤ 1000000 := by rw [Lib.size_eq, hfd]; exact ZS.out d (by simp)
    have ze : FE.size ≤ 1000000 := by rw [Lib.size_eq, hfe]; exact ZS.out e (by simp)
    have HFA := Lib.hid hfa
    have HFB := Lib.hid hfb
    have HFC := Lib.hid hfc
    have HFD := Lib.hid hfd
    have HFE := Lib.hid hfe
    clear hfa hfb hfc hfd hfe
    have HC := Lib.hid fun w => takeB_any FC w (by omega)
    have HD := Lib.hid fun w => takeAllF_any FD 5 (s.size : Int) w (by omega) (by decide) ⟨by omega, by omega⟩
    have HE := Lib.hid fun w => takeAllF_any FE 5 (s.size : Int) w (by omega) (by decide) ⟨by omega, by omega⟩
    rw [HFC.out, HTC.out] at HC
    rw [HFD.out, HTD.out] at HD
    rw [HFE.out, HTE.out] at HE
    go_wp2_with fail
    with_reducible refine (HC.out _).mono ?_
    rintro e2 w2 ⟨⟨R, hR, rfl⟩, hb2⟩
    have HB2 := Lib.hid (Bel.call HB1.out hb2)
    have HR2 := Lib.hid (HR1.out.below hb2 HR1.out.2.2.2.2.2)
    have HF2 := Lib.hid (HF1.out.below hb2 HR1.out.2.2.2.2.2)
    have hg2 : g < w2.heap.size := Nat.lt_of_lt_of_le hg1 hb2.size
    replace l0 := (hb2.cell (p := ⟨g, off, none⟩) hg1).trans l0
    replace l1 := (hb2.cell (p := ⟨g, off + 1, none⟩) hg1).trans l1
    replace l2 := (hb2.cell (p := ⟨g, off + 2, none⟩) hg1).trans l2
    replace l3 := (hb2.cell (p := ⟨g, off + 3, none⟩) hg1).trans l3
    replace l4 := (hb2.cell (p := ⟨g, off + 4, none⟩) hg1).trans l4
    have HRR := Lib.hid hR
    clear hR hb2
    dsimp only at HRR ⊢
    have q2 : R.toList.isEmpty = false := nonempty_str (by rw [HRR.out]; exact H2.out)
    have q3 : (R.toList == []) = false := by cases h : R.toList with
      | nil => rw [h] at q2; cases q2
      | cons x t => rfl
    obtain ⟨r0, r1, r2, r3, r4, _⟩ := HR2.out
    obtain ⟨f0, f1, f2, f3, f4⟩ := HF2.out
    go_wp2
    refine bodyPost_ret (v := .tuple #[RV ⟨#[]⟩ ⟨#[]⟩ 0 none 0 0 none 0 0, .bool false]) (by simp [results, Try.results44, go_sem, RV, r0, r1, r2, r3, r4]) rfl ?_
    exact ⟨⟨_, isX_zero _ _, rfl⟩, set5 HB2.out (Nat.le_refl _)⟩
  subst h2
  by_cases h3 : 7 < n
  case pos =>
    rw [hrd, if_pos (.inr (.inr h3))]
    have h3' : (7 : Int) < (n : Int) := by omega
    clear hrd
    go_enter Try.func44, Try.ntmps44
    go_wp2_with fail
    with_reducible refine (HA0.out _).mono ?_
    rw [HX.out]
    rintro e w1 ⟨⟨A0, k0, y0, hy0, hk0, hs0, _, rfl⟩, hb1⟩
    have HB1 := Lib.hid (after_alloc (Below.refl _ w) hb1)
    have HR1 := Lib.hid (bx_first hb1)
    have HF1 := Lib.hid (sf_first hb1)
    clear hb1
    dsimp only at hy0 ⊢
    obtain ⟨FA, FB, FC, FD, FE, rfl, hfa, hfb, hfc, hfd, hfe⟩ := bl_five hy0
    obtain ⟨g, off, rfl, hg1, l0, l1, l2, l3, l4⟩ := five_reads hs0
    clear hs0 hy0 hk0
    have zc : FC.size ≤ 1000000 := by rw [Lib.size_eq, hfc]; exact ZS.out c (by simp)
    have zd : FD.size ≤ 1000000 := by rw [Lib.size_eq, hfd]; exact ZS.out d (by simp)
    have ze : FE.size ≤ 1000000 := by rw [Lib.size_eq, hfe]; exact ZS.out e (by simp)
    have HFA := Lib.hid hfa
    have HFB := Lib.hid hfb
    have HFC := Lib.hid hfc
    have HFD := Lib.hid hfd
    have HFE := Lib.hid hfe
    clear hfa hfb hfc hfd hfe
    have HC := Lib.hid fun w => takeB_any FC w (by omega)
    have HD := Lib.hid fun w => takeAllF_any FD 5 (s.size : Int) w (by omega) (by decide) ⟨by omega, by omega⟩
    have HE := Lib.hid fun w => takeAllF_any FE 5 (s.size : Int) w (by omega) (by decide) ⟨by omega, by omega⟩
    rw [HFC.out, HTC.out] at HC
    rw [HFD.out, HTD.out] at HD
    rw [HFE.out, HTE.out] at HE
    go_wp2_with fail
    with_reducible refine (HC.out _).mono ?_
    rintro e2 w2 ⟨⟨R, hR, rfl⟩, hb2⟩
    have HB2 := Lib.hid (Bel.call HB1.out hb2)
    have HR2 := Lib.hid (HR1.out.below hb2 HR1.out.2.2.2.2.2)
    have HF2 := Lib.hid (HF1.out.below hb2 HR1.out.2.2.2.2.2)
    have hg2 : g < w2.heap.size := Nat.lt_of_lt_of_le hg1 hb2.size
    replace l0 := (hb2.cell (p := ⟨g, off, none⟩) hg1).trans l0
    replace l1 := (hb2.cell (p := ⟨g, off + 1, none⟩) hg1).trans l1
    replace l2 := (hb2.cell (p := ⟨g, off + 2, none⟩) hg1).trans l2
    replace l3 := (hb2.cell (p := ⟨g, off + 3, none⟩) hg1).trans l3
    replace l4 := (hb2.cell (p := ⟨g, off + 4, none⟩) hg1).trans l4
    have HRR := Lib.hid hR
    clear hR hb2
    dsimp only at HRR ⊢
    have q2 : R.toList.isEmpty = true := empty_str HRR.out
    obtain ⟨r0, r1, r2, r3, r4, _⟩ := HR2.out
    obtain ⟨f0, f1, f2, f3, f4⟩ := HF2.out
    go_wp2
    refine bodyPost_ret (v := .tuple #[RV ⟨#[]⟩ ⟨#[]⟩ 0 none 0 0 none 0 0, .bool false]) (by simp [results, Try.results44, go_sem, RV, r0, r1, r2, r3, r4]) rfl ?_
    exact ⟨⟨_, isX_zero _ _, rfl⟩, set5 HB2.out (Nat.le_refl _)⟩
  rw [if_neg (by simp; omega)] at hrd
  have h3' : ¬ (7 : Int) < (n : Int) := by omega
  by_cases h4 : fd = 0
  case neg =>
    rw [hrd, if_pos (.inl h4)]
    have q4 : (fd != 0) = true := by simpa using h4
    clear hrd
    go_enter Try.func44, Try.ntmps44
    go_wp2_with fail
    with_reducible refine (HA0.out _).mono ?_
    rw [HX.out]
    rintro e w1 ⟨⟨A0, k0, y0, hy0, hk0, hs0, _, rfl⟩, hb1⟩
    have HB1 := Lib.hid (after_alloc (Below.refl _ w) hb1)
    have HR1 := Lib.hid (bx_first hb1)
    have HF1 := Lib.hid (sf_first hb1)
    clear hb1
    dsimp only at hy0 ⊢
    obtain ⟨FA, FB, FC, FD, FE, rfl, hfa, hfb, hfc, hfd, hfe⟩ := bl_five hy0
    obtain ⟨g, off, rfl, hg1, l0, l1, l2, l3, l4⟩ := five_reads hs0
    clear hs0 hy0 hk0
    have zc : FC.size ≤ 1000000 := by rw [Lib.size_eq, hfc]; exact ZS.out c (by simp)
    have zd : FD.size ≤ 1000000 := by rw [Lib.size_eq, hfd]; exact ZS.out d (by simp)
    have ze : FE.size ≤ 1000000 := by rw [Lib.size_eq, hfe]; exact ZS.out e (by simp)
    have HFA := Lib.hid hfa
    have HFB := Lib.hid hfb
    have HFC := Lib.hid hfc
    have HFD := Lib.hid hfd
    have HFE := Lib.hid hfe
    clear hfa hfb hfc hfd hfe
    have HC := Lib.hid fun w => takeB_any FC w (by omega)
    have HD := Lib.hid fun w => takeAllF_any FD 5 (s.size : Int) w (by omega) (by decide) ⟨by omega, by omega⟩
    have HE := Lib.hid fun w => takeAllF_any FE 5 (s.size : Int) w (by omega) (by decide) ⟨by omega, by omega⟩
    rw [HFC.out, HTC.out] at HC
    rw [HFD.out, HTD.out] at HD
    rw [HFE.out, HTE.out] at HE
    go_wp2_with fail
    with_reducible refine (HC.out _).mono ?_
    rintro e2 w2 ⟨⟨R, hR, rfl⟩, hb2⟩
    have HB2 := Lib.hid (Bel.call HB1.out hb2)
    have HR2 := Lib.hid (HR1.out.below hb2 HR1.out.2.2.2.2.2)
    have HF2 := Lib.hid (HF1.out.below hb2 HR1.out.2.2.2.2.2)
    have hg2 : g < w2.heap.size := Nat.lt_of_lt_of_le hg1 hb2.size
    replace l0 := (hb2.cell (p := ⟨g, off, none⟩) hg1).trans l0
    replace l1 := (hb2.cell (p := ⟨g, off + 1, none⟩) hg1).trans l1
    replace l2 := (hb2.cell (p := ⟨g, off + 2, none⟩) hg1).trans l2
    replace l3 := (hb2.cell (p := ⟨g, off + 3, none⟩) hg1).trans l3
    replace l4 := (hb2.cell (p := ⟨g, off + 4, none⟩) hg1).trans l4
    have HRR := Lib.hid hR
    clear hR hb2
    dsimp only at HRR ⊢
    have q2 : R.toList.isEmpty = true := empty_str HRR.out
    go_wp2_with fail
    with_reducible refine (HD.out _).mono ?_
    rintro e3 w3 ⟨⟨A1, c1, y1, hy1, hc1, hs1, hn1, rfl⟩, hb3⟩
    have HB3 := Lib.hid (Bel.call HB2.out hb3)
    have HR3 := Lib.hid (HR2.out.below hb3 HR2.out.2.2.2.2.2)
    have HF3 := Lib.hid (HF2.out.below hb3 HR2.out.2.2.2.2.2)
    have hg3 : g < w3.heap.size := Nat.lt_of_lt_of_le hg2 hb3.size
    replace l0 := (hb3.cell (p := ⟨g, off, none⟩) hg2).trans l0
    replace l1 := (hb3.cell (p := ⟨g, off + 1, none⟩) hg2).trans l1
    replace l2 := (hb3.cell (p := ⟨g, off + 2, none⟩) hg2).trans l2
    replace l3 := (hb3.cell (p := ⟨g, off + 3, none⟩) hg2).trans l3
    replace l4 := (hb3.cell (p := ⟨g, off + 4, none⟩) hg2).trans l4
    have HS1 := Lib.hid hs1
    have HY1 := Lib.hid hy1
    have HN1 : Hid (∀ b off, A1 = some ⟨b, off, none⟩ → 0 < y1.length → w.heap.size ≤ b ∧ b ≠ w.heap.size) := fun b off h _ => by
      have h1 := hn1 b off h
      have h2 := HR2.out.2.2.2.2.2
      exact ⟨by omega, by omega⟩
    clear hs1 hy1 hn1 hb3
    dsimp only
    obtain ⟨r0, r1, r2, r3, r4, _⟩ := HR3.out
    obtain ⟨f0, f1, f2, f3, f4⟩ := HF3.out
    go_wp2
    refine bodyPost_ret (v := .tuple #[RV ⟨#[]⟩ ⟨#[]⟩ 0 none 0 0 none 0 0, .bool false]) (by simp [results, Try.results44, go_sem, RV, r0, r1, r2, r3, r4]) rfl ?_
    exact ⟨⟨_, isX_zero _ _, rfl⟩, set5 HB3.out (Nat.le_refl _)⟩
  subst h4
  by_cases h6 : fe = 0
  case neg =>
    rw [hrd, if_pos (.inr h6)]
    have q4 : (fe != 0) = true := by simpa using h6
    clear hrd
    go_enter Try.func44, Try.ntmps44
    go_wp2_with fail
    with_reducible refine (HA0.out _).mono ?_
    rw [HX.out]
    rintro e w1 ⟨⟨A0, k0, y0, hy0, hk0, hs0, _, rfl⟩, hb1⟩
    have HB1 := Lib.hid (after_alloc (Below.refl _ w) hb1)
    have HR1 := Lib.hid (bx_first hb1)
    have HF1 := Lib.hid (sf_first hb1)
    clear hb1
    dsimp only at hy0 ⊢
    obtain ⟨FA, FB, FC, FD, FE, rfl, hfa, hfb, hfc, hfd, hfe⟩ := bl_five hy0
    obtain ⟨g, off, rfl, hg1, l0, l1, l2, l3, l4⟩ := five_reads hs0
    clear hs0 hy0 hk0
    have zc : FC.size ≤ 1000000 := by rw [Lib.size_eq, hfc]; exact ZS.out c (by simp)
    have zd : FD.size ≤ 1000000 := by rw [Lib.size_eq, hfd]; exact ZS.out d (by simp)
    have ze : FE.size ≤ 1000000 := by rw [Lib.size_eq, hfe]; exact ZS.out e (by simp)
    have HFA := Lib.hid hfa
    have HFB := Lib.hid hfb
    have HFC := Lib.hid hfc
    have HFD := Lib.hid hfd
    have HFE := Lib.hid hfe
    clear hfa hfb hfc hfd hfe
    have HC := Lib.hid fun w => takeB_any FC w (by omega)
    have HD := Lib.hid fun w => takeAllF_any FD 5 (s.size : Int) w (by omega) (by decide) ⟨by omega, by omega⟩
    have HE := Lib.hid fun w => takeAllF_any FE 5 (s.size : Int) w (by omega) (by decide) ⟨by omega, by omega⟩
    rw [HFC.out, HTC.out] at HC
    rw [HFD.out, HTD.out] at HD
    rw [HFE.out, HTE.out] at HE
    go_wp2_with fail
    with_reducible refine (HC.out _).mono ?_
    rintro e2 w2 ⟨⟨R, hR, rfl⟩, hb2⟩
    have HB2 := Lib.hid (Bel.call HB1.out hb2)
    have HR2 := Lib.hid (HR1.out.below hb2 HR1.out.2.2.2.2.2)
    have HF2 := Lib.hid (HF1.out.below hb2 HR1.out.2.2.2.2.2)
    have hg2 : g < w2.heap.size := Nat.lt_of_lt_of_le hg1 hb2.size
    replace l0 := (hb2.cell (p := ⟨g, off, none⟩) hg1).trans l0
    replace l1 := (hb2.cell (p := ⟨g, off + 1, none⟩) hg1).trans l1
    replace l2 := (hb2.cell (p := ⟨g, off + 2, none⟩) hg1).trans l2
    replace l3 := (hb2.cell (p := ⟨g, off + 3, none⟩) hg1).trans l3
    replace l4 := (hb2.cell (p := ⟨g, off + 4, none⟩) hg1).trans l4
    have HRR := Lib.hid hR
    clear hR hb2
    dsimp only at HRR ⊢
    have q2 : R.toList.isEmpty = true := empty_str HRR.out
    go_wp2_with fail
    with_reducible refine (HD.out _).mono ?_
    rintro e3 w3 ⟨⟨A1, c1, y1, hy1, hc1, hs1, hn1, rfl⟩, hb3⟩
    have HB3 := Lib.hid (Bel.call HB2.out hb3)
    have HR3 := Lib.hid (HR2.out.below hb3 HR2.out.2.2.2.2.2)
    have HF3 := Lib.hid (HF2.out.below hb3 HR2.out.2.2.2.2.2)
    have hg3 : g < w3.heap.size := Nat.lt_of_lt_of_le hg2 hb3.size
    replace l0 := (hb3.cell (p := ⟨g, off, none⟩) hg2).trans l0
    replace l1 := (hb3.cell (p := ⟨g, off + 1, none⟩) hg2).trans l1
    replace l2 := (hb3.cell (p := ⟨g, off + 2, none⟩) hg2).trans l2
    replace l3 := (hb3.cell (p := ⟨g, off + 3, none⟩) hg2).trans l3
    replace l4 := (hb3.cell (p := ⟨g, off + 4, none⟩) hg2).trans l4
    have HS1 := Lib.hid hs1
    have HY1 := Lib.hid hy1
    have HN1 : Hid (∀ b off, A1 = some ⟨b, off, none⟩ → 0 < y1.length → w.heap.size ≤ b ∧ b ≠ w.heap.size) := fun b off h _ => by
      have h1 := hn1 b off h
      have h2 := HR2.out.2.2.2.2.2
      exact ⟨by omega, by omega⟩
    clear hs1 hy1 hn1 hb3
    dsimp only
    go_wp2_with fail
    with_reducible refine (HE.out _).mono ?_
    rintro e4 w4 ⟨⟨A2, c2, y2, hy2, hc2, hs2, hn2, rfl⟩, hb4⟩
    have HB4 := Lib.hid (Bel.call HB3.out hb4)
    have HR4 := Lib.hid (HR3.out.below hb4 HR3.out.2.2.2.2.2)
    have HF4 := Lib.hid (HF3.out.below hb4 HR3.out.2.2.2.2.2)
    have hg4 : g < w4.heap.size := Nat.lt_of_lt_of_le hg3 hb4.size
    replace l0 := (hb4.cell (p := ⟨g, off, none⟩) hg3).trans l0
    replace l1 := (hb4.cell (p := ⟨g, off + 1, none⟩) hg3).trans l1
    replace l2 := (hb4.cell (p := ⟨g, off + 2, none⟩) hg3).trans l2
    replace l3 := (hb4.cell (p := ⟨g, off + 3, none⟩) hg3).trans l3
    replace l4 := (hb4.cell (p := ⟨g, off + 4, none⟩) hg3).trans l4
    have HS2 := Lib.hid hs2
    have HY2 := Lib.hid hy2
    have HN2 : Hid (∀ b off, A2 = some ⟨b, off, none⟩ → 0 < y2.length → w.heap.size ≤ b ∧ b ≠ w.heap.size) := fun b off h _ => by
      have h1 := hn2 b off h
      have h2 := HR3.out.2.2.2.2.2
      exact ⟨by omega, by omega⟩
    replace HS1 := Lib.hid (HS1.out.below hb4 (Nat.le_refl _))
    clear hs2 hy2 hn2 hb4
    dsimp only
    obtain ⟨r0, r1, r2, r3, r4, _⟩ := HR4.out
    obtain ⟨f0, f1, f2, f3, f4⟩ := HF4.out
    go_wp2
    refine bodyPost_ret (v := .tuple #[RV ⟨#[]⟩ ⟨#[]⟩ 0 none 0 0 none 0 0, .bool false]) (by simp [results, Try.results44, go_sem, RV, r0, r1, r2, r3, r4]) rfl ?_
    exact ⟨⟨_, isX_zero _ _, rfl⟩, set5 HB4.out (Nat.le_refl _)⟩
  subst h6
  rw [if_neg (by simp)] at hrd
  rw [hrd]
  have hcn : IntKind.i64.wrap (n : Int) = (n : Int) := by rw [IntKind.wrap_i64]; omega
  clear hrd
  go_enter Try.func44, Try.ntmps44
  go_wp2_with fail
  with_reducible refine (HA0.out _).mono ?_
  rw [HX.out]
  rintro e w1 ⟨⟨A0, k0, y0, hy0, hk0, hs0, hn0, rfl⟩, hb1⟩
  have HB1 := Lib.hid (after_alloc (Below.refl _ w) hb1)
  have HR1 := Lib.hid (bx_first hb1)
  have HF1 := Lib.hid (sf_first hb1)
  clear hb1
  dsimp only at hy0 ⊢
  obtain ⟨FA, FB, FC, FD, FE, rfl, hfa, hfb, hfc, hfd, hfe⟩ := bl_five hy0
  obtain ⟨g, off, rfl, hg1, l0, l1, l2, l3, l4⟩ := five_reads hs0
  have hne : g ≠ w.heap.size := fun e => by
    have h1 := hn0 g off rfl
    rw [e] at h1
    simp at h1
    exact absurd h1 (by omega)
  have HNE := Lib.hid hne
  clear hs0 hy0 hk0 hn0 hne
  have zc : FC.size ≤ 1000000 := by rw [Lib.size_eq, hfc]; exact ZS.out c (by simp)
  have zd : FD.size ≤ 1000000 := by rw [Lib.size_eq, hfd]; exact ZS.out d (by simp)
  have ze : FE.size ≤ 1000000 := by rw [Lib.size_eq, hfe]; exact ZS.out e (by simp)
  have HFA := Lib.hid hfa
  have HFB := Lib.hid hfb
  have HFC := Lib.hid hfc
  have HFD := Lib.hid hfd
  have HFE := Lib.hid hfe
  clear hfa hfb hfc hfd hfe
  have HC := Lib.hid fun w => takeB_any FC w (by omega)
  have HD := Lib.hid fun w => takeAllF_any FD 5 (s.size : Int) w (by omega) (by decide) ⟨by omega, by omega⟩
  have HE := Lib.hid fun w => takeAllF_any FE 5 (s.size : Int) w (by omega) (by decide) ⟨by omega, by omega⟩
  rw [HFC.out, HTC.out] at HC
  rw [HFD.out, HTD.out] at HD
  rw [HFE.out, HTE.out] at HE
  go_wp2_with fail
  with_reducible refine (HC.out _).mono ?_
  rintro e2 w2 ⟨⟨R, hR, rfl⟩, hb2⟩
  have HB2 := Lib.hid (Bel.call HB1.out hb2)
  have HR2 := Lib.hid (HR1.out.below hb2 HR1.out.2.2.2.2.2)
  have HF2 := Lib.hid (HF1.out.below hb2 HR1.out.2.2.2.2.2)
  have hg2 : g < w2.heap.size := Nat.lt_of_lt_of_le hg1 hb2.size
  replace l0 := (hb2.cell (p := ⟨g, off, none⟩) hg1).trans l0
  replace l1 := (hb2.cell (p := ⟨g, off + 1, none⟩) hg1).trans l1
  replace l2 := (hb2.cell (p := ⟨g, off + 2, none⟩) hg1).trans l2
  replace l3 := (hb2.cell (p := ⟨g, off + 3, none⟩) hg1).trans l3
  replace l4 := (hb2.cell (p := ⟨g, off + 4, none⟩) hg1).trans l4
  have HRR := Lib.hid hR
  clear hR hb2
  dsimp only at HRR ⊢
  have q2 : R.toList.isEmpty = true := empty_str HRR.out
  go_wp2_with fail
  with_reducible refine (HD.out _).mono ?_
  rintro e3 w3 ⟨⟨A1, c1, y1, hy1, hc1, hs1, hn1, rfl⟩, hb3⟩
  have HB3 := Lib.hid (Bel.call HB2.out hb3)
  have HR3 := Lib.hid (HR2.out.below hb3 HR2.out.2.2.2.2.2)
  have HF3 := Lib.hid (HF2.out.below hb3 HR2.out.2.2.2.2.2)
  have hg3 : g < w3.heap.size := Nat.lt_of_lt_of_le hg2 hb3.size
  replace l0 := (hb3.cell (p := ⟨g, off, none⟩) hg2).trans l0
  replace l1 := (hb3.cell (p := ⟨g, off + 1, none⟩) hg2).trans l1
  replace l2 := (hb3.cell (p := ⟨g, off + 2, none⟩) hg2).trans l2
  replace l3 := (hb3.cell (p := ⟨g, off + 3, none⟩) hg2).trans l3
  replace l4 := (hb3.cell (p := ⟨g, off + 4, none⟩) hg2).trans l4
  have HS1 := Lib.hid hs1
  have HY1 := Lib.hid hy1
  have HN1 : Hid (∀ b off, A1 = some ⟨b, off, none⟩ → 0 < y1.length → w.heap.size ≤ b ∧ b ≠ w.heap.size) := fun b off h _ => by
    have h1 := hn1 b off h
    have h2 := HR2.out.2.2.2.2.2
    exact ⟨by omega, by omega⟩
  clear hs1 hy1 hn1 hb3
  dsimp only
  go_wp2_with fail
  with_reducible refine (HE.out _).mono ?_
  rintro e4 w4 ⟨⟨A2, c2, y2, hy2, hc2, hs2, hn2, rfl⟩, hb4⟩
  have HB4 := Lib.hid (Bel.call HB3.out hb4)
  have HR4 := Lib.hid (HR3.out.below hb4 HR3.out.2.2.2.2.2)
  have HF4 := Lib.hid (HF3.out.below hb4 HR3.out.2.2.2.2.2)
  have hg4 : g < w4.heap.size := Nat.lt_of_lt_of_le hg3 hb4.size
  replace l0 := (hb4.cell (p := ⟨g, off, none⟩) hg3).trans l0
  replace l1 := (hb4.cell (p := ⟨g, off + 1, none⟩) hg3).trans l1
  replace l2 := (hb4.cell (p := ⟨g, off + 2, none⟩) hg3).trans l2
  replace l3 := (hb4.cell (p := ⟨g, off + 3, none⟩) hg3).trans l3
  replace l4 := (hb4.cell (p := ⟨g, off + 4, none⟩) hg3).trans l4
  have HS2 := Lib.hid hs2
  have HY2 := Lib.hid hy2
  have HN2 : Hid (∀ b off, A2 = some ⟨b, off, none⟩ → 0 < y2.length → w.heap.size ≤ b ∧ b ≠ w.heap.size) := fun b off h _ => by
    have h1 := hn2 b off h
    have h2 := HR3.out.2.2.2.2.2
    exact ⟨by omega, by omega⟩
  replace HS1 := Lib.hid (HS1.out.below hb4 (Nat.le_refl _))
  clear hs2 hy2 hn2 hb4
  dsimp only
  go_wp2_with fail
  clear l2 l3 l4
  have hd4 : Below w4.heap.size w4 w4.drew := Below.drewN' (Below.refl w4.heap.size w4) 1
  have HB5 : Hid (Below w.heap.size w w4.drew) := Lib.hid (Bel.call HB4.out hd4)
  have HR5 := Lib.hid (HR4.out.below hd4 HR4.out.2.2.2.2.2)
  have HF5 := Lib.hid (HF4.out.below hd4 HR4.out.2.2.2.2.2)
  replace HS1 := Lib.hid (HS1.out.below hd4 (Nat.le_refl _))
  replace HS2 := Lib.hid (HS2.out.below hd4 (Nat.le_refl _))
  refine wp_region_held_drew (S := fun w' => w'.cell? ⟨g, off, none⟩ = some (.string FA) ∧ w'.cell? ⟨g, off + 1, none⟩ = some (.string FB) ∧ True) (by kernel_rfl) ⟨(hd4.cell (p := ⟨g, off, none⟩) hg4).trans l0, (hd4.cell (p := ⟨g, off + 1, none⟩) hg4).trans l1, trivial⟩ (fun hHeld => ?_)
  clear l0 l1 hd4
  generalize w4.drew = w5 at HB5 HR5 HF5 HS1 HS2 hHeld ⊢
  refine wpAnyH_take (i := 0) (v := ?_) (by rw [List.getElem?_toArray]; rfl) (by kernel_rfl) (by kernel_rfl) (by kernel_rfl) (by exact fun _ _ _ h => h) (Or.inl ⟨by rfl, ?_⟩) (by assumption) ?_
  rotate_left
  · intro w' hSw
    obtain ⟨l0, l1, _⟩ := hSw
    go_simp
    try with_reducible rfl
  try simp only [Act.put, List.setIfInBounds_toArray, List.set_cons_zero, List.set_cons_succ]
  refine wpAnyH_take (i := 1) (v := ?_) (by rw [List.getElem?_toArray]; rfl) (by kernel_rfl) (by kernel_rfl) (by kernel_rfl) (by exact fun _ _ _ h => h) (Or.inl ⟨by rfl, ?_⟩) (by assumption) ?_
  rotate_left
  · intro w' hSw
    obtain ⟨l0, l1, _⟩ := hSw
    go_simp
    try with_reducible rfl
  try simp only [Act.put, List.setIfInBounds_toArray, List.set_cons_zero, List.set_cons_succ]
  refine wpAnyH_take (i := 2) (v := ?_) (by rw [List.getElem?_toArray]; rfl) (by kernel_rfl) (by kernel_rfl) (by kernel_rfl) (by exact fun _ _ _ h => h) (Or.inl ⟨by rfl, ?_⟩) (by assumption) ?_
  rotate_left
  · intro w' hSw
    obtain ⟨l0, l1, _⟩ := hSw
    go_simp
    try with_reducible rfl
  try simp only [Act.put, List.setIfInBounds_toArray, List.set_cons_zero, List.set_cons_succ]
  refine wpAnyH_take (i := 3) (v := ?_) (by rw [List.getElem?_toArray]; rfl) (by kernel_rfl) (by kernel_rfl) (by kernel_rfl) (by exact fun _ _ _ h => h) (Or.inl ⟨by rfl, ?_⟩) (by assumption) ?_
  rotate_left
  · intro w' hSw
    obtain ⟨l0, l1, _⟩ := hSw
    go_simp
    try with_reducible rfl
  try simp only [Act.put, List.setIfInBounds_toArray, List.set_cons_zero, List.set_cons_succ]
  refine wpAnyH_take (i := 4) (v := ?_) (by rw [List.getElem?_toArray]; rfl) (by kernel_rfl) (by kernel_rfl) (by kernel_rfl) (by exact fun _ _ _ h => h) (Or.inl ⟨by rfl, ?_⟩) (by assumption) ?_
  rotate_left
  · intro w' hSw
    obtain ⟨l0, l1, _⟩ := hSw
    go_simp
    try with_reducible rfl
  try simp only [Act.put, List.setIfInBounds_toArray, List.set_cons_zero, List.set_cons_succ]
  refine wpAnyH_take (i := 5) (v := ?_) (by rw [List.getElem?_toArray]; rfl) (by kernel_rfl) (by kernel_rfl) (by kernel_rfl) (by exact fun _ _ _ h => h) (Or.inl ⟨by rfl, ?_⟩) (by assumption) ?_
  rotate_left
  · intro w' hSw
    obtain ⟨l0, l1, _⟩ := hSw
    go_simp
    try with_reducible rfl
  try simp only [Act.put, List.setIfInBounds_toArray, List.set_cons_zero, List.set_cons_succ]
  refine wpAnyH_take (i := 6) (v := ?_) (by rw [List.getElem?_toArray]; rfl) (by kernel_rfl) (by kernel_rfl) (by kernel_rfl) (by exact fun _ _ _ h => h) (Or.inl ⟨by rfl, ?_⟩) (by assumption) ?_
  rotate_left
  · intro w' hSw
    obtain ⟨l0, l1, _⟩ := hSw
    go_simp
    try with_reducible rfl
  try simp only [Act.put, List.setIfInBounds_toArray, List.set_cons_zero, List.set_cons_succ]
  refine wpAnyH_take (i := 7) (v := ?_) (by rw [List.getElem?_toArray]; rfl) (by kernel_rfl) (by kernel_rfl) (by kernel_rfl) (by exact fun _ _ _ h => h) (Or.inl ⟨by rfl, ?_⟩) (by assumption) ?_
  rotate_left
  · intro w' hSw
    obtain ⟨l0, l1, _⟩ := hSw
    go_simp
    try with_reducible rfl
  try simp only [Act.put, List.setIfInBounds_toArray, List.set_cons_zero, List.set_cons_succ]
  refine wpAnyH_take (i := 8) (v := ?_) (by rw [List.getElem?_toArray]; rfl) (by kernel_rfl) (by kernel_rfl) (by kernel_rfl) (by exact fun _ _ _ h => h) (Or.inl ⟨by rfl, ?_⟩) (by assumption) ?_
  rotate_left
  · intro w' hSw
    obtain ⟨l0, l1, _⟩ := hSw
    go_simp
    try with_reducible rfl
  try simp only [Act.put, List.setIfInBounds_toArray, List.set_cons_zero, List.set_cons_succ]
  refine wpAnyH_take (i := 9) (v := ?_) (by rw [List.getElem?_toArray]; rfl) (by kernel_rfl) (by kernel_rfl) (by kernel_rfl) (by exact fun _ _ _ h => h) (Or.inl ⟨by rfl, ?_⟩) (by assumption) ?_
  rotate_left
  · intro w' hSw
    obtain ⟨l0, l1, _⟩ := hSw
    go_simp
    try with_reducible rfl
  try simp only [Act.put, List.setIfInBounds_toArray, List.set_cons_zero, List.set_cons_succ]
  refine wpAnyH_take (i := 10) (v := ?_) (by rw [List.getElem?_toArray]; rfl) (by kernel_rfl) (by kernel_rfl) (by kernel_rfl) (by exact fun _ _ _ h => h) (Or.inl ⟨by rfl, ?_⟩) (by assumption) ?_
  rotate_left
  · intro w' hSw
    obtain ⟨l0, l1, _⟩ := hSw
    go_simp
    try with_reducible rfl
  try simp only [Act.put, List.setIfInBounds_toArray, List.set_cons_zero, List.set_cons_succ]
  obtain ⟨m0, m1, _⟩ := hHeld
  refine wpAnyH_ready (rs := [11]) (by kernel_rfl) (by simp) ?_
  refine AllReadyH.cons (by rw [List.getElem?_toArray]; rfl) (fun K hK => ?_) AllReadyH.nil
  obtain ⟨r0, r1, r2, r3, r4, _⟩ := HR5.out
  obtain ⟨f0, f1, f2, f3, f4⟩ := HF5.out
  go_simp
  refine hK.out _ _ ⟨(cell_set5 HNE.out).trans m0, (cell_set5 HNE.out).trans m1, trivial⟩ (fun hHeld => ?_)
  try simp only [Act.put, List.setIfInBounds_toArray, List.set_cons_zero, List.set_cons_succ]
  refine wpAnyH_take (i := 12) (v := ?_) (by rw [List.getElem?_toArray]; rfl) (by kernel_rfl) (by kernel_rfl) (by kernel_rfl) (by exact fun _ _ _ h => h) (Or.inl ⟨by rfl, ?_⟩) (by assumption) ?_
  rotate_left
  · intro w' hSw
    obtain ⟨l0, l1, _⟩ := hSw
    go_simp
    try with_reducible rfl
  try simp only [Act.put, List.setIfInBounds_toArray, List.set_cons_zero, List.set_cons_succ]
  refine wpAnyH_done (by kernel_rfl) ?_ _
  go_wp2
  refine bodyPost_ret (v := .tuple #[RV FA FB (n : Int) A1 y1.length c1 A2 y2.length c2, .bool true]) (by simp [results, Try.results44, go_sem, RV, r0, r1, r2, r3, r4]) rfl ?_
  have n1 : ∀ b off, A1 = some ⟨b, off, none⟩ → 0 < y1.length → b ≠ w.heap.size := fun b off h h0 => (HN1.out b off h h0).2
  have n2 : ∀ b off, A2 = some ⟨b, off, none⟩ → 0 < y2.length → b ≠ w.heap.size := fun b off h h0 => (HN2.out b off h h0).2
  exact ⟨⟨_, ⟨FA, FB, A1, c1, y1, A2, c2, y2, rfl, by simp only [HFA.out, HFB.out, HY1.out, HY2.out], sreads_setL5 HS1.out n1, sreads_setL5 HS2.out n2, hc1, hc2, fun b off h h0 => (HN1.out b off h h0).1, fun b off h h0 => (HN2.out b off h h0).1⟩, rfl⟩, set5 HB5.out (Nat.le_refl _)⟩
end Go.Proofs.Ytjikepfgfbnheaa.Rig
