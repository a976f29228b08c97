/-
  THE LAW TreeOne, walked. By an AI agent; no person has read it.
-/
import Derived.Test.YtblgcpopcgnncaaELErrsP
import Derived.Test.YtblgcpopcgnncaaE3
namespace Go.Proofs.Ytblgcpopcgnncaa.Tre
open Go Go.RowKit Wire Term Draw Reg Clo

set_option linter.unusedSimpArgs false
set_option linter.unusedVariables false
def otB : ByteArray := ⟨#[111, 116, 104, 101, 114]⟩
def otL : Tm := lf otB.data.toList 3
theorem ot_small : (Sz 2 otL ∧ otL.length ≤ 121) ∧ isLeaf otL = true := by
  have := lf_sz (f := otB.data.toList) (v := 3) (by decide) (by decide)
  exact ⟨⟨this.1, Nat.le_trans this.2 (by decide)⟩, lf_leaf (by decide) (by decide)⟩
theorem ot_not (z : Int) : lfOf z ≠ otL := fun h => by
  have h4 := pk_lt (z.tdiv 8) (n := 4) (by decide)
  have h8 := pk_lt z (n := 8) (by decide)
  have := (lf_inj (who_len _) (by decide) (by omega) (by decide) h).1
  have hh : ∀ a : Fin 8, (whoN a.1).data.toList ≠ otB.data.toList := by decide +kernel
  exact hh ⟨pk z 8, h8⟩ this
theorem rowL_not {zs : List Int} : ∀ t ∈ rowL zs, t ≠ otL := fun t h => by
  obtain ⟨z, _, rfl⟩ := List.mem_map.1 h
  exact ot_not z
theorem root_ok {l : List Tm} {x : Tm} (h : root l = (x, 0)) : 1 ≤ l.length ∧ l.length ≤ 8 ∧ (∀ t ∈ l, isLeaf t = true) ∧ treeD 4 l = (x, 0) := by
  unfold root at h
  split at h
  · have := (Prod.mk.inj h).2; exact absurd this (show ¬ (1 : Int) = 0 by decide)
  · split at h
    · have := (Prod.mk.inj h).2; exact absurd this (show ¬ (1 : Int) = 0 by decide)
    · rename_i h1 h2
      exact ⟨by omega, by omega, Classical.not_not.1 h2, h⟩
theorem root_inj {l l' : List Tm} {x : Tm} (h : root l = (x, 0)) (h' : root l' = (x, 0)) : l = l' := by
  obtain ⟨a1, a2, a3, a4⟩ := root_ok h
  obtain ⟨b1, b2, b3, b4⟩ := root_ok h'
  exact tree_inj a3 b3 a1 a2 b1 b2 a4 b4
theorem root_differ {l l' : List Tm} {x y : Tm} (h : root l = (x, 0)) (h' : root l' = (y, 0)) (hl : l ≠ l') : x ≠ y := fun e => hl (root_inj h (by rw [e]; exact h'))
theorem own_frozen {w : World} {base : Nat} {e : TypeId} {g n c size : Nat} {xs : List Value} (h : w.ownsRow base e size (.slice (some ⟨g, 0, none⟩) n c) n xs) (j : Nat) : w.frozen? ⟨g, j, none⟩ = false := by
  rcases h.2 with ⟨h', _⟩ | ⟨g', cap', cur, h', hb, hg, _⟩
  · simp at h'
  · simp only [Value.slice.injEq, Option.some.injEq, Addr.mk.injEq, and_true, true_and] at h'
    obtain ⟨rfl, rfl⟩ := h'
    simp only [World.frozen?, hg]
    simp
theorem own_cap {w : World} {base : Nat} {e : TypeId} {g n c size : Nat} {xs : List Value} (h : w.ownsRow base e size (.slice (some ⟨g, 0, none⟩) n c) n xs) : c ≤ 9223372036854775807 := by
  rcases h.2 with ⟨h', _⟩ | ⟨g', cap', cur, h', hb, hg, _, hm, _⟩
  · simp at h'
  · simp only [Value.slice.injEq, Option.some.injEq, Addr.mk.injEq, and_true, true_and] at h'
    obtain ⟨rfl, rfl⟩ := h'
    exact hm
theorem sv_set (ys : List ByteArray) (j : Nat) (O : ByteArray) : (sv ys).set j (.string O) = sv (ys.set j O) := by
  simp [sv, List.map_set]
theorem bl_set (ys : List ByteArray) (j : Nat) (O : ByteArray) : bl (ys.set j O) = (bl ys).set j O.data.toList := by
  simp [bl, List.map_set]
set_option maxHeartbeats 8000000 in
set_option maxRecDepth 1000000 in
theorem one_walk (A1 : Option Addr) (c1 : Nat) (z1 : List Int) (A2 : Option Addr) (c2 : Nat) (z2 : List Int) (at0 : Int) (w : World) (hi1 : IReads w A1 z1) (hn1 : z1.length ≤ 9223372036854775807) (hi2 : IReads w A2 z2) (hn2 : z2.length ≤ 9223372036854775807) (ht : -9223372036854775808 ≤ at0 ∧ at0 ≤ 9223372036854775807) :
    Calls Try.prog 5 #[.slice A1 z1.length c1, .slice A2 z2.length c2, .int .i64 at0] w fun e w' => e = .returned (.bool true) ∧ Below w.heap.size w w' := by
  have HI1 := Lib.hid hi1
  have HI2 := Lib.hid hi2
  have HSH := Lib.hid fun w => shown_any w
  have HRO1 : Hid (∀ w', IReads w' A1 z1 → Calls Try.prog 20 #[.slice A1 z1.length c1] w' fun e w'' => Ob w' w'' (rowL z1) e ∧ Below w'.heap.size w' w'') := Lib.hid fun w' h => row_any A1 c1 z1 w' h hn1
  have HRO2 : Hid (∀ w', IReads w' A2 z2 → Calls Try.prog 20 #[.slice A2 z2.length c2] w' fun e w'' => Ob w' w'' (rowL z2) e ∧ Below w'.heap.size w' w'') := Lib.hid fun w' h => row_any A2 c2 z2 w' h hn2
  have hs1 := rowL_small (zs := z1)
  have hs2 := rowL_small (zs := z2)
  have hd1 := rowL_not (zs := z1)
  have hl1 : (rowL z1).length ≤ 8 := by rw [rowL_len]; omega
  have hl2 : (rowL z2).length ≤ 8 := by rw [rowL_len]; omega
  generalize rowL z1 = la at HRO1 hs1 hd1 hl1
  generalize rowL z2 = lb at HRO2 hs2 hl2
  clear hi1 hi2 hn1 hn2
  go_enter Try.func5, Try.ntmps5
  go_wp2_with fail
  with_reducible refine (HSH.out _).mono ?_
  rintro e w1 ⟨rfl, hb1⟩
  have HB1 := Lib.hid hb1
  replace HI1 := Lib.hid (HI1.out.below hb1 (Nat.le_refl _))
  replace HI2 := Lib.hid (HI2.out.below hb1 (Nat.le_refl _))
  clear hb1
  dsimp only
  go_wp2_with fail
  with_reducible refine (HRO1.out _ HI1.out).mono ?_
  rintro e w2 ⟨hx, hb2⟩
  have HB2 := Lib.hid (Bel.call HB1.out hb2)
  replace HI1 := Lib.hid (HI1.out.below hb2 (Nat.le_refl _))
  replace HI2 := Lib.hid (HI2.out.below hb2 (Nat.le_refl _))
  clear hb2
  obtain ⟨AX, cX, YX, hq, hc, hr, hb, rfl⟩ := ob_row hx
  have HQX := Lib.hid hq
  have HCX := Lib.hid hc
  have HRX := Lib.hid hr
  have HNX := Lib.hid (own_none hb)
  clear hx hq hc hr hb
  dsimp only
  go_wp2_with fail
  with_reducible refine (HRO2.out _ HI2.out).mono ?_
  rintro e w3 ⟨hx, hb3⟩
  have HB3 := Lib.hid (Bel.call HB2.out hb3)
  replace HI1 := Lib.hid (HI1.out.below hb3 (Nat.le_refl _))
  replace HI2 := Lib.hid (HI2.out.below hb3 (Nat.le_refl _))
  replace HRX := Lib.hid (HRX.out.below hb3 (Nat.le_refl _))
  clear hb3
  obtain ⟨AY, cY, YY, hq, hc, hr, hb, rfl⟩ := ob_row hx
  have HQY := Lib.hid hq
  have HCY := Lib.hid hc
  have HRY := Lib.hid hr
  clear hx hq hc hr hb
  dsimp only
  by_cases h1 : YX.length = 0
  · rw [h1]
    go_wp2
    go_ret
    exact ⟨rfl, HB3.out⟩
  · have q1 : ((YX.length : Int) == 0) = false := by rw [beq_eq_false_iff_ne]; omega
    by_cases h2 : YY.length = 0
    · rw [h2]
      go_wp2
      go_ret
      exact ⟨rfl, HB3.out⟩
    · have q2 : ((YY.length : Int) == 0) = false := by rw [beq_eq_false_iff_ne]; omega
      have hx := bl_length HQX.out
      have hy := bl_length HQY.out
      obtain ⟨xa, ra, _, _, _, ma⟩ := small_root (l := la) (by omega) (by omega) hs1
      obtain ⟨xb, rb, _, _, _, mb⟩ := small_root (l := lb) (by omega) (by omega) hs2
      have zx := bl_sizes HQX.out hs1
      have zy := bl_sizes HQY.out hs2
      have HA : Hid (∀ w', SReads w' AX YX → Calls Try.prog 13 #[.slice AX YX.length cX] w' fun e w'' => Sr (xa, 0) e ∧ Below w'.heap.size w' w'') := Lib.hid fun w' h => root_any_to ra HQX.out HCX.out (fun y h => by have := zx y h; omega) w' h
      have HB : Hid (∀ w', SReads w' AY YY → Calls Try.prog 13 #[.slice AY YY.length cY] w' fun e w'' => Sr (xb, 0) e ∧ Below w'.heap.size w' w'') := Lib.hid fun w' h => root_any_to rb HQY.out HCY.out (fun y h => by have := zy y h; omega) w' h
      have HSM : Hid (∀ w', SReads w' AX YX → SReads w' AY YY → Calls Try.prog 17 #[.slice AX YX.length cX, .slice AY YY.length cY] w' fun e w'' => e = .returned (.bool (decide (la = lb))) ∧ Below w'.heap.size w' w'') := Lib.hid fun w' h1 h2 => by
        have := same_any AX AY cX cY YX YY w' h1 h2 (by omega)
        rw [HQX.out, HQY.out] at this
        exact this
      have hpl := pk_lt at0 (n := YX.length) (by omega)
      have HPI : Hid (∀ w', Calls Try.prog 21 #[.int .i64 at0, .int .i64 (YX.length : Int)] w' fun e w'' => e = .returned (.int .i64 (pk at0 YX.length : Int)) ∧ w'' = w') := Lib.hid fun w' => pick_any at0 YX.length w' ht (by omega) (by omega)
      generalize hij : pk at0 YX.length = ij at hpl HPI
      clear hij
      have HOT : Hid (∀ w', Calls Try.prog 11 #[.string ⟨#[111, 116, 104, 101, 114]⟩, .int .u64 3] w' fun e w'' => Sr (otL, 0) e ∧ Below w'.heap.size w' w'') := Lib.hid fun w' => by
        have := cleafT_any otB 3 w' (by decide) (by decide)
        rw [leafT_is (by decide) (by decide)] at this
        exact this
      have HRA := Lib.hid ra
      have HRB := Lib.hid rb
      have HN : Hid (1 ≤ YX.length ∧ YX.length ≤ 8 ∧ YX.length = la.length) := Lib.hid ⟨by omega, by omega, hx⟩
      have HS := Lib.hid hs1
      have HD := Lib.hid hd1
      have HZ := Lib.hid zx
      clear hx hy ma mb zx zy h1 h2 hs1 hs2 hd1 hl1 hl2
      go_wp2_with fail
      with_reducible refine (HA.out _ HRX.out).mono ?_
      rintro e w4 ⟨⟨TA, hTA, rfl⟩, hb4⟩
      have HB4 := Lib.hid (Bel.call HB3.out hb4)
      replace HRX := Lib.hid (HRX.out.below hb4 (Nat.le_refl _))
      replace HRY := Lib.hid (HRY.out.below hb4 (Nat.le_refl _))
      clear hb4
      try dsimp only at hTA
      have HTA := Lib.hid hTA
      clear hTA
      dsimp only
      go_wp2_with fail
      with_reducible refine (HB.out _ HRY.out).mono ?_
      rintro e w5 ⟨⟨TB, hTB, rfl⟩, hb5⟩
      have HB5 := Lib.hid (Bel.call HB4.out hb5)
      replace HRX := Lib.hid (HRX.out.below hb5 (Nat.le_refl _))
      replace HRY := Lib.hid (HRY.out.below hb5 (Nat.le_refl _))
      clear hb5
      try dsimp only at hTB
      have HTB := Lib.hid hTB
      clear hTB
      dsimp only
      by_cases he : la = lb
      · have q3 : (TA.toList == TB.toList) = true := eq_bool (by rw [HTA.out, HTB.out]; have := HRB.out; rw [← he, HRA.out] at this; exact (Prod.mk.inj this).1)
        rw [decide_eq_true he] at HSM
        clear he HRB
        go_wp2_with fail
        with_reducible refine (HSM.out _ HRX.out HRY.out).mono ?_
        rintro e w6 ⟨rfl, hb6⟩
        have HB6 := Lib.hid (Bel.call HB5.out hb6)
        replace HRX := Lib.hid (HRX.out.below hb6 (Nat.le_refl _))
        replace HRY := Lib.hid (HRY.out.below hb6 (Nat.le_refl _))
        clear hb6
        dsimp only
        clear HRY
        go_wp2_with (first
          | (at_builtin
             refine append_strs rfl _ _ rfl w6.heap.size (.slice (some ⟨w6.heap.size, 0, none⟩) 0 0) 0 [] YX rfl ?c1 (rfl) AX YX.length cX rfl (rfl) (HNX.out) ?c2 ?c3 ?c4 ?_
             case c1 => exact own_empty w6
             case c2 => exact HRX.out.below ((Below.refl _ w6).alloc (Nat.le_refl _) _) (Nat.le_refl _)
             case c3 => have := HN.out.2.1; omega
             case c4 => simp
             intro vC wC hown hb
             have HOC := Lib.hid hown
             have HXC := Lib.hid hb
             clear hown hb))
        obtain ⟨n', hn'⟩ : ∃ n', YX.length = n' + 1 := ⟨YX.length - 1, by have := HN.out.1; omega⟩
        have hoC0 : wC.ownsRow w6.heap.size 9 1 vC (n' + 1) (sv YX) := by have := HOC.out; rw [hn', show 0 + (n' + 1) = n' + 1 by omega] at this; simpa using this
        obtain ⟨gC, cC, rfl⟩ := ownsRow_succ hoC0
        have HOW := Lib.hid hoC0
        have hgC := (hoC0.lt gC rfl).1
        have hwgC : w.heap.size ≤ gC := Nat.le_trans HB6.out.size hgC
        clear hoC0 HOC hgC
        have hbC : Below w6.heap.size w6 wC := ((Below.refl _ w6).alloc (Nat.le_refl _) _).trans HXC.out
        have HB7 := Lib.hid (Bel.call HB6.out hbC)
        replace HRX := Lib.hid (HRX.out.below hbC (Nat.le_refl _))
        clear hbC HXC
        with_reducible refine (HPI.out _).mono ?_
        rintro e v1 ⟨rfl, hv1⟩
        obtain rfl : wC = v1 := hv1.symm
        dsimp only
        have hij : ij < n' + 1 := by omega
        have hi1 : (ij : Int) < (n' : Int) + 1 := by omega
        have hi0 : (0 : Int) ≤ (ij : Int) := by omega
        have HN' := Lib.hid hn'
        have HCM : Hid (cC ≤ 9223372036854775807) := Lib.hid (own_cap HOW.out)
        clear hn'
        go_wp2_with fail
        with_reducible refine (HOT.out _).mono ?_
        rintro e w8 ⟨⟨O, hO, rfl⟩, hb8⟩
        have HB8 := Lib.hid (Bel.call HB7.out hb8)
        replace HRX := Lib.hid (HRX.out.below hb8 (Nat.le_refl _))
        replace HOW := Lib.hid (own_below HOW.out hb8 (Nat.le_refl _))
        clear hb8
        try dsimp only at hO
        have HO := Lib.hid hO
        clear hO
        dsimp only
        have hget := own_get HOW.out HN'.out hij
        have hfz := own_frozen HOW.out ij
        go_wp2_with fail
        have hst : (w8.setCell ⟨gC, ij, none⟩ (.string O)).ownsRow w6.heap.size 9 1 (.slice (some ⟨gC, 0, none⟩) (n' + 1) cC) (n' + 1) (sv (YX.set ij O)) := by have := (HOW.out.stored ij (.string O)).1; rwa [sv_set] at this
        have HBS : Hid (Below w.heap.size w (w8.setCell ⟨gC, ij, none⟩ (.string O))) := Lib.hid (HB8.out.setCell hwgC _)
        generalize w8.setCell ⟨gC, ij, none⟩ (.string O) = wS at hst HBS ⊢
        obtain ⟨hrC, _, hcC⟩ := sreads_own hst
        have HRC := Lib.hid hrC
        have HCC := Lib.hid hcC
        clear hrC hcC hget hfz HRX HOW hst
        have hset : bl (YX.set ij O) = la.set ij otL := by rw [bl_set, HQX.out, HO.out]
        have hla : la.length = n' + 1 := by rw [← HN.out.2.2, HN'.out]
        have hsm : ∀ t ∈ la.set ij otL, (Sz 2 t ∧ t.length ≤ 121) ∧ isLeaf t = true := fun t h => by rcases List.mem_or_eq_of_mem_set h with h | rfl; exact HS.out t h; exact ot_small
        have hne : la.set ij otL ≠ la := fun e => HD.out _ (List.getElem_mem (show ij < la.length by omega)) (by have := congrArg (fun l => l[ij]?) e; simpa [hla, hij] using this.symm)
        obtain ⟨zc, rc, _, rr, hh, mc⟩ := small_root (l := la.set ij otL) (by rw [List.length_set]; omega) (by rw [List.length_set]; have := HN.out.2.1; have := HN'.out; omega) hsm
        have zz : ∀ y ∈ YX.set ij O, y.size ≤ 140737488355328 := fun y h => by have := bl_sizes hset hsm y h; omega
        have hlen : (YX.set ij O).length = n' + 1 := by rw [List.length_set, HN'.out]
        have HC : Hid (∀ w', SReads w' (some ⟨gC, 0, none⟩) (YX.set ij O) → Calls Try.prog 13 #[.slice (some ⟨gC, 0, none⟩) (n' + 1) cC] w' fun e w'' => Sr (zc, 0) e ∧ Below w'.heap.size w' w'') := Lib.hid fun w' h => by
          have := root_any_to rc hset (A := some ⟨gC, 0, none⟩) (c := cC) ⟨by have := HCC.out; omega, HCM.out⟩ zz w' h
          rw [hlen] at this
          exact this
        have hzx : zc ≠ xa := root_differ rc HRA.out hne
        have hk := kind_right rr
        rw [hh] at hk
        have HKZ : Hid (∀ (Z : ByteArray) w', Z.data.toList = zc → Calls Try.prog 22 #[.string Z] w' fun e w'' => e = .returned (.int .u8 104) ∧ Below w'.heap.size w' w'') := Lib.hid fun Z w' hZ => by
          have := t_Kind Z w' (by rw [Lib.size_eq, hZ]; omega)
          rw [hZ, hk] at this
          exact this
        have HU : Hid (∃ (u : Tm) (f : Int), ((n' = 0 ∧ u = [] ∧ f = 1) ∨ (n' ≠ 0 ∧ f = 0 ∧ u ≠ zc ∧ u ≠ xa)) ∧ ∀ w', SReads w' (some ⟨gC, 0, none⟩) (YX.set ij O) → Calls Try.prog 13 #[.slice (some ⟨gC, 0, none⟩) n' cC] w' fun e w'' => Sr (u, f) e ∧ Below w'.heap.size w' w'') := Lib.hid (by
          have hl : ((YX.set ij O).take n').length = n' := by rw [List.length_take]; omega
          have hb : bl ((YX.set ij O).take n') = (la.set ij otL).take n' := by rw [← bl_take', hset]
          have hz : ∀ y ∈ (YX.set ij O).take n', y.size ≤ 140737488355328 := fun y h => zz y (List.mem_of_mem_take h)
          by_cases h0 : n' = 0
          · refine ⟨[], 1, .inl ⟨h0, rfl, rfl⟩, fun w' h => ?_⟩
            have := root_any_to (many_root (.inl (by rw [h0]; simp))) hb (A := some ⟨gC, 0, none⟩) (c := cC) ⟨by have := HCC.out; omega, HCM.out⟩ hz w' (sreads_take h n')
            rw [hl] at this
            exact this
          · obtain ⟨u, ru, _, _, _, _⟩ := small_root (l := (la.set ij otL).take n') (by rw [List.length_take, List.length_set]; omega) (by rw [List.length_take, List.length_set]; have := HN.out.2.1; have := HN'.out; omega) (fun t h => hsm t (List.mem_of_mem_take h))
            refine ⟨u, 0, .inr ⟨h0, rfl, root_differ ru rc (fun e => ?_), root_differ ru HRA.out (fun e => ?_)⟩, fun w' h => ?_⟩
            · have := congrArg List.length e; rw [List.length_take, List.length_set] at this; omega
            · have := congrArg List.length e; rw [List.length_take, List.length_set] at this; omega
            · have := root_any_to ru hb (A := some ⟨gC, 0, none⟩) (c := cC) ⟨by have := HCC.out; omega, HCM.out⟩ hz w' (sreads_take h n')
              rw [hl] at this
              exact this)
        have HZX := Lib.hid hzx
        have hncC : (n' : Int) ≤ (cC : Int) := by have := HCC.out; omega
        have hw1 : IntKind.i64.wrap ((n' : Int) + 1 - 1) = (n' : Int) := by rw [IntKind.wrap_i64]; have := HN.out.2.1; have := HN'.out; omega
        have hw3 : wrap64 (n' : Int) = (n' : Int) := by rw [wrap64_i64, IntKind.wrap_i64]; have := HN.out.2.1; have := HN'.out; omega
        have hn0 : (0 : Int) ≤ (n' : Int) := Int.natCast_nonneg n'
        clear hset hla hsm hne rc rr hh mc zz hlen hzx hk hij hpl
        have HB9 := HBS
        clear HBS
        with_reducible refine (HC.out _ HRC.out).mono ?_
        rintro e w10 ⟨⟨TZ, hTZ, rfl⟩, hb10⟩
        have HB10 := Lib.hid (Bel.call HB9.out hb10)
        replace HRC := Lib.hid (HRC.out.below hb10 (Nat.le_refl _))
        clear hb10
        try dsimp only at hTZ
        have HTZ := Lib.hid hTZ
        clear hTZ
        dsimp only
        have q4 : (TZ.toList == TA.toList) = false := ne_bool (by rw [HTZ.out, HTA.out]; exact HZX.out)
        go_wp2_with fail
        with_reducible refine (HKZ.out TZ _ HTZ.out).mono ?_
        rintro e w11 ⟨rfl, hb11⟩
        have HB11 := Lib.hid (Bel.call HB10.out hb11)
        replace HRC := Lib.hid (HRC.out.below hb11 (Nat.le_refl _))
        clear hb11
        dsimp only
        obtain ⟨u, f, hu, hU⟩ := HU.out
        have HU2 := Lib.hid hU
        clear hU
        go_wp2_with fail
        with_reducible refine (HU2.out _ HRC.out).mono ?_
        rintro e w12 ⟨⟨TU, hTU, rfl⟩, hb12⟩
        have HB12 := Lib.hid (Bel.call HB11.out hb12)
        replace HRC := Lib.hid (HRC.out.below hb12 (Nat.le_refl _))
        clear hb12
        try dsimp only at hTU
        have HTU := Lib.hid hTU
        clear hTU
        dsimp only
        rcases hu with ⟨h0, rfl, rfl⟩ | ⟨h0, rfl, hu1, hu2⟩
        · obtain rfl : TU = ⟨#[]⟩ := str_eq HTU.out
          subst h0
          go_wp2
          go_ret
          exact ⟨rfl, HB12.out⟩
        · have q5 : (TU.toList == TZ.toList) = false := ne_bool (by rw [HTU.out, HTZ.out]; exact hu1)
          have q6 : (TU.toList == TA.toList) = false := ne_bool (by rw [HTU.out, HTA.out]; exact hu2)
          have q7 : ((n' : Int) + 1 == 1) = false := by rw [beq_eq_false_iff_ne]; omega
          clear hu1 hu2 h0
          go_wp2
          go_ret
          exact ⟨rfl, HB12.out⟩
      · have q3 : (TA.toList == TB.toList) = false := ne_bool (by rw [HTA.out, HTB.out]; exact root_differ HRA.out HRB.out he)
        rw [decide_eq_false he] at HSM
        clear he HRB
        go_wp2_with fail
        with_reducible refine (HSM.out _ HRX.out HRY.out).mono ?_
        rintro e w6 ⟨rfl, hb6⟩
        have HB6 := Lib.hid (Bel.call HB5.out hb6)
        replace HRX := Lib.hid (HRX.out.below hb6 (Nat.le_refl _))
        replace HRY := Lib.hid (HRY.out.below hb6 (Nat.le_refl _))
        clear hb6
        dsimp only
        clear HRY
        go_wp2_with (first
          | (at_builtin
             refine append_strs rfl _ _ rfl w6.heap.size (.slice (some ⟨w6.heap.size, 0, none⟩) 0 0) 0 [] YX rfl ?c1 (rfl) AX YX.length cX rfl (rfl) (HNX.out) ?c2 ?c3 ?c4 ?_
             case c1 => exact own_empty w6
             case c2 => exact HRX.out.below ((Below.refl _ w6).alloc (Nat.le_refl _) _) (Nat.le_refl _)
             case c3 => have := HN.out.2.1; omega
             case c4 => simp
             intro vC wC hown hb
             have HOC := Lib.hid hown
             have HXC := Lib.hid hb
             clear hown hb))
        obtain ⟨n', hn'⟩ : ∃ n', YX.length = n' + 1 := ⟨YX.length - 1, by have := HN.out.1; omega⟩
        have hoC0 : wC.ownsRow w6.heap.size 9 1 vC (n' + 1) (sv YX) := by have := HOC.out; rw [hn', show 0 + (n' + 1) = n' + 1 by omega] at this; simpa using this
        obtain ⟨gC, cC, rfl⟩ := ownsRow_succ hoC0
        have HOW := Lib.hid hoC0
        have hgC := (hoC0.lt gC rfl).1
        have hwgC : w.heap.size ≤ gC := Nat.le_trans HB6.out.size hgC
        clear hoC0 HOC hgC
        have hbC : Below w6.heap.size w6 wC := ((Below.refl _ w6).alloc (Nat.le_refl _) _).trans HXC.out
        have HB7 := Lib.hid (Bel.call HB6.out hbC)
        replace HRX := Lib.hid (HRX.out.below hbC (Nat.le_refl _))
        clear hbC HXC
        with_reducible refine (HPI.out _).mono ?_
        rintro e v1 ⟨rfl, hv1⟩
        obtain rfl : wC = v1 := hv1.symm
        dsimp only
        have hij : ij < n' + 1 := by omega
        have hi1 : (ij : Int) < (n' : Int) + 1 := by omega
        have hi0 : (0 : Int) ≤ (ij : Int) := by omega
        have HN' := Lib.hid hn'
        have HCM : Hid (cC ≤ 9223372036854775807) := Lib.hid (own_cap HOW.out)
        clear hn'
        go_wp2_with fail
        with_reducible refine (HOT.out _).mono ?_
        rintro e w8 ⟨⟨O, hO, rfl⟩, hb8⟩
        have HB8 := Lib.hid (Bel.call HB7.out hb8)
        replace HRX := Lib.hid (HRX.out.below hb8 (Nat.le_refl _))
        replace HOW := Lib.hid (own_below HOW.out hb8 (Nat.le_refl _))
        clear hb8
        try dsimp only at hO
        have HO := Lib.hid hO
        clear hO
        dsimp only
        have hget := own_get HOW.out HN'.out hij
        have hfz := own_frozen HOW.out ij
        go_wp2_with fail
        have hst : (w8.setCell ⟨gC, ij, none⟩ (.string O)).ownsRow w6.heap.size 9 1 (.slice (some ⟨gC, 0, none⟩) (n' + 1) cC) (n' + 1) (sv (YX.set ij O)) := by have := (HOW.out.stored ij (.string O)).1; rwa [sv_set] at this
        have HBS : Hid (Below w.heap.size w (w8.setCell ⟨gC, ij, none⟩ (.string O))) := Lib.hid (HB8.out.setCell hwgC _)
        generalize w8.setCell ⟨gC, ij, none⟩ (.string O) = wS at hst HBS ⊢
        obtain ⟨hrC, _, hcC⟩ := sreads_own hst
        have HRC := Lib.hid hrC
        have HCC := Lib.hid hcC
        clear hrC hcC hget hfz HRX HOW hst
        have hset : bl (YX.set ij O) = la.set ij otL := by rw [bl_set, HQX.out, HO.out]
        have hla : la.length = n' + 1 := by rw [← HN.out.2.2, HN'.out]
        have hsm : ∀ t ∈ la.set ij otL, (Sz 2 t ∧ t.length ≤ 121) ∧ isLeaf t = true := fun t h => by rcases List.mem_or_eq_of_mem_set h with h | rfl; exact HS.out t h; exact ot_small
        have hne : la.set ij otL ≠ la := fun e => HD.out _ (List.getElem_mem (show ij < la.length by omega)) (by have := congrArg (fun l => l[ij]?) e; simpa [hla, hij] using this.symm)
        obtain ⟨zc, rc, _, rr, hh, mc⟩ := small_root (l := la.set ij otL) (by rw [List.length_set]; omega) (by rw [List.length_set]; have := HN.out.2.1; have := HN'.out; omega) hsm
        have zz : ∀ y ∈ YX.set ij O, y.size ≤ 140737488355328 := fun y h => by have := bl_sizes hset hsm y h; omega
        have hlen : (YX.set ij O).length = n' + 1 := by rw [List.length_set, HN'.out]
        have HC : Hid (∀ w', SReads w' (some ⟨gC, 0, none⟩) (YX.set ij O) → Calls Try.prog 13 #[.slice (some ⟨gC, 0, none⟩) (n' + 1) cC] w' fun e w'' => Sr (zc, 0) e ∧ Below w'.heap.size w' w'') := Lib.hid fun w' h => by
          have := root_any_to rc hset (A := some ⟨gC, 0, none⟩) (c := cC) ⟨by have := HCC.out; omega, HCM.out⟩ zz w' h
          rw [hlen] at this
          exact this
        have hzx : zc ≠ xa := root_differ rc HRA.out hne
        have hk := kind_right rr
        rw [hh] at hk
        have HKZ : Hid (∀ (Z : ByteArray) w', Z.data.toList = zc → Calls Try.prog 22 #[.string Z] w' fun e w'' => e = .returned (.int .u8 104) ∧ Below w'.heap.size w' w'') := Lib.hid fun Z w' hZ => by
          have := t_Kind Z w' (by rw [Lib.size_eq, hZ]; omega)
          rw [hZ, hk] at this
          exact this
        have HU : Hid (∃ (u : Tm) (f : Int), ((n' = 0 ∧ u = [] ∧ f = 1) ∨ (n' ≠ 0 ∧ f = 0 ∧ u ≠ zc ∧ u ≠ xa)) ∧ ∀ w', SReads w' (some ⟨gC, 0, none⟩) (YX.set ij O) → Calls Try.prog 13 #[.slice (some ⟨gC, 0, none⟩) n' cC] w' fun e w'' => Sr (u, f) e ∧ Below w'.heap.size w' w'') := Lib.hid (by
          have hl : ((YX.set ij O).take n').length = n' := by rw [List.length_take]; omega
          have hb : bl ((YX.set ij O).take n') = (la.set ij otL).take n' := by rw [← bl_take', hset]
          have hz : ∀ y ∈ (YX.set ij O).take n', y.size ≤ 140737488355328 := fun y h => zz y (List.mem_of_mem_take h)
          by_cases h0 : n' = 0
          · refine ⟨[], 1, .inl ⟨h0, rfl, rfl⟩, fun w' h => ?_⟩
            have := root_any_to (many_root (.inl (by rw [h0]; simp))) hb (A := some ⟨gC, 0, none⟩) (c := cC) ⟨by have := HCC.out; omega, HCM.out⟩ hz w' (sreads_take h n')
            rw [hl] at this
            exact this
          · obtain ⟨u, ru, _, _, _, _⟩ := small_root (l := (la.set ij otL).take n') (by rw [List.length_take, List.length_set]; omega) (by rw [List.length_take, List.length_set]; have := HN.out.2.1; have := HN'.out; omega) (fun t h => hsm t (List.mem_of_mem_take h))
            refine ⟨u, 0, .inr ⟨h0, rfl, root_differ ru rc (fun e => ?_), root_differ ru HRA.out (fun e => ?_)⟩, fun w' h => ?_⟩
            · have := congrArg List.length e; rw [List.length_take, List.length_set] at this; omega
            · have := congrArg List.length e; rw [List.length_take, List.length_set] at this; omega
            · have := root_any_to ru hb (A := some ⟨gC, 0, none⟩) (c := cC) ⟨by have := HCC.out; omega, HCM.out⟩ hz w' (sreads_take h n')
              rw [hl] at this
              exact this)
        have HZX := Lib.hid hzx
        have hncC : (n' : Int) ≤ (cC : Int) := by have := HCC.out; omega
        have hw1 : IntKind.i64.wrap ((n' : Int) + 1 - 1) = (n' : Int) := by rw [IntKind.wrap_i64]; have := HN.out.2.1; have := HN'.out; omega
        have hw3 : wrap64 (n' : Int) = (n' : Int) := by rw [wrap64_i64, IntKind.wrap_i64]; have := HN.out.2.1; have := HN'.out; omega
        have hn0 : (0 : Int) ≤ (n' : Int) := Int.natCast_nonneg n'
        clear hset hla hsm hne rc rr hh mc zz hlen hzx hk hij hpl
        have HB9 := HBS
        clear HBS
        with_reducible refine (HC.out _ HRC.out).mono ?_
        rintro e w10 ⟨⟨TZ, hTZ, rfl⟩, hb10⟩
        have HB10 := Lib.hid (Bel.call HB9.out hb10)
        replace HRC := Lib.hid (HRC.out.below hb10 (Nat.le_refl _))
        clear hb10
        try dsimp only at hTZ
        have HTZ := Lib.hid hTZ
        clear hTZ
        dsimp only
        have q4 : (TZ.toList == TA.toList) = false := ne_bool (by rw [HTZ.out, HTA.out]; exact HZX.out)
        go_wp2_with fail
        with_reducible refine (HKZ.out TZ _ HTZ.out).mono ?_
        rintro e w11 ⟨rfl, hb11⟩
        have HB11 := Lib.hid (Bel.call HB10.out hb11)
        replace HRC := Lib.hid (HRC.out.below hb11 (Nat.le_refl _))
        clear hb11
        dsimp only
        obtain ⟨u, f, hu, hU⟩ := HU.out
        have HU2 := Lib.hid hU
        clear hU
        go_wp2_with fail
        with_reducible refine (HU2.out _ HRC.out).mono ?_
        rintro e w12 ⟨⟨TU, hTU, rfl⟩, hb12⟩
        have HB12 := Lib.hid (Bel.call HB11.out hb12)
        replace HRC := Lib.hid (HRC.out.below hb12 (Nat.le_refl _))
        clear hb12
        try dsimp only at hTU
        have HTU := Lib.hid hTU
        clear hTU
        dsimp only
        rcases hu with ⟨h0, rfl, rfl⟩ | ⟨h0, rfl, hu1, hu2⟩
        · obtain rfl : TU = ⟨#[]⟩ := str_eq HTU.out
          subst h0
          go_wp2
          go_ret
          exact ⟨rfl, HB12.out⟩
        · have q5 : (TU.toList == TZ.toList) = false := ne_bool (by rw [HTU.out, HTZ.out]; exact hu1)
          have q6 : (TU.toList == TA.toList) = false := ne_bool (by rw [HTU.out, HTA.out]; exact hu2)
          have q7 : ((n' : Int) + 1 == 1) = false := by rw [beq_eq_false_iff_ne]; omega
          clear hu1 hu2 h0
          go_wp2
          go_ret
          exact ⟨rfl, HB12.out⟩
end Go.Proofs.Ytblgcpopcgnncaa.Tre
