/-
  THE LAW StoreLast, walked. By an AI agent; no person has read it.
-/
import Derived.Test.YtfeochpjjbnckaaSShown
import Derived.Test.YtfeochpjjbnckaaSLastP
import Derived.Test.YtfeochpjjbnckaaSBytes
import Derived.Laws.Cover1
namespace Go.Proofs.Ytfeochpjjbnckaa.Sto
open Go Go.RowKit Wire

set_option linter.unusedSimpArgs false
set_option linter.unusedVariables false
set_option maxHeartbeats 8000000 in
set_option maxRecDepth 1000000 in
theorem last_walk {D : DPred} (ok : StoreOK D) (A : Option Addr) (n c : Nat) (Z : Nat → Ac) (w : World) (hn : n ≤ 9223372036854775807) (hr : CReads w A n Z) : Calls Try.prog 3 #[.slice A n c] w fun e w' => e = .returned (.bool true) ∧ Below w.heap.size w w' := by
  have HOK := Lib.hid ok
  have HR := Lib.hid hr
  have HSH := Lib.hid fun w => shown_any ok w
  have HL : Hid (∀ w', Below w.heap.size w w' → Calls Try.prog 10 #[.slice A n c] w' fun e w'' => LightE n e ∧ Below w'.heap.size w' w'') := Lib.hid fun w' hb => light_any A c n Z w' (hr.below hb (Nat.le_refl _)) hn
  clear hr
  have hn0 : (0 : Int) ≤ (n : Int) := Int.natCast_nonneg n
  go_enter Try.func3, Try.ntmps3
  go_wp2_with fail
  with_reducible refine (HSH.out _).mono ?_
  rintro e w1 ⟨rfl, hb1⟩
  have HB1 := Lib.hid hb1
  clear hb1
  try dsimp only
  go_wp2_with fail
  with_reducible refine (st_new HOK.out HB1.out).mono ?_
  rintro e w2 ⟨aA, XA, rfl, hsA, hxA, hb2⟩
  have HB2 := Lib.hid (bel_call HB1.out hb2)
  have HSA := Lib.hid hsA
  clear hsA hb2 hxA
  try dsimp only
  go_wp2_with fail
  with_reducible refine (HL.out _ HB2.out).mono ?_
  rintro e w3 ⟨⟨bl, hbl, rfl⟩, hb3⟩
  have HB3 := Lib.hid (bel_call HB2.out hb3)
  replace HSA := Lib.hid (HSA.out.below HOK.out hb3)
  clear hb3
  try dsimp only
  cases bl
  case false =>
    go_wp2
    go_ret
    exact ⟨rfl, HB3.out⟩
  have hn100 := hbl rfl
  clear hbl
  go_wp2_with fail
  go_loopw [6] (fun i wr => ∃ (k : Nat) (X : Nat → Prop) (t : Stt), k ≤ n ∧ i = .int .i64 k ∧ Hid (t.n ≤ k) ∧ Hid (Sts D w wr aA X t)) (fun i _ => n - (intOf i).toNat)
  case atStart => exact ⟨0, XA, s0, Nat.zero_le _, rfl, Lib.hid (Nat.le_refl _), HSA⟩
  case round =>
    obtain ⟨k, X, t, hk, rfl, HF, HSA⟩ := hrel
    have HB1 := Lib.hid HSA.out.b
    by_cases hlt : k < n
    · have hki : (k : Int) < (n : Int) := by omega
      have hk0 : (0 : Int) ≤ (k : Int) := Int.natCast_nonneg k
      obtain ⟨b, off, rfl, hblt, ⟨c0, c1, c2, c3⟩, hz⟩ := HR.out k hlt
      obtain ⟨za, hza⟩ : ∃ z, Z k = z := ⟨_, rfl⟩
      rw [hza] at c0 c1 c2 c3 hz
      obtain ⟨op, zk, zK, zB⟩ := za
      obtain ⟨hz1, hz2, hz3, hz4⟩ := hz
      simp only at c0 c1 c2 c3 hz1 hz2 hz3 hz4
      clear hza
      have HNrA : Hid (¬ X b) := Lib.hid fun hx => by have := HSA.out.x _ hx; omega
      have HXr : Hid (R4 b (off + k * 4) wr (.int .i64 op) (.int .i64 zk) (.string zK) (.string zB)) := Lib.hid (R4.below (w := w) ⟨hblt, c0, c1, c2, c3⟩ HB1.out)
      clear c0 c1 c2 c3 hblt
      have HK : Hid (∀ w, Calls Try.prog 11 #[.agg #[.int .i64 op, .int .i64 zk, .string zK, .string zB]] w fun e w' => e = .returned (.string (keyN ⟨op, zk, zK, zB⟩)) ∧ Below w.heap.size w w') := Lib.hid fun w => key_any ⟨op, zk, zK, zB⟩ ⟨hz1, hz2, hz3, hz4⟩ w
      have hkz := keyN_small (a := ⟨op, zk, zK, zB⟩) ⟨hz1, hz2, hz3, hz4⟩
      generalize keyN ⟨op, zk, zK, zB⟩ = K at HK hkz
      have HP : Hid (∀ w, Calls Try.prog 15 #[.int .i64 op, .int .i64 4] w fun e w' => e = .returned (.int .i64 (pk op 4 : Int)) ∧ w' = w) := Lib.hid fun w => pick_any op 4 w hz1 (by decide) (by decide)
      have hp4 := pk_lt op (n := 4) (by decide)
      generalize pk op 4 = p4 at HP hp4
      obtain ⟨Kl, hKl⟩ : ∃ Kl, K.data.toList = Kl := ⟨_, rfl⟩
      have HKl := Lib.hid hKl
      clear hKl
      have hfew := HSA.out.f.few
      have hmany := HSA.out.f.many Kl
      obtain ⟨nr, dr0, dr1, dr2, dr3⟩ := HXr.out
      go_wp2_with fail
      with_reducible refine (HK.out _).mono ?_
      rintro e w2 ⟨rfl, hb2⟩
      clear nr dr0 dr1 dr2 dr3
      have HB2 := Lib.hid (bel_call HB1.out hb2)
      replace HSA := Lib.hid (HSA.out.below HOK.out hb2)
      replace HXr := Lib.hid (HXr.out.below hb2)
      clear hb2
      try dsimp only
      go_wp2_with fail
      with_reducible refine (st_get HOK.out HSA.out HKl.out hkz).mono ?_
      rintro e w3 ⟨⟨T0, hT0, rfl⟩, hb3⟩
      have HB3 := Lib.hid (bel_call HB2.out hb3)
      replace HSA := Lib.hid (HSA.out.below HOK.out hb3)
      replace HXr := Lib.hid (HXr.out.below hb3)
      clear hb3
      clear hT0
      obtain ⟨be, hbe⟩ : ∃ be, (getS t Kl).2 = be := ⟨_, rfl⟩
      rw [hbe]
      have HBE := Lib.hid hbe
      clear hbe
      try dsimp only
      go_wp2_with fail
      with_reducible refine (st_vers HOK.out HSA.out HKl.out hkz).mono ?_
      rintro e w4 ⟨hx, hb4⟩
      have HB4 := Lib.hid (bel_call HB3.out hb4)
      replace HSA := Lib.hid (HSA.out.below HOK.out hb4)
      replace HXr := Lib.hid (HXr.out.below hb4)
      clear hb4
      obtain ⟨Av, cv, Yv, hq, hc, hr, ho, rfl⟩ := hx
      have HQv := Lib.hid hq
      have HCv := Lib.hid hc
      have HRv : Hid (RowO _ _ _ Av Yv) := Lib.hid ⟨hr, ho⟩
      clear hq hc hr ho
      obtain ⟨m, hm⟩ : ∃ m, (t.ver Kl).length = m := ⟨_, rfl⟩
      have hln : Yv.length = m := by rw [← bl_len, HQv.out, hm]
      have hcv := HCv.out
      rw [hln] at hcv ⊢
      rw [hm] at hmany
      have HM := Lib.hid hm
      clear hm hln
      try dsimp only
      clear HRv
      go_wp2_with fail
      with_reducible refine (st_puts HOK.out HSA.out).mono ?_
      rintro e w5 ⟨rfl, hb5⟩
      have HB5 := Lib.hid (bel_call HB4.out hb5)
      replace HSA := Lib.hid (HSA.out.below HOK.out hb5)
      replace HXr := Lib.hid (HXr.out.below hb5)
      clear hb5
      obtain ⟨N, hN⟩ : ∃ N, t.n = N := ⟨_, rfl⟩
      have HN := Lib.hid hN
      rw [hN] at hfew hmany ⊢
      clear hN
      try dsimp only
      obtain ⟨nr, dr0, dr1, dr2, dr3⟩ := HXr.out
      go_wp2_with fail
      with_reducible refine (HP.out _).mono ?_
      rintro e v1 ⟨rfl, hv1⟩
      obtain rfl : w5 = v1 := hv1.symm
      clear nr dr0 dr1 dr2 dr3
      dsimp only
      by_cases h3 : p4 < 3
      · have h3i : (p4 : Int) < 3 := by omega
        obtain ⟨nr, dr0, dr1, dr2, dr3⟩ := HXr.out
        go_wp2_with fail
        with_reducible refine (st_put HOK.out HSA.out (b := zB.data.toList) HKl.out rfl hkz hz4).mono ?_
        rintro e w6 ⟨rfl, XA_1, hs, hn⟩
        have HB6 := Lib.hid hs.b
        have hof := hn.off HXr.out.1 HNrA.out
        replace HXr := Lib.hid (HXr.out.next hn HNrA.out)
        replace HNrA := Lib.hid hof
        clear hof
        replace HSA := Lib.hid hs
        clear hs hn
        try dsimp only
        clear nr dr0 dr1 dr2 dr3
        have hks : (K.size : Int) = (Kl.length : Int) := by rw [Lib.size_eq, HKl.out]
        have hbs : (zB.size : Int) = (zB.data.toList.length : Int) := by rw [Lib.size_eq]
        have HKE : Hid (K.toList.isEmpty = decide (Kl = [])) := Lib.hid (by rw [Lib.toList_data, HKl.out]; cases Kl <;> rfl)
        by_cases h5 : Kl = []
        · as_aux_lemma =>
            have hE : putE t Kl zB.data.toList = 1 := bd_arg (Or.inl h5)
            rw [hE]
            have hke : K.toList.isEmpty = true := by rw [HKE.out]; exact decide_eq_true h5
            obtain ⟨nr, dr0, dr1, dr2, dr3⟩ := HXr.out
            rw [putS_no (by rw [hE]; decide)] at HSA
            clear hE
            have HF2 : Hid (t.n ≤ k + 1) := Lib.hid (Nat.le_succ_of_le HF.out)
            go_wp2_with fail
            with_reducible refine (st_vers HOK.out HSA.out HKl.out hkz).mono ?_
            rintro e w7 ⟨hx, hb7⟩
            have HB7 := Lib.hid (bel_call HB6.out hb7)
            replace HSA := Lib.hid (HSA.out.below HOK.out hb7)
            replace HXr := Lib.hid (HXr.out.below hb7)
            clear hb7
            obtain ⟨Ay, cy, Yy, hq, hc, hr, ho, rfl⟩ := hx
            have HQy := Lib.hid hq
            have HCy := Lib.hid hc
            have HRy : Hid (RowO _ _ _ Ay Yy) := Lib.hid ⟨hr, ho⟩
            clear hq hc hr ho
            have hln : Yy.length = m := by rw [← bl_len, HQy.out]; exact HM.out
            have hcy := HCy.out
            rw [hln] at hcy ⊢
            clear hln
            try dsimp only
            clear HRy
            clear nr dr0 dr1 dr2 dr3
            go_wp2_with fail
            with_reducible refine (st_puts HOK.out HSA.out).mono ?_
            rintro e w8 ⟨rfl, hb8⟩
            have HB8 := Lib.hid (bel_call HB7.out hb8)
            replace HSA := Lib.hid (HSA.out.below HOK.out hb8)
            replace HXr := Lib.hid (HXr.out.below hb8)
            clear hb8
            rw [HN.out]
            try dsimp only
            obtain ⟨nr, dr0, dr1, dr2, dr3⟩ := HXr.out
            go_wp2_with fail
            with_reducible refine (st_get HOK.out HSA.out HKl.out hkz).mono ?_
            rintro e w9 ⟨⟨T1, hT1, rfl⟩, hb9⟩
            clear nr dr0 dr1 dr2 dr3
            have HB9 := Lib.hid (bel_call HB8.out hb9)
            replace HSA := Lib.hid (HSA.out.below HOK.out hb9)
            replace HXr := Lib.hid (HXr.out.below hb9)
            clear hb9
            clear hT1
            generalize (getS t Kl).2 = ge
            try dsimp only
            go_wp2_with fail
            with_reducible refine (st_list HOK.out HSA.out (K := ⟨#[]⟩) (k := []) rfl (by decide)).mono ?_
            rintro e w10 ⟨hx, hb10⟩
            have HB10 := Lib.hid (bel_call HB9.out hb10)
            replace HSA := Lib.hid (HSA.out.below HOK.out hb10)
            replace HXr := Lib.hid (HXr.out.below hb10)
            clear hb10
            obtain ⟨ll, hll, hx⟩ := hx
            have HLl := Lib.hid hll
            clear hll
            obtain ⟨Al, cl, Yl, hq, hc, hr, ho, rfl⟩ := hx
            have HQl := Lib.hid hq
            have HCl := Lib.hid hc
            have HRl : Hid (RowO _ _ _ Al Yl) := Lib.hid ⟨hr, ho⟩
            clear hq hc hr ho
            obtain ⟨L, hL⟩ : ∃ L, Yl.length = L := ⟨_, rfl⟩
            have hcl := HCl.out
            rw [hL] at hcl ⊢
            have HLen : Hid (ll.length = L) := Lib.hid (by rw [← HQl.out, bl_len]; exact hL)
            have HYL := Lib.hid hL
            clear hL
            try dsimp only
            go_wp2_with fail
            go_loopw [18] (fun i wr => ∃ (j : Nat), j ≤ L ∧ i = .int .i64 j ∧ Hid (Sts D w wr aA XA_1 t) ∧ Hid (RowO w wr XA_1 Al Yl)) (fun i _ => L - (intOf i).toNat)
            case atStart => exact ⟨0, Nat.zero_le _, rfl, HSA, HRl⟩
            case round =>
              obtain ⟨j, hj, rfl, HSA, HRl⟩ := hrel
              have HB1 := Lib.hid HSA.out.b
              by_cases hjl : j < L
              · have hji : (j : Int) < (L : Int) := by omega
                have hj0 : (0 : Int) ≤ (j : Int) := Int.natCast_nonneg j
                have hjll : j < ll.length := by rw [HLen.out]; exact hjl
                obtain ⟨bq, oq, rfl, hbq, hcq⟩ := HRl.out.r j (by rw [HYL.out]; exact hjl)
                obtain ⟨y, hy⟩ : ∃ y, Yl.getD j ByteArray.empty = y := ⟨_, rfl⟩
                have HY : Hid (y.data.toList = ll[j]) := Lib.hid (by rw [← hy]; exact bl_get HQl.out hjll)
                rw [hy] at hcq
                clear hy
                have hyz : y.size ≤ 140737488351232 := by rw [Lib.size_eq, HY.out]; have := lists_small HSA.out.f HLl.out hjll; omega
                go_wp2_with fail
                with_reducible refine (st_get HOK.out HSA.out HY.out hyz).mono ?_
                rintro e w2 ⟨⟨T2, hT2, rfl⟩, hb2⟩
                have HB2 := Lib.hid (bel_call HB1.out hb2)
                replace HSA := Lib.hid (HSA.out.below HOK.out hb2)
                replace HRl := Lib.hid (HRl.out.below hb2)
                clear hb2
                clear hT2
                rw [getS_is (lists_is HLl.out hjll)]
                try dsimp only
                obtain ⟨bq1, oq1, eq1, hbq1, hcq1⟩ := HRl.out.r j (by rw [HYL.out]; exact hjl)
                obtain ⟨rfl, rfl, _⟩ : bq = bq1 ∧ oq = oq1 ∧ True := by injection eq1 with eq1; injection eq1 with e1 e2; exact ⟨e1, e2, trivial⟩
                obtain ⟨y2, hy2⟩ : ∃ y, Yl.getD j ByteArray.empty = y := ⟨_, rfl⟩
                have HY2 : Hid (y2.data.toList = ll[j]) := Lib.hid (by rw [← hy2]; exact bl_get HQl.out hjll)
                rw [hy2] at hcq1
                clear hy2 eq1 hbq hcq
                by_cases hj1 : j = 0
                · subst hj1
                  go_wp2_with fail
                  go_quiet (fail)
                  go_wp2
                  go_roundw
                  case rel => exact ⟨1, by omega, by go_num, Lib.hid (HSA.out.below HOK.out (bdrew _ _)), Lib.hid (HRl.out.below (bdrew _ _))⟩
                  case measure => simp [intOf]; omega
                · obtain ⟨i, hi⟩ : ∃ i, j = i + 1 := ⟨j - 1, by omega⟩
                  have hill : i < ll.length := by omega
                  have hj1i : (0 : Int) < (j : Int) := by omega
                  have hj1n : 0 < j := by omega
                  have hjm : (j : Int) - 1 = (i : Int) := by omega
                  have hjw : IntKind.i64.wrap ((j : Int) - 1) = (i : Int) := by rw [hjm, IntKind.wrap_i64]; omega
                  have hiw : IntKind.i64.wrap (i : Int) = (i : Int) := by rw [IntKind.wrap_i64]; omega
                  have hi0 : (0 : Int) ≤ (i : Int) := Int.natCast_nonneg i
                  have hiL : (i : Int) < (L : Int) := by omega
                  obtain ⟨bq2, oq2, eq2, hbq2, hcq2⟩ := HRl.out.r i (by rw [HYL.out]; omega)
                  obtain ⟨rfl, rfl, _⟩ : bq = bq2 ∧ oq = oq2 ∧ True := by injection eq2 with eq2; injection eq2 with e1 e2; exact ⟨e1, e2, trivial⟩
                  obtain ⟨y3, hy3⟩ : ∃ y, Yl.getD i ByteArray.empty = y := ⟨_, rfl⟩
                  have HY3 : Hid (y3.data.toList = ll[i]) := Lib.hid (by rw [← hy3]; exact bl_get HQl.out hill)
                  rw [hy3] at hcq2
                  clear hy3 eq2
                  have hless : Op.bytesLess y3.data.toList y2.data.toList = true := by rw [HY3.out, HY2.out]; exact rising_at HLl.out.1 (by omega) hjll
                  have HI := Lib.hid hi
                  clear hi
                  have hl1 : Op.bytesLess y2.toList y3.toList = false := by rw [Lib.toList_data, Lib.toList_data]; cases h9 : Op.bytesLess y2.data.toList y3.data.toList with
                    | false => rfl
                    | true => exact (less_asymm hless h9).elim
                  have hl2 : (y2.toList == y3.toList) = false := ne_bool fun h9 => by rw [h9, less_irrefl] at hless; cases hless
                  clear hless
                  go_wp2_with fail
                  go_quiet (fail)
                  go_wp2
                  go_roundw
                  case rel => exact ⟨j + 1, by omega, by go_num, Lib.hid (HSA.out.below HOK.out (bdrew _ _)), Lib.hid (HRl.out.below (bdrew _ _))⟩
                  case measure => simp [intOf]; omega
              · obtain rfl : j = L := by omega
                go_wp2_with fail
                with_reducible refine (st_get HOK.out HSA.out HKl.out hkz).mono ?_
                rintro e w2 ⟨⟨T4, hT4, rfl⟩, hb2⟩
                have HB2 := Lib.hid (bel_call HB1.out hb2)
                replace HSA := Lib.hid (HSA.out.below HOK.out hb2)
                replace HRl := Lib.hid (HRl.out.below hb2)
                clear hb2
                clear hT4
                obtain ⟨ge2, hge2⟩ : ∃ ge2, (getS t Kl).2 = ge2 := ⟨_, rfl⟩
                rw [hge2]
                have HGE := Lib.hid hge2
                clear hge2
                try dsimp only
                go_wp2_with fail
                go_loopw [23, 24] (fun nv i wr => ∃ (jj : Nat), jj ≤ j ∧ nv = .int .i64 (((ll.take jj).count Kl : Nat) : Int) ∧ i = .int .i64 jj ∧ Hid (Sts D w wr aA XA_1 t) ∧ Hid (RowO w wr XA_1 Al Yl)) (fun _ i _ => j - (intOf i).toNat)
                case atStart => exact ⟨0, Nat.zero_le _, rfl, rfl, HSA, HRl⟩
                case round =>
                  obtain ⟨jj, hjj, rfl, rfl, HSA, HRl⟩ := hrel
                  have HB1 := Lib.hid HSA.out.b
                  by_cases hjl : jj < j
                  · have hji : (jj : Int) < (j : Int) := by omega
                    have hjj0 : (0 : Int) ≤ (jj : Int) := Int.natCast_nonneg jj
                    have hjll : jj < ll.length := by rw [HLen.out]; exact hjl
                    obtain ⟨bq, oq, rfl, hbq, hcq⟩ := HRl.out.r jj (by rw [HYL.out]; exact hjl)
                    obtain ⟨y, hy⟩ : ∃ y, Yl.getD jj ByteArray.empty = y := ⟨_, rfl⟩
                    have HY : Hid (y.data.toList = ll[jj]) := Lib.hid (by rw [← hy]; exact bl_get HQl.out hjll)
                    rw [hy] at hcq
                    clear hy
                    have HCS := Lib.hid (count_step (k := Kl) hjll)
                    have hcl1 : (ll.take jj).count Kl ≤ jj := Nat.le_trans List.count_le_length (by rw [List.length_take]; omega)
                    obtain ⟨cc, hcc⟩ : ∃ cc, (ll.take jj).count Kl = cc := ⟨_, rfl⟩
                    rw [hcc] at HCS hcl1 ⊢
                    clear hcc
                    have hcw : IntKind.i64.wrap ((cc : Int) + 1) = (cc : Int) + 1 := by rw [IntKind.wrap_i64]; omega
                    by_cases he : y.data.toList = Kl
                    · have hb9 := eq_bool (he.trans HKl.out.symm)
                      have hcs : (ll.take (jj + 1)).count Kl = cc + 1 := by rw [HCS.out, if_pos (HY.out.symm.trans he)]
                      have HC9 := Lib.hid hcs
                      clear hcs
                      go_wp2_with fail
                      go_roundw
                      case rel => exact ⟨jj + 1, by omega, by rw [HC9.out]; go_num, by go_num, by first | exact HSA | exact Lib.hid (HSA.out.below HOK.out (bdrew _ _)), by first | exact HRl | exact Lib.hid (HRl.out.below (bdrew _ _))⟩
                      case measure => simp [intOf]; omega
                    · have hb9 := ne_bool (fun h => he (h.trans HKl.out))
                      have hcs : (ll.take (jj + 1)).count Kl = cc := by rw [HCS.out, if_neg fun h => he (HY.out.trans h)]; rfl
                      have HC9 := Lib.hid hcs
                      clear hcs
                      go_wp2_with fail
                      go_roundw
                      case rel => exact ⟨jj + 1, by omega, by rw [HC9.out], by go_num, by first | exact HSA | exact Lib.hid (HSA.out.below HOK.out (bdrew _ _)), by first | exact HRl | exact Lib.hid (HRl.out.below (bdrew _ _))⟩
                      case measure => simp [intOf]; omega
                  · obtain rfl : jj = j := by omega
                    have hcnt : (ll.take jj).count Kl = if (t).is Kl = true then 1 else 0 := by rw [List.take_of_length_le (by rw [HLen.out]; exact Nat.le_refl _)]; exact lists_count HLl.out
                    by_cases his : (t).is Kl = true
                    · rw [if_pos his] at hcnt
                      rw [hcnt]
                      have hg := HGE.out
                      rw [getS_is his] at hg
                      subst hg
                      go_wp2
                      go_roundw
                      case rel => exact ⟨k + 1, _, _, by omega, by go_num, HF2, HSA⟩
                      case measure => simp [intOf]; omega
                    · rw [if_neg his] at hcnt
                      rw [hcnt]
                      have hg := HGE.out
                      rw [getS_no (by simpa using his)] at hg
                      subst hg
                      go_wp2
                      go_roundw
                      case rel => exact ⟨k + 1, _, _, by omega, by go_num, HF2, HSA⟩
                      case measure => simp [intOf]; omega
        · skip
          by_cases h6 : 200 < Kl.length
          · as_aux_lemma =>
              have hE : putE t Kl zB.data.toList = 1 := bd_arg (Or.inr h6)
              rw [hE]
              have hke : K.toList.isEmpty = false := by rw [HKE.out]; exact decide_eq_false h5
              have hk2 : ¬ (K.size : Int) ≤ 200 := by omega
              obtain ⟨nr, dr0, dr1, dr2, dr3⟩ := HXr.out
              rw [putS_no (by rw [hE]; decide)] at HSA
              clear hE
              have HF2 : Hid (t.n ≤ k + 1) := Lib.hid (Nat.le_succ_of_le HF.out)
              go_wp2_with fail
              with_reducible refine (st_vers HOK.out HSA.out HKl.out hkz).mono ?_
              rintro e w7 ⟨hx, hb7⟩
              have HB7 := Lib.hid (bel_call HB6.out hb7)
              replace HSA := Lib.hid (HSA.out.below HOK.out hb7)
              replace HXr := Lib.hid (HXr.out.below hb7)
              clear hb7
              obtain ⟨Ay, cy, Yy, hq, hc, hr, ho, rfl⟩ := hx
              have HQy := Lib.hid hq
              have HCy := Lib.hid hc
              have HRy : Hid (RowO _ _ _ Ay Yy) := Lib.hid ⟨hr, ho⟩
              clear hq hc hr ho
              have hln : Yy.length = m := by rw [← bl_len, HQy.out]; exact HM.out
              have hcy := HCy.out
              rw [hln] at hcy ⊢
              clear hln
              try dsimp only
              clear HRy
              clear nr dr0 dr1 dr2 dr3
              go_wp2_with fail
              with_reducible refine (st_puts HOK.out HSA.out).mono ?_
              rintro e w8 ⟨rfl, hb8⟩
              have HB8 := Lib.hid (bel_call HB7.out hb8)
              replace HSA := Lib.hid (HSA.out.below HOK.out hb8)
              replace HXr := Lib.hid (HXr.out.below hb8)
              clear hb8
              rw [HN.out]
              try dsimp only
              obtain ⟨nr, dr0, dr1, dr2, dr3⟩ := HXr.out
              go_wp2_with fail
              with_reducible refine (st_get HOK.out HSA.out HKl.out hkz).mono ?_
              rintro e w9 ⟨⟨T1, hT1, rfl⟩, hb9⟩
              clear nr dr0 dr1 dr2 dr3
              have HB9 := Lib.hid (bel_call HB8.out hb9)
              replace HSA := Lib.hid (HSA.out.below HOK.out hb9)
              replace HXr := Lib.hid (HXr.out.below hb9)
              clear hb9
              clear hT1
              generalize (getS t Kl).2 = ge
              try dsimp only
              go_wp2_with fail
              with_reducible refine (st_list HOK.out HSA.out (K := ⟨#[]⟩) (k := []) rfl (by decide)).mono ?_
              rintro e w10 ⟨hx, hb10⟩
              have HB10 := Lib.hid (bel_call HB9.out hb10)
              replace HSA := Lib.hid (HSA.out.below HOK.out hb10)
              replace HXr := Lib.hid (HXr.out.below hb10)
              clear hb10
              obtain ⟨ll, hll, hx⟩ := hx
              have HLl := Lib.hid hll
              clear hll
              obtain ⟨Al, cl, Yl, hq, hc, hr, ho, rfl⟩ := hx
              have HQl := Lib.hid hq
              have HCl := Lib.hid hc
              have HRl : Hid (RowO _ _ _ Al Yl) := Lib.hid ⟨hr, ho⟩
              clear hq hc hr ho
              obtain ⟨L, hL⟩ : ∃ L, Yl.length = L := ⟨_, rfl⟩
              have hcl := HCl.out
              rw [hL] at hcl ⊢
              have HLen : Hid (ll.length = L) := Lib.hid (by rw [← HQl.out, bl_len]; exact hL)
              have HYL := Lib.hid hL
              clear hL
              try dsimp only
              go_wp2_with fail
              go_loopw [18] (fun i wr => ∃ (j : Nat), j ≤ L ∧ i = .int .i64 j ∧ Hid (Sts D w wr aA XA_1 t) ∧ Hid (RowO w wr XA_1 Al Yl)) (fun i _ => L - (intOf i).toNat)
              case atStart => exact ⟨0, Nat.zero_le _, rfl, HSA, HRl⟩
              case round =>
                obtain ⟨j, hj, rfl, HSA, HRl⟩ := hrel
                have HB1 := Lib.hid HSA.out.b
                by_cases hjl : j < L
                · have hji : (j : Int) < (L : Int) := by omega
                  have hj0 : (0 : Int) ≤ (j : Int) := Int.natCast_nonneg j
                  have hjll : j < ll.length := by rw [HLen.out]; exact hjl
                  obtain ⟨bq, oq, rfl, hbq, hcq⟩ := HRl.out.r j (by rw [HYL.out]; exact hjl)
                  obtain ⟨y, hy⟩ : ∃ y, Yl.getD j ByteArray.empty = y := ⟨_, rfl⟩
                  have HY : Hid (y.data.toList = ll[j]) := Lib.hid (by rw [← hy]; exact bl_get HQl.out hjll)
                  rw [hy] at hcq
                  clear hy
                  have hyz : y.size ≤ 140737488351232 := by rw [Lib.size_eq, HY.out]; have := lists_small HSA.out.f HLl.out hjll; omega
                  go_wp2_with fail
                  with_reducible refine (st_get HOK.out HSA.out HY.out hyz).mono ?_
                  rintro e w2 ⟨⟨T2, hT2, rfl⟩, hb2⟩
                  have HB2 := Lib.hid (bel_call HB1.out hb2)
                  replace HSA := Lib.hid (HSA.out.below HOK.out hb2)
                  replace HRl := Lib.hid (HRl.out.below hb2)
                  clear hb2
                  clear hT2
                  rw [getS_is (lists_is HLl.out hjll)]
                  try dsimp only
                  obtain ⟨bq1, oq1, eq1, hbq1, hcq1⟩ := HRl.out.r j (by rw [HYL.out]; exact hjl)
                  obtain ⟨rfl, rfl, _⟩ : bq = bq1 ∧ oq = oq1 ∧ True := by injection eq1 with eq1; injection eq1 with e1 e2; exact ⟨e1, e2, trivial⟩
                  obtain ⟨y2, hy2⟩ : ∃ y, Yl.getD j ByteArray.empty = y := ⟨_, rfl⟩
                  have HY2 : Hid (y2.data.toList = ll[j]) := Lib.hid (by rw [← hy2]; exact bl_get HQl.out hjll)
                  rw [hy2] at hcq1
                  clear hy2 eq1 hbq hcq
                  by_cases hj1 : j = 0
                  · subst hj1
                    go_wp2_with fail
                    go_quiet (fail)
                    go_wp2
                    go_roundw
                    case rel => exact ⟨1, by omega, by go_num, Lib.hid (HSA.out.below HOK.out (bdrew _ _)), Lib.hid (HRl.out.below (bdrew _ _))⟩
                    case measure => simp [intOf]; omega
                  · obtain ⟨i, hi⟩ : ∃ i, j = i + 1 := ⟨j - 1, by omega⟩
                    have hill : i < ll.length := by omega
                    have hj1i : (0 : Int) < (j : Int) := by omega
                    have hj1n : 0 < j := by omega
                    have hjm : (j : Int) - 1 = (i : Int) := by omega
                    have hjw : IntKind.i64.wrap ((j : Int) - 1) = (i : Int) := by rw [hjm, IntKind.wrap_i64]; omega
                    have hiw : IntKind.i64.wrap (i : Int) = (i : Int) := by rw [IntKind.wrap_i64]; omega
                    have hi0 : (0 : Int) ≤ (i : Int) := Int.natCast_nonneg i
                    have hiL : (i : Int) < (L : Int) := by omega
                    obtain ⟨bq2, oq2, eq2, hbq2, hcq2⟩ := HRl.out.r i (by rw [HYL.out]; omega)
                    obtain ⟨rfl, rfl, _⟩ : bq = bq2 ∧ oq = oq2 ∧ True := by injection eq2 with eq2; injection eq2 with e1 e2; exact ⟨e1, e2, trivial⟩
                    obtain ⟨y3, hy3⟩ : ∃ y, Yl.getD i ByteArray.empty = y := ⟨_, rfl⟩
                    have HY3 : Hid (y3.data.toList = ll[i]) := Lib.hid (by rw [← hy3]; exact bl_get HQl.out hill)
                    rw [hy3] at hcq2
                    clear hy3 eq2
                    have hless : Op.bytesLess y3.data.toList y2.data.toList = true := by rw [HY3.out, HY2.out]; exact rising_at HLl.out.1 (by omega) hjll
                    have HI := Lib.hid hi
                    clear hi
                    have hl1 : Op.bytesLess y2.toList y3.toList = false := by rw [Lib.toList_data, Lib.toList_data]; cases h9 : Op.bytesLess y2.data.toList y3.data.toList with
                      | false => rfl
                      | true => exact (less_asymm hless h9).elim
                    have hl2 : (y2.toList == y3.toList) = false := ne_bool fun h9 => by rw [h9, less_irrefl] at hless; cases hless
                    clear hless
                    go_wp2_with fail
                    go_quiet (fail)
                    go_wp2
                    go_roundw
                    case rel => exact ⟨j + 1, by omega, by go_num, Lib.hid (HSA.out.below HOK.out (bdrew _ _)), Lib.hid (HRl.out.below (bdrew _ _))⟩
                    case measure => simp [intOf]; omega
                · obtain rfl : j = L := by omega
                  go_wp2_with fail
                  with_reducible refine (st_get HOK.out HSA.out HKl.out hkz).mono ?_
                  rintro e w2 ⟨⟨T4, hT4, rfl⟩, hb2⟩
                  have HB2 := Lib.hid (bel_call HB1.out hb2)
                  replace HSA := Lib.hid (HSA.out.below HOK.out hb2)
                  replace HRl := Lib.hid (HRl.out.below hb2)
                  clear hb2
                  clear hT4
                  obtain ⟨ge2, hge2⟩ : ∃ ge2, (getS t Kl).2 = ge2 := ⟨_, rfl⟩
                  rw [hge2]
                  have HGE := Lib.hid hge2
                  clear hge2
                  try dsimp only
                  go_wp2_with fail
                  go_loopw [23, 24] (fun nv i wr => ∃ (jj : Nat), jj ≤ j ∧ nv = .int .i64 (((ll.take jj).count Kl : Nat) : Int) ∧ i = .int .i64 jj ∧ Hid (Sts D w wr aA XA_1 t) ∧ Hid (RowO w wr XA_1 Al Yl)) (fun _ i _ => j - (intOf i).toNat)
                  case atStart => exact ⟨0, Nat.zero_le _, rfl, rfl, HSA, HRl⟩
                  case round =>
                    obtain ⟨jj, hjj, rfl, rfl, HSA, HRl⟩ := hrel
                    have HB1 := Lib.hid HSA.out.b
                    by_cases hjl : jj < j
                    · have hji : (jj : Int) < (j : Int) := by omega
                      have hjj0 : (0 : Int) ≤ (jj : Int) := Int.natCast_nonneg jj
                      have hjll : jj < ll.length := by rw [HLen.out]; exact hjl
                      obtain ⟨bq, oq, rfl, hbq, hcq⟩ := HRl.out.r jj (by rw [HYL.out]; exact hjl)
                      obtain ⟨y, hy⟩ : ∃ y, Yl.getD jj ByteArray.empty = y := ⟨_, rfl⟩
                      have HY : Hid (y.data.toList = ll[jj]) := Lib.hid (by rw [← hy]; exact bl_get HQl.out hjll)
                      rw [hy] at hcq
                      clear hy
                      have HCS := Lib.hid (count_step (k := Kl) hjll)
                      have hcl1 : (ll.take jj).count Kl ≤ jj := Nat.le_trans List.count_le_length (by rw [List.length_take]; omega)
                      obtain ⟨cc, hcc⟩ : ∃ cc, (ll.take jj).count Kl = cc := ⟨_, rfl⟩
                      rw [hcc] at HCS hcl1 ⊢
                      clear hcc
                      have hcw : IntKind.i64.wrap ((cc : Int) + 1) = (cc : Int) + 1 := by rw [IntKind.wrap_i64]; omega
                      by_cases he : y.data.toList = Kl
                      · have hb9 := eq_bool (he.trans HKl.out.symm)
                        have hcs : (ll.take (jj + 1)).count Kl = cc + 1 := by rw [HCS.out, if_pos (HY.out.symm.trans he)]
                        have HC9 := Lib.hid hcs
                        clear hcs
                        go_wp2_with fail
                        go_roundw
                        case rel => exact ⟨jj + 1, by omega, by rw [HC9.out]; go_num, by go_num, by first | exact HSA | exact Lib.hid (HSA.out.below HOK.out (bdrew _ _)), by first | exact HRl | exact Lib.hid (HRl.out.below (bdrew _ _))⟩
                        case measure => simp [intOf]; omega
                      · have hb9 := ne_bool (fun h => he (h.trans HKl.out))
                        have hcs : (ll.take (jj + 1)).count Kl = cc := by rw [HCS.out, if_neg fun h => he (HY.out.trans h)]; rfl
                        have HC9 := Lib.hid hcs
                        clear hcs
                        go_wp2_with fail
                        go_roundw
                        case rel => exact ⟨jj + 1, by omega, by rw [HC9.out], by go_num, by first | exact HSA | exact Lib.hid (HSA.out.below HOK.out (bdrew _ _)), by first | exact HRl | exact Lib.hid (HRl.out.below (bdrew _ _))⟩
                        case measure => simp [intOf]; omega
                    · obtain rfl : jj = j := by omega
                      have hcnt : (ll.take jj).count Kl = if (t).is Kl = true then 1 else 0 := by rw [List.take_of_length_le (by rw [HLen.out]; exact Nat.le_refl _)]; exact lists_count HLl.out
                      by_cases his : (t).is Kl = true
                      · rw [if_pos his] at hcnt
                        rw [hcnt]
                        have hg := HGE.out
                        rw [getS_is his] at hg
                        subst hg
                        go_wp2
                        go_roundw
                        case rel => exact ⟨k + 1, _, _, by omega, by go_num, HF2, HSA⟩
                        case measure => simp [intOf]; omega
                      · rw [if_neg his] at hcnt
                        rw [hcnt]
                        have hg := HGE.out
                        rw [getS_no (by simpa using his)] at hg
                        subst hg
                        go_wp2
                        go_roundw
                        case rel => exact ⟨k + 1, _, _, by omega, by go_num, HF2, HSA⟩
                        case measure => simp [intOf]; omega
          · skip
            by_cases h7 : 40000 < zB.data.toList.length
            · as_aux_lemma =>
                have hE : putE t Kl zB.data.toList = 10 := bd_big h5 h6 h7
                rw [hE]
                have hke : K.toList.isEmpty = false := by rw [HKE.out]; exact decide_eq_false h5
                have hk2 : (K.size : Int) ≤ 200 := by omega
                have hb4 : ¬ (zB.size : Int) ≤ 40000 := by omega
                obtain ⟨nr, dr0, dr1, dr2, dr3⟩ := HXr.out
                rw [putS_no (by rw [hE]; decide)] at HSA
                clear hE
                have HF2 : Hid (t.n ≤ k + 1) := Lib.hid (Nat.le_succ_of_le HF.out)
                go_wp2_with fail
                with_reducible refine (st_vers HOK.out HSA.out HKl.out hkz).mono ?_
                rintro e w7 ⟨hx, hb7⟩
                have HB7 := Lib.hid (bel_call HB6.out hb7)
                replace HSA := Lib.hid (HSA.out.below HOK.out hb7)
                replace HXr := Lib.hid (HXr.out.below hb7)
                clear hb7
                obtain ⟨Ay, cy, Yy, hq, hc, hr, ho, rfl⟩ := hx
                have HQy := Lib.hid hq
                have HCy := Lib.hid hc
                have HRy : Hid (RowO _ _ _ Ay Yy) := Lib.hid ⟨hr, ho⟩
                clear hq hc hr ho
                have hln : Yy.length = m := by rw [← bl_len, HQy.out]; exact HM.out
                have hcy := HCy.out
                rw [hln] at hcy ⊢
                clear hln
                try dsimp only
                clear HRy
                clear nr dr0 dr1 dr2 dr3
                go_wp2_with fail
                with_reducible refine (st_puts HOK.out HSA.out).mono ?_
                rintro e w8 ⟨rfl, hb8⟩
                have HB8 := Lib.hid (bel_call HB7.out hb8)
                replace HSA := Lib.hid (HSA.out.below HOK.out hb8)
                replace HXr := Lib.hid (HXr.out.below hb8)
                clear hb8
                rw [HN.out]
                try dsimp only
                obtain ⟨nr, dr0, dr1, dr2, dr3⟩ := HXr.out
                go_wp2_with fail
                with_reducible refine (st_get HOK.out HSA.out HKl.out hkz).mono ?_
                rintro e w9 ⟨⟨T1, hT1, rfl⟩, hb9⟩
                clear nr dr0 dr1 dr2 dr3
                have HB9 := Lib.hid (bel_call HB8.out hb9)
                replace HSA := Lib.hid (HSA.out.below HOK.out hb9)
                replace HXr := Lib.hid (HXr.out.below hb9)
                clear hb9
                clear hT1
                generalize (getS t Kl).2 = ge
                try dsimp only
                go_wp2_with fail
                with_reducible refine (st_list HOK.out HSA.out (K := ⟨#[]⟩) (k := []) rfl (by decide)).mono ?_
                rintro e w10 ⟨hx, hb10⟩
                have HB10 := Lib.hid (bel_call HB9.out hb10)
                replace HSA := Lib.hid (HSA.out.below HOK.out hb10)
                replace HXr := Lib.hid (HXr.out.below hb10)
                clear hb10
                obtain ⟨ll, hll, hx⟩ := hx
                have HLl := Lib.hid hll
                clear hll
                obtain ⟨Al, cl, Yl, hq, hc, hr, ho, rfl⟩ := hx
                have HQl := Lib.hid hq
                have HCl := Lib.hid hc
                have HRl : Hid (RowO _ _ _ Al Yl) := Lib.hid ⟨hr, ho⟩
                clear hq hc hr ho
                obtain ⟨L, hL⟩ : ∃ L, Yl.length = L := ⟨_, rfl⟩
                have hcl := HCl.out
                rw [hL] at hcl ⊢
                have HLen : Hid (ll.length = L) := Lib.hid (by rw [← HQl.out, bl_len]; exact hL)
                have HYL := Lib.hid hL
                clear hL
                try dsimp only
                go_wp2_with fail
                go_loopw [18] (fun i wr => ∃ (j : Nat), j ≤ L ∧ i = .int .i64 j ∧ Hid (Sts D w wr aA XA_1 t) ∧ Hid (RowO w wr XA_1 Al Yl)) (fun i _ => L - (intOf i).toNat)
                case atStart => exact ⟨0, Nat.zero_le _, rfl, HSA, HRl⟩
                case round =>
                  obtain ⟨j, hj, rfl, HSA, HRl⟩ := hrel
                  have HB1 := Lib.hid HSA.out.b
                  by_cases hjl : j < L
                  · have hji : (j : Int) < (L : Int) := by omega
                    have hj0 : (0 : Int) ≤ (j : Int) := Int.natCast_nonneg j
                    have hjll : j < ll.length := by rw [HLen.out]; exact hjl
                    obtain ⟨bq, oq, rfl, hbq, hcq⟩ := HRl.out.r j (by rw [HYL.out]; exact hjl)
                    obtain ⟨y, hy⟩ : ∃ y, Yl.getD j ByteArray.empty = y := ⟨_, rfl⟩
                    have HY : Hid (y.data.toList = ll[j]) := Lib.hid (by rw [← hy]; exact bl_get HQl.out hjll)
                    rw [hy] at hcq
                    clear hy
                    have hyz : y.size ≤ 140737488351232 := by rw [Lib.size_eq, HY.out]; have := lists_small HSA.out.f HLl.out hjll; omega
                    go_wp2_with fail
                    with_reducible refine (st_get HOK.out HSA.out HY.out hyz).mono ?_
                    rintro e w2 ⟨⟨T2, hT2, rfl⟩, hb2⟩
                    have HB2 := Lib.hid (bel_call HB1.out hb2)
                    replace HSA := Lib.hid (HSA.out.below HOK.out hb2)
                    replace HRl := Lib.hid (HRl.out.below hb2)
                    clear hb2
                    clear hT2
                    rw [getS_is (lists_is HLl.out hjll)]
                    try dsimp only
                    obtain ⟨bq1, oq1, eq1, hbq1, hcq1⟩ := HRl.out.r j (by rw [HYL.out]; exact hjl)
                    obtain ⟨rfl, rfl, _⟩ : bq = bq1 ∧ oq = oq1 ∧ True := by injection eq1 with eq1; injection eq1 with e1 e2; exact ⟨e1, e2, trivial⟩
                    obtain ⟨y2, hy2⟩ : ∃ y, Yl.getD j ByteArray.empty = y := ⟨_, rfl⟩
                    have HY2 : Hid (y2.data.toList = ll[j]) := Lib.hid (by rw [← hy2]; exact bl_get HQl.out hjll)
                    rw [hy2] at hcq1
                    clear hy2 eq1 hbq hcq
                    by_cases hj1 : j = 0
                    · subst hj1
                      go_wp2_with fail
                      go_quiet (fail)
                      go_wp2
                      go_roundw
                      case rel => exact ⟨1, by omega, by go_num, Lib.hid (HSA.out.below HOK.out (bdrew _ _)), Lib.hid (HRl.out.below (bdrew _ _))⟩
                      case measure => simp [intOf]; omega
                    · obtain ⟨i, hi⟩ : ∃ i, j = i + 1 := ⟨j - 1, by omega⟩
                      have hill : i < ll.length := by omega
                      have hj1i : (0 : Int) < (j : Int) := by omega
                      have hj1n : 0 < j := by omega
                      have hjm : (j : Int) - 1 = (i : Int) := by omega
                      have hjw : IntKind.i64.wrap ((j : Int) - 1) = (i : Int) := by rw [hjm, IntKind.wrap_i64]; omega
                      have hiw : IntKind.i64.wrap (i : Int) = (i : Int) := by rw [IntKind.wrap_i64]; omega
                      have hi0 : (0 : Int) ≤ (i : Int) := Int.natCast_nonneg i
                      have hiL : (i : Int) < (L : Int) := by omega
                      obtain ⟨bq2, oq2, eq2, hbq2, hcq2⟩ := HRl.out.r i (by rw [HYL.out]; omega)
                      obtain ⟨rfl, rfl, _⟩ : bq = bq2 ∧ oq = oq2 ∧ True := by injection eq2 with eq2; injection eq2 with e1 e2; exact ⟨e1, e2, trivial⟩
                      obtain ⟨y3, hy3⟩ : ∃ y, Yl.getD i ByteArray.empty = y := ⟨_, rfl⟩
                      have HY3 : Hid (y3.data.toList = ll[i]) := Lib.hid (by rw [← hy3]; exact bl_get HQl.out hill)
                      rw [hy3] at hcq2
                      clear hy3 eq2
                      have hless : Op.bytesLess y3.data.toList y2.data.toList = true := by rw [HY3.out, HY2.out]; exact rising_at HLl.out.1 (by omega) hjll
                      have HI := Lib.hid hi
                      clear hi
                      have hl1 : Op.bytesLess y2.toList y3.toList = false := by rw [Lib.toList_data, Lib.toList_data]; cases h9 : Op.bytesLess y2.data.toList y3.data.toList with
                        | false => rfl
                        | true => exact (less_asymm hless h9).elim
                      have hl2 : (y2.toList == y3.toList) = false := ne_bool fun h9 => by rw [h9, less_irrefl] at hless; cases hless
                      clear hless
                      go_wp2_with fail
                      go_quiet (fail)
                      go_wp2
                      go_roundw
                      case rel => exact ⟨j + 1, by omega, by go_num, Lib.hid (HSA.out.below HOK.out (bdrew _ _)), Lib.hid (HRl.out.below (bdrew _ _))⟩
                      case measure => simp [intOf]; omega
                  · obtain rfl : j = L := by omega
                    go_wp2_with fail
                    with_reducible refine (st_get HOK.out HSA.out HKl.out hkz).mono ?_
                    rintro e w2 ⟨⟨T4, hT4, rfl⟩, hb2⟩
                    have HB2 := Lib.hid (bel_call HB1.out hb2)
                    replace HSA := Lib.hid (HSA.out.below HOK.out hb2)
                    replace HRl := Lib.hid (HRl.out.below hb2)
                    clear hb2
                    clear hT4
                    obtain ⟨ge2, hge2⟩ : ∃ ge2, (getS t Kl).2 = ge2 := ⟨_, rfl⟩
                    rw [hge2]
                    have HGE := Lib.hid hge2
                    clear hge2
                    try dsimp only
                    go_wp2_with fail
                    go_loopw [23, 24] (fun nv i wr => ∃ (jj : Nat), jj ≤ j ∧ nv = .int .i64 (((ll.take jj).count Kl : Nat) : Int) ∧ i = .int .i64 jj ∧ Hid (Sts D w wr aA XA_1 t) ∧ Hid (RowO w wr XA_1 Al Yl)) (fun _ i _ => j - (intOf i).toNat)
                    case atStart => exact ⟨0, Nat.zero_le _, rfl, rfl, HSA, HRl⟩
                    case round =>
                      obtain ⟨jj, hjj, rfl, rfl, HSA, HRl⟩ := hrel
                      have HB1 := Lib.hid HSA.out.b
                      by_cases hjl : jj < j
                      · have hji : (jj : Int) < (j : Int) := by omega
                        have hjj0 : (0 : Int) ≤ (jj : Int) := Int.natCast_nonneg jj
                        have hjll : jj < ll.length := by rw [HLen.out]; exact hjl
                        obtain ⟨bq, oq, rfl, hbq, hcq⟩ := HRl.out.r jj (by rw [HYL.out]; exact hjl)
                        obtain ⟨y, hy⟩ : ∃ y, Yl.getD jj ByteArray.empty = y := ⟨_, rfl⟩
                        have HY : Hid (y.data.toList = ll[jj]) := Lib.hid (by rw [← hy]; exact bl_get HQl.out hjll)
                        rw [hy] at hcq
                        clear hy
                        have HCS := Lib.hid (count_step (k := Kl) hjll)
                        have hcl1 : (ll.take jj).count Kl ≤ jj := Nat.le_trans List.count_le_length (by rw [List.length_take]; omega)
                        obtain ⟨cc, hcc⟩ : ∃ cc, (ll.take jj).count Kl = cc := ⟨_, rfl⟩
                        rw [hcc] at HCS hcl1 ⊢
                        clear hcc
                        have hcw : IntKind.i64.wrap ((cc : Int) + 1) = (cc : Int) + 1 := by rw [IntKind.wrap_i64]; omega
                        by_cases he : y.data.toList = Kl
                        · have hb9 := eq_bool (he.trans HKl.out.symm)
                          have hcs : (ll.take (jj + 1)).count Kl = cc + 1 := by rw [HCS.out, if_pos (HY.out.symm.trans he)]
                          have HC9 := Lib.hid hcs
                          clear hcs
                          go_wp2_with fail
                          go_roundw
                          case rel => exact ⟨jj + 1, by omega, by rw [HC9.out]; go_num, by go_num, by first | exact HSA | exact Lib.hid (HSA.out.below HOK.out (bdrew _ _)), by first | exact HRl | exact Lib.hid (HRl.out.below (bdrew _ _))⟩
                          case measure => simp [intOf]; omega
                        · have hb9 := ne_bool (fun h => he (h.trans HKl.out))
                          have hcs : (ll.take (jj + 1)).count Kl = cc := by rw [HCS.out, if_neg fun h => he (HY.out.trans h)]; rfl
                          have HC9 := Lib.hid hcs
                          clear hcs
                          go_wp2_with fail
                          go_roundw
                          case rel => exact ⟨jj + 1, by omega, by rw [HC9.out], by go_num, by first | exact HSA | exact Lib.hid (HSA.out.below HOK.out (bdrew _ _)), by first | exact HRl | exact Lib.hid (HRl.out.below (bdrew _ _))⟩
                          case measure => simp [intOf]; omega
                      · obtain rfl : jj = j := by omega
                        have hcnt : (ll.take jj).count Kl = if (t).is Kl = true then 1 else 0 := by rw [List.take_of_length_le (by rw [HLen.out]; exact Nat.le_refl _)]; exact lists_count HLl.out
                        by_cases his : (t).is Kl = true
                        · rw [if_pos his] at hcnt
                          rw [hcnt]
                          have hg := HGE.out
                          rw [getS_is his] at hg
                          subst hg
                          go_wp2
                          go_roundw
                          case rel => exact ⟨k + 1, _, _, by omega, by go_num, HF2, HSA⟩
                          case measure => simp [intOf]; omega
                        · rw [if_neg his] at hcnt
                          rw [hcnt]
                          have hg := HGE.out
                          rw [getS_no (by simpa using his)] at hg
                          subst hg
                          go_wp2
                          go_roundw
                          case rel => exact ⟨k + 1, _, _, by omega, by go_num, HF2, HSA⟩
                          case measure => simp [intOf]; omega
            · skip
              as_aux_lemma =>
                have hE : putE t Kl zB.data.toList = 0 := last_ok (by have := HF.out; omega) h5 h6 h7
                rw [hE]
                have hke : K.toList.isEmpty = false := by rw [HKE.out]; exact decide_eq_false h5
                have hk2 : (K.size : Int) ≤ 200 := by omega
                have hb4 : (zB.size : Int) ≤ 40000 := by omega
                obtain ⟨nr, dr0, dr1, dr2, dr3⟩ := HXr.out
                rw [putS_ok hE] at HSA
                have HF2 : Hid ((putD t Kl zB.data.toList).n ≤ k + 1) := Lib.hid (by have h5 : (putD t Kl zB.data.toList).n = t.n + 1 := rfl; have h6 := HF.out; omega)
                clear hE
                go_wp2_with fail
                with_reducible refine (st_vers HOK.out HSA.out HKl.out hkz).mono ?_
                rintro e w7 ⟨hx, hb7⟩
                have HB7 := Lib.hid (bel_call HB6.out hb7)
                replace HSA := Lib.hid (HSA.out.below HOK.out hb7)
                replace HXr := Lib.hid (HXr.out.below hb7)
                clear hb7
                obtain ⟨Ay, cy, Yy, hq, hc, hr, ho, rfl⟩ := hx
                have HQy := Lib.hid hq
                have HCy := Lib.hid hc
                have HRy : Hid (RowO _ _ _ Ay Yy) := Lib.hid ⟨hr, ho⟩
                clear hq hc hr ho
                have hln : Yy.length = m + 1 := by rw [← bl_len, HQy.out, putD_ver, List.length_append, HM.out]; rfl
                have hcy := HCy.out
                rw [hln] at hcy ⊢
                have hmw : IntKind.i64.wrap ((m : Int) + 1) = (m : Int) + 1 := by rw [IntKind.wrap_i64]; omega
                have hNw : IntKind.i64.wrap ((N : Int) + 1) = (N : Int) + 1 := by rw [IntKind.wrap_i64]; omega
                clear hln
                try dsimp only
                clear HRy
                clear nr dr0 dr1 dr2 dr3
                go_wp2_with fail
                with_reducible refine (st_puts HOK.out HSA.out).mono ?_
                rintro e w8 ⟨rfl, hb8⟩
                have HB8 := Lib.hid (bel_call HB7.out hb8)
                replace HSA := Lib.hid (HSA.out.below HOK.out hb8)
                replace HXr := Lib.hid (HXr.out.below hb8)
                clear hb8
                have hn1 : (((putD t Kl zB.data.toList).n : Nat) : Int) = (N : Int) + 1 := by show ((t.n + 1 : Nat) : Int) = _; rw [HN.out]; omega
                rw [hn1]
                try dsimp only
                obtain ⟨nr, dr0, dr1, dr2, dr3⟩ := HXr.out
                go_wp2_with fail
                with_reducible refine (st_get HOK.out HSA.out HKl.out hkz).mono ?_
                rintro e w9 ⟨⟨T1, hT1, rfl⟩, hb9⟩
                clear nr dr0 dr1 dr2 dr3
                have HB9 := Lib.hid (bel_call HB8.out hb9)
                replace HSA := Lib.hid (HSA.out.below HOK.out hb9)
                replace HXr := Lib.hid (HXr.out.below hb9)
                clear hb9
                rw [bd_get] at hT1 ⊢
                have hb1 := eq_bool hT1
                try dsimp only
                obtain ⟨nr, dr0, dr1, dr2, dr3⟩ := HXr.out
                go_wp2_with fail
                with_reducible refine (st_vers HOK.out HSA.out HKl.out hkz).mono ?_
                rintro e w10 ⟨hx, hb10⟩
                have HB10 := Lib.hid (bel_call HB9.out hb10)
                replace HSA := Lib.hid (HSA.out.below HOK.out hb10)
                replace HXr := Lib.hid (HXr.out.below hb10)
                clear hb10
                obtain ⟨Ay, cy, Yy, hq, hc, hr, ho, rfl⟩ := hx
                have HQy := Lib.hid hq
                have HCy := Lib.hid hc
                have HRy : Hid (RowO _ _ _ Ay Yy) := Lib.hid ⟨hr, ho⟩
                clear hq hc hr ho
                have hln : Yy.length = m + 1 := by rw [← bl_len, HQy.out, putD_ver, List.length_append, HM.out]; rfl
                have hlast : (Yy.getD m ByteArray.empty).data.toList = zB.data.toList := bl_last (by rw [HQy.out, putD_ver]) HM.out
                obtain ⟨by2, oy, rfl, hby, hcy2⟩ := HRy.out.r m (by omega)
                have hcy := HCy.out
                rw [hln] at hcy ⊢
                generalize Yy.getD m ByteArray.empty = T3 at hlast hcy2
                have hb3 := eq_bool (hlast.trans hT1.symm)
                have hm1 : (m : Int) < (m : Int) + 1 := by omega
                have hm0 : (0 : Int) ≤ (m : Int) := Int.natCast_nonneg m
                clear hln
                try dsimp only
                clear HRy
                clear nr dr0 dr1 dr2 dr3
                go_wp2_with fail
                with_reducible refine (st_list HOK.out HSA.out (K := ⟨#[]⟩) (k := []) rfl (by decide)).mono ?_
                rintro e w11 ⟨hx, hb11⟩
                have HB11 := Lib.hid (bel_call HB10.out hb11)
                replace HSA := Lib.hid (HSA.out.below HOK.out hb11)
                replace HXr := Lib.hid (HXr.out.below hb11)
                clear hb11
                obtain ⟨ll, hll, hx⟩ := hx
                have HLl := Lib.hid hll
                clear hll
                obtain ⟨Al, cl, Yl, hq, hc, hr, ho, rfl⟩ := hx
                have HQl := Lib.hid hq
                have HCl := Lib.hid hc
                have HRl : Hid (RowO _ _ _ Al Yl) := Lib.hid ⟨hr, ho⟩
                clear hq hc hr ho
                obtain ⟨L, hL⟩ : ∃ L, Yl.length = L := ⟨_, rfl⟩
                have hcl := HCl.out
                rw [hL] at hcl ⊢
                have HLen : Hid (ll.length = L) := Lib.hid (by rw [← HQl.out, bl_len]; exact hL)
                have HYL := Lib.hid hL
                clear hL
                try dsimp only
                go_wp2_with fail
                go_loopw [18] (fun i wr => ∃ (j : Nat), j ≤ L ∧ i = .int .i64 j ∧ Hid (Sts D w wr aA XA_1 (putD t Kl zB.data.toList)) ∧ Hid (RowO w wr XA_1 Al Yl)) (fun i _ => L - (intOf i).toNat)
                case atStart => exact ⟨0, Nat.zero_le _, rfl, HSA, HRl⟩
                case round =>
                  obtain ⟨j, hj, rfl, HSA, HRl⟩ := hrel
                  have HB1 := Lib.hid HSA.out.b
                  by_cases hjl : j < L
                  · have hji : (j : Int) < (L : Int) := by omega
                    have hj0 : (0 : Int) ≤ (j : Int) := Int.natCast_nonneg j
                    have hjll : j < ll.length := by rw [HLen.out]; exact hjl
                    obtain ⟨bq, oq, rfl, hbq, hcq⟩ := HRl.out.r j (by rw [HYL.out]; exact hjl)
                    obtain ⟨y, hy⟩ : ∃ y, Yl.getD j ByteArray.empty = y := ⟨_, rfl⟩
                    have HY : Hid (y.data.toList = ll[j]) := Lib.hid (by rw [← hy]; exact bl_get HQl.out hjll)
                    rw [hy] at hcq
                    clear hy
                    have hyz : y.size ≤ 140737488351232 := by rw [Lib.size_eq, HY.out]; have := lists_small HSA.out.f HLl.out hjll; omega
                    go_wp2_with fail
                    with_reducible refine (st_get HOK.out HSA.out HY.out hyz).mono ?_
                    rintro e w2 ⟨⟨T2, hT2, rfl⟩, hb2⟩
                    have HB2 := Lib.hid (bel_call HB1.out hb2)
                    replace HSA := Lib.hid (HSA.out.below HOK.out hb2)
                    replace HRl := Lib.hid (HRl.out.below hb2)
                    clear hb2
                    clear hT2
                    rw [getS_is (lists_is HLl.out hjll)]
                    try dsimp only
                    obtain ⟨bq1, oq1, eq1, hbq1, hcq1⟩ := HRl.out.r j (by rw [HYL.out]; exact hjl)
                    obtain ⟨rfl, rfl, _⟩ : bq = bq1 ∧ oq = oq1 ∧ True := by injection eq1 with eq1; injection eq1 with e1 e2; exact ⟨e1, e2, trivial⟩
                    obtain ⟨y2, hy2⟩ : ∃ y, Yl.getD j ByteArray.empty = y := ⟨_, rfl⟩
                    have HY2 : Hid (y2.data.toList = ll[j]) := Lib.hid (by rw [← hy2]; exact bl_get HQl.out hjll)
                    rw [hy2] at hcq1
                    clear hy2 eq1 hbq hcq
                    by_cases hj1 : j = 0
                    · subst hj1
                      go_wp2_with fail
                      go_quiet (fail)
                      go_wp2
                      go_roundw
                      case rel => exact ⟨1, by omega, by go_num, Lib.hid (HSA.out.below HOK.out (bdrew _ _)), Lib.hid (HRl.out.below (bdrew _ _))⟩
                      case measure => simp [intOf]; omega
                    · obtain ⟨i, hi⟩ : ∃ i, j = i + 1 := ⟨j - 1, by omega⟩
                      have hill : i < ll.length := by omega
                      have hj1i : (0 : Int) < (j : Int) := by omega
                      have hj1n : 0 < j := by omega
                      have hjm : (j : Int) - 1 = (i : Int) := by omega
                      have hjw : IntKind.i64.wrap ((j : Int) - 1) = (i : Int) := by rw [hjm, IntKind.wrap_i64]; omega
                      have hiw : IntKind.i64.wrap (i : Int) = (i : Int) := by rw [IntKind.wrap_i64]; omega
                      have hi0 : (0 : Int) ≤ (i : Int) := Int.natCast_nonneg i
                      have hiL : (i : Int) < (L : Int) := by omega
                      obtain ⟨bq2, oq2, eq2, hbq2, hcq2⟩ := HRl.out.r i (by rw [HYL.out]; omega)
                      obtain ⟨rfl, rfl, _⟩ : bq = bq2 ∧ oq = oq2 ∧ True := by injection eq2 with eq2; injection eq2 with e1 e2; exact ⟨e1, e2, trivial⟩
                      obtain ⟨y3, hy3⟩ : ∃ y, Yl.getD i ByteArray.empty = y := ⟨_, rfl⟩
                      have HY3 : Hid (y3.data.toList = ll[i]) := Lib.hid (by rw [← hy3]; exact bl_get HQl.out hill)
                      rw [hy3] at hcq2
                      clear hy3 eq2
                      have hless : Op.bytesLess y3.data.toList y2.data.toList = true := by rw [HY3.out, HY2.out]; exact rising_at HLl.out.1 (by omega) hjll
                      have HI := Lib.hid hi
                      clear hi
                      have hl1 : Op.bytesLess y2.toList y3.toList = false := by rw [Lib.toList_data, Lib.toList_data]; cases h9 : Op.bytesLess y2.data.toList y3.data.toList with
                        | false => rfl
                        | true => exact (less_asymm hless h9).elim
                      have hl2 : (y2.toList == y3.toList) = false := ne_bool fun h9 => by rw [h9, less_irrefl] at hless; cases hless
                      clear hless
                      go_wp2_with fail
                      go_quiet (fail)
                      go_wp2
                      go_roundw
                      case rel => exact ⟨j + 1, by omega, by go_num, Lib.hid (HSA.out.below HOK.out (bdrew _ _)), Lib.hid (HRl.out.below (bdrew _ _))⟩
                      case measure => simp [intOf]; omega
                  · obtain rfl : j = L := by omega
                    go_wp2_with fail
                    with_reducible refine (st_get HOK.out HSA.out HKl.out hkz).mono ?_
                    rintro e w2 ⟨⟨T4, hT4, rfl⟩, hb2⟩
                    have HB2 := Lib.hid (bel_call HB1.out hb2)
                    replace HSA := Lib.hid (HSA.out.below HOK.out hb2)
                    replace HRl := Lib.hid (HRl.out.below hb2)
                    clear hb2
                    clear hT4
                    obtain ⟨ge2, hge2⟩ : ∃ ge2, (getS (putD t Kl zB.data.toList) Kl).2 = ge2 := ⟨_, rfl⟩
                    rw [hge2]
                    have HGE := Lib.hid hge2
                    clear hge2
                    try dsimp only
                    go_wp2_with fail
                    go_loopw [23, 24] (fun nv i wr => ∃ (jj : Nat), jj ≤ j ∧ nv = .int .i64 (((ll.take jj).count Kl : Nat) : Int) ∧ i = .int .i64 jj ∧ Hid (Sts D w wr aA XA_1 (putD t Kl zB.data.toList)) ∧ Hid (RowO w wr XA_1 Al Yl)) (fun _ i _ => j - (intOf i).toNat)
                    case atStart => exact ⟨0, Nat.zero_le _, rfl, rfl, HSA, HRl⟩
                    case round =>
                      obtain ⟨jj, hjj, rfl, rfl, HSA, HRl⟩ := hrel
                      have HB1 := Lib.hid HSA.out.b
                      by_cases hjl : jj < j
                      · have hji : (jj : Int) < (j : Int) := by omega
                        have hjj0 : (0 : Int) ≤ (jj : Int) := Int.natCast_nonneg jj
                        have hjll : jj < ll.length := by rw [HLen.out]; exact hjl
                        obtain ⟨bq, oq, rfl, hbq, hcq⟩ := HRl.out.r jj (by rw [HYL.out]; exact hjl)
                        obtain ⟨y, hy⟩ : ∃ y, Yl.getD jj ByteArray.empty = y := ⟨_, rfl⟩
                        have HY : Hid (y.data.toList = ll[jj]) := Lib.hid (by rw [← hy]; exact bl_get HQl.out hjll)
                        rw [hy] at hcq
                        clear hy
                        have HCS := Lib.hid (count_step (k := Kl) hjll)
                        have hcl1 : (ll.take jj).count Kl ≤ jj := Nat.le_trans List.count_le_length (by rw [List.length_take]; omega)
                        obtain ⟨cc, hcc⟩ : ∃ cc, (ll.take jj).count Kl = cc := ⟨_, rfl⟩
                        rw [hcc] at HCS hcl1 ⊢
                        clear hcc
                        have hcw : IntKind.i64.wrap ((cc : Int) + 1) = (cc : Int) + 1 := by rw [IntKind.wrap_i64]; omega
                        by_cases he : y.data.toList = Kl
                        · have hb9 := eq_bool (he.trans HKl.out.symm)
                          have hcs : (ll.take (jj + 1)).count Kl = cc + 1 := by rw [HCS.out, if_pos (HY.out.symm.trans he)]
                          have HC9 := Lib.hid hcs
                          clear hcs
                          go_wp2_with fail
                          go_roundw
                          case rel => exact ⟨jj + 1, by omega, by rw [HC9.out]; go_num, by go_num, by first | exact HSA | exact Lib.hid (HSA.out.below HOK.out (bdrew _ _)), by first | exact HRl | exact Lib.hid (HRl.out.below (bdrew _ _))⟩
                          case measure => simp [intOf]; omega
                        · have hb9 := ne_bool (fun h => he (h.trans HKl.out))
                          have hcs : (ll.take (jj + 1)).count Kl = cc := by rw [HCS.out, if_neg fun h => he (HY.out.trans h)]; rfl
                          have HC9 := Lib.hid hcs
                          clear hcs
                          go_wp2_with fail
                          go_roundw
                          case rel => exact ⟨jj + 1, by omega, by rw [HC9.out], by go_num, by first | exact HSA | exact Lib.hid (HSA.out.below HOK.out (bdrew _ _)), by first | exact HRl | exact Lib.hid (HRl.out.below (bdrew _ _))⟩
                          case measure => simp [intOf]; omega
                      · obtain rfl : jj = j := by omega
                        have hcnt : (ll.take jj).count Kl = if ((putD t Kl zB.data.toList)).is Kl = true then 1 else 0 := by rw [List.take_of_length_le (by rw [HLen.out]; exact Nat.le_refl _)]; exact lists_count HLl.out
                        by_cases his : ((putD t Kl zB.data.toList)).is Kl = true
                        · rw [if_pos his] at hcnt
                          rw [hcnt]
                          have hg := HGE.out
                          rw [getS_is his] at hg
                          subst hg
                          go_wp2
                          go_roundw
                          case rel => exact ⟨k + 1, _, _, by omega, by go_num, HF2, HSA⟩
                          case measure => simp [intOf]; omega
                        · rw [if_neg his] at hcnt
                          rw [hcnt]
                          have hg := HGE.out
                          rw [getS_no (by simpa using his)] at hg
                          subst hg
                          go_wp2
                          go_roundw
                          case rel => exact ⟨k + 1, _, _, by omega, by go_num, HF2, HSA⟩
                          case measure => simp [intOf]; omega
      · as_aux_lemma =>
          have h3i : ¬ (p4 : Int) < 3 := by omega
          go_wp2_with fail
          with_reducible refine (st_del HOK.out HSA.out HKl.out hkz).mono ?_
          rw [delE_get]
          rintro e w6 ⟨rfl, XA_1, hs, hn⟩
          have HB6 := Lib.hid hs.b
          have hof := hn.off HXr.out.1 HNrA.out
          replace HXr := Lib.hid (HXr.out.next hn HNrA.out)
          replace HNrA := Lib.hid hof
          clear hof
          replace HSA := Lib.hid hs
          clear hs hn
          rw [HBE.out]
          try dsimp only
          go_wp2_with fail
          with_reducible refine (st_vers HOK.out HSA.out HKl.out hkz).mono ?_
          rintro e w7 ⟨hx, hb7⟩
          have HB7 := Lib.hid (bel_call HB6.out hb7)
          replace HSA := Lib.hid (HSA.out.below HOK.out hb7)
          replace HXr := Lib.hid (HXr.out.below hb7)
          clear hb7
          obtain ⟨Ay, cy, Yy, hq, hc, hr, ho, rfl⟩ := hx
          have HQy := Lib.hid hq
          have HCy := Lib.hid hc
          have HRy : Hid (RowO _ _ _ Ay Yy) := Lib.hid ⟨hr, ho⟩
          clear hq hc hr ho
          have hln : Yy.length = m := by rw [← bl_len, HQy.out]; exact HM.out
          have hcy := HCy.out
          rw [hln] at hcy ⊢
          clear hln
          try dsimp only
          clear HRy
          have HF2 : Hid ((delS t Kl).n ≤ k + 1) := Lib.hid (Nat.le_succ_of_le HF.out)
          generalize delS t Kl = t2 at HSA HF2
          go_wp2_with fail
          with_reducible refine (st_list HOK.out HSA.out (K := ⟨#[]⟩) (k := []) rfl (by decide)).mono ?_
          rintro e w8 ⟨hx, hb8⟩
          have HB8 := Lib.hid (bel_call HB7.out hb8)
          replace HSA := Lib.hid (HSA.out.below HOK.out hb8)
          replace HXr := Lib.hid (HXr.out.below hb8)
          clear hb8
          obtain ⟨ll, hll, hx⟩ := hx
          have HLl := Lib.hid hll
          clear hll
          obtain ⟨Al, cl, Yl, hq, hc, hr, ho, rfl⟩ := hx
          have HQl := Lib.hid hq
          have HCl := Lib.hid hc
          have HRl : Hid (RowO _ _ _ Al Yl) := Lib.hid ⟨hr, ho⟩
          clear hq hc hr ho
          obtain ⟨L, hL⟩ : ∃ L, Yl.length = L := ⟨_, rfl⟩
          have hcl := HCl.out
          rw [hL] at hcl ⊢
          have HLen : Hid (ll.length = L) := Lib.hid (by rw [← HQl.out, bl_len]; exact hL)
          have HYL := Lib.hid hL
          clear hL
          try dsimp only
          go_wp2_with fail
          go_loopw [18] (fun i wr => ∃ (j : Nat), j ≤ L ∧ i = .int .i64 j ∧ Hid (Sts D w wr aA XA_1 t2) ∧ Hid (RowO w wr XA_1 Al Yl)) (fun i _ => L - (intOf i).toNat)
          case atStart => exact ⟨0, Nat.zero_le _, rfl, HSA, HRl⟩
          case round =>
            obtain ⟨j, hj, rfl, HSA, HRl⟩ := hrel
            have HB1 := Lib.hid HSA.out.b
            by_cases hjl : j < L
            · have hji : (j : Int) < (L : Int) := by omega
              have hj0 : (0 : Int) ≤ (j : Int) := Int.natCast_nonneg j
              have hjll : j < ll.length := by rw [HLen.out]; exact hjl
              obtain ⟨bq, oq, rfl, hbq, hcq⟩ := HRl.out.r j (by rw [HYL.out]; exact hjl)
              obtain ⟨y, hy⟩ : ∃ y, Yl.getD j ByteArray.empty = y := ⟨_, rfl⟩
              have HY : Hid (y.data.toList = ll[j]) := Lib.hid (by rw [← hy]; exact bl_get HQl.out hjll)
              rw [hy] at hcq
              clear hy
              have hyz : y.size ≤ 140737488351232 := by rw [Lib.size_eq, HY.out]; have := lists_small HSA.out.f HLl.out hjll; omega
              go_wp2_with fail
              with_reducible refine (st_get HOK.out HSA.out HY.out hyz).mono ?_
              rintro e w2 ⟨⟨T2, hT2, rfl⟩, hb2⟩
              have HB2 := Lib.hid (bel_call HB1.out hb2)
              replace HSA := Lib.hid (HSA.out.below HOK.out hb2)
              replace HRl := Lib.hid (HRl.out.below hb2)
              clear hb2
              clear hT2
              rw [getS_is (lists_is HLl.out hjll)]
              try dsimp only
              obtain ⟨bq1, oq1, eq1, hbq1, hcq1⟩ := HRl.out.r j (by rw [HYL.out]; exact hjl)
              obtain ⟨rfl, rfl, _⟩ : bq = bq1 ∧ oq = oq1 ∧ True := by injection eq1 with eq1; injection eq1 with e1 e2; exact ⟨e1, e2, trivial⟩
              obtain ⟨y2, hy2⟩ : ∃ y, Yl.getD j ByteArray.empty = y := ⟨_, rfl⟩
              have HY2 : Hid (y2.data.toList = ll[j]) := Lib.hid (by rw [← hy2]; exact bl_get HQl.out hjll)
              rw [hy2] at hcq1
              clear hy2 eq1 hbq hcq
              by_cases hj1 : j = 0
              · subst hj1
                go_wp2_with fail
                go_quiet (fail)
                go_wp2
                go_roundw
                case rel => exact ⟨1, by omega, by go_num, Lib.hid (HSA.out.below HOK.out (bdrew _ _)), Lib.hid (HRl.out.below (bdrew _ _))⟩
                case measure => simp [intOf]; omega
              · obtain ⟨i, hi⟩ : ∃ i, j = i + 1 := ⟨j - 1, by omega⟩
                have hill : i < ll.length := by omega
                have hj1i : (0 : Int) < (j : Int) := by omega
                have hj1n : 0 < j := by omega
                have hjm : (j : Int) - 1 = (i : Int) := by omega
                have hjw : IntKind.i64.wrap ((j : Int) - 1) = (i : Int) := by rw [hjm, IntKind.wrap_i64]; omega
                have hiw : IntKind.i64.wrap (i : Int) = (i : Int) := by rw [IntKind.wrap_i64]; omega
                have hi0 : (0 : Int) ≤ (i : Int) := Int.natCast_nonneg i
                have hiL : (i : Int) < (L : Int) := by omega
                obtain ⟨bq2, oq2, eq2, hbq2, hcq2⟩ := HRl.out.r i (by rw [HYL.out]; omega)
                obtain ⟨rfl, rfl, _⟩ : bq = bq2 ∧ oq = oq2 ∧ True := by injection eq2 with eq2; injection eq2 with e1 e2; exact ⟨e1, e2, trivial⟩
                obtain ⟨y3, hy3⟩ : ∃ y, Yl.getD i ByteArray.empty = y := ⟨_, rfl⟩
                have HY3 : Hid (y3.data.toList = ll[i]) := Lib.hid (by rw [← hy3]; exact bl_get HQl.out hill)
                rw [hy3] at hcq2
                clear hy3 eq2
                have hless : Op.bytesLess y3.data.toList y2.data.toList = true := by rw [HY3.out, HY2.out]; exact rising_at HLl.out.1 (by omega) hjll
                have HI := Lib.hid hi
                clear hi
                have hl1 : Op.bytesLess y2.toList y3.toList = false := by rw [Lib.toList_data, Lib.toList_data]; cases h9 : Op.bytesLess y2.data.toList y3.data.toList with
                  | false => rfl
                  | true => exact (less_asymm hless h9).elim
                have hl2 : (y2.toList == y3.toList) = false := ne_bool fun h9 => by rw [h9, less_irrefl] at hless; cases hless
                clear hless
                go_wp2_with fail
                go_quiet (fail)
                go_wp2
                go_roundw
                case rel => exact ⟨j + 1, by omega, by go_num, Lib.hid (HSA.out.below HOK.out (bdrew _ _)), Lib.hid (HRl.out.below (bdrew _ _))⟩
                case measure => simp [intOf]; omega
            · obtain rfl : j = L := by omega
              go_wp2_with fail
              with_reducible refine (st_get HOK.out HSA.out HKl.out hkz).mono ?_
              rintro e w2 ⟨⟨T4, hT4, rfl⟩, hb2⟩
              have HB2 := Lib.hid (bel_call HB1.out hb2)
              replace HSA := Lib.hid (HSA.out.below HOK.out hb2)
              replace HRl := Lib.hid (HRl.out.below hb2)
              clear hb2
              clear hT4
              obtain ⟨ge2, hge2⟩ : ∃ ge2, (getS t2 Kl).2 = ge2 := ⟨_, rfl⟩
              rw [hge2]
              have HGE := Lib.hid hge2
              clear hge2
              try dsimp only
              go_wp2_with fail
              go_loopw [23, 24] (fun nv i wr => ∃ (jj : Nat), jj ≤ j ∧ nv = .int .i64 (((ll.take jj).count Kl : Nat) : Int) ∧ i = .int .i64 jj ∧ Hid (Sts D w wr aA XA_1 t2) ∧ Hid (RowO w wr XA_1 Al Yl)) (fun _ i _ => j - (intOf i).toNat)
              case atStart => exact ⟨0, Nat.zero_le _, rfl, rfl, HSA, HRl⟩
              case round =>
                obtain ⟨jj, hjj, rfl, rfl, HSA, HRl⟩ := hrel
                have HB1 := Lib.hid HSA.out.b
                by_cases hjl : jj < j
                · have hji : (jj : Int) < (j : Int) := by omega
                  have hjj0 : (0 : Int) ≤ (jj : Int) := Int.natCast_nonneg jj
                  have hjll : jj < ll.length := by rw [HLen.out]; exact hjl
                  obtain ⟨bq, oq, rfl, hbq, hcq⟩ := HRl.out.r jj (by rw [HYL.out]; exact hjl)
                  obtain ⟨y, hy⟩ : ∃ y, Yl.getD jj ByteArray.empty = y := ⟨_, rfl⟩
                  have HY : Hid (y.data.toList = ll[jj]) := Lib.hid (by rw [← hy]; exact bl_get HQl.out hjll)
                  rw [hy] at hcq
                  clear hy
                  have HCS := Lib.hid (count_step (k := Kl) hjll)
                  have hcl1 : (ll.take jj).count Kl ≤ jj := Nat.le_trans List.count_le_length (by rw [List.length_take]; omega)
                  obtain ⟨cc, hcc⟩ : ∃ cc, (ll.take jj).count Kl = cc := ⟨_, rfl⟩
                  rw [hcc] at HCS hcl1 ⊢
                  clear hcc
                  have hcw : IntKind.i64.wrap ((cc : Int) + 1) = (cc : Int) + 1 := by rw [IntKind.wrap_i64]; omega
                  by_cases he : y.data.toList = Kl
                  · have hb9 := eq_bool (he.trans HKl.out.symm)
                    have hcs : (ll.take (jj + 1)).count Kl = cc + 1 := by rw [HCS.out, if_pos (HY.out.symm.trans he)]
                    have HC9 := Lib.hid hcs
                    clear hcs
                    go_wp2_with fail
                    go_roundw
                    case rel => exact ⟨jj + 1, by omega, by rw [HC9.out]; go_num, by go_num, by first | exact HSA | exact Lib.hid (HSA.out.below HOK.out (bdrew _ _)), by first | exact HRl | exact Lib.hid (HRl.out.below (bdrew _ _))⟩
                    case measure => simp [intOf]; omega
                  · have hb9 := ne_bool (fun h => he (h.trans HKl.out))
                    have hcs : (ll.take (jj + 1)).count Kl = cc := by rw [HCS.out, if_neg fun h => he (HY.out.trans h)]; rfl
                    have HC9 := Lib.hid hcs
                    clear hcs
                    go_wp2_with fail
                    go_roundw
                    case rel => exact ⟨jj + 1, by omega, by rw [HC9.out], by go_num, by first | exact HSA | exact Lib.hid (HSA.out.below HOK.out (bdrew _ _)), by first | exact HRl | exact Lib.hid (HRl.out.below (bdrew _ _))⟩
                    case measure => simp [intOf]; omega
                · obtain rfl : jj = j := by omega
                  have hcnt : (ll.take jj).count Kl = if (t2).is Kl = true then 1 else 0 := by rw [List.take_of_length_le (by rw [HLen.out]; exact Nat.le_refl _)]; exact lists_count HLl.out
                  by_cases his : (t2).is Kl = true
                  · rw [if_pos his] at hcnt
                    rw [hcnt]
                    have hg := HGE.out
                    rw [getS_is his] at hg
                    subst hg
                    go_wp2
                    go_roundw
                    case rel => exact ⟨k + 1, _, _, by omega, by go_num, HF2, HSA⟩
                    case measure => simp [intOf]; omega
                  · rw [if_neg his] at hcnt
                    rw [hcnt]
                    have hg := HGE.out
                    rw [getS_no (by simpa using his)] at hg
                    subst hg
                    go_wp2
                    go_roundw
                    case rel => exact ⟨k + 1, _, _, by omega, by go_num, HF2, HSA⟩
                    case measure => simp [intOf]; omega
    · go_wp2
      go_ret
      exact ⟨rfl, HB1.out⟩
end Go.Proofs.Ytfeochpjjbnckaa.Sto
