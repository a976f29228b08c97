/-
  THE DOCUMENT's ANSWER (letterlockref10): up, Verify. By an AI agent; no person has read it.
-/
import Derived.Test.YtblgcpopcgnncaaERef2
namespace Go.Proofs.Ytblgcpopcgnncaa.Tre
open Go.RowKit Wire Term Draw Reg Clo

set_option linter.unusedSimpArgs false
set_option linter.unusedVariables false
theorem str_eq {S H : ByteArray} (h : S.data.toList = H.data.toList) : S = H := by
  cases S; cases H
  simp only [ByteArray.mk.injEq]
  exact Array.toList_inj.1 h
theorem over_len (a b : Tm) : (over a b).1.length ≤ 4000 := by
  rcases over_or a b with ⟨_, _, _, _, h, e⟩ | ⟨_, e⟩
  · rw [e]; exact (right_len h).2
  · rw [e]; decide
theorem one_len (a : Tm) : (one 104 a).1.length ≤ 4000 := by
  rcases one_or a with ⟨_, _, h, e⟩ | ⟨_, e⟩
  · rw [e]; exact (right_len h).2
  · rw [e]; decide
theorem up_len : ∀ (d n i : Nat) (t : Tm) (p : List Tm), (upD d n i t p).length ≤ 4000
  | 0, _, _, _, _ => by unfold upD; decide
  | d + 1, n, i, t, p => by
    rw [upD_succ]
    split
    · split
      · decide
      · exact one_len t
    · split
      · decide
      · split
        · exact over_len _ _
        · exact over_len _ _
theorem bl_last {ys : List ByteArray} {m : Nat} (h : ys.length = m + 1) : (bl ys).getLastD [] = (ys.getD m ByteArray.empty).data.toList := by
  have hl : (bl ys).length = m + 1 := by simp [bl, h]
  rw [List.getLastD_eq_getLast?, List.getLast?_eq_getElem?, hl]
  simp [bl, List.getD, List.getElem?_map, show m < ys.length by omega]
theorem bl_front {ys : List ByteArray} {m : Nat} (h : ys.length = m + 1) : (bl ys).dropLast = bl (ys.take m) := by
  rw [List.dropLast_eq_take, ← bl_take', show (bl ys).length - 1 = m by simp [bl, h]]
theorem bl_nil {ys : List ByteArray} : bl ys = [] ↔ ys.length = 0 := by
  cases ys with
  | nil => exact ⟨fun _ => rfl, fun _ => rfl⟩
  | cons y t => exact ⟨fun h => absurd h (by simp [bl]), fun h => absurd h (by simp)⟩
theorem fst_half0 {n d : Nat} (h1 : ¬ n = 1) (h2 : 1 ≤ n) (hd : d + 1 ≤ 3) (h : n ≤ 2 ^ (d + 1)) : 2 ≤ n ∧ n ≤ 8 ∧ fst n ≤ 2 ^ d ∧ n - fst n ≤ 2 ^ d ∧ 0 < fst n ∧ fst n < n := by
  obtain ⟨p1, p2, p3, _, _⟩ := fst_half (n := n) (d := d) (by omega) (by omega) h
  obtain ⟨k0, k1⟩ := fst_lt (n := n) (by omega) p3
  exact ⟨by omega, p3, p1, p2, k0, k1⟩
set_option maxHeartbeats 4000000 in
set_option maxRecDepth 1000000 in
theorem rup_any : ∀ (d n i : Nat) (t : ByteArray) (A : Option Addr) (c : Nat) (ys : List ByteArray) (w : World), d ≤ 3 → SReads w A ys → 1 ≤ n → n ≤ 2 ^ d → i < n → ys.length ≤ c → c ≤ 9223372036854775807 → (∀ y ∈ ys, y.size ≤ 140737488355328) → t.size ≤ 140737488355328 →
    Calls Try.prog 42 #[.int .i64 (n : Int), .int .i64 (i : Int), .string t, .slice A ys.length c] w fun e w' => St (upD (d + 1) n i t.data.toList (bl ys)) e ∧ Below w.heap.size w w' := by
  have one_case : ∀ (d i : Nat) (t : ByteArray) (A : Option Addr) (c : Nat) (ys : List ByteArray) (w : World), t.size ≤ 140737488355328 → Calls Try.prog 42 #[.int .i64 1, .int .i64 (i : Int), .string t, .slice A ys.length c] w fun e w' => St (upD (d + 1) 1 i t.data.toList (bl ys)) e ∧ Below w.heap.size w w' := fun d i t A c ys w ht => by
    rw [upD_succ, if_pos rfl]
    by_cases h0 : ys.length = 0
    · rw [if_neg (fun h => h (bl_nil.2 h0))]
      have HH := Lib.hid fun w => ofHash_any t w ht
      rw [h0]
      go_enter Try.func42, Try.ntmps42
      go_wp2_with fail
      with_reducible refine (HH.out _).mono ?_
      rintro e w1 ⟨⟨T, hT, rfl⟩, hb1⟩
      have HT := Lib.hid hT
      clear hT
      dsimp only
      go_wp2
      go_ret
      exact ⟨⟨T, HT.out, rfl⟩, hb1⟩
    · rw [if_pos (fun h => h0 (bl_nil.1 h))]
      have q : (0 : Int) < (ys.length : Int) := by omega
      go_enter Try.func42, Try.ntmps42
      go_wp2
      go_ret
      exact ⟨⟨⟨#[]⟩, rfl, rfl⟩, Below.refl _ _⟩
  intro d
  induction d with
  | zero =>
    intro n i t A c ys w hd hr h1 h2 hi hc hc2 hz ht
    obtain rfl : n = 1 := by omega
    exact one_case 0 i t A c ys w ht
  | succ d ih =>
    intro n i t A c ys w hd hr h1 h2 hi hc hc2 hz ht
    by_cases hn1 : n = 1
    · subst hn1
      exact one_case (d + 1) i t A c ys w ht
    · obtain ⟨n2, n8, p1, p2, k0, k1⟩ := fst_half0 (d := d) hn1 h1 (by omega) h2
      have hb : ((n : Int) == 1) = false := by rw [beq_eq_false_iff_ne]; omega
      rw [upD_succ, if_neg hn1]
      by_cases h0 : ys.length = 0
      · rw [if_pos (bl_nil.2 h0), h0]
        clear ih hr hz one_case
        go_enter Try.func42, Try.ntmps42
        go_wp2
        go_ret
        exact ⟨⟨⟨#[]⟩, rfl, rfl⟩, Below.refl _ _⟩
      · rw [if_neg (fun h => h0 (bl_nil.1 h))]
        obtain ⟨m, hm⟩ : ∃ m, ys.length = m + 1 := ⟨ys.length - 1, by omega⟩
        obtain ⟨g, off, rfl, hg, hcl⟩ := hr m (by omega)
        clear hcl
        have HFI := Lib.hid fun w => rfirst_any n w n2 n8
        rw [bl_last hm, bl_front hm]
        obtain ⟨K, hK⟩ : ∃ K, fst n = K := ⟨_, rfl⟩
        rw [hK] at p1 p2 k0 k1 HFI ⊢
        obtain ⟨L, hL⟩ : ∃ L, ys.getD m ByteArray.empty = L := ⟨_, rfl⟩
        have hLz : L.size ≤ 140737488355328 := by
          rw [← hL, List.getD, List.getElem?_eq_getElem (show m < ys.length by omega)]
          exact hz _ (List.getElem_mem (show m < ys.length by omega))
        have ltk : (ys.take m).length = m := by rw [List.length_take]; omega
        have HLC : Hid (∀ w' : World, SReads w' (some ⟨g, off, none⟩) ys → w'.cell? ⟨g, off + m, none⟩ = some (.string L)) := Lib.hid fun w' h => by
          obtain ⟨b, o2, e, _, hcc⟩ := h m (by omega)
          injection e with e
          injection e with e1 e2 _
          subst e1; subst e2
          rw [hcc, hL]
        have HR := Lib.hid hr
        rw [hL]
        rw [hm] at hc ⊢
        have hw1 : IntKind.i64.wrap ((m : Int) + 1 - 1) = (m : Int) := by rw [IntKind.wrap_i64]; omega
        have hw2 : IntKind.i64.wrap (m : Int) = (m : Int) := by rw [IntKind.wrap_i64]; omega
        have q1 : (m : Int) ≤ (c : Int) := by omega
        have q2 : (m : Int) < (m : Int) + 1 := by omega
        have q3 : (0 : Int) < (m : Int) + 1 := by omega
        have q4 : ((m : Int) + 1 == 0) = false := by rw [beq_eq_false_iff_ne]; omega
        by_cases hik : i < K
        · rw [if_pos hik]
          have hik2 : (i : Int) < (K : Int) := by omega
          have HU : Hid (∀ w, SReads w (some ⟨g, off, none⟩) ys → Calls Try.prog 42 #[.int .i64 (K : Int), .int .i64 (i : Int), .string t, .slice (some ⟨g, off, none⟩) m c] w fun e w' => St (upD (d + 1) K i t.data.toList (bl (ys.take m))) e ∧ Below w.heap.size w w') := Lib.hid fun w h => by
            have := ih K i t (some ⟨g, off, none⟩) c (ys.take m) w (by omega) (sreads_take h m) (by omega) (by omega) hik (by omega) hc2 (fun y hy => hz y (List.mem_of_mem_take hy)) ht
            rw [ltk] at this
            exact this
          have hul := up_len (d + 1) K i t.data.toList (bl (ys.take m))
          generalize upD (d + 1) K i t.data.toList (bl (ys.take m)) = ux at HU hul ⊢
          have HOV : Hid (∀ (T : ByteArray) (w : World), T.data.toList = ux → Calls Try.prog 57 #[.string T, .string L] w fun e w' => Sr (over ux L.data.toList) e ∧ Below w.heap.size w w') := Lib.hid fun T w hT => by
            have := rover_any T L w (by rw [Lib.size_eq, hT]; omega) hLz
            rw [hT] at this
            exact this
          clear ih hr hz one_case hul hLz hL ltk p1 p2 h0 hn1 h2
          go_enter Try.func42, Try.ntmps42
          go_wp2_with fail
          with_reducible refine (HFI.out _).mono ?_
          rintro e w1 ⟨rfl, rfl⟩
          have hk1 := HLC.out _ HR.out
          dsimp only
          go_wp2_with fail
          with_reducible refine (HU.out _ HR.out).mono ?_
          rintro e w2 ⟨⟨T, hT, rfl⟩, hb2⟩
          have HT := Lib.hid hT
          have HB2 := Lib.hid hb2
          have hk2 := HLC.out _ (HR.out.below hb2 (Nat.le_refl _))
          clear hT hb2 hk1
          dsimp only
          go_wp2_with fail
          with_reducible refine (HOV.out T _ HT.out).mono ?_
          rintro e w3 ⟨⟨V, hV, rfl⟩, hb3⟩
          try dsimp only at hV
          have HV := Lib.hid hV
          have HB3 := Lib.hid (belc HB2.out hb3)
          clear hV hb3
          dsimp only
          go_wp2
          go_ret
          exact ⟨⟨V, HV.out, rfl⟩, HB3.out⟩
        · rw [if_neg hik]
          have hik2 : ¬ (i : Int) < (K : Int) := by omega
          have hwn : IntKind.i64.wrap ((n : Int) - (K : Int)) = ((n - K : Nat) : Int) := by rw [IntKind.wrap_i64]; omega
          have hwi : IntKind.i64.wrap ((i : Int) - (K : Int)) = ((i - K : Nat) : Int) := by rw [IntKind.wrap_i64]; omega
          have HU : Hid (∀ w, SReads w (some ⟨g, off, none⟩) ys → Calls Try.prog 42 #[.int .i64 ((n - K : Nat) : Int), .int .i64 ((i - K : Nat) : Int), .string t, .slice (some ⟨g, off, none⟩) m c] w fun e w' => St (upD (d + 1) (n - K) (i - K) t.data.toList (bl (ys.take m))) e ∧ Below w.heap.size w w') := Lib.hid fun w h => by
            have := ih (n - K) (i - K) t (some ⟨g, off, none⟩) c (ys.take m) w (by omega) (sreads_take h m) (by omega) (by omega) (by omega) (by omega) hc2 (fun y hy => hz y (List.mem_of_mem_take hy)) ht
            rw [ltk] at this
            exact this
          have hul := up_len (d + 1) (n - K) (i - K) t.data.toList (bl (ys.take m))
          generalize upD (d + 1) (n - K) (i - K) t.data.toList (bl (ys.take m)) = ux at HU hul ⊢
          have HOV : Hid (∀ (T : ByteArray) (w : World), T.data.toList = ux → Calls Try.prog 57 #[.string L, .string T] w fun e w' => Sr (over L.data.toList ux) e ∧ Below w.heap.size w w') := Lib.hid fun T w hT => by
            have := rover_any L T w hLz (by rw [Lib.size_eq, hT]; omega)
            rw [hT] at this
            exact this
          generalize n - K = nk at HU hwn
          generalize i - K = ik at HU hwi
          clear ih hr hz one_case hul hLz hL ltk p1 p2 h0 hn1 h2
          go_enter Try.func42, Try.ntmps42
          go_wp2_with fail
          with_reducible refine (HFI.out _).mono ?_
          rintro e w1 ⟨rfl, rfl⟩
          have hk1 := HLC.out _ HR.out
          dsimp only
          go_wp2_with fail
          with_reducible refine (HU.out _ HR.out).mono ?_
          rintro e w2 ⟨⟨T, hT, rfl⟩, hb2⟩
          have HT := Lib.hid hT
          have HB2 := Lib.hid hb2
          have hk2 := HLC.out _ (HR.out.below hb2 (Nat.le_refl _))
          clear hT hb2 hk1
          dsimp only
          go_wp2_with fail
          with_reducible refine (HOV.out T _ HT.out).mono ?_
          rintro e w3 ⟨⟨V, hV, rfl⟩, hb3⟩
          try dsimp only at hV
          have HV := Lib.hid hV
          have HB3 := Lib.hid (belc HB2.out hb3)
          clear hV hb3
          dsimp only
          go_wp2
          go_ret
          exact ⟨⟨V, HV.out, rfl⟩, HB3.out⟩
set_option maxHeartbeats 4000000 in
set_option maxRecDepth 1000000 in
theorem rverify_any (r : ByteArray) (n i : Int) (t : ByteArray) (A : Option Addr) (c : Nat) (ys : List ByteArray) (w : World) (hr : SReads w A ys) (hc : ys.length ≤ c) (hc2 : c ≤ 9223372036854775807) (hz : ∀ y ∈ ys, y.size ≤ 140737488355328) (ht : t.size ≤ 140737488355328) (hrz : r.size ≤ 140737488355328) :
    Calls Try.prog 19 #[.string r, .int .i64 n, .int .i64 i, .string t, .slice A ys.length c] w fun e w' => e = .returned (.bool (verifyT r.data.toList n i t.data.toList (bl ys))) ∧ Below w.heap.size w w' := by
  obtain ⟨v, hv⟩ : ∃ v, verifyT r.data.toList n i t.data.toList (bl ys) = v := ⟨_, rfl⟩
  rw [hv]
  have HLF := Lib.hid fun w => rleaf_any t w ht
  have HRR := Lib.hid fun w => Term.right_any r w hrz
  have HRY := Lib.hid fun y (h : y ∈ ys) w => Term.right_any y w (hz y h)
  have no : ∀ {p : Prop}, (v = true → p) → ¬ p → v = false := fun h hp => by
    cases v with
    | false => rfl
    | true => exact absurd (h rfl) hp
  have hvt : v = true → 1 ≤ n ∧ n ≤ 8 ∧ 0 ≤ i ∧ i < n ∧ isLeaf t.data.toList = true ∧ right r.data.toList = true ∧ (∀ x ∈ bl ys, right x = true) ∧ upD 4 n.toNat i.toNat t.data.toList (bl ys) = r.data.toList := fun h => by
    rw [← hv] at h
    unfold verifyT at h
    exact of_decide_eq_true h
  by_cases h1 : 1 ≤ n
  · by_cases h8 : n ≤ 8
    · by_cases h0 : 0 ≤ i
      · by_cases hin : i < n
        · have q1 : ¬ n < 1 := by omega
          have q2 : ¬ 8 < n := by omega
          have q3 : ¬ i < 0 := by omega
          have q4 : ¬ n ≤ i := by omega
          cases hl : isLeaf t.data.toList with
          | false =>
            obtain rfl : v = false := no (fun h => (hvt h).2.2.2.2.1) (by rw [hl]; decide)
            rw [hl] at HLF
            clear hv hvt no hl
            go_enter Try.func19, Try.ntmps19
            go_wp2_with fail
            with_reducible refine (HLF.out _).mono ?_
            rintro e w1 ⟨rfl, hb1⟩
            have HB1 := Lib.hid hb1
            have HR1 := Lib.hid hb1
            clear hb1 HR1
            dsimp only
            go_wp2
            go_ret
            exact ⟨rfl, HB1.out⟩
          | true =>
            rw [hl] at HLF
            cases hr1 : right r.data.toList with
            | false =>
              obtain rfl : v = false := no (fun h => (hvt h).2.2.2.2.2.1) (by rw [hr1]; decide)
              rw [hr1] at HRR
              clear hv hvt no hl hr1
              go_enter Try.func19, Try.ntmps19
              go_wp2_with fail
              with_reducible refine (HLF.out _).mono ?_
              rintro e w1 ⟨rfl, hb1⟩
              have HB1 := Lib.hid hb1
              have HR1 := Lib.hid hb1
              clear hb1 HR1
              dsimp only
              go_wp2_with fail
              with_reducible refine (HRR.out _).mono ?_
              rintro e w2 ⟨rfl, hb2⟩
              have HB2 := Lib.hid (belc HB1.out hb2)
              clear hb2
              dsimp only
              go_wp2
              go_ret
              exact ⟨rfl, HB2.out⟩
            | true =>
              rw [hr1] at HRR
              obtain ⟨N, rfl⟩ : ∃ N : Nat, n = (N : Int) := ⟨n.toNat, by omega⟩
              obtain ⟨I, rfl⟩ : ∃ I : Nat, i = (I : Int) := ⟨i.toNat, by omega⟩
              have HUP : Hid (∀ w, SReads w A ys → Calls Try.prog 42 #[.int .i64 (N : Int), .int .i64 (I : Int), .string t, .slice A ys.length c] w fun e w' => St (upD 4 N I t.data.toList (bl ys)) e ∧ Below w.heap.size w w') := Lib.hid fun w h => rup_any 3 N I t A c ys w (by omega) h (by omega) (by omega) (by omega) hc hc2 hz ht
              have HVV : Hid (v = decide ((∀ x ∈ bl ys, right x = true) ∧ upD 4 N I t.data.toList (bl ys) = r.data.toList)) := Lib.hid (by
                rw [← hv]
                unfold verifyT
                refine decide_eq_decide.2 ?_
                rw [show ((N : Int)).toNat = N by omega, show ((I : Int)).toNat = I by omega]
                exact ⟨fun h => ⟨h.2.2.2.2.2.2.1, h.2.2.2.2.2.2.2⟩, fun h => ⟨h1, h8, h0, hin, hl, hr1, h.1, h.2⟩⟩)
              generalize upD 4 N I t.data.toList (bl ys) = ux at HUP HVV
              have HR := Lib.hid hr
              clear hv hvt no hl hr1
              go_enter Try.func19, Try.ntmps19
              go_wp2_with fail
              with_reducible refine (HLF.out _).mono ?_
              rintro e w1 ⟨rfl, hb1⟩
              have HB1 := Lib.hid hb1
              have HR1 := Lib.hid hb1
              clear hb1 HR1
              dsimp only
              go_wp2_with fail
              with_reducible refine (HRR.out _).mono ?_
              rintro e w2 ⟨rfl, hb2⟩
              have HB2 := Lib.hid (belc HB1.out hb2)
              clear hb2
              dsimp only
              go_wp2_with fail
              have HR2 := Lib.hid (HR.out.below HB2.out (Nat.le_refl _))
              clear HB1
              go_loopw [11] (fun i wr => ∃ k : Nat, k ≤ ys.length ∧ i = .int .i64 k ∧ Hid (Below w.heap.size w wr) ∧ Hid (∀ j, j < k → right (ys.getD j ByteArray.empty).data.toList = true)) (fun i _ => ys.length - (intOf i).toNat)
              case atStart => exact ⟨0, Nat.zero_le _, rfl, HB2, Lib.hid fun j hj => absurd hj (Nat.not_lt_zero _)⟩
              case round =>
                obtain ⟨k, hk, rfl, HB, HJ⟩ := hrel
                by_cases hlt : k < ys.length
                · obtain ⟨gg, off, hA, hblt, hcell⟩ := HR.out.below HB.out (Nat.le_refl _) k hlt
                  have hA' := hA
                  subst hA'
                  obtain ⟨z, hzz⟩ : ∃ z, ys.getD k ByteArray.empty = z := ⟨_, rfl⟩
                  rw [hzz] at hcell
                  have hzm : z ∈ ys := by
                    rw [← hzz, List.getD, List.getElem?_eq_getElem hlt]
                    exact List.getElem_mem hlt
                  have hki : (k : Int) < (ys.length : Int) := by omega
                  have HL := Lib.hid fun w => HRY.out z hzm w
                  obtain ⟨v2, hv2⟩ : ∃ v2, right z.data.toList = v2 := ⟨_, rfl⟩
                  rw [hv2] at HL
                  go_wp2_with fail
                  with_reducible refine (HL.out _).mono ?_
                  rintro e w3 ⟨rfl, hb3⟩
                  have HB3 := Lib.hid (belc HB.out hb3)
                  clear hb3
                  dsimp only
                  cases v2 with
                  | true =>
                    go_wp2
                    go_roundw
                    case rel => exact ⟨k + 1, by omega, by go_num, HB3, Lib.hid fun j hj => by
                      rcases Nat.lt_or_ge j k with h | h
                      · exact HJ.out j h
                      · rw [show j = k by omega, hzz]; exact hv2⟩
                    case measure => simp [intOf]; omega
                  | false =>
                    have hno : v = false := by
                      rw [HVV.out]
                      exact decide_eq_false fun h => by
                        rw [h.1 z.data.toList (List.mem_map.2 ⟨z, hzm, rfl⟩)] at hv2; cases hv2
                    subst hno
                    go_wp2
                    go_ret
                    exact ⟨rfl, HB3.out⟩
                · obtain rfl : k = ys.length := by omega
                  have hall : ∀ x ∈ bl ys, right x = true := fun x hx => by
                    obtain ⟨y, hy, rfl⟩ := List.mem_map.1 hx
                    obtain ⟨j, hj, rfl⟩ := List.mem_iff_getElem.1 hy
                    have := HJ.out j hj
                    rw [List.getD, List.getElem?_eq_getElem hj] at this
                    exact this
                  have HV2 : Hid (v = decide (ux = r.data.toList)) := Lib.hid (by rw [HVV.out]; exact decide_eq_decide.2 ⟨fun h => h.2, fun h => ⟨hall, h⟩⟩)
                  clear hall HJ HVV
                  go_wp2_with fail
                  with_reducible refine (HUP.out _ (HR.out.below HB.out (Nat.le_refl _))).mono ?_
                  rintro e w3 ⟨⟨U, hU, rfl⟩, hb3⟩
                  have HB3 := Lib.hid (belc HB.out hb3)
                  clear hb3
                  dsimp only
                  by_cases hur : U = r
                  · subst hur
                    obtain rfl : v = true := by rw [HV2.out, decide_eq_true hU.symm]
                    clear hU
                    go_wp2
                    go_ret
                    exact ⟨rfl, HB3.out⟩
                  · have hne : (U.toList == r.toList) = false := by
                      rw [beq_eq_false_iff_ne]
                      intro h
                      rw [Lib.toList_data, Lib.toList_data] at h
                      exact hur (str_eq h)
                    obtain rfl : v = false := by rw [HV2.out, decide_eq_false (fun h => hur (str_eq (hU.trans h)))]
                    clear hU hur
                    go_wp2
                    go_ret
                    exact ⟨rfl, HB3.out⟩
        · obtain rfl : v = false := no (fun h => (hvt h).2.2.2.1) hin
          have q : n ≤ i := by omega
          clear hv hvt no
          go_enter Try.func19, Try.ntmps19
          go_wp2
          go_ret
          exact ⟨rfl, Below.refl _ _⟩
      · obtain rfl : v = false := no (fun h => (hvt h).2.2.1) h0
        have q : i < 0 := by omega
        clear hv hvt no
        go_enter Try.func19, Try.ntmps19
        go_wp2
        go_ret
        exact ⟨rfl, Below.refl _ _⟩
    · obtain rfl : v = false := no (fun h => (hvt h).2.1) h8
      have q : 8 < n := by omega
      clear hv hvt no
      go_enter Try.func19, Try.ntmps19
      go_wp2
      go_ret
      exact ⟨rfl, Below.refl _ _⟩
  · obtain rfl : v = false := no (fun h => (hvt h).1) h1
    have q : n < 1 := by omega
    clear hv hvt no
    go_enter Try.func19, Try.ntmps19
    go_wp2
    go_ret
    exact ⟨rfl, Below.refl _ _⟩
end Go.Proofs.Ytblgcpopcgnncaa.Tre
