/-
  THE LAW TreeShape, walked. By an AI agent; no person has read it.
-/
import Derived.Test.YtblgcpopcgnncaaELaw
namespace Go.Proofs.Ytblgcpopcgnncaa.Tre
open Go Go.RowKit Wire Term Draw Reg Clo

set_option linter.unusedSimpArgs false
set_option linter.unusedVariables false
set_option maxHeartbeats 8000000 in
set_option maxRecDepth 1000000 in
theorem shape_walk (A : Option Addr) (c : Nat) (z : List Int) (w : World) (hi : IReads w A z) (hn : z.length ≤ 9223372036854775807) :
    Calls Try.prog 6 #[.slice A z.length c] w fun e w' => e = .returned (.bool true) ∧ Below w.heap.size w w' := by
  have HI := Lib.hid hi
  have HF : ∀ n, n ≤ 8 → Hid (∀ k, (k = 1 ∨ k = 2 ∨ k = 4) → (k = 1 ∨ k < n) → ¬ 2 * k < n → k = fst n) := fun n hn => Lib.hid fun k h2 h3 h4 => by
    unfold fst
    split
    · omega
    · split <;> omega
  have HSH := Lib.hid fun w => shown_any w
  have HRO : Hid (∀ w', IReads w' A z → Calls Try.prog 20 #[.slice A z.length c] w' fun e w'' => Ob w' w'' (rowL z) e ∧ Below w'.heap.size w' w'') := Lib.hid fun w' h => row_any A c z w' h hn
  have hsm := rowL_small (zs := z)
  have hlen := rowL_len z
  generalize rowL z = l at HRO hsm hlen
  clear hi hn
  go_enter Try.func6, Try.ntmps6
  go_wp2_with fail
  with_reducible refine (HSH.out _).mono ?_
  rintro e w1 ⟨rfl, hb1⟩
  have HB1 := Lib.hid hb1
  replace HI := Lib.hid (HI.out.below hb1 (Nat.le_refl _))
  clear hb1
  dsimp only
  go_wp2_with fail
  with_reducible refine (HRO.out _ HI.out).mono ?_
  rintro e w2 ⟨hx, hb2⟩
  have HB2 := Lib.hid (Bel.call HB1.out hb2)
  replace HI := Lib.hid (HI.out.below hb2 (Nat.le_refl _))
  clear hb2
  obtain ⟨AX, cX, YX, hq, hc, hr, hb, rfl⟩ := ob_row hx
  have HQX := Lib.hid hq
  have HCX := Lib.hid hc
  have HRX := Lib.hid hr
  have HBKX := Lib.hid hb
  clear hx hq hc hr hb
  dsimp only
  have hyl := bl_length HQX.out
  have hsz := bl_sizes HQX.out hsm
  by_cases h0 : YX.length = 0
  · rw [h0]
    clear hyl hsz hsm hlen
    go_wp2
    go_ret
    exact ⟨rfl, HB2.out⟩
  · by_cases h1 : YX.length = 1
    · obtain ⟨y, rfl⟩ := List.length_eq_one_iff.1 h1
      obtain ⟨t, rfl⟩ := List.length_eq_one_iff.1 (show l.length = 1 by omega)
      have ht := hsm t (by simp)
      have hyt : y.data.toList = t := by have := HQX.out; simpa [bl] using this
      have HRT1 : Hid (∀ w', SReads w' AX [y] → Calls Try.prog 13 #[.slice AX 1 cX] w' fun e w'' => Sr (104 :: t, 0) e ∧ Below w'.heap.size w' w'') := Lib.hid fun w' h => root_to (small_one ht).1 HQX.out HCX.out.1 HCX.out.2 (fun t' h' => by rw [List.mem_singleton.1 h']; omega) w' h
      have HOH : Hid (∀ w', Calls Try.prog 23 #[.string y] w' fun e w'' => Sr (104 :: t, 0) e ∧ Below w'.heap.size w' w'') := Lib.hid fun w' => one_to (small_one ht).2 hyt (by omega) w'
      clear hsm hlen hyl hsz ht hyt h0
      go_wp2_with fail
      with_reducible refine (HRT1.out _ HRX.out).mono ?_
      rintro e w3 ⟨⟨R, hR, rfl⟩, hb3⟩
      have HB3 := Lib.hid (Bel.call HB2.out hb3)
      replace HI := Lib.hid (HI.out.below hb3 (Nat.le_refl _))
      replace HRX := Lib.hid (HRX.out.below hb3 (Nat.le_refl _))
      clear hb3
      try dsimp only at hR
      have HR := Lib.hid hR
      clear hR
      dsimp only
      have hcell := (HRX.out 0 (by simp))
      obtain ⟨g1, o1, hA, hlt, hc1⟩ := hcell
      subst hA
      have hc0 : w3.cell? ⟨g1, o1, none⟩ = some (.string y) := hc1
      clear hc1 hlt
      go_wp2_with fail
      with_reducible refine (HOH.out _).mono ?_
      rintro e w4 ⟨⟨T, hT, rfl⟩, hb4⟩
      have HB4 := Lib.hid (Bel.call HB3.out hb4)
      replace HI := Lib.hid (HI.out.below hb4 (Nat.le_refl _))
      replace HRX := Lib.hid (HRX.out.below hb4 (Nat.le_refl _))
      clear hb4
      try dsimp only at hT
      have HT := Lib.hid hT
      clear hT
      dsimp only
      have q : (R.toList == T.toList) = true := eq_bool (by rw [HR.out, HT.out])
      clear hc0
      go_wp2
      go_ret
      exact ⟨rfl, HB4.out⟩
    · obtain ⟨R0, a0, b0, p0, e1, e2, e3, e4, e5, m1, m2, m3, m4⟩ := small_two (l := l) (by omega) (by omega) hsm
      obtain ⟨k0, k1⟩ := fst_lt (n := l.length) (by omega) (by omega)
      have HRT : Hid (∀ w', SReads w' AX YX → Calls Try.prog 13 #[.slice AX YX.length cX] w' fun e w'' => Sr (R0, 0) e ∧ Below w'.heap.size w' w'') := Lib.hid fun w' h => root_to e1 HQX.out HCX.out.1 HCX.out.2 (fun t h' => by have := (hsm t h').1.2; omega) w' h
      have HF := HF YX.length (by omega)
      rw [← hyl] at e2 e3 k0 k1
      generalize hK : fst YX.length = K at e2 e3 k0 k1
      obtain ⟨g0, o0, hAX, _, _⟩ := HRX.out 0 (by omega)
      subst hAX
      have HRA : Hid (∀ w', SReads w' (some ⟨g0, o0, none⟩) YX → Calls Try.prog 13 #[.slice (some ⟨g0, o0, none⟩) K cX] w' fun e w'' => Sr (a0, 0) e ∧ Below w'.heap.size w' w'') := Lib.hid fun w' h => by
        have := root_to e2 (A := some ⟨g0, o0, none⟩) (c := cX) (ys := YX.take K) (by rw [← bl_take', HQX.out]) (by rw [List.length_take]; have := HCX.out.1; omega) HCX.out.2 (fun t h' => by have := (hsm t (List.mem_of_mem_take h')).1.2; omega) w' (sreads_take h K)
        rw [show (YX.take K).length = K by rw [List.length_take]; omega] at this
        exact this
      have HRB : Hid (∀ w', SReads w' (some ⟨g0, o0, none⟩) YX → Calls Try.prog 13 #[.slice (some ⟨g0, o0 + K, none⟩) (YX.length - K) (cX - K)] w' fun e w'' => Sr (b0, 0) e ∧ Below w'.heap.size w' w'') := Lib.hid fun w' h => by
        have hc := HCX.out
        have := root_to e3 (A := some ⟨g0, o0 + K, none⟩) (c := cX - K) (ys := YX.drop K) (by rw [← bl_drop', HQX.out]) (by rw [List.length_drop]; omega) (by omega) (fun t h' => by have := (hsm t (List.mem_of_mem_drop h')).1.2; omega) w' (sreads_drop h K)
        rw [List.length_drop] at this
        exact this
      have HTW : Hid (∀ (S T : ByteArray) w', S.data.toList = a0 → T.data.toList = b0 → Calls Try.prog 24 #[.string S, .string T] w' fun e w'' => Sr (p0, 0) e ∧ Below w'.heap.size w' w'') := Lib.hid fun S T w' hS hT => two_to e4 hS hT m1 m2 w'
      have HON : Hid (∀ (U : ByteArray) w', U.data.toList = p0 → Calls Try.prog 23 #[.string U] w' fun e w'' => Sr (R0, 0) e ∧ Below w'.heap.size w' w'') := Lib.hid fun U w' hU => one_to e5 hU m3 w'
      obtain ⟨n, hnn⟩ : ∃ n, YX.length = n := ⟨_, rfl⟩
      rw [hnn] at HRT HRB HF hK k1 h0 h1 hyl ⊢
      rw [hK] at HF
      have hn8 : n ≤ 8 := by omega
      have HK : Hid (0 < K ∧ K < n ∧ n ≤ 8 ∧ n ≤ cX) := Lib.hid ⟨k0, k1, hn8, by have := HCX.out.1; omega⟩
      have hb1 : ((n : Int) == 1) = false := by rw [beq_eq_false_iff_ne]; omega
      clear hsm hlen hyl hsz e1 e2 e3 e4 e5 m1 m2 m3 m4 hK hnn
      go_wp2_with fail
      with_reducible refine (HRT.out _ HRX.out).mono ?_
      rintro e w3 ⟨⟨R, hR, rfl⟩, hb3⟩
      have HB3 := Lib.hid (Bel.call HB2.out hb3)
      replace HI := Lib.hid (HI.out.below hb3 (Nat.le_refl _))
      replace HRX := Lib.hid (HRX.out.below hb3 (Nat.le_refl _))
      clear hb3
      try dsimp only at hR
      have HR := Lib.hid hR
      clear hR
      dsimp only
      go_wp2_with fail
      go_loopw [9] (fun i wr => ∃ k : Nat, (k = 1 ∨ k = 2 ∨ k = 4) ∧ (k = 1 ∨ k < n) ∧ i = .int .i64 k ∧ wr = w3) (fun i _ => 8 - (intOf i).toNat)
      case atStart => exact ⟨1, .inl rfl, .inl rfl, rfl, rfl⟩
      case round =>
        obtain ⟨k, hk, hk2, rfl, hwr⟩ := hrel
        obtain rfl : w3 = wr := hwr.symm
        have hw2 : IntKind.i64.wrap (2 * (k : Int)) = 2 * (k : Int) := by rw [IntKind.wrap_i64]; omega
        by_cases hlt : 2 * k < n
        · have hlt2 : 2 * (k : Int) < (n : Int) := by omega
          go_wp2
          go_roundw
          case rel => exact ⟨2 * k, by omega, by omega, by go_num, trivial⟩
          case measure => simp [intOf]; omega
        · have hlt2 : ¬ 2 * (k : Int) < (n : Int) := by omega
          obtain rfl : K = k := (HF.out k hk hk2 hlt).symm
          have k1 : K < n := HK.out.2.1
          have hcn : n ≤ cX := HK.out.2.2.2
          have q1 : (K : Int) ≤ (cX : Int) := by omega
          have q2 : (K : Int) ≤ (n : Int) := by omega
          have q3 : (0 : Int) ≤ (K : Int) := by omega
          clear hk hk2 hlt hw2
          go_wp2_with fail
          with_reducible refine (HRA.out _ HRX.out).mono ?_
          rintro e w4 ⟨⟨S, hS, rfl⟩, hb4⟩
          have HB4 := Lib.hid (Bel.call HB3.out hb4)
          replace HI := Lib.hid (HI.out.below hb4 (Nat.le_refl _))
          replace HRX := Lib.hid (HRX.out.below hb4 (Nat.le_refl _))
          clear hb4
          try dsimp only at hS
          have HS := Lib.hid hS
          clear hS
          dsimp only
          go_wp2_with fail
          with_reducible refine (HRB.out _ HRX.out).mono ?_
          rintro e w5 ⟨⟨T, hT, rfl⟩, hb5⟩
          have HB5 := Lib.hid (Bel.call HB4.out hb5)
          replace HI := Lib.hid (HI.out.below hb5 (Nat.le_refl _))
          replace HRX := Lib.hid (HRX.out.below hb5 (Nat.le_refl _))
          clear hb5
          try dsimp only at hT
          have HT := Lib.hid hT
          clear hT
          dsimp only
          go_wp2_with fail
          with_reducible refine (HTW.out S T _ HS.out HT.out).mono ?_
          rintro e w6 ⟨⟨U, hU, rfl⟩, hb6⟩
          have HB6 := Lib.hid (Bel.call HB5.out hb6)
          replace HI := Lib.hid (HI.out.below hb6 (Nat.le_refl _))
          replace HRX := Lib.hid (HRX.out.below hb6 (Nat.le_refl _))
          clear hb6
          try dsimp only at hU
          have HU := Lib.hid hU
          clear hU
          dsimp only
          go_wp2_with fail
          with_reducible refine (HON.out U _ HU.out).mono ?_
          rintro e w7 ⟨⟨V, hV, rfl⟩, hb7⟩
          have HB7 := Lib.hid (Bel.call HB6.out hb7)
          replace HI := Lib.hid (HI.out.below hb7 (Nat.le_refl _))
          replace HRX := Lib.hid (HRX.out.below hb7 (Nat.le_refl _))
          clear hb7
          try dsimp only at hV
          have HV := Lib.hid hV
          clear hV
          dsimp only
          have q : (R.toList == V.toList) = true := eq_bool (by rw [HR.out, HV.out])
          go_wp2
          go_ret
          exact ⟨rfl, HB7.out⟩
end Go.Proofs.Ytblgcpopcgnncaa.Tre
