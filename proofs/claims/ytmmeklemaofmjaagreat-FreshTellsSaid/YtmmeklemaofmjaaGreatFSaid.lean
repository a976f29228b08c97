/-
  THE LANDED CODE (package fresh): said. By an AI agent; no person has read it.
-/
import Derived.Test.YtmmeklemaofmjaaGreatFCode
namespace Go.Proofs.YtmmeklemaofmjaaGreat.Frs
open Go Go.RowKit Wire Term Draw Reg Clo

set_option linter.unusedSimpArgs false
set_option linter.unusedVariables false
theorem lit3_reads (w : World) (A B C : ByteArray) (g : Nat) (hg : g = w.heap.size) : SReads (w.alloc (.cells #[.string A, .string B, .string C] 9)) (some ⟨g, 0, none⟩) [A, B, C] := fun j hj => by
  subst hg
  refine ⟨w.heap.size, 0, rfl, by simp, ?_⟩
  have : j = 0 ∨ j = 1 ∨ j = 2 := by simp only [List.length_cons, List.length_nil] at hj; omega
  rcases this with rfl | rfl | rfl <;> simp [go_sem]
/-- What is signed, part by part. -/
def sxN (o r : Tm) (t n : Nat) : Nat → Tm × Int
  | 0 => (r, 0)
  | 1 => two 112 (ofAtom n) r
  | 2 => two 112 (ofAtom t) (two 112 (ofAtom n) r).1
  | _ => two 112 (ofText o).1 (two 112 (ofAtom t) (two 112 (ofAtom n) r).1).1
def sfN (o : Tm) (t n : Nat) : Nat → Tm
  | 0 => ofAtom n
  | 1 => ofAtom t
  | _ => (ofText o).1
theorem sx_step (o r : Tm) (t n : Nat) {k : Nat} (hk : k < 3) : sxN o r t n (k + 1) = two 112 (sfN o t n k) (sxN o r t n k).1 := by
  have : k = 0 ∨ k = 1 ∨ k = 2 := by omega
  rcases this with rfl | rfl | rfl <;> rfl
theorem two_err {k : UInt8} {a b : Tm} (h : (two k a b).2 ≠ 0) : (two k a b).1 = [] := by
  unfold two at h ⊢
  split
  · rename_i h1
    rw [if_pos h1] at h
    rcases Dta.made_two (k :: (a ++ b)) with h2 | h2
    · exact absurd h2 h
    · rw [h2]
  · rfl
theorem signed_err (o r : Tm) (t n : Nat) {k : Nat} (hk : k < 3) (h : ∀ j, j ≤ k → (sxN o r t n j).2 = 0) (h1 : (sxN o r t n (k + 1)).2 ≠ 0) : signedS o t n r = ([], (sxN o r t n (k + 1)).2) := by
  have : k = 0 ∨ k = 1 ∨ k = 2 := by omega
  unfold signedS
  rcases this with rfl | rfl | rfl
  · exact if_pos h1
  · have a1 : (two 112 (ofAtom n) r).2 = 0 := h 1 (by omega)
    rw [if_neg (fun e => e a1)]
    exact if_pos h1
  · have a1 : (two 112 (ofAtom n) r).2 = 0 := h 1 (by omega)
    have a2 : (two 112 (ofAtom t) (two 112 (ofAtom n) r).1).2 = 0 := h 2 (by omega)
    rw [if_neg (fun e => e a1), if_neg (fun e => e a2)]
    exact Prod.ext (two_err h1) rfl
theorem signed_all (o r : Tm) (t n : Nat) (h : ∀ j, j ≤ 3 → (sxN o r t n j).2 = 0) : signedS o t n r = ((sxN o r t n 3).1, 0) := by
  have a1 : (two 112 (ofAtom n) r).2 = 0 := h 1 (by omega)
  have a2 : (two 112 (ofAtom t) (two 112 (ofAtom n) r).1).2 = 0 := h 2 (by omega)
  unfold signedS
  rw [if_neg (fun e => e a1), if_neg (fun e => e a2)]
  exact Prod.ext rfl (h 3 (by omega))
theorem two_len {k : UInt8} {a b : Tm} : (two k a b).1.length ≤ 4000 := by
  by_cases h : (two k a b).2 = 0
  · exact (right_len (Dta.two_ok h).1).2
  · rw [two_err h]; exact Nat.zero_le _
theorem sx_len (o r : Tm) (t n k : Nat) : (sxN o r t n k).1.length ≤ r.length + 4000 := by
  rcases k with _ | _ | _ | k
  · exact Nat.le_add_right _ _
  · have := two_len (k := 112) (a := ofAtom n) (b := r); show (two 112 (ofAtom n) r).1.length ≤ _; omega
  · have := two_len (k := 112) (a := ofAtom t) (b := (two 112 (ofAtom n) r).1); show (two 112 (ofAtom t) (two 112 (ofAtom n) r).1).1.length ≤ _; omega
  · have := two_len (k := 112) (a := (ofText o).1) (b := (two 112 (ofAtom t) (two 112 (ofAtom n) r).1).1); show (two 112 (ofText o).1 (two 112 (ofAtom t) (two 112 (ofAtom n) r).1).1).1.length ≤ _; omega
theorem ofText_len (o : Tm) : (ofText o).1.length ≤ 4000 := by
  rcases Dta.made_two (116 :: putText o) with h | h
  · exact (right_len (Dta.made_ok h).1).2
  · show (made (116 :: putText o)).1.length ≤ _
    rw [h]; exact Nat.zero_le _
theorem atom_len {k : Nat} (hk : k < 18446744073709551616) : (ofAtom k).length ≤ 10 := by unfold ofAtom; have := (put_le hk).2; rw [List.length_cons]; omega
theorem sf_len (o : Tm) {t n : Nat} (ht : t < 18446744073709551616) (hn : n < 18446744073709551616) (k : Nat) : (sfN o t n k).length ≤ 4000 := by
  rcases k with _ | _ | k
  · have := atom_len hn; show (ofAtom n).length ≤ _; omega
  · have := atom_len ht; show (ofAtom t).length ≤ _; omega
  · exact ofText_len o
set_option maxHeartbeats 8000000 in
set_option maxRecDepth 1000000 in
theorem said_any (O : ByteArray) (t n : Nat) (R G : ByteArray) (w : World) (hO : O.size ≤ 140737488351232) (hR : R.size ≤ 140737488351232) (ht : t < 18446744073709551616) (hn : n ≤ 9223372036854775807) :
    Calls Tryz.prog 41 #[.agg #[.string O, .int .u64 (t : Int), .int .i64 (n : Int), .string R, .string G]] w fun e w' => Sr (signedS O.data.toList t n R.data.toList) e ∧ Below w.heap.size w w' := by
  have cw : IntKind.u64.wrap (n : Int) = (n : Int) := by rw [IntKind.wrap_u64]; omega
  have HOT := Lib.hid fun w => t_OfText O w (by omega)
  have HAN : Hid (∀ w, Calls Tryz.prog 67 #[.int .u64 (n : Int)] w fun e w' => e = .returned (.string ⟨⟨ofAtom n⟩⟩) ∧ Below w.heap.size w w') := Lib.hid fun w => (t_OfAtom n w (by omega)).mono fun e w' h => ⟨st_fix h.1, h.2⟩
  have HAT : Hid (∀ w, Calls Tryz.prog 67 #[.int .u64 (t : Int)] w fun e w' => e = .returned (.string ⟨⟨ofAtom t⟩⟩) ∧ Below w.heap.size w w') := Lib.hid fun w => (t_OfAtom t w ht).mono fun e w' h => ⟨st_fix h.1, h.2⟩
  have HP : Hid (∀ (k : Nat) (A T : ByteArray) (w : World), k < 3 → A.data.toList = sfN O.data.toList t n k → T.data.toList = (sxN O.data.toList R.data.toList t n k).1 → Calls Tryz.prog 68 #[.string A, .string T] w fun e w' => Sr (sxN O.data.toList R.data.toList t n (k + 1)) e ∧ Below w.heap.size w w') := Lib.hid fun k A T w hk hA hT => by
    have h1 := sf_len O.data.toList ht (show n < 18446744073709551616 by omega) k
    have h2 := sx_len O.data.toList R.data.toList t n k
    have h3 := Lib.size_eq R
    have := t_OfPair A T w (by rw [Lib.size_eq, hA]; omega) (by rw [Lib.size_eq, hT]; omega)
    rw [hA, hT, ← sx_step _ _ _ _ hk] at this
    exact this
  have HE := Lib.hid fun k (hk : k < 3) => signed_err O.data.toList R.data.toList t n hk
  have HF := Lib.hid (signed_all O.data.toList R.data.toList t n)
  have h00 : (sxN O.data.toList R.data.toList t n 0) = (R.data.toList, 0) := rfl
  have hf2 : (ofText O.data.toList).1 = sfN O.data.toList t n 2 := rfl
  have hf0 : ofAtom n = sfN O.data.toList t n 0 := rfl
  have hf1 : ofAtom t = sfN O.data.toList t n 1 := rfl
  generalize signedS O.data.toList t n R.data.toList = so at HE HF ⊢
  obtain ⟨tx, tf, htx⟩ : ∃ tx tf, ofText O.data.toList = (tx, tf) := ⟨_, _, rfl⟩
  rw [htx] at HOT hf2
  simp only at hf2
  generalize sxN O.data.toList R.data.toList t n = sx at HP HE HF h00
  generalize sfN O.data.toList t n = sf at HP hf0 hf1 hf2
  have H00 := Lib.hid h00
  have HF0 := Lib.hid hf0
  have HF1 := Lib.hid hf1
  have HF2 := Lib.hid hf2
  clear h00 hf0 hf1 hf2 htx hO hR ht hn
  go_enter Tryz.func41, Tryz.ntmps41
  go_wp2_with fail
  have hbS : Below w.heap.size w (w.alloc (.cells #[.string O, .int .u64 (t : Int), .int .i64 (n : Int), .string R, .string G] 24)) := (Below.refl w.heap.size w).alloc (Nat.le_refl _) _
  have hxS := c5_new w (.string O) (.int .u64 (t : Int)) (.int .i64 (n : Int)) (.string R) (.string G) 24
  generalize w.alloc (.cells #[.string O, .int .u64 (t : Int), .int .i64 (n : Int), .string R, .string G] 24) = wSS at hbS hxS ⊢
  have HB1 := Lib.hid hbS
  have HXS := Lib.hid hxS
  clear hbS hxS
  with_reducible refine (HOT.out _).mono ?_
  rintro e w2 ⟨⟨TX, hTX, rfl⟩, hb2⟩
  have HB2 := Lib.hid (Bel.call HB1.out hb2)
  replace HXS := Lib.hid (HXS.out.below hb2)
  clear hb2
  try dsimp only at hTX
  have HTX := Lib.hid hTX
  clear hTX
  dsimp only
  obtain ⟨⟨nS, dS0, dS1, dS2, dS3, dS4⟩, kS0, kS1, kS2, kS3, kS4⟩ := HXS.out
  go_wp2_with fail
  clear nS dS0 dS1 dS2 dS3 dS4 kS0 kS1 kS2 kS3 kS4
  refine wp_region_held_drew (S := fun w' => C5 w.heap.size w' (.string O) (.int .u64 (t : Int)) (.int .i64 (n : Int)) (.string R) (.string G)) (by kernel_rfl) (HXS.out.below (Below.drewN' (Below.refl w2.heap.size w2) 1)) (fun hHeld => ?_)
  have hdr : Below w2.heap.size w2 w2.drew := Below.drewN' (Below.refl w2.heap.size w2) 1
  clear hHeld
  generalize w2.drew = wd3 at hdr ⊢
  have HB3 := Lib.hid (Bel.call HB2.out hdr)
  replace HXS := Lib.hid (HXS.out.below hdr)
  clear hdr
  have hHeld := HXS.out
  refine wpAnyH_take (i := 0) (v := ?_) (by rw [List.getElem?_toArray]; rfl) (by kernel_rfl) (by kernel_rfl) (by kernel_rfl) (by exact fun _ _ _ h => h) (Or.inl ⟨by rfl, ?_⟩) (by assumption) ?_
  rotate_left
  · intro w' hSw
    obtain ⟨⟨_, c0, c1, c2, c3, c4⟩, _⟩ := hSw
    go_simp
    try with_reducible rfl
  try simp only [Act.put, List.setIfInBounds_toArray, List.set_cons_zero, List.set_cons_succ]
  refine wpAnyH_take (i := 1) (v := ?_) (by rw [List.getElem?_toArray]; rfl) (by kernel_rfl) (by kernel_rfl) (by kernel_rfl) (by exact fun _ _ _ h => h) (Or.inl ⟨by rfl, ?_⟩) (by assumption) ?_
  rotate_left
  · intro w' hSw
    obtain ⟨⟨_, c0, c1, c2, c3, c4⟩, _⟩ := hSw
    go_simp
    try with_reducible rfl
  try simp only [Act.put, List.setIfInBounds_toArray, List.set_cons_zero, List.set_cons_succ]
  refine wpAnyH_take (i := 2) (v := ?_) (by rw [List.getElem?_toArray]; rfl) (by kernel_rfl) (by kernel_rfl) (by kernel_rfl) (by exact fun _ _ _ h => h) (Or.inl ⟨by rfl, ?_⟩) (by assumption) ?_
  rotate_left
  · intro w' hSw
    obtain ⟨⟨_, c0, c1, c2, c3, c4⟩, _⟩ := hSw
    go_simp
    try with_reducible rfl
  try simp only [Act.put, List.setIfInBounds_toArray, List.set_cons_zero, List.set_cons_succ]
  refine wpAnyH_take (i := 4) (v := ?_) (by rw [List.getElem?_toArray]; rfl) (by kernel_rfl) (by kernel_rfl) (by kernel_rfl) (by exact fun _ _ _ h => h) (Or.inl ⟨by rfl, ?_⟩) (by assumption) ?_
  rotate_left
  · intro w' hSw
    obtain ⟨⟨_, c0, c1, c2, c3, c4⟩, _⟩ := hSw
    go_simp
    try with_reducible rfl
  try simp only [Act.put, List.setIfInBounds_toArray, List.set_cons_zero, List.set_cons_succ]
  refine wpAnyH_take (i := 5) (v := ?_) (by rw [List.getElem?_toArray]; rfl) (by kernel_rfl) (by kernel_rfl) (by kernel_rfl) (by exact fun _ _ _ h => h) (Or.inl ⟨by rfl, ?_⟩) (by assumption) ?_
  rotate_left
  · intro w' hSw
    obtain ⟨⟨_, c0, c1, c2, c3, c4⟩, _⟩ := hSw
    go_simp
    try with_reducible rfl
  try simp only [Act.put, List.setIfInBounds_toArray, List.set_cons_zero, List.set_cons_succ]
  refine wpAnyH_take (i := 7) (v := ?_) (by rw [List.getElem?_toArray]; rfl) (by kernel_rfl) (by kernel_rfl) (by kernel_rfl) (by exact fun _ _ _ h => h) (Or.inl ⟨by rfl, ?_⟩) (by assumption) ?_
  rotate_left
  · intro w' hSw
    obtain ⟨⟨_, c0, c1, c2, c3, c4⟩, _⟩ := hSw
    go_simp
    try with_reducible rfl
  try simp only [Act.put, List.setIfInBounds_toArray, List.set_cons_zero, List.set_cons_succ]
  refine wpAnyH_take (i := 10) (v := ?_) (by rw [List.getElem?_toArray]; rfl) (by kernel_rfl) (by kernel_rfl) (by kernel_rfl) (by exact fun _ _ _ h => h) (Or.inl ⟨by rfl, ?_⟩) (by assumption) ?_
  rotate_left
  · intro w' hSw
    obtain ⟨⟨_, c0, c1, c2, c3, c4⟩, _⟩ := hSw
    go_simp
    try with_reducible rfl
  try simp only [Act.put, List.setIfInBounds_toArray, List.set_cons_zero, List.set_cons_succ]
  clear hHeld
  refine wpAnyH_ready (rs := [3]) (by kernel_rfl) (by simp) ?_
  refine AllReadyH.cons (by rw [List.getElem?_toArray]; rfl) (fun Kn hK => ?_) AllReadyH.nil
  go_simp
  go_at_call 67
  with_reducible refine (HAN.out _).mono ?_
  rintro e w4 ⟨rfl, hb4⟩
  have HB4 := Lib.hid (Bel.call HB3.out hb4)
  replace HXS := Lib.hid (HXS.out.below hb4)
  clear hb4
  dsimp only
  refine hK.out _ _ HXS.out (fun hHeld => ?_)
  try simp only [Act.put, List.setIfInBounds_toArray, List.set_cons_zero, List.set_cons_succ]
  clear hHeld
  refine wpAnyH_ready (rs := [6]) (by kernel_rfl) (by simp) ?_
  refine AllReadyH.cons (by rw [List.getElem?_toArray]; rfl) (fun Kn hK => ?_) AllReadyH.nil
  go_simp
  go_at_call 67
  with_reducible refine (HAT.out _).mono ?_
  rintro e w5 ⟨rfl, hb5⟩
  have HB5 := Lib.hid (Bel.call HB4.out hb5)
  replace HXS := Lib.hid (HXS.out.below hb5)
  clear hb5
  dsimp only
  refine hK.out _ _ HXS.out (fun hHeld => ?_)
  try simp only [Act.put, List.setIfInBounds_toArray, List.set_cons_zero, List.set_cons_succ]
  clear hHeld
  refine wpAnyH_ready (rs := [8]) (by kernel_rfl) (by simp) ?_
  refine AllReadyH.cons (by rw [List.getElem?_toArray]; rfl) (fun Kn hK => ?_) AllReadyH.nil
  go_simp
  obtain ⟨PN, hPN⟩ : ∃ P : ByteArray, (⟨⟨ofAtom n⟩⟩ : ByteArray) = P := ⟨_, rfl⟩
  obtain ⟨PT, hPT⟩ : ∃ P : ByteArray, (⟨⟨ofAtom t⟩⟩ : ByteArray) = P := ⟨_, rfl⟩
  have HQN : Hid (PN.data.toList = sf 0) := Lib.hid (by rw [← hPN]; exact HF0.out)
  have HQT : Hid (PT.data.toList = sf 1) := Lib.hid (by rw [← hPT]; exact HF1.out)
  rw [hPN, hPT]
  clear hPN hPT HF0 HF1 HAN HAT
  have hrow := lit3_reads w5 PN PT TX w5.heap.size rfl
  have hbA : Below w5.heap.size w5 (w5.alloc (.cells #[.string PN, .string PT, .string TX] 9)) := (Below.refl w5.heap.size w5).alloc (Nat.le_refl _) _
  generalize w5.alloc (.cells #[.string PN, .string PT, .string TX] 9) = wa at hrow hbA ⊢
  have HB6 := Lib.hid (Bel.call HB5.out hbA)
  replace HXS := Lib.hid (HXS.out.below hbA)
  have HRW := Lib.hid hrow
  clear hbA hrow
  refine hK.out _ _ HXS.out (fun hHeld => ?_)
  try simp only [Act.put, List.setIfInBounds_toArray, List.set_cons_zero, List.set_cons_succ]
  refine wpAnyH_take (i := 9) (v := ?_) (by rw [List.getElem?_toArray]; rfl) (by kernel_rfl) (by kernel_rfl) (by kernel_rfl) (by exact fun _ _ _ h => h) (Or.inl ⟨by rfl, ?_⟩) (by assumption) ?_
  rotate_left
  · intro w' hSw
    obtain ⟨⟨_, c0, c1, c2, c3, c4⟩, _⟩ := hSw
    go_simp
    try with_reducible rfl
  try simp only [Act.put, List.setIfInBounds_toArray, List.set_cons_zero, List.set_cons_succ]
  refine wpAnyH_done (by kernel_rfl) ?_ _
  clear hHeld
  obtain ⟨G0, hG0⟩ : ∃ g, w5.heap.size = g := ⟨_, rfl⟩
  rw [hG0] at HRW ⊢
  clear hG0
  go_wp2_with fail
  go_loopw [6, 7, 28] (fun v e i wr => ∃ (k : Nat) (T : ByteArray), k ≤ 3 ∧ v = .string T ∧ e = .int .i64 0 ∧ i = .int .i64 k ∧ Hid (T.data.toList = (sx k).1) ∧ Hid (∀ j, j ≤ k → (sx j).2 = 0) ∧ Hid (SReads wr (some ⟨G0, 0, none⟩) [PN, PT, TX]) ∧ Hid (Below w.heap.size w wr)) (fun _ _ i _ => 3 - (intOf i).toNat)
  case atStart => exact ⟨0, R, by omega, rfl, rfl, rfl, Lib.hid (by rw [H00.out]), Lib.hid (fun j hj => by have hj0 : j = 0 := Nat.le_zero.1 hj; rw [hj0, H00.out]), HRW, HB6⟩
  case round =>
    obtain ⟨k, T, hk, rfl, rfl, rfl, HT, HJ, HRR, HB⟩ := hrel
    clear HRW HXS HB6
    by_cases hlt : k < 3
    · have hcell := Tre.cell_at HRR.out (show k < [PN, PT, TX].length from hlt)
      rw [Nat.zero_add] at hcell
      obtain ⟨y, hy⟩ : ∃ y, [PN, PT, TX].getD k ByteArray.empty = y := ⟨_, rfl⟩
      rw [hy] at hcell
      have HY : Hid (y.data.toList = sf k) := Lib.hid (by
        have h3 : k = 0 ∨ k = 1 ∨ k = 2 := by omega
        rcases h3 with rfl | rfl | rfl
        · rw [← hy]; exact HQN.out
        · rw [← hy]; exact HQT.out
        · rw [← hy]; exact HTX.out.trans HF2.out)
      have HKL := Lib.hid hlt
      have hki : (k : Int) < 3 := by omega
      have hk0 : (0 : Int) ≤ (k : Int) := Int.natCast_nonneg k
      clear hy hlt
      obtain ⟨px, pf, hp⟩ : ∃ px pf, sx (k + 1) = (px, pf) := ⟨_, _, rfl⟩
      have HQ := Lib.hid fun T w h => HP.out k y T w HKL.out HY.out h
      rw [hp] at HQ
      by_cases hpf : pf = 0
      · subst hpf
        have HPP := Lib.hid hp
        clear hp
        go_wp2_with fail
        with_reducible refine (HQ.out T _ HT.out).mono ?_
        rintro e w9 ⟨⟨U, hU, rfl⟩, hb9⟩
        try dsimp only at hU
        have HU := Lib.hid hU
        have HB9 := Lib.hid (Bel.call HB.out hb9)
        have HR9 := Lib.hid (HRR.out.below hb9 (Nat.le_refl _))
        clear hU hb9
        dsimp only
        go_wp2
        go_roundw
        case rel => exact ⟨k + 1, U, by have := HKL.out; omega, rfl, rfl, by go_num, Lib.hid (by rw [HPP.out, HU.out]), Lib.hid (fun j hj => by
          rcases Nat.lt_or_ge j (k + 1) with h | h
          · exact HJ.out j (by omega)
          · rw [show j = k + 1 by omega, HPP.out]), HR9, HB9⟩
        case measure => simp [intOf]; have := HKL.out; omega
      · have hso := HE.out k HKL.out HJ.out (by rw [hp]; exact hpf)
        rw [hp] at hso
        simp only at hso
        have HSO := Lib.hid hso
        have hpb : (pf == 0) = false := by simpa using hpf
        have hpb2 : (pf != 0) = true := by simpa using hpf
        clear hp hpf hso
        go_wp2_with fail
        with_reducible refine (HQ.out T _ HT.out).mono ?_
        rintro e w9 ⟨⟨U, hU, rfl⟩, hb9⟩
        have HB9 := Lib.hid (Bel.call HB.out hb9)
        clear hU hb9
        dsimp only
        go_wp2
        go_ret2
        exact ⟨by rw [HSO.out]; exact ⟨⟨#[]⟩, rfl, rfl⟩, HB9.out⟩
    · obtain rfl : k = 3 := by omega
      have hso := HF.out HJ.out
      have HSO := Lib.hid hso
      clear hso hlt
      go_wp2
      go_ret2
      exact ⟨by rw [HSO.out]; exact ⟨T, HT.out, rfl⟩, HB.out⟩
end Go.Proofs.YtmmeklemaofmjaaGreat.Frs
