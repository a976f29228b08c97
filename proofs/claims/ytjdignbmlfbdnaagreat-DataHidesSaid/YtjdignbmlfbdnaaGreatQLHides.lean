/-
  THE LAW DataHides, walked over the landed code. By an AI agent; no person has read it.
-/
import Derived.Test.YtjdignbmlfbdnaaGreatQShown
import Derived.Test.YtjdignbmlfbdnaaGreatQHideQ
import Derived.Test.YtjdignbmlfbdnaaGreatZC
import Derived.Test.YtjdignbmlfbdnaaGreatZD
import Derived.Test.YtjdignbmlfbdnaaGreatZ8
import Derived.Test.YtjdignbmlfbdnaaGreatZ9
import Derived.Laws.Bits64b
namespace Go.Proofs.YtjdignbmlfbdnaaGreat.Dta
open Go.RowKit Wire Term Draw Reg Clo

set_option linter.unusedSimpArgs false
set_option linter.unusedVariables false
theorem size_le {S : ByteArray} {l : Tm} {k : Nat} (h : S.data.toList = l) (hl : l.length ≤ k) : S.size ≤ k := by rw [Lib.size_eq, h]; exact hl
theorem bool_is {b : Bool} {p : Prop} [Decidable p] (h : b = true ↔ p) : b = decide p := by
  rw [Bool.eq_iff_iff, decide_eq_true_iff]; exact h
/-- What Derives answers at a row of right terms. -/
theorem der_ans {ys : List ByteArray} {t : ByteArray} {held : List Tm} {x : Tm} {p : Prop} [Decidable p] (h1 : bl ys = held) (h2 : t.data.toList = x) (hr : ∀ z ∈ held, right z = true) (hn : held.length ≤ 200) (hx : right x = true) (hi : Der held x ↔ p) (a : Option Addr) (c n : Nat) (hl : ys.length = n) (hc : n ≤ c) (w : World) (hs : SReads w a ys) :
    Calls Tryz.prog 25 #[.slice a n c, .string t] w fun e w' => e = .returned (.tuple #[.bool (decide p), .int .i64 0]) ∧ Below w.heap.size w w' := by
  subst h1 h2 hl
  have hz : ∀ y ∈ ys, y.size ≤ 140737488355328 := fun y hy => by
    have := (right_sz (hr _ (List.mem_map.2 ⟨y, hy, rfl⟩))).2
    omega
  rw [bl_len'] at hn
  refine (derives_ok a c ys t w hs hc (by omega) hz (by have := (right_sz hx).2; omega)).mono ?_
  rintro e w' ⟨⟨b, f, hd, rfl⟩, hb⟩
  obtain ⟨rfl, h⟩ := dv_ok hd hr (by rw [bl_len']; exact hn) hx
  exact ⟨by rw [bool_is (h.trans hi)], hb⟩
theorem m_facts {n : Nat} (h : n < 18446744073709551616) : ∃ m : Nat, m < 18446744073709551616 ∧ 100 ≤ m ∧ bits .or .u64 (n : Int) 1099511627776 = (m : Int) := by
  refine ⟨n ||| 1099511627776, ?_, ?_, ?_⟩
  · exact Nat.or_lt_two_pow (n := 64) (y := 1099511627776) h (by decide)
  · have := Nat.right_le_or (n := n) (m := 1099511627776)
    omega
  · exact bits_or_u64_nat n 1099511627776 h (by decide)
set_option maxHeartbeats 8000000 in
set_option maxRecDepth 1000000 in
theorem hides_walk (root a b : Int) (k : Nat) (w : World) (h1 : -9223372036854775808 ≤ root ∧ root ≤ 9223372036854775807) (h2 : -9223372036854775808 ≤ a ∧ a ≤ 9223372036854775807) (h3 : -9223372036854775808 ≤ b ∧ b ≤ 9223372036854775807) (h4 : k < 18446744073709551616) :
    Calls Tryz.prog 4 #[.int .i64 root, .int .i64 a, .int .i64 b, .int .u64 (k : Int)] w fun e w' => e = .returned (.bool true) ∧ Below w.heap.size w w' := by
  have HSH := Lib.hid fun w => shown9_any w
  have HPA : Hid (∀ w, Calls Tryz.prog 17 #[.int .i64 a, .int .i64 8] w fun e w' => e = .returned (.int .i64 (pk a 8 : Int)) ∧ w' = w) := Lib.hid fun w => pick9_any a 8 w h2 (by decide) (by decide)
  have HPB : Hid (∀ w, Calls Tryz.prog 17 #[.int .i64 b, .int .i64 8] w fun e w' => e = .returned (.int .i64 (pk b 8 : Int)) ∧ w' = w) := Lib.hid fun w => pick9_any b 8 w h3 (by decide) (by decide)
  have HRT := Lib.hid fun w => rootOf_any root w h1
  have hX := pk_lt a (n := 8) (by decide)
  have hY := pk_lt b (n := 8) (by decide)
  have hN := pk_lt root (n := 5) (by decide)
  generalize pk a 8 = X at HPA hX
  generalize pk b 8 = Y at HPB hY
  generalize pk root 5 = N at HRT hN
  have hn : N < 18446744073709551616 := by omega
  have hx7 : X ≤ 7 := by omega
  have hy7 : Y ≤ 7 := by omega
  obtain ⟨m, hm, hm2, hor⟩ := m_facts h4
  have HST : Hid (∀ (R : ByteArray) (w : World), R.data.toList = rootS N → Calls Tryz.prog 18 #[.string R, .int .i64 (X : Int)] w fun e w' => Sr (hs (7 - X) (rootS N), 0) e ∧ Below w.heap.size w w') := Lib.hid fun R w hR => state_to hn (x := X) (by omega) hR w
  have HSU : Hid (∀ (R : ByteArray) (w : World), R.data.toList = rootS N → Calls Tryz.prog 18 #[.string R, .int .i64 (Y : Int)] w fun e w' => Sr (hs (7 - Y) (rootS N), 0) e ∧ Below w.heap.size w w') := Lib.hid fun R w hR => state_to hn (x := Y) (by omega) hR w
  have HSG : Hid (∀ (w : World), Calls Tryz.prog 24 #[.int .i64 (X : Int)] w fun e w' => St (sgn X) e ∧ Below w.heap.size w w') := Lib.hid fun w => signerOf_any X w (by omega)
  have HKY : Hid (∀ (S : ByteArray) (w : World), S.data.toList = hs (7 - X) (rootS N) → Calls Tryz.prog 20 #[.string S] w fun e w' => Sr (keyh (hs (7 - X) (rootS N)), 0) e ∧ Below w.heap.size w w') := Lib.hid fun S w hS => by
    have h := rkey_any S w (by have := st_len hn (by omega) hS; omega)
    rw [hS, st_keyed hn (by omega)] at h
    exact h
  have HAT : Hid (∀ (w : World), Calls Tryz.prog 21 #[.int .u64 (m : Int)] w fun e w' => St (ofAtom m) e ∧ Below w.heap.size w w') := Lib.hid fun w => t_OfAtom m w hm
  have HAN : Hid (∀ (w : World), Calls Tryz.prog 21 #[.int .u64 99] w fun e w' => St (ofAtom 99) e ∧ Below w.heap.size w w') := Lib.hid fun w => t_OfAtom 99 w (by omega)
  have HSL : Hid (∀ (K A : ByteArray) (w : World), K.data.toList = keyh (hs (7 - X) (rootS N)) → A.data.toList = ofAtom m → Calls Tryz.prog 22 #[.string K, .string A] w fun e w' => Sr (sealA N X m, 0) e ∧ Below w.heap.size w w') := Lib.hid fun K A w hK hA => by
    have h := t_Seal K A w (Nat.le_trans (size_le hK (keyh_sz hn (by omega)).2) (by decide)) (Nat.le_trans (size_le hA (atom_len hm)) (by decide))
    rw [hK, hA, sealA_is hN hx7 hm] at h
    exact h
  have HSN : Hid (∀ (G C : ByteArray) (w : World), G.data.toList = sgn X → C.data.toList = sealA N X m → Calls Tryz.prog 23 #[.string G, .string C] w fun e w' => Sr (sigA N X m, 0) e ∧ Below w.heap.size w w') := Lib.hid fun G C w hG hC => by
    have h := t_Sign G C w (Nat.le_trans (size_le hG (sgn_sz (by omega)).2) (by decide)) (Nat.le_trans (size_le hC (sealA_sz hN hx7 hm).2) (by decide))
    rw [hG, hC, sigA_is hN hx7 hm] at h
    exact h
  have HSF : Hid (∀ (G A : ByteArray) (w : World), G.data.toList = sgn X → A.data.toList = ofAtom 99 → Calls Tryz.prog 23 #[.string G, .string A] w fun e w' => Sr (forgeA X, 0) e ∧ Below w.heap.size w w') := Lib.hid fun G A w hG hA => by
    have h := t_Sign G A w (Nat.le_trans (size_le hG (sgn_sz (by omega)).2) (by decide)) (Nat.le_trans (size_le hA (atom_len (by omega))) (by decide))
    rw [hG, hA, forge_is hx7] at h
    exact h
  have hrC := sealA_right hN hx7 hm
  have hrG := sigA_right hN hx7 hm
  have hrT := st_right hn (k := 7 - Y) (by omega)
  have hrA := atom_ok hm
  have hr9 := atom_ok (n := 99) (by omega)
  have hrF := forge_right hx7
  have HD1 : Hid (∀ (C G T A : ByteArray) (g : Nat) (w : World), C.data.toList = sealA N X m → G.data.toList = sigA N X m → T.data.toList = hs (7 - Y) (rootS N) → A.data.toList = ofAtom m → SReads w (some ⟨g, 0, none⟩) [C, G, T] → Calls Tryz.prog 25 #[.slice (some ⟨g, 0, none⟩) 3 3, .string A] w fun e w' => e = .returned (.tuple #[.bool (decide (X ≤ Y)), .int .i64 0]) ∧ Below w.heap.size w w') := Lib.hid fun C G T A g w hC hG hT hA hs => der_ans (by simp [bl, hC, hG, hT]) hA (by intro z hz; simp at hz; rcases hz with rfl | rfl | rfl <;> assumption) (by simp) hrA (hides_state hN hx7 hy7 hm) _ 3 3 rfl (Nat.le_refl _) w hs
  have HD2 : Hid (∀ (C G A : ByteArray) (g : Nat) (w : World), C.data.toList = sealA N X m → G.data.toList = sigA N X m → A.data.toList = ofAtom m → SReads w (some ⟨g, 0, none⟩) [C, G] → Calls Tryz.prog 25 #[.slice (some ⟨g, 0, none⟩) 2 2, .string A] w fun e w' => e = .returned (.tuple #[.bool false, .int .i64 0]) ∧ Below w.heap.size w w') := Lib.hid fun C G A g w hC hG hA hs => der_ans (p := False) (held := [sealA N X m, sigA N X m]) (by simp [bl, hC, hG]) hA (by intro z hz; simp at hz; rcases hz with rfl | rfl <;> assumption) (by simp) hrA ⟨hides_none hN hx7 hm hm2 (by intro z hz; simp at hz; exact hz), False.elim⟩ _ 2 2 rfl (Nat.le_refl _) w hs
  have HD3 : Hid (∀ (C G T A F : ByteArray) (P : Option Addr) (c base : Nat) (w : World), C.data.toList = sealA N X m → G.data.toList = sigA N X m → T.data.toList = hs (7 - Y) (rootS N) → A.data.toList = ofAtom 99 → F.data.toList = forgeA X → w.ownsRow base 9 1 (.slice P (3 + 1) c) (3 + 1) (sv ([C, G, T] ++ [A])) → Calls Tryz.prog 25 #[.slice P (3 + 1) c, .string F] w fun e w' => e = .returned (.tuple #[.bool false, .int .i64 0]) ∧ Below w.heap.size w w') := Lib.hid fun C G T A F P c base w hC hG hT hA hF ho => by
    obtain ⟨g1, _, g3⟩ := sreads_own ho
    exact der_ans (p := False) (by simp [bl, hC, hG, hT, hA]) hF (by intro z hz; simp at hz; rcases hz with rfl | rfl | rfl | rfl <;> assumption) (by simp) hrF ⟨hides_forge hN hx7 hy7 hm hm2, False.elim⟩ P c (3 + 1) rfl (by simpa using g3) w g1
  clear hrC hrG hrT hrA hr9 hrF h1 h2 h3 hm2
  go_enter Tryz.func4, Tryz.ntmps4
  go_wp2_with fail
  with_reducible refine (HSH.out _).mono ?_
  rintro e w1 ⟨rfl, hb1⟩
  have HB1 := Lib.hid hb1
  clear hb1
  dsimp only
  go_wp2_with fail
  with_reducible refine (HPA.out _).mono ?_
  rintro e v1 ⟨rfl, hv1⟩
  obtain rfl : w1 = v1 := hv1.symm
  dsimp only
  go_wp2_with fail
  with_reducible refine (HPB.out _).mono ?_
  rintro e v2 ⟨rfl, hv2⟩
  obtain rfl : w1 = v2 := hv2.symm
  dsimp only
  go_wp2_with fail
  with_reducible refine (HRT.out _).mono ?_
  rintro e w2 ⟨⟨R, hR, rfl⟩, hb2⟩
  have HB2 := Lib.hid (Clo.Bel.call HB1.out hb2)
  clear hb2
  try dsimp only at hR
  have HR := Lib.hid hR
  clear hR
  dsimp only
  go_wp2_with fail
  with_reducible refine (HST.out R _ HR.out).mono ?_
  rintro e w3 ⟨⟨S, hS, rfl⟩, hb3⟩
  have HB3 := Lib.hid (Clo.Bel.call HB2.out hb3)
  clear hb3
  try dsimp only at hS
  have HS := Lib.hid hS
  clear hS
  dsimp only
  go_wp2_with fail
  with_reducible refine (HRT.out _).mono ?_
  rintro e w4 ⟨⟨V, hV, rfl⟩, hb4⟩
  have HB4 := Lib.hid (Clo.Bel.call HB3.out hb4)
  clear hb4
  try dsimp only at hV
  have HV := Lib.hid hV
  clear hV
  dsimp only
  go_wp2_with fail
  with_reducible refine (HSU.out V _ HV.out).mono ?_
  rintro e w5 ⟨⟨T, hT, rfl⟩, hb5⟩
  have HB5 := Lib.hid (Clo.Bel.call HB4.out hb5)
  clear hb5
  try dsimp only at hT
  have HT := Lib.hid hT
  clear hT
  dsimp only
  go_wp2_with fail
  with_reducible refine (HKY.out S _ HS.out).mono ?_
  rintro e w6 ⟨⟨K, hK, rfl⟩, hb6⟩
  have HB6 := Lib.hid (Clo.Bel.call HB5.out hb6)
  clear hb6
  try dsimp only at hK
  have HK := Lib.hid hK
  clear hK
  dsimp only
  go_wp2_with fail
  with_reducible refine (HAT.out _).mono ?_
  rintro e w7 ⟨⟨A, hA, rfl⟩, hb7⟩
  have HB7 := Lib.hid (Clo.Bel.call HB6.out hb7)
  clear hb7
  try dsimp only at hA
  have HA := Lib.hid hA
  clear hA
  dsimp only
  go_wp2_with fail
  with_reducible refine (HSL.out K A _ HK.out HA.out).mono ?_
  rintro e w8 ⟨⟨C, hC, rfl⟩, hb8⟩
  have HB8 := Lib.hid (Clo.Bel.call HB7.out hb8)
  clear hb8
  try dsimp only at hC
  have HC := Lib.hid hC
  clear hC
  dsimp only
  go_wp2_with fail
  with_reducible refine (HSG.out _).mono ?_
  rintro e w9 ⟨⟨G, hG, rfl⟩, hb9⟩
  have HB9 := Lib.hid (Clo.Bel.call HB8.out hb9)
  clear hb9
  try dsimp only at hG
  have HG := Lib.hid hG
  clear hG
  dsimp only
  go_wp2_with fail
  with_reducible refine (HSN.out G C _ HG.out HC.out).mono ?_
  rintro e w10 ⟨⟨Z, hZ, rfl⟩, hb10⟩
  have HB10 := Lib.hid (Clo.Bel.call HB9.out hb10)
  clear hb10
  try dsimp only at hZ
  have HZ := Lib.hid hZ
  clear hZ
  dsimp only
  go_wp2_with fail
  have hbS : Below w10.heap.size w10 (w10.alloc (.cells #[.string C, .string Z, .string T] 9)) := (Below.refl w10.heap.size w10).alloc (Nat.le_refl _) _
  have hxS := lit_reads w10 [C, Z, T] #[.string C, .string Z, .string T] rfl w10.heap.size rfl
  generalize w10.alloc (.cells #[.string C, .string Z, .string T] 9) = wSRD at hbS hxS ⊢
  have HB11 := Lib.hid (Clo.Bel.call HB10.out hbS)
  have HRD := Lib.hid hxS
  clear hbS hxS
  with_reducible refine (HD1.out C Z T A _ _ HC.out HZ.out HT.out HA.out HRD.out).mono ?_
  rintro e w12 ⟨rfl, hb12⟩
  have HB12 := Lib.hid (Clo.Bel.call HB11.out hb12)
  replace HRD := Lib.hid (HRD.out.below hb12 (Nat.le_refl _))
  clear hb12
  dsimp only
  go_wp2_with fail
  have hbS : Below w12.heap.size w12 (w12.alloc (.cells #[.string C, .string Z] 9)) := (Below.refl w12.heap.size w12).alloc (Nat.le_refl _) _
  have hxS := lit_reads w12 [C, Z] #[.string C, .string Z] rfl w12.heap.size rfl
  generalize w12.alloc (.cells #[.string C, .string Z] 9) = wSRE at hbS hxS ⊢
  have HB13 := Lib.hid (Clo.Bel.call HB12.out hbS)
  replace HRD := Lib.hid (HRD.out.below hbS (Nat.le_refl _))
  have HRE := Lib.hid hxS
  clear hbS hxS
  with_reducible refine (HD2.out C Z A _ _ HC.out HZ.out HA.out HRE.out).mono ?_
  rintro e w14 ⟨rfl, hb14⟩
  have HB14 := Lib.hid (Clo.Bel.call HB13.out hb14)
  replace HRD := Lib.hid (HRD.out.below hb14 (Nat.le_refl _))
  replace HRE := Lib.hid (HRE.out.below hb14 (Nat.le_refl _))
  clear hb14
  dsimp only
  clear HRE
  go_wp2_with fail
  with_reducible refine (HSG.out _).mono ?_
  rintro e w15 ⟨⟨H, hH, rfl⟩, hb15⟩
  have HB15 := Lib.hid (Clo.Bel.call HB14.out hb15)
  replace HRD := Lib.hid (HRD.out.below hb15 (Nat.le_refl _))
  clear hb15
  try dsimp only at hH
  have HH := Lib.hid hH
  clear hH
  dsimp only
  go_wp2_with fail
  with_reducible refine (HAN.out _).mono ?_
  rintro e w16 ⟨⟨D, hD, rfl⟩, hb16⟩
  have HB16 := Lib.hid (Clo.Bel.call HB15.out hb16)
  replace HRD := Lib.hid (HRD.out.below hb16 (Nat.le_refl _))
  clear hb16
  try dsimp only at hD
  have HD := Lib.hid hD
  clear hD
  dsimp only
  go_wp2_with fail
  with_reducible refine (HSF.out H D _ HH.out HD.out).mono ?_
  rintro e w17 ⟨⟨F, hF, rfl⟩, hb17⟩
  have HB17 := Lib.hid (Clo.Bel.call HB16.out hb17)
  replace HRD := Lib.hid (HRD.out.below hb17 (Nat.le_refl _))
  clear hb17
  try dsimp only at hF
  have HF := Lib.hid hF
  clear hF
  dsimp only
  have HE := Lib.hid (own_empty w17 w17.heap.size (Nat.le_refl _))
  have BA := Lib.hid ((Below.refl w17.heap.size w17).alloc (Nat.le_refl _) (.cells #[] 9))
  have HS8 := Lib.hid (HRD.out.below BA.out (Nat.le_refl _))
  go_wp2_with (at_builtin; refine append_strs rfl _ _ rfl w17.heap.size _ 0 [] [C, Z, T] rfl rfl HE.out _ 3 3 rfl rfl (fun h => by cases h) HS8.out (by omega) BA.out.size ?_)
  intro u8 x8 hown8 hbb8
  have HX8 := Lib.hid (BA.out.trans hbb8)
  have HO8 := Lib.hid hown8
  clear hown8 hbb8 HE HS8 BA HRD
  go_wp2_with fail
  with_reducible refine (HAN.out _).mono ?_
  rintro e x9 ⟨⟨E, hE, rfl⟩, hb9⟩
  have HX9 := Lib.hid (HX8.out.trans (hb9.mono HX8.out.size))
  have HO9 := Lib.hid (own_below HO8.out hb9 (Nat.le_refl _))
  have HEE := Lib.hid hE
  clear hb9 hE HX8 HO8
  dsimp only
  have HLX := Lib.hid (lit_reads x9 [E] #[.string E] rfl x9.heap.size rfl)
  have BX := Lib.hid (HX9.out.alloc HX9.out.size (.cells #[.string E] 9))
  go_wp2_with (at_builtin; refine append_strs rfl _ _ rfl w17.heap.size _ 3 [C, Z, T] [E] rfl rfl (HO9.out.alloc _) _ 1 1 rfl rfl (by simp) HLX.out (by omega) BX.out.size ?_)
  intro v8 y8 hown8 hbb8
  have BB8 := Lib.hid (BX.out.trans hbb8)
  have HO := Lib.hid hown8
  obtain ⟨P8, p8, rfl⟩ := own_value HO.out
  clear hown8 hbb8 HLX BX HX9 HO9
  go_wp2_with fail
  with_reducible refine (HD3.out C Z T E F P8 p8 _ _ HC.out HZ.out HT.out HEE.out HF.out HO.out).mono ?_
  rintro e z8 ⟨rfl, hb10⟩
  have HB9 := Lib.hid (Clo.Bel.call HB17.out (Clo.Bel.call BB8.out hb10))
  clear hb10 BB8 HO
  dsimp only
  by_cases hXY : X ≤ Y
  · rw [decide_eq_true hXY]
    have hi : (X : Int) ≤ (Y : Int) := by omega
    go_wp2
    go_ret
    exact ⟨rfl, HB9.out⟩
  · rw [decide_eq_false hXY]
    have hi : (Y : Int) < (X : Int) := by omega
    go_wp2
    go_ret
    exact ⟨rfl, HB9.out⟩
end Go.Proofs.YtjdignbmlfbdnaaGreat.Dta
