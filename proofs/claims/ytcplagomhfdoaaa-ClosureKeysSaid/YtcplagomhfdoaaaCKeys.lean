/-
  THE WALK of ClosureKeys. By an AI agent; no person has read it.
-/
import Derived.Test.YtcplagomhfdoaaaCLaw
namespace Go.Proofs.Ytcplagomhfdoaaa.Clo
open Go.RowKit Wire Term

theorem two_err {k : UInt8} {a b x : List UInt8} {f : Int} (h : two k a b = (x, f)) : f = 0 ∨ f = 1 ∨ f = 10 := by
  unfold two at h
  split at h
  · rcases made_err h with ⟨h1, _⟩ | ⟨h1, _⟩
    · exact .inl h1
    · exact .inr (.inr h1)
  · simp only [Prod.mk.injEq] at h; exact .inr (.inl h.2.symm)
theorem box_err {a b x : List UInt8} {f : Int} (h : box a b = (x, f)) : f = 0 ∨ f = 1 ∨ f = 10 := by
  unfold box at h
  split at h
  · exact two_err h
  · simp only [Prod.mk.injEq] at h; exact .inr (.inl h.2.symm)
/-- What holds the atom a alone, for the key. -/
def Holds (c key a : List UInt8) : Prop := (c.headD 0 = 115 ∧ pts c = [key, a]) ∨ (c.headD 0 = 98 ∧ ∃ u, u.tail = key ∧ pts c = [u, a])
theorem seal_holds {k a x : List UInt8} {f : Int} (h : two 115 k a = (x, f)) (h0 : f = 0) : Holds x k a ∧ right x = true := by
  obtain ⟨rfl, h1, h2, _⟩ := two_made h h0
  exact ⟨.inl ⟨rfl, pts_bi (by simp) h1 h2⟩, h1⟩
theorem box_holds {k a u x : List UInt8} {g f : Int} (hu : one 117 k = (u, g)) (h : box u a = (x, f)) (h0 : f = 0) : Holds x k a ∧ right x = true := by
  unfold box at h
  split at h
  · rename_i hr
    by_cases hg : g = 0
    · obtain ⟨rfl, _, _⟩ := one_made hu hg
      obtain ⟨rfl, h1, h2, _⟩ := two_made h h0
      exact ⟨.inr ⟨rfl, 117 :: k, rfl, pts_bi (by simp) h1 h2⟩, h1⟩
    · have := one_empty hu hg
      rw [hr.1] at this; cases this
  · simp only [Prod.mk.injEq] at h; omega
theorem err_list {f : Int} (h : f = 0 ∨ f = 1 ∨ f = 10) (h0 : f ≠ 0) : ((f == 10) = true) ∨ ((f == 10) = false ∧ (f == 1) = true) := by
  rcases h with h | h | h
  · exact absurd h h0
  · rw [h]; exact .inr ⟨rfl, rfl⟩
  · rw [h]; exact .inl rfl
theorem good_clean {z : List UInt8} (h : Good z) : Clean (ofAtom 77777) z := h.2 77777 (by omega) (by omega)
set_option maxHeartbeats 16000000 in
set_option maxRecDepth 1000000 in
theorem keys_walk (CD : DerivesOK) (a : Option Addr) (ca : Nat) (zs : List Int) (b : Option Addr) (cb : Nat) (rows : List (List Int)) (boxed : Bool) (w : World) (hz : IReads w a zs) (hr : RReads w b rows) :
    Calls Try.prog 5 #[.slice a zs.length ca, .slice b rows.length cb, .bool boxed] w fun e w' => e = .returned (.bool true) ∧ Below w.heap.size w w' := by
  have HZ := Lib.hid hz
  have HR := Lib.hid hr
  have HSH : Hid (∀ w : World, Calls Try.prog 10 #[] w fun e w' => e = .returned (.bool true) ∧ Below w.heap.size w w') := fun w => shown_any CD w
  clear hz hr
  by_cases h20 : (20 : Int) < (rows.length : Int)
  · go_enter Try.func5, Try.ntmps5
    go_wp2_with (go_at_call 10; refine (HSH.out _).mono ?_; rintro e w1 ⟨rfl, hb1⟩; have HB1 := Lib.hid hb1; clear hb1)
    go_ret
    exact ⟨rfl, HB1.out⟩
  go_enter Try.func5, Try.ntmps5
  go_wp2_with (go_at_call 10; refine (HSH.out _).mono ?_; rintro e w1 ⟨rfl, hb1⟩; have HB1 := Lib.hid hb1; clear hb1)
  refine (grownG_any a ca zs _ (HZ.out.below HB1.out (Nat.le_refl _))).mono ?_
  rintro e w2 ⟨⟨K, hK, rfl⟩, hb2⟩
  have HB2 := Lib.hid (HB1.out.trans (hb2.mono HB1.out.size))
  have hKz := good_size hK
  have HK := Lib.hid hK
  clear hb2 hK HB1
  go_wp2_with fail
  refine (t_OfAtom 77777 _ (by omega)).mono ?_
  rintro e w3 ⟨⟨A, hA, rfl⟩, hb3⟩
  have hAz : A.size ≤ 10 := by rw [Lib.size_eq, hA]; exact atom_len (by omega)
  have hAr : right A.data.toList = true := by rw [hA]; exact ofAtom_right (by omega)
  have hAh : A.data.toList.headD 0 = 97 := by rw [hA]; rfl
  have HB3 := Lib.hid (HB2.out.trans (hb3.mono HB2.out.size))
  have HA := Lib.hid hA
  have HAR := Lib.hid hAr
  have HAH := Lib.hid hAh
  clear hb3 hA hAr hAh HB2
  obtain ⟨x, f, hx⟩ : ∃ x f, two 115 K.data.toList A.data.toList = (x, f) := ⟨_, _, rfl⟩
  have HX := Lib.hid hx
  clear hx
  go_wp2_with fail
  refine (t_Seal K A _ (by omega) (by omega)).mono ?_
  rw [HX.out]
  rintro e w4 ⟨⟨C, hC, rfl⟩, hb4⟩
  dsimp only at hC ⊢
  have HB4 := Lib.hid (HB3.out.trans (hb4.mono HB3.out.size))
  have HC := Lib.hid hC
  clear hb4 hC HB3
  cases boxed with
  | false =>
    by_cases hf : f = 0
    · subst hf
      have HH := Lib.hid (seal_holds HX.out rfl)
      rw [← HC.out] at HH
      have HBX := HB4
      clear HX HC HB4
      go_wp2_with fail
      refine (some_any b cb rows _ (HR.out.below HBX.out (Nat.le_refl _))).mono ?_
      rintro e w5 ⟨⟨D, cd, ys, hy6, hyc, hnil, hyr, hyg, rfl⟩, hb5⟩
      have HB5 := Lib.hid (HBX.out.trans (hb5.mono HBX.out.size))
      have HYR := Lib.hid hyr
      have HYN := Lib.hid hnil
      have HYZ : Hid (∀ y ∈ ys, y.size ≤ 140737488355328) := fun y hy => Nat.le_trans (good_size (hyg y hy)) (by decide)
      have HYB : Hid (∀ z ∈ bl ys, right z = true) := fun z hz => (good_bl hyg z hz).1
      have HYL : Hid ((bl ys).length ≤ 6) := by show (bl ys).length ≤ 6; rw [bl_len]; exact hy6
      have HCL : Hid (∀ z ∈ bl ys, Clean A.data.toList z) := fun z hz => by rw [HA.out]; exact good_clean (good_bl hyg z hz)
      have BB5 := Lib.hid (Below.refl w5.heap.size w5)
      have HCR := Lib.hid HH.out.2
      have HCZ := (right_sz HCR.out).2
      clear hb5 hyr hyg hnil HBX
      go_wp2_with fail
      refine (der_reads CD (w0 := w5) D cd ys A HYR.out hyc BB5.out (by omega) HYZ.out (by omega)).mono ?_
      rintro e w6 ⟨⟨b1, f1, h1, rfl⟩, hb6⟩
      obtain ⟨rfl, hi1⟩ := dv_ok h1 HYB.out (by have := HYL.out; omega) HAR.out
      obtain rfl : b1 = false := by rw [← Bool.not_eq_true]; exact fun h => der_clean HCL.out HAH.out (hi1.1 h)
      have BB6 := Lib.hid hb6
      clear hb6 h1 hi1 BB5
      dsimp only
      go_wp2_with fail
      refine (der_reads CD (w0 := w5) D cd ys K HYR.out hyc BB6.out (by omega) HYZ.out (by omega)).mono ?_
      rintro e w7 ⟨⟨b2, f2, h2, rfl⟩, hb7⟩
      obtain ⟨rfl, hi2⟩ := dv_ok h2 HYB.out (by have := HYL.out; omega) HK.out.1
      have HI2 := Lib.hid hi2
      have BB7 := Lib.hid hb7
      clear hb7 h2 hi2 BB6
      dsimp only
      have HE8 := Lib.hid (own_empty w7 w5.heap.size BB7.out.size)
      have BA8 := Lib.hid (BB7.out.alloc BB7.out.size (.cells #[] 9))
      have HS8 := Lib.hid (HYR.out.below BA8.out (Nat.le_refl _))
      go_wp2_with (at_builtin; refine append_strs rfl _ _ rfl w5.heap.size _ 0 [] ys rfl rfl HE8.out _ _ _ rfl rfl HYN.out HS8.out (by omega) BA8.out.size ?_)
      intro u8 x8 hown8 hbb8
      have HX8 := Lib.hid (BA8.out.trans hbb8)
      have HOX8 := Lib.hid hown8
      have HLX8 := Lib.hid (lit_reads x8 [C] #[.string C] rfl x8.heap.size rfl)
      have BX8 := Lib.hid (HX8.out.alloc HX8.out.size (.cells #[.string C] 9))
      clear hown8 hbb8 HE8 HS8 BA8 BB7
      go_wp2_with (at_builtin; refine append_strs rfl _ _ rfl w5.heap.size _ ys.length ys [C] rfl rfl (HOX8.out.alloc _) _ 1 1 rfl rfl (by simp) HLX8.out (by omega) BX8.out.size ?_)
      intro v8 w8 hown8 hbb8
      have BB8 := Lib.hid (BX8.out.trans hbb8)
      have HO8 := Lib.hid hown8
      obtain ⟨P8, p8, rfl⟩ := own_value HO8.out
      clear hown8 hbb8 HLX8 BX8 HX8 HOX8
      go_wp2_with fail
      refine (der_own CD (w0 := w5) P8 _ p8 (ys ++ [C]) A (by simp) HO8.out BB8.out (by simp; omega) (fun y hy => ?_) (by omega)).mono ?_
      · rcases List.mem_append.1 hy with h | h
        · exact HYZ.out y h
        · rw [List.mem_singleton.1 h]; omega
      rintro e w9 ⟨⟨b3, f3, h3, rfl⟩, hb9⟩
      have hbl3 : bl (ys ++ [C]) = bl ys ++ [C.data.toList] := by simp [bl]
      rw [hbl3] at h3
      obtain ⟨rfl, hi3⟩ := dv_ok h3 (fun z hz => by
        rcases List.mem_append.1 hz with h | h
        · exact HYB.out z h
        · rw [List.mem_singleton.1 h]; exact HCR.out) (by have := HYL.out; simp; omega) HAR.out
      obtain rfl : b3 = b2 := bool_iff (hi3.trans (der_key HCL.out (by rw [HA.out]; exact good_clean HK.out) HAH.out HH.out.1)) HI2.out
      have BB9 := Lib.hid hb9
      clear hb9 h3 hi3 hbl3 BB8 HO8
      dsimp only
      have HE10 := Lib.hid (own_empty w9 w5.heap.size BB9.out.size)
      have BA10 := Lib.hid (BB9.out.alloc BB9.out.size (.cells #[] 9))
      have HS10 := Lib.hid (HYR.out.below BA10.out (Nat.le_refl _))
      go_wp2_with (at_builtin; refine append_strs rfl _ _ rfl w5.heap.size _ 0 [] ys rfl rfl HE10.out _ _ _ rfl rfl HYN.out HS10.out (by omega) BA10.out.size ?_)
      intro u10 x10 hown10 hbb10
      have HX10 := Lib.hid (BA10.out.trans hbb10)
      have HOX10 := Lib.hid hown10
      have HLX10 := Lib.hid (lit_reads x10 [C, K] #[.string C, .string K] rfl x10.heap.size rfl)
      have BX10 := Lib.hid (HX10.out.alloc HX10.out.size (.cells #[.string C, .string K] 9))
      clear hown10 hbb10 HE10 HS10 BA10 BB9
      go_wp2_with (at_builtin; refine append_strs rfl _ _ rfl w5.heap.size _ ys.length ys [C, K] rfl rfl (HOX10.out.alloc _) _ 2 2 rfl rfl (by simp) HLX10.out (by omega) BX10.out.size ?_)
      intro v10 w10 hown10 hbb10
      have BB10 := Lib.hid (BX10.out.trans hbb10)
      have HO10 := Lib.hid hown10
      obtain ⟨P10, p10, rfl⟩ := own_value HO10.out
      clear hown10 hbb10 HLX10 BX10 HX10 HOX10
      go_wp2_with fail
      refine (der_own CD (w0 := w5) P10 _ p10 (ys ++ [C, K]) A (by simp) HO10.out BB10.out (by simp; omega) (fun y hy => ?_) (by omega)).mono ?_
      · rcases List.mem_append.1 hy with h | h
        · exact HYZ.out y h
        · have : y = C ∨ y = K := by simpa using h
          rcases this with rfl | rfl <;> omega
      rintro e w11 ⟨⟨b4, f4, h4, rfl⟩, hb11⟩
      have hbl4 : bl (ys ++ [C, K]) = bl ys ++ [C.data.toList, K.data.toList] := by simp [bl]
      rw [hbl4] at h4
      obtain ⟨rfl, hi4⟩ := dv_ok h4 (fun z hz => by
        rcases List.mem_append.1 hz with h | h
        · exact HYB.out z h
        · have : z = C.data.toList ∨ z = K.data.toList := by simpa using h
          rcases this with rfl | rfl
          · exact HCR.out
          · exact HK.out.1) (by have := HYL.out; simp; omega) HAR.out
      obtain rfl : b4 = true := hi4.2 (der_with HH.out.1)
      have BB11 := Lib.hid hb11
      clear hb11 h4 hi4 hbl4 BB10 HO10
      dsimp only
      go_wp2
      go_ret
      exact ⟨ret_bool (by cases b3 <;> rfl), Bel.call HB5.out BB11.out⟩
    · have hfb : (f != 0) = true := by simpa using hf
      rcases err_list (two_err HX.out) hf with he | ⟨he, he2⟩
      · clear hf
        go_wp2
        go_ret
        exact ⟨rfl, HB4.out⟩
      · clear hf
        go_wp2
        go_ret
        exact ⟨rfl, HB4.out⟩
  | true =>
    obtain ⟨y, g, hy⟩ : ∃ y g, one 117 K.data.toList = (y, g) := ⟨_, _, rfl⟩
    have HY := Lib.hid hy
    have hyz : y.length ≤ 4000 := by
      unfold one at hy
      split at hy
      · rcases made_err hy with ⟨_, rfl, h⟩ | ⟨_, rfl, _⟩
        · exact (right_len h).2
        · simp
      · simp only [Prod.mk.injEq] at hy
        rw [← hy.1]; simp
    clear hy HX HC
    go_wp2_with fail
    refine (t_OfPublic K _ (by omega)).mono ?_
    rw [HY.out]
    rintro e w41 ⟨⟨U, hU, rfl⟩, hb41⟩
    dsimp only at hU ⊢
    have HB41 := Lib.hid (HB4.out.trans (hb41.mono HB4.out.size))
    have hUz : U.size ≤ 4000 := by rw [Lib.size_eq, hU]; exact hyz
    obtain ⟨x2, f2', hx2⟩ : ∃ x f, box y A.data.toList = (x, f) := ⟨_, _, rfl⟩
    have HX2 := Lib.hid hx2
    have HU := Lib.hid hU
    clear hb41 hU hx2 HB4
    go_wp2_with fail
    refine (t_Box U A _ (by omega) (by omega)).mono ?_
    rw [HU.out, HX2.out]
    rintro e w42 ⟨⟨C2, hC2, rfl⟩, hb42⟩
    dsimp only at hC2 ⊢
    have HB42 := Lib.hid (HB41.out.trans (hb42.mono HB41.out.size))
    have HC2 := Lib.hid hC2
    clear hb42 hC2 HB41
    by_cases hf : f2' = 0
    · subst hf
      have HH := Lib.hid (box_holds HY.out HX2.out rfl)
      rw [← HC2.out] at HH
      have HBX := HB42
      clear HX2 HC2 HB42 HY HU
      go_wp2_with fail
      refine (some_any b cb rows _ (HR.out.below HBX.out (Nat.le_refl _))).mono ?_
      rintro e w5 ⟨⟨D, cd, ys, hy6, hyc, hnil, hyr, hyg, rfl⟩, hb5⟩
      have HB5 := Lib.hid (HBX.out.trans (hb5.mono HBX.out.size))
      have HYR := Lib.hid hyr
      have HYN := Lib.hid hnil
      have HYZ : Hid (∀ y ∈ ys, y.size ≤ 140737488355328) := fun y hy => Nat.le_trans (good_size (hyg y hy)) (by decide)
      have HYB : Hid (∀ z ∈ bl ys, right z = true) := fun z hz => (good_bl hyg z hz).1
      have HYL : Hid ((bl ys).length ≤ 6) := by show (bl ys).length ≤ 6; rw [bl_len]; exact hy6
      have HCL : Hid (∀ z ∈ bl ys, Clean A.data.toList z) := fun z hz => by rw [HA.out]; exact good_clean (good_bl hyg z hz)
      have BB5 := Lib.hid (Below.refl w5.heap.size w5)
      have HCR := Lib.hid HH.out.2
      have HCZ := (right_sz HCR.out).2
      clear hb5 hyr hyg hnil HBX
      go_wp2_with fail
      refine (der_reads CD (w0 := w5) D cd ys A HYR.out hyc BB5.out (by omega) HYZ.out (by omega)).mono ?_
      rintro e w6 ⟨⟨b1, f1, h1, rfl⟩, hb6⟩
      obtain ⟨rfl, hi1⟩ := dv_ok h1 HYB.out (by have := HYL.out; omega) HAR.out
      obtain rfl : b1 = false := by rw [← Bool.not_eq_true]; exact fun h => der_clean HCL.out HAH.out (hi1.1 h)
      have BB6 := Lib.hid hb6
      clear hb6 h1 hi1 BB5
      dsimp only
      go_wp2_with fail
      refine (der_reads CD (w0 := w5) D cd ys K HYR.out hyc BB6.out (by omega) HYZ.out (by omega)).mono ?_
      rintro e w7 ⟨⟨b2, f2, h2, rfl⟩, hb7⟩
      obtain ⟨rfl, hi2⟩ := dv_ok h2 HYB.out (by have := HYL.out; omega) HK.out.1
      have HI2 := Lib.hid hi2
      have BB7 := Lib.hid hb7
      clear hb7 h2 hi2 BB6
      dsimp only
      have HE8 := Lib.hid (own_empty w7 w5.heap.size BB7.out.size)
      have BA8 := Lib.hid (BB7.out.alloc BB7.out.size (.cells #[] 9))
      have HS8 := Lib.hid (HYR.out.below BA8.out (Nat.le_refl _))
      go_wp2_with (at_builtin; refine append_strs rfl _ _ rfl w5.heap.size _ 0 [] ys rfl rfl HE8.out _ _ _ rfl rfl HYN.out HS8.out (by omega) BA8.out.size ?_)
      intro u8 x8 hown8 hbb8
      have HX8 := Lib.hid (BA8.out.trans hbb8)
      have HOX8 := Lib.hid hown8
      have HLX8 := Lib.hid (lit_reads x8 [C2] #[.string C2] rfl x8.heap.size rfl)
      have BX8 := Lib.hid (HX8.out.alloc HX8.out.size (.cells #[.string C2] 9))
      clear hown8 hbb8 HE8 HS8 BA8 BB7
      go_wp2_with (at_builtin; refine append_strs rfl _ _ rfl w5.heap.size _ ys.length ys [C2] rfl rfl (HOX8.out.alloc _) _ 1 1 rfl rfl (by simp) HLX8.out (by omega) BX8.out.size ?_)
      intro v8 w8 hown8 hbb8
      have BB8 := Lib.hid (BX8.out.trans hbb8)
      have HO8 := Lib.hid hown8
      obtain ⟨P8, p8, rfl⟩ := own_value HO8.out
      clear hown8 hbb8 HLX8 BX8 HX8 HOX8
      go_wp2_with fail
      refine (der_own CD (w0 := w5) P8 _ p8 (ys ++ [C2]) A (by simp) HO8.out BB8.out (by simp; omega) (fun y hy => ?_) (by omega)).mono ?_
      · rcases List.mem_append.1 hy with h | h
        · exact HYZ.out y h
        · rw [List.mem_singleton.1 h]; omega
      rintro e w9 ⟨⟨b3, f3, h3, rfl⟩, hb9⟩
      have hbl3 : bl (ys ++ [C2]) = bl ys ++ [C2.data.toList] := by simp [bl]
      rw [hbl3] at h3
      obtain ⟨rfl, hi3⟩ := dv_ok h3 (fun z hz => by
        rcases List.mem_append.1 hz with h | h
        · exact HYB.out z h
        · rw [List.mem_singleton.1 h]; exact HCR.out) (by have := HYL.out; simp; omega) HAR.out
      obtain rfl : b3 = b2 := bool_iff (hi3.trans (der_key HCL.out (by rw [HA.out]; exact good_clean HK.out) HAH.out HH.out.1)) HI2.out
      have BB9 := Lib.hid hb9
      clear hb9 h3 hi3 hbl3 BB8 HO8
      dsimp only
      have HE10 := Lib.hid (own_empty w9 w5.heap.size BB9.out.size)
      have BA10 := Lib.hid (BB9.out.alloc BB9.out.size (.cells #[] 9))
      have HS10 := Lib.hid (HYR.out.below BA10.out (Nat.le_refl _))
      go_wp2_with (at_builtin; refine append_strs rfl _ _ rfl w5.heap.size _ 0 [] ys rfl rfl HE10.out _ _ _ rfl rfl HYN.out HS10.out (by omega) BA10.out.size ?_)
      intro u10 x10 hown10 hbb10
      have HX10 := Lib.hid (BA10.out.trans hbb10)
      have HOX10 := Lib.hid hown10
      have HLX10 := Lib.hid (lit_reads x10 [C2, K] #[.string C2, .string K] rfl x10.heap.size rfl)
      have BX10 := Lib.hid (HX10.out.alloc HX10.out.size (.cells #[.string C2, .string K] 9))
      clear hown10 hbb10 HE10 HS10 BA10 BB9
      go_wp2_with (at_builtin; refine append_strs rfl _ _ rfl w5.heap.size _ ys.length ys [C2, K] rfl rfl (HOX10.out.alloc _) _ 2 2 rfl rfl (by simp) HLX10.out (by omega) BX10.out.size ?_)
      intro v10 w10 hown10 hbb10
      have BB10 := Lib.hid (BX10.out.trans hbb10)
      have HO10 := Lib.hid hown10
      obtain ⟨P10, p10, rfl⟩ := own_value HO10.out
      clear hown10 hbb10 HLX10 BX10 HX10 HOX10
      go_wp2_with fail
      refine (der_own CD (w0 := w5) P10 _ p10 (ys ++ [C2, K]) A (by simp) HO10.out BB10.out (by simp; omega) (fun y hy => ?_) (by omega)).mono ?_
      · rcases List.mem_append.1 hy with h | h
        · exact HYZ.out y h
        · have : y = C2 ∨ y = K := by simpa using h
          rcases this with rfl | rfl <;> omega
      rintro e w11 ⟨⟨b4, f4, h4, rfl⟩, hb11⟩
      have hbl4 : bl (ys ++ [C2, K]) = bl ys ++ [C2.data.toList, K.data.toList] := by simp [bl]
      rw [hbl4] at h4
      obtain ⟨rfl, hi4⟩ := dv_ok h4 (fun z hz => by
        rcases List.mem_append.1 hz with h | h
        · exact HYB.out z h
        · have : z = C2.data.toList ∨ z = K.data.toList := by simpa using h
          rcases this with rfl | rfl
          · exact HCR.out
          · exact HK.out.1) (by have := HYL.out; simp; omega) HAR.out
      obtain rfl : b4 = true := hi4.2 (der_with HH.out.1)
      have BB11 := Lib.hid hb11
      clear hb11 h4 hi4 hbl4 BB10 HO10
      dsimp only
      go_wp2
      go_ret
      exact ⟨ret_bool (by cases b3 <;> rfl), Bel.call HB5.out BB11.out⟩
    · have hfb : (f2' != 0) = true := by simpa using hf
      rcases err_list (box_err HX2.out) hf with he | ⟨he, he2⟩
      · clear hf
        go_wp2
        go_ret
        exact ⟨rfl, HB42.out⟩
      · clear hf
        go_wp2
        go_ret
        exact ⟨rfl, HB42.out⟩
end Go.Proofs.Ytcplagomhfdoaaa.Clo
