/-
  THE WALK of ClosureParts. By an AI agent; no person has read it.
-/
import Derived.Test.YtcplagomhfdoaaaCLaw
namespace Go.Proofs.Ytcplagomhfdoaaa.Clo
open Go.RowKit Wire Term

set_option maxHeartbeats 16000000 in
set_option maxRecDepth 1000000 in
theorem parts_walk (CD : DerivesOK) (l : Option Addr) (cl : Nat) (rows : List (List Int)) (a : Option Addr) (ca : Nat) (zs : List Int) (b : Option Addr) (cb : Nat) (us : List Int) (w : World) (hr : RReads w l rows) (hz : IReads w a zs) (hu : IReads w b us) :
    Calls Try.prog 7 #[.slice l rows.length cl, .slice a zs.length ca, .slice b us.length cb] w fun e w' => e = .returned (.bool true) ∧ Below w.heap.size w w' := by
  have HR := Lib.hid hr
  have HZ := Lib.hid hz
  have HU := Lib.hid hu
  have HSH : Hid (∀ w : World, Calls Try.prog 10 #[] w fun e w' => e = .returned (.bool true) ∧ Below w.heap.size w w') := fun w => shown_any CD w
  clear hr hz hu
  by_cases h20 : (12 : Int) < (rows.length : Int)
  · go_enter Try.func7, Try.ntmps7
    go_wp2_with (go_at_call 10; refine (HSH.out _).mono ?_; rintro e w1 ⟨rfl, hb1⟩; have HB1 := Lib.hid hb1; clear hb1)
    go_ret
    exact ⟨rfl, HB1.out⟩
  go_enter Try.func7, Try.ntmps7
  go_wp2_with (go_at_call 10; refine (HSH.out _).mono ?_; rintro e w1 ⟨rfl, hb1⟩; have HB1 := Lib.hid hb1; clear hb1)
  refine (some_any l cl rows _ (HR.out.below HB1.out (Nat.le_refl _))).mono ?_
  rintro e w2 ⟨⟨D, cd, ys, hy6, hyc, hnil, hyr, hyg, rfl⟩, hb2⟩
  have HB2 := Lib.hid (HB1.out.trans (hb2.mono HB1.out.size))
  have HYR := Lib.hid hyr
  have HYN := Lib.hid hnil
  have HYZ : Hid (∀ y ∈ ys, y.size ≤ 140737488355328) := fun y hy => Nat.le_trans (good_size (hyg y hy)) (by decide)
  have HYB : Hid (∀ z ∈ bl ys, right z = true) := fun z hz => (good_bl hyg z hz).1
  have HYL : Hid ((bl ys).length ≤ 6) := by show (bl ys).length ≤ 6; rw [bl_len]; exact hy6
  clear hb2 hyr hyg hnil HB1
  go_wp2_with fail
  refine (grownG_any a ca zs _ (HZ.out.below HB2.out (Nat.le_refl _))).mono ?_
  rintro e w3 ⟨⟨A, hA, rfl⟩, hb3⟩
  have BB3 := Lib.hid hb3
  have hAz := good_size hA
  have HA := Lib.hid hA
  clear hb3 hA
  go_wp2_with fail
  refine (grownG_any b cb us _ (HU.out.below (Bel.call HB2.out BB3.out) (Nat.le_refl _))).mono ?_
  rintro e w4 ⟨⟨B, hB, rfl⟩, hb4⟩
  have BB4 := Lib.hid (Bel.call BB3.out hb4)
  have hBz := good_size hB
  have HB := Lib.hid hB
  clear hb4 hB BB3
  obtain ⟨x1, f1, hx1⟩ : ∃ x f, two 112 A.data.toList B.data.toList = (x, f) := ⟨_, _, rfl⟩
  obtain ⟨x2, f2, hx2⟩ : ∃ x f, two 115 A.data.toList B.data.toList = (x, f) := ⟨_, _, rfl⟩
  obtain ⟨x3, f3, hx3⟩ : ∃ x f, one 104 A.data.toList = (x, f) := ⟨_, _, rfl⟩
  have HX1 := Lib.hid hx1
  have HX2 := Lib.hid hx2
  have HX3 := Lib.hid hx3
  clear hx1 hx2 hx3
  go_wp2_with fail
  refine (t_OfPair A B _ (by omega) (by omega)).mono ?_
  rw [HX1.out]
  rintro e w5 ⟨⟨P, hP, rfl⟩, hb5⟩
  dsimp only at hP ⊢
  have BB5 := Lib.hid (Bel.call BB4.out hb5)
  have HP := Lib.hid hP
  clear hb5 hP BB4
  go_wp2_with fail
  refine (t_Seal A B _ (by omega) (by omega)).mono ?_
  rw [HX2.out]
  rintro e w6 ⟨⟨S, hS, rfl⟩, hb6⟩
  dsimp only at hS ⊢
  have BB6 := Lib.hid (Bel.call BB5.out hb6)
  have HS := Lib.hid hS
  clear hb6 hS BB5
  go_wp2_with fail
  refine (t_OfHash A _ (by omega)).mono ?_
  rw [HX3.out]
  rintro e w7 ⟨⟨H, hH, rfl⟩, hb7⟩
  dsimp only at hH ⊢
  have BB7 := Lib.hid (Bel.call BB6.out hb7)
  have HH := Lib.hid hH
  clear hb7 hH BB6
  by_cases e1 : f1 = 0
  · subst e1
    by_cases e2 : f2 = 0
    · subst e2
      by_cases e3 : f3 = 0
      · subst e3
        obtain ⟨rfl, p2, p3, p4⟩ := two_made HX1.out rfl
        obtain ⟨rfl, s2, _, _⟩ := two_made HX2.out rfl
        obtain ⟨rfl, q2, _⟩ := one_made HX3.out rfl
        have hPr : right P.data.toList = true := by rw [HP.out]; exact p2
        have hSr : right S.data.toList = true := by rw [HS.out]; exact s2
        have hHr : right H.data.toList = true := by rw [HH.out]; exact q2
        have HPR := Lib.hid hPr
        have HSR := Lib.hid hSr
        have HHR := Lib.hid hHr
        have hPz := (right_sz hPr).2
        have hSz := (right_sz hSr).2
        have hHz := (right_sz hHr).2
        have DP : Hid (Der (bl ys) P.data.toList ↔ Der (bl ys) A.data.toList ∧ Der (bl ys) B.data.toList) := by
          show _ ↔ _
          rw [HP.out]; exact der_pair rfl (pts_bi (by simp) p2 p3)
        have DS : Hid (Der (bl ys) A.data.toList → Der (bl ys) B.data.toList → Der (bl ys) S.data.toList) := fun h1 h2 => by
          rw [HS.out]
          refine der_parts (by simp) fun q hq => ?_
          rw [pts_bi (by simp) s2 p3] at hq
          have : q = A.data.toList ∨ q = B.data.toList := by simpa using hq
          rcases this with rfl | rfl
          · exact h1
          · exact h2
        have DH : Hid (Der (bl ys) A.data.toList → Der (bl ys) H.data.toList) := fun h1 => by
          rw [HH.out]
          refine der_parts (by simp) fun q hq => ?_
          rw [(pts_one q2 (.inl rfl)).1] at hq
          rw [List.mem_singleton.1 hq]; exact h1
        have DA : Hid (Der (bl ys ++ [P.data.toList]) B.data.toList) := by
          refine ((der_pair (p := P.data.toList) (by rw [HP.out]; rfl) (by rw [HP.out]; exact pts_bi (by simp) p2 p3)).1 (der_held (by simp))).2
        clear p2 p3 p4 s2 q2 hPr hSr hHr HX1 HX2 HX3 HP HS HH
        go_wp2_with fail
        refine (der_reads CD (w0 := w2) D cd ys A HYR.out hyc BB7.out (by omega) HYZ.out (by omega)).mono ?_
        rintro e w8 ⟨⟨b1, f8, h8, rfl⟩, hb8⟩
        obtain ⟨rfl, hi8⟩ := dv_ok h8 HYB.out (by have := HYL.out; omega) HA.out.1
        have HIb1 := Lib.hid hi8
        have BB8 := Lib.hid hb8
        clear hb8 h8 hi8 BB7
        dsimp only
        go_wp2_with fail
        refine (der_reads CD (w0 := w2) D cd ys B HYR.out hyc BB8.out (by omega) HYZ.out (by omega)).mono ?_
        rintro e w9 ⟨⟨b2, f9, h9, rfl⟩, hb9⟩
        obtain ⟨rfl, hi9⟩ := dv_ok h9 HYB.out (by have := HYL.out; omega) HB.out.1
        have HIb2 := Lib.hid hi9
        have BB9 := Lib.hid hb9
        clear hb9 h9 hi9 BB8
        dsimp only
        go_wp2_with fail
        refine (der_reads CD (w0 := w2) D cd ys P HYR.out hyc BB9.out (by omega) HYZ.out (by omega)).mono ?_
        rintro e w10 ⟨⟨b3, f10, h10, rfl⟩, hb10⟩
        obtain ⟨rfl, hi10⟩ := dv_ok h10 HYB.out (by have := HYL.out; omega) HPR.out
        have HIb3 := Lib.hid hi10
        have BB10 := Lib.hid hb10
        clear hb10 h10 hi10 BB9
        dsimp only
        go_wp2_with fail
        refine (der_reads CD (w0 := w2) D cd ys S HYR.out hyc BB10.out (by omega) HYZ.out (by omega)).mono ?_
        rintro e w11 ⟨⟨b4, f11, h11, rfl⟩, hb11⟩
        obtain ⟨rfl, hi11⟩ := dv_ok h11 HYB.out (by have := HYL.out; omega) HSR.out
        have HIb4 := Lib.hid hi11
        have BB11 := Lib.hid hb11
        clear hb11 h11 hi11 BB10
        dsimp only
        go_wp2_with fail
        refine (der_reads CD (w0 := w2) D cd ys H HYR.out hyc BB11.out (by omega) HYZ.out (by omega)).mono ?_
        rintro e w12 ⟨⟨b5, f12, h12, rfl⟩, hb12⟩
        obtain ⟨rfl, hi12⟩ := dv_ok h12 HYB.out (by have := HYL.out; omega) HHR.out
        have HIb5 := Lib.hid hi12
        have BB12 := Lib.hid hb12
        clear hb12 h12 hi12 BB11
        dsimp only
        obtain rfl : b3 = (b1 && b2) := by
          have h : (b1 && b2) = true ↔ Der (bl ys) A.data.toList ∧ Der (bl ys) B.data.toList := by rw [← HIb1.out, ← HIb2.out]; simp
          exact bool_iff HIb3.out (h.trans DP.out.symm)
        have h4 : b1 = true → b2 = true → b4 = true := fun h1 h2 => HIb4.out.2 (DS.out (HIb1.out.1 h1) (HIb2.out.1 h2))
        have h5 : b1 = true → b5 = true := fun h1 => HIb5.out.2 (DH.out (HIb1.out.1 h1))
        clear HIb1 HIb2 HIb3 HIb4 HIb5 DP DS DH
        cases b1 with
        | false =>
          clear h4 h5
          cases b2 with
          | false =>
            have HE13 := Lib.hid (own_empty w12 w2.heap.size BB12.out.size)
            have BA13 := Lib.hid (BB12.out.alloc BB12.out.size (.cells #[] 9))
            have HS13 := Lib.hid (HYR.out.below BA13.out (Nat.le_refl _))
            go_wp2_with (at_builtin; refine append_strs rfl _ _ rfl w2.heap.size _ 0 [] ys rfl rfl HE13.out _ _ _ rfl rfl HYN.out HS13.out (by omega) BA13.out.size ?_)
            intro u13 x13 hown13 hbb13
            have HX13 := Lib.hid (BA13.out.trans hbb13)
            have HOX13 := Lib.hid hown13
            have HLX13 := Lib.hid (lit_reads x13 [P] #[.string P] rfl x13.heap.size rfl)
            have BX13 := Lib.hid (HX13.out.alloc HX13.out.size (.cells #[.string P] 9))
            clear hown13 hbb13 HE13 HS13 BA13 BB12
            go_wp2_with (at_builtin; refine append_strs rfl _ _ rfl w2.heap.size _ ys.length ys [P] rfl rfl (HOX13.out.alloc _) _ 1 1 rfl rfl (by simp) HLX13.out (by omega) BX13.out.size ?_)
            intro v13 w13 hown13 hbb13
            have BB13 := Lib.hid (BX13.out.trans hbb13)
            have HO13 := Lib.hid hown13
            obtain ⟨P13, p13, rfl⟩ := own_value HO13.out
            clear hown13 hbb13 HLX13 BX13 HX13 HOX13
            go_wp2_with fail
            refine (der_own CD (w0 := w2) P13 _ p13 (ys ++ [P]) B (by simp) HO13.out BB13.out (by simp; omega) (fun y hy => ?_) (by omega)).mono ?_
            · rcases List.mem_append.1 hy with h | h
              · exact HYZ.out y h
              · rw [List.mem_singleton.1 h]; omega
            rintro e w14 ⟨⟨b6, f6, h6, rfl⟩, hb14⟩
            have hbl6 : bl (ys ++ [P]) = bl ys ++ [P.data.toList] := by simp [bl]
            rw [hbl6] at h6
            obtain ⟨rfl, hi6⟩ := dv_ok h6 (fun z hz => by
              rcases List.mem_append.1 hz with h | h
              · exact HYB.out z h
              · rw [List.mem_singleton.1 h]; exact HPR.out) (by have := HYL.out; simp; omega) HB.out.1
            obtain rfl : b6 = true := hi6.2 DA.out
            have BB14 := Lib.hid hb14
            clear hb14 h6 hi6 hbl6 BB13 HO13
            dsimp only
            go_wp2
            go_ret
            exact ⟨rfl, Bel.call HB2.out BB14.out⟩
          | true =>
            have HE13 := Lib.hid (own_empty w12 w2.heap.size BB12.out.size)
            have BA13 := Lib.hid (BB12.out.alloc BB12.out.size (.cells #[] 9))
            have HS13 := Lib.hid (HYR.out.below BA13.out (Nat.le_refl _))
            go_wp2_with (at_builtin; refine append_strs rfl _ _ rfl w2.heap.size _ 0 [] ys rfl rfl HE13.out _ _ _ rfl rfl HYN.out HS13.out (by omega) BA13.out.size ?_)
            intro u13 x13 hown13 hbb13
            have HX13 := Lib.hid (BA13.out.trans hbb13)
            have HOX13 := Lib.hid hown13
            have HLX13 := Lib.hid (lit_reads x13 [P] #[.string P] rfl x13.heap.size rfl)
            have BX13 := Lib.hid (HX13.out.alloc HX13.out.size (.cells #[.string P] 9))
            clear hown13 hbb13 HE13 HS13 BA13 BB12
            go_wp2_with (at_builtin; refine append_strs rfl _ _ rfl w2.heap.size _ ys.length ys [P] rfl rfl (HOX13.out.alloc _) _ 1 1 rfl rfl (by simp) HLX13.out (by omega) BX13.out.size ?_)
            intro v13 w13 hown13 hbb13
            have BB13 := Lib.hid (BX13.out.trans hbb13)
            have HO13 := Lib.hid hown13
            obtain ⟨P13, p13, rfl⟩ := own_value HO13.out
            clear hown13 hbb13 HLX13 BX13 HX13 HOX13
            go_wp2_with fail
            refine (der_own CD (w0 := w2) P13 _ p13 (ys ++ [P]) B (by simp) HO13.out BB13.out (by simp; omega) (fun y hy => ?_) (by omega)).mono ?_
            · rcases List.mem_append.1 hy with h | h
              · exact HYZ.out y h
              · rw [List.mem_singleton.1 h]; omega
            rintro e w14 ⟨⟨b6, f6, h6, rfl⟩, hb14⟩
            have hbl6 : bl (ys ++ [P]) = bl ys ++ [P.data.toList] := by simp [bl]
            rw [hbl6] at h6
            obtain ⟨rfl, hi6⟩ := dv_ok h6 (fun z hz => by
              rcases List.mem_append.1 hz with h | h
              · exact HYB.out z h
              · rw [List.mem_singleton.1 h]; exact HPR.out) (by have := HYL.out; simp; omega) HB.out.1
            obtain rfl : b6 = true := hi6.2 DA.out
            have BB14 := Lib.hid hb14
            clear hb14 h6 hi6 hbl6 BB13 HO13
            dsimp only
            go_wp2
            go_ret
            exact ⟨rfl, Bel.call HB2.out BB14.out⟩
        | true =>
          obtain rfl := h5 rfl
          cases b2 with
          | false =>
            clear h4 h5
            have HE13 := Lib.hid (own_empty w12 w2.heap.size BB12.out.size)
            have BA13 := Lib.hid (BB12.out.alloc BB12.out.size (.cells #[] 9))
            have HS13 := Lib.hid (HYR.out.below BA13.out (Nat.le_refl _))
            go_wp2_with (at_builtin; refine append_strs rfl _ _ rfl w2.heap.size _ 0 [] ys rfl rfl HE13.out _ _ _ rfl rfl HYN.out HS13.out (by omega) BA13.out.size ?_)
            intro u13 x13 hown13 hbb13
            have HX13 := Lib.hid (BA13.out.trans hbb13)
            have HOX13 := Lib.hid hown13
            have HLX13 := Lib.hid (lit_reads x13 [P] #[.string P] rfl x13.heap.size rfl)
            have BX13 := Lib.hid (HX13.out.alloc HX13.out.size (.cells #[.string P] 9))
            clear hown13 hbb13 HE13 HS13 BA13 BB12
            go_wp2_with (at_builtin; refine append_strs rfl _ _ rfl w2.heap.size _ ys.length ys [P] rfl rfl (HOX13.out.alloc _) _ 1 1 rfl rfl (by simp) HLX13.out (by omega) BX13.out.size ?_)
            intro v13 w13 hown13 hbb13
            have BB13 := Lib.hid (BX13.out.trans hbb13)
            have HO13 := Lib.hid hown13
            obtain ⟨P13, p13, rfl⟩ := own_value HO13.out
            clear hown13 hbb13 HLX13 BX13 HX13 HOX13
            go_wp2_with fail
            refine (der_own CD (w0 := w2) P13 _ p13 (ys ++ [P]) B (by simp) HO13.out BB13.out (by simp; omega) (fun y hy => ?_) (by omega)).mono ?_
            · rcases List.mem_append.1 hy with h | h
              · exact HYZ.out y h
              · rw [List.mem_singleton.1 h]; omega
            rintro e w14 ⟨⟨b6, f6, h6, rfl⟩, hb14⟩
            have hbl6 : bl (ys ++ [P]) = bl ys ++ [P.data.toList] := by simp [bl]
            rw [hbl6] at h6
            obtain ⟨rfl, hi6⟩ := dv_ok h6 (fun z hz => by
              rcases List.mem_append.1 hz with h | h
              · exact HYB.out z h
              · rw [List.mem_singleton.1 h]; exact HPR.out) (by have := HYL.out; simp; omega) HB.out.1
            obtain rfl : b6 = true := hi6.2 DA.out
            have BB14 := Lib.hid hb14
            clear hb14 h6 hi6 hbl6 BB13 HO13
            dsimp only
            go_wp2
            go_ret
            exact ⟨rfl, Bel.call HB2.out BB14.out⟩
          | true =>
            obtain rfl := h4 rfl rfl
            clear h4 h5
            have HE13 := Lib.hid (own_empty w12 w2.heap.size BB12.out.size)
            have BA13 := Lib.hid (BB12.out.alloc BB12.out.size (.cells #[] 9))
            have HS13 := Lib.hid (HYR.out.below BA13.out (Nat.le_refl _))
            go_wp2_with (at_builtin; refine append_strs rfl _ _ rfl w2.heap.size _ 0 [] ys rfl rfl HE13.out _ _ _ rfl rfl HYN.out HS13.out (by omega) BA13.out.size ?_)
            intro u13 x13 hown13 hbb13
            have HX13 := Lib.hid (BA13.out.trans hbb13)
            have HOX13 := Lib.hid hown13
            have HLX13 := Lib.hid (lit_reads x13 [P] #[.string P] rfl x13.heap.size rfl)
            have BX13 := Lib.hid (HX13.out.alloc HX13.out.size (.cells #[.string P] 9))
            clear hown13 hbb13 HE13 HS13 BA13 BB12
            go_wp2_with (at_builtin; refine append_strs rfl _ _ rfl w2.heap.size _ ys.length ys [P] rfl rfl (HOX13.out.alloc _) _ 1 1 rfl rfl (by simp) HLX13.out (by omega) BX13.out.size ?_)
            intro v13 w13 hown13 hbb13
            have BB13 := Lib.hid (BX13.out.trans hbb13)
            have HO13 := Lib.hid hown13
            obtain ⟨P13, p13, rfl⟩ := own_value HO13.out
            clear hown13 hbb13 HLX13 BX13 HX13 HOX13
            go_wp2_with fail
            refine (der_own CD (w0 := w2) P13 _ p13 (ys ++ [P]) B (by simp) HO13.out BB13.out (by simp; omega) (fun y hy => ?_) (by omega)).mono ?_
            · rcases List.mem_append.1 hy with h | h
              · exact HYZ.out y h
              · rw [List.mem_singleton.1 h]; omega
            rintro e w14 ⟨⟨b6, f6, h6, rfl⟩, hb14⟩
            have hbl6 : bl (ys ++ [P]) = bl ys ++ [P.data.toList] := by simp [bl]
            rw [hbl6] at h6
            obtain ⟨rfl, hi6⟩ := dv_ok h6 (fun z hz => by
              rcases List.mem_append.1 hz with h | h
              · exact HYB.out z h
              · rw [List.mem_singleton.1 h]; exact HPR.out) (by have := HYL.out; simp; omega) HB.out.1
            obtain rfl : b6 = true := hi6.2 DA.out
            have BB14 := Lib.hid hb14
            clear hb14 h6 hi6 hbl6 BB13 HO13
            dsimp only
            go_wp2
            go_ret
            exact ⟨rfl, Bel.call HB2.out BB14.out⟩
      · have c3 : (f3 != 0) = true := by simpa using e3
        clear e3
        go_wp2
        go_ret
        exact ⟨rfl, Bel.call HB2.out BB7.out⟩
    · have c2 : (f2 != 0) = true := by simpa using e2
      clear e2
      go_wp2
      go_ret
      exact ⟨rfl, Bel.call HB2.out BB7.out⟩
  · have c1 : (f1 != 0) = true := by simpa using e1
    clear e1
    go_wp2
    go_ret
    exact ⟨rfl, Bel.call HB2.out BB7.out⟩
end Go.Proofs.Ytcplagomhfdoaaa.Clo
