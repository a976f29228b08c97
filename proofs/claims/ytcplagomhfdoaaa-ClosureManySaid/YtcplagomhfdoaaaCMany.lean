/-
  THE WALK of ClosureMany. By an AI agent; no person has read it.
-/
import Derived.Test.YtcplagomhfdoaaaCLaw
namespace Go.Proofs.Ytcplagomhfdoaaa.Clo
open Go.RowKit Wire Term

theorem sub_len : ∀ {a b : List (List UInt8)}, a.Nodup → (∀ x ∈ a, x ∈ b) → a.length ≤ b.length
  | [], b, _, _ => Nat.zero_le _
  | x :: a, b, hn, h => by
    obtain ⟨h1, h2⟩ := List.nodup_cons.1 hn
    have hx : x ∈ b := h x (by simp)
    have h3 := sub_len (b := b.erase x) h2 (fun y hy => (List.mem_erase_of_ne (fun e => h1 (by rw [← e]; exact hy))).2 (h y (List.mem_cons_of_mem _ hy)))
    rw [List.length_erase_of_mem hx] at h3
    have : 0 < b.length := List.length_pos_of_mem hx
    simp only [List.length_cons]; omega
/-- The first n atoms. -/
def atoms (n : Nat) : List (List UInt8) := (List.range n).map ofAtom
theorem atoms_len (n : Nat) : (atoms n).length = n := by simp [atoms]
theorem atoms_step (n : Nat) : atoms (n + 1) = atoms n ++ [ofAtom n] := by simp [atoms, List.range_succ]
theorem atoms_mem {n : Nat} {x : List UInt8} : x ∈ atoms n ↔ ∃ i, i < n ∧ ofAtom i = x := by simp [atoms]
theorem atoms_right {n : Nat} (hn : n ≤ 1000) : ∀ x ∈ atoms n, right x = true := fun x hx => by
  obtain ⟨i, hi, rfl⟩ := atoms_mem.1 hx
  exact ofAtom_right (by omega)
theorem atoms_head {n : Nat} : ∀ x ∈ atoms n, x.headD 0 = 97 := fun x hx => by
  obtain ⟨i, _, rfl⟩ := atoms_mem.1 hx
  rfl
theorem atoms_nodup {n : Nat} (hn : n ≤ 1000) : (atoms n).Nodup := by
  induction n with
  | zero => simp [atoms]
  | succ n ih =>
    rw [atoms_step]
    refine List.nodup_append.2 ⟨ih (by omega), by simp, fun a ha b hb e => ?_⟩
    have hb := List.mem_singleton.1 hb
    subst hb e
    obtain ⟨i, hi, h⟩ := atoms_mem.1 ha
    have := atom_inj (by omega) (by omega) h
    omega
theorem atoms_ap {n : Nat} (hn : n ≤ 200) {x : List (List UInt8) × Int} (h : Ap (atoms n) x) : x.2 = 0 ∧ x.1.length = n := by
  obtain ⟨h1, h2, h3⟩ := ap_ok h (atoms_right (by omega)) (by rw [atoms_len]; exact hn)
  have hm : ∀ y, y ∈ x.1 ↔ y ∈ atoms n := fun y => (h3 y).trans (had_atoms atoms_head y)
  have l1 := sub_len (rising_nodup h2) (fun y hy => (hm y).1 hy)
  have l2 := sub_len (atoms_nodup (by omega)) (fun y hy => (hm y).2 hy)
  rw [atoms_len] at l1 l2
  exact ⟨h1, by omega⟩
theorem atoms_der {n : Nat} (hn : n ≤ 1000) : Der (atoms n) (ofAtom 7) ↔ 7 < n := by
  rw [der_atoms atoms_head rfl, atoms_mem]
  constructor
  · rintro ⟨i, hi, h⟩
    have := atom_inj (by omega) (by omega) h
    omega
  · intro h; exact ⟨7, h, rfl⟩
theorem ap_wrong {held : List (List UInt8)} {x : List (List UInt8) × Int} (h : Ap held x) (hw : ∃ y ∈ held, right y = false) : x = ([], 1) := by
  rcases h with ⟨_, h⟩ | ⟨h, _⟩ | ⟨h, _⟩
  · exact h
  · exact (wrong_not hw h).elim
  · exact (wrong_not hw h).elim
theorem ap_big {held : List (List UInt8)} {x : List (List UInt8) × Int} (h : Ap held x) (hr : ∀ y ∈ held, right y = true) (hn : 200 < held.length) : x = ([], 10) := by
  rcases h with ⟨h, _⟩ | ⟨_, _, h⟩ | ⟨_, h, _⟩
  · exact (wrong_not h hr).elim
  · exact h
  · omega
theorem dv_wrong {held : List (List UInt8)} {t : List UInt8} {b : Bool} {f : Int} (h : Dv held t b f) (hw : ∃ y ∈ held, right y = false) : b = false ∧ f = 1 := by
  rcases h with ⟨_, h⟩ | ⟨h, _⟩ | ⟨h, _⟩ | ⟨h, _⟩
  · exact h
  all_goals exact (wrong_not hw h).elim
theorem dv_big {held : List (List UInt8)} {t : List UInt8} {b : Bool} {f : Int} (h : Dv held t b f) (hr : ∀ y ∈ held, right y = true) (hn : 200 < held.length) : b = false ∧ f = 10 := by
  rcases h with ⟨h, _⟩ | ⟨_, _, h⟩ | ⟨_, h, _⟩ | ⟨_, h, _⟩
  · exact (wrong_not h hr).elim
  · exact h
  · omega
  · omega
/-- The row of atoms that the law lays. -/
def Row (w : World) (n : Nat) (v : Value) (wr : World) : Prop := ∃ ys : List ByteArray, ys.length = n ∧ wr.ownsRow w.heap.size 9 1 v n (sv ys) ∧ bl ys = atoms n ∧ Below w.heap.size w wr
set_option maxHeartbeats 16000000 in
set_option maxRecDepth 1000000 in
theorem many_walk (CA : ApartOK) (CD : DerivesOK) (many : Int) (s : ByteArray) (w : World) (hmany : -9223372036854775808 ≤ many ∧ many ≤ 9223372036854775807) (hs : s.size ≤ 140737488355328) :
    Calls Try.prog 8 #[.int .i64 many, .string s] w fun e w' => e = .returned (.bool true) ∧ Below w.heap.size w w' := by
  have HSH : Hid (∀ w : World, Calls Try.prog 10 #[] w fun e w' => e = .returned (.bool true) ∧ Below w.heap.size w w') := fun w => shown_any CD w
  have HMANY := Lib.hid hmany
  clear hmany
  by_cases h5 : (500 : Int) < (s.size : Int)
  · go_enter Try.func8, Try.ntmps8
    go_wp2_with (go_at_call 10; refine (HSH.out _).mono ?_; rintro e w1 ⟨rfl, hb1⟩; have HB1 := Lib.hid hb1; clear hb1)
    go_ret
    exact ⟨rfl, HB1.out⟩
  obtain ⟨i0, hi0, hz0, hz1, hz2⟩ := info_parts str_info
  go_enter Try.func8, Try.ntmps8
  go_wp2_with (go_at_call 10; refine (HSH.out _).mono ?_; rintro e w1 ⟨rfl, hb1⟩; have HB1 := Lib.hid hb1; clear hb1)
  refine (pick_any many 230 _ HMANY.out (by omega) (by omega)).mono ?_
  rintro e w1' ⟨⟨n, hn, rfl⟩, rfl⟩
  dsimp only
  go_wp2_with fail
  have hst : Row w 0 (.slice none 0 0) w1 := ⟨[], rfl, ⟨by simp [sv], .inl ⟨rfl, rfl⟩⟩, rfl, HB1.out⟩
  have HST := Lib.hid hst
  clear hst
  go_loopw [7, 8] (fun v i wr => ∃ k : Nat, k ≤ n ∧ i = .int .i64 k ∧ Hid (Row w k v wr)) (fun _ i _ => n - (intOf i).toNat)
  case atStart => exact ⟨0, Nat.zero_le _, rfl, HST⟩
  case round =>
    obtain ⟨k, hk, rfl, HS⟩ := hrel
    clear HST HB1
    obtain ⟨ys, hyl, ho, hat, hbel⟩ := HS.out
    have HO := Lib.hid ho
    have HYL := Lib.hid hyl
    have HAT := Lib.hid hat
    have HBL := Lib.hid hbel
    clear ho hyl hat hbel HS
    by_cases hlt : k < n
    · have hwk : IntKind.u64.wrap (k : Int) = (k : Int) := by rw [IntKind.wrap_u64]; omega
      go_wp2_with (first
        | (go_at_call 26; refine (ofAtom_any k _ (by omega)).mono ?_; rintro e w5 ⟨⟨T, hT, rfl⟩, hb5⟩; have HT := Lib.hid hT; have HB5 := Lib.hid (HBL.out.trans (hb5.mono HBL.out.size)); have HB5' := Lib.hid hb5; clear hT hb5)
        | (at_builtin
           refine wpList_append_own _ rfl _ _ _ rfl w.heap.size 9 i0 _ 1 16 Try.underlying22 hi0 hz0 hz1 hz2 rfl (by decide) _ k (sv ys) rfl ?c1 _ 1 1 [.string T] rfl rfl ?c2 ?c3 ?c4 ?c5 ?c6 ?_
           case c1 => exact (own_below HO.out HB5'.out (Nat.le_refl _)).alloc _
           case c2 => exact lit_cells _ _ _
           case c3 => exact sv_one [T]
           case c4 => simp only [maxLen]; omega
           case c5 => omega
           case c6 =>
             have h := HB5.out.size
             simp only [World.alloc, Array.size_push]
             exact Nat.le_succ_of_le h
           intro v6 w6 hown hgrow _
           have HO6 := Lib.hid hown
           have HG6 := Lib.hid hgrow
           clear hown hgrow))
      go_roundw
      case rel =>
        refine ⟨k + 1, by omega, by go_num, ys ++ [T], by simp [HYL.out], by simpa [sv] using HO6.out, ?_, ?_⟩
        · rw [atoms_step, ← HAT.out, ← HT.out]; simp [bl]
        · refine (HB5.out.alloc HB5.out.size (.cells #[.string T] 9)).grown HG6.out (by
            have := HB5.out.size
            simp only [World.alloc, Array.size_push]
            omega) fun g' hg' => ?_
          exact (HO.out.lt g' hg').1
      case measure => simp [intOf]; omega
    · obtain rfl : k = n := by omega
      obtain ⟨D, cd, rfl⟩ := own_value HO.out
      obtain ⟨hyr, _, hyc⟩ := sreads_own HO.out
      have HYN := Lib.hid (own_nil HO.out)
      have HYR := Lib.hid hyr
      have HYZ : Hid (∀ y ∈ ys, y.size ≤ 140737488355328) := fun y hy => by
        have h1 : y.data.toList ∈ atoms k := by rw [← HAT.out]; exact List.mem_map.2 ⟨y, hy, rfl⟩
        have := (right_sz (atoms_right (by omega) _ h1)).2
        omega
      obtain rfl := HYL.out
      clear hyr HO HYL
      by_cases h2 : (200 : Int) < (ys.length : Int)
      · have hr := atoms_right (n := ys.length) (by omega)
        have hln : 200 < (atoms ys.length).length := by rw [atoms_len]; omega
        have HRR := Lib.hid hr
        have HLN := Lib.hid hln
        clear hr hln
        go_wp2_with fail
        refine (CA D cd ys _ HYR.out hyc (by omega) HYZ.out).mono ?_
        rintro e w8 ⟨⟨E, ce, hs', f8, hap, hec, hel, her, rfl⟩, hb8⟩
        rw [HAT.out] at hap
        have BB8 := Lib.hid hb8
        dsimp only
        have hap2 := ap_big hap HRR.out HLN.out
        obtain rfl : f8 = 10 := by injection hap2
        have hl0 : hs'.length = 0 := by injection hap2 with h1 _; rw [← bl_len, h1]; rfl
        rw [hl0]
        clear hap hap2 her
        go_wp2_with fail
        refine (ofAtom_any 7 _ (by omega)).mono ?_
        rintro e w9 ⟨⟨A, hA, rfl⟩, hb9⟩
        have hAz : A.size ≤ 10 := by rw [Lib.size_eq, hA]; exact atom_len (by omega)
        have BB9 := Lib.hid (Bel.call BB8.out hb9)
        have HA := Lib.hid hA
        clear hb8 hb9 hA BB8
        go_wp2_with fail
        refine (der_reads CD (w0 := wr) D cd ys A HYR.out hyc BB9.out (by omega) HYZ.out (by omega)).mono ?_
        rintro e w10 ⟨⟨b10, f10, h10, rfl⟩, hb10⟩
        rw [HAT.out, HA.out] at h10
        have BB10 := Lib.hid hb10
        clear hb10 BB9
        dsimp only
        obtain ⟨rfl, rfl⟩ := dv_big h10 HRR.out HLN.out
        clear h10
        cases hrs : right s.data.toList with
        | true =>
          have hk0 := kind_pos hrs
          obtain ⟨K, hK⟩ : ∃ K, kind s.data.toList = K := ⟨_, rfl⟩
          rw [hK] at hk0
          have HK := Lib.hid hK
          have hk1 : ((K : Int) != 0) = true := by simp; omega
          clear hrs hK hk0
          go_wp2_with (go_at_call 27; refine (t_Kind s _ (by omega)).mono ?_; rw [HK.out]; rintro e w11 ⟨rfl, hb11⟩; have BB11 := Lib.hid (Bel.call BB10.out hb11); clear hb11)
          go_ret
          exact ⟨rfl, Bel.call HBL.out BB11.out⟩
        | false =>
          have HRS := Lib.hid hrs
          have HK := Lib.hid (kind_wrong hrs)
          clear hrs
          go_wp2_with fail
          refine (t_Kind s _ (by omega)).mono ?_
          rw [HK.out]
          rintro e w11 ⟨rfl, hb11⟩
          have BB11 := Lib.hid (Bel.call BB10.out hb11)
          clear hb11 BB10
          dsimp only
          have HE12 := Lib.hid (own_empty w11 wr.heap.size BB11.out.size)
          have BA12 := Lib.hid (BB11.out.alloc BB11.out.size (.cells #[] 9))
          have HS12 := Lib.hid (HYR.out.below BA12.out (Nat.le_refl _))
          go_wp2_with (at_builtin; refine append_strs rfl _ _ rfl wr.heap.size _ 0 [] ys rfl rfl HE12.out _ _ _ rfl rfl HYN.out HS12.out (by omega) BA12.out.size ?_)
          intro u12 x12 hown12 hbb12
          have HX12 := Lib.hid (BA12.out.trans hbb12)
          have HOX12 := Lib.hid hown12
          have HLX12 := Lib.hid (lit_reads x12 [s] #[.string s] rfl x12.heap.size rfl)
          have BX12 := Lib.hid (HX12.out.alloc HX12.out.size (.cells #[.string s] 9))
          clear hown12 hbb12 HE12 HS12 BA12 BB11
          go_wp2_with (at_builtin; refine append_strs rfl _ _ rfl wr.heap.size _ ys.length ys [s] rfl rfl (HOX12.out.alloc _) _ 1 1 rfl rfl (by simp) HLX12.out (by omega) BX12.out.size ?_)
          intro v12 w12 hown12 hbb12
          have BB12 := Lib.hid (BX12.out.trans hbb12)
          have HO12 := Lib.hid hown12
          obtain ⟨P12, p12, rfl⟩ := own_value HO12.out
          clear hown12 hbb12 HLX12 BX12 HX12 HOX12
          have HAO := Lib.hid (ap_own CA (w0 := wr) P12 (ys.length + 1) p12 (ys ++ [s]) (by simp) HO12.out BB12.out (by simp; omega) (fun y hy => by
            rcases List.mem_append.1 hy with h | h
            · exact HYZ.out y h
            · rw [List.mem_singleton.1 h]; omega))
          go_wp2_with fail
          refine HAO.out.mono ?_
          rintro e w13 ⟨⟨E3, c3, hs3, f13, hap3, _, _, _, rfl⟩, hb13⟩
          have hbl3 : bl (ys ++ [s]) = bl ys ++ [s.data.toList] := by simp [bl]
          have hw3 := ap_wrong hap3 ⟨s.data.toList, by rw [hbl3]; simp, HRS.out⟩
          obtain rfl : f13 = 1 := by injection hw3
          have BB13 := Lib.hid hb13
          clear hb13 hap3 hw3 hbl3 HAO HO12 BB12
          dsimp only
          have HL14 := Lib.hid (World.ownsRow_lit (e := 9) (size := 1) (base := wr.heap.size) w13 #[.string s] 1 BB13.out.size (by decide) rfl)
          have BA14 := Lib.hid (BB13.out.alloc BB13.out.size (.cells #[.string s] 9))
          have HS14 := Lib.hid (HYR.out.below BA14.out (Nat.le_refl _))
          go_wp2_with (at_builtin; refine append_strs rfl _ _ rfl wr.heap.size _ 1 [s] ys rfl rfl HL14.out _ _ _ rfl rfl HYN.out HS14.out (by omega) BA14.out.size ?_)
          intro v14 w14 hown14 hbb14
          have BB14 := Lib.hid (BA14.out.trans hbb14)
          have HO14 := Lib.hid hown14
          obtain ⟨P14, p14, rfl⟩ := own_value HO14.out
          clear hown14 hbb14 HL14 BA14 HS14 BB13
          go_wp2_with fail
          refine (der_own CD (w0 := wr) P14 _ p14 ([s] ++ ys) s (by simp; omega) HO14.out BB14.out (by simp; omega) (fun y hy => ?_) (by omega)).mono ?_
          · rcases List.mem_append.1 hy with h | h
            · rw [List.mem_singleton.1 h]; omega
            · exact HYZ.out y h
          rintro e w15 ⟨⟨b15, f15, h15, rfl⟩, hb15⟩
          obtain ⟨rfl, rfl⟩ := dv_wrong h15 ⟨s.data.toList, by simp [bl], HRS.out⟩
          have BB15 := Lib.hid hb15
          clear hb15 h15 BB14 HO14
          dsimp only
          go_wp2
          go_ret
          exact ⟨rfl, Bel.call HBL.out BB15.out⟩
      · have hr := atoms_right (n := ys.length) (by omega)
        have hln : (atoms ys.length).length ≤ 200 := by rw [atoms_len]; omega
        have HRR := Lib.hid hr
        have HLN := Lib.hid hln
        clear hr hln
        go_wp2_with fail
        refine (CA D cd ys _ HYR.out hyc (by omega) HYZ.out).mono ?_
        rintro e w8 ⟨⟨E, ce, hs', f8, hap, hec, hel, her, rfl⟩, hb8⟩
        rw [HAT.out] at hap
        have BB8 := Lib.hid hb8
        dsimp only
        obtain ⟨h80, hl0⟩ := atoms_ap (by omega) hap
        obtain rfl : f8 = 0 := h80
        rw [show (bl hs', (0 : Int)).1 = bl hs' from rfl, bl_len] at hl0
        rw [hl0]
        clear hap her
        go_wp2_with fail
        refine (ofAtom_any 7 _ (by omega)).mono ?_
        rintro e w9 ⟨⟨A, hA, rfl⟩, hb9⟩
        have hAz : A.size ≤ 10 := by rw [Lib.size_eq, hA]; exact atom_len (by omega)
        have BB9 := Lib.hid (Bel.call BB8.out hb9)
        have HA := Lib.hid hA
        clear hb8 hb9 hA BB8
        go_wp2_with fail
        refine (der_reads CD (w0 := wr) D cd ys A HYR.out hyc BB9.out (by omega) HYZ.out (by omega)).mono ?_
        rintro e w10 ⟨⟨b10, f10, h10, rfl⟩, hb10⟩
        rw [HAT.out, HA.out] at h10
        have BB10 := Lib.hid hb10
        clear hb10 BB9
        dsimp only
        obtain ⟨rfl, hi10⟩ := dv_ok h10 HRR.out HLN.out (ofAtom_right (by omega))
        have hi11 := hi10.trans (atoms_der (by omega))
        obtain rfl : b10 = decide ((7 : Int) < (ys.length : Int)) := bool_iff hi11 (by simp; omega)
        clear h10 hi10 hi11
        by_cases h7 : (7 : Int) < (ys.length : Int)
        · rw [show decide ((7 : Int) < (ys.length : Int)) = true from decide_eq_true h7]
          cases hrs : right s.data.toList with
          | true =>
            have hk0 := kind_pos hrs
            obtain ⟨K, hK⟩ : ∃ K, kind s.data.toList = K := ⟨_, rfl⟩
            rw [hK] at hk0
            have HK := Lib.hid hK
            have hk1 : ((K : Int) != 0) = true := by simp; omega
            clear hrs hK hk0
            go_wp2_with (go_at_call 27; refine (t_Kind s _ (by omega)).mono ?_; rw [HK.out]; rintro e w11 ⟨rfl, hb11⟩; have BB11 := Lib.hid (Bel.call BB10.out hb11); clear hb11)
            go_ret
            exact ⟨rfl, Bel.call HBL.out BB11.out⟩
          | false =>
            have HRS := Lib.hid hrs
            have HK := Lib.hid (kind_wrong hrs)
            clear hrs
            go_wp2_with fail
            refine (t_Kind s _ (by omega)).mono ?_
            rw [HK.out]
            rintro e w11 ⟨rfl, hb11⟩
            have BB11 := Lib.hid (Bel.call BB10.out hb11)
            clear hb11 BB10
            dsimp only
            have HE12 := Lib.hid (own_empty w11 wr.heap.size BB11.out.size)
            have BA12 := Lib.hid (BB11.out.alloc BB11.out.size (.cells #[] 9))
            have HS12 := Lib.hid (HYR.out.below BA12.out (Nat.le_refl _))
            go_wp2_with (at_builtin; refine append_strs rfl _ _ rfl wr.heap.size _ 0 [] ys rfl rfl HE12.out _ _ _ rfl rfl HYN.out HS12.out (by omega) BA12.out.size ?_)
            intro u12 x12 hown12 hbb12
            have HX12 := Lib.hid (BA12.out.trans hbb12)
            have HOX12 := Lib.hid hown12
            have HLX12 := Lib.hid (lit_reads x12 [s] #[.string s] rfl x12.heap.size rfl)
            have BX12 := Lib.hid (HX12.out.alloc HX12.out.size (.cells #[.string s] 9))
            clear hown12 hbb12 HE12 HS12 BA12 BB11
            go_wp2_with (at_builtin; refine append_strs rfl _ _ rfl wr.heap.size _ ys.length ys [s] rfl rfl (HOX12.out.alloc _) _ 1 1 rfl rfl (by simp) HLX12.out (by omega) BX12.out.size ?_)
            intro v12 w12 hown12 hbb12
            have BB12 := Lib.hid (BX12.out.trans hbb12)
            have HO12 := Lib.hid hown12
            obtain ⟨P12, p12, rfl⟩ := own_value HO12.out
            clear hown12 hbb12 HLX12 BX12 HX12 HOX12
            have HAO := Lib.hid (ap_own CA (w0 := wr) P12 (ys.length + 1) p12 (ys ++ [s]) (by simp) HO12.out BB12.out (by simp; omega) (fun y hy => by
              rcases List.mem_append.1 hy with h | h
              · exact HYZ.out y h
              · rw [List.mem_singleton.1 h]; omega))
            go_wp2_with fail
            refine HAO.out.mono ?_
            rintro e w13 ⟨⟨E3, c3, hs3, f13, hap3, _, _, _, rfl⟩, hb13⟩
            have hbl3 : bl (ys ++ [s]) = bl ys ++ [s.data.toList] := by simp [bl]
            have hw3 := ap_wrong hap3 ⟨s.data.toList, by rw [hbl3]; simp, HRS.out⟩
            obtain rfl : f13 = 1 := by injection hw3
            have BB13 := Lib.hid hb13
            clear hb13 hap3 hw3 hbl3 HAO HO12 BB12
            dsimp only
            have HL14 := Lib.hid (World.ownsRow_lit (e := 9) (size := 1) (base := wr.heap.size) w13 #[.string s] 1 BB13.out.size (by decide) rfl)
            have BA14 := Lib.hid (BB13.out.alloc BB13.out.size (.cells #[.string s] 9))
            have HS14 := Lib.hid (HYR.out.below BA14.out (Nat.le_refl _))
            go_wp2_with (at_builtin; refine append_strs rfl _ _ rfl wr.heap.size _ 1 [s] ys rfl rfl HL14.out _ _ _ rfl rfl HYN.out HS14.out (by omega) BA14.out.size ?_)
            intro v14 w14 hown14 hbb14
            have BB14 := Lib.hid (BA14.out.trans hbb14)
            have HO14 := Lib.hid hown14
            obtain ⟨P14, p14, rfl⟩ := own_value HO14.out
            clear hown14 hbb14 HL14 BA14 HS14 BB13
            go_wp2_with fail
            refine (der_own CD (w0 := wr) P14 _ p14 ([s] ++ ys) s (by simp; omega) HO14.out BB14.out (by simp; omega) (fun y hy => ?_) (by omega)).mono ?_
            · rcases List.mem_append.1 hy with h | h
              · rw [List.mem_singleton.1 h]; omega
              · exact HYZ.out y h
            rintro e w15 ⟨⟨b15, f15, h15, rfl⟩, hb15⟩
            obtain ⟨rfl, rfl⟩ := dv_wrong h15 ⟨s.data.toList, by simp [bl], HRS.out⟩
            have BB15 := Lib.hid hb15
            clear hb15 h15 BB14 HO14
            dsimp only
            go_wp2
            go_ret
            exact ⟨rfl, Bel.call HBL.out BB15.out⟩
        · rw [show decide ((7 : Int) < (ys.length : Int)) = false from decide_eq_false h7]
          cases hrs : right s.data.toList with
          | true =>
            have hk0 := kind_pos hrs
            obtain ⟨K, hK⟩ : ∃ K, kind s.data.toList = K := ⟨_, rfl⟩
            rw [hK] at hk0
            have HK := Lib.hid hK
            have hk1 : ((K : Int) != 0) = true := by simp; omega
            clear hrs hK hk0
            go_wp2_with (go_at_call 27; refine (t_Kind s _ (by omega)).mono ?_; rw [HK.out]; rintro e w11 ⟨rfl, hb11⟩; have BB11 := Lib.hid (Bel.call BB10.out hb11); clear hb11)
            go_ret
            exact ⟨rfl, Bel.call HBL.out BB11.out⟩
          | false =>
            have HRS := Lib.hid hrs
            have HK := Lib.hid (kind_wrong hrs)
            clear hrs
            go_wp2_with fail
            refine (t_Kind s _ (by omega)).mono ?_
            rw [HK.out]
            rintro e w11 ⟨rfl, hb11⟩
            have BB11 := Lib.hid (Bel.call BB10.out hb11)
            clear hb11 BB10
            dsimp only
            have HE12 := Lib.hid (own_empty w11 wr.heap.size BB11.out.size)
            have BA12 := Lib.hid (BB11.out.alloc BB11.out.size (.cells #[] 9))
            have HS12 := Lib.hid (HYR.out.below BA12.out (Nat.le_refl _))
            go_wp2_with (at_builtin; refine append_strs rfl _ _ rfl wr.heap.size _ 0 [] ys rfl rfl HE12.out _ _ _ rfl rfl HYN.out HS12.out (by omega) BA12.out.size ?_)
            intro u12 x12 hown12 hbb12
            have HX12 := Lib.hid (BA12.out.trans hbb12)
            have HOX12 := Lib.hid hown12
            have HLX12 := Lib.hid (lit_reads x12 [s] #[.string s] rfl x12.heap.size rfl)
            have BX12 := Lib.hid (HX12.out.alloc HX12.out.size (.cells #[.string s] 9))
            clear hown12 hbb12 HE12 HS12 BA12 BB11
            go_wp2_with (at_builtin; refine append_strs rfl _ _ rfl wr.heap.size _ ys.length ys [s] rfl rfl (HOX12.out.alloc _) _ 1 1 rfl rfl (by simp) HLX12.out (by omega) BX12.out.size ?_)
            intro v12 w12 hown12 hbb12
            have BB12 := Lib.hid (BX12.out.trans hbb12)
            have HO12 := Lib.hid hown12
            obtain ⟨P12, p12, rfl⟩ := own_value HO12.out
            clear hown12 hbb12 HLX12 BX12 HX12 HOX12
            have HAO := Lib.hid (ap_own CA (w0 := wr) P12 (ys.length + 1) p12 (ys ++ [s]) (by simp) HO12.out BB12.out (by simp; omega) (fun y hy => by
              rcases List.mem_append.1 hy with h | h
              · exact HYZ.out y h
              · rw [List.mem_singleton.1 h]; omega))
            go_wp2_with fail
            refine HAO.out.mono ?_
            rintro e w13 ⟨⟨E3, c3, hs3, f13, hap3, _, _, _, rfl⟩, hb13⟩
            have hbl3 : bl (ys ++ [s]) = bl ys ++ [s.data.toList] := by simp [bl]
            have hw3 := ap_wrong hap3 ⟨s.data.toList, by rw [hbl3]; simp, HRS.out⟩
            obtain rfl : f13 = 1 := by injection hw3
            have BB13 := Lib.hid hb13
            clear hb13 hap3 hw3 hbl3 HAO HO12 BB12
            dsimp only
            have HL14 := Lib.hid (World.ownsRow_lit (e := 9) (size := 1) (base := wr.heap.size) w13 #[.string s] 1 BB13.out.size (by decide) rfl)
            have BA14 := Lib.hid (BB13.out.alloc BB13.out.size (.cells #[.string s] 9))
            have HS14 := Lib.hid (HYR.out.below BA14.out (Nat.le_refl _))
            go_wp2_with (at_builtin; refine append_strs rfl _ _ rfl wr.heap.size _ 1 [s] ys rfl rfl HL14.out _ _ _ rfl rfl HYN.out HS14.out (by omega) BA14.out.size ?_)
            intro v14 w14 hown14 hbb14
            have BB14 := Lib.hid (BA14.out.trans hbb14)
            have HO14 := Lib.hid hown14
            obtain ⟨P14, p14, rfl⟩ := own_value HO14.out
            clear hown14 hbb14 HL14 BA14 HS14 BB13
            go_wp2_with fail
            refine (der_own CD (w0 := wr) P14 _ p14 ([s] ++ ys) s (by simp; omega) HO14.out BB14.out (by simp; omega) (fun y hy => ?_) (by omega)).mono ?_
            · rcases List.mem_append.1 hy with h | h
              · rw [List.mem_singleton.1 h]; omega
              · exact HYZ.out y h
            rintro e w15 ⟨⟨b15, f15, h15, rfl⟩, hb15⟩
            obtain ⟨rfl, rfl⟩ := dv_wrong h15 ⟨s.data.toList, by simp [bl], HRS.out⟩
            have BB15 := Lib.hid hb15
            clear hb15 h15 BB14 HO14
            dsimp only
            go_wp2
            go_ret
            exact ⟨rfl, Bel.call HBL.out BB15.out⟩
end Go.Proofs.Ytcplagomhfdoaaa.Clo
