/-
  THE LAW DrawHides, walked over what the code is held to. By an AI agent; no person has read it.
-/
import Derived.Test.YtahlilhdiklemaaDSecret
import Derived.Test.YtahlilhdiklemaaDSmall
import Derived.Test.YtahlilhdiklemaaCSpec
namespace Go.Proofs.Ytahlilhdiklemaa.Draw
open Go.RowKit Wire Term Clo

/-- Derives, asked with what is public of a secret, and another secret .. -/
theorem asks_not (CD : DerivesOK) {use who use' who' : List UInt8} {n m : Nat} (hn : n < 18446744073709551616) (hm : m < 18446744073709551616) (h1 : use.length + who.length ≤ 1000) (h2 : use'.length + who'.length ≤ 1000)
    (w w1 : World) (U T S : ByteArray) (g : Nat) (hg : g = w1.heap.size) (hb : Below w.heap.size w w1) (hU : U.data.toList = 117 :: sech use who n) (hT : T.data.toList = sech use' who' m) (hS : S.data.toList = sech use who n) :
    Calls Try.prog 19 #[.slice (some ⟨g, 0, none⟩) 2 2, .string S] (w1.alloc (.cells #[.string U, .string T] 9)) fun e w' => e = .returned (.tuple #[.bool (decide (S = T)), .int .i64 0]) ∧ Below w.heap.size w w' := by
  obtain ⟨r1, r2, r3, r4⟩ := secret_small h1 hn
  obtain ⟨q1, q2, q3, q4⟩ := secret_small h2 hm
  have l3 := (right_len r3).2
  have l4 := (right_len r4).2
  have m3 := (right_len q3).2
  refine (CD (some ⟨g, 0, none⟩) 2 [U, T] S _ (pair_reads' w1 U T g hg) (Nat.le_refl _) (by simp) ?_ (by rw [Lib.size_eq, hS]; omega)).mono fun e w' ⟨⟨b, f, h, he⟩, hb2⟩ => ⟨?_, after_alloc hb hb2⟩
  · intro y hy
    have : y = U ∨ y = T := by simpa using hy
    rcases this with rfl | rfl
    · rw [Lib.size_eq, hU]; omega
    · rw [Lib.size_eq, hT]; omega
  · have e0 : bl [U, T] = [U.data.toList, T.data.toList] := rfl
    rw [e0, hU, hT, hS] at h
    obtain ⟨h3, h4⟩ := dv_ok h (by
      intro x hx
      have : x = 117 :: sech use who n ∨ x = sech use' who' m := by simpa using hx
      rcases this with rfl | rfl
      · exact r4
      · exact q3) (by simp) r3
    rw [der_not r1 r2 r3 rfl (sech_head _ _ _), ← hS, ← hT] at h4
    have h5 : b = decide (S = T) := by
      by_cases e : S = T
      · rw [decide_eq_true e]; exact h4.2 (by rw [e])
      · rw [decide_eq_false e, ← Bool.not_eq_true]; exact fun h => e (str_eq (h4.1 h))
    rw [he, h3, h5]
/-- .. and with the atom alone. -/
theorem asks_atom (CD : DerivesOK) {use who : List UInt8} {n : Nat} (hn : n < 18446744073709551616) (h1 : use.length + who.length ≤ 1000)
    (w w1 : World) (A S : ByteArray) (g : Nat) (hg : g = w1.heap.size) (hb : Below w.heap.size w w1) (hA : A.data.toList = ofAtom n) (hS : S.data.toList = sech use who n) :
    Calls Try.prog 19 #[.slice (some ⟨g, 0, none⟩) 1 1, .string S] (w1.alloc (.cells #[.string A] 9)) fun e w' => e = .returned (.tuple #[.bool true, .int .i64 0]) ∧ Below w.heap.size w w' := by
  obtain ⟨r1, r2, r3, r4⟩ := secret_small h1 hn
  have l3 := (right_len r3).2
  have l4 := (right_len (atom_ok hn)).2
  refine (CD (some ⟨g, 0, none⟩) 1 [A] S _ (one_reads w1 A g hg) (by simp) (by simp) ?_ (by rw [Lib.size_eq, hS]; omega)).mono fun e w' ⟨⟨b, f, h, he⟩, hb2⟩ => ⟨?_, after_alloc hb hb2⟩
  · intro y hy
    have : y = A := by simpa using hy
    rw [this, Lib.size_eq, hA]; omega
  · have e0 : bl [A] = [A.data.toList] := rfl
    rw [e0, hA, hS] at h
    obtain ⟨h3, h4⟩ := dv_ok h (by
      intro x hx
      have : x = ofAtom n := by simpa using hx
      rw [this]; exact atom_ok hn) (by simp) r3
    rw [he, h3, h4.2 (der_atom r1 r2 r3)]
/-- No colon so far. -/
theorem not_take {s : ByteArray} {j : Nat} (h : j < s.size) (h1 : 58 ∉ s.data.toList.take j) (h2 : ¬ s[j] = 58) : 58 ∉ s.data.toList.take (j + 1) := by
  have e : s.data.toList[j]? = some s[j] := by rw [Array.getElem?_toList, Array.getElem?_eq_getElem (show j < s.data.size from h)]; rfl
  rw [List.take_add_one, e]
  intro hm
  rcases List.mem_append.1 hm with h3 | h3
  · exact h1 h3
  · have : (58 : UInt8) = s[j] := by simpa using h3
    exact h2 this.symm
theorem str_ne {S T : ByteArray} (h : ¬ S = T) : (S.toList == T.toList) = false := by
  rw [beq_eq_false_iff_ne, Lib.toList_data, Lib.toList_data]; exact fun e => h (str_eq e)
theorem not_all {s : ByteArray} (h : 58 ∉ s.data.toList.take s.size) : 58 ∉ s.data.toList := by
  rw [Lib.size_eq, List.take_length] at h; exact h
set_option maxHeartbeats 8000000 in
set_option maxRecDepth 1000000 in
theorem hides_walk {D : DPred} (MO : MixOK) (d : DrawsOK D) (SO : SecretOK) (CD : DerivesOK) (use who other else1 : ByteArray) (n m : Nat) (w : World) (hu : use.size ≤ 140737488351232) (hw : who.size ≤ 140737488351232) (hu2 : other.size ≤ 140737488351232) (hw2 : else1.size ≤ 140737488351232) (hn : n < 18446744073709551616) (hm : m < 18446744073709551616) :
    Calls Try.prog 5 #[.string use, .string who, .int .u64 (n : Int), .string other, .string else1, .int .u64 (m : Int)] w fun e w' => e = .returned (.bool true) ∧ Below w.heap.size w w' := by
  have HSH := Lib.hid (shown5_any MO d w)
  clear MO d
  by_cases hbig : (1000 : Int) < (use.size : Int) + (who.size : Int) + (other.size : Int) + (else1.size : Int)
  · clear SO CD
    go_enter Try.func5, Try.ntmps5
    go_wp2_with fail
    refine HSH.out.mono ?_
    rintro e w1 ⟨rfl, hb1⟩
    have HB1 := Lib.hid hb1
    clear hb1
    dsimp only
    go_wp2
    go_ret
    exact ⟨rfl, HB1.out⟩
  have hl1 : use.data.toList.length + who.data.toList.length ≤ 1000 := by have := Lib.size_eq use; have := Lib.size_eq who; omega
  have hl2 : other.data.toList.length + else1.data.toList.length ≤ 1000 := by have := Lib.size_eq other; have := Lib.size_eq else1; omega
  have HSO1 := Lib.hid fun w => SO use who n w (by omega) (by omega) (by omega) hn
  have HSO2 := Lib.hid fun w => SO other else1 m w (by omega) (by omega) (by omega) hm
  obtain ⟨r1, r2, r3, r4⟩ := secret_small hl1 hn
  obtain ⟨q1, q2, q3, q4⟩ := secret_small hl2 hm
  rw [secret_ok hn r1 r2 r3] at HSO1
  rw [secret_ok hm q1 q2 q3] at HSO2
  have HSAME : Hid (58 ∉ use.data.toList → 58 ∉ other.data.toList → sech use.data.toList who.data.toList n = sech other.data.toList else1.data.toList m → use = other ∧ who = else1 ∧ n = m) := fun h1 h2 h => by
    obtain ⟨e1, e2, e3⟩ := sech_inj hn hm r1 q1 h1 h2 (by rw [List.length_append, List.length_cons]; omega) (by rw [List.length_append, List.length_cons]; omega) h
    exact ⟨str_eq e1, str_eq e2, e3⟩
  have HPUB : Hid (∀ (S : ByteArray) (w : World), S.data.toList = sech use.data.toList who.data.toList n → Calls Try.prog 18 #[.string S] w fun e w' => Sr (117 :: sech use.data.toList who.data.toList n, 0) e ∧ Below w.heap.size w w') := by
    intro S w hS
    have e1 : one 117 (sech use.data.toList who.data.toList n) = (117 :: sech use.data.toList who.data.toList n, 0) := by unfold one; rw [if_pos r3]; exact made_yes r4
    have := t_OfPublic S w (by rw [Lib.size_eq, hS]; have := (right_len r3).2; omega)
    rw [hS, e1] at this
    exact this
  have HD1 := Lib.hid fun w w1 U T S g => asks_not CD hn hm hl1 hl2 w w1 U T S g
  have HD2 := Lib.hid fun w w1 A S g => asks_atom CD hn hl1 w w1 A S g
  have HN := Lib.hid hn
  clear r1 r2 r3 r4 q1 q2 q3 q4 hl1 hl2 SO CD hn hm
  go_enter Try.func5, Try.ntmps5
  go_wp2_with fail
  refine HSH.out.mono ?_
  rintro e w1 ⟨rfl, hb1⟩
  have HB1 := Lib.hid hb1
  clear hb1
  dsimp only
  go_wp2_with fail
  go_loopw [14] (fun i wr => ∃ j : Nat, j ≤ use.size ∧ i = .int .i64 j ∧ Hid (58 ∉ use.data.toList.take j) ∧ Hid (Below w.heap.size w wr)) (fun i _ => use.size - (intOf i).toNat)
  case atStart => exact ⟨0, Nat.zero_le _, rfl, Lib.hid (by simp), HB1⟩
  case round =>
    clear HB1
    obtain ⟨j, hj, rfl, HNU, HB⟩ := hrel
    by_cases hlt : j < use.size
    · by_cases h58 : use[j] = 58
      · have c1 : ((use[j].toNat : Int) == 58) = true := by rw [h58]; rfl
        go_wp2
        go_ret
        exact ⟨rfl, HB.out⟩
      · have c1 : ((use[j].toNat : Int) == 58) = false := by
          rw [beq_eq_false_iff_ne]; intro h; exact h58 (UInt8.toNat_inj.1 (by have : (58 : UInt8).toNat = 58 := rfl; omega))
        go_wp2
        go_roundw
        case rel => exact ⟨j + 1, by omega, by go_num, Lib.hid (not_take hlt HNU.out h58), HB⟩
        case measure => simp [intOf]; omega
    · have HU : Hid (58 ∉ use.data.toList) := not_all (by have : j = use.size := by omega
                                                          rw [this] at HNU; exact HNU.out)
      clear HNU
      go_wp2_with fail
      go_loopw [15] (fun i wr => ∃ k : Nat, k ≤ other.size ∧ i = .int .i64 k ∧ Hid (58 ∉ other.data.toList.take k) ∧ Hid (Below w.heap.size w wr)) (fun i _ => other.size - (intOf i).toNat)
      case atStart => exact ⟨0, Nat.zero_le _, rfl, Lib.hid (by simp), HB⟩
      case round =>
        clear HB
        obtain ⟨k, hk, rfl, HNU, HB⟩ := hrel
        by_cases hlt2 : k < other.size
        · by_cases h58 : other[k] = 58
          · have c1 : ((other[k].toNat : Int) == 58) = true := by rw [h58]; rfl
            go_wp2
            go_ret
            exact ⟨rfl, HB.out⟩
          · have c1 : ((other[k].toNat : Int) == 58) = false := by
              rw [beq_eq_false_iff_ne]; intro h; exact h58 (UInt8.toNat_inj.1 (by have : (58 : UInt8).toNat = 58 := rfl; omega))
            go_wp2
            go_roundw
            case rel => exact ⟨k + 1, by omega, by go_num, Lib.hid (not_take hlt2 HNU.out h58), HB⟩
            case measure => simp [intOf]; omega
        · have HO : Hid (58 ∉ other.data.toList) := not_all (by have : k = other.size := by omega
                                                                rw [this] at HNU; exact HNU.out)
          clear HNU
          go_wp2_with fail
          refine (HSO1.out _).mono ?_
          rintro e w2 ⟨⟨S, hS, rfl⟩, hb2⟩
          have HB2 := Lib.hid (HB.out.trans (hb2.mono HB.out.size))
          have HS := Lib.hid hS
          clear hS hb2
          dsimp only
          go_wp2_with fail
          refine (HSO2.out _).mono ?_
          rintro e w3 ⟨⟨T, hT, rfl⟩, hb3⟩
          have HB3 := Lib.hid (HB2.out.trans (hb3.mono HB2.out.size))
          have HT := Lib.hid hT
          clear hT hb3
          dsimp only
          by_cases hST : S = T
          · obtain ⟨e1, e2, e3⟩ := HSAME.out HU.out HO.out (HS.out.symm.trans ((congrArg (fun x : ByteArray => x.data.toList) hST).trans HT.out))
            subst hST
            subst e1
            subst e2
            subst e3
            go_wp2_with fail
            refine (HPUB.out S _ HS.out).mono ?_
            rintro e w4 ⟨⟨U, hU, rfl⟩, hb4⟩
            have HB4 := Lib.hid (HB3.out.trans (hb4.mono HB3.out.size))
            have HU1 := Lib.hid hU
            clear hU hb4
            dsimp only
            go_wp2_with fail
            refine (HD1.out w _ U S S _ rfl HB4.out HU1.out HT.out HS.out).mono ?_
            rw [decide_eq_true rfl]
            rintro e w5 ⟨rfl, hb5⟩
            have HB5 := Lib.hid hb5
            clear hb5
            dsimp only
            go_wp2_with fail
            refine (t_OfAtom n _ HN.out).mono ?_
            rintro e w6 ⟨⟨A, hA, rfl⟩, hb6⟩
            have HB6 := Lib.hid (HB5.out.trans (hb6.mono HB5.out.size))
            have HA := Lib.hid hA
            clear hb6 hA
            dsimp only
            go_wp2_with fail
            refine (HD2.out w _ A S _ rfl HB6.out HA.out HS.out).mono ?_
            rintro e w7 ⟨rfl, hb7⟩
            have HB7 := Lib.hid hb7
            clear hb7
            dsimp only
            go_wp2
            go_ret
            exact ⟨rfl, HB7.out⟩
          · have HNE : Hid (¬ (use = other ∧ who = else1 ∧ n = m)) := fun ⟨e1, e2, e3⟩ => by subst e1; subst e2; subst e3; exact hST (str_eq (HS.out.trans HT.out.symm))
            have cST := str_ne hST
            by_cases e1 : use = other
            · subst e1
              by_cases e2 : who = else1
              · subst e2
                have e3 : n ≠ m := fun e => HNE.out ⟨rfl, rfl, e⟩
                have c3 : ((n : Int) == (m : Int)) = false := by rw [beq_eq_false_iff_ne]; omega
                go_wp2_with fail
                refine (HPUB.out S _ HS.out).mono ?_
                rintro e w4 ⟨⟨U, hU, rfl⟩, hb4⟩
                have HB4 := Lib.hid (HB3.out.trans (hb4.mono HB3.out.size))
                have HU1 := Lib.hid hU
                clear hU hb4
                dsimp only
                go_wp2_with fail
                refine (HD1.out w _ U T S _ rfl HB4.out HU1.out HT.out HS.out).mono ?_
                rw [decide_eq_false hST]
                rintro e w5 ⟨rfl, hb5⟩
                have HB5 := Lib.hid hb5
                clear hb5
                dsimp only
                go_wp2_with fail
                refine (t_OfAtom n _ HN.out).mono ?_
                rintro e w6 ⟨⟨A, hA, rfl⟩, hb6⟩
                have HB6 := Lib.hid (HB5.out.trans (hb6.mono HB5.out.size))
                have HA := Lib.hid hA
                clear hb6 hA
                dsimp only
                go_wp2_with fail
                refine (HD2.out w _ A S _ rfl HB6.out HA.out HS.out).mono ?_
                rintro e w7 ⟨rfl, hb7⟩
                have HB7 := Lib.hid hb7
                clear hb7
                dsimp only
                go_wp2
                go_ret
                exact ⟨rfl, HB7.out⟩
              · have c2 := str_ne e2
                go_wp2_with fail
                refine (HPUB.out S _ HS.out).mono ?_
                rintro e w4 ⟨⟨U, hU, rfl⟩, hb4⟩
                have HB4 := Lib.hid (HB3.out.trans (hb4.mono HB3.out.size))
                have HU1 := Lib.hid hU
                clear hU hb4
                dsimp only
                go_wp2_with fail
                refine (HD1.out w _ U T S _ rfl HB4.out HU1.out HT.out HS.out).mono ?_
                rw [decide_eq_false hST]
                rintro e w5 ⟨rfl, hb5⟩
                have HB5 := Lib.hid hb5
                clear hb5
                dsimp only
                go_wp2_with fail
                refine (t_OfAtom n _ HN.out).mono ?_
                rintro e w6 ⟨⟨A, hA, rfl⟩, hb6⟩
                have HB6 := Lib.hid (HB5.out.trans (hb6.mono HB5.out.size))
                have HA := Lib.hid hA
                clear hb6 hA
                dsimp only
                go_wp2_with fail
                refine (HD2.out w _ A S _ rfl HB6.out HA.out HS.out).mono ?_
                rintro e w7 ⟨rfl, hb7⟩
                have HB7 := Lib.hid hb7
                clear hb7
                dsimp only
                go_wp2
                go_ret
                exact ⟨rfl, HB7.out⟩
            · have c1 := str_ne e1
              go_wp2_with fail
              refine (HPUB.out S _ HS.out).mono ?_
              rintro e w4 ⟨⟨U, hU, rfl⟩, hb4⟩
              have HB4 := Lib.hid (HB3.out.trans (hb4.mono HB3.out.size))
              have HU1 := Lib.hid hU
              clear hU hb4
              dsimp only
              go_wp2_with fail
              refine (HD1.out w _ U T S _ rfl HB4.out HU1.out HT.out HS.out).mono ?_
              rw [decide_eq_false hST]
              rintro e w5 ⟨rfl, hb5⟩
              have HB5 := Lib.hid hb5
              clear hb5
              dsimp only
              go_wp2_with fail
              refine (t_OfAtom n _ HN.out).mono ?_
              rintro e w6 ⟨⟨A, hA, rfl⟩, hb6⟩
              have HB6 := Lib.hid (HB5.out.trans (hb6.mono HB5.out.size))
              have HA := Lib.hid hA
              clear hb6 hA
              dsimp only
              go_wp2_with fail
              refine (HD2.out w _ A S _ rfl HB6.out HA.out HS.out).mono ?_
              rintro e w7 ⟨rfl, hb7⟩
              have HB7 := Lib.hid hb7
              clear hb7
              dsimp only
              go_wp2
              go_ret
              exact ⟨rfl, HB7.out⟩
end Go.Proofs.Ytahlilhdiklemaa.Draw
