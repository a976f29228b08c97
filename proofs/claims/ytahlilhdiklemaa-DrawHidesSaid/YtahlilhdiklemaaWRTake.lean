/-
  CONTRACTS of the document's Take, TakeText (letterlockref2) at this program. By an AI agent; no person has read it.
-/
import Derived.Test.YtahlilhdiklemaaWBase
namespace Go.Proofs.Ytahlilhdiklemaa.Wire
open Go.RowKit

theorem refTake_bad {s : ByteArray} {t : List UInt8} {x : UInt8} {b : Nat} (hl : s.data.toList = x :: t) (hb : x.toNat = b) (h : 8 < b ∨ t.length < b ∨ (0 < b ∧ t.head? = some 0)) : tk s.data.toList = (0, [], 2) := by
  rw [hl]; exact tk_no hb h
set_option maxHeartbeats 4000000 in
set_option maxRecDepth 1000000 in
theorem refTake_any (s : ByteArray) (w : World) (hs : s.size ≤ 140737488355328) :
    Calls Try.prog 68 #[.string s] w fun e w' => Tk (tk s.data.toList) e ∧ Below w.heap.size w w' := by
  by_cases h0 : 0 < s.size
  · have he : s.toList.isEmpty = false := by
      rw [Lib.toList_data, take_hd h0]; rfl
    have hx0 : (0 : Int) < (s.size : Int) := by omega
    have hsz : (s.extract 1 s.size).size = s.size - 1 := by rw [Lib.size_eq, extract_drop, List.length_drop, ← Lib.size_eq]
    obtain ⟨t, ht⟩ : ∃ t, (s.extract 1 s.size).data.toList = t := ⟨_, rfl⟩
    have hl : s.data.toList = s[0] :: t := by rw [take_hd h0, ht]
    have htl : t.length = s.size - 1 := by rw [← ht, ← Lib.size_eq, hsz]
    have hget : ∀ i (hi : i + 1 < s.size), t[i]? = some (s[i + 1]'hi) := fun i hi => by
      have h1 : (s.data.toList)[i + 1]? = some (s[i + 1]'hi) := by
        rw [List.getElem?_eq_getElem (by rw [← Lib.size_eq]; exact hi)]; rfl
      rw [hl, List.getElem?_cons_succ] at h1
      exact h1
    have HL := Lib.hid hl
    have HT := Lib.hid ht
    have HTL := Lib.hid htl
    have HG := Lib.hid hget
    clear hsz ht hl htl hget
    obtain ⟨b, hb⟩ : ∃ b : Nat, (s[0]'h0).toNat = b := ⟨_, rfl⟩
    have HB := Lib.hid hb
    have hb1 : (b : Int) < 256 := by have := u8_lt (s[0]'h0); omega
    by_cases h8 : (8 : Int) < (b : Int)
    · have HN := Lib.hid (refTake_bad HL.out HB.out (.inl (by omega)))
      go_enter Try.func68, Try.ntmps68
      go_wp2
      go_ret3
      exact ⟨⟨⟨#[]⟩, by rw [HN.out], by rw [HN.out]; rfl⟩, Below.refl _ _⟩
    · by_cases hsh : (s.size : Int) < 1 + (b : Int)
      · have HN := Lib.hid (refTake_bad HL.out HB.out (.inr (.inl (by have := HTL.out; omega))))
        go_enter Try.func68, Try.ntmps68
        go_wp2
        go_ret3
        exact ⟨⟨⟨#[]⟩, by rw [HN.out], by rw [HN.out]; rfl⟩, Below.refl _ _⟩
      · by_cases hz : ∃ hb0 : 0 < b, s[1]'(by omega) = 0
        · obtain ⟨hb0, hz⟩ := hz
          have hx1 : (1 : Int) < (s.size : Int) := by omega
          have hz' : ((s[1]'(by omega)).toNat : Int) = 0 := by rw [hz]; rfl
          have HN := Lib.hid (refTake_bad HL.out HB.out (.inr (.inr ⟨hb0, by
            have h := HG.out 0 (by omega)
            rw [hz] at h
            rw [List.head?_eq_getElem?, h]⟩)))
          clear hz
          go_enter Try.func68, Try.ntmps68
          go_wp2
          go_ret3
          exact ⟨⟨⟨#[]⟩, by rw [HN.out], by rw [HN.out]; rfl⟩, Below.refl _ _⟩
        · have HOK : Hid (tk s.data.toList = (val (t.take b), t.drop b, 0)) := by
            show _ = _
            rw [HL.out]
            refine tk_ok HB.out (by omega) (by have := HTL.out; omega) ?_
            by_cases hb0 : b = 0
            · exact .inl hb0
            · refine .inr fun h => hz ⟨by omega, ?_⟩
              rw [List.head?_eq_getElem?, HG.out 0 (by omega)] at h
              exact Option.some.inj h
          by_cases hb0 : 0 < b
          · have hx1 : (1 : Int) < (s.size : Int) := by omega
            have hzz : (((s[1]'(by omega)).toNat : Int) == 0) = false := by
              have : (s[1]'(by omega)).toNat ≠ 0 := fun h => hz ⟨hb0, u8_zero.2 h⟩
              simp; omega
            clear hz
            go_enter Try.func68, Try.ntmps68
            go_wp2
            go_loop [5, 7] (fun n i => ∃ i' v : Nat, 1 ≤ i' ∧ i' ≤ b + 1 ∧ i = .int .i64 i' ∧ n = .int .u64 v ∧ Hid (val (t.take (i' - 1)) = v)) (fun _ i => b + 1 - (intOf i).toNat)
            case atStart => exact ⟨1, 0, by omega, by omega, rfl, rfl, rfl⟩
            case round =>
              obtain ⟨i, v, hi1, hi2, rfl, rfl, HV⟩ := hrel
              by_cases hlt : i < b + 1
              · have his : i < s.size := by omega
                have hgi := HG.out (i - 1) (by omega)
                have hit : i - 1 < t.length := by have := HTL.out; omega
                have hval := val_take hit
                have hv7 : val (t.take (i - 1)) < 72057594037927936 := val_lt7 (by rw [List.length_take]; omega)
                rw [HV.out] at hval hv7
                obtain ⟨c, hc⟩ : ∃ c : Nat, (s[i]'his).toNat = c := ⟨_, rfl⟩
                have hc1 : c < 256 := by have := u8_lt (s[i]'his); omega
                have hte : (t[i - 1]'hit).toNat = c := by
                  rw [List.getElem?_eq_getElem hit] at hgi
                  have h := Option.some.inj hgi
                  rw [h, ← hc]
                  first | done | (congr 2 <;> omega)
                rw [hte] at hval
                have HVV := Lib.hid hval
                have hi3 : (i : Int) < (s.size : Int) := by omega
                clear hval hgi hte
                go_wp2
                go_round
                case rel =>
                  refine ⟨i + 1, v * 256 + c, by omega, by omega, by go_num, by go_num, ?_⟩
                  have h := HVV.out
                  rw [show i - 1 + 1 = i + 1 - 1 by omega] at h
                  exact h
                case measure => simp [intOf]; omega
              · obtain rfl : i = b + 1 := by omega
                have hk1 : (1 : Int) + (b : Int) ≤ (s.size : Int) := by omega
                have hk0 : (0 : Int) ≤ 1 + (b : Int) := by omega
                go_wp2
                go_quiet (fail)
                go_wp2
                go_ret3
                rw [HOK.out]
                have hd : (s.extract (1 + b) s.size).data.toList = t.drop b := by
                  rw [extract_drop, HL.out, Nat.add_comm, List.drop_succ_cons]
                have hv : v = val (t.take b) := HV.out.symm
                subst hv
                exact ⟨⟨_, hd, rfl⟩, bdrew _ _⟩
          · clear hz
            go_enter Try.func68, Try.ntmps68
            go_wp2
            go_loop [5, 7] (fun n i => ∃ i' v : Nat, 1 ≤ i' ∧ i' ≤ b + 1 ∧ i = .int .i64 i' ∧ n = .int .u64 v ∧ Hid (val (t.take (i' - 1)) = v)) (fun _ i => b + 1 - (intOf i).toNat)
            case atStart => exact ⟨1, 0, by omega, by omega, rfl, rfl, rfl⟩
            case round =>
              obtain ⟨i, v, hi1, hi2, rfl, rfl, HV⟩ := hrel
              by_cases hlt : i < b + 1
              · exact absurd hlt (by omega)
              · obtain rfl : i = b + 1 := by omega
                have hk1 : (1 : Int) + (b : Int) ≤ (s.size : Int) := by omega
                have hk0 : (0 : Int) ≤ 1 + (b : Int) := by omega
                go_wp2
                go_quiet (fail)
                go_wp2
                go_ret3
                rw [HOK.out]
                have hd : (s.extract (1 + b) s.size).data.toList = t.drop b := by
                  rw [extract_drop, HL.out, Nat.add_comm, List.drop_succ_cons]
                have hv : v = val (t.take b) := HV.out.symm
                subst hv
                exact ⟨⟨_, hd, rfl⟩, bdrew _ _⟩
  · have hn : s.data.toList = [] := by
      rw [Lib.size_eq] at h0
      exact List.eq_nil_of_length_eq_zero (by omega)
    have he : s.toList.isEmpty = true := by rw [Lib.toList_data, hn]; rfl
    have HN := Lib.hid hn
    clear hn
    go_enter Try.func68, Try.ntmps68
    go_wp2
    go_ret3
    exact ⟨⟨⟨#[]⟩, by rw [HN.out]; rfl, by rw [HN.out]; rfl⟩, Below.refl _ _⟩
set_option maxHeartbeats 4000000 in
set_option maxRecDepth 1000000 in
theorem refText_any (s : ByteArray) (m : Int) (w : World) (hs : s.size ≤ 140737488355328) (hm : -9223372036854775808 ≤ m ∧ m ≤ 9223372036854775807) :
    Calls Try.prog 69 #[.string s, .int .i64 m] w fun e w' => Tx (text s.data.toList m) e ∧ Below w.heap.size w w' := by
  obtain ⟨hm1, hm2⟩ := hm
  rcases take_tk (l := s.data.toList) with ⟨h1, h2⟩ | ⟨n, r, h1, h2, hn⟩
  · have H1 : Hid (text s.data.toList m = ([], [], 2)) := by show _ = _; unfold text; rw [h1]
    have H2 := Lib.hid h2
    clear h1 h2
    go_enter Try.func69, Try.ntmps69
    go_wp2_with fail
    refine (refTake_any _ _ hs).mono ?_
    rw [H2.out]
    rintro e w1 ⟨⟨R, hR, rfl⟩, hb⟩
    dsimp only at hR ⊢
    have HB := Lib.hid hb
    clear hR hb
    go_wp2
    go_ret3
    rw [H1.out]
    exact ⟨⟨⟨#[]⟩, ⟨#[]⟩, rfl, rfl, rfl⟩, HB.out⟩
  · have hrl := (take_len h1).1
    rw [← Lib.size_eq] at hrl
    have H2 := Lib.hid h2
    have HN := Lib.hid hn
    have hte : text s.data.toList m = if max m 0 < (n : Int) then ([], [], 10) else if r.length < n then ([], [], 2) else (r.take n, r.drop n, 0) := by unfold text; rw [h1]
    clear h1 h2 hn
    by_cases hb : max m 0 < (n : Int)
    · rw [if_pos hb] at hte
      have H1 := Lib.hid hte
      clear hte
      by_cases hm0 : m < 0
      · have hb' : (0 : Int) < n := by omega
        clear hb
        go_enter Try.func69, Try.ntmps69
        go_wp2_with fail
        refine (refTake_any _ _ hs).mono ?_
        rw [H2.out]
        rintro e w1 ⟨⟨R, hR, rfl⟩, hbl⟩
        dsimp only at hR ⊢
        have HBL := Lib.hid hbl
        have hz : R.size = r.length := by rw [Lib.size_eq, hR]
        have h6 : (R.size : Int) ≤ 140737488355328 := by omega
        clear hR hbl hz
        go_wp2
        go_ret3
        rw [H1.out]
        exact ⟨⟨⟨#[]⟩, ⟨#[]⟩, rfl, rfl, rfl⟩, HBL.out⟩
      · have hb' : m < (n : Int) := by omega
        clear hb
        go_enter Try.func69, Try.ntmps69
        go_wp2_with fail
        refine (refTake_any _ _ hs).mono ?_
        rw [H2.out]
        rintro e w1 ⟨⟨R, hR, rfl⟩, hbl⟩
        dsimp only at hR ⊢
        have HBL := Lib.hid hbl
        have hz : R.size = r.length := by rw [Lib.size_eq, hR]
        have h6 : (R.size : Int) ≤ 140737488355328 := by omega
        clear hR hbl hz
        go_wp2
        go_ret3
        rw [H1.out]
        exact ⟨⟨⟨#[]⟩, ⟨#[]⟩, rfl, rfl, rfl⟩, HBL.out⟩
    · rw [if_neg hb] at hte
      by_cases hlt : r.length < n
      · rw [if_pos hlt] at hte
        have H1 := Lib.hid hte
        clear hte
        by_cases hm0 : m < 0
        · exact absurd hlt (by omega)
        · have hb' : (n : Int) ≤ m := by omega
          clear hb
          go_enter Try.func69, Try.ntmps69
          go_wp2_with fail
          refine (refTake_any _ _ hs).mono ?_
          rw [H2.out]
          rintro e w1 ⟨⟨R, hR, rfl⟩, hbl⟩
          dsimp only at hR ⊢
          have HBL := Lib.hid hbl
          have hz : R.size = r.length := by rw [Lib.size_eq, hR]
          have h6 : (R.size : Int) ≤ 140737488355328 := by omega
          have h5 : ((R.size : Nat) : Int) < (n : Int) := by omega
          clear hR hbl hz
          go_wp2
          go_ret3
          rw [H1.out]
          exact ⟨⟨⟨#[]⟩, ⟨#[]⟩, rfl, rfl, rfl⟩, HBL.out⟩
      · rw [if_neg hlt] at hte
        have H1 := Lib.hid hte
        clear hte
        by_cases hm0 : m < 0
        · have hb' : (n : Int) ≤ 0 := by omega
          clear hb
          go_enter Try.func69, Try.ntmps69
          go_wp2_with fail
          refine (refTake_any _ _ hs).mono ?_
          rw [H2.out]
          rintro e w1 ⟨⟨R, hR, rfl⟩, hbl⟩
          dsimp only at hR ⊢
          have HBL := Lib.hid hbl
          have hz : R.size = r.length := by rw [Lib.size_eq, hR]
          have h6 : (R.size : Int) ≤ 140737488355328 := by omega
          have h5 : (n : Int) ≤ ((R.size : Nat) : Int) := by omega
          have h7 : (0 : Int) ≤ (n : Int) := by omega
          have HR := Lib.hid hR
          clear hR hbl hz
          go_wp2
          go_quiet (fail)
          go_wp2
          go_ret3
          rw [H1.out]
          refine ⟨⟨_, _, ?_, ?_, rfl⟩, HBL.out.trans (bdrew _ _)⟩
          · rw [extract_take, HR.out]
          · rw [extract_drop, HR.out]
        · have hb' : (n : Int) ≤ m := by omega
          clear hb
          go_enter Try.func69, Try.ntmps69
          go_wp2_with fail
          refine (refTake_any _ _ hs).mono ?_
          rw [H2.out]
          rintro e w1 ⟨⟨R, hR, rfl⟩, hbl⟩
          dsimp only at hR ⊢
          have HBL := Lib.hid hbl
          have hz : R.size = r.length := by rw [Lib.size_eq, hR]
          have h6 : (R.size : Int) ≤ 140737488355328 := by omega
          have h5 : (n : Int) ≤ ((R.size : Nat) : Int) := by omega
          have h7 : (0 : Int) ≤ (n : Int) := by omega
          have HR := Lib.hid hR
          clear hR hbl hz
          go_wp2
          go_quiet (fail)
          go_wp2
          go_ret3
          rw [H1.out]
          refine ⟨⟨_, _, ?_, ?_, rfl⟩, HBL.out.trans (bdrew _ _)⟩
          · rw [extract_take, HR.out]
          · rw [extract_drop, HR.out]
end Go.Proofs.Ytahlilhdiklemaa.Wire
