/-
  THE CONTRACT of the document's Fold (letterlockref1) at this program. By an AI agent; no person has read it.
-/
import Derived.Test.YtgnfnbmdjbmcfaaRefSplit
namespace Go.Proofs.Ytgnfnbmdjbmcfaa
open Go.RowKit Txt

theorem refgreat_is (r : Int) (v : Bool) (h : great r = v) (w : World) : Calls Try.prog 40 #[.int .i32 r] w fun e w' => e = .returned (.bool v) ∧ w = w' := by
  subst h
  exact refgreat_any r w

set_option maxHeartbeats 2000000 in
set_option maxRecDepth 1000000 in
theorem reffold_any (s : ByteArray) (w : World) (hs : s.size ≤ 1000000) :
    Calls Try.prog 23 #[.string s] w fun e w' => ∃ U : ByteArray, e = .returned (.string U) ∧ U.data.toList = fold s.data.toList ∧ Below w.heap.size w w' := by
  go_enter Try.func23, Try.ntmps23
  go_wp2
  go_loopw [0, 3] (fun t v wr => ∃ (u o : ByteArray), t = .string u ∧ v = .string o ∧ o.size + u.size = s.size ∧ Below w.heap.size w wr ∧ o.data.toList ++ fold u.data.toList = fold s.data.toList) (fun t _ _ => match t with | .string u => u.size | _ => 0)
  case atStart => exact ⟨s, ⟨#[]⟩, rfl, rfl, by show 0 + s.size = s.size; omega, Below.refl _ _, rfl⟩
  case round =>
    obtain ⟨u, o, rfl, rfl, hlen, hb, hfo⟩ := hrel
    have HF := Lib.hid hfo
    have HLEN := Lib.hid hlen
    have so : o.size ≤ 1000000 := by omega
    have su : u.size ≤ 1000000 := by omega
    clear hfo hlen
    by_cases h0 : 0 < u.size
    · have hne := not_empty h0
      have HNE := Lib.hid (list_ne h0)
      have hdl := dec_le _ HNE.out
      rw [← Lib.size_eq] at hdl
      have hw1 := Lib.decodeL_width u.data.toList
      have hst := fold_step HNE.out
      have HST := Lib.hid hst
      clear hst
      by_cases hbad : Lib.decodeL u.data.toList = (65533, 1)
      · have hf := firsts_call u wr su h0 (r := 0) (n := 0) (firstR_bad hbad)
        have HP : Hid (piece u.data.toList = [45]) := Lib.hid (by unfold piece; rw [if_pos hbad])
        have HB := Lib.hid hbad
        have n1 : (1 : Int) ≤ ↑u.size := by omega
        clear hbad hdl hw1
        go_wp2_with fail
        refine hf.mono ?_
        clear hf
        rintro e w1 ⟨rfl, rfl⟩
        go_wp2_with fail
        go_roundw
        case rel =>
          have hz : (u.extract 1 u.size).size = u.size - 1 := by rw [Lib.size_eq, extract_drop, List.length_drop, ← Lib.size_eq]
          refine ⟨u.extract 1 u.size, o ++ ⟨#[45]⟩, rfl, rfl, ?_, hb, ?_⟩
          · have := HLEN.out
            rw [hz, ByteArray.size_append]; show o.size + 1 + _ = _; omega
          · rw [app_data, extract_drop, ← HF.out, HST.out, HP.out, HB.out, List.append_assoc]
        case measure =>
          have : (u.extract 1 u.size).size = u.size - 1 := by rw [Lib.size_eq, extract_drop, List.length_drop, ← Lib.size_eq]
          simp [this]; omega
      · obtain ⟨⟨r, n⟩, hd⟩ : ∃ p, Lib.decodeL u.data.toList = p := ⟨_, rfl⟩
        have hf := firsts_call u wr su h0 (firstR_ok HNE.out hd (by rw [← hd]; exact hbad))
        have hed := enc_dec _ HNE.out hbad
        have hpl := piece_len HNE.out
        have HP : Hid (piece u.data.toList = Lib.encodeRune (low r)) := Lib.hid (by unfold piece; rw [if_neg hbad, hd])
        rw [hd] at hdl hw1 hed hpl
        simp only at hdl hw1 hed hpl
        have HED := Lib.hid hed
        have HD := Lib.hid hd
        have HPL := Lib.hid hpl
        have n0 : ((n : Int) == 0) = false := beq_eq_false_iff_ne.2 (by omega)
        have n1 : (0 : Int) ≤ ↑n := by omega
        have n2 : (↑n : Int) ≤ ↑u.size := by omega
        have hz : (u.extract n u.size).size = u.size - n := by rw [Lib.size_eq, extract_drop, List.length_drop, ← Lib.size_eq]
        have HZ := Lib.hid hz
        clear hbad hd hed hpl hz
        cases hg : great (r : Int) with
        | true =>
          have HG := Lib.hid hg
          have hg1 : (r : Int) ≤ 1071 := by have := of_decide_eq_true hg; omega
          have HLW : Hid (low r = r + 32) := Lib.hid (by unfold low; rw [if_pos hg])
          have ho := one_call ((r : Int) + 32) (by rw [← HLW.out]; exact low_valid HED.out.2.2) wr
          clear hg
          go_wp2_with fail
          refine hf.mono ?_
          clear hf
          rintro e w1 ⟨rfl, rfl⟩
          go_wp2_with fail
          refine (refgreat_is r true HG.out _).mono ?_
          rintro e w1 ⟨rfl, rfl⟩
          go_wp2_with fail
          refine ho.mono ?_
          clear ho
          rintro e w2 ⟨S, rfl, hS, hS4, b2⟩
          have HS := Lib.hid hS
          clear hS
          go_wp2_with fail
          go_roundw
          case rel =>
            refine ⟨u.extract n u.size, o ++ S, rfl, rfl, ?_, hb.trans (b2.mono hb.size), ?_⟩
            · have e1 := HLEN.out
              have e2 := HPL.out
              rw [HP.out, HLW.out, ← HS.out, ← Lib.size_eq] at e2
              rw [HZ.out, ByteArray.size_append, e2]; omega
            · rw [app_data, HS.out, extract_drop, ← HF.out, HST.out, HP.out, HLW.out, HD.out, List.append_assoc]
          case measure => simp [HZ.out]; omega
        | false =>
          have HG := Lib.hid hg
          have HLW : Hid (low r = r) := Lib.hid (by unfold low; rw [hg]; simp)
          have hez : (u.extract 0 n).size = n := by rw [Lib.size_eq, extract_take, List.length_take, ← Lib.size_eq]; omega
          have HEZ := Lib.hid hez
          have hez2 : (u.extract 0 n).size ≤ 1000000 := by omega
          clear hg hez
          go_wp2_with fail
          refine hf.mono ?_
          clear hf
          rintro e w1 ⟨rfl, rfl⟩
          go_wp2_with fail
          refine (refgreat_is r false HG.out _).mono ?_
          rintro e w1 ⟨rfl, rfl⟩
          go_wp2_with fail
          go_roundw
          case rel =>
            refine ⟨u.extract n u.size, o ++ u.extract 0 n, rfl, rfl, ?_, hb, ?_⟩
            · have e1 := HLEN.out
              rw [HZ.out, ByteArray.size_append, HEZ.out]; omega
            · have et : u.data.toList.take n = Lib.encodeRune r := by
                have e1 := HED.out.1
                have e2 := HED.out.2.1
                conv => lhs; rw [← e1]
                rw [← e2, List.take_left]
              rw [app_data, extract_take, et, extract_drop, ← HF.out, HST.out, HP.out, HLW.out, HD.out, List.append_assoc]
          case measure => simp [HZ.out]; omega
    · have hu : u.data.toList = [] := List.eq_nil_of_length_eq_zero (by rw [← Lib.size_eq]; omega)
      have heq : (u.toList == []) = true := by rw [Lib.toList_data, hu]; rfl
      have HUU := Lib.hid hu
      clear hu
      go_wp2
      go_ret
      refine ⟨o, rfl, ?_, hb⟩
      rw [← HF.out, HUU.out, fold_nil, List.append_nil]
end Go.Proofs.Ytgnfnbmdjbmcfaa
