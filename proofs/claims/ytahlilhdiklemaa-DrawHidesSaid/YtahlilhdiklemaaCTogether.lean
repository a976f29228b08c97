/-
  CONTRACT of the code's putTogether (package closure). By an AI agent; no person has read it.
-/
import Derived.Test.YtahlilhdiklemaaCApart
namespace Go.Proofs.Ytahlilhdiklemaa.Clo
open Go.RowKit Wire Term

theorem bl_take (ys : List ByteArray) (k : Nat) : bl (ys.take k) = (bl ys).take k := by simp [bl, List.map_take]
theorem take_get {ys : List ByteArray} {k : Nat} {Y : ByteArray} (h : ys[k]? = some Y) : (bl ys).take (k + 1) = (bl ys).take k ++ [Y.data.toList] := by
  have h2 : (bl ys)[k]? = some Y.data.toList := by unfold bl; rw [List.getElem?_map, h]; rfl
  obtain ⟨hlt, e⟩ := List.getElem?_eq_some_iff.1 h2
  rw [List.take_succ_eq_append_getElem hlt, e]
set_option maxHeartbeats 4000000 in
set_option maxRecDepth 1000000 in
theorem puttog_any (held : List Tm) (lv base pb : Nat) (hlv : 4 ≤ lv ∧ lv ≤ 6) (X : Nat → Prop) (K : List Tm) (F : Tm → Fa) (N : List Tm) (s : ByteArray) (w : World) (h : MindX lv base pb X K F N w) (hs : s.size ≤ 4000) (hkf : Kf K F []) (ht : s.data.toList ∈ K) (hsn : Snd held F) (hn : pts s.data.toList ≠ []) (hK : K.length ≤ 100000000) (hN : N.length ≤ 100000000) :
    Calls Try.prog 51 #[.pointer (some ⟨pb, 0, none⟩), .string s] w fun e w' => WkE lv base pb X K w (fun F' N' => Gr held K F N F' N' ∧ O4 F' N' s.data.toList) e w' := by
  obtain ⟨mb, kb, a, c, ys, ia, oa, ic, oc, c0, hlt, hbs, _, hys, hsr, hyc, _, hrun⟩ := h.look hlv.2 hs ht
  have hyl : ys.length ≤ 2 := by rw [← bl_len, hys]; exact pts_le _
  have HH := Lib.hid h
  have HSR := Lib.hid hsr
  have HYS := Lib.hid hys
  have HKF := Lib.hid hkf
  have HT : Hid (s.data.toList ∈ K) := ht
  have HSN := Lib.hid hsn
  have HN : Hid (pts s.data.toList ≠ []) := hn
  have q1 := field_made
  have q2 := field_parts
  have hyi : (0 : Int) ≤ (ys.length : Int) := by omega
  clear h hsr hys hkf ht hsn hn
  go_enter Try.func51, Try.ntmps51
  go_wp2_with fail
  go_loopw [14] (fun i wr => ∃ k : Nat, k ≤ ys.length ∧ i = .int .i64 k ∧ wr = w ∧ Hid (∀ p ∈ (bl ys).take k, (F p).2.1 = true)) (fun i _ => ys.length - (intOf i).toNat)
  case atStart => exact ⟨0, Nat.zero_le _, rfl, rfl, fun p hp => by simp at hp⟩
  case round =>
    obtain ⟨k, hk, rfl, rfl, HA⟩ := hrel
    by_cases hlt2 : k < ys.length
    · obtain ⟨Y, hY⟩ : ∃ Y, ys[k]? = some Y := ⟨_, List.getElem?_eq_getElem hlt2⟩
      obtain ⟨b, off, rfl, hblt, hcell⟩ := reads_at HSR.out k hY
      have HYP : Hid (Y.data.toList ∈ pts s.data.toList) := by rw [← HYS.out]; exact List.mem_map.2 ⟨Y, List.mem_of_getElem? hY, rfl⟩
      have HTK := Lib.hid (take_get hY)
      have hYK := (HKF.out.parts _ HT.out List.not_mem_nil _ HYP.out).1
      have hYs := pt_size rfl HYP.out
      obtain ⟨mb2, kb2, a2, c2, ys2, ia2, oa2, ic2, oc2, c02, _, _, _, _, _, _, _, hrun2⟩ := HH.out.look hlv.2 hYs hYK
      obtain rfl : mb = mb2 := by
        rw [c0] at c02
        injection c02 with e
        injection e with e
        injection e
      clear hY hYK c02
      cases hm : (F Y.data.toList).2.1 with
      | false =>
        rw [hm] at hrun2
        have HM := Lib.hid hm
        clear hm
        go_wp2
        refine bodyPost_ret (results_none rfl _ _ _) rfl ?_
        exact ⟨rfl, Below.refl _ _, fun _ _ => rfl, _, _, HH.out, Gr.refl _ _ _ _, pt_not HYP.out HM.out⟩
      | true =>
        rw [hm] at hrun2
        have HM := Lib.hid hm
        clear hm
        go_wp2
        go_roundw
        case rel =>
          refine ⟨k + 1, by omega, by go_num, by trivial, ?_⟩
          show ∀ p ∈ (bl ys).take (k + 1), _
          rw [HTK.out]
          intro p hp
          rcases List.mem_append.1 hp with h | h
          · exact HA.out p h
          · rw [List.mem_singleton.1 h]; exact HM.out
        case measure => simp [intOf]; omega
    · obtain rfl : k = ys.length := by omega
      have hall : ∀ p ∈ pts s.data.toList, (F p).2.1 = true := by
        have := HA.out
        rw [← bl_take, List.take_length, HYS.out] at this
        exact this
      have HMADE := Lib.hid (pt_made (N := N) (HKF.out.good _ HT.out) HN.out HT.out HSN.out hall)
      clear hall HA
      go_wp2_with fail
      refine (make_any lv base pb hlv.1 X K F N s _ HH.out hs HT.out hK hN).mono ?_
      rintro e w2 ⟨rfl, hm2, hb2, hk2⟩
      have HM2 := Lib.hid hm2
      have HB2 := Lib.hid hb2
      have HK2 := Lib.hid hk2
      clear hm2 hb2 hk2
      dsimp only
      go_wp2
      go_end0
      exact ⟨rfl, HB2.out, HK2.out, _, _, HM2.out, HMADE.out⟩
end Go.Proofs.Ytahlilhdiklemaa.Clo
