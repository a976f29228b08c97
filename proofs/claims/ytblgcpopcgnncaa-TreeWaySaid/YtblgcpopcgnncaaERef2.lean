/-
  THE DOCUMENT's ANSWER (letterlockref10): leaf, Root. By an AI agent; no person has read it.
-/
import Derived.Test.YtblgcpopcgnncaaERef
import Derived.Test.YtblgcpopcgnncaaE2
namespace Go.Proofs.Ytblgcpopcgnncaa.Tre
open Go.RowKit Wire Term Draw Reg Clo

set_option linter.unusedSimpArgs false
set_option linter.unusedVariables false
theorem bl_two {ys : List ByteArray} {a b : Tm} (h : bl ys = [a, b]) : ∃ A B : ByteArray, ys = [A, B] ∧ A.data.toList = a ∧ B.data.toList = b := by
  match ys, h with
  | [A, B], h =>
    have h1 : A.data.toList = a ∧ [B.data.toList] = [b] := List.cons.inj h
    exact ⟨A, B, rfl, h1.1, (List.cons.inj h1.2).1⟩
theorem two_reads {w : World} {A : Option Addr} {a b : ByteArray} (h : SReads w A [a, b]) : ∃ (g off : Nat), A = some ⟨g, off, none⟩ ∧ g < w.heap.size ∧ w.cell? ⟨g, off, none⟩ = some (.string a) ∧ w.cell? ⟨g, off + 1, none⟩ = some (.string b) := by
  obtain ⟨g, off, e0, hl, c0⟩ := h 0 (by simp)
  have k : ∀ j (hj : j < 2) (y : ByteArray), [a, b].getD j ByteArray.empty = y → w.cell? ⟨g, off + j, none⟩ = some (.string y) := fun j hj y hy => by
    obtain ⟨g2, off2, e2, _, c2⟩ := h j (by simpa using hj)
    rw [e0] at e2
    injection e2 with e2
    injection e2 with e3 e4 _
    subst e3; subst e4
    rw [hy] at c2; exact c2
  exact ⟨g, off, e0, hl, k 0 (by decide) a rfl, k 1 (by decide) b rfl⟩
set_option maxHeartbeats 2000000 in
set_option maxRecDepth 1000000 in
theorem rleaf_any (t : ByteArray) (w : World) (ht : t.size ≤ 140737488355328) :
    Calls Try.prog 35 #[.string t] w fun e w' => e = .returned (.bool (isLeaf t.data.toList)) ∧ Below w.heap.size w w' := by
  have HK := Lib.hid fun w => kind_any t w ht
  obtain ⟨v, hv⟩ : ∃ v, isLeaf t.data.toList = v := ⟨_, rfl⟩
  rw [hv]
  by_cases hk : kind t.data.toList = 112
  · have hr : right t.data.toList = true := by
      cases h : right t.data.toList with
      | true => rfl
      | false => rw [kind_wrong h] at hk; exact absurd hk (by decide)
    have hh : t.data.toList.headD 0 = 112 := by
      rw [kind_right hr] at hk
      exact UInt8.toNat_inj.1 hk
    obtain ⟨p, q, hpq, hp, hq⟩ : ∃ a b, pts t.data.toList = [a, b] ∧ right a = true ∧ right b = true := by
      cases hx : t.data.toList with
      | nil => rw [hx] at hh; exact absurd hh (by decide)
      | cons k r =>
        rw [hx] at hh hr
        have h1 : k = 112 := hh
        subst h1
        obtain ⟨y, z, e1, e2, e3, e4, _⟩ := pts_two hr (.inl rfl)
        exact ⟨y, z, e2, e3, e4⟩
    have HP : Hid (∀ w, Calls Try.prog 54 #[.string t] w fun e w' => Ta ([p, q], 0) e w' ∧ Below w.heap.size w w') := Lib.hid fun w => by
      have := parts_any t w ht
      rw [show parts t.data.toList = (pts t.data.toList, 0) by unfold pts parts; rw [if_pos hr], hpq] at this
      exact this
    rw [hk] at HK
    have hvv : v = (decide (p.headD 0 = 116) && decide (q.headD 0 = 97)) := by
      rw [← hv]
      unfold isLeaf
      rw [hk, hpq]
      rfl
    clear hv hk hr hh hpq
    go_enter Try.func35, Try.ntmps35
    go_wp2_with fail
    with_reducible refine (HK.out _).mono ?_
    rintro e w1 ⟨rfl, hb1⟩
    dsimp only
    go_wp2_with fail
    with_reducible refine (HP.out _).mono ?_
    rintro e w2 ⟨⟨A, cc, ys, hys, hlc, hsr, rfl⟩, hb2⟩
    have HB1 := Lib.hid (belc hb1 hb2)
    obtain ⟨PA, PB, rfl, hPA, hPB⟩ := bl_two hys
    obtain ⟨g2, off, rfl, hg1, l0, l1⟩ := two_reads hsr
    clear hb1 hb2 hys hlc hsr
    dsimp only
    obtain ⟨h0, b, t1, hh, _⟩ := right_head (s := PA) (by rw [hPA]; exact hp)
    have hb := hh.first
    have hz1 : (0 : Int) < (PA.size : Int) := by omega
    have hpb : p.headD 0 = b := by rw [← hPA, hh.all]; rfl
    obtain ⟨h0', b', t2, hh', _⟩ := right_head (s := PB) (by rw [hPB]; exact hq)
    have hb' := hh'.first
    have hz2 : (0 : Int) < (PB.size : Int) := by omega
    have hqb : q.headD 0 = b' := by rw [← hPB, hh'.all]; rfl
    rw [hpb, hqb] at hvv
    clear hPA hPB hp hq hh hh' hpb hqb
    by_cases e1 : b = 116
    · subst e1
      have c1 : (((116 : UInt8).toNat : Int) == 116) = true := rfl
      by_cases e2 : b' = 97
      · subst e2
        obtain rfl : v = true := hvv
        go_wp2
        go_ret
        exact ⟨rfl, HB1.out⟩
      · have c2 : ((b'.toNat : Int) == 97) = false := by
          rw [beq_eq_false_iff_ne]; intro h; exact e2 (UInt8.toNat_inj.1 (by have : (97 : UInt8).toNat = 97 := rfl; omega))
        obtain rfl : v = false := by rw [hvv, decide_eq_false e2]; rfl
        clear hvv e2
        go_wp2
        go_ret
        exact ⟨rfl, HB1.out⟩
    · have c1 : ((b.toNat : Int) == 116) = false := by
        rw [beq_eq_false_iff_ne]; intro h; exact e1 (UInt8.toNat_inj.1 (by have : (116 : UInt8).toNat = 116 := rfl; omega))
      obtain rfl : v = false := by rw [hvv, decide_eq_false e1]; rfl
      clear hvv e1
      go_wp2
      go_ret
      exact ⟨rfl, HB1.out⟩
  · obtain rfl : v = false := by rw [← hv]; unfold isLeaf; rw [decide_eq_false hk]; rfl
    obtain ⟨k, hkk⟩ : ∃ k, kind t.data.toList = k := ⟨_, rfl⟩
    rw [hkk] at HK hk
    have c1 : ((k : Int) == 112) = false := by rw [beq_eq_false_iff_ne]; omega
    have c2 : ((k : Int) != 112) = true := by simp [bne, c1]
    clear hv hkk
    go_enter Try.func35, Try.ntmps35
    go_wp2_with fail
    with_reducible refine (HK.out _).mono ?_
    rintro e w1 ⟨rfl, hb1⟩
    dsimp only
    go_wp2
    go_ret
    exact ⟨rfl, hb1⟩
set_option maxHeartbeats 4000000 in
set_option maxRecDepth 1000000 in
theorem rroot_any (A : Option Addr) (c : Nat) (ys : List ByteArray) (w : World) (hr : SReads w A ys) (hc : ys.length ≤ c) (hc2 : c ≤ 9223372036854775807) (hz : ∀ y ∈ ys, y.size ≤ 140737488355328) :
    Calls Try.prog 14 #[.slice A ys.length c] w fun e w' => Sr (root (bl ys)) e ∧ Below w.heap.size w w' := by
  have hbl : (bl ys).length = ys.length := by simp [bl]
  obtain ⟨o, ho⟩ : ∃ o, root (bl ys) = o := ⟨_, rfl⟩
  rw [ho]
  have HO := Lib.hid ho
  unfold root at ho
  rw [hbl] at ho
  by_cases h1 : ys.length < 1
  · rw [if_pos (.inl h1)] at ho
    have HX := Lib.hid ho
    have q : (ys.length : Int) < 1 := by omega
    clear ho h1
    go_enter Try.func14, Try.ntmps14
    go_wp2
    go_ret2
    exact ⟨by rw [← HX.out]; exact ⟨⟨#[]⟩, rfl, rfl⟩, Below.refl _ _⟩
  · by_cases h8 : 8 < ys.length
    · rw [if_pos (.inr h8)] at ho
      have HX := Lib.hid ho
      have q : (8 : Int) < (ys.length : Int) := by omega
      have q1 : ¬ (ys.length : Int) < 1 := by omega
      clear ho h1 h8
      go_enter Try.func14, Try.ntmps14
      go_wp2
      go_ret2
      exact ⟨by rw [← HX.out]; exact ⟨⟨#[]⟩, rfl, rfl⟩, Below.refl _ _⟩
    · rw [if_neg (by omega)] at ho
      have q1 : ¬ (ys.length : Int) < 1 := by omega
      have q2 : ¬ (8 : Int) < (ys.length : Int) := by omega
      have HLF := Lib.hid fun y (h : y ∈ ys) w => rleaf_any y w (hz y h)
      have HTR := Lib.hid fun w (h : SReads w A ys) => rtree_any 3 A c ys w (by omega) h (by omega) (by omega) hc hc2 hz
      have HOO := Lib.hid ho
      clear ho
      have HR := Lib.hid hr
      have HB0 := Lib.hid (Below.refl w.heap.size w)
      go_enter Try.func14, Try.ntmps14
      go_wp2_with fail
      go_loopw [4] (fun i wr => ∃ k : Nat, k ≤ ys.length ∧ i = .int .i64 k ∧ Hid (Below w.heap.size w wr) ∧ Hid (∀ j, j < k → isLeaf (ys.getD j ByteArray.empty).data.toList = true)) (fun i _ => ys.length - (intOf i).toNat)
      case atStart => exact ⟨0, Nat.zero_le _, rfl, HB0, Lib.hid fun j hj => absurd hj (Nat.not_lt_zero _)⟩
      case round =>
        obtain ⟨k, hk, rfl, HB, HJ⟩ := hrel
        by_cases hlt : k < ys.length
        · obtain ⟨gg, off, hA, hblt, hcell⟩ := HR.out.below HB.out (Nat.le_refl _) k hlt
          have hA' := hA
          subst hA'
          obtain ⟨z, hzz⟩ : ∃ z, ys.getD k ByteArray.empty = z := ⟨_, rfl⟩
          rw [hzz] at hcell
          have hzm : z ∈ ys := by
            rw [← hzz, List.getD, List.getElem?_eq_getElem hlt]
            exact List.getElem_mem hlt
          have hki : (k : Int) < (ys.length : Int) := by omega
          have HL := Lib.hid fun w => HLF.out z hzm w
          obtain ⟨v, hv⟩ : ∃ v, isLeaf z.data.toList = v := ⟨_, rfl⟩
          rw [hv] at HL
          go_wp2_with fail
          with_reducible refine (HL.out _).mono ?_
          rintro e w2 ⟨rfl, hb2⟩
          have HB2 := Lib.hid (belc HB.out hb2)
          clear hb2
          dsimp only
          cases v with
          | true =>
            go_wp2
            go_roundw
            case rel => exact ⟨k + 1, by omega, by go_num, HB2, Lib.hid fun j hj => by
              rcases Nat.lt_or_ge j k with h | h
              · exact HJ.out j h
              · rw [show j = k by omega, hzz]; exact hv⟩
            case measure => simp [intOf]; omega
          | false =>
            have hno : ¬ (∀ t ∈ bl ys, isLeaf t = true) := fun h => by
              rw [h z.data.toList (List.mem_map.2 ⟨z, hzm, rfl⟩)] at hv; cases hv
            have HX := Lib.hid HOO.out
            rw [if_pos hno] at HX
            go_wp2
            go_ret2
            exact ⟨by rw [← HX.out]; exact ⟨⟨#[]⟩, rfl, rfl⟩, HB2.out⟩
        · obtain rfl : k = ys.length := by omega
          have hall : ∀ t ∈ bl ys, isLeaf t = true := fun t ht => by
            obtain ⟨y, hy, rfl⟩ := List.mem_map.1 ht
            obtain ⟨j, hj, rfl⟩ := List.mem_iff_getElem.1 hy
            have := HJ.out j hj
            rw [List.getD, List.getElem?_eq_getElem hj] at this
            exact this
          have HX := HOO.out
          rw [if_neg (fun h => h hall)] at HX
          have HX2 := Lib.hid HX
          have HT2 := Lib.hid fun w h => HTR.out w h
          rw [HX2.out] at HT2
          obtain ⟨ol, of⟩ := o
          clear HX hall HJ
          go_wp2_with fail
          with_reducible refine (HT2.out _ (HR.out.below HB.out (Nat.le_refl _))).mono ?_
          rintro e w2 ⟨⟨T, hT, rfl⟩, hb2⟩
          try dsimp only at hT
          have HT := Lib.hid hT
          have HB2 := Lib.hid (belc HB.out hb2)
          clear hT hb2
          dsimp only
          go_wp2
          go_ret2
          exact ⟨⟨T, HT.out, rfl⟩, HB2.out⟩
end Go.Proofs.Ytblgcpopcgnncaa.Tre
