/-
  THE LANDED CODE (package tree): isLeaf, join. By an AI agent; no person has read it.
-/
import Derived.Test.YtblgcpopcgnncaaERef2
import Derived.Test.YtblgcpopcgnncaaE3
import Derived.Test.YtblgcpopcgnncaaECode0
namespace Go.Proofs.Ytblgcpopcgnncaa.Tre
open Go.RowKit Wire Term Draw Reg Clo

set_option linter.unusedSimpArgs false
set_option linter.unusedVariables false
set_option maxHeartbeats 2000000 in
set_option maxRecDepth 1000000 in
theorem cjoin_any (a b : ByteArray) (w : World) (ha : a.size ≤ 140737488355328) (hb : b.size ≤ 140737488355328) :
    Calls Try.prog 40 #[.string a, .string b] w fun e w' => Sr (over a.data.toList b.data.toList) e ∧ Below w.heap.size w w' := by
  have HP := Lib.hid fun w => t_OfPair a b w ha hb
  obtain ⟨x, f, hx⟩ : ∃ x f, two 112 a.data.toList b.data.toList = (x, f) := ⟨_, _, rfl⟩
  generalize ho : over a.data.toList b.data.toList = o
  unfold over at ho
  rw [hx] at ho HP
  have hl := two_len hx
  have HH : Hid (∀ (T : ByteArray) (w : World), T.data.toList = x → Calls Try.prog 23 #[.string T] w fun e w' => Sr (one 104 x) e ∧ Below w.heap.size w w') := Lib.hid fun T w hT => by
    have := t_OfHash T w (by rw [Lib.size_eq, hT]; omega)
    rw [hT] at this
    exact this
  clear hx hl
  by_cases hf : f = 0
  · subst hf
    rw [if_neg (fun h => h rfl)] at ho
    rw [ho] at HH
    obtain ⟨ol, of⟩ := o
    clear ho
    go_enter Try.func40, Try.ntmps40
    go_wp2_with fail
    with_reducible refine (HP.out _).mono ?_
    rintro e w1 ⟨⟨T, hT, rfl⟩, hb1⟩
    try dsimp only at hT
    have HT := Lib.hid hT
    have HB1 := Lib.hid hb1
    clear hT hb1
    dsimp only
    go_wp2_with fail
    with_reducible refine (HH.out T _ HT.out).mono ?_
    rintro e w2 ⟨⟨U, hU, rfl⟩, hb2⟩
    try dsimp only at hU
    have HU := Lib.hid hU
    have HB2 := Lib.hid (belc HB1.out hb2)
    clear hU hb2
    dsimp only
    go_wp2
    go_ret2
    exact ⟨⟨U, HU.out, rfl⟩, HB2.out⟩
  · rw [if_pos hf] at ho
    have HO := Lib.hid ho
    have hfb : (f == 0) = false := by simpa using hf
    have hfb2 : (f != 0) = true := by simpa using hf
    clear ho hf
    go_enter Try.func40, Try.ntmps40
    go_wp2_with fail
    with_reducible refine (HP.out _).mono ?_
    rintro e w1 ⟨⟨T, hT, rfl⟩, hb1⟩
    try dsimp only at hT
    have HT := Lib.hid hT
    have HB1 := Lib.hid hb1
    clear hT hb1
    dsimp only
    go_wp2
    go_ret2
    exact ⟨by rw [← HO.out]; exact ⟨⟨#[]⟩, rfl, rfl⟩, HB1.out⟩
set_option maxHeartbeats 2000000 in
set_option maxRecDepth 1000000 in
theorem cleaf_any (t : ByteArray) (w : World) (ht : t.size ≤ 140737488355328) :
    Calls Try.prog 33 #[.string t] w fun e w' => e = .returned (.bool (isLeaf t.data.toList)) ∧ Below w.heap.size w w' := by
  have HK := Lib.hid fun w => t_Kind t w ht
  obtain ⟨v, hv⟩ : ∃ v, isLeaf t.data.toList = v := ⟨_, rfl⟩
  rw [hv]
  by_cases hk : kind t.data.toList = 112
  · have hr : right t.data.toList = true := by
      cases h : right t.data.toList with
      | true => rfl
      | false => rw [kind_wrong h] at hk; exact absurd hk (by decide)
    have hh : t.data.toList.headD 0 = 112 := by
      rw [kind_right hr] at hk
      exact UInt8.toNat_inj.1 hk
    obtain ⟨p, q, hpq, hp, hq⟩ : ∃ a b, pts t.data.toList = [a, b] ∧ right a = true ∧ right b = true := by
      cases hx : t.data.toList with
      | nil => rw [hx] at hh; exact absurd hh (by decide)
      | cons k r =>
        rw [hx] at hh hr
        have h1 : k = 112 := hh
        subst h1
        obtain ⟨y, z, e1, e2, e3, e4, _⟩ := pts_two hr (.inl rfl)
        exact ⟨y, z, e2, e3, e4⟩
    have HP : Hid (∀ w, Calls Try.prog 26 #[.string t] w fun e w' => Ta ([p, q], 0) e w' ∧ Below w.heap.size w w') := Lib.hid fun w => by
      have := t_Parts t w ht
      rw [show parts t.data.toList = (pts t.data.toList, 0) by unfold pts parts; rw [if_pos hr], hpq] at this
      exact this
    rw [hk] at HK
    have hvv : v = (decide (p.headD 0 = 116) && decide (q.headD 0 = 97)) := by
      rw [← hv]
      unfold isLeaf
      rw [hk, hpq]
      rfl
    have hkp := kind_right hp
    have hkq := kind_right hq
    have b1 := (p.headD 0).toNat_lt
    have b2 := (q.headD 0).toNat_lt
    have hvv2 : v = (decide (kind p = 116) && decide (kind q = 97)) := by
      rw [hvv, hkp, hkq]
      congr 1
      · exact decide_eq_decide.2 ⟨fun h => by rw [h]; rfl, fun h => UInt8.toNat_inj.1 h⟩
      · exact decide_eq_decide.2 ⟨fun h => by rw [h]; rfl, fun h => UInt8.toNat_inj.1 h⟩
    clear hv hk hr hh hpq hvv b1 b2 hkp hkq
    have HPR := Lib.hid (right_len hp)
    have HQR := Lib.hid (right_len hq)
    clear hp hq
    go_enter Try.func33, Try.ntmps33
    go_wp2_with fail
    with_reducible refine (HK.out _).mono ?_
    rintro e w1 ⟨rfl, hb1⟩
    dsimp only
    go_wp2_with fail
    with_reducible refine (HP.out _).mono ?_
    rintro e w2 ⟨⟨A, cc, ys, hys, hlc, hsr, rfl⟩, hb2⟩
    have HB1 := Lib.hid (belc hb1 hb2)
    obtain ⟨PA, PB, rfl, hPA, hPB⟩ := bl_two hys
    obtain ⟨g2, off, rfl, hg1, l0, l1⟩ := two_reads hsr
    have HKA := Lib.hid fun w => t_Kind PA w (by rw [Lib.size_eq, hPA]; have := HPR.out; omega)
    have HKB := Lib.hid fun w => t_Kind PB w (by rw [Lib.size_eq, hPB]; have := HQR.out; omega)
    rw [hPA] at HKA
    rw [hPB] at HKB
    obtain ⟨ka, hka⟩ : ∃ k, kind p = k := ⟨_, rfl⟩
    obtain ⟨kb, hkb⟩ : ∃ k, kind q = k := ⟨_, rfl⟩
    rw [hka] at HKA hvv2
    rw [hkb] at HKB hvv2
    have HG := Lib.hid hg1
    have H1 := Lib.hid l1
    clear hb1 hb2 hys hlc hsr hka hkb hPA hPB
    dsimp only
    go_wp2_with fail
    with_reducible refine (HKA.out _).mono ?_
    rintro e w3 ⟨rfl, hb3⟩
    have l1' := (hb3.cell (p := ⟨g2, off + 1, none⟩) HG.out).trans H1.out
    have HB3 := Lib.hid (belc HB1.out hb3)
    clear hb3 l1 l0 hg1
    dsimp only
    by_cases e1 : ka = 116
    · subst e1
      have c1 : (((116 : Nat) : Int) == 116) = true := rfl
      go_wp2_with fail
      with_reducible refine (HKB.out _).mono ?_
      rintro e w4 ⟨rfl, hb4⟩
      have HB4 := Lib.hid (belc HB3.out hb4)
      clear hb4
      dsimp only
      by_cases e2 : kb = 97
      · subst e2
        have c2 : (((97 : Nat) : Int) == 97) = true := rfl
        obtain rfl : v = true := hvv2
        go_wp2
        go_ret
        exact ⟨rfl, HB4.out⟩
      · have c2 : ((kb : Int) == 97) = false := by rw [beq_eq_false_iff_ne]; omega
        obtain rfl : v = false := by rw [hvv2, decide_eq_false e2]; rfl
        clear hvv2
        go_wp2
        go_ret
        exact ⟨rfl, HB4.out⟩
    · have c1 : ((ka : Int) == 116) = false := by rw [beq_eq_false_iff_ne]; omega
      obtain rfl : v = false := by rw [hvv2, decide_eq_false e1]; rfl
      clear hvv2
      go_wp2
      go_ret
      exact ⟨rfl, HB3.out⟩
  · obtain rfl : v = false := by rw [← hv]; unfold isLeaf; rw [decide_eq_false hk]; rfl
    obtain ⟨k, hkk⟩ : ∃ k, kind t.data.toList = k := ⟨_, rfl⟩
    rw [hkk] at HK hk
    have c1 : ((k : Int) == 112) = false := by rw [beq_eq_false_iff_ne]; omega
    have c2 : ((k : Int) != 112) = true := by simp [bne, c1]
    clear hv hkk
    go_enter Try.func33, Try.ntmps33
    go_wp2_with fail
    with_reducible refine (HK.out _).mono ?_
    rintro e w1 ⟨rfl, hb1⟩
    dsimp only
    go_wp2
    go_ret
    exact ⟨rfl, hb1⟩
end Go.Proofs.Ytblgcpopcgnncaa.Tre
