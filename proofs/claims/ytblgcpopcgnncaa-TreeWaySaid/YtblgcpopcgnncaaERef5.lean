/-
  THE DOCUMENT's ANSWER (letterlockref10): Proof. By an AI agent; no person has read it.
-/
import Derived.Test.YtblgcpopcgnncaaERef4
namespace Go.Proofs.Ytblgcpopcgnncaa.Tre
open Go.RowKit Wire Term Draw Reg Clo

set_option linter.unusedSimpArgs false
set_option linter.unusedVariables false
/-- A row of one's own of these terms, and an error. -/
def Pb (w w' : World) (x : List Tm × Int) (e : Ending) : Prop := ∃ (v : Value) (zs : List ByteArray), bl zs = x.1 ∧ w'.ownsRow w.heap.size 9 1 v zs.length (sv zs) ∧ e = .returned (.tuple #[v, .int .i64 x.2])
theorem pb_nil (w w' : World) (f : Int) : Pb w w' ([], f) (.returned (.tuple #[.slice none 0 0, .int .i64 f])) := ⟨_, [], rfl, World.ownsRow_nil _ _ _ _, rfl⟩
set_option maxHeartbeats 4000000 in
set_option maxRecDepth 1000000 in
theorem rproof_any (i : Int) (A : Option Addr) (c : Nat) (ys : List ByteArray) (w : World) (hr : SReads w A ys) (hc : ys.length ≤ c) (hc2 : c ≤ 9223372036854775807) (hz : ∀ y ∈ ys, y.size ≤ 140737488355328) :
    Calls Try.prog 16 #[.slice A ys.length c, .int .i64 i] w fun e w' => Pb w w' (proofT (bl ys) i) e ∧ Below w.heap.size w w' := by
  have HRT := Lib.hid fun w h => rroot_any A c ys w h hc hc2 hz
  have hbl : (bl ys).length = ys.length := by simp [bl]
  generalize ho : proofT (bl ys) i = o
  unfold proofT at ho
  rw [hbl] at ho
  have hlen : (root (bl ys)).2 = 0 → 1 ≤ ys.length ∧ ys.length ≤ 8 := fun h => by
    unfold root at h
    rw [hbl] at h
    by_cases h1 : ys.length < 1 ∨ 8 < ys.length
    · rw [if_pos h1] at h; exact absurd h (show ¬ (1 : Int) = 0 by decide)
    · omega
  obtain ⟨x, f, hx⟩ : ∃ x f, root (bl ys) = (x, f) := ⟨_, _, rfl⟩
  rw [hx] at HRT ho hlen
  simp only at ho hlen
  clear hx hbl
  have HR := Lib.hid hr
  by_cases hf : f = 0
  · subst hf
    obtain ⟨n1, n8⟩ := hlen rfl
    rw [if_neg (fun h => h rfl)] at ho
    by_cases h0 : i < 0
    · rw [if_pos (.inl h0)] at ho
      have HO := Lib.hid ho
      clear ho hlen
      go_enter Try.func16, Try.ntmps16
      go_wp2_with fail
      with_reducible refine (HRT.out _ HR.out).mono ?_
      rintro e w1 ⟨⟨T, hT, rfl⟩, hb1⟩
      have HB1 := Lib.hid hb1
      have HR1 := Lib.hid (HR.out.below hb1 (Nat.le_refl _))
      clear hT hb1
      dsimp only
      go_wp2
      go_ret2
      exact ⟨by rw [← HO.out]; exact pb_nil _ _ _, HB1.out⟩
    · by_cases hi : (ys.length : Int) ≤ i
      · rw [if_pos (.inr hi)] at ho
        have HO := Lib.hid ho
        clear ho hlen
        go_enter Try.func16, Try.ntmps16
        go_wp2_with fail
        with_reducible refine (HRT.out _ HR.out).mono ?_
        rintro e w1 ⟨⟨T, hT, rfl⟩, hb1⟩
        have HB1 := Lib.hid hb1
        have HR1 := Lib.hid (HR.out.below hb1 (Nat.le_refl _))
        clear hT hb1
        dsimp only
        go_wp2
        go_ret2
        exact ⟨by rw [← HO.out]; exact pb_nil _ _ _, HB1.out⟩
      · rw [if_neg (by omega)] at ho
        obtain ⟨I, rfl⟩ : ∃ I : Nat, i = (I : Int) := ⟨i.toNat, by omega⟩
        rw [show ((I : Int)).toNat = I by omega] at ho
        have HBS := Lib.hid fun w (h : SReads w A ys) => rbeside_any 3 I A c ys w (by omega) h n1 n8 (by omega) hc hc2 hz
        have HO := Lib.hid ho
        clear ho hlen hz hr
        go_enter Try.func16, Try.ntmps16
        go_wp2_with fail
        with_reducible refine (HRT.out _ HR.out).mono ?_
        rintro e w1 ⟨⟨T, hT, rfl⟩, hb1⟩
        have HB1 := Lib.hid hb1
        have HR1 := Lib.hid (HR.out.below hb1 (Nat.le_refl _))
        clear hT hb1
        dsimp only
        go_wp2_with fail
        with_reducible refine (HBS.out _ HR1.out).mono ?_
        rintro e w2 ⟨⟨v, zs, hzs, hown, rfl⟩, hb2⟩
        have HZ := Lib.hid hzs
        have HW := Lib.hid (own_low hown HB1.out.size)
        have HB2 := Lib.hid (belc HB1.out hb2)
        clear hzs hown hb2
        dsimp only
        go_wp2
        go_ret2
        exact ⟨by rw [← HO.out]; exact ⟨v, zs, HZ.out, HW.out, rfl⟩, HB2.out⟩
  · rw [if_pos hf] at ho
    have HO := Lib.hid ho
    have hb1 : (f == 0) = false := by simpa using hf
    have hb2 : (f != 0) = true := by simpa using hf
    clear ho hf hlen
    go_enter Try.func16, Try.ntmps16
    go_wp2_with fail
    with_reducible refine (HRT.out _ HR.out).mono ?_
    rintro e w1 ⟨⟨T, hT, rfl⟩, hb1⟩
    have HB1 := Lib.hid hb1
    have HR1 := Lib.hid (HR.out.below hb1 (Nat.le_refl _))
    clear hT hb1
    dsimp only
    go_wp2
    go_ret2
    exact ⟨by rw [← HO.out]; exact pb_nil _ _ _, HB1.out⟩
end Go.Proofs.Ytblgcpopcgnncaa.Tre
