/-
  THE CHAPTER's EXAMPLE (letterlocklaw12.shown). By an AI agent; no person has read it.
-/
import Derived.Test.YtfeochpjjbnckaaSHelp
namespace Go.Proofs.Ytfeochpjjbnckaa.Sto
open Go Go.RowKit Wire

set_option linter.unusedSimpArgs false
set_option linter.unusedVariables false
theorem lit2_reads (w : World) (A B : ByteArray) (g : Nat) (hg : g = w.heap.size) : SReads (w.alloc (.cells #[.string A, .string B] 9)) (some ⟨g, 0, none⟩) [A, B] := fun j hj => by
  subst hg
  refine ⟨w.heap.size, 0, rfl, by simp, ?_⟩
  have : j = 0 ∨ j = 1 := by simp only [List.length_cons, List.length_nil] at hj; omega
  rcases this with rfl | rfl <;> simp [go_sem]
set_option maxHeartbeats 8000000 in
set_option maxRecDepth 1000000 in
theorem shown_any {D : DPred} (ok : StoreOK D) (w : World) : Calls Try.prog 8 #[] w fun e w' => e = .returned (.bool true) ∧ Below w.heap.size w w' := by
  have HOK := Lib.hid ok
  go_enter Try.func8, Try.ntmps8
  go_wp2_with fail
  with_reducible refine (st_new HOK.out (Below.refl _ _)).mono ?_
  rintro e w1 ⟨aS, XS, rfl, hsS, hxS, hb1⟩
  have HB1 := Lib.hid hb1
  have HSS := Lib.hid hsS
  clear hsS hb1 hxS
  try dsimp only
  go_wp2_with fail
  with_reducible refine (st_put HOK.out HSS.out (K := ⟨#[97]⟩) (B := ⟨#[120]⟩) (k := [97]) (b := [120]) rfl rfl (by decide) (by decide)).mono ?_
  rw [show putE s0 [97] [120] = 0 by decide]
  rintro e w2 ⟨rfl, XS_1, hs, hn⟩
  have HB2 := Lib.hid hs.b
  replace HSS := Lib.hid hs
  clear hs hn
  try dsimp only
  go_wp2_with fail
  with_reducible refine (st_put HOK.out HSS.out (K := ⟨#[97]⟩) (B := ⟨#[121]⟩) (k := [97]) (b := [121]) rfl rfl (by decide) (by decide)).mono ?_
  rw [show putE (putS s0 [97] [120]) [97] [121] = 0 by decide]
  rintro e w3 ⟨rfl, XS_2, hs, hn⟩
  have HB3 := Lib.hid hs.b
  replace HSS := Lib.hid hs
  clear hs hn
  try dsimp only
  go_wp2_with fail
  with_reducible refine (st_del HOK.out HSS.out (K := ⟨#[97]⟩) (k := [97]) rfl (by decide)).mono ?_
  rw [show delE (putS (putS s0 [97] [120]) [97] [121]) [97] = 0 by decide]
  rintro e w4 ⟨rfl, XS_3, hs, hn⟩
  have HB4 := Lib.hid hs.b
  replace HSS := Lib.hid hs
  clear hs hn
  try dsimp only
  go_wp2_with fail
  with_reducible refine (st_vers HOK.out HSS.out (K := ⟨#[97]⟩) (k := [97]) rfl (by decide)).mono ?_
  rintro e w5 ⟨hx, hb5⟩
  have HB5 := Lib.hid (bel_call HB4.out hb5)
  replace HSS := Lib.hid (HSS.out.below HOK.out hb5)
  clear hb5
  obtain ⟨AV, cV, YV, hq, hc, hr, ho, rfl⟩ := hx
  have HQV := Lib.hid hq
  have HCV := Lib.hid hc
  have HRV : Hid (RowO _ _ _ AV YV) := Lib.hid ⟨hr, ho⟩
  clear hq hc hr ho
  try dsimp only
  have hqv := HQV.out
  rw [show (delS (putS (putS s0 [97] [120]) [97] [121]) [97]).ver [97] = [[120], [121]] by decide] at hqv
  go_wp2_with fail
  have hrow := lit2_reads w5 ⟨#[120]⟩ ⟨#[121]⟩ w5.heap.size rfl
  have hbA : Below w5.heap.size w5 (w5.alloc (.cells #[.string ⟨#[120]⟩, .string ⟨#[121]⟩] 9)) := (Below.refl w5.heap.size w5).alloc (Nat.le_refl _) _
  generalize w5.alloc (.cells #[.string ⟨#[120]⟩, .string ⟨#[121]⟩] 9) = wa at hrow hbA ⊢
  have HB6 := Lib.hid (bel_call HB5.out hbA)
  replace HSS := Lib.hid (HSS.out.below HOK.out hbA)
  replace HRV := Lib.hid (HRV.out.below hbA)
  clear hbA
  have hln : YV.length = 2 := by have := congrArg List.length hqv; rw [bl_len] at this; exact this
  have HSM : Hid (Calls Try.prog 19 #[.slice AV YV.length cV, .slice (some ⟨w5.heap.size, 0, none⟩) 2 2] wa fun e w' => e = .returned (.bool true) ∧ Below wa.heap.size wa w') := Lib.hid (by
    have := same_any AV (some ⟨w5.heap.size, 0, none⟩) cV 2 YV [⟨#[120]⟩, ⟨#[121]⟩] wa HRV.out.r hrow (by omega)
    rw [hqv, show decide (([[120], [121]] : List (List UInt8)) = bl [⟨#[120]⟩, ⟨#[121]⟩]) = true by decide] at this
    exact this)
  clear hln hqv hrow
  with_reducible refine (HSM.out).mono ?_
  rintro e w7 ⟨rfl, hb7⟩
  have HB7 := Lib.hid (bel_call HB6.out hb7)
  replace HSS := Lib.hid (HSS.out.below HOK.out hb7)
  replace HRV := Lib.hid (HRV.out.below hb7)
  clear hb7
  try dsimp only
  go_wp2
  go_ret
  exact ⟨rfl, HB7.out⟩
end Go.Proofs.Ytfeochpjjbnckaa.Sto
