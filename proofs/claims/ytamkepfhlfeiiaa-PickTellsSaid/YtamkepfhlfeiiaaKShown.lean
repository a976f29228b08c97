/-
  THE CHAPTER's EXAMPLE (letterlocklaw13.shown). By an AI agent; no person has read it.
-/
import Derived.Test.YtamkepfhlfeiiaaKRef
namespace Go.Proofs.Ytamkepfhlfeiiaa.Sto
open Go Go.RowKit Wire

set_option linter.unusedSimpArgs false
set_option linter.unusedVariables false
set_option maxHeartbeats 8000000 in
set_option maxRecDepth 1000000 in
theorem shownk_any {D : DPred} (ok : StoreOK D) (pk : PickOK D) (w : World) : Calls Try.prog 8 #[] w fun e w' => e = .returned (.bool true) ∧ Below w.heap.size w w' := by
  have HOK := Lib.hid ok
  have HPK := Lib.hid pk
  go_enter Try.func8, Try.ntmps8
  go_wp2_with fail
  with_reducible refine (st_new HOK.out (Below.refl _ _)).mono ?_
  rintro e w1 ⟨aS, XS, rfl, hsS, hxS, hb1⟩
  have HB1 := Lib.hid hb1
  have HSS := Lib.hid hsS
  clear hsS hb1 hxS
  try dsimp only
  go_wp2_with fail
  with_reducible refine (st_put HOK.out HSS.out (K := ⟨#[97]⟩) (B := ⟨#[120]⟩) (k := [97]) (b := [120]) rfl rfl (by decide) (by decide)).mono ?_
  rw [show putE s0 [97] [120] = 0 by decide]
  rintro e w2 ⟨rfl, XS_1, hs, hn⟩
  have HB2 := Lib.hid hs.b
  replace HSS := Lib.hid hs
  clear hs hn
  try dsimp only
  go_wp2_with fail
  with_reducible refine (pk_get HPK.out HSS.out (K := ⟨#[97]⟩) (k := [97]) rfl (by decide) (⟨by decide, by decide, by decide, by decide⟩)).mono ?_
  rintro e w3 ⟨⟨T1, h1, rfl⟩, hb3⟩
  have HB3 := Lib.hid (bel_call HB2.out hb3)
  replace HSS := Lib.hid (HSS.out.belowK HOK.out.ks hb3)
  clear hb3
  rw [show pickG (putS s0 [97] [120]) [97] ⟨100, 0, ⟨#[]⟩, ⟨#[]⟩⟩ = ([], 4) by decide] at h1 ⊢
  clear h1
  try dsimp only
  go_wp2_with fail
  with_reducible refine (pk_get HPK.out HSS.out (K := ⟨#[97]⟩) (k := [97]) rfl (by decide) (⟨by decide, by decide, by decide, by decide⟩)).mono ?_
  rintro e w4 ⟨⟨T2, h2, rfl⟩, hb4⟩
  have HB4 := Lib.hid (bel_call HB3.out hb4)
  replace HSS := Lib.hid (HSS.out.belowK HOK.out.ks hb4)
  clear hb4
  rw [show pickG (putS s0 [97] [120]) [97] ⟨0, 0, ⟨#[]⟩, ⟨#[]⟩⟩ = ([120], 0) by decide] at h2 ⊢
  obtain rfl : T2 = ⟨#[120]⟩ := ByteArray.ext (Array.toList_inj.1 h2)
  clear h2
  try dsimp only
  go_wp2
  go_ret
  exact ⟨rfl, HB4.out⟩
end Go.Proofs.Ytamkepfhlfeiiaa.Sto
