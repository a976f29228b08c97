/-
  CONTRACTS of the laws' own helpers (letterlocklaw11): secretOf, publicOf. By an AI agent; no person has read it.
-/
import Derived.Test.YtmmeklemaofmjaaGreatP9
import Derived.Test.YtmmeklemaofmjaaGreatP5
import Derived.Test.YtmmeklemaofmjaaGreatP3
namespace Go.Proofs.YtmmeklemaofmjaaGreat.Frs
open Go Go.RowKit Wire Term Draw Reg Clo

set_option linter.unusedSimpArgs false
set_option linter.unusedVariables false
set_option maxHeartbeats 2000000 in
set_option maxRecDepth 1000000 in
theorem secretOf_any (s : ByteArray) (w : World) (hs : s.size ≤ 12) : Calls Tryz.prog 19 #[.string s] w fun e w' => St (secU s.data.toList) e ∧ Below w.heap.size w w' := by
  have HS : Hid (∀ w, Calls Tryz.prog 46 #[.string ⟨#[117, 115, 101, 114]⟩, .string s, .int .u64 1] w fun e w' => Sr (secU s.data.toList, 0) e ∧ Below w.heap.size w w') := fun w => by
    have h := rsecret_any ⟨#[117, 115, 101, 114]⟩ s 1 w (by decide) (by omega) (by show 4 + s.size ≤ _; omega) (by omega)
    rw [show secret (ByteArray.mk #[117, 115, 101, 114]).data.toList s.data.toList 1 = (secU s.data.toList, 0) from secU_is (by rw [← Lib.size_eq]; exact hs)] at h
    exact h
  go_enter Tryz.func19, Tryz.ntmps19
  go_wp2_with fail
  with_reducible refine (HS.out _).mono ?_
  rintro e w1 ⟨⟨T, hT, rfl⟩, hb1⟩
  try dsimp only at hT
  have HT := Lib.hid hT
  have HB := Lib.hid hb1
  clear hT hb1
  dsimp only
  go_wp2
  go_ret
  exact ⟨⟨T, HT.out, rfl⟩, HB.out⟩
set_option maxHeartbeats 2000000 in
set_option maxRecDepth 1000000 in
theorem publicOf_any (s : ByteArray) (w : World) (hs : s.size ≤ 12) : Calls Tryz.prog 20 #[.string s] w fun e w' => St (pubU s.data.toList) e ∧ Below w.heap.size w w' := by
  have hl : s.data.toList.length ≤ 12 := by rw [← Lib.size_eq]; exact hs
  have HS := Lib.hid fun w => secretOf_any s w hs
  have HP : Hid (∀ (T : ByteArray) (w : World), T.data.toList = secU s.data.toList → Calls Tryz.prog 47 #[.string T] w fun e w' => Sr (pubU s.data.toList, 0) e ∧ Below w.heap.size w w') := fun T w hT => by
    have h := ofPublic_any T w (by rw [Lib.size_eq, hT]; have := (secU_sz hl).2; omega)
    rw [hT, pubU_is hl] at h
    exact h
  go_enter Tryz.func20, Tryz.ntmps20
  go_wp2_with fail
  with_reducible refine (HS.out _).mono ?_
  rintro e w1 ⟨⟨T, hT, rfl⟩, hb1⟩
  try dsimp only at hT
  have HT := Lib.hid hT
  have HB := Lib.hid hb1
  clear hT hb1
  dsimp only
  go_wp2_with fail
  with_reducible refine (HP.out T _ HT.out).mono ?_
  rintro e w2 ⟨⟨U, hU, rfl⟩, hb2⟩
  try dsimp only at hU
  have HU := Lib.hid hU
  have HB2 := Lib.hid (Bel.call HB.out hb2)
  clear hU hb2
  dsimp only
  go_wp2
  go_ret
  exact ⟨⟨U, HU.out, rfl⟩, HB2.out⟩
end Go.Proofs.YtmmeklemaofmjaaGreat.Frs
