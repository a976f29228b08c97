/-
  THE CHAPTER's EXAMPLE (letterlocklaw11.shown). By an AI agent; no person has read it.
-/
import Derived.Test.YtmmeklemaofmjaaGreatFTo
namespace Go.Proofs.YtmmeklemaofmjaaGreat.Frs
open Go Go.RowKit Wire Term Draw Reg Clo

set_option linter.unusedSimpArgs false
set_option linter.unusedVariables false
set_option maxHeartbeats 8000000 in
set_option maxRecDepth 1000000 in
theorem shown_any (w : World) : Calls Tryz.prog 4 #[] w fun e w' => e = .returned (.bool true) ∧ Below w.heap.size w w' := by
  have HTK : Hid (∀ w, Calls Tryz.prog 11 #[.string ⟨#[]⟩] w fun e w' => Ss (szero, 2) e ∧ Below w.heap.size w w') := Lib.hid fun w => take_to take_nil rfl (by decide) w
  obtain ⟨O, hO⟩ : ∃ O : ByteArray, O = ⟨#[97, 110, 110, 97]⟩ := ⟨_, rfl⟩
  obtain ⟨R, G, hM⟩ := made_is (O := O) (t := 5) (l := []) (by rw [hO]; decide +kernel) (by rw [hO]; decide) (by decide) (by decide) (fun t h => by cases h)
  obtain ⟨K, hK⟩ := letter_is (secU O.data.toList)
  obtain ⟨P, hP⟩ := letter_is (pubU O.data.toList)
  have HS := Lib.hid fun w => sec_to (s := O) (by rw [hO]; decide) hK w
  have HP := Lib.hid fun w => pub_to (s := O) (by rw [hO]; decide) hP w
  have HBD : Hid (∀ w, Calls Tryz.prog 7 #[.string K, .string O, .int .u64 5, .slice none 0 0] w fun e w' => e = .returned (.tuple #[.agg #[.string O, .int .u64 5, .int .i64 0, .string R, .string G], .int .i64 0]) ∧ Below w.heap.size w w') := Lib.hid fun w => build_to hM hK (ys := []) rfl (fun t h => by cases h) ⟨Nat.le_refl _, by decide⟩ w (SReads.nil _ _)
  have HC : Hid (∀ w, Calls Tryz.prog 15 #[.agg #[.string O, .int .u64 5, .int .i64 0, .string R, .string G], .string P, .string O, .int .u64 6, .int .u64 1] w fun e w' => e = .returned (.int .i64 0) ∧ Below w.heap.size w w') := Lib.hid fun w => mix_to hM (t' := 5) (n' := 0) (R' := R) hM.ok (by decide) hM.few hP (now := 6) (bound := 1) (by decide) (by decide) (by rw [if_pos ⟨rfl, rfl, rfl, rfl⟩, if_neg (fun h => h rfl), if_neg (by decide)]) w
  subst hO
  clear hM hK hP
  go_enter Tryz.func4, Tryz.ntmps4
  go_wp2_with fail
  with_reducible refine (HTK.out _).mono ?_
  rintro e w1 ⟨hx, hb1⟩
  have HB1 := Lib.hid hb1
  clear hb1
  obtain rfl := ss_zero hx
  clear hx
  try dsimp only
  go_wp2_with fail
  have hbS : Below w1.heap.size w1 (w1.alloc (.cells #[.string ⟨#[]⟩, .int .u64 0, .int .i64 0, .string ⟨#[]⟩, .string ⟨#[]⟩] 24)) := (Below.refl w1.heap.size w1).alloc (Nat.le_refl _) _
  have hxS := c5_new w1 (.string ⟨#[]⟩) (.int .u64 0) (.int .i64 0) (.string ⟨#[]⟩) (.string ⟨#[]⟩) 24
  generalize w1.alloc (.cells #[.string ⟨#[]⟩, .int .u64 0, .int .i64 0, .string ⟨#[]⟩, .string ⟨#[]⟩] 24) = wSQ at hbS hxS ⊢
  have HB2 := Lib.hid (Bel.call HB1.out hbS)
  have HXQ := Lib.hid hxS
  clear hbS hxS
  with_reducible refine (HS.out _).mono ?_
  rintro e w3 ⟨rfl, hb3⟩
  have HB3 := Lib.hid (Bel.call HB2.out hb3)
  replace HXQ := Lib.hid (HXQ.out.below hb3)
  clear hb3
  try dsimp only
  go_wp2_with fail
  with_reducible refine (HBD.out _).mono ?_
  rintro e w4 ⟨rfl, hb4⟩
  have HB4 := Lib.hid (Bel.call HB3.out hb4)
  replace HXQ := Lib.hid (HXQ.out.below hb4)
  clear hb4
  try dsimp only
  go_wp2_with fail
  have hbS : Below w4.heap.size w4 (w4.alloc (.cells #[.string ⟨#[97, 110, 110, 97]⟩, .int .u64 5, .int .i64 0, .string R, .string G] 24)) := (Below.refl w4.heap.size w4).alloc (Nat.le_refl _) _
  have hxS := c5_new w4 (.string ⟨#[97, 110, 110, 97]⟩) (.int .u64 5) (.int .i64 0) (.string R) (.string G) 24
  generalize w4.alloc (.cells #[.string ⟨#[97, 110, 110, 97]⟩, .int .u64 5, .int .i64 0, .string R, .string G] 24) = wSS at hbS hxS ⊢
  have HB5 := Lib.hid (Bel.call HB4.out hbS)
  replace HXQ := Lib.hid (HXQ.out.below hbS)
  have HXS := Lib.hid hxS
  clear hbS hxS
  have hdr : C5 w1.heap.size wSS.drew (.string ⟨#[]⟩) (.int .u64 0) (.int .i64 0) (.string ⟨#[]⟩) (.string ⟨#[]⟩) ∧ C5 w4.heap.size wSS.drew (.string ⟨#[97, 110, 110, 97]⟩) (.int .u64 5) (.int .i64 0) (.string R) (.string G) ∧ Below wSS.heap.size wSS wSS.drew := ⟨HXQ.out.below (Below.drewN' (Below.refl wSS.heap.size wSS) 1), HXS.out.below (Below.drewN' (Below.refl wSS.heap.size wSS) 1), (Below.drewN' (Below.refl wSS.heap.size wSS) 1)⟩
  refine Ord.region_lit (S := fun w' => C5 w1.heap.size w' (.string ⟨#[]⟩) (.int .u64 0) (.int .i64 0) (.string ⟨#[]⟩) (.string ⟨#[]⟩) ∧ C5 w4.heap.size w' (.string ⟨#[97, 110, 110, 97]⟩) (.int .u64 5) (.int .i64 0) (.string R) (.string G) ∧ Below wSS.heap.size wSS w') (by kernel_rfl) (by kernel_rfl) hdr ?_
  clear hdr
  refine Ord.stepR (v := ?_) (by rfl) ?_ ?_
  rotate_left
  · intro w' hSw
    go_simp
    try with_reducible rfl
  try simp only [Act.put, List.setIfInBounds_toArray, List.set_cons_zero, List.set_cons_succ]
  refine Ord.stepR (v := ?_) (by rfl) ?_ ?_
  rotate_left
  · intro w' hSw
    go_simp
    try with_reducible rfl
  try simp only [Act.put, List.setIfInBounds_toArray, List.set_cons_zero, List.set_cons_succ]
  refine Ord.stepR (v := ?_) (by rfl) ?_ ?_
  rotate_left
  · intro w' hSw
    go_simp
    try with_reducible rfl
  try simp only [Act.put, List.setIfInBounds_toArray, List.set_cons_zero, List.set_cons_succ]
  refine Ord.stepR (v := ?_) (by rfl) ?_ ?_
  rotate_left
  · intro w' hSw
    go_simp
    try with_reducible rfl
  try simp only [Act.put, List.setIfInBounds_toArray, List.set_cons_zero, List.set_cons_succ]
  refine Ord.stepR (v := ?_) (by rfl) ?_ ?_
  rotate_left
  · intro w' hSw
    go_simp
    try with_reducible rfl
  try simp only [Act.put, List.setIfInBounds_toArray, List.set_cons_zero, List.set_cons_succ]
  refine Ord.stepR (v := ?_) (by rfl) ?_ ?_
  rotate_left
  · intro w' hSw
    go_simp
    try with_reducible rfl
  try simp only [Act.put, List.setIfInBounds_toArray, List.set_cons_zero, List.set_cons_succ]
  refine Ord.stepR (v := ?_) (by rfl) ?_ ?_
  rotate_left
  · intro w' hSw
    go_simp
    try with_reducible rfl
  try simp only [Act.put, List.setIfInBounds_toArray, List.set_cons_zero, List.set_cons_succ]
  refine Ord.stepR (v := ?_) (by rfl) ?_ ?_
  rotate_left
  · intro w' hSw
    obtain ⟨⟨_, q00, q01, q02, q03, q04⟩, _⟩ := hSw.1
    obtain ⟨⟨_, q10, q11, q12, q13, q14⟩, _⟩ := hSw.2.1
    go_simp
    try with_reducible rfl
  try simp only [Act.put, List.setIfInBounds_toArray, List.set_cons_zero, List.set_cons_succ]
  refine Ord.stepC (v := .string P) (by rfl) ?_ (fun w1 hS => (HP.out w1).mono fun e w2 h => ⟨h.1, ⟨hS.1.below (h.2), hS.2.1.below (h.2), hS.2.2.trans ((h.2).mono hS.2.2.size)⟩⟩) ?_
  · intro w' hSw
    go_simp
    try with_reducible rfl
  try simp only [Act.put, List.setIfInBounds_toArray, List.set_cons_zero, List.set_cons_succ]
  refine Ord.stepC (v := .int .i64 0) (by rfl) ?_ (fun w1 hS => (HC.out w1).mono fun e w2 h => ⟨h.1, ⟨hS.1.below (h.2), hS.2.1.below (h.2), hS.2.2.trans ((h.2).mono hS.2.2.size)⟩⟩) ?_
  · intro w' hSw
    go_simp
    try with_reducible rfl
  try simp only [Act.put, List.setIfInBounds_toArray, List.set_cons_zero, List.set_cons_succ]
  refine Ord.stepR (v := ?_) (by rfl) ?_ ?_
  rotate_left
  · intro w' hSw
    go_simp
    try with_reducible rfl
  try simp only [Act.put, List.setIfInBounds_toArray, List.set_cons_zero, List.set_cons_succ]
  refine Ord.stepR (v := ?_) (by rfl) ?_ ?_
  rotate_left
  · intro w' hSw
    go_simp
    try with_reducible rfl
  try simp only [Act.put, List.setIfInBounds_toArray, List.set_cons_zero, List.set_cons_succ]
  refine Ord.stepR (v := ?_) (by rfl) ?_ ?_
  rotate_left
  · intro w' hSw
    go_simp
    try with_reducible rfl
  try simp only [Act.put, List.setIfInBounds_toArray, List.set_cons_zero, List.set_cons_succ]
  refine Ord.stepD fun Z1 hZ => ?_
  replace HXQ := Lib.hid hZ.1
  replace HXS := Lib.hid hZ.2.1
  have HB6 := Lib.hid (Bel.call HB5.out hZ.2.2)
  clear hZ
  go_wp2
  go_ret
  exact ⟨rfl, HB6.out⟩
end Go.Proofs.YtmmeklemaofmjaaGreat.Frs
