/-
  MHelp. By an AI agent.
-/
import Derived.Test.YtlkgjceddbclpaaGreatEZ
import Derived.Laws.AppendOwnNone
import Derived.Test.YtlkgjceddbclpaaGreatEMConst
import Derived.Test.YtlkgjceddbclpaaGreatEMMem
import Derived.Test.YtlkgjceddbclpaaGreatED1
import Derived.Test.YtlkgjceddbclpaaGreatEH1
namespace Go.Proofs.YtlkgjceddbclpaaGreat.Mta
open Go.RowKit Wire Term Rig Draw

set_option linter.unusedSimpArgs false
set_option maxHeartbeats 2000000 in
set_option maxRecDepth 1000000 in
theorem secretOf_any (s : ByteArray) (w : World) (hs : s.size ≤ 12) : Calls Tryz.prog 14 #[.string s] w fun e w' => St (secU s.data.toList) e ∧ Below w.heap.size w w' := by
  have HS : Hid (∀ w, Calls Tryz.prog 49 #[.string ⟨#[117, 115, 101, 114]⟩, .string s, .int .u64 1] w fun e w' => Sr (secU s.data.toList, 0) e ∧ Below w.heap.size w w') := fun w => by
    have h := rsecret_any ⟨#[117, 115, 101, 114]⟩ s 1 w (by decide) (by omega) (by show 4 + s.size ≤ _; omega) (by omega)
    rw [show secret (ByteArray.mk #[117, 115, 101, 114]).data.toList s.data.toList 1 = (secU s.data.toList, 0) from secU_is (by rw [← Lib.size_eq]; exact hs)] at h
    exact h
  go_enter Tryz.func14, Tryz.ntmps14
  go_wp2_with fail
  with_reducible refine (HS.out _).mono ?_
  rintro e w1 ⟨⟨T, hT, rfl⟩, hb1⟩
  try dsimp only at hT
  have HT := zh hT
  have HB := zh hb1
  clear hT hb1
  dsimp only
  go_wp2
  go_ret
  exact ⟨⟨T, HT.out, rfl⟩, HB.out⟩
set_option maxHeartbeats 2000000 in
set_option maxRecDepth 1000000 in
theorem publicOf_any (s : ByteArray) (w : World) (hs : s.size ≤ 12) : Calls Tryz.prog 36 #[.string s] w fun e w' => St (pubU s.data.toList) e ∧ Below w.heap.size w w' := by
  have hl : s.data.toList.length ≤ 12 := by rw [← Lib.size_eq]; exact hs
  have HS := zh fun w => secretOf_any s w hs
  have HP : Hid (∀ (T : ByteArray) (w : World), T.data.toList = secU s.data.toList → Calls Tryz.prog 41 #[.string T] w fun e w' => Sr (pubU s.data.toList, 0) e ∧ Below w.heap.size w w') := fun T w hT => by
    have h := ofPublic_any T w (by rw [Lib.size_eq, hT]; have := (secU_sz hl).2; omega)
    rw [hT, pubU_is hl] at h
    exact h
  go_enter Tryz.func36, Tryz.ntmps36
  go_wp2_with fail
  with_reducible refine (HS.out _).mono ?_
  rintro e w1 ⟨⟨T, hT, rfl⟩, hb1⟩
  try dsimp only at hT
  have HT := zh hT
  have HB := zh hb1
  clear hT hb1
  dsimp only
  go_wp2_with fail
  with_reducible refine (HP.out T _ HT.out).mono ?_
  rintro e w2 ⟨⟨U, hU, rfl⟩, hb2⟩
  try dsimp only at hU
  have HU := zh hU
  have HB2 := zh (Bel.call HB.out hb2)
  clear hU hb2
  dsimp only
  go_wp2
  go_ret
  exact ⟨⟨U, HU.out, rfl⟩, HB2.out⟩
set_option maxHeartbeats 2000000 in
set_option maxRecDepth 1000000 in
theorem rootOf_any (c : Int) (w : World) (hc : -9223372036854775808 ≤ c ∧ c ≤ 9223372036854775807) : Calls Tryz.prog 15 #[.int .i64 c] w fun e w' => St (Reg.rootS (Rig.pk c 5)) e ∧ Below w.heap.size w w' := by
  have hlt := Rig.pk_lt c (n := 5) (by decide)
  obtain ⟨m, hm⟩ : ∃ m, Rig.pk c 5 = m := ⟨_, rfl⟩
  have HP : Hid (∀ w, Calls Tryz.prog 12 #[.int .i64 c, .int .i64 5] w fun e w' => e = .returned (.int .i64 (Rig.pk c 5 : Int)) ∧ w' = w) := fun w => pick7_any c 5 w hc (by decide) (by decide)
  rw [hm] at HP hlt ⊢
  have HS : Hid (∀ w, Calls Tryz.prog 49 #[.string ⟨#[114, 111, 111, 116]⟩, .string ⟨#[120]⟩, .int .u64 (m : Int)] w fun e w' => Sr (Reg.rootS m, 0) e ∧ Below w.heap.size w w') := fun w => by
    have h := rsecret_any ⟨#[114, 111, 111, 116]⟩ ⟨#[120]⟩ m w (by decide) (by decide) (by decide) (by omega)
    rw [show secret (ByteArray.mk #[114, 111, 111, 116]).data.toList (ByteArray.mk #[120]).data.toList m = (Reg.rootS m, 0) from root_is (by omega)] at h
    exact h
  have hw : IntKind.u64.wrap (m : Int) = (m : Int) := by rw [IntKind.wrap_u64]; omega
  clear hm
  go_enter Tryz.func15, Tryz.ntmps15
  go_wp2_with fail
  with_reducible refine (HP.out _).mono ?_
  rintro e w1 ⟨rfl, rfl⟩
  dsimp only
  go_wp2_with fail
  with_reducible refine (HS.out _).mono ?_
  rintro e w1 ⟨⟨T, hT, rfl⟩, hb1⟩
  try dsimp only at hT
  have HT := zh hT
  have HB := zh hb1
  clear hT hb1
  dsimp only
  go_wp2
  go_ret
  exact ⟨⟨T, HT.out, rfl⟩, HB.out⟩
theorem sgs_succ (k : Nat) : sgs (k + 1) = sgs k ++ [sgn k] := by unfold sgs; rw [List.range_succ, List.map_append]; rfl
set_option maxHeartbeats 4000000 in
set_option maxRecDepth 1000000 in
theorem signersOf_any (n : Nat) (w : World) (hn : n ≤ 40) : Calls Tryz.prog 13 #[.int .i64 (n : Int)] w fun e w' => Lst w.heap.size (sgs n) e w' ∧ Below w.heap.size w w' := by
  obtain ⟨i0, hi0, hz0, hz1, hz2⟩ := info_parts str_info
  have HS : Hid (∀ (i : Nat) (w : World), i ≤ 40 → Calls Tryz.prog 49 #[.string ⟨#[115, 105, 103, 110]⟩, .string ⟨#[120]⟩, .int .u64 (i : Int)] w fun e w' => Sr (sgn i, 0) e ∧ Below w.heap.size w w') := fun i w hi => by
    have h := rsecret_any ⟨#[115, 105, 103, 110]⟩ ⟨#[120]⟩ i w (by decide) (by decide) (by decide) (by omega)
    rw [show secret (ByteArray.mk #[115, 105, 103, 110]).data.toList (ByteArray.mk #[120]).data.toList i = (sgn i, 0) from sgn_is (by omega)] at h
    exact h
  go_enter Tryz.func13, Tryz.ntmps13
  go_wp2_with fail
  go_loopw [3, 4] (fun v i wr => ∃ (k : Nat) (V : Value), k ≤ n ∧ i = .int .i64 (k : Int) ∧ V = v ∧ Hid (Owns w (sgs k) V wr)) (fun _ i _ => n - (intOf i).toNat)
  case atStart => exact ⟨0, _, Nat.zero_le _, rfl, rfl, zh (owns_nil w (Below.refl _ _))⟩
  case round =>
    obtain ⟨k, v, hk, rfl, rfl, HO⟩ := hrel
    obtain ⟨zs, hz, hown, hbel⟩ := HO.out
    have HOW := zh hown
    have HBL := zh hbel
    have HZ := zh hz
    have hzl : zs.length = k := by
      have := congrArg List.length hz
      rw [bl_len, sgs_len] at this
      exact this
    clear hown hbel hz
    by_cases hlt : k < n
    · have hw : IntKind.u64.wrap (k : Int) = (k : Int) := by rw [IntKind.wrap_u64]; omega
      go_wp2_with fail
      with_reducible refine (HS.out k _ (by omega)).mono ?_
      rintro e w1 ⟨⟨T, hT, rfl⟩, hb1⟩
      try dsimp only at hT
      have HT := zh hT
      have HB := zh hb1
      clear hT hb1
      dsimp only
      go_wp2_with (first
        | (at_builtin
           refine wpList_append_own _ rfl _ _ _ rfl w.heap.size 9 i0 _ 1 16 Tryz.underlying25 hi0 hz0 hz1 hz2 rfl (by decide) _ zs.length (sv zs) rfl ?c1 _ 1 1 [.string T] rfl rfl ?c2 ?c3 ?c4 ?c5 ?c6 ?_
           case c1 => exact (own_below HOW.out HB.out zl).alloc _
           case c2 => exact lit_cells _ _ _
           case c3 => exact sv_one [T]
           case c4 => simp only [maxLen]; omega
           case c5 => omega
           case c6 =>
             have h := HBL.out.size
             have h2 := HB.out.size
             simp only [World.alloc, Array.size_push]
             omega
           intro v6 w6 hown hgrow _
           have HO6 := zh hown
           have HG6 := zh hgrow
           clear hown hgrow))
      go_roundw
      case rel =>
        refine ⟨k + 1, _, by omega, by go_num, rfl, zh ⟨zs ++ [T], ?_, by simpa [sv] using HO6.out, ?_⟩⟩
        · rw [sgs_succ, ← HZ.out, ← HT.out]; simp [bl]
        · have h1 := Bel.call HBL.out HB.out
          refine (h1.alloc h1.size (.cells #[.string T] 9)).grown HG6.out (by
            have := h1.size
            simp only [World.alloc, Array.size_push]
            omega) fun g hg => ?_
          exact (HOW.out.lt g hg).1
      case measure => simp [intOf]; omega
    · obtain rfl : k = n := by omega
      go_wp2
      go_ret
      exact ⟨owns_lst HO.out, HBL.out⟩
end Go.Proofs.YtlkgjceddbclpaaGreat.Mta

