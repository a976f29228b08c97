/-
  CONTRACTS of the laws' own helpers (letterlocklaw9): pick, rootOf, signerOf, verifyOf. By an AI agent; no person has read it.
-/
import Derived.Test.YtjdignbmlfbdnaaGreatQLawP
import Derived.Test.YtjdignbmlfbdnaaGreatZ9
import Derived.Test.YtjdignbmlfbdnaaGreatZA
import Derived.Test.YtjdignbmlfbdnaaGreatQCode1
namespace Go.Proofs.YtjdignbmlfbdnaaGreat.Dta
open Go.RowKit Wire Term Draw Reg Clo

set_option linter.unusedSimpArgs false
set_option linter.unusedVariables false
def pk (c : Int) (n : Nat) : Nat := (if c < 0 then (-(c + 1)).toNat else c.toNat) % n
theorem pk_lt (c : Int) {n : Nat} (hn : 0 < n) : pk c n < n := Nat.mod_lt _ hn
theorem pk_small {k n : Nat} (h : k < n) : pk (k : Int) n = k := by
  unfold pk
  rw [if_neg (by omega), show ((k : Int)).toNat = k by omega, Nat.mod_eq_of_lt h]
set_option maxHeartbeats 4000000 in
set_option maxRecDepth 1000000 in
theorem pick9_any (c : Int) (n : Nat) (w : World) (hc : -9223372036854775808 ≤ c ∧ c ≤ 9223372036854775807) (hn : 0 < n) (hn2 : n ≤ 9223372036854775807) :
    Calls Tryz.prog 17 #[.int .i64 c, .int .i64 (n : Int)] w fun e w' => e = .returned (.int .i64 (pk c n : Int)) ∧ w' = w := by
  obtain ⟨hc1, hc2⟩ := hc
  have hn0 : (0 : Int) < (n : Int) := by omega
  by_cases hneg : c < 0
  · obtain ⟨q, hq⟩ : ∃ q : Nat, c + 1 = -(q : Int) := ⟨(-(c + 1)).toNat, by omega⟩
    obtain ⟨K, hK⟩ : ∃ K : Nat, q % n = K := ⟨_, rfl⟩
    have hrem : (c + 1).tmod (n : Int) = -(K : Int) := by rw [hq, Int.neg_tmod, ← Int.ofNat_tmod, hK]
    have hpk : Hid (pk c n = K) := by
      show pk c n = K
      unfold pk
      rw [if_pos hneg, show (-(c + 1)).toNat = q by omega, hK]
    clear hq hK
    go_enter Tryz.func17, Tryz.ntmps17
    go_wp2
    go_ret
    exact ⟨by rw [hpk.out]; simp, rfl⟩
  · obtain ⟨q, hq⟩ : ∃ q : Nat, c = (q : Int) := ⟨c.toNat, by omega⟩
    obtain ⟨K, hK⟩ : ∃ K : Nat, q % n = K := ⟨_, rfl⟩
    have hrem : c.tmod (n : Int) = (K : Int) := by rw [hq, ← Int.ofNat_tmod, hK]
    have hrem2 : c % (n : Int) = (K : Int) := by rw [hq, ← Int.natCast_emod, hK]
    have hc0 : 0 ≤ c := by omega
    have hpk : Hid (pk c n = K) := by
      show pk c n = K
      unfold pk
      rw [if_neg hneg, show c.toNat = q by omega, hK]
    clear hq hK
    go_enter Tryz.func17, Tryz.ntmps17
    go_wp2
    go_ret
    exact ⟨by rw [hpk.out]; rfl, rfl⟩
set_option maxHeartbeats 4000000 in
set_option maxRecDepth 1000000 in
theorem rootOf_any (c : Int) (w : World) (hc : -9223372036854775808 ≤ c ∧ c ≤ 9223372036854775807) : Calls Tryz.prog 19 #[.int .i64 c] w fun e w' => St (rootS (pk c 5)) e ∧ Below w.heap.size w w' := by
  have hlt := pk_lt c (n := 5) (by decide)
  obtain ⟨m, hm⟩ : ∃ m, pk c 5 = m := ⟨_, rfl⟩
  have HP : Hid (∀ w, Calls Tryz.prog 17 #[.int .i64 c, .int .i64 5] w fun e w' => e = .returned (.int .i64 (pk c 5 : Int)) ∧ w' = w) := fun w => pick9_any c 5 w hc (by decide) (by decide)
  rw [hm] at HP hlt ⊢
  have HS : Hid (∀ w, Calls Tryz.prog 60 #[.string ⟨#[114, 111, 111, 116]⟩, .string ⟨#[120]⟩, .int .u64 (m : Int)] w fun e w' => Sr (rootS m, 0) e ∧ Below w.heap.size w w') := fun w => by
    have h := rsecret_any ⟨#[114, 111, 111, 116]⟩ ⟨#[120]⟩ m w (by decide) (by decide) (by decide) (by omega)
    rw [show secret (ByteArray.mk #[114, 111, 111, 116]).data.toList (ByteArray.mk #[120]).data.toList m = (rootS m, 0) from root_is (by omega)] at h
    exact h
  have hw : IntKind.u64.wrap (m : Int) = (m : Int) := by rw [IntKind.wrap_u64]; omega
  clear hm
  go_enter Tryz.func19, Tryz.ntmps19
  go_wp2_with fail
  with_reducible refine (HP.out _).mono ?_
  rintro e w1 ⟨rfl, rfl⟩
  dsimp only
  go_wp2_with fail
  with_reducible refine (HS.out _).mono ?_
  rintro e w1 ⟨⟨T, hT, rfl⟩, hb1⟩
  try dsimp only at hT
  have HT := Lib.hid hT
  have HB := Lib.hid hb1
  clear hT hb1
  dsimp only
  go_wp2
  go_ret
  exact ⟨⟨T, HT.out, rfl⟩, HB.out⟩
set_option maxHeartbeats 4000000 in
set_option maxRecDepth 1000000 in
theorem signerOf_any (i : Nat) (w : World) (hi : i ≤ 1000) : Calls Tryz.prog 24 #[.int .i64 (i : Int)] w fun e w' => St (sgn i) e ∧ Below w.heap.size w w' := by
  have HS : Hid (∀ w, Calls Tryz.prog 60 #[.string ⟨#[115, 105, 103, 110]⟩, .string ⟨#[120]⟩, .int .u64 (i : Int)] w fun e w' => Sr (sgn i, 0) e ∧ Below w.heap.size w w') := fun w => by
    have h := rsecret_any ⟨#[115, 105, 103, 110]⟩ ⟨#[120]⟩ i w (by decide) (by decide) (by decide) (by omega)
    rw [show secret (ByteArray.mk #[115, 105, 103, 110]).data.toList (ByteArray.mk #[120]).data.toList i = (sgn i, 0) from sgn_is (by omega)] at h
    exact h
  have hw : IntKind.u64.wrap (i : Int) = (i : Int) := by rw [IntKind.wrap_u64]; omega
  go_enter Tryz.func24, Tryz.ntmps24
  go_wp2_with fail
  with_reducible refine (HS.out _).mono ?_
  rintro e w1 ⟨⟨T, hT, rfl⟩, hb1⟩
  try dsimp only at hT
  have HT := Lib.hid hT
  have HB := Lib.hid hb1
  clear hT hb1
  dsimp only
  go_wp2
  go_ret
  exact ⟨⟨T, HT.out, rfl⟩, HB.out⟩
/-- A row of one's own of these texts. -/
def Owns (w0 : World) (x : List Tm) (v : Value) (wr : World) : Prop := ∃ ys : List ByteArray, bl ys = x ∧ wr.ownsRow w0.heap.size 9 1 v ys.length (sv ys) ∧ Below w0.heap.size w0 wr
theorem owns_nil (w : World) {wr : World} (h : Below w.heap.size w wr) : Owns w [] (.slice none 0 0) wr := ⟨[], rfl, World.ownsRow_nil _ _ _ _, h⟩
/-- Terms that verify, of so many epochs. -/
def Vf (m : Nat) (e : Ending) (w' : World) : Prop := ∃ (A : Option Addr) (c : Nat) (ys : List ByteArray), bl ys = sgps m ∧ ys.length = m ∧ m ≤ c ∧ SReads w' A ys ∧ (A = none → m = 0) ∧ e = .returned (.slice A ys.length c)
theorem owns_vf {w0 wr : World} {m : Nat} {v : Value} (h : Owns w0 (sgps m) v wr) : Vf m (.returned v) wr := by
  obtain ⟨ys, h1, h2, _⟩ := h
  obtain ⟨A, c, rfl⟩ := own_value h2
  obtain ⟨h3, _, h4⟩ := sreads_own h2
  have hl : ys.length = m := by
    have := congrArg List.length h1
    rw [sgps_len] at this
    simpa [bl] using this
  refine ⟨A, c, ys, h1, hl, by omega, h3, fun h => ?_, rfl⟩
  subst h
  cases hm : ys with
  | nil => rw [hm] at hl; exact hl.symm
  | cons y t =>
    obtain ⟨_, _, e, _⟩ := h3 0 (by rw [hm]; simp)
    cases e
theorem bl_len' (ys : List ByteArray) : (bl ys).length = ys.length := by simp [bl]
set_option maxHeartbeats 4000000 in
set_option maxRecDepth 1000000 in
theorem verifyOf_any (n : Nat) (w : World) (hn : n ≤ 40) : Calls Tryz.prog 26 #[.int .i64 ((n : Int) - 1)] w fun e w' => Vf n e w' ∧ Below w.heap.size w w' := by
  obtain ⟨i0, hi0, hz0, hz1, hz2⟩ := info_parts str_info
  have HS : Hid (∀ (i : Nat) (w : World), i ≤ 40 → Calls Tryz.prog 24 #[.int .i64 (i : Int)] w fun e w' => St (sgn i) e ∧ Below w.heap.size w w') := fun i w hi => signerOf_any i w (by omega)
  have HP : Hid (∀ (i : Nat) (T : ByteArray) (w : World), i ≤ 40 → T.data.toList = sgn i → Calls Tryz.prog 67 #[.string T] w fun e w' => Sr (sgp i, 0) e ∧ Below w.heap.size w w') := fun i T w hi hT => by
    have h := ofPublic_any T w (by rw [Lib.size_eq, hT]; have := (sgn_sz (i := i) (by omega)).2; omega)
    rw [hT, sgp_is (by omega)] at h
    exact h
  go_enter Tryz.func26, Tryz.ntmps26
  go_wp2_with fail
  go_loopw [3, 4] (fun v i wr => ∃ (k : Nat) (V : Value), k ≤ n ∧ i = .int .i64 (k : Int) ∧ V = v ∧ Hid (Owns w (sgps k) V wr)) (fun _ i _ => n - (intOf i).toNat)
  case atStart => exact ⟨0, _, Nat.zero_le _, rfl, rfl, Lib.hid (owns_nil w (Below.refl _ _))⟩
  case round =>
    obtain ⟨k, v, hk, rfl, rfl, HO⟩ := hrel
    obtain ⟨zs, hz, hown, hbel⟩ := HO.out
    have HOW := Lib.hid hown
    have HBL := Lib.hid hbel
    have HZ := Lib.hid hz
    have hzl : zs.length = k := by
      have := congrArg List.length hz
      rw [bl_len', sgps_len] at this
      exact this
    clear hown hbel hz
    by_cases hlt : k < n
    · go_wp2_with fail
      with_reducible refine (HS.out k _ (by omega)).mono ?_
      rintro e w2 ⟨⟨U, hU, rfl⟩, hb2⟩
      have HU := Lib.hid hU
      have HB2 := Lib.hid hb2
      clear hU hb2
      dsimp only
      go_wp2_with fail
      with_reducible refine (HP.out k U _ (by omega) HU.out).mono ?_
      rintro e w1 ⟨⟨T, hT, rfl⟩, hb1⟩
      try dsimp only at hT
      have HT := Lib.hid hT
      have HB := Lib.hid (HB2.out.trans (hb1.mono HB2.out.size))
      clear hT hb1
      dsimp only
      go_wp2_with (first
        | (at_builtin
           refine wpList_append_own _ rfl _ _ _ rfl w.heap.size 9 i0 _ 1 16 Tryz.underlying24 hi0 hz0 hz1 hz2 rfl (by decide) _ zs.length (sv zs) rfl ?c1 _ 1 1 [.string T] rfl rfl ?c2 ?c3 ?c4 ?c5 ?c6 ?_
           case c1 => exact (own_below HOW.out HB.out (Nat.le_refl _)).alloc _
           case c2 => exact lit_cells _ _ _
           case c3 => exact sv_one [T]
           case c4 => simp only [maxLen]; omega
           case c5 => omega
           case c6 =>
             have h := HBL.out.size
             have h2 := HB.out.size
             simp only [World.alloc, Array.size_push]
             omega
           intro v6 w6 hown hgrow _
           have HO6 := Lib.hid hown
           have HG6 := Lib.hid hgrow
           clear hown hgrow))
      go_roundw
      case rel =>
        refine ⟨k + 1, _, by omega, by go_num, rfl, Lib.hid ⟨zs ++ [T], ?_, by simpa [sv] using HO6.out, ?_⟩⟩
        · rw [sgps_succ, ← HZ.out, ← HT.out]; simp [bl]
        · have h1 := Bel.call HBL.out HB.out
          refine (h1.alloc h1.size (.cells #[.string T] 9)).grown HG6.out (by
            have := h1.size
            simp only [World.alloc, Array.size_push]
            omega) fun g hg => ?_
          exact (HOW.out.lt g hg).1
      case measure => simp [intOf]; omega
    · obtain rfl : k = n := by omega
      go_wp2
      go_ret
      exact ⟨owns_vf HO.out, HBL.out⟩
end Go.Proofs.YtjdignbmlfbdnaaGreat.Dta
