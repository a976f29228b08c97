/-
  A STORE OF BOTH SIDES (letterlocklaw13.filled). By an AI agent; no person has read it.
-/
import Derived.Test.YtamkepfhlfeiiaaKShown
namespace Go.Proofs.Ytamkepfhlfeiiaa.Sto
open Go Go.RowKit Wire

set_option linter.unusedSimpArgs false
set_option linter.unusedVariables false
set_option maxHeartbeats 8000000 in
set_option maxRecDepth 1000000 in
theorem filled_any {D : DPred} (ok : StoreOK D) (A : Option Addr) (c n : Nat) (Z : Nat → Pu) (w : World) (hr : PReads w A n Z) (hn : n ≤ 9223372036854775807) : Calls Try.prog 10 #[.slice A n c] w fun e w' => ∃ (a b : Addr) (X Y : Nat → Prop) (s : Stt), e = .returned (.tuple #[.pointer (some a), .pointer (some b)]) ∧ Sts D w w' a X s ∧ Sts DR w w' b Y s ∧ (∀ g, X g → ¬ Y g) := by
  have HOK := Lib.hid ok
  have HR := Lib.hid hr
  clear hr
  go_enter Try.func10, Try.ntmps10
  go_wp2_with fail
  with_reducible refine (st_new HOK.out (Below.refl _ _)).mono ?_
  rintro e w1 ⟨aA, XA, rfl, hsA, hxA, hb1⟩
  have HB1 := Lib.hid hb1
  have HSA := Lib.hid hsA
  clear hsA hb1 hxA
  try dsimp only
  go_wp2_with fail
  with_reducible refine (sr_new HB1.out).mono ?_
  rintro e w2 ⟨aB, XB, rfl, hsB, hxB, hb2⟩
  have HDAB : Hid (∀ g, XA g → ¬ XB g) := Lib.hid fun g h1 h2 => by have h3 := HOK.out.ks.old HSA.out.d g h1; have h4 := hxB g h2; omega
  have HB2 := Lib.hid (bel_call HB1.out hb2)
  replace HSA := Lib.hid (HSA.out.belowK HOK.out.ks hb2)
  have HSB := Lib.hid hsB
  clear hsB hb2 hxB
  try dsimp only
  go_wp2_with fail
  go_loopw [6] (fun i wr => ∃ (k : Nat) (X Y : Nat → Prop) (t : Stt), k ≤ n ∧ k ≤ 60 ∧ i = .int .i64 k ∧ Hid (Sts D w wr aA X t) ∧ Hid (Sts DR w wr aB Y t) ∧ Hid (∀ g, X g → ¬ Y g)) (fun i _ => n - (intOf i).toNat)
  case atStart => exact ⟨0, XA, XB, s0, Nat.zero_le _, Nat.zero_le _, rfl, HSA, HSB, HDAB⟩
  case round =>
    obtain ⟨k, X, Y, t, hk, hk6, rfl, HSA, HSB, HDAB⟩ := hrel
    have HB1 := Lib.hid HSA.out.b
    by_cases hlt : k < n ∧ k < 60
    · obtain ⟨hlt, h60⟩ := hlt
      have hki : (k : Int) < (n : Int) := by omega
      have hk60 : (k : Int) < 60 := by omega
      have hk0 : (0 : Int) ≤ (k : Int) := Int.natCast_nonneg k
      obtain ⟨b, off, rfl, hblt, ⟨c0, c1, c2⟩, hz⟩ := HR.out k hlt
      obtain ⟨za, hza⟩ : ∃ z, Z k = z := ⟨_, rfl⟩
      rw [hza] at c0 c1 c2 hz
      obtain ⟨zk, zB, zg⟩ := za
      obtain ⟨hz1, hz2⟩ := hz
      simp only at c0 c1 c2 hz1 hz2
      clear hza
      have HC : Hid (∀ w1, Below w.heap.size w w1 → w1.cell? ⟨b, off + k * 3, none⟩ = some (.int .i64 zk) ∧ w1.cell? ⟨b, off + k * 3 + 1, none⟩ = some (.string zB) ∧ w1.cell? ⟨b, off + k * 3 + 2, none⟩ = some (.bool zg)) := Lib.hid fun w1 h1 => ⟨(h1.cell (p := ⟨b, _, none⟩) hblt).trans c0, (h1.cell (p := ⟨b, _, none⟩) hblt).trans c1, (h1.cell (p := ⟨b, _, none⟩) hblt).trans c2⟩
      clear c0 c1 c2
      have HW : Hid (∀ w, Calls Try.prog 21 #[.int .i64 zk, .int .i64 4] w fun e w' => e = .returned (.int .i64 (pk zk 4 : Int)) ∧ w' = w) := Lib.hid fun w => which_any zk 4 w hz1 (by decide) (by decide)
      have hp4 := pk_lt zk (n := 4) (by decide)
      generalize pk zk 4 = p4 at HW hp4
      have HK : Hid (∀ w, Calls Try.prog 11 #[.int .i64 (p4 : Int)] w fun e w' => e = .returned (.string (kyN (p4 : Int))) ∧ Below w.heap.size w w') := Lib.hid fun w => keys_any (p4 : Int) (by omega) w
      have hks := kyN_small (p4 : Int)
      generalize kyN (p4 : Int) = K at HK hks
      have hkz : K.size ≤ 140737488351232 := by omega
      obtain ⟨c0, c1, c2⟩ := HC.out _ HB1.out
      go_wp2_with fail
      with_reducible refine (HW.out _).mono ?_
      rintro e v1 ⟨rfl, hv1⟩
      obtain rfl : wr = v1 := hv1.symm
      dsimp only
      clear c0 c1 c2
      go_wp2_with fail
      with_reducible refine (HK.out _).mono ?_
      rintro e w2 ⟨rfl, hb2⟩
      have HB2 := Lib.hid (bel_call HB1.out hb2)
      replace HSA := Lib.hid (HSA.out.belowK HOK.out.ks hb2)
      replace HSB := Lib.hid (HSB.out.belowK drk hb2)
      clear hb2
      try dsimp only
      obtain ⟨c0, c1, c2⟩ := HC.out _ HB2.out
      cases zg
      · go_wp2_with fail
        clear c0 c1 c2
        with_reducible refine (st_put HOK.out HSA.out (k := K.data.toList) (b := zB.data.toList) rfl rfl hkz hz2).mono ?_
        rintro e w3 ⟨rfl, XA_1, hs, hn⟩
        have HB3 := Lib.hid hs.b
        obtain ⟨hy1, hy2⟩ := Sts.besideK drk HSB.out HSA.out hn (fun g h1 h2 => HDAB.out g h2 h1)
        replace HDAB : Hid (∀ g, XA_1 g → ¬ Y g) := Lib.hid fun g h1 h2 => hy2 g h2 h1
        replace HSB := Lib.hid hy1
        clear hy1 hy2
        replace HSA := Lib.hid hs
        clear hs hn
        try dsimp only
        obtain ⟨c0, c1, c2⟩ := HC.out _ HB3.out
        go_wp2_with fail
        clear c0 c1 c2
        with_reducible refine (sr_put HSB.out (k := K.data.toList) (b := zB.data.toList) rfl rfl hkz hz2).mono ?_
        rintro e w4 ⟨rfl, XB_2, hs, hn⟩
        have HB4 := Lib.hid hs.b
        obtain ⟨hy1, hy2⟩ := Sts.besideK HOK.out.ks HSA.out HSB.out hn HDAB.out
        replace HDAB := Lib.hid hy2
        replace HSA := Lib.hid hy1
        clear hy1 hy2
        replace HSB := Lib.hid hs
        clear hs hn
        try dsimp only
        go_wp2
        go_roundw
        case rel => exact ⟨k + 1, _, _, _, by omega, by omega, by go_num, HSA, HSB, HDAB⟩
        case measure => simp [intOf]; omega
      · go_wp2_with fail
        clear c0 c1 c2
        with_reducible refine (st_del HOK.out HSA.out (k := K.data.toList) rfl hkz).mono ?_
        rintro e w3 ⟨rfl, XA_1, hs, hn⟩
        have HB3 := Lib.hid hs.b
        obtain ⟨hy1, hy2⟩ := Sts.besideK drk HSB.out HSA.out hn (fun g h1 h2 => HDAB.out g h2 h1)
        replace HDAB : Hid (∀ g, XA_1 g → ¬ Y g) := Lib.hid fun g h1 h2 => hy2 g h2 h1
        replace HSB := Lib.hid hy1
        clear hy1 hy2
        replace HSA := Lib.hid hs
        clear hs hn
        try dsimp only
        go_wp2_with fail
        with_reducible refine (sr_del HSB.out (k := K.data.toList) rfl).mono ?_
        rintro e w4 ⟨rfl, XB_2, hs, hn⟩
        have HB4 := Lib.hid hs.b
        obtain ⟨hy1, hy2⟩ := Sts.besideK HOK.out.ks HSA.out HSB.out hn HDAB.out
        replace HDAB := Lib.hid hy2
        replace HSA := Lib.hid hy1
        clear hy1 hy2
        replace HSB := Lib.hid hs
        clear hs hn
        try dsimp only
        go_wp2
        go_roundw
        case rel => exact ⟨k + 1, _, _, _, by omega, by omega, by go_num, HSA, HSB, HDAB⟩
        case measure => simp [intOf]; omega
    · have hnn : ¬ ((k : Int) < (n : Int) ∧ (k : Int) < 60) := by omega
      by_cases hkn : k < n
      · have hki : (k : Int) < (n : Int) := by omega
        have hk60 : ¬ (k : Int) < 60 := by omega
        go_wp2
        go_ret2
        exact ⟨aA, aB, rfl, X, Y, t, HSA.out, HSB.out, HDAB.out⟩
      · have hki : ¬ (k : Int) < (n : Int) := by omega
        go_wp2
        go_ret2
        exact ⟨aA, aB, rfl, X, Y, t, HSA.out, HSB.out, HDAB.out⟩
end Go.Proofs.Ytamkepfhlfeiiaa.Sto
