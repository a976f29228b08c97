/-
  THE LAW RegressTells, walked over what the code is held to. By an AI agent; no person has read it.
-/
import Derived.Test.YtjoldkhfkobahaaRSpec
namespace Go.Proofs.Ytjoldkhfkobahaa.Reg
open Go.RowKit Wire Term Clo Draw

set_option maxHeartbeats 8000000 in
set_option maxRecDepth 1000000 in
theorem tells_walk (ST : StateOK) (BK : BackOK) (KO : KeyOK) (s : ByteArray) (a : Option Addr) (cap : Nat) (ys : List Int) (ep st : Int) (w : World) (hz : s.size ≤ 140737488355328) (hr : IReads w a ys) (hep : -9223372036854775808 ≤ ep ∧ ep ≤ 9223372036854775807) (hst : -9223372036854775808 ≤ st ∧ st ≤ 9223372036854775807) :
    Calls Try.prog 3 #[.string s, .slice a ys.length cap, .int .i64 ep, .int .i64 st] w fun e w' => e = .returned (.bool true) ∧ Below w.heap.size w w' := by
  have HSH := Lib.hid (shown6_any BK w)
  have HST := Lib.hid fun s ep w h1 h2 => ST s ep w h1 h2
  have HBK := Lib.hid fun s st w h1 h2 => BK s st w h1 h2
  have HKO := Lib.hid fun s w h1 => KO s w h1
  have HR := Lib.hid hr
  have HEP := Lib.hid hep
  have HSP := Lib.hid hst
  clear ST BK KO hr hep hst
  by_cases hbig : (5000 : Int) < (s.size : Int)
  · go_enter Try.func3, Try.ntmps3
    go_wp2_with fail
    refine HSH.out.mono ?_
    rintro e w1 ⟨rfl, hb1⟩
    have HB1 := Lib.hid hb1
    clear hb1
    go_wp2
    go_ret
    exact ⟨rfl, HB1.out⟩
  go_enter Try.func3, Try.ntmps3
  go_wp2_with fail
  with_reducible refine (HSH.out).mono ?_
  rintro e w1 ⟨rfl, hb1⟩
  have HB1 := Lib.hid hb1
  clear hb1
  dsimp only
  go_wp2_with fail
  with_reducible refine (grown_any a cap ys _ (HR.out.below HB1.out (Nat.le_refl _))).mono ?_
  rintro e w2 ⟨⟨T, hTr, rfl⟩, hb2⟩
  have HB2 := Lib.hid (Bel.call HB1.out hb2)
  clear hb2
  have hTz := (right_sz hTr).2
  clear hTr
  dsimp only
  obtain ⟨xss, fss, hx⟩ : ∃ x f, state s.data.toList ep = (x, f) := ⟨_, _, rfl⟩
  have HXss := Lib.hid hx
  clear hx
  go_wp2_with fail
  with_reducible refine (HST.out s ep _ hz HEP.out).mono ?_
  rw [HXss.out]
  rintro e w3 ⟨⟨Pss, hPss, rfl⟩, hb3⟩
  have HB3 := Lib.hid (Bel.call HB2.out hb3)
  clear hb3
  dsimp only at hPss
  have HPss := Lib.hid hPss
  clear hPss
  dsimp only
  go_wp2_with fail
  with_reducible refine (rstate_any s ep _ hz HEP.out).mono ?_
  rw [HXss.out]
  rintro e w4 ⟨⟨Qss, hQss, rfl⟩, hb4⟩
  have HB4 := Lib.hid (Bel.call HB3.out hb4)
  clear hb4
  obtain rfl : Pss = Qss := str_eq (HPss.out.trans hQss.symm)
  clear hQss
  dsimp only
  obtain ⟨xsT, fsT, hx⟩ : ∃ x f, state T.data.toList ep = (x, f) := ⟨_, _, rfl⟩
  have HXsT := Lib.hid hx
  clear hx
  go_wp2_with fail
  with_reducible refine (HST.out T ep _ (by omega) HEP.out).mono ?_
  rw [HXsT.out]
  rintro e w5 ⟨⟨PsT, hPsT, rfl⟩, hb5⟩
  have HB5 := Lib.hid (Bel.call HB4.out hb5)
  clear hb5
  dsimp only at hPsT
  have HPsT := Lib.hid hPsT
  clear hPsT
  dsimp only
  go_wp2_with fail
  with_reducible refine (rstate_any T ep _ (by omega) HEP.out).mono ?_
  rw [HXsT.out]
  rintro e w6 ⟨⟨QsT, hQsT, rfl⟩, hb6⟩
  have HB6 := Lib.hid (Bel.call HB5.out hb6)
  clear hb6
  obtain rfl : PsT = QsT := str_eq (HPsT.out.trans hQsT.symm)
  clear hQsT
  dsimp only
  obtain ⟨xbs, fbs, hx⟩ : ∃ x f, back s.data.toList st = (x, f) := ⟨_, _, rfl⟩
  have HXbs := Lib.hid hx
  clear hx
  go_wp2_with fail
  with_reducible refine (HBK.out s st _ hz HSP.out).mono ?_
  rw [HXbs.out]
  rintro e w7 ⟨⟨Pbs, hPbs, rfl⟩, hb7⟩
  have HB7 := Lib.hid (Bel.call HB6.out hb7)
  clear hb7
  dsimp only at hPbs
  have HPbs := Lib.hid hPbs
  clear hPbs
  dsimp only
  go_wp2_with fail
  with_reducible refine (rback_any s st _ hz HSP.out).mono ?_
  rw [HXbs.out]
  rintro e w8 ⟨⟨Qbs, hQbs, rfl⟩, hb8⟩
  have HB8 := Lib.hid (Bel.call HB7.out hb8)
  clear hb8
  obtain rfl : Pbs = Qbs := str_eq (HPbs.out.trans hQbs.symm)
  clear hQbs
  dsimp only
  obtain ⟨xbT, fbT, hx⟩ : ∃ x f, back T.data.toList st = (x, f) := ⟨_, _, rfl⟩
  have HXbT := Lib.hid hx
  clear hx
  go_wp2_with fail
  with_reducible refine (HBK.out T st _ (by omega) HSP.out).mono ?_
  rw [HXbT.out]
  rintro e w9 ⟨⟨PbT, hPbT, rfl⟩, hb9⟩
  have HB9 := Lib.hid (Bel.call HB8.out hb9)
  clear hb9
  dsimp only at hPbT
  have HPbT := Lib.hid hPbT
  clear hPbT
  dsimp only
  go_wp2_with fail
  with_reducible refine (rback_any T st _ (by omega) HSP.out).mono ?_
  rw [HXbT.out]
  rintro e w10 ⟨⟨QbT, hQbT, rfl⟩, hb10⟩
  have HB10 := Lib.hid (Bel.call HB9.out hb10)
  clear hb10
  obtain rfl : PbT = QbT := str_eq (HPbT.out.trans hQbT.symm)
  clear hQbT
  dsimp only
  obtain ⟨xks, fks, hx⟩ : ∃ x f, key s.data.toList = (x, f) := ⟨_, _, rfl⟩
  have HXks := Lib.hid hx
  clear hx
  go_wp2_with fail
  with_reducible refine (HKO.out s _ hz).mono ?_
  rw [HXks.out]
  rintro e w11 ⟨⟨Pks, hPks, rfl⟩, hb11⟩
  have HB11 := Lib.hid (Bel.call HB10.out hb11)
  clear hb11
  dsimp only at hPks
  have HPks := Lib.hid hPks
  clear hPks
  dsimp only
  go_wp2_with fail
  with_reducible refine (rkey_any s _ hz).mono ?_
  rw [HXks.out]
  rintro e w12 ⟨⟨Qks, hQks, rfl⟩, hb12⟩
  have HB12 := Lib.hid (Bel.call HB11.out hb12)
  clear hb12
  obtain rfl : Pks = Qks := str_eq (HPks.out.trans hQks.symm)
  clear hQks
  dsimp only
  obtain ⟨xkT, fkT, hx⟩ : ∃ x f, key T.data.toList = (x, f) := ⟨_, _, rfl⟩
  have HXkT := Lib.hid hx
  clear hx
  go_wp2_with fail
  with_reducible refine (HKO.out T _ (by omega)).mono ?_
  rw [HXkT.out]
  rintro e w13 ⟨⟨PkT, hPkT, rfl⟩, hb13⟩
  have HB13 := Lib.hid (Bel.call HB12.out hb13)
  clear hb13
  dsimp only at hPkT
  have HPkT := Lib.hid hPkT
  clear hPkT
  dsimp only
  go_wp2_with fail
  with_reducible refine (rkey_any T _ (by omega)).mono ?_
  rw [HXkT.out]
  rintro e w14 ⟨⟨QkT, hQkT, rfl⟩, hb14⟩
  have HB14 := Lib.hid (Bel.call HB13.out hb14)
  clear hb14
  obtain rfl : PkT = QkT := str_eq (HPkT.out.trans hQkT.symm)
  clear hQkT
  dsimp only
  go_wp2
  go_ret
  exact ⟨rfl, HB14.out⟩
end Go.Proofs.Ytjoldkhfkobahaa.Reg
