/-
  CONTRACTS of the landed code's Next (as a user wants it) and secretFor. By an AI agent; no person has read it.
-/
import Derived.Test.YtbdealddjonobaaGreatUCMem
import Derived.Test.YtbdealddjonobaaGreatUPath
namespace Go.Proofs.YtbdealddjonobaaGreat.Usr
open Go Go.RowKit Wire Term Clo Rig Draw

set_option linter.unusedVariables false
set_option linter.unusedSimpArgs false
set_option maxHeartbeats 2000000 in
set_option maxRecDepth 1000000 in
theorem next_c (b c s k : Nat) (w : World) (h : DrawAt b c w s k) (hk : k ≤ 1000000) : Calls Tryz.prog 46 #[.pointer (some ⟨b, 0, none⟩)] w fun e w' => e = .returned (.int .u64 ((draw s k : Nat) : Int)) ∧ DrawAt b c w' s (k + 1) ∧ Frm.Fr (fun x => x = b) w w' ∧ w'.heap.size = w.heap.size := by
  obtain ⟨hne, hb, hc⟩ := h
  have c0 : w.cell? ⟨b, 0, none⟩ = some (.func (.func 86) #[] #[.pointer (some ⟨c, 0, none⟩)]) := by unfold World.cell?; simp only [hb]; rfl
  have c1 : w.cell? ⟨b, 1, none⟩ = some (.int .i64 (k : Int)) := by unfold World.cell?; simp only [hb]; rfl
  have hcs : w.cell? ⟨c, 0, none⟩ = some (.int .u64 (s : Int)) := by unfold World.cell?; simp only [hc]; rfl
  have fz : w.frozen? ⟨b, 1, none⟩ = false := by simp [World.frozen?, hb]
  have h0 : IntKind.u64.wrap (k : Int) = (k : Int) := by rw [IntKind.wrap_u64]; omega
  have h1 : IntKind.i64.wrap ((k : Int) + 1) = ((k : Int) + 1) := by rw [IntKind.wrap_i64]; omega
  have HCS := Lib.hid hcs
  have HB := Lib.hid hb
  have HC := Lib.hid hc
  obtain ⟨dr, hdr⟩ : ∃ dr, draw s k = dr := ⟨_, rfl⟩
  have HD := Lib.hid hdr
  clear hb hc hcs hdr
  go_enter Tryz.func46, Tryz.ntmps46
  go_wp2
  go_quiet (first | (go_at_call 86; exact Calls.quiet_of_same (clo_any s k c _ (by simpa using HCS.out))))
  go_wp2
  go_ret
  have hf := fr_setCell (w := w) (X := fun x => x = b) (b := b) (j := 1) (u := .int .i64 ((k : Int) + 1)) nq rfl
  refine ⟨rfl, ⟨hne, ?_, ?_⟩, ⟨hf.os, hf.tape, hf.output, hf.size, hf.block⟩, by simp [World.setCell]⟩
  · have := two_setCell (w := w.drewN nq) (u := .int .i64 ((k : Int) + 1)) HB.out
    rw [this]
    rfl
  · rw [Below.heap_setCell (w.drewN nq) ⟨b, 1, none⟩ _ c (fun e => hne e.symm)]
    exact HC.out
theorem DrawAt.block {b c s k : Nat} {w w' : World} (h : DrawAt b c w s k) (hb : w'.heap[b]? = w.heap[b]?) (hc : w'.heap[c]? = w.heap[c]?) : DrawAt b c w' s k := ⟨h.ne, hb.trans h.b, hc.trans h.c⟩
theorem DrawAt.below {b c s k : Nat} {w w' : World} (h : DrawAt b c w s k) (hb : Below w.heap.size w w') : DrawAt b c w' s k :=
  h.block (hb.block b (Array.getElem?_eq_some_iff.1 h.b).1) (hb.block c (Array.getElem?_eq_some_iff.1 h.c).1)
set_option maxHeartbeats 2000000 in
set_option maxRecDepth 1000000 in
theorem secretFor_c (g db dc s k : Nat) (N U F : ByteArray) (w : World) (c0 : w.cell? ⟨g, 0, none⟩ = some (.string N)) (c3 : w.cell? ⟨g, 3, none⟩ = some (.pointer (some ⟨db, 0, none⟩))) (hd : DrawAt db dc w s k) (hk : k ≤ 1000000) (hN : nm N.data.toList = true) (hF : nm F.data.toList = true) (hU : U.size ≤ 1000) :
    Calls Tryz.prog 57 #[.pointer (some ⟨g, 0, none⟩), .string U, .string F] w fun e w' => (∃ T : ByteArray, T.data.toList = (secret U.data.toList (N.data.toList ++ 47 :: F.data.toList) (draw s k)).1 ∧ e = .returned (.string T)) ∧ DrawAt db dc w' s (k + 1) ∧ Frm.Fr (fun x => x = db) w w' := by
  have HP := Lib.hid (path_yes N F w hN hF)
  have HD := Lib.hid hd
  have glt : g < w.heap.size := World.block_lt_of_cell? w _ c0
  clear hd hN hF
  go_enter Tryz.func57, Tryz.ntmps57
  go_wp2_with fail
  refine HP.out.mono ?_
  rintro e w1 ⟨Q, rfl, hq, hqs, hb1⟩
  have HQ := Lib.hid hq
  have c3' : w1.cell? ⟨g, 3, none⟩ = some (.pointer (some ⟨db, 0, none⟩)) := (hb1.cell (p := ⟨g, 3, none⟩) glt).trans c3
  have HB1 := Lib.hid hb1
  clear hq hb1 c0 c3
  dsimp only
  go_wp2_with fail
  refine (next_c db dc s k w1 (HD.out.below HB1.out) hk).mono ?_
  rintro e w2 ⟨rfl, hd2, hf2, hz2⟩
  have HD2 := Lib.hid hd2
  have HF2 := Lib.hid hf2
  clear hd2 hf2 hz2 c3'
  dsimp only
  go_wp2_with fail
  refine (secretok U Q (draw s k) w2 (by omega) (by omega) (by omega) (mix_lt _)).mono ?_
  rintro e w3 ⟨⟨T, hT, rfl⟩, hb3⟩
  have HT := Lib.hid hT
  have HB3 := Lib.hid hb3
  clear hT hb3
  dsimp only
  go_wp2_with fail
  go_ret
  refine ⟨⟨T, by rw [HT.out, HQ.out], rfl⟩, HD2.out.below HB3.out, ⟨HB3.out.os.trans (HF2.out.os.trans HB1.out.os), HB3.out.tape.trans (HF2.out.tape.trans HB1.out.tape), HB3.out.output.trans (HF2.out.output.trans HB1.out.output), Nat.le_trans HB1.out.size (Nat.le_trans HF2.out.size HB3.out.size), fun b hb hn => ?_⟩⟩
  have h1 := Nat.lt_of_lt_of_le hb HB1.out.size
  exact (HB3.out.block b (Nat.lt_of_lt_of_le h1 HF2.out.size)).trans ((HF2.out.block b h1 hn).trans (HB1.out.block b hb))
end Go.Proofs.YtbdealddjonobaaGreat.Usr
