/-
  U7. By an AI agent.
-/
import Derived.Test.YtbdealddjonobaaGreatYZ
import Derived.Shelf.SlMaps.Clone
import Derived.Test.YtbdealddjonobaaGreatYU2
namespace Go.Proofs.YtbdealddjonobaaGreat.Usr
open Go Go.RowKit Go.Shelf

def clone_ren : Go.Shelf.Ren := ⟨fun | 5 => 54 | 7 => 100 | n => n, fun | 4 => 4 | 20 => 20 | 23 => 95 | 25 => 9 | 3 => 22 | n => n, fun | n => n⟩
theorem clone_lays : Go.Proofs.SlLaysW.n5 Tryz.prog clone_ren := {
  mixed := by kernel_rfl
  f5 := ⟨Tryz.f54.name, by decide, Tryz.func54.trans (congrArg some (by kernel_rfl))⟩
  f7 := Tryz.func100.trans (congrArg some (by kernel_rfl))
  t4 := Tryz.underlying4
  a4 := Tryz.isAgg4
  z4 := Tryz.sizeOf4
  v4 := Tryz.zeroValue4
  t20 := Tryz.underlying20
  a20 := Tryz.isAgg20
  z20 := Tryz.sizeOf20
  v20 := Tryz.zeroValue20
  t23 := Tryz.underlying95
  a23 := Tryz.isAgg95
  z23 := Tryz.sizeOf95
  v23 := Tryz.zeroValue95 }
theorem clone_c (mb : Nat) (H : Tk → Bool) (V : Tk → Value) (w : World) (h : MapIs w mb H V) : Calls Tryz.prog 54 #[.map (some mb)] w fun e w' => e = .returned (.map (some w.heap.size)) ∧ MapIs w' w.heap.size H V ∧ Below w.heap.size w w' := by
  obtain ⟨D, h1, h2⟩ := h
  exact (AnyW.maps_Clone_owns clone_lays 9 Rv mb _ D w h1).mono fun e w' t => ⟨t.1, ⟨D, t.2.1, h2⟩, t.2.2.2⟩
end Go.Proofs.YtbdealddjonobaaGreat.Usr

namespace Go.Proofs.YtbdealddjonobaaGreat.Usr
open Go Go.RowKit Wire Rig Draw

set_option linter.unusedVariables false
set_option linter.unusedSimpArgs false
set_option maxHeartbeats 2000000 in
set_option maxRecDepth 1000000 in
theorem name_c (a : Addr) (S M : Nat → Prop) (u : Us) (w : World) (h : DU w a S M u) : Calls Tryz.prog 11 #[.pointer (some a)] w fun e w' => St u.nm e ∧ Below w.heap.size w w' := by
  obtain ⟨g, me, mg, db, dc, N, C, V, sb, rfl, h, _, _⟩ := h
  have c0 := h.c0
  have HN := zh h.hN
  clear h
  go_enter Tryz.func11, Tryz.ntmps11
  go_wp2
  go_ret
  exact ⟨⟨N, HN.out, rfl⟩, Below.refl _ _⟩
set_option maxHeartbeats 2000000 in
set_option maxRecDepth 1000000 in
theorem secret_c (a : Addr) (S M : Nat → Prop) (u : Us) (w : World) (h : DU w a S M u) : Calls Tryz.prog 12 #[.pointer (some a)] w fun e w' => St u.sec e ∧ Below w.heap.size w w' := by
  obtain ⟨g, me, mg, db, dc, N, C, V, sb, rfl, h, _, _⟩ := h
  have c1 := h.c1
  have HN := zh h.hC
  clear h
  go_enter Tryz.func12, Tryz.ntmps12
  go_wp2
  go_ret
  exact ⟨⟨C, HN.out, rfl⟩, Below.refl _ _⟩
theorem made_le (l : List UInt8) : (Term.made l).1.length ≤ 4000 := made_len l
theorem one_le (k : UInt8) (l : List UInt8) : (Term.one k l).1.length ≤ 4000 := by
  unfold Term.one
  split
  · exact made_le _
  · exact Nat.zero_le _
theorem sec_le (use who : List UInt8) (n : Nat) : (secret use who n).1.length ≤ 4000 := by
  unfold secret
  split
  · exact Nat.zero_le _
  · split
    · exact Nat.zero_le _
    · exact one_le _ _
set_option maxHeartbeats 2000000 in
set_option maxRecDepth 1000000 in
theorem pub_c (a : Addr) (S M : Nat → Prop) (u : Us) (w : World) (h : DU w a S M u) : Calls Tryz.prog 13 #[.pointer (some a)] w fun e w' => St (Term.one 117 u.sec).1 e ∧ Below w.heap.size w w' := by
  obtain ⟨g, me, mg, db, dc, N, C, V, sb, rfl, h, _, _⟩ := h
  have c1 := h.c1
  have hC := h.hC
  have hsz : C.size ≤ 4000 := by rw [Lib.size_eq, hC]; exact sec_le _ _ _
  have HT := zh (Term.t_OfPublic C w (by omega))
  rw [hC] at HT
  clear h hC
  go_enter Tryz.func13, Tryz.ntmps13
  go_wp2_with fail
  refine HT.out.mono ?_
  rintro e w1 ⟨⟨T, hT, rfl⟩, hb1⟩
  have HTT := zh hT
  have HB1 := zh hb1
  clear hT hb1
  dsimp only
  go_wp2
  go_ret
  exact ⟨⟨T, HTT.out, rfl⟩, HB1.out⟩
set_option maxHeartbeats 4000000 in
set_option maxRecDepth 1000000 in
theorem drawn_c (s k : Nat) (w : World) (hs : s < 18446744073709551616) (hk : k ≤ 1000) : Calls Tryz.prog 52 #[.int .u64 (s : Int), .int .i64 (k : Int)] w fun e w' => ∃ db dc, e = .returned (.pointer (some ⟨db, 0, none⟩)) ∧ DrawAt db dc w' s k ∧ (w.heap.size ≤ db ∧ w.heap.size ≤ dc) ∧ Below w.heap.size w w' := by
  go_enter Tryz.func52, Tryz.ntmps52
  go_wp2_with fail
  refine (new_ok s w).mono ?_
  rintro e w1 ⟨a, X, rfl, ⟨db, dc, rfl, rfl, hne, hdb, hdc⟩, hX, hb1⟩
  have HD : Hid (DrawAt db dc w1 s 0) := ⟨hne, hdb, hdc⟩
  have HB := zh hb1
  have HX := zh hX
  clear hne hdb hdc hX hb1
  dsimp only
  go_wp2_with fail
  have HLO : Hid (w.heap.size ≤ db ∧ w.heap.size ≤ dc) := ⟨HX.out db (.inl rfl), HX.out dc (.inr rfl)⟩
  have HS0 : Hid (DrawAt db dc w1 s 0 ∧ Below w.heap.size w w1) := ⟨HD.out, HB.out⟩
  clear HX HD HB
  go_loopw [9] (fun i wr => ∃ j : Nat, j ≤ k ∧ i = .int .i64 (j : Int) ∧ Hid (DrawAt db dc wr s j ∧ Below w.heap.size w wr)) (fun i _ => k - (intOf i).toNat)
  case atStart => exact ⟨0, Nat.zero_le _, by simp, HS0⟩
  case round =>
    clear HS0
    obtain ⟨j, hj, rfl, HD⟩ := hrel
    by_cases hlt : (j : Int) < (k : Int)
    · go_wp2_with fail
      refine (next_c db dc s j _ HD.out.1 (by omega)).mono ?_
      rintro e w2 ⟨rfl, hd2, hf2, _⟩
      have HS2 : Hid (DrawAt db dc w2 s (j + 1) ∧ Below w.heap.size w w2) := ⟨hd2, ⟨hf2.os.trans HD.out.2.os, hf2.tape.trans HD.out.2.tape, hf2.output.trans HD.out.2.output, Nat.le_trans HD.out.2.size hf2.size, fun b hb => (hf2.block b (Nat.lt_of_lt_of_le hb HD.out.2.size) fun e => by have := HLO.out.1; omega).trans (HD.out.2.block b hb)⟩⟩
      clear hd2 hf2
      dsimp only
      go_wp2
      go_roundw
      case rel => exact ⟨j + 1, by omega, by go_num, HS2⟩
      case measure => simp [intOf]; omega
    · have hjk : j = k := by omega
      subst hjk
      go_wp2_with fail
      go_ret
      exact ⟨db, rfl, dc, HD.out.1, HLO.out, HD.out.2⟩
end Go.Proofs.YtbdealddjonobaaGreat.Usr

