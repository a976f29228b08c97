/-
  CONTRACTS of the landed code's New, Remove (package user); how a user in memory comes through draws and changes of its maps. By an AI agent; no person has read it.
-/
import Derived.Test.YtbdealddjonobaaGreatUCSec
import Derived.Test.YtbdealddjonobaaGreatUCParts
namespace Go.Proofs.YtbdealddjonobaaGreat.Usr
open Go Go.RowKit Wire Rig Draw

set_option linter.unusedVariables false
set_option linter.unusedSimpArgs false
theorem fr_below {w w' : World} {X : Nat → Prop} (h : Below w.heap.size w w') : Frm.Fr X w w' := Frm.Fr.none h
theorem fr_cons {X Y : Nat → Prop} {w w1 w2 : World} (h : Frm.Fr X w w1) (h2 : Frm.Fr Y w1 w2) (hY : ∀ b, Y b → b < w.heap.size → X b) : Frm.Fr X w w2 :=
  ⟨h2.os.trans h.os, h2.tape.trans h.tape, h2.output.trans h.output, Nat.le_trans h.size h2.size, fun b hb hx => (h2.block b (Nat.lt_of_lt_of_le hb h.size) fun hy => hx (hY b hy hb)).trans (h.block b hb hx)⟩
theorem Grown.fr {w w' : World} {m : Nat} (h : w.grownBy w' (some m)) : Frm.Fr (fun b => b = m) w w' := ⟨h.os, h.tape, h.output, h.size, fun b hb hn => h.block b hb fun e => hn (Option.some.inj e)⟩
theorem zero_owned (w : World) : (zeroValue 50).run Tryz.prog w = .ok (.agg (OV ⟨#[]⟩ ⟨#[]⟩ 0 none 0 0 none 0 0 0 ⟨#[]⟩ none 0 0 false).toArray) w := by kernel_rfl
theorem zero_u64 (w : World) : (zeroValue 22).run Tryz.prog w = .ok (.int .u64 0) w := by kernel_rfl
/-- The new user in memory. -/
theorem new_at (w : World) (N C : ByteArray) (sd db dc : Nat) (T : TypeId) (hd : DrawAt db dc w sd 1) (hC : C.data.toList = (us0 N.data.toList sd).sec) (w2 : World) (hb : Below w.heap.size w w2) (g me mg : Nat) (hn : [g, me, mg].Nodup) (hlo : ∀ b ∈ [g, me, mg], w.heap.size ≤ b)
    (hg : w2.heap[g]? = some (.cells #[.string N, .string C, .int .u64 (sd : Int), .pointer (some ⟨db, 0, none⟩), .map (some me), .map (some mg)] T)) (hm : MapIs w2 me (fun _ => false) (fun _ => undef)) (hq : MapIs w2 mg (fun _ => false) (fun _ => undef)) :
    UserAt g me mg db dc N C (fun _ => undef) (fun _ => 0) w2 (us0 N.data.toList sd) := by
  have hc : ∀ j, w2.cell? ⟨g, j, none⟩ = (#[.string N, .string C, .int .u64 (sd : Int), .pointer (some ⟨db, 0, none⟩), .map (some me), .map (some mg)] : Array Value)[j]? := fun j => cell_of_row _ _ _ _ _ _ hg
  have hdb := (Array.getElem?_eq_some_iff.1 hd.b).1
  have hdc := (Array.getElem?_eq_some_iff.1 hd.c).1
  have hne := hd.ne
  have h0 := hlo g (by simp)
  have h1 := hlo me (by simp)
  have h2 := hlo mg (by simp)
  refine ⟨(hc 0).trans rfl, (hc 1).trans rfl, (hc 2).trans rfl, (hc 3).trans rfl, (hc 4).trans rfl, (hc 5).trans rfl, rfl, hC, hd.below hb, hm.congr (fun t => by simp [Us.live, us0]) (fun t h => by cases h), hq.congr (fun t => by simp [Us.gn, us0]) (fun t h => by cases h), fun t ht => ?_, ?_, fun t ht => ?_, fun t x ht => ?_⟩
  · simp [Us.live, us0] at ht
  · simp at hn ⊢; omega
  · simp [Us.live, us0] at ht
  · simp [Us.live, us0] at ht
set_option maxHeartbeats 4000000 in
set_option maxRecDepth 1000000 in
theorem new_no (N : ByteArray) (sd : Nat) (w : World) (hn : nm N.data.toList = false) : Calls Tryz.prog 9 #[.string N, .int .u64 (sd : Int)] w fun e w' => e = .returned (.tuple #[.pointer none, .int .i64 3]) ∧ Below w.heap.size w w' := by
  have HR := Lib.hid (isName_c N w)
  rw [hn] at HR
  clear hn
  go_enter Tryz.func9, Tryz.ntmps9
  go_wp2_with fail
  refine HR.out.mono ?_
  rintro e w1 ⟨rfl, hb1⟩
  have HB1 := Lib.hid hb1
  clear hb1
  dsimp only
  go_wp2_with fail
  go_ret2
  exact ⟨rfl, HB1.out⟩
/-- Two maps and the struct, one behind the other. -/
theorem three_new (w : World) (V : Array Value) (T : TypeId) : MapIs (((w.alloc (.map #[] 0)).alloc (.map #[] 0)).alloc (.cells V T)) w.heap.size (fun _ => false) (fun _ => undef) ∧ MapIs (((w.alloc (.map #[] 0)).alloc (.map #[] 0)).alloc (.cells V T)) (w.heap.size + 1) (fun _ => false) (fun _ => undef) ∧
    (((w.alloc (.map #[] 0)).alloc (.map #[] 0)).alloc (.cells V T)).heap[w.heap.size + 1 + 1]? = some (.cells V T) ∧ Below w.heap.size w (((w.alloc (.map #[] 0)).alloc (.map #[] 0)).alloc (.cells V T)) := by
  have h1 : (w.alloc (.map #[] 0)).heap.size = w.heap.size + 1 := by simp
  have h2 : ((w.alloc (.map #[] 0)).alloc (.map #[] 0)).heap.size = w.heap.size + 2 := by simp
  have b1 := (Below.refl w.heap.size w).alloc (Nat.le_refl _) (.map #[] 0)
  have b2 := b1.alloc b1.size (.map #[] 0)
  have b3 := b2.alloc b2.size (.cells V T)
  have e1 := mapIs_made w (fun _ => undef)
  have e2 := mapIs_made (w.alloc (.map #[] 0)) (fun _ => undef)
  rw [h1] at e2
  have hg := heap_alloc_new ((w.alloc (.map #[] 0)).alloc (.map #[] 0)) (.cells V T)
  rw [h2] at hg
  refine ⟨(e1.block ((MapKept.heap_alloc _ _).2 _ (by omega))).block ((MapKept.heap_alloc _ _).2 _ (by omega)), e2.block ((MapKept.heap_alloc _ _).2 _ (by omega)), hg, b3⟩
set_option maxHeartbeats 4000000 in
set_option maxRecDepth 1000000 in
theorem new_yes (N : ByteArray) (sd : Nat) (w : World) (hs : sd < 18446744073709551616) (hn : nm N.data.toList = true) : Calls Tryz.prog 9 #[.string N, .int .u64 (sd : Int)] w fun e w' => ∃ a S M, e = .returned (.tuple #[.pointer (some a), .int .i64 0]) ∧ DU w' a S M (us0 N.data.toList sd) ∧ (∀ b, S b → w.heap.size ≤ b) ∧ Below w.heap.size w w' := by
  have HR := Lib.hid (isName_c N w)
  rw [hn] at HR
  have hsz := right_size hn
  have hmm := @run_makeMap Tryz.prog
  have hmm2 := Lib.hid hn
  clear hn
  go_enter Tryz.func9, Tryz.ntmps9
  go_wp2_with fail
  refine HR.out.mono ?_
  rintro e w1 ⟨rfl, hb1⟩
  have HB1 := Lib.hid hb1
  clear hb1
  dsimp only
  go_wp2_with fail
  refine (new_ok sd w1).mono ?_
  rintro e w2 ⟨a, X, rfl, ⟨db, dc, rfl, rfl, hne, hdb, hdc⟩, hX, hb2⟩
  have HD2 : Hid (DrawAt db dc w2 sd 0) := ⟨hne, hdb, hdc⟩
  have HB2 := Lib.hid hb2
  have HX := Lib.hid hX
  clear hne hdb hdc hX hb2
  dsimp only
  go_wp2_with fail
  refine (next_c db dc sd 0 w2 HD2.out (by decide)).mono ?_
  rintro e w3 ⟨rfl, hd3, hf3, hz3⟩
  have HD3 := Lib.hid hd3
  have HF3 := Lib.hid hf3
  have HZ3 := Lib.hid hz3
  clear hd3 hf3 hz3
  dsimp only
  go_wp2_with fail
  refine (secretok ⟨#[117, 115, 101, 114]⟩ N (draw sd 0) w3 (by decide) (by omega) (by show 4 + N.size ≤ _; omega) (mix_lt _)).mono ?_
  rintro e w4 ⟨⟨C, hC, rfl⟩, hb4⟩
  have HC := Lib.hid hC
  have HB4 := Lib.hid hb4
  clear hC hb4
  dsimp only
  have H3 := fun V T => Lib.hid (three_new w4 V T)
  go_wp2_with fail
  go_ret2
  have hs4 : w.heap.size ≤ w4.heap.size := Nat.le_trans HB1.out.size (Nat.le_trans HB2.out.size (by rw [← HZ3.out]; exact HB4.out.size))
  have hlo : ∀ b, b = db ∨ b = dc → w.heap.size ≤ b := fun b hb => Nat.le_trans HB1.out.size (HX.out b hb)
  obtain ⟨e1, e2, e3, e4⟩ := (H3 _ _).out
  refine ⟨_, rfl, _, ⟨_, ⟨w4.heap.size + 1 + 1, w4.heap.size, w4.heap.size + 1, db, dc, N, C, fun _ => undef, fun _ => 0, rfl, new_at w4 N C sd db dc _ (HD3.out.below HB4.out) HC.out _ e4 _ _ _ (by simp; omega) (by simp; omega) e3 e1 e2, fun b => Iff.rfl, fun b => Iff.rfl⟩⟩, fun b hb => ?_, ?_⟩
  · rcases hb with rfl | (rfl | rfl | rfl | rfl | ⟨t, ht, _⟩) | ⟨t, ht, _⟩
    · omega
    · omega
    · omega
    · exact hlo _ (.inl rfl)
    · exact hlo _ (.inr rfl)
    · simp [Us.live, us0] at ht
    · simp [Us.live, us0] at ht
  · have hb3 : Below w.heap.size w w3 := ⟨HF3.out.os.trans (HB2.out.os.trans HB1.out.os), HF3.out.tape.trans (HB2.out.tape.trans HB1.out.tape), HF3.out.output.trans (HB2.out.output.trans HB1.out.output), Nat.le_trans HB1.out.size (Nat.le_trans HB2.out.size HF3.out.size), fun b hb => by
      have h1 := Nat.lt_of_lt_of_le hb HB1.out.size
      exact (HF3.out.block b (Nat.lt_of_lt_of_le h1 HB2.out.size) fun e => by have := hlo b (.inl e); omega).trans ((HB2.out.block b h1).trans (HB1.out.block b hb))⟩
    exact (hb3.trans (HB4.out.mono hb3.size)).trans (e4.mono hs4)
end Go.Proofs.YtbdealddjonobaaGreat.Usr
