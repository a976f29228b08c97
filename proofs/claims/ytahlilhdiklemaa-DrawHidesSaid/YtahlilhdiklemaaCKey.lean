/-
  CONTRACTS of the code's key (package closure): what opens a term. By an AI agent; no person has read it.
-/
import Derived.Test.YtahlilhdiklemaaCMind
namespace Go.Proofs.Ytahlilhdiklemaa.Clo
open Go.RowKit Wire Term

theorem bl_sole {ys : List ByteArray} {x : Tm} (h : bl ys = [x]) : ∃ X, ys = [X] ∧ X.data.toList = x := by
  match ys, h with
  | [X], h => exact ⟨X, rfl, by simpa [bl] using h⟩
theorem bl_duo {ys : List ByteArray} {x y : Tm} (h : bl ys = [x, y]) : ∃ X Y, ys = [X, Y] ∧ X.data.toList = x ∧ Y.data.toList = y := by
  match ys, h with
  | [X, Y], h => exact ⟨X, Y, rfl, by simpa [bl] using h⟩
theorem reads_at {w : World} {a : Option Addr} {ys : List ByteArray} (h : SReads w a ys) {Y : ByteArray} (j : Nat) (hj : ys[j]? = some Y) : ∃ b off, a = some ⟨b, off, none⟩ ∧ b < w.heap.size ∧ w.cell? ⟨b, off + j, none⟩ = some (.string Y) := by
  obtain ⟨hlt, e⟩ := List.getElem?_eq_some_iff.1 hj
  obtain ⟨b, off, e1, h1, h2⟩ := h j hlt
  refine ⟨b, off, e1, h1, ?_⟩
  rw [h2]
  simp [List.getD, hlt, e]
set_option maxHeartbeats 2000000 in
set_option maxRecDepth 1000000 in
theorem key_sealed (pb : Nat) (X Y : ByteArray) (a : Option Addr) (c : Nat) (b1 b2 : Bool) (ia oa : Option Addr) (il ic ol oc : Nat) (w : World) (hr : SReads w a [X, Y]) :
    Calls Try.prog 47 #[.pointer (some ⟨pb, 0, none⟩), .agg #[.int .u8 115, .slice a 2 c, .bool b1, .bool b2, .slice ia il ic, .slice oa ol oc]] w fun e w' => e = .returned (.tuple #[.string X, .bool true]) ∧ Below w.heap.size w w' := by
  obtain ⟨b, off, rfl, hlt, hc⟩ := reads_at hr 0 rfl
  rw [Nat.add_zero] at hc
  clear hr
  go_enter Try.func47, Try.ntmps47
  go_wp2
  go_ret2
  exact ⟨rfl, (Below.refl _ _).alloc (Nat.le_refl _) _⟩
set_option maxHeartbeats 2000000 in
set_option maxRecDepth 1000000 in
theorem key_else (pb : Nat) (kb : Int) (h1 : kb ≠ 115) (h2 : kb ≠ 98) (a : Option Addr) (n c : Nat) (b1 b2 : Bool) (ia oa : Option Addr) (il ic ol oc : Nat) (w : World) :
    Calls Try.prog 47 #[.pointer (some ⟨pb, 0, none⟩), .agg #[.int .u8 kb, .slice a n c, .bool b1, .bool b2, .slice ia il ic, .slice oa ol oc]] w fun e w' => e = .returned (.tuple #[.string ⟨#[]⟩, .bool false]) ∧ Below w.heap.size w w' := by
  go_enter Try.func47, Try.ntmps47
  go_wp2
  go_ret2
  exact ⟨rfl, (Below.refl _ _).alloc (Nat.le_refl _) _⟩
set_option maxHeartbeats 2000000 in
set_option maxRecDepth 1000000 in
theorem key_boxed (base pb : Nat) (K : List Tm) (F : Tm → Fa) (N : List Tm) (X Y : ByteArray) (k : Tm) (a : Option Addr) (c : Nat) (b1 b2 : Bool) (ia oa : Option Addr) (il ic ol oc : Nat) (w : World) (h : MindE base pb K F N w) (hs : X.size ≤ 4000) (hX : X.data.toList ∈ K) (hk : pts X.data.toList = [k]) (hr : SReads w a [X, Y]) :
    Calls Try.prog 47 #[.pointer (some ⟨pb, 0, none⟩), .agg #[.int .u8 98, .slice a 2 c, .bool b1, .bool b2, .slice ia il ic, .slice oa ol oc]] w fun e w' => (∃ Z : ByteArray, Z.data.toList = k ∧ e = .returned (.tuple #[.string Z, .bool true])) ∧ Below w.heap.size w w' := by
  obtain ⟨mb, own, nv, V, hm⟩ := h
  obtain ⟨pv, iv, ov, hv, hp, hi, ho⟩ := hm.rows _ hX
  have hlt := hm.pb_lt
  have c0 := hm.cell0
  obtain ⟨ia', ic', rfl⟩ := hi.form
  obtain ⟨oa', oc', rfl⟩ := ho.form
  obtain ⟨pa, pc, zs, rfl, _, hz, hzr, _⟩ := hp
  rw [hk] at hz
  obtain ⟨Z, rfl, rfl⟩ := bl_sole hz
  obtain ⟨zb, zoff, rfl, hzlt, hzc⟩ := reads_at hzr 0 rfl
  rw [Nat.add_zero] at hzc
  obtain ⟨b, off, rfl, hblt, hc⟩ := reads_at hr 0 rfl
  rw [Nat.add_zero] at hc
  -- the look-up, in a world with one more block
  obtain ⟨kb, b3, b4, n4, n5, hrun⟩ : ∃ (kb : Int) (b3 b4 : Bool) (n4 n5 : Nat), ∀ o, (Instr.lookup 57 (.map (some mb)) (.string X) false).run Try.prog (w.alloc o).drew = .ok (.agg #[.int .u8 kb, .slice (some ⟨zb, zoff, none⟩) 1 pc, .bool b3, .bool b4, .slice ia' n4 ic', .slice oa' n5 oc']) (w.alloc o).drew := ⟨_, _, _, _, _, fun o => by
    have := (hm.map.block (w' := (w.alloc o).drew) ((MapKept.heap_alloc w o).2 mb hm.map.lt)).look hs hX
    rw [hv] at this
    exact this⟩
  clear hm hv hi ho hzr hr hz
  have q1 := field_parts
  go_enter Try.func47, Try.ntmps47
  go_wp2
  refine wp_still_drew 13 (by kernel_rfl) (by kernel_rfl) ?_
  simp only [List.take_succ_cons, List.take_zero, List.drop_succ_cons, List.drop_zero]
  repeat still_step
  refine wpStill_nil ?_
  go_wp2
  go_ret2
  exact ⟨⟨Z, rfl, rfl⟩, ((Below.refl _ _).alloc (Nat.le_refl _) _).drew⟩
end Go.Proofs.Ytahlilhdiklemaa.Clo
