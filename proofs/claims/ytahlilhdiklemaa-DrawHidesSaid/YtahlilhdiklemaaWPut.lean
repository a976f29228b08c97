/-
  CONTRACTS of wire.together, Put, PutText at this program. By an AI agent; no person has read it.
-/
import Derived.Test.YtahlilhdiklemaaWBytes
import Derived.Test.YtahlilhdiklemaaWStrs
import Derived.Test.YtahlilhdiklemaaShelf
namespace Go.Proofs.Ytahlilhdiklemaa.Wire
open Go.RowKit

theorem together_any (a : Option Addr) (c : Nat) (ys : List ByteArray) (w : World) (hr : SReads w a ys) (hN : ys.length ≤ 140737488355328) (hcap : ys.length ≤ c) (hlen : (cat ys).length ≤ 140737488355328) :
    Calls Try.prog 52 #[.slice a ys.length c] w fun e w' => St (cat ys) e ∧ Below w.heap.size w w' := by
  have hj : Calls Try.prog 43 #[.slice a ys.length c, .string ⟨#[]⟩] w fun e w' => St (cat ys) e ∧ Below w.heap.size w w' := by
    cases ys with
    | nil => exact (Try.strings_Join_none a c ⟨#[]⟩ w).mono fun e w' ⟨he, hw⟩ => ⟨⟨_, rfl, he⟩, hw ▸ Below.refl _ _⟩
    | cons y r =>
      obtain ⟨b, off, rfl, hb, _⟩ := hr 0 (by simp)
      refine (Try.strings_Join b off c (y :: r) ⟨#[]⟩ w (fun j x hx => ?_) hb hN hcap (by rw [join_cat]; exact hlen)).mono fun e w' ⟨he, hw⟩ => ⟨⟨_, ?_, he⟩, hw⟩
      · have hj := (List.getElem?_eq_some_iff.1 hx).1
        obtain ⟨b', off', e, _, hc⟩ := hr j hj
        injection e with e
        injection e with e1 e2
        subst e1 e2
        rw [hc]
        simp [List.getD, hx]
      · rw [join_cat]
  have HJ := Lib.hid hj
  clear hj
  go_enter Try.func52, Try.ntmps52
  go_wp2_with (go_at_call 43; refine HJ.out.mono ?_; rintro e w' ⟨⟨T, hT, rfl⟩, hb⟩; have HT := Lib.hid hT; have HB := Lib.hid hb; clear hT hb)
  go_ret
  exact ⟨⟨T, HT.out, rfl⟩, HB.out⟩
/-- Put's loop: the number that is left, the place, the bytes behind it. -/
def PutIn (w : World) (n k j : Nat) (wr : World) : Prop := ∃ (cs : List Value) (D : List UInt8), cs.length = 8 ∧ wr.heap[w.heap.size]? = some (.cells cs.toArray 73 (0, 0)) ∧
  cs.drop j = D.map by8 ∧ dig n = dig k ++ D ∧ D.length = 8 - j ∧ Below w.heap.size w wr ∧ wr.heap.size = w.heap.size + 1
theorem putIn_start (w : World) (n : Nat) : PutIn w n n 8 (w.alloc (.cells #[.int .u8 0, .int .u8 0, .int .u8 0, .int .u8 0, .int .u8 0, .int .u8 0, .int .u8 0, .int .u8 0] 73)) :=
  ⟨[.int .u8 0, .int .u8 0, .int .u8 0, .int .u8 0, .int .u8 0, .int .u8 0, .int .u8 0, .int .u8 0], [], rfl, heap_alloc_new w _, rfl, by simp, rfl, (Below.refl _ _).alloc (Nat.le_refl _) _, by simp⟩
theorem putIn_le {w wr : World} {n k j : Nat} (h : PutIn w n k j wr) (hn : n < 18446744073709551616) (hj : j ≤ 8) (hk : k ≠ 0) : 1 ≤ j := by
  obtain ⟨cs, D, _, _, _, h4, h5, _⟩ := h
  have h8 := dig_len8 hn
  rw [h4, List.length_append] at h8
  rw [dig_pos hk, List.length_append] at h8
  simp at h8
  omega
theorem putIn_cell {w wr : World} {n k j i : Nat} (h : PutIn w n k j wr) (hi : i < 8) : (∃ v, wr.cell? ⟨w.heap.size, i, none⟩ = some v) ∧ wr.frozen? ⟨w.heap.size, i, none⟩ = false := by
  obtain ⟨cs, D, h1, h2, _⟩ := h
  refine ⟨⟨cs[i], ?_⟩, ?_⟩
  · rw [cell_of_row wr w.heap.size i cs.toArray _ (0, 0) h2]
    simp [h1, hi]
  · simp [World.frozen?, h2]
theorem putIn_step {w wr : World} {n k j : Nat} (h : PutIn w n k (j + 1) wr) (hj : j < 8) (hk : k ≠ 0) : PutIn w n (k / 256) j (wr.setCell ⟨w.heap.size, j, none⟩ (.int .u8 ((k % 256 : Nat) : Int))) := by
  obtain ⟨cs, D, h1, h2, h3, h4, h5, h6, h7⟩ := h
  refine ⟨cs.set j (.int .u8 ((k % 256 : Nat) : Int)), (k % 256).toUInt8 :: D, by simp [h1], ?_, ?_, ?_, ?_, h6.setCell (Nat.le_refl _) _, by simpa [World.setCell] using h7⟩
  · simp [World.setCell, Array.getElem?_modify, h2]
  · rw [List.map_cons, ← h3, by8, u8_nat _ (by omega)]
    have hlt : j < (cs.set j (.int .u8 ((k % 256 : Nat) : Int))).length := by simp [h1, hj]
    rw [List.drop_eq_getElem_cons hlt]
    congr 1
    · simp
    · rw [List.drop_set_of_lt (by omega)]
  · rw [h4, dig_pos hk, List.append_assoc]; rfl
  · simp [h5]; omega
/-- parts[at:] of the array in block g. -/
theorem cut_eight (g j d : Nat) (hd : 8 - j = d) (hj : j ≤ 8) : ∃ A : Addr, A.block = g ∧ (0 < d → A = ⟨g, j, none⟩) ∧
    ∀ W : World, (Instr.sliceAt 73 (.pointer (some ⟨g, 0, none⟩)) (some (.int .i64 (j : Int))) none none).run Try.prog W = .ok (.slice (some A) d d) W := by
  have ha : Try.prog.arrayLen 73 = 8 := by kernel_rfl
  have he : Try.prog.elem 73 = 5 := by kernel_rfl
  have hu : Try.prog.underlying 73 = some (.array (Try.prog.arrayLen 73) (Try.prog.elem 73)) := by rw [ha, he]; exact Try.underlying73
  refine ⟨if 8 = j then ⟨g, 0, none⟩ else (⟨g, 0, none⟩ : Addr).add (j * 1), ?_, fun h => ?_, fun W => ?_⟩
  · split
    · rfl
    · rw [add_none]
  · rw [if_neg (by omega), add_none]; simp
  · have hz : (sizeOf 5).run Try.prog W = .ok 1 W := by
      rw [Try.sizeOf5]
    rw [run_sliceAt_array_l W 73 ⟨g, 0, none⟩ hu .i64 (j : Int) (by omega) (by rw [ha]; omega), he, hz, ha]
    simp only [Result.andThen_ok, slicedAt, Int.toNat_natCast]
    rw [hd]
theorem put_cells {wr : World} {g j : Nat} {cs : List Value} {D : List UInt8} (h2 : wr.heap[g]? = some (.cells cs.toArray 73 (0, 0))) (h3 : cs.drop j = D.map by8) :
    ∀ i (hi : i < D.length), wr.cell? ⟨g, j + i, none⟩ = some (by8 D[i]) := fun i hi => by
  rw [cell_of_row wr g (j + i) cs.toArray _ (0, 0) h2]
  have h := congrArg (·[i]?) h3
  simp only [List.getElem?_drop, List.getElem?_map, List.getElem?_eq_getElem hi, Option.map_some] at h
  simpa using h
theorem together_two (W : World) (X Y : ByteArray) (g : Nat) (hg : g = W.heap.size) (B : Nat) (w0 : World) (hb : Below B w0 W) (hB : B ≤ W.heap.size) (hlen : X.size + Y.size ≤ 140737488355328) :
    Calls Try.prog 52 #[.slice (some ⟨g, 0, none⟩) 2 2] (W.alloc (.cells #[.string X, .string Y] 9)).drew fun e w' => St (X.data.toList ++ Y.data.toList) e ∧ Below B w0 w' := by
  have h := together_any (some ⟨g, 0, none⟩) 2 [X, Y] (W.alloc (.cells #[.string X, .string Y] 9)).drew (pair_reads W X Y g hg) (by simp) (by simp) (by
    simp only [cat, List.flatMap_cons, List.flatMap_nil, List.append_nil, List.length_append, ← Lib.size_eq]; exact hlen)
  refine h.mono fun e w' ⟨he, hw⟩ => ⟨by simpa [cat] using he, ?_⟩
  exact ((hb.alloc hB _).drew).trans (hw.mono (by simp; omega))
theorem together_two' (W : World) (X Y : ByteArray) (g : Nat) (hg : g = W.heap.size) (B : Nat) (w0 : World) (hb : Below B w0 W) (hB : B ≤ W.heap.size) (hlen : X.size + Y.size ≤ 140737488355328) :
    Calls Try.prog 52 #[.slice (some ⟨g, 0, none⟩) 2 2] (W.alloc (.cells #[.string X, .string Y] 9)) fun e w' => St (X.data.toList ++ Y.data.toList) e ∧ Below B w0 w' := by
  have h := together_any (some ⟨g, 0, none⟩) 2 [X, Y] (W.alloc (.cells #[.string X, .string Y] 9)) (pair_reads' W X Y g hg) (by simp) (by simp) (by
    simp only [cat, List.flatMap_cons, List.flatMap_nil, List.append_nil, List.length_append, ← Lib.size_eq]; exact hlen)
  refine h.mono fun e w' ⟨he, hw⟩ => ⟨by simpa [cat] using he, ?_⟩
  exact (hb.alloc hB _).trans (hw.mono (by simp; omega))
set_option maxHeartbeats 2000000 in
set_option maxRecDepth 1000000 in
theorem put_any (n : Nat) (w : World) (hn : n < 18446744073709551616) :
    Calls Try.prog 35 #[.int .u64 n] w fun e w' => St (put n) e ∧ Below w.heap.size w w' := by
  have HN := Lib.hid hn
  have hn' : (n : Int) ≤ 18446744073709551615 := by omega
  clear hn
  go_enter Try.func35, Try.ntmps35
  go_wp2
  go_loopw [0, 4] (fun m a wr => ∃ k j : Nat, k ≤ n ∧ j ≤ 8 ∧ m = .int .u64 k ∧ a = .int .i64 j ∧ Hid (PutIn w n k j wr)) (fun m _ _ => (intOf m).toNat)
  case atStart => exact ⟨n, 8, Nat.le_refl _, Nat.le_refl _, rfl, rfl, putIn_start w n⟩
  case round =>
    obtain ⟨k, j, hkn, hj, rfl, rfl, HP⟩ := hrel
    by_cases hk : 0 < k
    · have hj1 := putIn_le HP.out HN.out hj (by omega)
      obtain ⟨i, rfl⟩ : ∃ i, j = i + 1 := ⟨j - 1, by omega⟩
      obtain ⟨⟨v, hc⟩, hf⟩ := putIn_cell HP.out (i := i) (by omega)
      have hwr : IntKind.u8.wrap (k : Int) = ((k % 256 : Nat) : Int) := by rw [IntKind.wrap_u8]; omega
      go_wp2
      go_roundw
      case rel => exact ⟨k / 256, i, by omega, by omega, by go_num, by go_num, putIn_step HP.out (by omega) (by omega)⟩
      case measure => simp [intOf]; omega
    · obtain rfl : k = 0 := by omega
      obtain ⟨cs, D, h1, h2, h3, h4, h5, h6, h7⟩ := HP.out
      obtain ⟨d, hd⟩ : ∃ d, D.length = d := ⟨_, rfl⟩
      have hd8 : d ≤ 8 := by omega
      have hjd : (j : Int) = 8 - (d : Int) := by omega
      have hp := put_cells h2 h3
      have hg := (Array.getElem?_eq_some_iff.1 h2).1
      have hw1 : IntKind.i64.wrap (8 - (j : Int)) = (d : Int) := by rw [IntKind.wrap_i64]; omega
      have hw2 : IntKind.u8.wrap (d : Int) = (d : Int) := by rw [IntKind.wrap_u8]; omega
      have hc1 : (convert 65 9 (.slice (some ⟨w.heap.size + 1, 0, none⟩) 1 1)).run Try.prog (wr.alloc (Obj.cells #[Value.int IntKind.u8 (d : Int)] 5)).drew = .ok (.string ⟨#[d.toUInt8]⟩) (wr.alloc (Obj.cells #[Value.int IntKind.u8 (d : Int)] 5)).drew := conv_one _ _ d (by omega) (by rw [← h7]; simp)
      obtain ⟨A, hA1, hA2, hcut⟩ := cut_eight w.heap.size j d (by omega) hj
      have hpA : ∀ i (hi : i < D.length), wr.cell? (A.add i) = some (by8 D[i]) := fun i hi => by
        rw [hA2 (by omega), add_none]; exact hp i hi
      have hc2 := conv_tail wr.drew A d D hpA
      have hc3 := conv_tail (wr.alloc (Obj.cells #[Value.int IntKind.u8 (d : Int)] 5)).drew A d D (fun i hi => by
        rw [← hpA i hi]
        exact World.cell?_alloc_lt wr _ (A.add i) (by rw [hA2 (by omega), add_none]; exact hg))
      rw [hd] at hc2 hc3
      have hcall : Calls Try.prog 52 #[.slice (some ⟨w.heap.size + 1 + 1, 0, none⟩) 2 2] ((wr.alloc (Obj.cells #[Value.int IntKind.u8 (d : Int)] 5)).alloc (.cells #[.string ⟨#[d.toUInt8]⟩, .string ⟨D.toArray⟩] 9)).drew fun e w' => St (put n) e ∧ Below w.heap.size w w' := by
        refine (together_two (wr.alloc (Obj.cells #[Value.int IntKind.u8 (d : Int)] 5)) ⟨#[d.toUInt8]⟩ ⟨D.toArray⟩ _ (by simp [h7]) w.heap.size w (h6.alloc (by omega) _) (by simp only [World.alloc, Array.size_push]; omega) (by
          rw [Lib.size_eq, Lib.size_eq]; simp; omega)).mono fun e w' ⟨he, hw⟩ => ⟨?_, hw⟩
        have e2 : put n = [d.toUInt8] ++ D := by rw [put, h4, dig_zero, List.nil_append, hd]; rfl
        rw [e2]
        exact he
      have HC := Lib.hid hcall
      clear hcall
      have H1 := Lib.hid h1
      have H4 := Lib.hid h4
      have H6 := Lib.hid h6
      have HD := Lib.hid hd
      have HPP := Lib.hid hp
      clear h1 h2 h3 h4 h5 h6 hd hp hjd hA1 hA2 hpA
      go_wp2
      go_region_with (go_at_call 52; refine HC.out.mono ?_; rintro e w' ⟨⟨T, hT, rfl⟩, hb⟩; have HT := Lib.hid hT; have HB := Lib.hid hb; clear hT hb; dsimp only)
      all_goals go_wp2
      all_goals go_ret
      all_goals exact ⟨⟨_, HT.out, rfl⟩, HB.out⟩
set_option maxHeartbeats 2000000 in
set_option maxRecDepth 1000000 in
theorem putText_any (t : ByteArray) (w : World) (ht : t.size ≤ 140737488355000) :
    Calls Try.prog 36 #[.string t] w fun e w' => St (putText t.data.toList) e ∧ Below w.heap.size w w' := by
  have hz : t.data.toList.length = t.size := (Lib.size_eq t).symm
  have HZ := Lib.hid hz
  have hwr : IntKind.u64.wrap (t.size : Int) = (t.size : Int) := by rw [IntKind.wrap_u64]; omega
  clear hz
  go_enter Try.func36, Try.ntmps36
  go_wp2_with (first
    | (go_at_call 35; refine (put_any _ _ (by omega)).mono ?_; rintro e w1 ⟨⟨T, hT, rfl⟩, hb⟩; have HS := put_size hT (by omega); have HT := Lib.hid hT; have HB := Lib.hid hb; clear hT hb)
    | (go_at_call 52; refine (together_two' w1 T t _ rfl w.heap.size w HB.out HB.out.size (by omega)).mono ?_; rintro e w2 ⟨⟨U, hU, rfl⟩, hb⟩; have HU := Lib.hid hU; have HB2 := Lib.hid hb; clear hU hb))
  go_ret
  exact ⟨⟨U, by rw [HU.out, HT.out, ← HZ.out]; rfl, rfl⟩, HB2.out⟩
end Go.Proofs.Ytahlilhdiklemaa.Wire
