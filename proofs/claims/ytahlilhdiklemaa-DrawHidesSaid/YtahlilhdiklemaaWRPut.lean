/-
  CONTRACTS of the document's Put, PutText (letterlockref2) at this program. By an AI agent; no person has read it.
-/
import Derived.Test.YtahlilhdiklemaaWBytes
import Derived.Laws.AppendOwnNone
import Derived.Lib.BufferRead
namespace Go.Proofs.Ytahlilhdiklemaa.Wire
open Go.RowKit

/-- The document's Put: what is left, and the bytes behind it. -/
def RPut (w : World) (n k : Nat) (v : Value) (wr : World) : Prop := ∃ D : List UInt8, wr.ownsRow w.heap.size 5 1 v D.length (D.map by8) ∧ dig n = dig k ++ D ∧ Below w.heap.size w wr
set_option maxHeartbeats 4000000 in
set_option maxRecDepth 1000000 in
theorem refPut_any (n : Nat) (w : World) (hn : n < 18446744073709551616) :
    Calls Try.prog 41 #[.int .u64 n] w fun e w' => St (put n) e ∧ Below w.heap.size w w' := by
  have HN := Lib.hid hn
  have hn' : (n : Int) ≤ 18446744073709551615 := by omega
  obtain ⟨i0, hi0, hz0, hz1, hz2⟩ := info_parts byte_info
  clear hn
  go_enter Try.func41, Try.ntmps41
  go_wp2
  go_loopw [0, 3] (fun m v wr => ∃ k : Nat, k ≤ n ∧ m = .int .u64 k ∧ Hid (RPut w n k v wr)) (fun m _ _ => (intOf m).toNat)
  case atStart => exact ⟨n, Nat.le_refl _, rfl, [], World.ownsRow_nil _ _ _ _, by simp, Below.refl _ _⟩
  case round =>
    obtain ⟨k, hkn, rfl, HP⟩ := hrel
    obtain ⟨D, ho, hd, hb⟩ := HP.out
    have hD8 : D.length ≤ 8 := by
      have := dig_len8 HN.out
      rw [hd, List.length_append] at this; omega
    have HO := Lib.hid ho
    have HD := Lib.hid hd
    have HB := Lib.hid hb
    clear hd hb
    by_cases hk : 0 < k
    · have hwr : IntKind.u8.wrap ((k : Int) % 256) = (k : Int) % 256 := by rw [IntKind.wrap_u8]; omega
      have hlit := World.ownsRow_lit (e := 5) (size := 1) (base := w.heap.size) wr #[.int .u8 ((k : Int) % 256)] 1 HB.out.size (by decide) rfl
      have HLT := Lib.hid hlit
      clear hlit
      rcases ho.2 with ⟨rfl, h0⟩ | ⟨g, c, _, rfl, _⟩
      · clear ho
        obtain rfl : D = [] := List.eq_nil_of_length_eq_zero h0
        go_wp2_with (at_builtin; refine wpList_append_own_none rfl _ _ _ rfl w.heap.size 5 i0 1 Try.underlying65 hi0 _ 1 _ rfl HLT.out rfl ?_)
        go_roundw
        case rel =>
          refine ⟨k / 256, by omega, by go_num, [(k % 256).toUInt8], ?_, ?_, HB.out.alloc HB.out.size _⟩
          · have h := HLT.out
            rw [List.map_cons, by8_nat]
            exact h
          · rw [HD.out, dig_pos (by omega)]; simp
        case measure => simp [intOf]; omega
      · have hcells := (HO.out.alloc (.cells #[.int .u8 ((k : Int) % 256)] 5)).cells (g := g) rfl
        have HC := Lib.hid hcells
        clear ho hcells
        go_wp2_with (
          at_builtin
          refine wpList_append_own _ rfl _ _ _ rfl w.heap.size 5 i0 _ 1 1 Try.underlying65 hi0 hz0 hz1 hz2 rfl (by decide) _ 1 [.int .u8 ((k : Int) % 256)] rfl ?c1 _ D.length c (D.map by8) rfl ?c0 ?c2 ?c3 ?c4 ?c5 ?c6 ?_
          case c0 => simp
          case c1 => exact HLT.out
          case c2 => exact HC.out
          case c3 => exact by8_one D
          case c4 => simp only [maxLen]; omega
          case c5 => omega
          case c6 =>
            have h := HB.out.size
            simp only [World.alloc, Array.size_push]
            omega
          intro v6 w6 hown hgrow _
          have HO6 := Lib.hid hown
          have HG6 := Lib.hid hgrow
          clear hown hgrow)
        go_roundw
        case rel =>
          refine ⟨k / 256, by omega, by go_num, (k % 256).toUInt8 :: D, ?_, ?_, ?_⟩
          · have h := HO6.out
            rw [List.map_cons, by8_nat, List.length_cons, Nat.add_comm]
            exact h
          · rw [HD.out, dig_pos (by omega)]; simp
          · refine (HB.out.alloc HB.out.size (.cells #[.int .u8 ((k : Int) % 256)] 5)).grown HG6.out (by
              have := HB.out.size
              simp only [World.alloc, Array.size_push]
              omega) fun g hg => ?_
            exact (HLT.out.lt g hg).1
        case measure => simp [intOf]; omega
    · obtain rfl : k = 0 := by omega
      obtain ⟨d, hdl⟩ : ∃ d, D.length = d := ⟨_, rfl⟩
      have hput : put n = d.toUInt8 :: D := by rw [put, HD.out, dig_zero, List.nil_append, hdl]
      have HPUT := Lib.hid hput
      rw [hdl] at ho hD8
      have HDL := Lib.hid hdl
      have hw2 : IntKind.u8.wrap (d : Int) = (d : Int) := by rw [IntKind.wrap_u8]; omega
      have hc1 : (convert 65 9 (.slice (some ⟨wr.heap.size, 0, none⟩) 1 1)).run Try.prog (wr.alloc (Obj.cells #[Value.int IntKind.u8 (d : Int)] 5)) = .ok (.string ⟨#[d.toUInt8]⟩) (wr.alloc (Obj.cells #[Value.int IntKind.u8 (d : Int)] 5)) := conv_one _ _ d (by omega) (by simp)
      rcases ho.2 with ⟨rfl, rfl⟩ | ⟨g, c, _, rfl, _⟩
      · obtain rfl : D = [] := List.eq_nil_of_length_eq_zero hdl
        obtain ⟨X, hX⟩ : ∃ X : ByteArray, X = ⟨#[(0 : Nat).toUInt8]⟩ := ⟨_, rfl⟩
        obtain ⟨Y, hY⟩ : ∃ Y : ByteArray, Y = ⟨#[]⟩ := ⟨_, rfl⟩
        have hc3 : (convert 65 9 (.slice (some ⟨wr.heap.size, 0, none⟩) 1 1)).run Try.prog (wr.alloc (Obj.cells #[Value.int IntKind.u8 0] 5)) = .ok (.string X) (wr.alloc (Obj.cells #[Value.int IntKind.u8 0] 5)) := by rw [hX]; exact hc1
        have hc2 : (convert 65 9 (.slice none 0 0)).run Try.prog (wr.alloc (Obj.cells #[Value.int IntKind.u8 0] 5)) = .ok (.string Y) (wr.alloc (Obj.cells #[Value.int IntKind.u8 0] 5)) := by
          rw [hY]; exact Lib.run_convert_nil_bytes _ 65 9 5 0 Try.underlying65 Try.underlying5 Try.underlying9
        have hz1 : Y.size ≤ 8 := by rw [hY]; exact Nat.zero_le _
        have hz2 : X.size ≤ 1 := by rw [hX]; exact Nat.le_refl _
        have HHH : Hid ((X ++ Y).data.toList = put n) := by
          show _ = _
          rw [app_data, hput, hX, hY]; rfl
        clear ho hput hdl hD8 hc1 hw2 hX hY
        go_wp2
        go_ret
        exact ⟨⟨_, HHH.out, rfl⟩, HB.out.alloc HB.out.size _⟩
      · have hcells := (ho.alloc (.cells #[Value.int IntKind.u8 (d : Int)] 5)).cells (g := g) rfl
        have hc2 := conv_tail (wr.alloc (Obj.cells #[Value.int IntKind.u8 (d : Int)] 5)) ⟨g, 0, none⟩ c D (fun j hj => hcells j _ (by rw [List.getElem?_map, List.getElem?_eq_getElem hj]; rfl))
        rw [hdl] at hc2
        obtain ⟨X, hX⟩ : ∃ X : ByteArray, X = ⟨#[d.toUInt8]⟩ := ⟨_, rfl⟩
        obtain ⟨Y, hY⟩ : ∃ Y : ByteArray, Y = ⟨D.toArray⟩ := ⟨_, rfl⟩
        have hz1 : Y.size ≤ 8 := by rw [hY, Lib.size_eq]; simp [hdl]; exact hD8
        have hz2 : X.size ≤ 1 := by rw [hX]; exact Nat.le_refl _
        have HHH : Hid ((X ++ Y).data.toList = put n) := by
          show _ = _
          rw [app_data, hput, hX, hY]; rfl
        rw [← hX] at hc1
        rw [← hY] at hc2
        clear ho hput hdl hcells hX hY
        go_wp2
        go_ret
        exact ⟨⟨_, HHH.out, rfl⟩, HB.out.alloc HB.out.size _⟩
set_option maxHeartbeats 4000000 in
set_option maxRecDepth 1000000 in
theorem refPutText_any (t : ByteArray) (w : World) (ht : t.size ≤ 140737488355000) :
    Calls Try.prog 39 #[.string t] w fun e w' => St (putText t.data.toList) e ∧ Below w.heap.size w w' := by
  have hz : t.data.toList.length = t.size := (Lib.size_eq t).symm
  have HZ := Lib.hid hz
  have hwr : IntKind.u64.wrap (t.size : Int) = (t.size : Int) := by rw [IntKind.wrap_u64]; omega
  clear hz
  go_enter Try.func39, Try.ntmps39
  go_wp2_with (go_at_call 41; refine (refPut_any _ _ (by omega)).mono ?_; rintro e w1 ⟨⟨T, hT, rfl⟩, hb⟩; have HS := put_size hT (by omega); have HT := Lib.hid hT; have HB := Lib.hid hb; clear hT hb)
  go_ret
  exact ⟨⟨T ++ t, by rw [app_data, HT.out, ← HZ.out]; rfl, rfl⟩, HB.out⟩
end Go.Proofs.Ytahlilhdiklemaa.Wire
