/-
  CONTRACTS of the document's Put, PutText, PutAll at this program. By an AI agent; no person has read it.
-/
import Derived.Test.YtfjnelfaighdeaaWOne
import Derived.Laws.AppendOwnNone
import Derived.Lib.BufferRead
namespace Go.Proofs.Ytfjnelfaighdeaa.Wire
open Go.RowKit

theorem byte_info : (Try.prog.info? 5).map (fun i => (i.zero, i.size, i.bytes)) = some (some (.int .u8 0), 1, 1) := by kernel_rfl
theorem by8_one (D : List UInt8) : ∀ u ∈ D.map by8, u.oneCell' = true := fun u hu => by
  obtain ⟨y, _, rfl⟩ := List.mem_map.1 hu
  rfl
/-- The document's Put: what is left, and the bytes behind it. -/
def RPut (w : World) (n k : Nat) (v : Value) (wr : World) : Prop := ∃ D : List UInt8, wr.ownsRow w.heap.size 5 1 v D.length (D.map by8) ∧ dig n = dig k ++ D ∧ Below w.heap.size w wr
theorem by8_nat (k : Nat) : by8 (k % 256).toUInt8 = .int .u8 ((k : Int) % 256) := by rw [by8, u8_nat _ (by omega)]; simp

set_option maxHeartbeats 4000000 in
set_option maxRecDepth 1000000 in
theorem refPut_any (n : Nat) (w : World) (hn : n < 18446744073709551616) :
    Calls Try.prog 22 #[.int .u64 n] w fun e w' => St (put n) e ∧ Below w.heap.size w w' := by
  have HN := Lib.hid hn
  have hn' : (n : Int) ≤ 18446744073709551615 := by omega
  obtain ⟨i0, hi0, hz0, hz1, hz2⟩ := info_parts byte_info
  clear hn
  go_enter Try.func22, Try.ntmps22
  go_wp2
  go_loopw [0, 3] (fun m v wr => ∃ k : Nat, k ≤ n ∧ m = .int .u64 k ∧ Hid (RPut w n k v wr)) (fun m _ _ => (intOf m).toNat)
  case atStart => exact ⟨n, Nat.le_refl _, rfl, [], World.ownsRow_nil _ _ _ _, by simp, Below.refl _ _⟩
  case round =>
    obtain ⟨k, hkn, rfl, HP⟩ := hrel
    obtain ⟨D, ho, hd, hb⟩ := HP.out
    have hD8 : D.length ≤ 8 := by
      have := dig_len8 HN.out
      rw [hd, List.length_append] at this; omega
    have HO := Lib.hid ho
    have HD := Lib.hid hd
    have HB := Lib.hid hb
    clear hd hb
    by_cases hk : 0 < k
    · have hwr : IntKind.u8.wrap ((k : Int) % 256) = (k : Int) % 256 := by rw [IntKind.wrap_u8]; omega
      have hlit := World.ownsRow_lit (e := 5) (size := 1) (base := w.heap.size) wr #[.int .u8 ((k : Int) % 256)] 1 HB.out.size (by decide) rfl
      have HLT := Lib.hid hlit
      clear hlit
      rcases ho.2 with ⟨rfl, h0⟩ | ⟨g, c, _, rfl, _⟩
      · clear ho
        obtain rfl : D = [] := List.eq_nil_of_length_eq_zero h0
        go_wp2_with (at_builtin; refine wpList_append_own_none rfl _ _ _ rfl w.heap.size 5 i0 1 Try.underlying47 hi0 _ 1 _ rfl HLT.out rfl ?_)
        go_roundw
        case rel =>
          refine ⟨k / 256, by omega, by go_num, [(k % 256).toUInt8], ?_, ?_, HB.out.alloc HB.out.size _⟩
          · have h := HLT.out
            rw [List.map_cons, by8_nat]
            exact h
          · rw [HD.out, dig_pos (by omega)]; simp
        case measure => simp [intOf]; omega
      · have hcells := (HO.out.alloc (.cells #[.int .u8 ((k : Int) % 256)] 5)).cells (g := g) rfl
        have HC := Lib.hid hcells
        clear ho hcells
        go_wp2_with (
          at_builtin
          refine wpList_append_own _ rfl _ _ _ rfl w.heap.size 5 i0 _ 1 1 Try.underlying47 hi0 hz0 hz1 hz2 rfl (by decide) _ 1 [.int .u8 ((k : Int) % 256)] rfl ?c1 _ D.length c (D.map by8) rfl ?c0 ?c2 ?c3 ?c4 ?c5 ?c6 ?_
          case c0 => simp
          case c1 => exact HLT.out
          case c2 => exact HC.out
          case c3 => exact by8_one D
          case c4 => simp only [maxLen]; omega
          case c5 => omega
          case c6 =>
            have h := HB.out.size
            simp only [World.alloc, Array.size_push]
            omega
          intro v6 w6 hown hgrow _
          have HO6 := Lib.hid hown
          have HG6 := Lib.hid hgrow
          clear hown hgrow)
        go_roundw
        case rel =>
          refine ⟨k / 256, by omega, by go_num, (k % 256).toUInt8 :: D, ?_, ?_, ?_⟩
          · have h := HO6.out
            rw [List.map_cons, by8_nat, List.length_cons, Nat.add_comm]
            exact h
          · rw [HD.out, dig_pos (by omega)]; simp
          · refine (HB.out.alloc HB.out.size (.cells #[.int .u8 ((k : Int) % 256)] 5)).grown HG6.out (by
              have := HB.out.size
              simp only [World.alloc, Array.size_push]
              omega) fun g hg => ?_
            exact (HLT.out.lt g hg).1
        case measure => simp [intOf]; omega
    · obtain rfl : k = 0 := by omega
      obtain ⟨d, hdl⟩ : ∃ d, D.length = d := ⟨_, rfl⟩
      have hput : put n = d.toUInt8 :: D := by rw [put, HD.out, dig_zero, List.nil_append, hdl]
      have HPUT := Lib.hid hput
      rw [hdl] at ho hD8
      have HDL := Lib.hid hdl
      have hw2 : IntKind.u8.wrap (d : Int) = (d : Int) := by rw [IntKind.wrap_u8]; omega
      have hc1 : (convert 47 9 (.slice (some ⟨wr.heap.size, 0, none⟩) 1 1)).run Try.prog (wr.alloc (Obj.cells #[Value.int IntKind.u8 (d : Int)] 5)) = .ok (.string ⟨#[d.toUInt8]⟩) (wr.alloc (Obj.cells #[Value.int IntKind.u8 (d : Int)] 5)) := conv_one _ _ d (by omega) (by simp)
      rcases ho.2 with ⟨rfl, rfl⟩ | ⟨g, c, _, rfl, _⟩
      · obtain rfl : D = [] := List.eq_nil_of_length_eq_zero hdl
        obtain ⟨X, hX⟩ : ∃ X : ByteArray, X = ⟨#[(0 : Nat).toUInt8]⟩ := ⟨_, rfl⟩
        obtain ⟨Y, hY⟩ : ∃ Y : ByteArray, Y = ⟨#[]⟩ := ⟨_, rfl⟩
        have hc3 : (convert 47 9 (.slice (some ⟨wr.heap.size, 0, none⟩) 1 1)).run Try.prog (wr.alloc (Obj.cells #[Value.int IntKind.u8 0] 5)) = .ok (.string X) (wr.alloc (Obj.cells #[Value.int IntKind.u8 0] 5)) := by rw [hX]; exact hc1
        have hc2 : (convert 47 9 (.slice none 0 0)).run Try.prog (wr.alloc (Obj.cells #[Value.int IntKind.u8 0] 5)) = .ok (.string Y) (wr.alloc (Obj.cells #[Value.int IntKind.u8 0] 5)) := by
          rw [hY]; exact Lib.run_convert_nil_bytes _ 47 9 5 0 Try.underlying47 Try.underlying5 Try.underlying9
        have hz1 : Y.size ≤ 8 := by rw [hY]; exact Nat.zero_le _
        have hz2 : X.size ≤ 1 := by rw [hX]; exact Nat.le_refl _
        have HHH : Hid ((X ++ Y).data.toList = put n) := by
          show _ = _
          rw [app_data, hput, hX, hY]; rfl
        clear ho hput hdl hD8 hc1 hw2 hX hY
        go_wp2
        go_ret
        exact ⟨⟨_, HHH.out, rfl⟩, HB.out.alloc HB.out.size _⟩
      · have hcells := (ho.alloc (.cells #[Value.int IntKind.u8 (d : Int)] 5)).cells (g := g) rfl
        have hc2 := conv_tail (wr.alloc (Obj.cells #[Value.int IntKind.u8 (d : Int)] 5)) ⟨g, 0, none⟩ c D (fun j hj => hcells j _ (by rw [List.getElem?_map, List.getElem?_eq_getElem hj]; rfl))
        rw [hdl] at hc2
        obtain ⟨X, hX⟩ : ∃ X : ByteArray, X = ⟨#[d.toUInt8]⟩ := ⟨_, rfl⟩
        obtain ⟨Y, hY⟩ : ∃ Y : ByteArray, Y = ⟨D.toArray⟩ := ⟨_, rfl⟩
        have hz1 : Y.size ≤ 8 := by rw [hY, Lib.size_eq]; simp [hdl]; exact hD8
        have hz2 : X.size ≤ 1 := by rw [hX]; exact Nat.le_refl _
        have HHH : Hid ((X ++ Y).data.toList = put n) := by
          show _ = _
          rw [app_data, hput, hX, hY]; rfl
        rw [← hX] at hc1
        rw [← hY] at hc2
        clear ho hput hdl hcells hX hY
        go_wp2
        go_ret
        exact ⟨⟨_, HHH.out, rfl⟩, HB.out.alloc HB.out.size _⟩

set_option maxHeartbeats 4000000 in
set_option maxRecDepth 1000000 in
theorem refPutText_any (t : ByteArray) (w : World) (ht : t.size ≤ 140737488355000) :
    Calls Try.prog 20 #[.string t] w fun e w' => St (putText t.data.toList) e ∧ Below w.heap.size w w' := by
  have hz : t.data.toList.length = t.size := (Lib.size_eq t).symm
  have HZ := Lib.hid hz
  have hwr : IntKind.u64.wrap (t.size : Int) = (t.size : Int) := by rw [IntKind.wrap_u64]; omega
  clear hz
  go_enter Try.func20, Try.ntmps20
  go_wp2_with (go_at_call 22; refine (refPut_any _ _ (by omega)).mono ?_; rintro e w1 ⟨⟨T, hT, rfl⟩, hb⟩; have HS := put_size hT (by omega); have HT := Lib.hid hT; have HB := Lib.hid hb; clear hT hb)
  go_ret
  exact ⟨⟨T ++ t, by rw [app_data, HT.out, ← HZ.out]; rfl, rfl⟩, HB.out⟩

set_option maxHeartbeats 4000000 in
set_option maxRecDepth 1000000 in
theorem refPutAll_any (a : Option Addr) (cap : Nat) (ys : List ByteArray) (w : World) (hr : SReads w a ys) (hn : ys.length ≤ 100000) (hsum : (bl ys).flatten.length ≤ 1000000000000) :
    Calls Try.prog 24 #[.slice a ys.length cap] w fun e w' => St (putAll (bl ys)) e ∧ Below w.heap.size w w' := by
  have HR := Lib.hid hr
  have HS := Lib.hid hsum
  clear hr hsum
  have hwr : IntKind.u64.wrap (ys.length : Int) = (ys.length : Int) := by rw [IntKind.wrap_u64]; omega
  have hfl : ∀ k, (put ys.length ++ (bl (ys.take k)).flatMap putText).length ≤ 2000000000000 := fun k => by
    have h0 : (bl (ys.take k)).flatten.length ≤ (bl ys).flatten.length := by
      have h := List.take_append_drop k ys
      have e : (bl ys).flatten = (bl (ys.take k)).flatten ++ (bl (ys.drop k)).flatten := by
        rw [← List.flatten_append]
        unfold bl
        rw [← List.map_append, h]
      rw [e, List.length_append]; omega
    have h1 := flat_len (bl (ys.take k)) (fun l hl => by have := bl_each l hl; have := HS.out; omega)
    have h2 := (put_le (n := ys.length) (by omega)).2
    have h3 := HS.out
    have h4 := bl_len (ys.take k)
    rw [List.length_take] at h4
    rw [List.length_append]; omega
  have HFL := Lib.hid hfl
  clear hfl
  go_enter Try.func24, Try.ntmps24
  go_wp2_with (go_at_call 22; refine (refPut_any _ _ (by omega)).mono ?_; rintro e w1 ⟨⟨T, hT, rfl⟩, hb⟩; have HT := Lib.hid hT; have HB := Lib.hid hb; clear hT hb)
  go_loopw [3, 4] (fun v i wr => ∃ (k : Nat) (U : ByteArray), k ≤ ys.length ∧ U.size ≤ 2000000000000 ∧ i = .int .i64 k ∧ v = .string U ∧ Hid (U.data.toList = put ys.length ++ (bl (ys.take k)).flatMap putText) ∧ Hid (Below w.heap.size w wr)) (fun _ i _ => ys.length - (intOf i).toNat)
  case atStart =>
    refine ⟨0, T, Nat.zero_le _, ?_, rfl, rfl, ?_, HB⟩
    · have := put_size HT.out (by omega); omega
    · show _ = _
      rw [HT.out]; simp [bl]
  case round =>
    obtain ⟨k, U, hk, hUz, rfl, rfl, HU, HBW⟩ := hrel
    clear HT HB
    by_cases hlt : k < ys.length
    · obtain ⟨b, off, rfl, hblt, hcell⟩ := HR.out k hlt
      obtain ⟨y, hy⟩ : ∃ y, ys.getD k ByteArray.empty = y := ⟨_, rfl⟩
      rw [hy] at hcell
      have hyz := bl_at hlt hy
      have HSO := HS.out
      have hyb : y.size ≤ 1000000000000 := by omega
      have HY := Lib.hid hy
      clear hy hyz HSO
      rw [← HBW.out.cell (p := ⟨b, off + k, none⟩) hblt] at hcell
      go_wp2_with fail
      refine (refPutText_any y _ (by omega)).mono ?_
      rintro e w5 ⟨⟨V, hV, rfl⟩, hb5⟩
      have HB5 := Lib.hid (HBW.out.trans (hb5.mono HBW.out.size))
      have hnew : (U ++ V).data.toList = put ys.length ++ (bl (ys.take (k + 1))).flatMap putText := by
        have e : ys[k] = y := by rw [← HY.out]; simp [List.getD, hlt]
        rw [app_data, HU.out, hV, List.take_succ_eq_append_getElem hlt, e]
        simp [bl]
      have hnz : (U ++ V).size ≤ 2000000000000 := by rw [Lib.size_eq, hnew]; exact HFL.out _
      have hVz : V.size ≤ 1000000000009 := by
        have h1 := (put_le (n := y.data.toList.length) (by rw [← Lib.size_eq]; omega)).2
        rw [Lib.size_eq, hV, putText_len, ← Lib.size_eq] at *
        omega
      have HNW := Lib.hid hnew
      have HNZ := Lib.hid hnz
      clear hV hb5 hnew hnz
      go_wp2
      go_roundw
      case rel => exact ⟨k + 1, U ++ V, by omega, HNZ.out, by go_num, rfl, HNW, HB5⟩
      case measure => simp [intOf]; omega
    · obtain rfl : k = ys.length := by omega
      go_wp2
      go_ret
      refine ⟨⟨U, ?_, rfl⟩, HBW.out⟩
      rw [HU.out, List.take_length, putAll, bl_len]
end Go.Proofs.Ytfjnelfaighdeaa.Wire
