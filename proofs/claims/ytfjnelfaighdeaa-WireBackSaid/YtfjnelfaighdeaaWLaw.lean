/-
  CONTRACTS of the laws' own helpers shown, small, same at this program. By an AI agent; no person has read it.
-/
import Derived.Test.YtfjnelfaighdeaaWTakeAll
import Derived.DataShut
namespace Go.Proofs.Ytfjnelfaighdeaa.Wire
open Go.RowKit

theorem nat_u64 {a : Int} (h : (Lit.int .u64 a).wf = true) : ∃ n : Nat, a = (n : Int) ∧ n < 18446744073709551616 := by
  rw [Lit.wf_int_iff] at h
  have e1 : IntKind.u64.min = 0 := by decide
  have e2 : IntKind.u64.max = 18446744073709551615 := by decide
  rw [e1, e2] at h
  exact ⟨a.toNat, by omega, by omega⟩
theorem int_i64 {a : Int} (h : (Lit.int .i64 a).wf = true) : -9223372036854775808 ≤ a ∧ a ≤ 9223372036854775807 := by
  rw [Lit.wf_int_iff] at h
  have e1 : IntKind.i64.min = -9223372036854775808 := by decide
  have e2 : IntKind.i64.max = 9223372036854775807 := by decide
  rw [e1, e2] at h
  exact h
theorem ret_bool {a b : Bool} (h : a = b) : Ending.returned (.bool a) = .returned (.bool b) := by rw [h]

theorem take_bel (s : ByteArray) (w : World) (hs : s.size ≤ 140737488355328) :
    Calls Try.prog 11 #[.string s] w fun e w' => Tk (tk s.data.toList) e ∧ Below w.heap.size w w' :=
  (take_any s w hs).mono fun _ _ ⟨h, k, hk⟩ => ⟨h, hk ▸ bdrew w k⟩
theorem text_bel (s : ByteArray) (m : Int) (w : World) (hs : s.size ≤ 140737488355328) (hm : -9223372036854775808 ≤ m ∧ m ≤ 9223372036854775807) :
    Calls Try.prog 13 #[.string s, .int .i64 m] w fun e w' => Tx (text s.data.toList m) e ∧ Below w.heap.size w w' :=
  (text_any s m w hs hm).mono fun _ _ ⟨h, k, hk⟩ => ⟨h, hk ▸ bdrew w k⟩

theorem shown_any (w : World) : Calls Try.prog 10 #[] w fun e w' => e = .returned (.bool true) ∧ Below w.heap.size w w' := by
  go_enter Try.func10, Try.ntmps10
  go_wp2_with (go_at_call 21; refine (put_any 258 _ (by decide)).mono ?_; rintro e w1 ⟨⟨T, hT, rfl⟩, hb⟩; have HB := Lib.hid hb; have hq : (T.toList == [2, 1, 2]) = true := (by rw [Lib.toList_data, hT, put_258]; rfl); clear hT hb)
  go_ret
  exact ⟨rfl, HB.out⟩

def sumz (ys : List ByteArray) : Nat := (bl ys).flatten.length
theorem sumz_take {ys : List ByteArray} {k : Nat} {y : ByteArray} (hk : k < ys.length) (hy : ys.getD k ByteArray.empty = y) : sumz (ys.take (k + 1)) = sumz (ys.take k) + y.size := by
  have e : ys[k] = y := by rw [← hy]; simp [List.getD, hk]
  rw [List.take_succ_eq_append_getElem hk, e, Lib.size_eq]
  simp [sumz, bl]
theorem sumz_bound {ys : List ByteArray} (h : ∀ y ∈ ys, y.size ≤ 2000) : sumz ys ≤ 2000 * ys.length := by
  induction ys with
  | nil => simp [sumz, bl]
  | cons y ys ih =>
    have h1 := h y (by simp)
    rw [Lib.size_eq] at h1
    have h2 := ih fun x hx => h x (by simp [hx])
    have e : sumz (y :: ys) = y.data.toList.length + sumz ys := by simp only [sumz, bl, List.map_cons, List.flatten_cons, List.length_append]
    rw [e, List.length_cons]; omega
def smallB (ys : List ByteArray) : Bool := decide (ys.length ≤ 100) && (ys.all (fun y => decide (y.size ≤ 2000)) && decide (sumz ys ≤ 4000))
theorem smallB_true {ys : List ByteArray} (h : smallB ys = true) : ys.length ≤ 100 ∧ (∀ y ∈ ys, y.size ≤ 2000) ∧ sumz ys ≤ 4000 := by
  simp only [smallB, Bool.and_eq_true, decide_eq_true_eq, List.all_eq_true] at h
  exact ⟨h.1, h.2.1, h.2.2⟩
theorem take_mem_step {ys : List ByteArray} {k : Nat} {y : ByteArray} {p : ByteArray → Prop} (hk : k < ys.length) (hy : ys.getD k ByteArray.empty = y) (h : ∀ x ∈ ys.take k, p x) (hp : p y) : ∀ x ∈ ys.take (k + 1), p x := by
  have e : ys[k] = y := by rw [← hy]; simp [List.getD, hk]
  rw [List.take_succ_eq_append_getElem hk, e]
  intro x hx
  rcases List.mem_append.1 hx with hx | hx
  · exact h x hx
  · rw [List.mem_singleton.1 hx]; exact hp
theorem getD_mem {ys : List ByteArray} {k : Nat} {y : ByteArray} (hk : k < ys.length) (hy : ys.getD k ByteArray.empty = y) : y ∈ ys := by
  have e : ys[k] = y := by rw [← hy]; simp [List.getD, hk]
  rw [← e]; exact List.getElem_mem hk

set_option maxHeartbeats 2000000 in
set_option maxRecDepth 1000000 in
theorem small_any (a : Option Addr) (cap : Nat) (ys : List ByteArray) (w : World) (hr : SReads w a ys) (hn : ys.length ≤ 9223372036854775807) (hz : ∀ y ∈ ys, y.size ≤ 9223372036854775807) :
    Calls Try.prog 18 #[.slice a ys.length cap] w fun e w' => e = .returned (.bool (smallB ys)) ∧ w = w' := by
  have HR := Lib.hid hr
  have HZ := Lib.hid hz
  clear hr hz
  by_cases h100 : ys.length ≤ 100
  · go_enter Try.func18, Try.ntmps18
    go_wp2
    go_loop [3, 4] (fun n i => ∃ k : Nat, k ≤ ys.length ∧ i = .int .i64 k ∧ n = .int .i64 (sumz (ys.take k)) ∧ Hid (∀ y ∈ ys.take k, y.size ≤ 2000)) (fun _ i => ys.length - (intOf i).toNat)
    case atStart => exact ⟨0, Nat.zero_le _, rfl, rfl, fun y hy => by simp at hy⟩
    case round =>
      obtain ⟨k, hk, rfl, rfl, HA⟩ := hrel
      have hsb := sumz_bound HA.out
      rw [List.length_take] at hsb
      by_cases hlt : k < ys.length
      · obtain ⟨b, off, rfl, hblt, hcell⟩ := HR.out k hlt
        obtain ⟨y, hy⟩ : ∃ y, ys.getD k ByteArray.empty = y := ⟨_, rfl⟩
        rw [hy] at hcell
        have hst := sumz_take hlt hy
        have hyz := HZ.out y (getD_mem hlt hy)
        have HY := Lib.hid hy
        have HST := Lib.hid hst
        obtain ⟨q, hq⟩ : ∃ q, sumz (ys.take k) = q := ⟨_, rfl⟩
        have HQ := Lib.hid hq
        rw [hq] at hsb ⊢
        clear hy hst hq
        by_cases hbig : y.size ≤ 2000
        · go_wp2
          go_round
          case rel => exact ⟨k + 1, by omega, by go_num, by rw [HST.out, HQ.out]; go_num, take_mem_step hlt HY.out HA.out hbig⟩
          case measure => simp [intOf]; omega
        · go_wp2
          go_ret
          refine ⟨ret_bool ?_, rfl⟩
          symm
          rw [← Bool.not_eq_true]
          intro h
          exact hbig ((smallB_true h).2.1 y (getD_mem hlt HY.out))
      · obtain rfl : k = ys.length := by omega
        rw [List.take_length]
        have HA2 := HA.out
        rw [List.take_length] at HA2
        have HA3 := Lib.hid HA2
        rw [List.take_length] at HA
        clear HA2
        go_wp2
        go_ret
        refine ⟨ret_bool ?_, rfl⟩
        have e : ys.all (fun y => decide (y.size ≤ 2000)) = true := List.all_eq_true.2 fun y hy => decide_eq_true (HA3.out y hy)
        unfold smallB
        rw [e, decide_eq_true h100, Bool.true_and, Bool.true_and]
        exact decide_eq_decide.2 (by omega)
  · go_enter Try.func18, Try.ntmps18
    go_wp2
    go_ret
    refine ⟨ret_bool ?_, rfl⟩
    simp [smallB, h100]

theorem bl_take_step {xs ys : List ByteArray} {k : Nat} {x y : ByteArray} (hx : k < xs.length) (hy : k < ys.length) (ex : xs.getD k ByteArray.empty = x) (ey : ys.getD k ByteArray.empty = y)
    (h : bl (xs.take k) = bl (ys.take k)) (he : x.data.toList = y.data.toList) : bl (xs.take (k + 1)) = bl (ys.take (k + 1)) := by
  have e1 : xs[k] = x := by rw [← ex]; simp [List.getD, hx]
  have e2 : ys[k] = y := by rw [← ey]; simp [List.getD, hy]
  rw [List.take_succ_eq_append_getElem hx, List.take_succ_eq_append_getElem hy, e1, e2]
  simp only [bl, List.map_append] at h ⊢
  rw [h]
  simp [he]
theorem bl_differ {xs ys : List ByteArray} {k : Nat} {x y : ByteArray} (hx : k < xs.length) (hy : k < ys.length) (ex : xs.getD k ByteArray.empty = x) (ey : ys.getD k ByteArray.empty = y)
    (he : x.data.toList ≠ y.data.toList) : bl xs ≠ bl ys := fun h => by
  have e1 : xs[k] = x := by rw [← ex]; simp [List.getD, hx]
  have e2 : ys[k] = y := by rw [← ey]; simp [List.getD, hy]
  have h1 := congrArg (·[k]?) h
  simp only [bl, List.getElem?_map, List.getElem?_eq_getElem hx, List.getElem?_eq_getElem hy, Option.map_some, e1, e2] at h1
  exact he (Option.some.inj h1)

set_option maxHeartbeats 2000000 in
set_option maxRecDepth 1000000 in
theorem same_any (a b : Option Addr) (c d : Nat) (xs ys : List ByteArray) (w : World) (hr : SReads w a xs) (hq : SReads w b ys) (hn : xs.length ≤ 140737488355328) :
    Calls Try.prog 17 #[.slice a xs.length c, .slice b ys.length d] w fun e w' => e = .returned (.bool (decide (bl xs = bl ys))) ∧ Below w.heap.size w w' := by
  have HR := Lib.hid hr
  have HQ := Lib.hid hq
  clear hr hq
  by_cases hl : xs.length = ys.length
  · obtain ⟨n, hxn⟩ : ∃ n, xs.length = n := ⟨_, rfl⟩
    have hyn : ys.length = n := by omega
    rw [hxn] at hn ⊢
    rw [hyn]
    have HX := Lib.hid hxn
    have HY := Lib.hid hyn
    clear hl hxn hyn
    go_enter Try.func17, Try.ntmps17
    go_wp2
    go_loopw [5] (fun i wr => ∃ k d : Nat, k ≤ n ∧ i = .int .i64 k ∧ wr = w.drewN d ∧ Hid (bl (xs.take k) = bl (ys.take k))) (fun i _ => n - (intOf i).toNat)
    case atStart => exact ⟨0, 0, Nat.zero_le _, rfl, rfl, rfl⟩
    case round =>
      obtain ⟨k, d, hk, rfl, rfl, HA⟩ := hrel
      by_cases hlt : k < n
      · have hlx : k < xs.length := by rw [HX.out]; exact hlt
        have hly : k < ys.length := by rw [HY.out]; exact hlt
        obtain ⟨b1, o1, rfl, hb1, hc1⟩ := HR.out k hlx
        obtain ⟨b2, o2, rfl, hb2, hc2⟩ := HQ.out k hly
        obtain ⟨x, hx⟩ : ∃ x, xs.getD k ByteArray.empty = x := ⟨_, rfl⟩
        obtain ⟨y, hy⟩ : ∃ y, ys.getD k ByteArray.empty = y := ⟨_, rfl⟩
        rw [hx] at hc1
        rw [hy] at hc2
        have GX := Lib.hid hx
        have GY := Lib.hid hy
        have hk0 : (0 : Int) ≤ (k : Int) := by omega
        have hk1 : (k : Int) < (n : Int) := by omega
        clear hx hy
        by_cases he : x.data.toList = y.data.toList
        · have hb := eq_bool he
          have HE := Lib.hid he
          clear he
          go_wp2
          go_quiet (fail)
          go_wp2
          go_roundw
          case rel => exact ⟨k + 1, _, by omega, by go_num, rfl, bl_take_step hlx hly GX.out GY.out HA.out HE.out⟩
          case measure => simp [intOf]; omega
        · have hb := ne_bool he
          have HE := Lib.hid he
          clear he
          go_wp2
          go_quiet (fail)
          go_wp2
          go_ret
          refine ⟨ret_bool ?_, (bdrew w d).trans (bdrew _ _)⟩
          exact (decide_eq_false (bl_differ hlx hly GX.out GY.out HE.out)).symm
      · obtain rfl : k = n := by omega
        go_wp2
        go_ret
        refine ⟨ret_bool ?_, bdrew _ _⟩
        have h := HA.out
        rw [List.take_of_length_le (by rw [HX.out]; exact Nat.le_refl _), List.take_of_length_le (by rw [HY.out]; exact Nat.le_refl _)] at h
        exact (decide_eq_true h).symm
  · have hne : ((xs.length : Int) != (ys.length : Int)) = true := by simp; omega
    have hd : decide (bl xs = bl ys) = false := decide_eq_false fun h => hl (by rw [← bl_len, ← bl_len, h])
    have HD := Lib.hid hd
    clear hd
    go_enter Try.func17, Try.ntmps17
    go_wp2
    go_ret
    exact ⟨ret_bool HD.out.symm, Below.refl _ _⟩
end Go.Proofs.Ytfjnelfaighdeaa.Wire
