/-
  CONTRACTS of the laws' own helpers (letterlocklaw10): pick, who, same, light, row. By an AI agent; no person has read it.
-/
import Derived.Test.YtblgcpopcgnncaaERef5
import Derived.Test.YtblgcpopcgnncaaE2
import Derived.Test.YtblgcpopcgnncaaRng
import Derived.Test.YtblgcpopcgnncaaOrd
namespace Go.Proofs.Ytblgcpopcgnncaa.Tre
open Go Go.RowKit Wire Term Draw Reg Clo

set_option linter.unusedSimpArgs false
set_option linter.unusedVariables false
def pk (c : Int) (n : Nat) : Nat := (if c < 0 then (-(c + 1)).toNat else c.toNat) % n
theorem pk_lt (c : Int) {n : Nat} (hn : 0 < n) : pk c n < n := Nat.mod_lt _ hn
theorem pk_small {k n : Nat} (h : k < n) : pk (k : Int) n = k := by
  unfold pk
  rw [if_neg (by omega), show ((k : Int)).toNat = k by omega, Nat.mod_eq_of_lt h]
set_option maxHeartbeats 4000000 in
set_option maxRecDepth 1000000 in
theorem pick_any (c : Int) (n : Nat) (w : World) (hc : -9223372036854775808 ≤ c ∧ c ≤ 9223372036854775807) (hn : 0 < n) (hn2 : n ≤ 9223372036854775807) :
    Calls Try.prog 21 #[.int .i64 c, .int .i64 (n : Int)] w fun e w' => e = .returned (.int .i64 (pk c n : Int)) ∧ w' = w := by
  obtain ⟨hc1, hc2⟩ := hc
  have hn0 : (0 : Int) < (n : Int) := by omega
  by_cases hneg : c < 0
  · obtain ⟨q, hq⟩ : ∃ q : Nat, c + 1 = -(q : Int) := ⟨(-(c + 1)).toNat, by omega⟩
    obtain ⟨K, hK⟩ : ∃ K : Nat, q % n = K := ⟨_, rfl⟩
    have hrem : (c + 1).tmod (n : Int) = -(K : Int) := by rw [hq, Int.neg_tmod, ← Int.ofNat_tmod, hK]
    have hpk : Hid (pk c n = K) := by
      show pk c n = K
      unfold pk
      rw [if_pos hneg, show (-(c + 1)).toNat = q by omega, hK]
    clear hq hK
    go_enter Try.func21, Try.ntmps21
    go_wp2
    go_ret
    exact ⟨by rw [hpk.out]; simp, rfl⟩
  · obtain ⟨q, hq⟩ : ∃ q : Nat, c = (q : Int) := ⟨c.toNat, by omega⟩
    obtain ⟨K, hK⟩ : ∃ K : Nat, q % n = K := ⟨_, rfl⟩
    have hrem : c.tmod (n : Int) = (K : Int) := by rw [hq, ← Int.ofNat_tmod, hK]
    have hrem2 : c % (n : Int) = (K : Int) := by rw [hq, ← Int.natCast_emod, hK]
    have hc0 : 0 ≤ c := by omega
    have hpk : Hid (pk c n = K) := by
      show pk c n = K
      unfold pk
      rw [if_neg hneg, show c.toNat = q by omega, hK]
    clear hq hK
    go_enter Try.func21, Try.ntmps21
    go_wp2
    go_ret
    exact ⟨by rw [hpk.out]; rfl, rfl⟩
theorem row_cell {W : World} {b : Nat} {cs : Array Value} {T : TypeId} (h : W.heap[b]? = some (.cells cs T)) (j : Nat) : W.cell? ⟨b, j, none⟩ = cs[j]? := by
  simp only [World.cell?, h]
  simp
/-- One of eight names. -/
def whoB : List ByteArray := [⟨#[97, 110, 110, 97]⟩, ⟨#[98, 101, 110]⟩, ⟨#[99, 121]⟩, ⟨#[100, 111, 114, 97]⟩, ⟨#[101, 109, 105, 108]⟩, ⟨#[195, 164, 109, 105, 108]⟩, ⟨#[102, 97, 45, 49]⟩, ⟨#[103]⟩]
def whoN (m : Nat) : ByteArray := whoB.getD m ByteArray.empty
theorem who_inj {i j : Nat} (hi : i < 8) (hj : j < 8) (h : (whoN i).data.toList = (whoN j).data.toList) : i = j := by
  have : ∀ a : Fin 8, ∀ b : Fin 8, (whoN a.1).data.toList = (whoN b.1).data.toList → a.1 = b.1 := by decide +kernel
  exact this ⟨i, hi⟩ ⟨j, hj⟩ h
theorem who_size (m : Nat) : (whoN m).size ≤ 5 := by
  by_cases h : m < 8
  · have : ∀ a : Fin 8, (whoN a.1).size ≤ 5 := by decide +kernel
    exact this ⟨m, h⟩
  · have e : whoN m = ByteArray.empty := by
      unfold whoN
      rw [List.getD_eq_getElem?_getD, List.getElem?_eq_none (show whoB.length ≤ m by show 8 ≤ m; omega)]
      rfl
    rw [e]; decide
set_option maxHeartbeats 2000000 in
set_option maxRecDepth 1000000 in
theorem who_any (c : Int) (w : World) (hc : -9223372036854775808 ≤ c ∧ c ≤ 9223372036854775807) :
    Calls Try.prog 43 #[.int .i64 c] w fun e w' => e = .returned (.string (whoN (pk c 8))) ∧ Below w.heap.size w w' := by
  have hlt := pk_lt c (n := 8) (by decide)
  obtain ⟨m, hm⟩ : ∃ m, pk c 8 = m := ⟨_, rfl⟩
  have HP := Lib.hid fun w => pick_any c 8 w hc (by decide) (by decide)
  rw [hm] at HP hlt ⊢
  obtain ⟨s, hs⟩ : ∃ s, whoN m = s := ⟨_, rfl⟩
  have HS := Lib.hid hs
  rw [hs]
  clear hm hs
  go_enter Try.func43, Try.ntmps43
  go_wp2_with fail
  refine (HP.out _).mono ?_
  rintro e w1 ⟨rfl, rfl⟩
  dsimp only
  have hcell : (w.alloc (.cells (sv whoB).toArray 9)).cell? ⟨w.heap.size, m, none⟩ = some (.string s) := by
    have h : (w.alloc (.cells (sv whoB).toArray 9)).cell? ⟨w.heap.size, m, none⟩ = (sv whoB).toArray[m]? := row_cell (World.alloc_heap_new w _) _
    rw [h, ← HS.out]
    unfold sv whoN
    rw [List.getElem?_toArray, List.getElem?_map, List.getElem?_eq_getElem (show m < whoB.length from hlt)]
    simp [List.getD, show m < whoB.length from hlt]
  have e1 : (sv whoB).toArray = #[.string ⟨#[97, 110, 110, 97]⟩, .string ⟨#[98, 101, 110]⟩, .string ⟨#[99, 121]⟩, .string ⟨#[100, 111, 114, 97]⟩, .string ⟨#[101, 109, 105, 108]⟩, .string ⟨#[195, 164, 109, 105, 108]⟩, .string ⟨#[102, 97, 45, 49]⟩, .string ⟨#[103]⟩] := rfl
  rw [e1] at hcell
  have hlt8 : (m : Int) < 8 := by omega
  have hm0 : (0 : Int) ≤ (m : Int) := by omega
  clear e1
  go_wp2
  go_ret
  exact ⟨rfl, (Below.refl _ _).alloc (Nat.le_refl _) _⟩
set_option maxHeartbeats 2000000 in
set_option maxRecDepth 1000000 in
theorem same_any (a b : Option Addr) (c d : Nat) (xs ys : List ByteArray) (w : World) (hr : SReads w a xs) (hq : SReads w b ys) (hn : xs.length ≤ 140737488355328) :
    Calls Try.prog 17 #[.slice a xs.length c, .slice b ys.length d] w fun e w' => e = .returned (.bool (decide (bl xs = bl ys))) ∧ Below w.heap.size w w' := by
  have HR := Lib.hid hr
  have HQ := Lib.hid hq
  clear hr hq
  by_cases hl : xs.length = ys.length
  · obtain ⟨n, hxn⟩ : ∃ n, xs.length = n := ⟨_, rfl⟩
    have hyn : ys.length = n := by omega
    rw [hxn] at hn ⊢
    rw [hyn]
    have HX := Lib.hid hxn
    have HY := Lib.hid hyn
    clear hl hxn hyn
    go_enter Try.func17, Try.ntmps17
    go_wp2
    go_loopw [5] (fun i wr => ∃ k d : Nat, k ≤ n ∧ i = .int .i64 k ∧ wr = w.drewN d ∧ Hid (bl (xs.take k) = bl (ys.take k))) (fun i _ => n - (intOf i).toNat)
    case atStart => exact ⟨0, 0, Nat.zero_le _, rfl, rfl, rfl⟩
    case round =>
      obtain ⟨k, d, hk, rfl, rfl, HA⟩ := hrel
      by_cases hlt : k < n
      · have hlx : k < xs.length := by rw [HX.out]; exact hlt
        have hly : k < ys.length := by rw [HY.out]; exact hlt
        obtain ⟨b1, o1, rfl, hb1, hc1⟩ := HR.out k hlx
        obtain ⟨b2, o2, rfl, hb2, hc2⟩ := HQ.out k hly
        obtain ⟨x, hx⟩ : ∃ x, xs.getD k ByteArray.empty = x := ⟨_, rfl⟩
        obtain ⟨y, hy⟩ : ∃ y, ys.getD k ByteArray.empty = y := ⟨_, rfl⟩
        rw [hx] at hc1
        rw [hy] at hc2
        have GX := Lib.hid hx
        have GY := Lib.hid hy
        have hk0 : (0 : Int) ≤ (k : Int) := by omega
        have hk1 : (k : Int) < (n : Int) := by omega
        clear hx hy
        by_cases he : x.data.toList = y.data.toList
        · have hb := eq_bool he
          have HE := Lib.hid he
          clear he
          go_wp2
          go_quiet (fail)
          go_wp2
          go_roundw
          case rel => exact ⟨k + 1, _, by omega, by go_num, rfl, bl_take_step hlx hly GX.out GY.out HA.out HE.out⟩
          case measure => simp [intOf]; omega
        · have hb := ne_bool he
          have HE := Lib.hid he
          clear he
          go_wp2
          go_quiet (fail)
          go_wp2
          go_ret
          refine ⟨ret_bool ?_, (bdrew w d).trans (bdrew _ _)⟩
          exact (decide_eq_false (bl_differ hlx hly GX.out GY.out HE.out)).symm
      · obtain rfl : k = n := by omega
        go_wp2
        go_ret
        refine ⟨ret_bool ?_, bdrew _ _⟩
        have h := HA.out
        rw [List.take_of_length_le (by rw [HX.out]; exact Nat.le_refl _), List.take_of_length_le (by rw [HY.out]; exact Nat.le_refl _)] at h
        exact (decide_eq_true h).symm
  · have hne : ((xs.length : Int) != (ys.length : Int)) = true := by simp; omega
    have hd : decide (bl xs = bl ys) = false := decide_eq_false fun h => hl (by rw [← bl_len, ← bl_len, h])
    have HD := Lib.hid hd
    clear hd
    go_enter Try.func17, Try.ntmps17
    go_wp2
    go_ret
    exact ⟨ret_bool HD.out.symm, Below.refl _ _⟩

theorem wrap64_i64 (x : Int) : wrap64 x = IntKind.i64.wrap x := by
  rw [IntKind.wrap_i64]
  simp only [wrap64]
theorem sum_one {ys : List ByteArray} {y : ByteArray} (h : y ∈ ys) : y.size ≤ (bl ys).flatten.length := by
  induction ys with
  | nil => cases h
  | cons x t ih =>
    have e : (bl (x :: t)).flatten.length = x.size + (bl t).flatten.length := by rw [show x.size = x.data.toList.length from Lib.size_eq x]; simp [bl]
    rcases List.mem_cons.1 h with rfl | h
    · omega
    · have := ih h; omega
theorem sum_all {ys : List ByteArray} (h : ∀ y ∈ ys, y.size ≤ 140737488355328) : (bl ys).flatten.length ≤ 140737488355328 * ys.length := by
  induction ys with
  | nil => simp [bl]
  | cons x t ih =>
    have e : (bl (x :: t)).flatten.length = x.size + (bl t).flatten.length := by rw [show x.size = x.data.toList.length from Lib.size_eq x]; simp [bl]
    have h1 := h x (by simp)
    have h2 := ih (fun y hy => h y (by simp [hy]))
    rw [e, List.length_cons]; omega
theorem sum_step' {ys : List ByteArray} {k : Nat} {y : ByteArray} (hk : k < ys.length) (hy : ys.getD k ByteArray.empty = y) : (bl (ys.take (k + 1))).flatten.length = (bl (ys.take k)).flatten.length + y.size := by
  have e : ys[k] = y := by rw [← hy]; simp [List.getD, hk]
  rw [List.take_succ_eq_append_getElem hk, e]
  rw [show y.size = y.data.toList.length from Lib.size_eq y]
  simp [bl]
/-- Few terms, and short ones, if it says so. -/
def LightE (ys : List ByteArray) (e : Ending) : Prop := ∃ b : Bool, (b = true → ys.length ≤ 20 ∧ ∀ y ∈ ys, y.size ≤ 6000) ∧ e = .returned (.bool b)
theorem light_no (ys : List ByteArray) : LightE ys (.returned (.bool false)) := ⟨false, (fun h => by cases h), rfl⟩
set_option maxHeartbeats 4000000 in
set_option maxRecDepth 1000000 in
theorem light_any (a : Option Addr) (c : Nat) (ys : List ByteArray) (w : World) (hr : SReads w a ys) (hn : ys.length ≤ 140737488355328) (hz : ∀ y ∈ ys, y.size ≤ 140737488355328) :
    Calls Try.prog 10 #[.slice a ys.length c] w fun e w' => LightE ys e ∧ w = w' := by
  have HR := Lib.hid hr
  have HZ := Lib.hid hz
  clear hr hz
  go_enter Try.func10, Try.ntmps10
  go_wp2_with fail
  go_loopw [3, 4] (fun s i wr => ∃ (k : Nat) (V : Int), k ≤ ys.length ∧ i = .int .i64 k ∧ s = .int .i64 V ∧ wr = w ∧ Hid (ys.length ≤ 20 → V = ((bl (ys.take k)).flatten.length : Nat))) (fun _ i _ => ys.length - (intOf i).toNat)
  case atStart => exact ⟨0, 0, Nat.zero_le _, rfl, rfl, rfl, Lib.hid fun _ => by simp [bl]⟩
  case round =>
    obtain ⟨k, V, hk, rfl, rfl, rfl, HA⟩ := hrel
    by_cases hlt : k < ys.length
    · obtain ⟨b, off, rfl, hblt, hcell⟩ := HR.out k hlt
      obtain ⟨y, hy⟩ : ∃ y, ys.getD k ByteArray.empty = y := ⟨_, rfl⟩
      rw [hy] at hcell
      have HY := Lib.hid hy
      have HV : Hid (ys.length ≤ 20 → IntKind.i64.wrap (V + (y.size : Int)) = ((bl (ys.take (k + 1))).flatten.length : Nat)) := Lib.hid fun h => by
        have h1 := sum_step' hlt hy
        have h2 := sum_all (ys := ys.take (k + 1)) (fun y hy => HZ.out y (List.mem_of_mem_take hy))
        rw [List.length_take] at h2
        rw [HA.out h, IntKind.wrap_i64]
        omega
      clear hy
      go_wp2_with fail
      go_roundw
      case rel => exact ⟨k + 1, _, by omega, by go_num, rfl, by trivial, Lib.hid fun h => (wrap64_i64 _).trans (HV.out h)⟩
      case measure => simp [intOf]; omega
    · obtain rfl : k = ys.length := by omega
      have HV := HA.out
      rw [List.take_length] at HV
      by_cases h1 : (ys.length : Int) ≤ 20
      · by_cases h2 : V ≤ 6000
        · have HF : Hid (ys.length ≤ 20 ∧ ∀ y ∈ ys, y.size ≤ 6000) := ⟨by omega, fun y hy => by have := sum_one hy; have := HV (by omega); omega⟩
          clear HV
          go_wp2_with fail
          go_ret
          exact ⟨⟨_, fun _ => HF.out, rfl⟩, rfl⟩
        · clear HV
          go_wp2_with fail
          go_ret
          exact ⟨light_no ys, rfl⟩
      · clear HV
        go_wp2_with fail
        go_ret
        exact ⟨light_no ys, rfl⟩
theorem tdiv8_in {z : Int} (h1 : -9223372036854775808 ≤ z) (h2 : z ≤ 9223372036854775807) : -9223372036854775808 ≤ z.tdiv 8 ∧ z.tdiv 8 ≤ 9223372036854775807 := by
  rcases Int.le_total 0 z with h | h
  · rw [Int.tdiv_eq_ediv_of_nonneg h]; omega
  · obtain ⟨m, rfl⟩ : ∃ m : Int, z = -m := ⟨-z, by omega⟩
    rw [Int.neg_tdiv, Int.tdiv_eq_ediv_of_nonneg (by omega)]
    omega
/-- The leaf that a raw number speaks of. -/
def lfOf (z : Int) : Tm := lf (whoN (pk z 8)).data.toList (pk (z.tdiv 8) 4)
def rowL (zs : List Int) : List Tm := (zs.take 8).map lfOf
theorem who_len (m : Nat) : (whoN m).data.toList.length ≤ 100 := by have := who_size m; rw [Lib.size_eq] at this; omega
theorem lfOf_sz (z : Int) : Sz 2 (lfOf z) ∧ (lfOf z).length ≤ 121 := by
  have h4 := pk_lt (z.tdiv 8) (n := 4) (by decide)
  have := lf_sz (f := (whoN (pk z 8)).data.toList) (v := pk (z.tdiv 8) 4) (who_len _) (by omega)
  have h2 := who_len (pk z 8)
  exact ⟨this.1, by unfold lfOf; omega⟩
theorem lfOf_leaf (z : Int) : isLeaf (lfOf z) = true := by
  have h4 := pk_lt (z.tdiv 8) (n := 4) (by decide)
  exact lf_leaf (who_len _) (by omega)
theorem rowL_len (zs : List Int) : (rowL zs).length = min 8 zs.length := by simp [rowL]
theorem rowL_mem {zs : List Int} {t : Tm} (h : t ∈ rowL zs) : (Sz 2 t ∧ t.length ≤ 121) ∧ isLeaf t = true := by
  obtain ⟨z, _, rfl⟩ := List.mem_map.1 h
  exact ⟨lfOf_sz z, lfOf_leaf z⟩
theorem rowL_step {zs : List Int} {k : Nat} (hk : k < zs.length) (h8 : k < 8) : (zs.take (k + 1)).map lfOf = (zs.take k).map lfOf ++ [lfOf (zs.getD k 0)] := by
  rw [List.take_succ_eq_append_getElem hk, List.map_append]
  congr 1
  simp [List.getD, hk]
theorem Bel.call {w0 w1 w2 : World} (h : Below w0.heap.size w0 w1) (h2 : Below w1.heap.size w1 w2) : Below w0.heap.size w0 w2 := h.trans (h2.mono h.size)
theorem sr_fix {x : Tm} {f : Int} {e : Ending} (h : Sr (x, f) e) : e = .returned (.tuple #[.string ⟨⟨x⟩⟩, .int .i64 f]) := by
  obtain ⟨T, hT, rfl⟩ := h
  have hT' : T.data.toList = x := hT
  rw [show T = ⟨⟨x⟩⟩ from str_eq (by rw [hT'])]
/-- Leaves in a row of one's own. -/
def RowO (w : World) (x : List Tm) (v : Value) (wr : World) : Prop := ∃ ys : List ByteArray, bl ys = x ∧ wr.ownsRow w.heap.size 9 1 v ys.length (sv ys) ∧ Below w.heap.size w wr
set_option maxHeartbeats 4000000 in
set_option maxRecDepth 1000000 in
theorem row_any (a : Option Addr) (c : Nat) (zs : List Int) (w : World) (hr : IReads w a zs) (hn : zs.length ≤ 9223372036854775807):
    Calls Try.prog 20 #[.slice a zs.length c] w fun e w' => Ob w w' (rowL zs) e ∧ Below w.heap.size w w' := by
  obtain ⟨i0, hi0, hz0, hz1, hz2⟩ := info_parts str_info
  have HR := Lib.hid hr
  have HWH : Hid (∀ (z : Int) (w : World), -9223372036854775808 ≤ z ∧ z ≤ 9223372036854775807 → Calls Try.prog 43 #[.int .i64 z] w fun e w' => e = .returned (.string (whoN (pk z 8))) ∧ Below w.heap.size w w') := Lib.hid fun z w h => who_any z w h
  have HPI : Hid (∀ (z : Int) (w : World), -9223372036854775808 ≤ z ∧ z ≤ 9223372036854775807 → Calls Try.prog 21 #[.int .i64 (z.tdiv 8), .int .i64 4] w fun e w' => e = .returned (.int .i64 (pk (z.tdiv 8) 4 : Int)) ∧ w' = w) := Lib.hid fun z w h => pick_any (z.tdiv 8) 4 w (tdiv8_in h.1 h.2) (by decide) (by decide)
  have HLF : Hid (∀ (z : Int) (w : World), Calls Try.prog 12 #[.string (whoN (pk z 8)), .int .u64 (pk (z.tdiv 8) 4 : Int)] w fun e w' => e = .returned (.tuple #[.string ⟨⟨lfOf z⟩⟩, .int .i64 0]) ∧ Below w.heap.size w w') := Lib.hid fun z w => by
    have h4 := pk_lt (z.tdiv 8) (n := 4) (by decide)
    have := rleafT_any (whoN (pk z 8)) (pk (z.tdiv 8) 4) w (by have := who_size (pk z 8); omega) (by omega)
    rw [leafT_is (who_len _) (by omega)] at this
    exact this.mono fun e w' h => ⟨sr_fix h.1, h.2⟩
  clear hr
  go_enter Try.func20, Try.ntmps20
  go_wp2_with fail
  go_loopw [3, 4] (fun v i wr => ∃ (k : Nat) (V : Value), k ≤ zs.length ∧ k ≤ 8 ∧ i = .int .i64 (k : Int) ∧ V = v ∧ Hid (RowO w ((zs.take k).map lfOf) V wr)) (fun _ i _ => 8 - (intOf i).toNat)
  case atStart => exact ⟨0, _, Nat.zero_le _, Nat.zero_le _, rfl, rfl, Lib.hid ⟨[], rfl, World.ownsRow_nil _ _ _ _, Below.refl _ _⟩⟩
  case round =>
    obtain ⟨k, v, hk, hk8, rfl, rfl, HO⟩ := hrel
    obtain ⟨qs, hq, hown, hbel⟩ := HO.out
    have HOW := Lib.hid hown
    have HBL := Lib.hid hbel
    have HQ := Lib.hid hq
    have hzl : qs.length = k := by
      have := congrArg List.length hq
      simp only [bl_len, List.length_map, List.length_take] at this
      omega
    clear hown hbel hq
    by_cases hlt : k < zs.length
    · by_cases h8 : k < 8
      · have hlt2 : (k : Int) < (zs.length : Int) := by omega
        have h82 : (k : Int) < 8 := by omega
        obtain ⟨b, off, rfl, hblt, hcell0, hzr1, hzr2⟩ := HR.out k hlt
        have hcell := (HBL.out.cell (p := ⟨b, off + k, none⟩) hblt).trans hcell0
        obtain ⟨z, hzz⟩ : ∃ z, zs.getD k 0 = z := ⟨_, rfl⟩
        rw [hzz] at hcell hzr1 hzr2
        have HZZ := Lib.hid hzz
        clear hcell0 hzz
        go_wp2_with fail
        have hbr : b < wr.heap.size := Nat.lt_of_lt_of_le hblt HBL.out.size
        have hdr := Below.drewN' (Below.refl wr.heap.size wr) 1
        have hk0 : (0 : Int) ≤ (k : Int) := by omega
        have h4 := pk_lt (z.tdiv 8) (n := 4) (by decide)
        have hwu : IntKind.u64.wrap (pk (z.tdiv 8) 4 : Int) = (pk (z.tdiv 8) 4 : Int) := by rw [IntKind.wrap_u64]; omega
        have hqw : IntKind.i64.wrap (z.tdiv 8) = z.tdiv 8 := by have := tdiv8_in hzr1 hzr2; rw [IntKind.wrap_i64]; omega
        refine Ord.region_lit (S := fun w' => Below wr.heap.size wr w') (by kernel_rfl) (by kernel_rfl) hdr ?_
        clear hdr
        refine Ord.stepR (v := ?_) (by rfl) ?_ ?_
        rotate_left
        · intro w' hSw
          have hc' := (hSw.cell (p := ⟨b, off + k, none⟩) hbr).trans hcell
          go_simp
          try with_reducible rfl
        try simp only [Act.put, List.setIfInBounds_toArray, List.set_cons_zero, List.set_cons_succ]
        refine Ord.stepR (v := ?_) (by rfl) ?_ ?_
        rotate_left
        · intro w' hSw
          have hc' := (hSw.cell (p := ⟨b, off + k, none⟩) hbr).trans hcell
          go_simp
          try with_reducible rfl
        try simp only [Act.put, List.setIfInBounds_toArray, List.set_cons_zero, List.set_cons_succ]
        refine Ord.stepR (v := ?_) (by rfl) ?_ ?_
        rotate_left
        · intro w' hSw
          have hc' := (hSw.cell (p := ⟨b, off + k, none⟩) hbr).trans hcell
          go_simp
          try with_reducible rfl
        try simp only [Act.put, List.setIfInBounds_toArray, List.set_cons_zero, List.set_cons_succ]
        refine Ord.stepR (v := ?_) (by rfl) ?_ ?_
        rotate_left
        · intro w' hSw
          have hc' := (hSw.cell (p := ⟨b, off + k, none⟩) hbr).trans hcell
          go_simp
          try with_reducible rfl
        try simp only [Act.put, List.setIfInBounds_toArray, List.set_cons_zero, List.set_cons_succ]
        refine Ord.stepC (v := .string (whoN (pk z 8))) (by rfl) ?_ (fun w1 hS => (HWH.out z w1 ⟨hzr1, hzr2⟩).mono fun e w2 h => ⟨h.1, hS.trans (h.2.mono hS.size)⟩) ?_
        · intro w' hSw
          go_simp
          try with_reducible rfl
        try simp only [Act.put, List.setIfInBounds_toArray, List.set_cons_zero, List.set_cons_succ]
        refine Ord.stepR (v := ?_) (by rfl) ?_ ?_
        rotate_left
        · intro w' hSw
          have hc' := (hSw.cell (p := ⟨b, off + k, none⟩) hbr).trans hcell
          go_simp
          try with_reducible rfl
        try simp only [Act.put, List.setIfInBounds_toArray, List.set_cons_zero, List.set_cons_succ]
        refine Ord.stepR (v := ?_) (by rfl) ?_ ?_
        rotate_left
        · intro w' hSw
          have hc' := (hSw.cell (p := ⟨b, off + k, none⟩) hbr).trans hcell
          go_simp
          try with_reducible rfl
        try simp only [Act.put, List.setIfInBounds_toArray, List.set_cons_zero, List.set_cons_succ]
        refine Ord.stepR (v := ?_) (by rfl) ?_ ?_
        rotate_left
        · intro w' hSw
          have hc' := (hSw.cell (p := ⟨b, off + k, none⟩) hbr).trans hcell
          go_simp
          try with_reducible rfl
        try simp only [Act.put, List.setIfInBounds_toArray, List.set_cons_zero, List.set_cons_succ]
        refine Ord.stepR (v := ?_) (by rfl) ?_ ?_
        rotate_left
        · intro w' hSw
          have hc' := (hSw.cell (p := ⟨b, off + k, none⟩) hbr).trans hcell
          go_simp
          try with_reducible rfl
        try simp only [Act.put, List.setIfInBounds_toArray, List.set_cons_zero, List.set_cons_succ]
        refine Ord.stepR (v := ?_) (by rfl) ?_ ?_
        rotate_left
        · intro w' hSw
          have hc' := (hSw.cell (p := ⟨b, off + k, none⟩) hbr).trans hcell
          go_simp
          try with_reducible rfl
        try simp only [Act.put, List.setIfInBounds_toArray, List.set_cons_zero, List.set_cons_succ]
        refine Ord.stepC (v := .int .i64 (pk (z.tdiv 8) 4 : Int)) (by rfl) ?_ (fun w1 hS => (HPI.out z w1 ⟨hzr1, hzr2⟩).mono fun e w2 h => ⟨h.1, by rw [h.2]; exact hS⟩) ?_
        · intro w' hSw
          go_simp
          try with_reducible rfl
        try simp only [Act.put, List.setIfInBounds_toArray, List.set_cons_zero, List.set_cons_succ]
        refine Ord.stepR (v := ?_) (by rfl) ?_ ?_
        rotate_left
        · intro w' hSw
          have hc' := (hSw.cell (p := ⟨b, off + k, none⟩) hbr).trans hcell
          go_simp
          try with_reducible rfl
        try simp only [Act.put, List.setIfInBounds_toArray, List.set_cons_zero, List.set_cons_succ]
        refine Ord.stepC (v := .tuple #[.string ⟨⟨lfOf z⟩⟩, .int .i64 0]) (by rfl) ?_ (fun w1 hS => (HLF.out z w1).mono fun e w2 h => ⟨h.1, hS.trans (h.2.mono hS.size)⟩) ?_
        · intro w' hSw
          go_simp
          try with_reducible rfl
        try simp only [Act.put, List.setIfInBounds_toArray, List.set_cons_zero, List.set_cons_succ]
        refine Ord.stepR (v := ?_) (by rfl) ?_ ?_
        rotate_left
        · intro w' hSw
          have hc' := (hSw.cell (p := ⟨b, off + k, none⟩) hbr).trans hcell
          go_simp
          try with_reducible rfl
        try simp only [Act.put, List.setIfInBounds_toArray, List.set_cons_zero, List.set_cons_succ]
        refine Ord.stepR (v := ?_) (by rfl) ?_ ?_
        rotate_left
        · intro w' hSw
          have hc' := (hSw.cell (p := ⟨b, off + k, none⟩) hbr).trans hcell
          go_simp
          try with_reducible rfl
        try simp only [Act.put, List.setIfInBounds_toArray, List.set_cons_zero, List.set_cons_succ]
        refine Ord.stepR (v := ?_) (by rfl) ?_ ?_
        rotate_left
        · intro w' hSw
          have hc' := (hSw.cell (p := ⟨b, off + k, none⟩) hbr).trans hcell
          go_simp
          try with_reducible rfl
        try simp only [Act.put, List.setIfInBounds_toArray, List.set_cons_zero, List.set_cons_succ]
        refine Ord.stepR (v := ?_) (by rfl) ?_ ?_
        rotate_left
        · intro w' hSw
          have hc' := (hSw.cell (p := ⟨b, off + k, none⟩) hbr).trans hcell
          go_simp
          try with_reducible rfl
        try simp only [Act.put, List.setIfInBounds_toArray, List.set_cons_zero, List.set_cons_succ]
        refine Ord.stepR (v := ?_) (by rfl) ?_ ?_
        rotate_left
        · intro w' hSw
          have hc' := (hSw.cell (p := ⟨b, off + k, none⟩) hbr).trans hcell
          go_simp
          try with_reducible rfl
        try simp only [Act.put, List.setIfInBounds_toArray, List.set_cons_zero, List.set_cons_succ]
        refine Ord.stepD fun w2 hS2 => ?_
        have HB2 := Lib.hid hS2
        clear hS2 hcell
        go_wp2_with (first
          | (at_builtin
             refine wpList_append_own _ rfl _ _ _ rfl w.heap.size 9 i0 _ 1 16 Try.underlying23 hi0 hz0 hz1 hz2 rfl (by decide) v qs.length (sv qs) rfl ?c1 _ 1 1 [.string ⟨⟨lfOf z⟩⟩] rfl rfl ?c2 ?c3 ?c4 ?c5 ?c6 ?_
             case c1 => exact (own_below HOW.out HB2.out (Nat.le_refl _)).alloc _
             case c2 => exact lit_cells _ _ _
             case c3 => exact sv_one [⟨⟨lfOf z⟩⟩]
             case c4 => simp only [maxLen]; omega
             case c5 => omega
             case c6 =>
               have h := HBL.out.size
               have h2 := HB2.out.size
               simp only [World.alloc, Array.size_push]
               omega
             intro v6 w6 hown hgrow _
             have HO6 := Lib.hid hown
             have HG6 := Lib.hid hgrow
             clear hown hgrow))
        go_roundw
        case rel =>
          refine ⟨k + 1, _, by omega, by omega, by go_num, rfl, Lib.hid ⟨qs ++ [⟨⟨lfOf z⟩⟩], ?_, by simpa [sv] using HO6.out, ?_⟩⟩
          · rw [rowL_step hlt h8, HZZ.out, ← HQ.out]
            simp [bl]
          · have h1 := Bel.call HBL.out HB2.out
            refine (h1.alloc h1.size (.cells #[.string ⟨⟨lfOf z⟩⟩] 9)).grown HG6.out (by
              have := h1.size
              simp only [World.alloc, Array.size_push]
              omega) fun g hg => ?_
            exact (HOW.out.lt g hg).1
        case measure => simp [intOf]; omega
      · obtain rfl : k = 8 := by omega
        have h82 : ¬ ((8 : Nat) : Int) < 8 := by omega
        go_wp2
        go_ret
        exact ⟨⟨v, qs, by rw [HQ.out]; rfl, HOW.out, rfl⟩, HBL.out⟩
    · obtain rfl : k = zs.length := by omega
      have hlt2 : ¬ (zs.length : Int) < (zs.length : Int) := by omega
      go_wp2
      go_ret
      exact ⟨⟨v, qs, by rw [HQ.out]; unfold rowL; rw [List.take_of_length_le (Nat.le_refl _), List.take_of_length_le hk8], HOW.out, rfl⟩, HBL.out⟩
end Go.Proofs.Ytblgcpopcgnncaa.Tre
