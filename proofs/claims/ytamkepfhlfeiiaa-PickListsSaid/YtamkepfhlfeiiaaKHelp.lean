/-
  CONTRACTS of the laws' own helpers (letterlocklaw13): which, same, keys, light. By an AI agent; no person has read it.
-/
import Derived.Test.YtamkepfhlfeiiaaKSpec
import Derived.Test.YtamkepfhlfeiiaaQ1
namespace Go.Proofs.Ytamkepfhlfeiiaa.Sto
open Go Go.RowKit Wire

set_option linter.unusedSimpArgs false
set_option linter.unusedVariables false
def pk (c : Int) (n : Nat) : Nat := (if c < 0 then (-(c + 1)).toNat else c.toNat) % n
theorem pk_lt (c : Int) {n : Nat} (hn : 0 < n) : pk c n < n := Nat.mod_lt _ hn
theorem pk_small {k n : Nat} (h : k < n) : pk (k : Int) n = k := by
  unfold pk
  rw [if_neg (by omega), show ((k : Int)).toNat = k by omega, Nat.mod_eq_of_lt h]
set_option maxHeartbeats 4000000 in
set_option maxRecDepth 1000000 in
theorem which_any (c : Int) (n : Nat) (w : World) (hc : -9223372036854775808 ≤ c ∧ c ≤ 9223372036854775807) (hn : 0 < n) (hn2 : n ≤ 9223372036854775807) :
    Calls Try.prog 21 #[.int .i64 c, .int .i64 (n : Int)] w fun e w' => e = .returned (.int .i64 (pk c n : Int)) ∧ w' = w := by
  obtain ⟨hc1, hc2⟩ := hc
  have hn0 : (0 : Int) < (n : Int) := by omega
  by_cases hneg : c < 0
  · obtain ⟨q, hq⟩ : ∃ q : Nat, c + 1 = -(q : Int) := ⟨(-(c + 1)).toNat, by omega⟩
    obtain ⟨K, hK⟩ : ∃ K : Nat, q % n = K := ⟨_, rfl⟩
    have hrem : (c + 1).tmod (n : Int) = -(K : Int) := by rw [hq, Int.neg_tmod, ← Int.ofNat_tmod, hK]
    have hpk : Hid (pk c n = K) := by
      show pk c n = K
      unfold pk
      rw [if_pos hneg, show (-(c + 1)).toNat = q by omega, hK]
    clear hq hK
    go_enter Try.func21, Try.ntmps21
    go_wp2
    go_ret
    exact ⟨by rw [hpk.out]; simp, rfl⟩
  · obtain ⟨q, hq⟩ : ∃ q : Nat, c = (q : Int) := ⟨c.toNat, by omega⟩
    obtain ⟨K, hK⟩ : ∃ K : Nat, q % n = K := ⟨_, rfl⟩
    have hrem : c.tmod (n : Int) = (K : Int) := by rw [hq, ← Int.ofNat_tmod, hK]
    have hrem2 : c % (n : Int) = (K : Int) := by rw [hq, ← Int.natCast_emod, hK]
    have hc0 : 0 ≤ c := by omega
    have hpk : Hid (pk c n = K) := by
      show pk c n = K
      unfold pk
      rw [if_neg hneg, show c.toNat = q by omega, hK]
    clear hq hK
    go_enter Try.func21, Try.ntmps21
    go_wp2
    go_ret
    exact ⟨by rw [hpk.out]; rfl, rfl⟩
theorem row_cell {W : World} {b : Nat} {cs : Array Value} {T : TypeId} (h : W.heap[b]? = some (.cells cs T)) (j : Nat) : W.cell? ⟨b, j, none⟩ = cs[j]? := by
  simp only [World.cell?, h]
  simp
set_option maxHeartbeats 2000000 in
set_option maxRecDepth 1000000 in
theorem same_any (a b : Option Addr) (c d : Nat) (xs ys : List ByteArray) (w : World) (hr : SReads w a xs) (hq : SReads w b ys) (hn : xs.length ≤ 9223372036854775807) :
    Calls Try.prog 15 #[.slice a xs.length c, .slice b ys.length d] w fun e w' => e = .returned (.bool (decide (bl xs = bl ys))) ∧ Below w.heap.size w w' := by
  have HR := Lib.hid hr
  have HQ := Lib.hid hq
  clear hr hq
  by_cases hl : xs.length = ys.length
  · obtain ⟨n, hxn⟩ : ∃ n, xs.length = n := ⟨_, rfl⟩
    have hyn : ys.length = n := by omega
    rw [hxn] at hn ⊢
    rw [hyn]
    have HX := Lib.hid hxn
    have HY := Lib.hid hyn
    clear hl hxn hyn
    go_enter Try.func15, Try.ntmps15
    go_wp2
    go_loopw [5] (fun i wr => ∃ k d : Nat, k ≤ n ∧ i = .int .i64 k ∧ wr = w.drewN d ∧ Hid (bl (xs.take k) = bl (ys.take k))) (fun i _ => n - (intOf i).toNat)
    case atStart => exact ⟨0, 0, Nat.zero_le _, rfl, rfl, rfl⟩
    case round =>
      obtain ⟨k, d, hk, rfl, rfl, HA⟩ := hrel
      by_cases hlt : k < n
      · have hlx : k < xs.length := by rw [HX.out]; exact hlt
        have hly : k < ys.length := by rw [HY.out]; exact hlt
        obtain ⟨b1, o1, rfl, hb1, hc1⟩ := HR.out k hlx
        obtain ⟨b2, o2, rfl, hb2, hc2⟩ := HQ.out k hly
        obtain ⟨x, hx⟩ : ∃ x, xs.getD k ByteArray.empty = x := ⟨_, rfl⟩
        obtain ⟨y, hy⟩ : ∃ y, ys.getD k ByteArray.empty = y := ⟨_, rfl⟩
        rw [hx] at hc1
        rw [hy] at hc2
        have GX := Lib.hid hx
        have GY := Lib.hid hy
        have hk0 : (0 : Int) ≤ (k : Int) := by omega
        have hk1 : (k : Int) < (n : Int) := by omega
        clear hx hy
        by_cases he : x.data.toList = y.data.toList
        · have hb := eq_bool he
          have HE := Lib.hid he
          clear he
          go_wp2
          go_quiet (fail)
          go_wp2
          go_roundw
          case rel => exact ⟨k + 1, _, by omega, by go_num, rfl, bl_take_step hlx hly GX.out GY.out HA.out HE.out⟩
          case measure => simp [intOf]; omega
        · have hb := ne_bool he
          have HE := Lib.hid he
          clear he
          go_wp2
          go_quiet (fail)
          go_wp2
          go_ret
          refine ⟨ret_bool ?_, (bdrew w d).trans (bdrew _ _)⟩
          exact (decide_eq_false (bl_differ hlx hly GX.out GY.out HE.out)).symm
      · obtain rfl : k = n := by omega
        go_wp2
        go_ret
        refine ⟨ret_bool ?_, bdrew _ _⟩
        have h := HA.out
        rw [List.take_of_length_le (by rw [HX.out]; exact Nat.le_refl _), List.take_of_length_le (by rw [HY.out]; exact Nat.le_refl _)] at h
        exact (decide_eq_true h).symm
  · have hne : ((xs.length : Int) != (ys.length : Int)) = true := by simp; omega
    have hd : decide (bl xs = bl ys) = false := decide_eq_false fun h => hl (by rw [← bl_len, ← bl_len, h])
    have HD := Lib.hid hd
    clear hd
    go_enter Try.func15, Try.ntmps15
    go_wp2
    go_ret
    exact ⟨ret_bool HD.out.symm, Below.refl _ _⟩


def keyK : List ByteArray := [⟨#[97]⟩, ⟨#[98]⟩, ⟨#[97, 98]⟩, ⟨#[99]⟩, ⟨#[110, 111, 110, 101]⟩]
/-- The key of a raw number. -/
def kyN (k : Int) : ByteArray := keyK.getD (pk k 5) ByteArray.empty
theorem kyN_small (k : Int) : (kyN k).size ≤ 4 := by
  have h := pk_lt k (n := 5) (by decide)
  unfold kyN
  generalize pk k 5 = m at h
  have h5 : m = 0 ∨ m = 1 ∨ m = 2 ∨ m = 3 ∨ m = 4 := by omega
  rcases h5 with rfl | rfl | rfl | rfl | rfl <;> decide
set_option maxHeartbeats 2000000 in
set_option maxRecDepth 1000000 in
theorem keys_any (k : Int) (hk : -9223372036854775808 ≤ k ∧ k ≤ 9223372036854775807) (w : World) : Calls Try.prog 11 #[.int .i64 k] w fun e w' => e = .returned (.string (kyN k)) ∧ Below w.heap.size w w' := by
  have HP : Hid (∀ w, Calls Try.prog 21 #[.int .i64 k, .int .i64 5] w fun e w' => e = .returned (.int .i64 (pk k 5 : Int)) ∧ w' = w) := Lib.hid fun w => which_any k 5 w hk (by decide) (by decide)
  have hlt := pk_lt k (n := 5) (by decide)
  obtain ⟨s, hs⟩ : ∃ s, kyN k = s := ⟨_, rfl⟩
  rw [hs]
  unfold kyN at hs
  generalize pk k 5 = m at HP hlt hs
  have hm0 : (0 : Int) ≤ (m : Int) := Int.natCast_nonneg m
  have hm5 : (m : Int) < 5 := by omega
  obtain ⟨W, hW⟩ : ∃ W, (w.alloc (.cells #[.string ⟨#[97]⟩, .string ⟨#[98]⟩, .string ⟨#[97, 98]⟩, .string ⟨#[99]⟩, .string ⟨#[110, 111, 110, 101]⟩] 9)) = W := ⟨_, rfl⟩
  have hbW : Below w.heap.size w W := by rw [← hW]; exact (Below.refl _ w).alloc (Nat.le_refl _) _
  have hcell : W.cell? ⟨w.heap.size, m, none⟩ = some (.string (keyK.getD m ByteArray.empty)) := by
    rw [← hW]
    have h5 : m = 0 ∨ m = 1 ∨ m = 2 ∨ m = 3 ∨ m = 4 := by omega
    rcases h5 with rfl | rfl | rfl | rfl | rfl <;> simp [go_sem, keyK]
  rw [hs] at hcell
  go_enter Try.func11, Try.ntmps11
  go_wp2_with fail
  clear hW
  with_reducible refine (HP.out _).mono ?_
  rintro e v1 ⟨rfl, rfl⟩
  dsimp only
  go_wp2
  go_ret
  exact ⟨rfl, hbW⟩
/-- What was put, as it came in. -/
structure Pu where
  k : Int
  blob : ByteArray
  gone : Bool
structure Pu.Ok (a : Pu) : Prop where
  k : -9223372036854775808 ≤ a.k ∧ a.k ≤ 9223372036854775807
  blob : a.blob.size ≤ 140737488351232
def PReads (w : World) (A : Option Addr) (n : Nat) (Z : Nat → Pu) : Prop := ∀ i, i < n → ∃ b off, A = some ⟨b, off, none⟩ ∧ b < w.heap.size ∧
  (w.cell? ⟨b, off + i * 3, none⟩ = some (.int .i64 (Z i).k) ∧ w.cell? ⟨b, off + i * 3 + 1, none⟩ = some (.string (Z i).blob) ∧ w.cell? ⟨b, off + i * 3 + 2, none⟩ = some (.bool (Z i).gone)) ∧ (Z i).Ok
theorem PReads.below {w w' : World} {B : Nat} {A : Option Addr} {n : Nat} {Z : Nat → Pu} (h : PReads w A n Z) (hb : Below B w w') (hB : w.heap.size ≤ B) : PReads w' A n Z := fun i hi => by
  obtain ⟨b, off, e, hlt, ⟨h0, h1, h2⟩, hk⟩ := h i hi
  have ec := fun j => hb.cell (p := ⟨b, j, none⟩) (Nat.lt_of_lt_of_le hlt hB)
  exact ⟨b, off, e, Nat.lt_of_lt_of_le hlt hb.size, ⟨(ec _).trans h0, (ec _).trans h1, (ec _).trans h2⟩, hk⟩
def LightE (n : Nat) (e : Ending) : Prop := ∃ b : Bool, (b = true → n ≤ 100) ∧ e = .returned (.bool b)
theorem light_no (n : Nat) : LightE n (.returned (.bool false)) := ⟨false, (fun h => by cases h), rfl⟩
set_option maxHeartbeats 4000000 in
set_option maxRecDepth 1000000 in
theorem light_any (A : Option Addr) (c n : Nat) (Z : Nat → Pu) (w : World) (hr : PReads w A n Z) (hn : n ≤ 9223372036854775807) :
    Calls Try.prog 9 #[.slice A n c] w fun e w' => LightE n e ∧ Below w.heap.size w w' := by
  have HR := Lib.hid hr
  clear hr
  go_enter Try.func9, Try.ntmps9
  go_wp2_with fail
  go_loopw [3, 4] (fun s i wr => ∃ (k d : Nat) (V : Int), k ≤ n ∧ i = .int .i64 k ∧ s = .int .i64 V ∧ wr = w.drewN d) (fun _ i _ => n - (intOf i).toNat)
  case atStart => exact ⟨0, 0, 0, Nat.zero_le _, rfl, rfl, rfl⟩
  case round =>
    obtain ⟨k, d, V, hk, rfl, rfl, rfl⟩ := hrel
    by_cases hlt : k < n
    · obtain ⟨b, off, rfl, hblt, ⟨c0, c1, c2⟩, _⟩ := HR.out k hlt
      have hki : (k : Int) < (n : Int) := by omega
      have hk0 : (0 : Int) ≤ (k : Int) := Int.natCast_nonneg k
      go_wp2
      go_roundw
      case rel => exact ⟨k + 1, _, _, by omega, by go_num, rfl, rfl⟩
      case measure => simp [intOf]; omega
    · obtain rfl : k = n := by omega
      by_cases h1 : (k : Int) ≤ 100
      · go_wp2_with fail
        go_ret
        exact ⟨⟨_, fun _ => by omega, rfl⟩, bdrew _ _⟩
      · go_wp2_with fail
        go_ret
        exact ⟨light_no _, bdrew _ _⟩
end Go.Proofs.Ytamkepfhlfeiiaa.Sto
