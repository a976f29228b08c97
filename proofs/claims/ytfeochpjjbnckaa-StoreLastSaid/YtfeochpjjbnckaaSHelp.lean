/-
  CONTRACTS of the laws' own helpers (letterlocklaw12): pick, same, key, light. By an AI agent; no person has read it.
-/
import Derived.Test.YtfeochpjjbnckaaSSpec
import Derived.Test.YtfeochpjjbnckaaQ1
namespace Go.Proofs.Ytfeochpjjbnckaa.Sto
open Go Go.RowKit Wire

set_option linter.unusedSimpArgs false
set_option linter.unusedVariables false
def pk (c : Int) (n : Nat) : Nat := (if c < 0 then (-(c + 1)).toNat else c.toNat) % n
theorem pk_lt (c : Int) {n : Nat} (hn : 0 < n) : pk c n < n := Nat.mod_lt _ hn
theorem pk_small {k n : Nat} (h : k < n) : pk (k : Int) n = k := by
  unfold pk
  rw [if_neg (by omega), show ((k : Int)).toNat = k by omega, Nat.mod_eq_of_lt h]
set_option maxHeartbeats 4000000 in
set_option maxRecDepth 1000000 in
theorem pick_any (c : Int) (n : Nat) (w : World) (hc : -9223372036854775808 ≤ c ∧ c ≤ 9223372036854775807) (hn : 0 < n) (hn2 : n ≤ 9223372036854775807) :
    Calls Try.prog 15 #[.int .i64 c, .int .i64 (n : Int)] w fun e w' => e = .returned (.int .i64 (pk c n : Int)) ∧ w' = w := by
  obtain ⟨hc1, hc2⟩ := hc
  have hn0 : (0 : Int) < (n : Int) := by omega
  by_cases hneg : c < 0
  · obtain ⟨q, hq⟩ : ∃ q : Nat, c + 1 = -(q : Int) := ⟨(-(c + 1)).toNat, by omega⟩
    obtain ⟨K, hK⟩ : ∃ K : Nat, q % n = K := ⟨_, rfl⟩
    have hrem : (c + 1).tmod (n : Int) = -(K : Int) := by rw [hq, Int.neg_tmod, ← Int.ofNat_tmod, hK]
    have hpk : Hid (pk c n = K) := by
      show pk c n = K
      unfold pk
      rw [if_pos hneg, show (-(c + 1)).toNat = q by omega, hK]
    clear hq hK
    go_enter Try.func15, Try.ntmps15
    go_wp2
    go_ret
    exact ⟨by rw [hpk.out]; simp, rfl⟩
  · obtain ⟨q, hq⟩ : ∃ q : Nat, c = (q : Int) := ⟨c.toNat, by omega⟩
    obtain ⟨K, hK⟩ : ∃ K : Nat, q % n = K := ⟨_, rfl⟩
    have hrem : c.tmod (n : Int) = (K : Int) := by rw [hq, ← Int.ofNat_tmod, hK]
    have hrem2 : c % (n : Int) = (K : Int) := by rw [hq, ← Int.natCast_emod, hK]
    have hc0 : 0 ≤ c := by omega
    have hpk : Hid (pk c n = K) := by
      show pk c n = K
      unfold pk
      rw [if_neg hneg, show c.toNat = q by omega, hK]
    clear hq hK
    go_enter Try.func15, Try.ntmps15
    go_wp2
    go_ret
    exact ⟨by rw [hpk.out]; rfl, rfl⟩
theorem row_cell {W : World} {b : Nat} {cs : Array Value} {T : TypeId} (h : W.heap[b]? = some (.cells cs T)) (j : Nat) : W.cell? ⟨b, j, none⟩ = cs[j]? := by
  simp only [World.cell?, h]
  simp
set_option maxHeartbeats 2000000 in
set_option maxRecDepth 1000000 in
theorem same_any (a b : Option Addr) (c d : Nat) (xs ys : List ByteArray) (w : World) (hr : SReads w a xs) (hq : SReads w b ys) (hn : xs.length ≤ 9223372036854775807) :
    Calls Try.prog 19 #[.slice a xs.length c, .slice b ys.length d] w fun e w' => e = .returned (.bool (decide (bl xs = bl ys))) ∧ Below w.heap.size w w' := by
  have HR := Lib.hid hr
  have HQ := Lib.hid hq
  clear hr hq
  by_cases hl : xs.length = ys.length
  · obtain ⟨n, hxn⟩ : ∃ n, xs.length = n := ⟨_, rfl⟩
    have hyn : ys.length = n := by omega
    rw [hxn] at hn ⊢
    rw [hyn]
    have HX := Lib.hid hxn
    have HY := Lib.hid hyn
    clear hl hxn hyn
    go_enter Try.func19, Try.ntmps19
    go_wp2
    go_loopw [5] (fun i wr => ∃ k d : Nat, k ≤ n ∧ i = .int .i64 k ∧ wr = w.drewN d ∧ Hid (bl (xs.take k) = bl (ys.take k))) (fun i _ => n - (intOf i).toNat)
    case atStart => exact ⟨0, 0, Nat.zero_le _, rfl, rfl, rfl⟩
    case round =>
      obtain ⟨k, d, hk, rfl, rfl, HA⟩ := hrel
      by_cases hlt : k < n
      · have hlx : k < xs.length := by rw [HX.out]; exact hlt
        have hly : k < ys.length := by rw [HY.out]; exact hlt
        obtain ⟨b1, o1, rfl, hb1, hc1⟩ := HR.out k hlx
        obtain ⟨b2, o2, rfl, hb2, hc2⟩ := HQ.out k hly
        obtain ⟨x, hx⟩ : ∃ x, xs.getD k ByteArray.empty = x := ⟨_, rfl⟩
        obtain ⟨y, hy⟩ : ∃ y, ys.getD k ByteArray.empty = y := ⟨_, rfl⟩
        rw [hx] at hc1
        rw [hy] at hc2
        have GX := Lib.hid hx
        have GY := Lib.hid hy
        have hk0 : (0 : Int) ≤ (k : Int) := by omega
        have hk1 : (k : Int) < (n : Int) := by omega
        clear hx hy
        by_cases he : x.data.toList = y.data.toList
        · have hb := eq_bool he
          have HE := Lib.hid he
          clear he
          go_wp2
          go_quiet (fail)
          go_wp2
          go_roundw
          case rel => exact ⟨k + 1, _, by omega, by go_num, rfl, bl_take_step hlx hly GX.out GY.out HA.out HE.out⟩
          case measure => simp [intOf]; omega
        · have hb := ne_bool he
          have HE := Lib.hid he
          clear he
          go_wp2
          go_quiet (fail)
          go_wp2
          go_ret
          refine ⟨ret_bool ?_, (bdrew w d).trans (bdrew _ _)⟩
          exact (decide_eq_false (bl_differ hlx hly GX.out GY.out HE.out)).symm
      · obtain rfl : k = n := by omega
        go_wp2
        go_ret
        refine ⟨ret_bool ?_, bdrew _ _⟩
        have h := HA.out
        rw [List.take_of_length_le (by rw [HX.out]; exact Nat.le_refl _), List.take_of_length_le (by rw [HY.out]; exact Nat.le_refl _)] at h
        exact (decide_eq_true h).symm
  · have hne : ((xs.length : Int) != (ys.length : Int)) = true := by simp; omega
    have hd : decide (bl xs = bl ys) = false := decide_eq_false fun h => hl (by rw [← bl_len, ← bl_len, h])
    have HD := Lib.hid hd
    clear hd
    go_enter Try.func19, Try.ntmps19
    go_wp2
    go_ret
    exact ⟨ret_bool HD.out.symm, Below.refl _ _⟩

/-- What an act says. -/
structure Ac where
  op : Int
  k : Int
  key : ByteArray
  blob : ByteArray
def Ac.v (a : Ac) : Value := .agg #[.int .i64 a.op, .int .i64 a.k, .string a.key, .string a.blob]
/-- Acts as they came in. -/
structure Ac.Ok (a : Ac) : Prop where
  op : -9223372036854775808 ≤ a.op ∧ a.op ≤ 9223372036854775807
  k : -9223372036854775808 ≤ a.k ∧ a.k ≤ 9223372036854775807
  key : a.key.size ≤ 140737488351232
  blob : a.blob.size ≤ 140737488351232
def CReads (w : World) (A : Option Addr) (n : Nat) (Z : Nat → Ac) : Prop := ∀ i, i < n → ∃ b off, A = some ⟨b, off, none⟩ ∧ b < w.heap.size ∧
  (w.cell? ⟨b, off + i * 4, none⟩ = some (.int .i64 (Z i).op) ∧ w.cell? ⟨b, off + i * 4 + 1, none⟩ = some (.int .i64 (Z i).k) ∧ w.cell? ⟨b, off + i * 4 + 2, none⟩ = some (.string (Z i).key) ∧ w.cell? ⟨b, off + i * 4 + 3, none⟩ = some (.string (Z i).blob)) ∧ (Z i).Ok
theorem CReads.below {w w' : World} {B : Nat} {A : Option Addr} {n : Nat} {Z : Nat → Ac} (h : CReads w A n Z) (hb : Below B w w') (hB : w.heap.size ≤ B) : CReads w' A n Z := fun i hi => by
  obtain ⟨b, off, e, hlt, ⟨h0, h1, h2, h3⟩, hk⟩ := h i hi
  have ec := fun j => hb.cell (p := ⟨b, j, none⟩) (Nat.lt_of_lt_of_le hlt hB)
  exact ⟨b, off, e, Nat.lt_of_lt_of_le hlt hb.size, ⟨(ec _).trans h0, (ec _).trans h1, (ec _).trans h2, (ec _).trans h3⟩, hk⟩
def keyB : List ByteArray := [⟨#[97]⟩, ⟨#[97, 98]⟩, ⟨#[98]⟩, ⟨#[97, 47, 120]⟩, ⟨#[255]⟩]
/-- The key of an act. -/
def keyN (a : Ac) : ByteArray := if pk a.k 6 < 5 then keyB.getD (pk a.k 6) ByteArray.empty else a.key
set_option maxHeartbeats 2000000 in
set_option maxRecDepth 1000000 in
theorem key_any (a : Ac) (ha : a.Ok) (w : World) : Calls Try.prog 11 #[.agg #[.int .i64 a.op, .int .i64 a.k, .string a.key, .string a.blob]] w fun e w' => e = .returned (.string (keyN a)) ∧ Below w.heap.size w w' := by
  have HP : Hid (∀ w, Calls Try.prog 15 #[.int .i64 a.k, .int .i64 6] w fun e w' => e = .returned (.int .i64 (pk a.k 6 : Int)) ∧ w' = w) := Lib.hid fun w => pick_any a.k 6 w ha.k (by decide) (by decide)
  have hlt := pk_lt a.k (n := 6) (by decide)
  obtain ⟨op, k, key, blob⟩ := a
  obtain ⟨s, hs⟩ : ∃ s, keyN ⟨op, k, key, blob⟩ = s := ⟨_, rfl⟩
  rw [hs]
  unfold keyN at hs
  simp only at HP hlt hs
  generalize pk k 6 = m at HP hlt hs
  go_enter Try.func11, Try.ntmps11
  go_wp2_with fail
  obtain ⟨W, hW⟩ : ∃ W, ((w.alloc (.cells #[.int .i64 op, .int .i64 k, .string key, .string blob] 29)).alloc (.cells #[.string ⟨#[97]⟩, .string ⟨#[97, 98]⟩, .string ⟨#[98]⟩, .string ⟨#[97, 47, 120]⟩, .string ⟨#[255]⟩] 9)) = W := ⟨_, rfl⟩
  have hbW : Below w.heap.size w W := by rw [← hW]; exact ((Below.refl _ w).alloc (Nat.le_refl _) _).alloc (by simp) _
  have hk2 : W.cell? ⟨w.heap.size, 2, none⟩ = some (.string key) := by rw [← hW]; simp [go_sem]
  have hcell : m < 5 → W.cell? ⟨w.heap.size + 1, m, none⟩ = some (.string (keyB.getD m ByteArray.empty)) := fun h => by
    rw [← hW]
    have h5 : m = 0 ∨ m = 1 ∨ m = 2 ∨ m = 3 ∨ m = 4 := by omega
    rcases h5 with rfl | rfl | rfl | rfl | rfl <;> simp [go_sem, keyB]
  rw [hW]
  clear hW
  with_reducible refine (HP.out _).mono ?_
  rintro e v1 ⟨rfl, rfl⟩
  dsimp only
  have hm0 : (0 : Int) ≤ (m : Int) := Int.natCast_nonneg m
  by_cases h5 : m < 5
  · have hc := hcell h5
    rw [if_pos h5] at hs
    rw [hs] at hc
    have h5i : (m : Int) < 5 := by omega
    clear hcell hk2
    go_wp2
    go_ret
    exact ⟨rfl, hbW⟩
  · rw [if_neg h5] at hs
    subst hs
    have h5i : ¬ (m : Int) < 5 := by omega
    clear hcell
    go_wp2
    go_ret
    exact ⟨rfl, hbW⟩
def LightE (n : Nat) (e : Ending) : Prop := ∃ b : Bool, (b = true → n ≤ 100) ∧ e = .returned (.bool b)
theorem light_no (n : Nat) : LightE n (.returned (.bool false)) := ⟨false, (fun h => by cases h), rfl⟩
set_option maxHeartbeats 4000000 in
set_option maxRecDepth 1000000 in
theorem light_any (A : Option Addr) (c n : Nat) (Z : Nat → Ac) (w : World) (hr : CReads w A n Z) (hn : n ≤ 9223372036854775807) :
    Calls Try.prog 10 #[.slice A n c] w fun e w' => LightE n e ∧ Below w.heap.size w w' := by
  have HR := Lib.hid hr
  clear hr
  go_enter Try.func10, Try.ntmps10
  go_wp2_with fail
  go_loopw [3, 4] (fun s i wr => ∃ (k d : Nat) (V : Int), k ≤ n ∧ i = .int .i64 k ∧ s = .int .i64 V ∧ wr = w.drewN d) (fun _ i _ => n - (intOf i).toNat)
  case atStart => exact ⟨0, 0, 0, Nat.zero_le _, rfl, rfl, rfl⟩
  case round =>
    obtain ⟨k, d, V, hk, rfl, rfl, rfl⟩ := hrel
    by_cases hlt : k < n
    · obtain ⟨b, off, rfl, hblt, ⟨c0, c1, c2, c3⟩, _⟩ := HR.out k hlt
      have hki : (k : Int) < (n : Int) := by omega
      have hk0 : (0 : Int) ≤ (k : Int) := Int.natCast_nonneg k
      go_wp2
      go_quiet (fail)
      go_wp2
      go_roundw
      case rel => exact ⟨k + 1, _, _, by omega, by go_num, rfl, rfl⟩
      case measure => simp [intOf]; omega
    · obtain rfl : k = n := by omega
      by_cases h1 : (k : Int) ≤ 100
      · go_wp2_with fail
        go_ret
        exact ⟨⟨_, fun _ => by omega, rfl⟩, bdrew _ _⟩
      · go_wp2_with fail
        go_ret
        exact ⟨light_no _, bdrew _ _⟩
end Go.Proofs.Ytfeochpjjbnckaa.Sto
