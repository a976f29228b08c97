/-
  One text of several, in their order: GHelp, GFew. By an AI agent; no person has read it.
-/
import Derived.Test.YtjikepfgfbnheaaG1
/-
  CONTRACTS of the laws' own helpers pick, who (letterlocklaw7) at this program: exact. By an AI agent; no person has read it.
-/
namespace Go.Proofs.Ytjikepfgfbnheaa.Rig
open Go.RowKit Wire

/-- Which of n things a raw number speaks of. -/
def pk (c : Int) (n : Nat) : Nat := (if c < 0 then (-(c + 1)).toNat else c.toNat) % n
theorem pk_lt (c : Int) {n : Nat} (hn : 0 < n) : pk c n < n := Nat.mod_lt _ hn
theorem pk_small {k n : Nat} (h : k < n) : pk (k : Int) n = k := by
  unfold pk
  rw [if_neg (by omega), show ((k : Int)).toNat = k by omega, Nat.mod_eq_of_lt h]
set_option maxHeartbeats 1000000 in
theorem pick7_any (c : Int) (n : Nat) (w : World) (hc : -9223372036854775808 ≤ c ∧ c ≤ 9223372036854775807) (hn : 0 < n) (hn2 : n ≤ 9223372036854775807) :
    Calls Try.prog 28 #[.int .i64 c, .int .i64 (n : Int)] w fun e w' => e = .returned (.int .i64 (pk c n : Int)) ∧ w' = w := by
  obtain ⟨hc1, hc2⟩ := hc
  have hn0 : (0 : Int) < (n : Int) := by omega
  by_cases hneg : c < 0
  · obtain ⟨q, hq⟩ : ∃ q : Nat, c + 1 = -(q : Int) := ⟨(-(c + 1)).toNat, by omega⟩
    obtain ⟨K, hK⟩ : ∃ K : Nat, q % n = K := ⟨_, rfl⟩
    have hrem : (c + 1).tmod (n : Int) = -(K : Int) := by rw [hq, Int.neg_tmod, ← Int.ofNat_tmod, hK]
    have hpk : Hid (pk c n = K) := by
      show pk c n = K
      unfold pk
      rw [if_pos hneg, show (-(c + 1)).toNat = q by omega, hK]
    clear hq hK
    go_enter Try.func28, Try.ntmps28
    go_wp2
    go_ret
    exact ⟨by rw [hpk.out]; simp, rfl⟩
  · obtain ⟨q, hq⟩ : ∃ q : Nat, c = (q : Int) := ⟨c.toNat, by omega⟩
    obtain ⟨K, hK⟩ : ∃ K : Nat, q % n = K := ⟨_, rfl⟩
    have hrem : c.tmod (n : Int) = (K : Int) := by rw [hq, ← Int.ofNat_tmod, hK]
    have hrem2 : c % (n : Int) = (K : Int) := by rw [hq, ← Int.natCast_emod, hK]
    have hc0 : 0 ≤ c := by omega
    have hpk : Hid (pk c n = K) := by
      show pk c n = K
      unfold pk
      rw [if_neg hneg, show c.toNat = q by omega, hK]
    clear hq hK
    go_enter Try.func28, Try.ntmps28
    go_wp2
    go_ret
    exact ⟨by rw [hpk.out]; rfl, rfl⟩
/-- One of eight names. -/
def whoB : List ByteArray := [⟨#[97, 110, 110, 97]⟩, ⟨#[98, 101, 110]⟩, ⟨#[99, 121]⟩, ⟨#[100, 111, 114, 97]⟩, ⟨#[101, 109, 105, 108]⟩, ⟨#[195, 164, 109, 105, 108]⟩, ⟨#[102, 97, 45, 49]⟩, ⟨#[103]⟩]
def whoN (m : Nat) : ByteArray := whoB.getD m ByteArray.empty
theorem who_right {m : Nat} (h : m < 8) : nm (whoN m).data.toList = true := by
  have : m = 0 ∨ m = 1 ∨ m = 2 ∨ m = 3 ∨ m = 4 ∨ m = 5 ∨ m = 6 ∨ m = 7 := by omega
  rcases this with rfl | rfl | rfl | rfl | rfl | rfl | rfl | rfl <;> decide +kernel
theorem who_inj {i j : Nat} (hi : i < 8) (hj : j < 8) (h : (whoN i).data.toList = (whoN j).data.toList) : i = j := by
  have : ∀ a : Fin 8, ∀ b : Fin 8, (whoN a.1).data.toList = (whoN b.1).data.toList → a.1 = b.1 := by decide +kernel
  exact this ⟨i, hi⟩ ⟨j, hj⟩ h
theorem who_size (m : Nat) : (whoN m).size ≤ 5 := by
  by_cases h : m < 8
  · have : ∀ a : Fin 8, (whoN a.1).size ≤ 5 := by decide +kernel
    exact this ⟨m, h⟩
  · have e : whoN m = ByteArray.empty := by
      unfold whoN
      rw [List.getD_eq_getElem?_getD, List.getElem?_eq_none (show whoB.length ≤ m by show 8 ≤ m; omega)]
      rfl
    rw [e]; decide
set_option maxHeartbeats 2000000 in
set_option maxRecDepth 1000000 in
theorem who_any (c : Int) (w : World) (hc : -9223372036854775808 ≤ c ∧ c ≤ 9223372036854775807) :
    Calls Try.prog 27 #[.int .i64 c] w fun e w' => e = .returned (.string (whoN (pk c 8))) ∧ Below w.heap.size w w' := by
  have hlt := pk_lt c (n := 8) (by decide)
  obtain ⟨m, hm⟩ : ∃ m, pk c 8 = m := ⟨_, rfl⟩
  have HP := Lib.hid fun w => pick7_any c 8 w hc (by decide) (by decide)
  rw [hm] at HP hlt ⊢
  obtain ⟨s, hs⟩ : ∃ s, whoN m = s := ⟨_, rfl⟩
  have HS := Lib.hid hs
  rw [hs]
  clear hm hs
  go_enter Try.func27, Try.ntmps27
  go_wp2_with fail
  refine (HP.out _).mono ?_
  rintro e w1 ⟨rfl, rfl⟩
  dsimp only
  have hcell : (w.alloc (.cells (sv whoB).toArray 9)).cell? ⟨w.heap.size, m, none⟩ = some (.string s) := by
    have h : (w.alloc (.cells (sv whoB).toArray 9)).cell? ⟨w.heap.size, m, none⟩ = (sv whoB).toArray[m]? := cell_of_row _ _ _ _ _ (0, 0) (heap_alloc_new w _)
    rw [h, ← HS.out]
    unfold sv whoN
    rw [List.getElem?_toArray, List.getElem?_map, List.getElem?_eq_getElem (show m < whoB.length from hlt)]
    simp [List.getD, show m < whoB.length from hlt]
  have e1 : (sv whoB).toArray = #[.string ⟨#[97, 110, 110, 97]⟩, .string ⟨#[98, 101, 110]⟩, .string ⟨#[99, 121]⟩, .string ⟨#[100, 111, 114, 97]⟩, .string ⟨#[101, 109, 105, 108]⟩, .string ⟨#[195, 164, 109, 105, 108]⟩, .string ⟨#[102, 97, 45, 49]⟩, .string ⟨#[103]⟩] := rfl
  rw [e1] at hcell
  have hlt8 : (m : Int) < 8 := by omega
  have hm0 : (0 : Int) ≤ (m : Int) := by omega
  clear e1
  go_wp2
  go_ret
  exact ⟨rfl, (Below.refl _ _).alloc (Nat.le_refl _) _⟩
end Go.Proofs.Ytjikepfgfbnheaa.Rig

/-
  CONTRACT of the laws' own helper few (letterlocklaw7) at this program. By an AI agent; no person has read it.
-/
namespace Go.Proofs.Ytjikepfgfbnheaa.Rig
open Go.RowKit Wire

theorem all_take {ys : List ByteArray} {k : Nat} {p : ByteArray → Prop} (hk : k < ys.length) (h : ∀ y ∈ ys.take k, p y) (hp : p (ys.getD k ByteArray.empty)) : ∀ y ∈ ys.take (k + 1), p y := by
  intro y hy
  rw [List.take_add_one, List.getElem?_eq_getElem hk] at hy
  rcases List.mem_append.1 hy with h1 | h1
  · exact h y h1
  · have e : ys.getD k ByteArray.empty = ys[k] := by simp [List.getD, hk]
    rw [e] at hp
    have : y = ys[k] := by simpa using h1
    rw [this]; exact hp
/-- Whether rights are of not too much, as an ending. -/
def FewE (o f : ByteArray) (rs ws : List ByteArray) (e : Ending) : Prop := ∃ b, e = .returned (.bool b) ∧ (b = true → rs.length ≤ 30 ∧ ws.length ≤ 30 ∧ o.size + f.size ≤ 500 ∧ (∀ y ∈ rs, y.size ≤ 300) ∧ ∀ y ∈ ws, y.size ≤ 300)
set_option maxHeartbeats 4000000 in
set_option maxRecDepth 1000000 in
theorem few_any (o f : ByteArray) (ep : Int) (A : Option Addr) (c : Nat) (rs : List ByteArray) (B : Option Addr) (d : Nat) (ws : List ByteArray) (w : World) (hA : SReads w A rs) (hB : SReads w B ws) (ho : o.size ≤ 140737488355328) (hf : f.size ≤ 140737488355328) (hr : rs.length ≤ 9223372036854775807) (hw : ws.length ≤ 9223372036854775807) (hsr : ∀ y ∈ rs, y.size ≤ 9223372036854775807) (hsw : ∀ y ∈ ws, y.size ≤ 9223372036854775807) :
    Calls Try.prog 11 #[RV o f ep A rs.length c B ws.length d] w fun e w' => FewE o f rs ws e ∧ Below w.heap.size w w' := by
  have HA := Lib.hid hA
  have HBB := Lib.hid hB
  have HSR := Lib.hid hsr
  have HSW := Lib.hid hsw
  clear hA hB hsr hsw
  unfold RV
  by_cases h1 : (30 : Int) < (rs.length : Int)
  · go_enter Try.func11, Try.ntmps11
    go_wp2
    go_ret
    exact ⟨⟨false, rfl, fun h => by cases h⟩, (Below.refl _ _).alloc (Nat.le_refl _) _⟩
  by_cases h2 : (30 : Int) < (ws.length : Int)
  · go_enter Try.func11, Try.ntmps11
    go_wp2
    go_ret
    exact ⟨⟨false, rfl, fun h => by cases h⟩, (Below.refl _ _).alloc (Nat.le_refl _) _⟩
  by_cases h3 : (500 : Int) < (o.size : Int) + (f.size : Int)
  · go_enter Try.func11, Try.ntmps11
    go_wp2
    go_ret
    exact ⟨⟨false, rfl, fun h => by cases h⟩, (Below.refl _ _).alloc (Nat.le_refl _) _⟩
  go_enter Try.func11, Try.ntmps11
  go_wp2_with fail
  have hx := bx_alloc w o f ep A rs.length c B ws.length d 24
  have hbw : Below w.heap.size w (w.alloc (.cells #[.string o, .string f, .int .i64 ep, .slice A rs.length c, .slice B ws.length d] 24)) := (Below.refl _ w).alloc (Nat.le_refl _) _
  generalize w.alloc (.cells #[.string o, .string f, .int .i64 ep, .slice A rs.length c, .slice B ws.length d] 24) = w1 at hx hbw ⊢
  have HX := Lib.hid hx
  have HBW := Lib.hid hbw
  obtain ⟨c0, c1, c2, c3, c4, _⟩ := hx
  clear hbw
  go_loopw [3] (fun i wr => ∃ k : Nat, k ≤ rs.length ∧ i = .int .i64 (k : Int) ∧ Hid (∀ y ∈ rs.take k, y.size ≤ 300) ∧ wr = w1) (fun i _ => rs.length - (intOf i).toNat)
  case atStart => exact ⟨0, Nat.zero_le _, rfl, Lib.hid (by simp), rfl⟩
  case round =>
    obtain ⟨k, hk, rfl, HN, rfl⟩ := hrel
    by_cases hlt : (k : Int) < (rs.length : Int)
    · obtain ⟨b, off, rfl, hbl, hcl⟩ := (HA.out.below HBW.out (Nat.le_refl _)) k (by omega)
      obtain ⟨y, hy⟩ : ∃ y, rs.getD k ByteArray.empty = y := ⟨_, rfl⟩
      have hat := fun h => all_take (p := fun y => y.size ≤ 300) (ys := rs) (k := k) (by omega) HN.out h
      rw [hy] at hcl hat
      have HAT := Lib.hid hat
      have hys : y.size ≤ 9223372036854775807 := HSR.out y (by rw [← hy]; simp [List.getD, show k < rs.length by omega])
      have hk0 : (0 : Int) ≤ (k : Int) := by omega
      clear hat hy hbl
      by_cases hb : (300 : Int) < (y.size : Int)
      · go_wp2
        go_ret
        exact ⟨⟨false, rfl, fun h => by cases h⟩, HBW.out⟩
      · have HN2 := Lib.hid (HAT.out (by omega))
        go_wp2
        go_roundw
        case rel => exact ⟨k + 1, by omega, by go_num, HN2, trivial⟩
        case measure => simp [intOf]; omega
    · have HALL : Hid (∀ y ∈ rs, y.size ≤ 300) := by
        have h := HN.out
        rw [show k = rs.length by omega, List.take_length] at h
        exact h
      go_wp2_with fail
      go_loopw [4] (fun i wr2 => ∃ k : Nat, k ≤ ws.length ∧ i = .int .i64 (k : Int) ∧ Hid (∀ y ∈ ws.take k, y.size ≤ 300) ∧ wr2 = wr) (fun i _ => ws.length - (intOf i).toNat)
      case atStart => exact ⟨0, Nat.zero_le _, rfl, Lib.hid (by simp), rfl⟩
      case round =>
        obtain ⟨j, hj, rfl, HM, rfl⟩ := hrel
        by_cases hlt2 : (j : Int) < (ws.length : Int)
        · obtain ⟨b, off, rfl, hbl, hcl⟩ := (HBB.out.below HBW.out (Nat.le_refl _)) j (by omega)
          obtain ⟨y, hy⟩ : ∃ y, ws.getD j ByteArray.empty = y := ⟨_, rfl⟩
          have hat := fun h => all_take (p := fun y => y.size ≤ 300) (ys := ws) (k := j) (by omega) HM.out h
          rw [hy] at hcl hat
          have HAT := Lib.hid hat
          have hys : y.size ≤ 9223372036854775807 := HSW.out y (by rw [← hy]; simp [List.getD, show j < ws.length by omega])
          have hj0 : (0 : Int) ≤ (j : Int) := by omega
          clear hat hy hbl
          by_cases hb : (300 : Int) < (y.size : Int)
          · go_wp2
            go_ret
            exact ⟨⟨false, rfl, fun h => by cases h⟩, HBW.out⟩
          · have HN2 := Lib.hid (HAT.out (by omega))
            go_wp2
            go_roundw
            case rel => exact ⟨j + 1, by omega, by go_num, HN2, trivial⟩
            case measure => simp [intOf]; omega
        · have HALL2 : Hid (∀ y ∈ ws, y.size ≤ 300) := by
            have h := HM.out
            rw [show j = ws.length by omega, List.take_length] at h
            exact h
          go_wp2
          go_ret
          exact ⟨⟨true, rfl, fun _ => ⟨by omega, by omega, by omega, HALL.out, HALL2.out⟩⟩, HBW.out⟩
end Go.Proofs.Ytjikepfgfbnheaa.Rig
