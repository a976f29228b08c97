/-
  CONTRACTS of layer 1's calls (package name) at this program: what each comes to. By an AI agent; no person has read it.
-/
import Derived.Test.YtgnfnbmdjbmcfaaNames
import Derived.Test.YtgnfnbmdjbmcfaaShelf
import Derived.WalkKit
import Derived.BigCall
import Derived.BigQuiet
import Derived.Deep.QuietTactic
import Derived.Lib.OthersKept
import Derived.Lib.Hide
namespace Go.Proofs.Ytgnfnbmdjbmcfaa
open Go.RowKit Txt

theorem ret_bool {a b : Bool} (h : a = b) : Ending.returned (.bool a) = .returned (.bool b) := by rw [h]
theorem bdrew {B : Nat} (w : World) (n : Nat) : Below B w (w.drewN n) := ⟨rfl, rfl, rfl, Nat.le_refl _, fun _ _ => rfl⟩
theorem data_list (l : List UInt8) : (⟨l.toArray⟩ : ByteArray).data.toList = l := rfl

theorem app_data (a b : ByteArray) : (a ++ b).data.toList = a.data.toList ++ b.data.toList := by
  show (a.append b).data.toList = _
  simp


theorem eq_bool {s t : ByteArray} (h : s.data.toList = t.data.toList) : (s.toList == t.toList) = true := by
  rw [Lib.toList_data, Lib.toList_data, h]; simp
theorem ne_bool {s t : ByteArray} (h : s.data.toList ≠ t.data.toList) : (s.toList == t.toList) = false := by
  rw [Lib.toList_data, Lib.toList_data]; simpa using h

/-! ### name.small, name.great -/
set_option maxHeartbeats 1000000 in
theorem small_any (r : Int) (w : World) : Calls Try.prog 33 #[.int .i32 r] w fun e w' => e = .returned (.bool (letter r)) ∧ w = w' := by
  go_enter Try.func33, Try.ntmps33
  go_wp2
  all_goals go_ret
  all_goals refine ⟨ret_bool ?_, rfl⟩
  all_goals unfold letter
  all_goals symm
  all_goals try simp only [beq_iff_eq, beq_eq_false_iff_ne, ne_eq] at *
  all_goals first
    | (apply decide_eq_true; omega)
    | (apply decide_eq_false; omega)

theorem less_any (a b : ByteArray) (w : World) : Calls Try.prog 24 #[.string a, .string b] w fun e w' => e = .returned (.bool (Op.bytesLess a.data.toList b.data.toList)) ∧ w = w' := by
  go_enter Try.func24, Try.ntmps24
  go_wp2
  go_ret
  exact ⟨by simp [Lib.toList_data], rfl⟩

/-! ### strings.Cut at one byte -/
set_option maxHeartbeats 1000000 in
set_option maxRecDepth 100000 in
theorem litecut_one (s : ByteArray) (w : World) (hs : s.size ≤ 140737488355328) :
    Calls Try.prog 45 #[.string s, .string ⟨#[47]⟩] w fun e w' => (cutAt s.data.toList = none ∧ e = .returned (.tuple #[.string s, .string ⟨#[]⟩, .bool false]) ∨ ∃ a b, cutAt s.data.toList = some (a, b) ∧ e = .returned (.tuple #[.string ⟨a.toArray⟩, .string ⟨b.toArray⟩, .bool true])) ∧ ∃ n, w' = w.drewN n := by
  rcases cutAt_index s.data.toList with ⟨hix, hc⟩ | ⟨i, hix, hlt, hc⟩
  · go_enter Try.func45, Try.ntmps45
    go_wp2_with (go_at_call 51; refine (Try.stringslite_Index_one _ _ _).mono ?_; rintro e w' ⟨rfl, rfl⟩; rw [hix])
    go_ret3
    exact ⟨.inl ⟨hc, rfl⟩, 0, rfl⟩
  · rw [← Lib.size_eq] at hlt
    have c1 : (0 : Int) ≤ ↑i := by omega
    have c2 : (↑i : Int) ≤ ↑s.size := by omega
    have c3 : (0 : Int) ≤ ↑i + 1 := by omega
    have c4 : (↑i + 1 : Int) ≤ ↑s.size := by omega
    go_enter Try.func45, Try.ntmps45
    go_wp2_with (go_at_call 51; refine (Try.stringslite_Index_one _ _ _).mono ?_; rintro e w' ⟨rfl, rfl⟩; rw [hix])
    go_region
    all_goals go_wp2
    all_goals go_ret3
    all_goals refine ⟨.inr ⟨_, _, hc, ?_⟩, 1, rfl⟩
    all_goals
      have e1 : s.extract 0 i = ⟨(List.take i s.data.toList).toArray⟩ := by rw [Lib.extract_eq]; simp
      have e2 : s.extract (i + 1) s.size = ⟨(List.drop (i + 1) s.data.toList).toArray⟩ := by
        rw [Lib.extract_eq, List.take_of_length_le (by rw [List.length_drop, ← Lib.size_eq]; exact Nat.le_refl _)]
      rw [← e1, ← e2]
      rfl
set_option maxHeartbeats 1000000 in
theorem cut_one (s : ByteArray) (w : World) (hs : s.size ≤ 140737488355328) :
    Calls Try.prog 32 #[.string s, .string ⟨#[47]⟩] w fun e w' => (cutAt s.data.toList = none ∧ e = .returned (.tuple #[.string s, .string ⟨#[]⟩, .bool false]) ∨ ∃ a b, cutAt s.data.toList = some (a, b) ∧ e = .returned (.tuple #[.string ⟨a.toArray⟩, .string ⟨b.toArray⟩, .bool true])) ∧ ∃ n, w' = w.drewN n := by
  go_enter Try.func32, Try.ntmps32
  go_wp2_with fail
  refine (litecut_one s _ hs).mono ?_
  rintro e w' ⟨⟨hc, rfl⟩ | ⟨a, b, hc, rfl⟩, n, rfl⟩
  · go_wp2
    go_ret3
    exact ⟨.inl ⟨hc, rfl⟩, n, rfl⟩
  · go_wp2
    go_ret3
    exact ⟨.inr ⟨a, b, hc, rfl⟩, n, rfl⟩

/-! ### name.Right -/
set_option maxHeartbeats 2000000 in
set_option maxRecDepth 1000000 in
theorem right_any (s : ByteArray) (w : World) : Calls Try.prog 19 #[.string s] w fun e w' => e = .returned (.bool (right s.data.toList)) ∧ Below w.heap.size w w' := by
  go_enter Try.func19, Try.ntmps19
  go_wp2
  go_loopw [3] (fun n w' => ∃ (pos k : Nat), w' = w.iter s pos ∧ n = .int .i64 k ∧ k ≤ 32 ∧ nameOfN k (runes (s.data.toList.drop pos)) = right s.data.toList) (fun _ w' => s.size - w'.iterPos w.heap.size)
  case atStart => exact ⟨0, 0, rfl, rfl, by omega, by rw [List.drop_zero]; exact right_N _⟩
  case round =>
    obtain ⟨pos, k, rfl, rfl, hk, hr⟩ := hrel
    have HR := Lib.hid hr
    clear hr
    by_cases hp : pos < s.size
    · have hnx : ∀ ty, (Instr.next (.pointer (some ⟨w.heap.size, 0, none⟩)) true ty).run Try.prog (w.iter s pos) = _ := fun ty => run_next_any w s pos ty hp
      have hwd := Lib.width_pos s pos
      have hd1 := decode_le s pos
      have hne := drop_ne s hp
      by_cases h32 : (32 : Int) < ↑k + 1
      · go_wp2_with fail
        go_ret
        refine ⟨ret_bool ?_, (Below.refl _ _).alloc (Nat.le_refl _) _⟩
        rw [← HR.out, nameN_many hne (by omega)]
      · cases hl : letter ((Utf8.decode s pos).1 : Int) with
        | true =>
          have HL := Lib.hid hl
          clear hl
          go_wp2_with (go_at_call 33; refine (small_any _ _).mono ?_; rintro e w' ⟨rfl, rfl⟩; rw [HL.out])
          go_roundw
          case rel =>
            refine ⟨pos + (Utf8.decode s pos).2, k + 1, rfl, by go_num, by omega, ?_⟩
            rw [← HR.out]
            have HL2 := HL.out
            rw [decode_drop] at HL2 ⊢
            rw [nameN_step hne HL2, List.drop_drop]
          case measure =>
            simp
            omega
        | false =>
          have HL := Lib.hid hl
          clear hl
          go_wp2_with (go_at_call 33; refine (small_any _ _).mono ?_; rintro e w' ⟨rfl, rfl⟩; rw [HL.out])
          go_ret
          refine ⟨ret_bool ?_, (Below.refl _ _).alloc (Nat.le_refl _) _⟩
          have HL2 := HL.out
          rw [decode_drop] at HL2
          rw [← HR.out, nameN_not hne HL2]
    · have hnx : ∀ ty, (Instr.next (.pointer (some ⟨w.heap.size, 0, none⟩)) true ty).run Try.prog (w.iter s pos) = _ := fun ty => run_next_end w s pos ty hp
      go_wp2
      go_ret
      refine ⟨ret_bool ?_, (Below.refl _ _).alloc (Nat.le_refl _) _⟩
      rw [← HR.out, drop_end s hp, runes_nil]
      simp only [nameOfN, List.length_nil, List.all_nil, Bool.and_true]
      exact decide_eq_decide.2 (by omega)

/-! ### name.Split, name.Path -/
def Parted (l : List UInt8) (e : Ending) : Prop :=
  (split l = none ∧ e = .returned (.tuple #[.string ⟨#[]⟩, .string ⟨#[]⟩, .int .i64 3])) ∨
  ∃ a b, split l = some (a, b) ∧ e = .returned (.tuple #[.string ⟨a.toArray⟩, .string ⟨b.toArray⟩, .int .i64 0])

theorem right_call (l : List UInt8) (b : Bool) (h : right l = b) (w : World) : Calls Try.prog 19 #[.string ⟨l.toArray⟩] w fun e w' => e = .returned (.bool b) ∧ Below w.heap.size w w' := by
  have := right_any ⟨l.toArray⟩ w
  rw [data_list, h] at this
  exact this

theorem split_cut_none {l : List UInt8} (h : cutAt l = none) : split l = none := by unfold split; rw [h]
theorem split_cut_yes {l a b : List UInt8} (h : cutAt l = some (a, b)) (ha : right a = true) (hb : right b = true) : split l = some (a, b) := by unfold split; rw [h]; simp [ha, hb]
theorem split_cut_no1 {l a b : List UInt8} (h : cutAt l = some (a, b)) (ha : right a = false) : split l = none := by unfold split; rw [h]; simp [ha]
theorem split_cut_no2 {l a b : List UInt8} (h : cutAt l = some (a, b)) (hb : right b = false) : split l = none := by unfold split; rw [h]; simp [hb]

set_option maxHeartbeats 2000000 in
set_option maxRecDepth 1000000 in
theorem split_any (s : ByteArray) (w : World) (hs : s.size ≤ 140737488355328) : Calls Try.prog 15 #[.string s] w fun e w' => Parted s.data.toList e ∧ Below w.heap.size w w' := by
  go_enter Try.func15, Try.ntmps15
  go_wp2_with fail
  refine (cut_one s _ hs).mono ?_
  rintro e w' ⟨⟨hc, rfl⟩ | ⟨a, b, hc, rfl⟩, n, rfl⟩
  · go_wp2_with fail
    go_ret3
    exact ⟨.inl ⟨split_cut_none hc, rfl⟩, bdrew _ n⟩
  · have HC := Lib.hid hc
    clear hc
    cases hra : right a with
    | false =>
      have HA := Lib.hid hra
      clear hra
      go_wp2_with fail
      refine (right_call a false HA.out _).mono ?_
      rintro e w1 ⟨rfl, b1⟩
      go_wp2_with fail
      go_ret3
      exact ⟨.inl ⟨split_cut_no1 HC.out HA.out, rfl⟩, (bdrew _ n).trans b1⟩
    | true =>
      have HA := Lib.hid hra
      clear hra
      cases hrb : right b with
      | false =>
        have HB := Lib.hid hrb
        clear hrb
        go_wp2_with fail
        refine (right_call a true HA.out _).mono ?_
        rintro e w1 ⟨rfl, b1⟩
        go_wp2_with fail
        refine (right_call b false HB.out _).mono ?_
        rintro e w2 ⟨rfl, b2⟩
        go_wp2_with fail
        go_ret3
        exact ⟨.inl ⟨split_cut_no2 HC.out HB.out, rfl⟩, ((bdrew _ n).trans b1).trans (b2.mono b1.size)⟩
      | true =>
        have HB := Lib.hid hrb
        clear hrb
        go_wp2_with fail
        refine (right_call a true HA.out _).mono ?_
        rintro e w1 ⟨rfl, b1⟩
        go_wp2_with fail
        refine (right_call b true HB.out _).mono ?_
        rintro e w2 ⟨rfl, b2⟩
        go_wp2_with fail
        go_ret3
        exact ⟨.inr ⟨a, b, split_cut_yes HC.out HA.out HB.out, rfl⟩, ((bdrew _ n).trans b1).trans (b2.mono b1.size)⟩

theorem shown_any (w : World) : Calls Try.prog 12 #[] w fun e w' => e = .returned (.bool true) ∧ Below w.heap.size w w' := by
  have hsp : split [97, 110, 110, 97, 47, 110, 111, 116, 101, 115] = some ([97, 110, 110, 97], [110, 111, 116, 101, 115]) := by decide +kernel
  have HS := Lib.hid hsp
  clear hsp
  go_enter Try.func12, Try.ntmps12
  go_wp2_with fail
  refine (split_any _ _ (by decide)).mono ?_
  rintro e w1 ⟨⟨h0, rfl⟩ | ⟨a, b, h0, rfl⟩, b1⟩
  · exfalso
    have h1 := HS.out.symm.trans h0
    cases h1
  · have h1 := HS.out.symm.trans h0
    obtain ⟨rfl, rfl⟩ := Prod.mk.inj (Option.some.inj h1)
    clear h0 h1
    go_wp2_with fail
    go_ret
    exact ⟨rfl, b1⟩

end Go.Proofs.Ytgnfnbmdjbmcfaa
