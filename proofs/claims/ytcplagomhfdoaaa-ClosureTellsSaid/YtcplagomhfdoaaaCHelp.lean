/-
  CONTRACTS of the laws' own helpers some, few, same (letterlocklaw4) at this program. By an AI agent; no person has read it.
-/
import Derived.Test.YtcplagomhfdoaaaCGrown
namespace Go.Proofs.Ytcplagomhfdoaaa.Clo
open Go.RowKit Wire Term

set_option maxHeartbeats 2000000 in
set_option maxRecDepth 1000000 in
theorem same_any (a b : Option Addr) (c d : Nat) (xs ys : List ByteArray) (w : World) (hr : SReads w a xs) (hq : SReads w b ys) (hn : xs.length ≤ 140737488355328) :
    Calls Try.prog 16 #[.slice a xs.length c, .slice b ys.length d] w fun e w' => e = .returned (.bool (decide (bl xs = bl ys))) ∧ Below w.heap.size w w' := by
  have HR := Lib.hid hr
  have HQ := Lib.hid hq
  clear hr hq
  by_cases hl : xs.length = ys.length
  · obtain ⟨n, hxn⟩ : ∃ n, xs.length = n := ⟨_, rfl⟩
    have hyn : ys.length = n := by omega
    rw [hxn] at hn ⊢
    rw [hyn]
    have HX := Lib.hid hxn
    have HY := Lib.hid hyn
    clear hl hxn hyn
    go_enter Try.func16, Try.ntmps16
    go_wp2
    go_loopw [5] (fun i wr => ∃ k d : Nat, k ≤ n ∧ i = .int .i64 k ∧ wr = w.drewN d ∧ Hid (bl (xs.take k) = bl (ys.take k))) (fun i _ => n - (intOf i).toNat)
    case atStart => exact ⟨0, 0, Nat.zero_le _, rfl, rfl, rfl⟩
    case round =>
      obtain ⟨k, d, hk, rfl, rfl, HA⟩ := hrel
      by_cases hlt : k < n
      · have hlx : k < xs.length := by rw [HX.out]; exact hlt
        have hly : k < ys.length := by rw [HY.out]; exact hlt
        obtain ⟨b1, o1, rfl, hb1, hc1⟩ := HR.out k hlx
        obtain ⟨b2, o2, rfl, hb2, hc2⟩ := HQ.out k hly
        obtain ⟨x, hx⟩ : ∃ x, xs.getD k ByteArray.empty = x := ⟨_, rfl⟩
        obtain ⟨y, hy⟩ : ∃ y, ys.getD k ByteArray.empty = y := ⟨_, rfl⟩
        rw [hx] at hc1
        rw [hy] at hc2
        have GX := Lib.hid hx
        have GY := Lib.hid hy
        have hk0 : (0 : Int) ≤ (k : Int) := by omega
        have hk1 : (k : Int) < (n : Int) := by omega
        clear hx hy
        by_cases he : x.data.toList = y.data.toList
        · have hb := eq_bool he
          have HE := Lib.hid he
          clear he
          go_wp2
          go_quiet (fail)
          go_wp2
          go_roundw
          case rel => exact ⟨k + 1, _, by omega, by go_num, rfl, bl_take_step hlx hly GX.out GY.out HA.out HE.out⟩
          case measure => simp [intOf]; omega
        · have hb := ne_bool he
          have HE := Lib.hid he
          clear he
          go_wp2
          go_quiet (fail)
          go_wp2
          go_ret
          refine ⟨ret_bool ?_, (bdrew w d).trans (bdrew _ _)⟩
          exact (decide_eq_false (bl_differ hlx hly GX.out GY.out HE.out)).symm
      · obtain rfl : k = n := by omega
        go_wp2
        go_ret
        refine ⟨ret_bool ?_, bdrew _ _⟩
        have h := HA.out
        rw [List.take_of_length_le (by rw [HX.out]; exact Nat.le_refl _), List.take_of_length_le (by rw [HY.out]; exact Nat.le_refl _)] at h
        exact (decide_eq_true h).symm
  · have hne : ((xs.length : Int) != (ys.length : Int)) = true := by simp; omega
    have hd : decide (bl xs = bl ys) = false := decide_eq_false fun h => hl (by rw [← bl_len, ← bl_len, h])
    have HD := Lib.hid hd
    clear hd
    go_enter Try.func16, Try.ntmps16
    go_wp2
    go_ret
    exact ⟨ret_bool HD.out.symm, Below.refl _ _⟩

/-- A slice of slices of ints that can be read. -/
def RReads (w : World) (a : Option Addr) (rows : List (List Int)) : Prop :=
  ∀ j, j < rows.length → ∃ b off A C, a = some ⟨b, off, none⟩ ∧ b < w.heap.size ∧ w.cell? ⟨b, off + j, none⟩ = some (.slice A (rows.getD j []).length C) ∧ IReads w A (rows.getD j [])
theorem RReads.below {w w' : World} {B : Nat} {a : Option Addr} {rows : List (List Int)} (h : RReads w a rows) (hb : Below B w w') (hB : w.heap.size ≤ B) : RReads w' a rows := fun j hj => by
  obtain ⟨b, off, A, C, e, hlt, hc, hz⟩ := h j hj
  exact ⟨b, off, A, C, e, Nat.lt_of_lt_of_le hlt hb.size, by rw [hb.cell (p := ⟨b, off + j, none⟩) (Nat.lt_of_lt_of_le hlt hB)]; exact hc, hz.below hb hB⟩
/-- What the frame tells of a slice of slices of ints that came in. -/
theorem rreads_of {w : World} {a : Option Addr} {len cap : Nat}
    (h : (a = none ∧ len = 0 ∧ cap = 0) ∨ ∃ x, a = some x ∧ len ≤ cap ∧ cap ≤ maxLen ∧ ∀ r, r < len → ∃ A L C Z, w.cell? (x.add r) = some (.slice A L C) ∧
      ((A = none ∧ L = 0 ∧ C = 0 ∧ Z = []) ∨ ∃ y, A = some y ∧ L ≤ C ∧ C ≤ maxLen ∧ Z.length = C ∧ (∀ i, i < Z.length → w.cell? (y.add i) = some (.int .i64 (Z.getD i 0))) ∧ ∀ n ∈ Z, (Lit.int .i64 n).wf = true)) :
    ∃ rows : List (List Int), rows.length = len ∧ len ≤ cap ∧ cap ≤ maxLen ∧ RReads w a rows := by
  rcases h with ⟨rfl, rfl, rfl⟩ | ⟨x, rfl, h1, h2, h3⟩
  · exact ⟨[], rfl, Nat.le_refl _, Nat.zero_le _, fun j hj => by simp at hj⟩
  · have each : ∀ r, r < len → ∃ zs : List Int, ∃ A C, w.cell? (x.add r) = some (.slice A zs.length C) ∧ IReads w A zs := fun r hr => by
      obtain ⟨A, L, C, Z, hc, hz⟩ := h3 r hr
      obtain ⟨ys, rfl, _, _, hi⟩ := ireads_of hz
      exact ⟨ys, A, C, hc, hi⟩
    have hf : ∃ f : Nat → List Int, ∀ r, r < len → ∃ A C, w.cell? (x.add r) = some (.slice A (f r).length C) ∧ IReads w A (f r) := by
      refine ⟨fun r => if hr : r < len then Classical.choose (each r hr) else [], fun r hr => ?_⟩
      have := Classical.choose_spec (each r hr)
      simp only [dif_pos hr]
      exact this
    obtain ⟨f, hf⟩ := hf
    refine ⟨(List.range len).map f, by simp, h1, h2, fun j hj => ?_⟩
    have hjl : j < len := by simpa using hj
    obtain ⟨A0, C0, c0, _⟩ := hf 0 (by omega)
    obtain ⟨A, C, cj, hi⟩ := hf j hjl
    have e : ((List.range len).map f).getD j [] = f j := by simp [List.getD, hjl]
    rw [e]
    obtain ⟨b, off, sp⟩ := x
    have hb : sp = none ∧ b < w.heap.size := by
      have e0 : (⟨b, off, sp⟩ : Addr).add 0 = ⟨b, off, sp⟩ := by simp [Addr.add]
      rw [e0] at c0
      unfold World.cell? at c0
      simp only at c0
      split at c0
      · rename_i h0
        refine ⟨?_, (Array.getElem?_eq_some_iff.1 h0).1⟩
        cases sp with
        | none => rfl
        | some q => simp at c0
      · cases c0
    obtain ⟨rfl, hlt⟩ := hb
    rw [add_none] at cj
    exact ⟨b, off, A, C, rfl, hlt, cj, hi⟩
theorem own_nil {w : World} {base : Nat} {e : TypeId} {a : Option Addr} {n c : Nat} {xs : List Value} (h : w.ownsRow base e 1 (.slice a n c) n xs) : a = none → c = 0 := by
  rintro rfl
  rcases h.2 with ⟨hv, _⟩ | ⟨g, cap, _, hv, _⟩
  · injection hv
  · injection hv with h1; cases h1
/-- Terms that some has made. -/
def Made (w : World) (n : Nat) (v : Value) (wr : World) : Prop := ∃ ys : List ByteArray, ys.length = n ∧ wr.ownsRow w.heap.size 9 1 v n (sv ys) ∧ (∀ y ∈ ys, Good y.data.toList) ∧ Below w.heap.size w wr
/-- Good terms as an answer: at most six. -/
def Some6 (e : Ending) (w' : World) : Prop := ∃ (A : Option Addr) (c : Nat) (ys : List ByteArray), ys.length ≤ 6 ∧ ys.length ≤ c ∧ (A = none → c = 0) ∧ SReads w' A ys ∧ (∀ y ∈ ys, Good y.data.toList) ∧ e = .returned (.slice A ys.length c)
set_option maxHeartbeats 4000000 in
set_option maxRecDepth 1000000 in
theorem some_any (a : Option Addr) (cap : Nat) (rows : List (List Int)) (w : World) (hr : RReads w a rows) :
    Calls Try.prog 12 #[.slice a rows.length cap] w fun e w' => Some6 e w' ∧ Below w.heap.size w w' := by
  have HR := Lib.hid hr
  clear hr
  obtain ⟨i0, hi0, hz0, hz1, hz2⟩ := info_parts str_info
  go_enter Try.func12, Try.ntmps12
  go_wp2_with fail
  have hst : Made w 0 (.slice none 0 0) w := ⟨[], rfl, World.ownsRow_nil _ _ _ _, by simp, Below.refl _ _⟩
  have HST := Lib.hid hst
  clear hst
  go_loopw [3, 4] (fun v i wr => ∃ k : Nat, k ≤ rows.length ∧ k ≤ 6 ∧ i = .int .i64 k ∧ Hid (Made w k v wr)) (fun _ i _ => rows.length - (intOf i).toNat)
  case atStart => exact ⟨0, Nat.zero_le _, Nat.zero_le _, rfl, HST⟩
  case round =>
    obtain ⟨k, hk, hk6, rfl, HS⟩ := hrel
    clear HST
    obtain ⟨ys, hyl, ho, hgood, hbel⟩ := HS.out
    have HO := Lib.hid ho
    have HYL := Lib.hid hyl
    have HGD := Lib.hid hgood
    have HBL := Lib.hid hbel
    clear ho hyl hgood hbel HS
    by_cases hlt : k < rows.length
    · by_cases h6 : (k : Int) < 6
      · obtain ⟨b, off, A, C, rfl, hblt, hcell, hz⟩ := HR.out k hlt
        obtain ⟨zs, hzs⟩ : ∃ zs, rows.getD k [] = zs := ⟨_, rfl⟩
        rw [hzs] at hcell hz
        rw [← HBL.out.cell (p := ⟨b, off + k, none⟩) hblt] at hcell
        have HZ := Lib.hid (hz.below HBL.out (Nat.le_refl _))
        clear hz hzs
        go_wp2_with (first
          | (go_at_call 13; refine (grownG_any A C zs _ HZ.out).mono ?_; rintro e w5 ⟨⟨T, hT, rfl⟩, hb5⟩; have HT := Lib.hid hT; have HB5 := Lib.hid (HBL.out.trans (hb5.mono HBL.out.size)); have HB5' := Lib.hid hb5; clear hT hb5)
          | (at_builtin
             refine wpList_append_own _ rfl _ _ _ rfl w.heap.size 9 i0 _ 1 16 Try.underlying22 hi0 hz0 hz1 hz2 rfl (by decide) _ k (sv ys) rfl ?c1 _ 1 1 [.string T] rfl rfl ?c2 ?c3 ?c4 ?c5 ?c6 ?_
             case c1 => exact (own_below HO.out HB5'.out (Nat.le_refl _)).alloc _
             case c2 => exact lit_cells _ _ _
             case c3 => exact sv_one [T]
             case c4 => simp only [maxLen]; omega
             case c5 => omega
             case c6 =>
               have h := HB5.out.size
               simp only [World.alloc, Array.size_push]
               exact Nat.le_succ_of_le h
             intro v6 w6 hown hgrow _
             have HO6 := Lib.hid hown
             have HG6 := Lib.hid hgrow
             clear hown hgrow))
        go_roundw
        case rel =>
          refine ⟨k + 1, by omega, by omega, by go_num, ys ++ [T], by simp [HYL.out], by simpa [sv] using HO6.out, fun x hx => ?_, ?_⟩
          · rcases List.mem_append.1 hx with hx | hx
            · exact HGD.out x hx
            · rw [List.mem_singleton.1 hx]; exact HT.out
          · refine (HB5.out.alloc HB5.out.size (.cells #[.string T] 9)).grown HG6.out (by
              have := HB5.out.size
              simp only [World.alloc, Array.size_push]
              omega) fun g' hg' => ?_
            exact (HO.out.lt g' hg').1
        case measure => simp [intOf]; omega
      · obtain ⟨A, c, rfl⟩ := own_value HO.out
        go_wp2_with fail
        go_ret
        obtain ⟨h1, h2, h3⟩ := sreads_own HO.out
        exact ⟨⟨A, c, ys, by rw [HYL.out]; exact hk6, by rw [HYL.out]; exact h3, own_nil HO.out, h1, HGD.out, by rw [HYL.out]; rfl⟩, HBL.out⟩
    · obtain ⟨A, c, rfl⟩ := own_value HO.out
      go_wp2_with fail
      go_ret
      obtain ⟨h1, h2, h3⟩ := sreads_own HO.out
      exact ⟨⟨A, c, ys, by rw [HYL.out]; exact hk6, by rw [HYL.out]; exact h3, own_nil HO.out, h1, HGD.out, by rw [HYL.out]; rfl⟩, HBL.out⟩

/-- What few tells, where it is so. -/
def Few (ys : List ByteArray) : Prop := (∀ y ∈ ys, y.size ≤ 1000) ∧ ys.length ≤ 250 ∧ (bl ys).flatten.length ≤ 1500
def FewE (ys : List ByteArray) (e : Ending) : Prop := ∃ b, (b = true → Few ys) ∧ e = .returned (.bool b)
theorem fewE_no (ys : List ByteArray) : FewE ys (.returned (.bool false)) := ⟨false, by simp, rfl⟩
theorem sum_step {ys : List ByteArray} {k : Nat} {y : ByteArray} (hk : k < ys.length) (hy : ys.getD k ByteArray.empty = y) : (bl (ys.take (k + 1))).flatten.length = (bl (ys.take k)).flatten.length + y.size := by
  have e : ys[k] = y := by rw [← hy]; simp [List.getD, hk]
  rw [List.take_succ_eq_append_getElem hk, e]
  rw [show y.size = y.data.toList.length from Lib.size_eq y]
  simp [bl]
theorem sum_le {ys : List ByteArray} {k : Nat} (h : ∀ y ∈ ys.take k, y.size ≤ 1000) : (bl (ys.take k)).flatten.length ≤ 1000 * k := by
  have h2 : ∀ l : List ByteArray, (∀ y ∈ l, y.size ≤ 1000) → (bl l).flatten.length ≤ 1000 * l.length := fun l hl => by
    induction l with
    | nil => simp [bl]
    | cons y r ih =>
      have h1 := hl y (by simp)
      have h2 := ih (fun x hx => hl x (by simp [hx]))
      have e : (bl (y :: r)).flatten.length = y.size + (bl r).flatten.length := by rw [show y.size = y.data.toList.length from Lib.size_eq y]; simp [bl]
      rw [e, List.length_cons]; omega
  have h3 := h2 _ h
  rw [List.length_take] at h3
  have : 1000 * min k ys.length ≤ 1000 * k := Nat.mul_le_mul_left _ (Nat.min_le_left _ _)
  omega
set_option maxHeartbeats 4000000 in
set_option maxRecDepth 1000000 in
theorem few_any (a : Option Addr) (c : Nat) (ys : List ByteArray) (w : World) (hr : SReads w a ys) (hn : ys.length ≤ 140737488355328) :
    Calls Try.prog 11 #[.slice a ys.length c] w fun e w' => FewE ys e ∧ w = w' := by
  have HR := Lib.hid hr
  clear hr
  go_enter Try.func11, Try.ntmps11
  go_wp2_with fail
  go_loopw [3, 4] (fun s i wr => ∃ k : Nat, k ≤ ys.length ∧ i = .int .i64 k ∧ s = .int .i64 ((bl (ys.take k)).flatten.length : Nat) ∧ wr = w ∧ Hid (∀ y ∈ ys.take k, y.size ≤ 1000)) (fun _ i _ => ys.length - (intOf i).toNat)
  case atStart => exact ⟨0, Nat.zero_le _, rfl, by simp [bl], rfl, by show ∀ y ∈ ys.take 0, _; simp⟩
  case round =>
    obtain ⟨k, hk, rfl, rfl, rfl, HA⟩ := hrel
    have hsl := sum_le HA.out
    obtain ⟨S, hS⟩ : ∃ S, (bl (ys.take k)).flatten.length = S := ⟨_, rfl⟩
    rw [hS] at hsl
    have HS := Lib.hid hS
    rw [hS]
    clear hS
    by_cases hlt : k < ys.length
    · obtain ⟨b, off, rfl, hblt, hcell⟩ := HR.out k hlt
      obtain ⟨y, hy⟩ : ∃ y, ys.getD k ByteArray.empty = y := ⟨_, rfl⟩
      rw [hy] at hcell
      have HY := Lib.hid hy
      clear hy
      by_cases hb : (y.size : Int) ≤ 1000
      · go_wp2_with fail
        go_roundw
        case rel =>
          refine ⟨k + 1, by omega, by go_num, ?_, by trivial, take_mem_step hlt HY.out HA.out (by omega)⟩
          rw [sum_step hlt HY.out, HS.out]
          go_num
        case measure => simp [intOf]; omega
      · go_wp2_with fail
        go_ret
        exact ⟨fewE_no ys, rfl⟩
    · obtain rfl : k = ys.length := by omega
      have hall := HA.out
      rw [List.take_length] at hall
      have hs2 := HS.out
      rw [List.take_length] at hs2
      by_cases h1 : (ys.length : Int) ≤ 250
      · by_cases h2 : (S : Int) ≤ 1500
        · have HF : Hid (Few ys) := ⟨hall, by omega, by omega⟩
          clear hall hs2
          go_wp2_with fail
          go_ret
          exact ⟨⟨_, fun _ => HF.out, rfl⟩, rfl⟩
        · clear hall hs2
          go_wp2_with fail
          go_ret
          exact ⟨fewE_no ys, rfl⟩
      · clear hall hs2
        go_wp2_with fail
        go_ret
        exact ⟨fewE_no ys, rfl⟩
end Go.Proofs.Ytcplagomhfdoaaa.Clo
