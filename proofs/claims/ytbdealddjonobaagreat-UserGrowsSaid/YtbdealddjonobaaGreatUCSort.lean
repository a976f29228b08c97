/-
  CONTRACTS of the landed code's order, and of a row that is sorted by it (package user). By an AI agent; no person has read it.
-/
import Derived.Test.YtbdealddjonobaaGreatUCMem
import Derived.Test.YtbdealddjonobaaGreatShelfU
import Derived.Laws.Cover1
import Derived.Sort.OwnSorted
import Derived.Sort.Walk0
namespace Go.Proofs.YtbdealddjonobaaGreat.Usr
open Go Go.RowKit Go.Sort Wire Rig

set_option linter.unusedVariables false
set_option linter.unusedSimpArgs false
theorem sv_enc (ss : List ByteArray) : (bl ss).map encStr = sv ss := by
  simp only [bl, sv, List.map_map]
  refine List.map_congr_left fun y _ => ?_
  simp [encStr]
def Rising (l : List Tm) : Prop := l.Pairwise (fun a b => Op.bytesLess a b = true)
def unb (l : List Tm) : List ByteArray := l.map fun x => ⟨x.toArray⟩
theorem bl_unb (l : List Tm) : bl (unb l) = l := by
  unfold bl unb
  rw [List.map_map]
  have : ((fun y : ByteArray => y.data.toList) ∘ fun x : Tm => (⟨x.toArray⟩ : ByteArray)) = id := by funext x; simp
  rw [this, List.map_id]
theorem sv_unb (l : List Tm) : l.map encStr = sv (unb l) := by rw [← sv_enc, bl_unb]
theorem bl_len' (ss : List ByteArray) : (bl ss).length = ss.length := by simp [bl]
theorem bl_app' (xs : List ByteArray) (y : ByteArray) : bl (xs ++ [y]) = bl xs ++ [y.data.toList] := by simp [bl]
theorem rising_sort {l : List Tm} (h : l.Nodup) : Rising (l.mergeSort fun x y => decide (x ≤ y)) ∧ ∀ x, x ∈ (l.mergeSort fun x y => decide (x ≤ y)) ↔ x ∈ l := by
  have hp := List.mergeSort_perm l (fun x y => decide (x ≤ y))
  refine ⟨?_, fun x => hp.mem_iff⟩
  have hs := List.pairwise_mergeSort (le := fun x y : Tm => decide (x ≤ y)) (fun a b c h1 h2 => by simp only [decide_eq_true_eq] at *; exact List.le_trans h1 h2) (fun a b => by simp only [Bool.or_eq_true, decide_eq_true_eq]; exact List.le_total a b) l
  have hn : (l.mergeSort fun x y => decide (x ≤ y)).Pairwise (fun a b => a ≠ b) := (hp.nodup_iff).2 h
  refine List.Pairwise.imp₂ (fun {a b} h1 h2 => ?_) hs hn
  show Op.bytesLess a b = true
  rw [bytesLess_eq]
  simp only [decide_eq_true_eq] at h1 ⊢
  exact Classical.byContradiction fun hn => h2 (List.le_antisymm h1 (List.not_lt.1 hn))
/-- How two keys stand to each other. -/
def cfO (a b : Tm) : Int := if Op.bytesLess a b then -1 else if Op.bytesLess b a then 1 else 0
theorem ltO : ltOf cfO = fun a b => decide (a < b) := by
  funext a b
  unfold ltOf cfO
  rw [bytesLess_eq, bytesLess_eq]
  by_cases h1 : a < b
  · simp [h1]
  · by_cases h2 : b < a <;> simp [h1, h2]
theorem swoO : SWO (ltOf cfO) := by
  rw [ltO]
  exact ⟨fun x => by simp [List.lt_irrefl], fun x y z h1 h2 => by simp only [decide_eq_true_eq] at *; exact List.lt_trans h1 h2, fun x y z h1 h2 => by
    simp only [decide_eq_false_iff_not] at *
    exact List.not_lt.2 (List.le_trans (List.not_lt.1 h2) (List.not_lt.1 h1))⟩
theorem parts_all : ∀ x y : Tm, ltOf cfO x y = false → ltOf cfO y x = false → x = y := fun x y h1 h2 => by
  rw [ltO] at h1 h2
  simp only [decide_eq_false_iff_not] at h1 h2
  exact List.le_antisymm (List.not_lt.1 h2) (List.not_lt.1 h1)
theorem le_of_ltO : (fun x y : Tm => !(ltOf cfO) y x) = fun x y => decide (x ≤ y) := by
  rw [ltO]
  funext x y
  by_cases h : y < x
  · have : ¬ x ≤ y := fun h2 => (List.not_lt.2 h2) h
    simp [h, this]
  · have : x ≤ y := List.not_lt.1 h
    simp [h, this]
set_option maxHeartbeats 2000000 in
set_option maxRecDepth 1000000 in
theorem less_c (a b : ByteArray) (w : World) : Calls Tryz.prog 112 #[.string a, .string b] w fun e w' => e = .returned (.bool (Op.bytesLess a.data.toList b.data.toList)) ∧ w' = w := by
  go_enter Tryz.func112, Tryz.ntmps112
  go_wp2
  go_ret
  refine ⟨?_, rfl⟩
  first | rfl | simp [Lib.toList_data]
set_option maxHeartbeats 2000000 in
set_option maxRecDepth 1000000 in
theorem order_c (a b : ByteArray) (w : World) : Calls Tryz.prog 65 #[.string a, .string b] w fun e w' => e = .returned (.int .i64 (cfO a.data.toList b.data.toList)) ∧ w' = w := by
  have HL := Lib.hid (less_c a b w)
  have HL2 := Lib.hid (less_c b a w)
  unfold cfO
  cases h1 : Op.bytesLess a.data.toList b.data.toList with
  | true =>
    rw [h1] at HL
    go_enter Tryz.func65, Tryz.ntmps65
    go_wp2_with fail
    refine HL.out.mono ?_
    rintro e w1 ⟨rfl, rfl⟩
    dsimp only
    go_wp2
    go_ret
    exact ⟨rfl, rfl⟩
  | false =>
    rw [h1] at HL
    cases h2 : Op.bytesLess b.data.toList a.data.toList with
    | true =>
      rw [h2] at HL2
      go_enter Tryz.func65, Tryz.ntmps65
      go_wp2_with fail
      refine HL.out.mono ?_
      rintro e w1 ⟨rfl, rfl⟩
      dsimp only
      go_wp2_with fail
      refine HL2.out.mono ?_
      rintro e w2 ⟨rfl, rfl⟩
      dsimp only
      go_wp2
      go_ret
      exact ⟨rfl, rfl⟩
    | false =>
      rw [h2] at HL2
      go_enter Tryz.func65, Tryz.ntmps65
      go_wp2_with fail
      refine HL.out.mono ?_
      rintro e w1 ⟨rfl, rfl⟩
      dsimp only
      go_wp2_with fail
      refine HL2.out.mono ?_
      rintro e w2 ⟨rfl, rfl⟩
      dsimp only
      go_wp2
      go_ret
      exact ⟨rfl, rfl⟩
theorem cmp_reads (blk off size : Nat) (w : World) : CmpLays1 Tryz.prog 65 #[] encStr cfO blk off size w :=
  CmpReads.lays fun m os dk hs x y => (order_c ⟨x.toArray⟩ ⟨y.toArray⟩ _).mono fun e w' h => ⟨h.1, 0, h.2⟩
/-- A row of one's own is sorted. -/
theorem sort_own {B : Nat} {w wr : World} {ss : List ByteArray} {v : Value} (hB : w.heap.size ≤ B) (ho : wr.ownsRow B 9 1 v ss.length (sv ss)) (hb : Below w.heap.size w wr) (hn : (bl ss).Nodup) (hl : ss.length ≤ 100000) :
    Calls Tryz.prog 64 #[v, .func (.func 65) #[] #[]] wr fun e w' => e = .returned (.tuple #[]) ∧ (∃ ys : List ByteArray, ys.length = ss.length ∧ Rising (bl ys) ∧ (∀ x, x ∈ bl ys ↔ x ∈ bl ss) ∧ w'.ownsRow w.heap.size 9 1 v ys.length (sv ys)) ∧ Below w.heap.size w w' := by
  rcases List.eq_nil_or_concat ss with rfl | ⟨ss0, sl, hss⟩
  · obtain ⟨A, c, rfl⟩ := own_value ho
    refine (Tryz.slices_SortFunc_none (α := Tm) A c _ wr).mono ?_
    rintro e w7 ⟨rfl, rfl⟩
    refine ⟨rfl, ⟨[], rfl, List.Pairwise.nil, fun _ => Iff.rfl, ho.1, ?_⟩, hb⟩
    rcases ho.2 with h | ⟨g, cap, cur, h1, h2, h3⟩
    · exact .inl h
    · exact .inr ⟨g, cap, cur, h1, Nat.le_trans hB h2, h3⟩
  · have hpos : 0 < ss.length := by rw [hss]; simp
    have hr := ho
    obtain ⟨_, hr2⟩ := hr
    rcases hr2 with ⟨_, h0⟩ | ⟨g, cap, cur, hv, hbase, hheap, hnn, hcap, hsz, htake⟩
    · omega
    subst hv
    have hgl : g < wr.heap.size := (Array.getElem?_eq_some_iff.1 hheap).1
    have hH : Holds encStr wr g 0 (bl ss).toArray := holds_of_block hheap (by rw [bl_len', sv_enc]; rw [Nat.mul_one] at htake; exact htake)
    have hct := Tryz.slices_SortFunc_total encStr (fun _ => rfl) cfO swoO 65 #[] g 0 cap (bl ss).toArray wr (enters_of Tryz.func65 (by kernel_rfl) rfl) (cmp_reads _ _ _ _) hH hgl (by simp only [List.size_toArray, bl_len']; omega) parts_all
    rw [le_of_ltO] at hct
    simp only [List.size_toArray, bl_len'] at hct
    refine hct.mono ?_
    rintro e w7 ⟨rfl, nn, os, hw7⟩
    obtain ⟨r1, r2⟩ := rising_sort hn
    have h1 := ownsRow_sorted (w := wr) (base := w.heap.size) (g := g) (cap := cap) (n := nn) (os := os) (ss := bl ss) (ts := (bl ss).mergeSort fun x y => decide (x ≤ y)) (by rw [List.length_mergeSort]) (Nat.le_trans hB hbase) hheap (by rw [bl_len']; exact hnn) hcap hsz
    have hw7' : w7 = grow (putRow encStr (Sort.ahead wr nn) g 0 ((bl ss).mergeSort fun x y => decide (x ≤ y)).toArray) os := hw7
    rw [← hw7', sv_unb, bl_len'] at h1
    have hu : (unb ((bl ss).mergeSort fun x y => decide (x ≤ y))).length = ss.length := by unfold unb; rw [List.length_map, List.length_mergeSort, bl_len']
    refine ⟨rfl, ⟨unb ((bl ss).mergeSort fun x y => decide (x ≤ y)), hu, by rw [bl_unb]; exact r1, fun x => by rw [bl_unb]; exact r2 x, by rw [hu]; exact h1⟩, ?_⟩
    rw [hw7']
    exact hb.grown (grownBy_sorted _) (by omega) fun k e => by have := Option.some.inj e; omega
/-- What has been collected. -/
def CollU (H : Tm → Bool) (left : Lit → Bool) (ss : List ByteArray) : Prop := (bl ss).Nodup ∧ ∀ x, x ∈ bl ss ↔ (H x = true ∧ left (.string x) = false)
theorem collU {H : Tm → Bool} {left : Lit → Bool} {ss : List ByteArray} {s : ByteArray} (h : CollU H left ss) (hK : H s.data.toList = true) (hl : left (.string s.data.toList) = true) : CollU H (fun z => left z && !z.sameKey (.string s.data.toList)) (ss ++ [s]) := by
  have hnew : s.data.toList ∉ bl ss := fun e => by
    have := ((h.2 _).1 e).2
    rw [hl] at this; cases this
  refine ⟨?_, fun x => ?_⟩
  · rw [bl_app']
    refine List.nodup_append.2 ⟨h.1, by simp, fun a ha b hb => ?_⟩
    rw [List.mem_singleton.1 hb]
    exact fun e => hnew (e ▸ ha)
  · rw [bl_app', List.mem_append, List.mem_singleton, h.2 x]
    by_cases e : x = s.data.toList
    · rw [e]; simp [hK, Lit.sameKey]
    · simp [Lit.sameKey, e]
end Go.Proofs.YtbdealddjonobaaGreat.Usr
