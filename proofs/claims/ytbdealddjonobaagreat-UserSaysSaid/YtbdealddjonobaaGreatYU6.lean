/-
  U6. By an AI agent.
-/
import Derived.Test.YtbdealddjonobaaGreatYZ
import Derived.Shelf.SlSortCmp.NoneTotal
import Derived.Test.YtbdealddjonobaaGreatProg
import Derived.Laws.Cover1
import Derived.Sort.OwnSorted
import Derived.Sort.Walk0
import Derived.Maps.RangeWalk
import Derived.Deep.AppendLies
import Derived.Test.YtbdealddjonobaaGreatYU2
namespace Go.Proofs
open Go.Shelf
def Tryz.laysSlF6_f64_ren : Go.Shelf.Ren := ⟨fun | 6 => 64 | 15 => 111 | 14 => 110 | 28 => 159 | 29 => 160 | 20 => 151 | 21 => 152 | 22 => 153 | 23 => 154 | 24 => 155 | 25 => 156 | 26 => 157 | 27 => 158 | 46 => 185 | 47 => 186 | 48 => 187 | 49 => 188 | 50 => 189 | 57 => 199 | n => n, fun | 22 => 44 | 24 => 9 | 25 => 110 | 3 => 3 | 39 => 147 | 0 => 0 | 53 => 195 | 55 => 22 | 4 => 4 | 46 => 188 | 45 => 187 | 50 => 192 | 5 => 5 | 9 => 9 | 66 => 219 | 70 => 222 | 76 => 228 | 77 => 229 | n => n, fun | n => n⟩
theorem Tryz.laysSlF6_f64 : Go.Proofs.SlLaysF.n6 Tryz.prog Tryz.laysSlF6_f64_ren := {
  mixed := by kernel_rfl
  f6 := ⟨Tryz.f64.name, by decide, Tryz.func64.trans (congrArg some (by kernel_rfl))⟩
  f14 := ⟨Tryz.f110.name, by decide, Tryz.func110.trans (congrArg some (by kernel_rfl))⟩
  f15 := Tryz.func111.trans (congrArg some (by kernel_rfl))
  f20 := ⟨Tryz.f151.name, by decide, Tryz.func151.trans (congrArg some (by kernel_rfl))⟩
  f21 := ⟨Tryz.f152.name, by decide, Tryz.func152.trans (congrArg some (by kernel_rfl))⟩
  f22 := ⟨Tryz.f153.name, by decide, Tryz.func153.trans (congrArg some (by kernel_rfl))⟩
  f23 := ⟨Tryz.f154.name, by decide, Tryz.func154.trans (congrArg some (by kernel_rfl))⟩
  f24 := ⟨Tryz.f155.name, by decide, Tryz.func155.trans (congrArg some (by kernel_rfl))⟩
  f25 := ⟨Tryz.f156.name, by decide, Tryz.func156.trans (congrArg some (by kernel_rfl))⟩
  f26 := ⟨Tryz.f157.name, by decide, Tryz.func157.trans (congrArg some (by kernel_rfl))⟩
  f27 := ⟨Tryz.f158.name, by decide, Tryz.func158.trans (congrArg some (by kernel_rfl))⟩
  f28 := Tryz.func159.trans (congrArg some (by kernel_rfl))
  f29 := Tryz.func160.trans (congrArg some (by kernel_rfl))
  f46 := ⟨Tryz.f185.name, by decide, Tryz.func185.trans (congrArg some (by kernel_rfl))⟩
  f47 := Tryz.func186.trans (congrArg some (by kernel_rfl))
  f48 := Tryz.func187.trans (congrArg some (by kernel_rfl))
  f49 := ⟨Tryz.f188.name, by decide, Tryz.func188.trans (congrArg some (by kernel_rfl))⟩
  f50 := ⟨Tryz.f189.name, by decide, Tryz.func189.trans (congrArg some (by kernel_rfl))⟩
  f57 := ⟨Tryz.f199.name, by decide, Tryz.func199.trans (congrArg some (by kernel_rfl))⟩
  t0 := Tryz.underlying0
  a0 := Tryz.isAgg0
  z0 := Tryz.sizeOf0
  v0 := Tryz.zeroValue0
  t3 := Tryz.underlying3
  a3 := Tryz.isAgg3
  z3 := Tryz.sizeOf3
  v3 := Tryz.zeroValue3
  t4 := Tryz.underlying4
  a4 := Tryz.isAgg4
  z4 := Tryz.sizeOf4
  v4 := Tryz.zeroValue4
  t5 := Tryz.underlying5
  a5 := Tryz.isAgg5
  z5 := Tryz.sizeOf5
  v5 := Tryz.zeroValue5
  t9 := Tryz.underlying9
  a9 := Tryz.isAgg9
  z9 := Tryz.sizeOf9
  v9 := Tryz.zeroValue9
  t22 := Tryz.underlying44
  a22 := Tryz.isAgg44
  z22 := Tryz.sizeOf44
  v22 := Tryz.zeroValue44
  a24 := Tryz.isAgg9
  z24 := Tryz.sizeOf9
  t25 := Tryz.underlying110
  a25 := Tryz.isAgg110
  z25 := Tryz.sizeOf110
  v25 := Tryz.zeroValue110
  t39 := Tryz.underlying147
  a39 := Tryz.isAgg147
  z39 := Tryz.sizeOf147
  v39 := Tryz.zeroValue147
  t45 := Tryz.underlying187
  a45 := Tryz.isAgg187
  z45 := Tryz.sizeOf187
  v45 := Tryz.zeroValue187
  t46 := Tryz.underlying188
  a46 := Tryz.isAgg188
  z46 := Tryz.sizeOf188
  v46 := Tryz.zeroValue188
  t50 := Tryz.underlying192
  a50 := Tryz.isAgg192
  z50 := Tryz.sizeOf192
  v50 := Tryz.zeroValue192
  t53 := Tryz.underlying195
  a53 := Tryz.isAgg195
  z53 := Tryz.sizeOf195
  v53 := Tryz.zeroValue195
  t55 := Tryz.underlying22
  a55 := Tryz.isAgg22
  z55 := Tryz.sizeOf22
  v55 := Tryz.zeroValue22
  t66 := Tryz.underlying219
  a66 := Tryz.isAgg219
  z66 := Tryz.sizeOf219
  v66 := Tryz.zeroValue219
  t70 := Tryz.underlying222
  a70 := Tryz.isAgg222
  z70 := Tryz.sizeOf222
  v70 := Tryz.zeroValue222
  t76 := Tryz.underlying228
  a76 := Tryz.isAgg228
  z76 := Tryz.sizeOf228
  v76 := Tryz.zeroValue228
  t77 := Tryz.underlying229
  a77 := Tryz.isAgg229
  z77 := Tryz.sizeOf229
  v77 := Tryz.zeroValue229 }
def Tryz.laysSlF06_f64_ren : Go.Shelf.Ren := ⟨fun | 6 => 64 | 15 => 111 | 14 => 110 | 28 => 159 | 29 => 160 | 20 => 151 | 21 => 152 | 22 => 153 | 23 => 154 | 24 => 155 | 25 => 156 | 26 => 157 | 27 => 158 | 46 => 185 | 47 => 186 | 48 => 187 | 49 => 188 | 50 => 189 | 57 => 199 | n => n, fun | 22 => 44 | 24 => 9 | 25 => 110 | 3 => 3 | 39 => 147 | 0 => 0 | 53 => 195 | 55 => 22 | 4 => 4 | 46 => 188 | 45 => 187 | 50 => 192 | 5 => 5 | 9 => 9 | 66 => 219 | 70 => 222 | 76 => 228 | 77 => 229 | n => n, fun | n => n⟩
theorem Tryz.laysSlF06_f64 : Go.Proofs.SlLaysF0.n6 Tryz.prog Tryz.laysSlF06_f64_ren := {
  mixed := by kernel_rfl
  f6 := ⟨Tryz.f64.name, by decide, Tryz.func64.trans (congrArg some (by kernel_rfl))⟩
  f14 := ⟨Tryz.f110.name, by decide, Tryz.func110.trans (congrArg some (by kernel_rfl))⟩
  f15 := Tryz.func111.trans (congrArg some (by kernel_rfl))
  f20 := ⟨Tryz.f151.name, by decide, Tryz.func151.trans (congrArg some (by kernel_rfl))⟩
  f21 := ⟨Tryz.f152.name, by decide, Tryz.func152.trans (congrArg some (by kernel_rfl))⟩
  f22 := ⟨Tryz.f153.name, by decide, Tryz.func153.trans (congrArg some (by kernel_rfl))⟩
  f23 := ⟨Tryz.f154.name, by decide, Tryz.func154.trans (congrArg some (by kernel_rfl))⟩
  f24 := ⟨Tryz.f155.name, by decide, Tryz.func155.trans (congrArg some (by kernel_rfl))⟩
  f25 := ⟨Tryz.f156.name, by decide, Tryz.func156.trans (congrArg some (by kernel_rfl))⟩
  f26 := ⟨Tryz.f157.name, by decide, Tryz.func157.trans (congrArg some (by kernel_rfl))⟩
  f27 := ⟨Tryz.f158.name, by decide, Tryz.func158.trans (congrArg some (by kernel_rfl))⟩
  f28 := Tryz.func159.trans (congrArg some (by kernel_rfl))
  f29 := Tryz.func160.trans (congrArg some (by kernel_rfl))
  f46 := ⟨Tryz.f185.name, by decide, Tryz.func185.trans (congrArg some (by kernel_rfl))⟩
  f47 := Tryz.func186.trans (congrArg some (by kernel_rfl))
  f48 := Tryz.func187.trans (congrArg some (by kernel_rfl))
  f49 := ⟨Tryz.f188.name, by decide, Tryz.func188.trans (congrArg some (by kernel_rfl))⟩
  f50 := ⟨Tryz.f189.name, by decide, Tryz.func189.trans (congrArg some (by kernel_rfl))⟩
  f57 := ⟨Tryz.f199.name, by decide, Tryz.func199.trans (congrArg some (by kernel_rfl))⟩
  t0 := Tryz.underlying0
  a0 := Tryz.isAgg0
  z0 := Tryz.sizeOf0
  v0 := Tryz.zeroValue0
  t3 := Tryz.underlying3
  a3 := Tryz.isAgg3
  z3 := Tryz.sizeOf3
  v3 := Tryz.zeroValue3
  t4 := Tryz.underlying4
  a4 := Tryz.isAgg4
  z4 := Tryz.sizeOf4
  v4 := Tryz.zeroValue4
  t5 := Tryz.underlying5
  a5 := Tryz.isAgg5
  z5 := Tryz.sizeOf5
  v5 := Tryz.zeroValue5
  t9 := Tryz.underlying9
  a9 := Tryz.isAgg9
  z9 := Tryz.sizeOf9
  v9 := Tryz.zeroValue9
  t22 := Tryz.underlying44
  a22 := Tryz.isAgg44
  z22 := Tryz.sizeOf44
  v22 := Tryz.zeroValue44
  t25 := Tryz.underlying110
  a25 := Tryz.isAgg110
  z25 := Tryz.sizeOf110
  v25 := Tryz.zeroValue110
  t39 := Tryz.underlying147
  a39 := Tryz.isAgg147
  z39 := Tryz.sizeOf147
  v39 := Tryz.zeroValue147
  t45 := Tryz.underlying187
  a45 := Tryz.isAgg187
  z45 := Tryz.sizeOf187
  v45 := Tryz.zeroValue187
  t46 := Tryz.underlying188
  a46 := Tryz.isAgg188
  z46 := Tryz.sizeOf188
  v46 := Tryz.zeroValue188
  t50 := Tryz.underlying192
  a50 := Tryz.isAgg192
  z50 := Tryz.sizeOf192
  v50 := Tryz.zeroValue192
  t53 := Tryz.underlying195
  a53 := Tryz.isAgg195
  z53 := Tryz.sizeOf195
  v53 := Tryz.zeroValue195
  t55 := Tryz.underlying22
  a55 := Tryz.isAgg22
  z55 := Tryz.sizeOf22
  v55 := Tryz.zeroValue22
  t66 := Tryz.underlying219
  a66 := Tryz.isAgg219
  z66 := Tryz.sizeOf219
  v66 := Tryz.zeroValue219
  t70 := Tryz.underlying222
  a70 := Tryz.isAgg222
  z70 := Tryz.sizeOf222
  v70 := Tryz.zeroValue222
  t76 := Tryz.underlying228
  a76 := Tryz.isAgg228
  z76 := Tryz.sizeOf228
  v76 := Tryz.zeroValue228
  t77 := Tryz.underlying229
  a77 := Tryz.isAgg229
  z77 := Tryz.sizeOf229
  v77 := Tryz.zeroValue229 }
open Go.RowKit Go.Lib Go.Sort in
theorem Tryz.slices_SortFunc_none {α : Type} [Inhabited α] (p : Option Addr) (cap : Nat) (fv : Value) (w : World) :
    Calls Tryz.prog 64 #[.slice p 0 cap, fv] w fun e w' => e = .returned (.tuple #[]) ∧ w' = w := AnyF.slices_SortFunc_none Tryz.laysSlF06_f64 p cap fv w
open Go.RowKit Go.Lib Go.Sort in
theorem Tryz.slices_SortFunc_total {α : Type} [Inhabited α] (enc : α → Value) (h1 : OneCell enc) (cf : α → α → Int) (hO : SWO (ltOf cf)) (g : Nat) (cb : Array Value) (blk off cap : Nat) (d : Array α) (w : World) (eg : ∀ args w, (callFunc g args).run Tryz.prog w = .ok (.enter g args) w) (hcmp : CmpLays1 Tryz.prog g cb enc cf blk off d.size w) (hH : Holds enc w blk off d) (hblk : blk < w.heap.size) (hsz : d.size < 4611686018427387904) (hT : ∀ x y, (ltOf cf) x y = false → (ltOf cf) y x = false → x = y) :
    Calls Tryz.prog 64 #[.slice (some ⟨blk, off, none⟩) d.size cap, .func (.func g) #[] cb] w fun e w' =>
      e = .returned (.tuple #[]) ∧ ∃ n os, w' = sortWorld enc w blk off n (d.toList.mergeSort fun x y => !(ltOf cf) y x).toArray os := Any.slices_SortFunc_total Tryz.laysSlF6_f64 enc h1 cf hO g cb blk off cap d w eg hcmp hH hblk hsz hT
end Go.Proofs

namespace Go.Proofs.YtbdealddjonobaaGreat.Usr
open Go Go.RowKit Go.Sort Wire Rig

set_option linter.unusedVariables false
set_option linter.unusedSimpArgs false
theorem sv_enc (ss : List ByteArray) : (bl ss).map encStr = sv ss := by
  simp only [bl, sv, List.map_map]
  refine List.map_congr_left fun y _ => ?_
  simp [encStr]
def Rising (l : List Tm) : Prop := l.Pairwise (fun a b => Op.bytesLess a b = true)
def unb (l : List Tm) : List ByteArray := l.map fun x => ⟨x.toArray⟩
theorem bl_unb (l : List Tm) : bl (unb l) = l := by
  unfold bl unb
  rw [List.map_map]
  have : ((fun y : ByteArray => y.data.toList) ∘ fun x : Tm => (⟨x.toArray⟩ : ByteArray)) = id := by funext x; simp
  rw [this, List.map_id]
theorem sv_unb (l : List Tm) : l.map encStr = sv (unb l) := by rw [← sv_enc, bl_unb]
theorem bl_len' (ss : List ByteArray) : (bl ss).length = ss.length := by simp [bl]
theorem bl_app' (xs : List ByteArray) (y : ByteArray) : bl (xs ++ [y]) = bl xs ++ [y.data.toList] := by simp [bl]
theorem rising_sort {l : List Tm} (h : l.Nodup) : Rising (l.mergeSort fun x y => decide (x ≤ y)) ∧ ∀ x, x ∈ (l.mergeSort fun x y => decide (x ≤ y)) ↔ x ∈ l := by
  have hp := List.mergeSort_perm l (fun x y => decide (x ≤ y))
  refine ⟨?_, fun x => hp.mem_iff⟩
  have hs := List.pairwise_mergeSort (le := fun x y : Tm => decide (x ≤ y)) (fun a b c h1 h2 => by simp only [decide_eq_true_eq] at *; exact List.le_trans h1 h2) (fun a b => by simp only [Bool.or_eq_true, decide_eq_true_eq]; exact List.le_total a b) l
  have hn : (l.mergeSort fun x y => decide (x ≤ y)).Pairwise (fun a b => a ≠ b) := (hp.nodup_iff).2 h
  refine List.Pairwise.imp₂ (fun {a b} h1 h2 => ?_) hs hn
  show Op.bytesLess a b = true
  rw [bytesLess_eq]
  simp only [decide_eq_true_eq] at h1 ⊢
  exact Classical.byContradiction fun hn => h2 (List.le_antisymm h1 (List.not_lt.1 hn))
def cfO (a b : Tm) : Int := if Op.bytesLess a b then -1 else if Op.bytesLess b a then 1 else 0
theorem ltO : ltOf cfO = fun a b => decide (a < b) := by
  funext a b
  unfold ltOf cfO
  rw [bytesLess_eq, bytesLess_eq]
  by_cases h1 : a < b
  · simp [h1]
  · by_cases h2 : b < a <;> simp [h1, h2]
theorem swoO : SWO (ltOf cfO) := by
  rw [ltO]
  exact ⟨fun x => by simp [List.lt_irrefl], fun x y z h1 h2 => by simp only [decide_eq_true_eq] at *; exact List.lt_trans h1 h2, fun x y z h1 h2 => by
    simp only [decide_eq_false_iff_not] at *
    exact List.not_lt.2 (List.le_trans (List.not_lt.1 h2) (List.not_lt.1 h1))⟩
theorem parts_all : ∀ x y : Tm, ltOf cfO x y = false → ltOf cfO y x = false → x = y := fun x y h1 h2 => by
  rw [ltO] at h1 h2
  simp only [decide_eq_false_iff_not] at h1 h2
  exact List.le_antisymm (List.not_lt.1 h2) (List.not_lt.1 h1)
theorem le_of_ltO : (fun x y : Tm => !(ltOf cfO) y x) = fun x y => decide (x ≤ y) := by
  rw [ltO]
  funext x y
  by_cases h : y < x
  · have : ¬ x ≤ y := fun h2 => (List.not_lt.2 h2) h
    simp [h, this]
  · have : x ≤ y := List.not_lt.1 h
    simp [h, this]
set_option maxHeartbeats 2000000 in
set_option maxRecDepth 1000000 in
theorem less_c (a b : ByteArray) (w : World) : Calls Tryz.prog 112 #[.string a, .string b] w fun e w' => e = .returned (.bool (Op.bytesLess a.data.toList b.data.toList)) ∧ w' = w := by
  go_enter Tryz.func112, Tryz.ntmps112
  go_wp2
  go_ret
  refine ⟨?_, rfl⟩
  first | rfl | simp [Lib.toList_data]
set_option maxHeartbeats 2000000 in
set_option maxRecDepth 1000000 in
theorem order_c (a b : ByteArray) (w : World) : Calls Tryz.prog 65 #[.string a, .string b] w fun e w' => e = .returned (.int .i64 (cfO a.data.toList b.data.toList)) ∧ w' = w := by
  have HL := zh (less_c a b w)
  have HL2 := zh (less_c b a w)
  unfold cfO
  cases h1 : Op.bytesLess a.data.toList b.data.toList with
  | true =>
    rw [h1] at HL
    go_enter Tryz.func65, Tryz.ntmps65
    go_wp2_with fail
    refine HL.out.mono ?_
    rintro e w1 ⟨rfl, rfl⟩
    dsimp only
    go_wp2
    go_ret
    exact ⟨rfl, rfl⟩
  | false =>
    rw [h1] at HL
    cases h2 : Op.bytesLess b.data.toList a.data.toList with
    | true =>
      rw [h2] at HL2
      go_enter Tryz.func65, Tryz.ntmps65
      go_wp2_with fail
      refine HL.out.mono ?_
      rintro e w1 ⟨rfl, rfl⟩
      dsimp only
      go_wp2_with fail
      refine HL2.out.mono ?_
      rintro e w2 ⟨rfl, rfl⟩
      dsimp only
      go_wp2
      go_ret
      exact ⟨rfl, rfl⟩
    | false =>
      rw [h2] at HL2
      go_enter Tryz.func65, Tryz.ntmps65
      go_wp2_with fail
      refine HL.out.mono ?_
      rintro e w1 ⟨rfl, rfl⟩
      dsimp only
      go_wp2_with fail
      refine HL2.out.mono ?_
      rintro e w2 ⟨rfl, rfl⟩
      dsimp only
      go_wp2
      go_ret
      exact ⟨rfl, rfl⟩
theorem cmp_reads (blk off size : Nat) (w : World) : CmpLays1 Tryz.prog 65 #[] encStr cfO blk off size w :=
  CmpReads.lays fun m os dk hs x y => (order_c ⟨x.toArray⟩ ⟨y.toArray⟩ _).mono fun e w' h => ⟨h.1, 0, h.2⟩
theorem sort_own {B : Nat} {w wr : World} {ss : List ByteArray} {v : Value} (hB : w.heap.size ≤ B) (ho : wr.ownsRow B 9 1 v ss.length (sv ss)) (hb : Below w.heap.size w wr) (hn : (bl ss).Nodup) (hl : ss.length ≤ 100000) :
    Calls Tryz.prog 64 #[v, .func (.func 65) #[] #[]] wr fun e w' => e = .returned (.tuple #[]) ∧ (∃ ys : List ByteArray, ys.length = ss.length ∧ Rising (bl ys) ∧ (∀ x, x ∈ bl ys ↔ x ∈ bl ss) ∧ w'.ownsRow w.heap.size 9 1 v ys.length (sv ys)) ∧ Below w.heap.size w w' := by
  rcases List.eq_nil_or_concat ss with rfl | ⟨ss0, sl, hss⟩
  · obtain ⟨A, c, rfl⟩ := own_value ho
    refine (Tryz.slices_SortFunc_none (α := Tm) A c _ wr).mono ?_
    rintro e w7 ⟨rfl, rfl⟩
    refine ⟨rfl, ⟨[], rfl, List.Pairwise.nil, fun _ => Iff.rfl, ho.1, ?_⟩, hb⟩
    rcases ho.2 with h | ⟨g, cap, cur, h1, h2, h3⟩
    · exact .inl h
    · exact .inr ⟨g, cap, cur, h1, Nat.le_trans hB h2, h3⟩
  · have hpos : 0 < ss.length := by rw [hss]; simp
    have hr := ho
    obtain ⟨_, hr2⟩ := hr
    rcases hr2 with ⟨_, h0⟩ | ⟨g, cap, cur, hv, hbase, hheap, hnn, hcap, hsz, htake⟩
    · omega
    subst hv
    have hgl : g < wr.heap.size := (Array.getElem?_eq_some_iff.1 hheap).1
    have hH : Holds encStr wr g 0 (bl ss).toArray := holds_of_block hheap (by rw [bl_len', sv_enc]; rw [Nat.mul_one] at htake; exact htake)
    have hct := Tryz.slices_SortFunc_total encStr (fun _ => rfl) cfO swoO 65 #[] g 0 cap (bl ss).toArray wr (enters_of Tryz.func65 (by kernel_rfl) rfl) (cmp_reads _ _ _ _) hH hgl (by simp only [List.size_toArray, bl_len']; omega) parts_all
    rw [le_of_ltO] at hct
    simp only [List.size_toArray, bl_len'] at hct
    refine hct.mono ?_
    rintro e w7 ⟨rfl, nn, os, hw7⟩
    obtain ⟨r1, r2⟩ := rising_sort hn
    have h1 := ownsRow_sorted (w := wr) (base := w.heap.size) (g := g) (cap := cap) (n := nn) (os := os) (ss := bl ss) (ts := (bl ss).mergeSort fun x y => decide (x ≤ y)) (by rw [List.length_mergeSort]) (Nat.le_trans hB hbase) hheap (by rw [bl_len']; exact hnn) hcap hsz
    have hw7' : w7 = grow (putRow encStr (Sort.ahead wr nn) g 0 ((bl ss).mergeSort fun x y => decide (x ≤ y)).toArray) os := hw7
    rw [← hw7', sv_unb, bl_len'] at h1
    have hu : (unb ((bl ss).mergeSort fun x y => decide (x ≤ y))).length = ss.length := by unfold unb; rw [List.length_map, List.length_mergeSort, bl_len']
    refine ⟨rfl, ⟨unb ((bl ss).mergeSort fun x y => decide (x ≤ y)), hu, by rw [bl_unb]; exact r1, fun x => by rw [bl_unb]; exact r2 x, by rw [hu]; exact h1⟩, ?_⟩
    rw [hw7']
    exact hb.grown (grownBy_sorted _) (by omega) fun k e => by have := Option.some.inj e; omega
def CollU (H : Tm → Bool) (left : Lit → Bool) (ss : List ByteArray) : Prop := (bl ss).Nodup ∧ ∀ x, x ∈ bl ss ↔ (H x = true ∧ left (.string x) = false)
theorem collU {H : Tm → Bool} {left : Lit → Bool} {ss : List ByteArray} {s : ByteArray} (h : CollU H left ss) (hK : H s.data.toList = true) (hl : left (.string s.data.toList) = true) : CollU H (fun z => left z && !z.sameKey (.string s.data.toList)) (ss ++ [s]) := by
  have hnew : s.data.toList ∉ bl ss := fun e => by
    have := ((h.2 _).1 e).2
    rw [hl] at this; cases this
  refine ⟨?_, fun x => ?_⟩
  · rw [bl_app']
    refine List.nodup_append.2 ⟨h.1, by simp, fun a ha b hb => ?_⟩
    rw [List.mem_singleton.1 hb]
    exact fun e => hnew (e ▸ ha)
  · rw [bl_app', List.mem_append, List.mem_singleton, h.2 x]
    by_cases e : x = s.data.toList
    · rw [e]; simp [hK, Lit.sameKey]
    · simp [Lit.sameKey, e]
end Go.Proofs.YtbdealddjonobaaGreat.Usr

namespace Go.Proofs.YtbdealddjonobaaGreat.Usr
open Go Go.RowKit Go.Sort Wire Rig

set_option linter.unusedVariables false
set_option linter.unusedSimpArgs false
theorem lit_cells_at (W : World) (cs : Array Value) (t : TypeId) (g : Nat) (hg : g = W.heap.size) : ∀ j u, cs.toList[j]? = some u → (W.alloc (.cells cs t)).cell? ((⟨g, 0, none⟩ : Addr).add j) = some u := by
  subst hg
  exact lit_cells W cs t
theorem own_value' {w : World} {base : Nat} {v : Value} {n : Nat} {zs : List Value} {E : TypeId} (h : w.ownsRow base E 1 v n zs) : ∃ A c, v = .slice A n c ∧ (n ≤ c ∧ c ≤ 9223372036854775807) := by
  rcases h.2 with ⟨rfl, rfl⟩ | ⟨x, cap, cur, rfl, _, _, h1, h2, _⟩
  · exact ⟨none, 0, rfl, Nat.le_refl _, Nat.zero_le _⟩
  · exact ⟨_, _, rfl, h1, by simp only [maxLen] at h2; omega⟩
theorem row_ne_low' {w : World} {base b : Nat} {v : Value} {n : Nat} {zs : List Value} {E : TypeId} (h : w.ownsRow base E 1 v n zs) (hb : b < base) : some b ≠ v.ownBlock := fun e => by
  have := (h.lt b e.symm).1
  omega
theorem told_row {w w' : World} {S M : Nat → Prop} {ys : List ByteArray} {A : Option Addr} {c : Nat} (h : w'.ownsRow w.heap.size 9 1 (.slice A ys.length c) ys.length (sv ys)) : Told w S M (bl ys) (.returned (.slice A ys.length c)) w' := by
  obtain ⟨A', c', e, hc⟩ := own_value' h
  injection e with e1 _ e2
  subst e1 e2
  refine ⟨A, c, ys, rfl, hc, (sreads_own h).1, fun b hb => .inr ?_, rfl⟩
  obtain ⟨_, off, rfl⟩ := hb
  exact (h.lt b rfl).1
set_option maxHeartbeats 16000000 in
set_option maxRecDepth 1000000 in
theorem files_c (n : Nat) (a : Addr) (S M : Nat → Prop) (u : Us) (w : World) (h : DU w a S M u) (f : Fine n u) (hn : n ≤ 200) : Calls Tryz.prog 22 #[.pointer (some a)] w fun e w' => (∃ l, (Lsd [] l ∧ ∀ x, x ∈ l ↔ u.live x = true) ∧ Told w S M l e w') ∧ Below w.heap.size w w' := by
  obtain ⟨g, me, mg, db, dc, N, C, V, sb, rfl, h, _, _⟩ := h
  have c4 := h.c4
  obtain ⟨D, hD, hhas, hat⟩ := h.hm
  have hmb : me < w.heap.size := hD.lt
  have HHAS := zh hhas
  have HD := zh hD
  have HSZ : Hid (Maps.size D ≤ 8) := zh (by rw [own_count hD hhas (lives_nodup f) (fun x => mem_lives)]; exact f.eight)
  have HNM : Hid (∀ x, u.live x = true → nm x = true) := zh fun x hx => by
    obtain ⟨h1, _, h2, _⟩ := f.each x (live_in hx).1
    have := h1.2.1
    rw [h2] at this
    exact this
  have HL := lawS
  obtain ⟨i0, hi0, hz0, hz1, hz2⟩ := info_parts str_info
  clear hhas hat hD h f
  go_enter Tryz.func22, Tryz.ntmps22
  go_wp2_with (first
    | (at_range; refine wpList_range_own _ rfl _ 94 rfl 9 50 HL Tryz.underlying94 Rv me (Maps.size D) D rfl HD.out ?_; intro w0 hrg0 hg0 hs0)
    | go_in)
  go_frame
  have hgw := hg0.block
  have HB0 : Hid (Below w.heap.size w w0) := (Below.refl _ _).grown hg0 zl (fun k e => by cases e)
  have HR0 := zh hrg0
  have hw1 : w.heap.size + 1 ≤ w0.heap.size := by omega
  have HS0 : Hid (CollU u.live (Maps.has D) []) := ⟨by simp [bl], fun x => by
    constructor
    · intro hx; simp [bl] at hx
    · rintro ⟨h1, h2⟩; rw [HHAS.out x, h1] at h2; cases h2⟩
  clear hrg0 hg0 hs0 hgw
  go_loopw [3] (fun v wr => ∃ (left : Lit → Bool) (cnt : Nat) (ss : List ByteArray), Hid (wr.ranges Tryz.prog 9 Rv me w.heap.size (Maps.size D) D left cnt) ∧ Hid (wr.ownsRow (w.heap.size + 1) 9 1 v ss.length (sv ss)) ∧ Hid (CollU u.live left ss) ∧ ss.length + cnt ≤ 2000 ∧ Hid (Below w.heap.size w wr) ∧ w.heap.size + 1 ≤ wr.heap.size) (fun _ wr => wr.rangeLeft me w.heap.size)
  case atStart => exact ⟨_, _, [], HR0, World.ownsRow_nil _ _ _ _, HS0, by have := HSZ.out; simp; omega, HB0, hw1⟩
  case round =>
    clear HR0 HS0 HB0 hw1
    obtain ⟨left, cnt, ss, HR, HO, HC, hcnt, HB, hws⟩ := hrel
    obtain ⟨A, c, rfl, _⟩ := own_value' HO.out
    go_wp2_with (at_next; refine wpList_next_ranges _ rfl _ rfl 9 HL Rv Value.string (fun v => v) (fun key kl hk => by obtain ⟨x, hx, _⟩ := Maps.keyOf_str Tryz.underlying9 hk; exact ⟨_, hx⟩) (fun v y _ => ⟨v, rfl⟩) me w.heap.size (Maps.size D) D left cnt rfl HR.out ?_ ?_)
    · intro hc0 hl0
      have HFIN : Hid ((bl ss).Nodup ∧ ∀ x, x ∈ bl ss ↔ u.live x = true) := ⟨HC.out.1, fun x => by rw [HC.out.2 x]; exact ⟨fun h => h.1, fun h => ⟨h, hl0 _⟩⟩⟩
      have HCT := zh (sort_own (B := w.heap.size + 1) (Nat.le_succ _) HO.out HB.out HFIN.out.1 (by omega))
      clear hl0 hc0 HC
      go_wp2_with fail
      refine HCT.out.mono ?_
      rintro e w7 ⟨rfl, ⟨ys, hyl, hy1, hy2, hy3⟩, hb7⟩
      rw [← hyl] at *
      have HY : Hid ((Rising (bl ys) ∧ ∀ x, x ∈ bl ys ↔ u.live x = true) ∧ w7.ownsRow w.heap.size 9 1 (.slice A ys.length c) ys.length (sv ys)) := ⟨⟨hy1, fun x => (hy2 x).trans (HFIN.out.2 x)⟩, hy3⟩
      have HB7 := zh hb7
      clear hy1 hy2 hy3 hb7
      dsimp only
      go_wp2
      go_ret
      exact ⟨⟨bl ys, ⟨⟨fun x hx => ⟨HNM.out x ((HY.out.1.2 x).1 hx), fun e => by have h1 := HNM.out x ((HY.out.1.2 x).1 hx); rw [e] at h1; exact absurd h1 (by decide)⟩, HY.out.1.1⟩, HY.out.1.2⟩, told_row HY.out.2⟩, HB7.out⟩
    · intro s c0 kl yd yp w2 cnt2 hkey hlk hv hat2 hrg2 hlt2 hg2 hs2 hen
      obtain ⟨x', ex, hkl, hxl⟩ := Maps.keyOf_str Tryz.underlying9 hkey
      have e1 : x' = s.data.toList := by
        have := Value.string.inj ex
        rw [this]
      subst e1
      subst hkl
      have htK : u.live s.data.toList = true := (HHAS.out _).symm.trans (Maps.has_true_of_atKey hat2)
      have hs3 : w2.heap.size = wr.heap.size := hs2
      have HO2 : Hid (w2.ownsRow (w.heap.size + 1) 9 1 (.slice A ss.length c) ss.length (sv ss)) := HO.out.kept hg2 (by
        cases hvb : (Value.slice A ss.length c).ownBlock with
        | none => exact .inl rfl
        | some k =>
          refine .inr fun e => ?_
          have h1 := (HO.out.lt k hvb).1
          have h2 := Option.some.inj e
          omega)
      have HB2 : Hid (Below w.heap.size w w2) := HB.out.grown hg2 (by omega) (fun k e => by have := Option.some.inj e; omega)
      have hws2 : w.heap.size + 1 ≤ w2.heap.size := by omega
      have HRG := zh hrg2
      have HLK := zh hlk
      have HTK := zh htK
      clear hs2 hs3 hrg2 hg2 hlk hat2 hv hkey ex hxl htK
      have hsl : ss.length ≤ 2000 := by omega
      go_wp2_with (
        at_builtin
        refine wpList_append_lies _ rfl _ _ _ rfl (w.heap.size + 1) 9 i0 _ 1 16 Tryz.underlying44 hi0 hz0 hz1 hz2 rfl (by decide) _ ss.length (sv ss) rfl (HO2.out.alloc _) _ 1 1 [.string s] rfl rfl (lit_cells_at _ _ _ _ (by simp)) (sv_one [s]) (by decide) (by simp only [maxLen]; omega) (by omega) ?h6 _ rfl ?_
        case h6 => simp; omega
        intro gg cap2 w6 hown6 hgrow6 hat6 hlt6
        have HO6 := zh hown6
        have HG6 := zh hgrow6
        clear hown6 hgrow6 hat6)
      go_roundw
      case rel =>
        refine ⟨_, cnt2, ss ++ [s], (HRG.out.alloc _).kept HG6.out (row_ne_low' HO2.out (by omega)) (row_ne_low' HO2.out (by omega)), ?_, collU HC.out HTK.out HLK.out, by rw [List.length_append, List.length_singleton]; omega, ?_, ?_⟩
        · have := HO6.out
          show World.ownsRow _ _ _ _ _ _ _
          rw [List.length_append, List.length_singleton]
          simpa [sv] using this
        · exact ((HB2.out.alloc (by omega) _).grown HG6.out (by simp; omega) fun k e => by have := (HO2.out.lt k e).1; omega)
        · have := HG6.out.size
          simp at this
          omega
      case measure =>
        rw [((HRG.out.alloc _).kept HG6.out (row_ne_low' HO2.out (by omega)) (row_ne_low' HO2.out (by omega))).left_eq, HR.out.left_eq]; exact hlt2
end Go.Proofs.YtbdealddjonobaaGreat.Usr

