/-
  ShelfS, MCSort. By an AI agent.
-/
import Derived.Test.YtlkgjceddbclpaaGreatEZ
import Derived.Shelf.Sort.Plain
import Derived.Shelf.Slices.In.SortNone
import Derived.Test.YtlkgjceddbclpaaGreatProg
import Derived.Sort.OwnSorted
import Derived.Sort.Walk0
import Derived.Test.YtlkgjceddbclpaaGreatEMSpec
import Derived.Test.YtlkgjceddbclpaaGreatEC1
namespace Go.Proofs
open Go.Shelf
def Tryz.lays190_ren : Go.Shelf.Ren := ⟨fun | 190 => 110 | 125 => 146 | 258 => 145 | 128 => 167 | 129 => 168 | 302 => 158 | 303 => 159 | 304 => 160 | 305 => 161 | 306 => 162 | 307 => 163 | 308 => 164 | 309 => 165 | 310 => 166 | 333 => 180 | 329 => 181 | 330 => 182 | 334 => 183 | 335 => 184 | 336 => 185 | 344 => 188 | n => n, fun | 31 => 25 | 9 => 9 | 3 => 3 | 46 => 173 | 0 => 0 | 51 => 194 | 53 => 23 | 4 => 4 | 183 => 188 | 182 => 187 | 131 => 184 | 5 => 5 | 218 => 208 | 222 => 212 | 228 => 225 | 229 => 226 | n => n, fun | n => n⟩
theorem Tryz.lays190 : Go.Proofs.Lays.n190 Tryz.prog Tryz.lays190_ren := {
  mixed := by kernel_rfl
  f125 := Tryz.func146.trans (congrArg some (by kernel_rfl))
  f128 := Tryz.func167.trans (congrArg some (by kernel_rfl))
  f129 := Tryz.func168.trans (congrArg some (by kernel_rfl))
  f190 := Tryz.func110.trans (congrArg some (by kernel_rfl))
  f258 := Tryz.func145.trans (congrArg some (by kernel_rfl))
  f302 := Tryz.func158.trans (congrArg some (by kernel_rfl))
  f303 := Tryz.func159.trans (congrArg some (by kernel_rfl))
  f304 := Tryz.func160.trans (congrArg some (by kernel_rfl))
  f305 := Tryz.func161.trans (congrArg some (by kernel_rfl))
  f306 := Tryz.func162.trans (congrArg some (by kernel_rfl))
  f307 := Tryz.func163.trans (congrArg some (by kernel_rfl))
  f308 := Tryz.func164.trans (congrArg some (by kernel_rfl))
  f309 := Tryz.func165.trans (congrArg some (by kernel_rfl))
  f310 := Tryz.func166.trans (congrArg some (by kernel_rfl))
  f329 := Tryz.func181.trans (congrArg some (by kernel_rfl))
  f330 := Tryz.func182.trans (congrArg some (by kernel_rfl))
  f333 := Tryz.func180.trans (congrArg some (by kernel_rfl))
  f334 := Tryz.func183.trans (congrArg some (by kernel_rfl))
  f335 := Tryz.func184.trans (congrArg some (by kernel_rfl))
  f336 := Tryz.func185.trans (congrArg some (by kernel_rfl))
  f344 := Tryz.func188.trans (congrArg some (by kernel_rfl))
  t0 := Tryz.underlying0
  a0 := Tryz.isAgg0
  z0 := Tryz.sizeOf0
  v0 := Tryz.zeroValue0
  t3 := Tryz.underlying3
  a3 := Tryz.isAgg3
  z3 := Tryz.sizeOf3
  v3 := Tryz.zeroValue3
  t4 := Tryz.underlying4
  a4 := Tryz.isAgg4
  z4 := Tryz.sizeOf4
  v4 := Tryz.zeroValue4
  t5 := Tryz.underlying5
  a5 := Tryz.isAgg5
  z5 := Tryz.sizeOf5
  v5 := Tryz.zeroValue5
  t9 := Tryz.underlying9
  a9 := Tryz.isAgg9
  z9 := Tryz.sizeOf9
  v9 := Tryz.zeroValue9
  t31 := Tryz.underlying25
  a31 := Tryz.isAgg25
  z31 := Tryz.sizeOf25
  v31 := Tryz.zeroValue25
  t46 := Tryz.underlying173
  a46 := Tryz.isAgg173
  z46 := Tryz.sizeOf173
  v46 := Tryz.zeroValue173
  t51 := Tryz.underlying194
  a51 := Tryz.isAgg194
  z51 := Tryz.sizeOf194
  v51 := Tryz.zeroValue194
  t53 := Tryz.underlying23
  a53 := Tryz.isAgg23
  z53 := Tryz.sizeOf23
  v53 := Tryz.zeroValue23
  t131 := Tryz.underlying184
  a131 := Tryz.isAgg184
  z131 := Tryz.sizeOf184
  v131 := Tryz.zeroValue184
  t182 := Tryz.underlying187
  a182 := Tryz.isAgg187
  z182 := Tryz.sizeOf187
  v182 := Tryz.zeroValue187
  t183 := Tryz.underlying188
  a183 := Tryz.isAgg188
  z183 := Tryz.sizeOf188
  v183 := Tryz.zeroValue188
  t218 := Tryz.underlying208
  a218 := Tryz.isAgg208
  z218 := Tryz.sizeOf208
  v218 := Tryz.zeroValue208
  t222 := Tryz.underlying212
  a222 := Tryz.isAgg212
  z222 := Tryz.sizeOf212
  v222 := Tryz.zeroValue212
  t228 := Tryz.underlying225
  a228 := Tryz.isAgg225
  z228 := Tryz.sizeOf225
  v228 := Tryz.zeroValue225
  t229 := Tryz.underlying226
  a229 := Tryz.isAgg226
  z229 := Tryz.sizeOf226
  v229 := Tryz.zeroValue226 }
open Go.Sort Go.RowKit in
theorem Tryz.slices_Sort_string (blk off cap : Nat) (ss : List (List UInt8)) (w : World) (hH : Holds encStr w blk off ss.toArray) (hblk : blk < w.heap.size) (hsz : ss.length < 4611686018427387904) :
    Calls Tryz.prog 110 #[.slice (some ⟨blk, off, none⟩) ss.length cap] w fun e w' =>
      e = .returned (.tuple #[]) ∧ ∃ n os, w' = grow (putRow encStr (Sort.ahead w n) blk off (ss.mergeSort fun x y => decide (x ≤ y)).toArray) os := Any.slices_Sort_string Tryz.lays190 blk off cap ss w hH hblk hsz
open Go.RowKit Go.Sort in
theorem Tryz.slices_Sort_string_none (p : Option Addr) (cap : Nat) (w : World) :
    Calls Tryz.prog 110 #[.slice p 0 cap] w fun e w' => e = .returned (.tuple #[]) ∧ w' = w := Any.slices_Sort_string_none Tryz.lays190 p cap w
end Go.Proofs

namespace Go.Proofs.YtlkgjceddbclpaaGreat.Mta
open Go.RowKit Go.Sort Wire Term Rig

set_option linter.unusedSimpArgs false
set_option linter.unusedVariables false
theorem sv_enc (ss : List ByteArray) : (bl ss).map encStr = sv ss := by
  simp only [bl, sv, List.map_map]
  refine List.map_congr_left fun y _ => ?_
  simp [encStr]
def unb (l : List Tm) : List ByteArray := l.map fun x => ⟨x.toArray⟩
theorem bl_unb (l : List Tm) : bl (unb l) = l := by
  unfold bl unb
  rw [List.map_map]
  have : ((fun y : ByteArray => y.data.toList) ∘ fun x : Tm => (⟨x.toArray⟩ : ByteArray)) = id := by funext x; simp
  rw [this, List.map_id]
theorem sv_unb (l : List Tm) : l.map encStr = sv (unb l) := by rw [← sv_enc, bl_unb]
theorem rising_sort {l : List Tm} (h : l.Nodup) : Rise (l.mergeSort fun x y => decide (x ≤ y)) ∧ ∀ x, x ∈ (l.mergeSort fun x y => decide (x ≤ y)) ↔ x ∈ l := by
  have hp := List.mergeSort_perm l (fun x y => decide (x ≤ y))
  refine ⟨?_, fun x => hp.mem_iff⟩
  have hs := List.pairwise_mergeSort (le := fun x y : Tm => decide (x ≤ y)) (fun a b c h1 h2 => by simp only [decide_eq_true_eq] at *; exact List.le_trans h1 h2) (fun a b => by simp only [Bool.or_eq_true, decide_eq_true_eq]; exact List.le_total a b) l
  have hn : (l.mergeSort fun x y => decide (x ≤ y)).Pairwise (fun a b => a ≠ b) := (hp.nodup_iff).2 h
  refine List.Pairwise.imp₂ (fun {a b} h1 h2 => ?_) hs hn
  show Op.bytesLess a b = true
  rw [bytesLess_eq]
  simp only [decide_eq_true_eq] at h1 ⊢
  exact Classical.byContradiction fun hn => h2 (List.le_antisymm h1 (List.not_lt.1 hn))
theorem sort_own {w wr : World} {ss : List ByteArray} {v : Value} (ho : wr.ownsRow w.heap.size 9 1 v ss.length (sv ss)) (hb : Below w.heap.size w wr) (hn : (bl ss).Nodup) (hl : ss.length ≤ 100000) :
    Calls Tryz.prog 110 #[v] wr fun e w' => e = .returned (.tuple #[]) ∧ (∃ ys : List ByteArray, Rise (bl ys) ∧ (∀ x, x ∈ bl ys ↔ x ∈ bl ss) ∧ w'.ownsRow w.heap.size 9 1 v ys.length (sv ys)) ∧ Below w.heap.size w w' := by
  rcases List.eq_nil_or_concat ss with rfl | ⟨ss0, sl, hss⟩
  · obtain ⟨A, c, rfl⟩ := own_value ho
    refine (Tryz.slices_Sort_string_none A c wr).mono ?_
    rintro e w7 ⟨rfl, rfl⟩
    exact ⟨rfl, ⟨[], List.Pairwise.nil, fun _ => Iff.rfl, ho⟩, hb⟩
  · have hpos : 0 < ss.length := by rw [hss]; simp
    have hr := ho
    obtain ⟨_, hr2⟩ := hr
    rcases hr2 with ⟨_, h0⟩ | ⟨g, cap, cur, hv, hbase, hheap, hnn, hcap, hsz, htake⟩
    · omega
    subst hv
    have hgl : g < wr.heap.size := (Array.getElem?_eq_some_iff.1 hheap).1
    have hH : Holds encStr wr g 0 (bl ss).toArray := holds_of_block hheap (by rw [bl_len, sv_enc]; rw [Nat.mul_one] at htake; exact htake)
    have hct := Tryz.slices_Sort_string g 0 cap (bl ss) wr hH hgl (by rw [bl_len]; omega)
    rw [bl_len] at hct
    refine hct.mono ?_
    rintro e w7 ⟨rfl, nn, os, hw7⟩
    obtain ⟨r1, r2⟩ := rising_sort hn
    have h1 := ownsRow_sorted (w := wr) (base := w.heap.size) (g := g) (cap := cap) (n := nn) (os := os) (ss := bl ss) (ts := (bl ss).mergeSort fun x y => decide (x ≤ y)) (by rw [List.length_mergeSort]) hbase hheap (by rw [bl_len]; exact hnn) hcap hsz
    rw [← hw7, sv_unb, bl_len] at h1
    have hu : (unb ((bl ss).mergeSort fun x y => decide (x ≤ y))).length = ss.length := by unfold unb; rw [List.length_map, List.length_mergeSort, bl_len]
    refine ⟨rfl, ⟨unb ((bl ss).mergeSort fun x y => decide (x ≤ y)), by rw [bl_unb]; exact r1, fun x => by rw [bl_unb]; exact r2 x, by rw [hu]; exact h1⟩, ?_⟩
    rw [hw7]
    exact hb.grown (grownBy_sorted _) (by omega) fun k e => by have := Option.some.inj e; omega
set_option maxHeartbeats 4000000 in
set_option maxRecDepth 1000000 in
theorem others_any (o f : ByteArray) (ep : Int) (A : Option Addr) (c : Nat) (rs : List ByteArray) (B : Option Addr) (d : Nat) (ws : List ByteArray) (w : World) (hA : SReads w A rs) (hB : SReads w B ws) (hna : A = none → c = 0) (hnb : B = none → d = 0) (hr : RR ⟨o.data.toList, f.data.toList, ep, bl rs, bl ws⟩) :
    Calls Tryz.prog 54 #[RV o f ep A rs.length c B ws.length d] w fun e w' => Lst w.heap.size (oth ⟨o.data.toList, f.data.toList, ep, bl rs, bl ws⟩) e w' ∧ Below w.heap.size w w' := by
  have hl : rs.length + ws.length ≤ 5 := by
    have h2 := hr.2.2.2.1
    simp only [bl_len] at h2
    omega
  have hnd := oth_nodup hr
  simp only at hnd
  rw [← bl_app] at hnd
  have HND := zh hnd
  have HA := zh hA
  have HBB := zh hB
  have HR := zh hr
  have HNA := zh hna
  have HNB := zh hnb
  clear hnd hA hB hr hna hnb
  unfold RV
  go_enter Tryz.func54, Tryz.ntmps54
  go_wp2_with fail
  have HX0 := zh (bx_alloc w o f ep A rs.length c B ws.length d 27)
  have HB0 := zh (al w (.cells #[.string o, .string f, .int .i64 ep, .slice A rs.length c, .slice B ws.length d] 27))
  have hz0 : (w.alloc (.cells #[.string o, .string f, .int .i64 ep, .slice A rs.length c, .slice B ws.length d] 27)).heap.size = w.heap.size + 1 := by simp
  generalize w.alloc (.cells #[.string o, .string f, .int .i64 ep, .slice A rs.length c, .slice B ws.length d] 27) = w0 at HX0 HB0 hz0 ⊢
  have hb1 := al w0 (.cells #[.slice A rs.length c, .slice B ws.length d] 25)
  have HB1 := zh (Bel.call HB0.out hb1)
  have hp := two_pieces w0 w0.heap.size 25 (A1 := A) (A2 := B) (c1 := c) (c2 := d) (x1 := rs) (x2 := ws) rfl rfl rfl (HA.out.below HB0.out zl) (HBB.out.below HB0.out zl) HNA.out HNB.out
  obtain ⟨w1, hw1⟩ : ∃ W, w0.alloc (.cells #[.slice A rs.length c, .slice B ws.length d] 25) = W := ⟨_, rfl⟩
  have hc : Calls Tryz.prog 109 #[.slice (some ⟨w0.heap.size, 0, none⟩) 2 2] (w0.alloc (.cells #[.slice A rs.length c, .slice B ws.length d] 25)) fun e w' => (∃ v, e = .returned v ∧ Owns (w0.alloc (.cells #[.slice A rs.length c, .slice B ws.length d] 25)) (bl (rs ++ ws)) v w') ∧ Below (w0.alloc (.cells #[.slice A rs.length c, .slice B ws.length d] 25)).heap.size (w0.alloc (.cells #[.slice A rs.length c, .slice B ws.length d] 25)) w' := by
    have h := concat_own w0.heap.size _ _ hp (by simp) (by simp [whole]; omega)
    rw [show whole [(A, c, rs), (B, d, ws)] = rs ++ ws by simp [whole]] at h
    exact h
  rw [hw1, hz0] at hc
  rw [hw1] at HB1
  have HC := zh hc
  clear hb1 hp hc hz0
  rw [hw1]
  clear hw1
  with_reducible refine HC.out.mono ?_
  rintro e w2 ⟨⟨v, rfl, ys, hys, hown, hb2⟩, _⟩
  have hyl : ys.length ≤ 5 := by
    have h := congrArg List.length hys
    rw [bl_len, bl_len, List.length_append] at h
    omega
  have HSO := zh (sort_own hown hb2 (by rw [hys]; exact HND.out) (by omega))
  have HYS := zh hys
  clear hys hown hb2
  dsimp only
  go_wp2_with fail
  with_reducible refine HSO.out.mono ?_
  rintro e w3 ⟨rfl, ⟨zs, hz1, hz2, hz3⟩, hb3⟩
  have HB3 := zh (Bel.call HB1.out hb3)
  have HF : Hid (Lst w.heap.size (oth ⟨o.data.toList, f.data.toList, ep, bl rs, bl ws⟩) (.returned v) w3) := by
    have e1 : bl zs = oth ⟨o.data.toList, f.data.toList, ep, bl rs, bl ws⟩ := oth_is HR.out hz1 fun x => by rw [hz2 x, HYS.out, bl_app]
    exact lst_mono (owns_lst ⟨zs, e1, hz3, hb3⟩) HB1.out.size
  clear hz1 hz2 hz3 hb3
  dsimp only
  go_wp2
  go_ret
  exact ⟨HF.out, HB3.out⟩
end Go.Proofs.YtlkgjceddbclpaaGreat.Mta

