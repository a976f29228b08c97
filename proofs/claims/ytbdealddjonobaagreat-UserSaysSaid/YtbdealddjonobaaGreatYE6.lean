/-
  E6. By an AI agent.
-/
import Derived.Test.YtbdealddjonobaaGreatYZ
import Derived.Shelf.Sort.Plain
import Derived.Shelf.Slices.In.SortNone
import Derived.Test.YtbdealddjonobaaGreatProg
import Derived.Sort.OwnSorted
import Derived.Sort.Walk0
import Derived.Test.YtbdealddjonobaaGreatYB1
import Derived.Test.YtbdealddjonobaaGreatYC1
import Derived.Test.YtbdealddjonobaaGreatYE1
namespace Go.Proofs
open Go.Shelf
def Tryz.lays190_ren : Go.Shelf.Ren := ⟨fun | 190 => 165 | 125 => 111 | 258 => 190 | 128 => 159 | 129 => 160 | 302 => 200 | 303 => 201 | 304 => 202 | 305 => 203 | 306 => 204 | 307 => 205 | 308 => 206 | 309 => 207 | 310 => 208 | 333 => 213 | 329 => 186 | 330 => 187 | 334 => 214 | 335 => 215 | 336 => 216 | 344 => 218 | n => n, fun | 31 => 44 | 9 => 9 | 3 => 3 | 46 => 147 | 0 => 0 | 51 => 195 | 53 => 22 | 4 => 4 | 183 => 188 | 182 => 187 | 131 => 192 | 5 => 5 | 218 => 219 | 222 => 222 | 228 => 228 | 229 => 229 | n => n, fun | n => n⟩
theorem Tryz.lays190 : Go.Proofs.Lays.n190 Tryz.prog Tryz.lays190_ren := {
 mixed := by kernel_rfl
 f125 := Tryz.func111.trans (congrArg some (by kernel_rfl))
 f128 := Tryz.func159.trans (congrArg some (by kernel_rfl))
 f129 := Tryz.func160.trans (congrArg some (by kernel_rfl))
 f190 := Tryz.func165.trans (congrArg some (by kernel_rfl))
 f258 := Tryz.func190.trans (congrArg some (by kernel_rfl))
 f302 := Tryz.func200.trans (congrArg some (by kernel_rfl))
 f303 := Tryz.func201.trans (congrArg some (by kernel_rfl))
 f304 := Tryz.func202.trans (congrArg some (by kernel_rfl))
 f305 := Tryz.func203.trans (congrArg some (by kernel_rfl))
 f306 := Tryz.func204.trans (congrArg some (by kernel_rfl))
 f307 := Tryz.func205.trans (congrArg some (by kernel_rfl))
 f308 := Tryz.func206.trans (congrArg some (by kernel_rfl))
 f309 := Tryz.func207.trans (congrArg some (by kernel_rfl))
 f310 := Tryz.func208.trans (congrArg some (by kernel_rfl))
 f329 := Tryz.func186.trans (congrArg some (by kernel_rfl))
 f330 := Tryz.func187.trans (congrArg some (by kernel_rfl))
 f333 := Tryz.func213.trans (congrArg some (by kernel_rfl))
 f334 := Tryz.func214.trans (congrArg some (by kernel_rfl))
 f335 := Tryz.func215.trans (congrArg some (by kernel_rfl))
 f336 := Tryz.func216.trans (congrArg some (by kernel_rfl))
 f344 := Tryz.func218.trans (congrArg some (by kernel_rfl))
 t0 := Tryz.underlying0
 a0 := Tryz.isAgg0
 z0 := Tryz.sizeOf0
 v0 := Tryz.zeroValue0
 t3 := Tryz.underlying3
 a3 := Tryz.isAgg3
 z3 := Tryz.sizeOf3
 v3 := Tryz.zeroValue3
 t4 := Tryz.underlying4
 a4 := Tryz.isAgg4
 z4 := Tryz.sizeOf4
 v4 := Tryz.zeroValue4
 t5 := Tryz.underlying5
 a5 := Tryz.isAgg5
 z5 := Tryz.sizeOf5
 v5 := Tryz.zeroValue5
 t9 := Tryz.underlying9
 a9 := Tryz.isAgg9
 z9 := Tryz.sizeOf9
 v9 := Tryz.zeroValue9
 t31 := Tryz.underlying44
 a31 := Tryz.isAgg44
 z31 := Tryz.sizeOf44
 v31 := Tryz.zeroValue44
 t46 := Tryz.underlying147
 a46 := Tryz.isAgg147
 z46 := Tryz.sizeOf147
 v46 := Tryz.zeroValue147
 t51 := Tryz.underlying195
 a51 := Tryz.isAgg195
 z51 := Tryz.sizeOf195
 v51 := Tryz.zeroValue195
 t53 := Tryz.underlying22
 a53 := Tryz.isAgg22
 z53 := Tryz.sizeOf22
 v53 := Tryz.zeroValue22
 t131 := Tryz.underlying192
 a131 := Tryz.isAgg192
 z131 := Tryz.sizeOf192
 v131 := Tryz.zeroValue192
 t182 := Tryz.underlying187
 a182 := Tryz.isAgg187
 z182 := Tryz.sizeOf187
 v182 := Tryz.zeroValue187
 t183 := Tryz.underlying188
 a183 := Tryz.isAgg188
 z183 := Tryz.sizeOf188
 v183 := Tryz.zeroValue188
 t218 := Tryz.underlying219
 a218 := Tryz.isAgg219
 z218 := Tryz.sizeOf219
 v218 := Tryz.zeroValue219
 t222 := Tryz.underlying222
 a222 := Tryz.isAgg222
 z222 := Tryz.sizeOf222
 v222 := Tryz.zeroValue222
 t228 := Tryz.underlying228
 a228 := Tryz.isAgg228
 z228 := Tryz.sizeOf228
 v228 := Tryz.zeroValue228
 t229 := Tryz.underlying229
 a229 := Tryz.isAgg229
 z229 := Tryz.sizeOf229
 v229 := Tryz.zeroValue229 }
open Go.Sort Go.RowKit in
theorem Tryz.slices_Sort_string (blk off cap : Nat) (ss : List (List UInt8)) (w : World) (hH : Holds encStr w blk off ss.toArray) (hblk : blk < w.heap.size) (hsz : ss.length < 4611686018427387904) :
    Calls Tryz.prog 165 #[.slice (some ⟨blk, off, none⟩) ss.length cap] w fun e w' =>
      e = .returned (.tuple #[]) ∧ ∃ n os, w' = grow (putRow encStr (Sort.ahead w n) blk off (ss.mergeSort fun x y => decide (x ≤ y)).toArray) os := Any.slices_Sort_string Tryz.lays190 blk off cap ss w hH hblk hsz
open Go.RowKit Go.Sort in
theorem Tryz.slices_Sort_string_none (p : Option Addr) (cap : Nat) (w : World) :
    Calls Tryz.prog 165 #[.slice p 0 cap] w fun e w' => e = .returned (.tuple #[]) ∧ w' = w := Any.slices_Sort_string_none Tryz.lays190 p cap w
end Go.Proofs

namespace Go.Proofs.YtbdealddjonobaaGreat.Mta
open Go.RowKit Go.Sort Wire Term Rig

set_option linter.unusedSimpArgs false
set_option linter.unusedVariables false
theorem sv_enc (ss : List ByteArray) : (bl ss).map encStr = sv ss := by
 simp only [bl, sv, List.map_map]
 refine List.map_congr_left fun y _ => ?_
 simp [encStr]
def unb (l : List Tm) : List ByteArray := l.map fun x => ⟨x.toArray⟩
theorem bl_unb (l : List Tm) : bl (unb l) = l := by
 unfold bl unb
 rw [List.map_map]
 have : ((fun y : ByteArray => y.data.toList) ∘ fun x : Tm => (⟨x.toArray⟩ : ByteArray)) = id := by funext x; simp
 rw [this, List.map_id]
theorem sv_unb (l : List Tm) : l.map encStr = sv (unb l) := by rw [← sv_enc, bl_unb]
theorem rising_sort {l : List Tm} (h : l.Nodup) : Rise (l.mergeSort fun x y => decide (x ≤ y)) ∧ ∀ x, x ∈ (l.mergeSort fun x y => decide (x ≤ y)) ↔ x ∈ l := by
 have hp := List.mergeSort_perm l (fun x y => decide (x ≤ y))
 refine ⟨?_, fun x => hp.mem_iff⟩
 have hs := List.pairwise_mergeSort (le := fun x y : Tm => decide (x ≤ y)) (fun a b c h1 h2 => by simp only [decide_eq_true_eq] at *; exact List.le_trans h1 h2) (fun a b => by simp only [Bool.or_eq_true, decide_eq_true_eq]; exact List.le_total a b) l
 have hn : (l.mergeSort fun x y => decide (x ≤ y)).Pairwise (fun a b => a ≠ b) := (hp.nodup_iff).2 h
 refine List.Pairwise.imp₂ (fun {a b} h1 h2 => ?_) hs hn
 show Op.bytesLess a b = true
 rw [bytesLess_eq]
 simp only [decide_eq_true_eq] at h1 ⊢
 exact Classical.byContradiction fun hn => h2 (List.le_antisymm h1 (List.not_lt.1 hn))
theorem sort_own {w wr : World} {ss : List ByteArray} {v : Value} (ho : wr.ownsRow w.heap.size 9 1 v ss.length (sv ss)) (hb : Below w.heap.size w wr) (hn : (bl ss).Nodup) (hl : ss.length ≤ 100000) :
  Calls Tryz.prog 165 #[v] wr fun e w' => e = .returned (.tuple #[]) ∧ (∃ ys : List ByteArray, Rise (bl ys) ∧ (∀ x, x ∈ bl ys ↔ x ∈ bl ss) ∧ w'.ownsRow w.heap.size 9 1 v ys.length (sv ys)) ∧ Below w.heap.size w w' := by
 rcases List.eq_nil_or_concat ss with rfl | ⟨ss0, sl, hss⟩
 ·
  obtain ⟨A, c, rfl⟩ := own_value ho
  refine (Tryz.slices_Sort_string_none A c wr).mono ?_
  rintro e w7 ⟨rfl, rfl⟩
  exact ⟨rfl, ⟨[], List.Pairwise.nil, fun _ => Iff.rfl, ho⟩, hb⟩
 ·
  have hpos : 0 < ss.length := by rw [hss]; simp
  have hr := ho
  obtain ⟨_, hr2⟩ := hr
  rcases hr2 with ⟨_, h0⟩ | ⟨g, cap, cur, hv, hbase, hheap, hnn, hcap, hsz, htake⟩
  · omega
  subst hv
  have hgl : g < wr.heap.size := (Array.getElem?_eq_some_iff.1 hheap).1
  have hH : Holds encStr wr g 0 (bl ss).toArray := holds_of_block hheap (by rw [bl_len, sv_enc]; rw [Nat.mul_one] at htake; exact htake)
  have hct := Tryz.slices_Sort_string g 0 cap (bl ss) wr hH hgl (by rw [bl_len]; omega)
  rw [bl_len] at hct
  refine hct.mono ?_
  rintro e w7 ⟨rfl, nn, os, hw7⟩
  obtain ⟨r1, r2⟩ := rising_sort hn
  have h1 := ownsRow_sorted (w := wr) (base := w.heap.size) (g := g) (cap := cap) (n := nn) (os := os) (ss := bl ss) (ts := (bl ss).mergeSort fun x y => decide (x ≤ y)) (by rw [List.length_mergeSort]) hbase hheap (by rw [bl_len]; exact hnn) hcap hsz
  rw [← hw7, sv_unb, bl_len] at h1
  have hu : (unb ((bl ss).mergeSort fun x y => decide (x ≤ y))).length = ss.length := by unfold unb; rw [List.length_map, List.length_mergeSort, bl_len]
  refine ⟨rfl, ⟨unb ((bl ss).mergeSort fun x y => decide (x ≤ y)), by rw [bl_unb]; exact r1, fun x => by rw [bl_unb]; exact r2 x, by rw [hu]; exact h1⟩, ?_⟩
  rw [hw7]
  exact hb.grown (grownBy_sorted _) (by omega) fun k e => by have := Option.some.inj e; omega
set_option maxHeartbeats 4000000 in
set_option maxRecDepth 1000000 in
theorem others_any (o f : ByteArray) (ep : Int) (A : Option Addr) (c : Nat) (rs : List ByteArray) (B : Option Addr) (d : Nat) (ws : List ByteArray) (w : World) (hA : SReads w A rs) (hB : SReads w B ws) (hna : A = none → c = 0) (hnb : B = none → d = 0) (hr : RR ⟨o.data.toList, f.data.toList, ep, bl rs, bl ws⟩) :
  Calls Tryz.prog 116 #[RV o f ep A rs.length c B ws.length d] w fun e w' => Lst w.heap.size (oth ⟨o.data.toList, f.data.toList, ep, bl rs, bl ws⟩) e w' ∧ Below w.heap.size w w' := by
 have hl : rs.length + ws.length ≤ 5 := by
  have h2 := hr.2.2.2.1
  simp only [bl_len] at h2
  omega
 have hnd := oth_nodup hr
 simp only at hnd
 rw [← bl_app] at hnd
 have HND := zh hnd
 have HA := zh hA
 have HBB := zh hB
 have HR := zh hr
 have HNA := zh hna
 have HNB := zh hnb
 clear hnd hA hB hr hna hnb
 unfold RV
 go_enter Tryz.func116, Tryz.ntmps116
 go_wp2_with fail
 have HX0 := zh (bx_alloc w o f ep A rs.length c B ws.length d 48)
 have HB0 := zh (al w (.cells #[.string o, .string f, .int .i64 ep, .slice A rs.length c, .slice B ws.length d] 48))
 have hz0 : (w.alloc (.cells #[.string o, .string f, .int .i64 ep, .slice A rs.length c, .slice B ws.length d] 48)).heap.size = w.heap.size + 1 := by simp
 generalize w.alloc (.cells #[.string o, .string f, .int .i64 ep, .slice A rs.length c, .slice B ws.length d] 48) = w0 at HX0 HB0 hz0 ⊢
 have hb1 := al w0 (.cells #[.slice A rs.length c, .slice B ws.length d] 44)
 have HB1 := zh (Bel.call HB0.out hb1)
 have hp := two_pieces w0 w0.heap.size 44 (A1 := A) (A2 := B) (c1 := c) (c2 := d) (x1 := rs) (x2 := ws) rfl rfl rfl (HA.out.below HB0.out zl) (HBB.out.below HB0.out zl) HNA.out HNB.out
 obtain ⟨w1, hw1⟩ : ∃ W, w0.alloc (.cells #[.slice A rs.length c, .slice B ws.length d] 44) = W := ⟨_, rfl⟩
 have hc : Calls Tryz.prog 146 #[.slice (some ⟨w0.heap.size, 0, none⟩) 2 2] (w0.alloc (.cells #[.slice A rs.length c, .slice B ws.length d] 44)) fun e w' => (∃ v, e = .returned v ∧ Owns (w0.alloc (.cells #[.slice A rs.length c, .slice B ws.length d] 44)) (bl (rs ++ ws)) v w') ∧ Below (w0.alloc (.cells #[.slice A rs.length c, .slice B ws.length d] 44)).heap.size (w0.alloc (.cells #[.slice A rs.length c, .slice B ws.length d] 44)) w' := by
  have h := concat_own w0.heap.size _ _ hp (by simp) (by simp [whole]; omega)
  rw [show whole [(A, c, rs), (B, d, ws)] = rs ++ ws by simp [whole]] at h
  exact h
 rw [hw1, hz0] at hc
 rw [hw1] at HB1
 have HC := zh hc
 clear hb1 hp hc hz0
 rw [hw1]
 clear hw1
 with_reducible refine HC.out.mono ?_
 rintro e w2 ⟨⟨v, rfl, ys, hys, hown, hb2⟩, _⟩
 have hyl : ys.length ≤ 5 := by
  have h := congrArg List.length hys
  rw [bl_len, bl_len, List.length_append] at h
  omega
 have HSO := zh (sort_own hown hb2 (by rw [hys]; exact HND.out) (by omega))
 have HYS := zh hys
 clear hys hown hb2
 dsimp only
 go_wp2_with fail
 with_reducible refine HSO.out.mono ?_
 rintro e w3 ⟨rfl, ⟨zs, hz1, hz2, hz3⟩, hb3⟩
 have HB3 := zh (Bel.call HB1.out hb3)
 have HF : Hid (Lst w.heap.size (oth ⟨o.data.toList, f.data.toList, ep, bl rs, bl ws⟩) (.returned v) w3) := by
  have e1 : bl zs = oth ⟨o.data.toList, f.data.toList, ep, bl rs, bl ws⟩ := oth_is HR.out hz1 fun x => by rw [hz2 x, HYS.out, bl_app]
  exact lst_mono (owns_lst ⟨zs, e1, hz3, hb3⟩) HB1.out.size
 clear hz1 hz2 hz3 hb3
 dsimp only
 go_wp2
 go_ret
 exact ⟨HF.out, HB3.out⟩
end Go.Proofs.YtbdealddjonobaaGreat.Mta

namespace Go.Proofs.YtbdealddjonobaaGreat.Mta
open Go.RowKit Wire Term Rig

set_option linter.unusedSimpArgs false
set_option linter.unusedVariables false
theorem all_kds {k : Nat} (l : List Tm) : l.all (fun t => decide (kind t = k)) = decide (Kds k l) := by
 rw [Bool.eq_iff_iff]
 simp only [List.all_eq_true, decide_eq_true_eq]
 exact Iff.rfl
set_option maxHeartbeats 4000000 in
set_option maxRecDepth 1000000 in
theorem rightVerify_any (o f sig : ByteArray) (ep : Int) (A : Option Addr) (c : Nat) (rs : List ByteArray) (B : Option Addr) (d : Nat) (ws : List ByteArray) (ver : Nat) (V : Option Addr) (cv : Nat) (vs : List ByteArray) (K : Option Addr) (ck : Nat) (ks : List (ByteArray × ByteArray)) (w : World) (hV : SReads w V vs) (hr : RR ⟨o.data.toList, f.data.toList, ep, bl rs, bl ws⟩) (hvl : vs.length ≤ 1000) (hz : ∀ y ∈ vs, y.size ≤ 140737488355328) :
  Calls Tryz.prog 127 #[.agg #[.string o, .string f, .int .i64 ep, .slice A rs.length c, .slice B ws.length d, .int .u64 (ver : Int), .slice V vs.length cv, .slice K ks.length ck, .string sig]] w fun e w' => e = .returned (.bool (decide ((vs.length : Int) = ep + 1 ∧ Kds 117 (bl vs)))) ∧ Below w.heap.size w w' := by
 have hep := hr.2.2.1
 simp only at hep
 have HV := zh hV
 have HALL := zh fun w h => all_fn 73 (fun _ _ => rfl) (fun t => decide (kind t = 117)) V cv vs w h (by omega) fun y hy W => isPublic_any y W (hz y hy)
 rw [all_kds] at HALL
 have hw1 : IntKind.i64.wrap (ep + 1) = ep + 1 := by rw [IntKind.wrap_i64]; omega
 clear hV hz hr
 by_cases hlen : (vs.length : Int) = ep + 1
 case neg =>
  rw [decide_eq_false fun h => hlen h.1]
  have hlb : ((vs.length : Int) == ep + 1) = false := by simpa using hlen
  go_enter Tryz.func127, Tryz.ntmps127
  go_wp2_with fail
  have hmx := mx_alloc w o f ep A rs.length c B ws.length d ver V vs.length cv K ks.length ck sig 60
  have hb0 := al w (.cells #[.string o, .string f, .int .i64 ep, .slice A rs.length c, .slice B ws.length d, .int .u64 (ver : Int), .slice V vs.length cv, .slice K ks.length ck, .string sig] 60)
  have HB := zh hb0
  have HMX := zh hmx
  clear hmx hb0
  obtain ⟨g, hg⟩ : ∃ g, w.heap.size = g := ⟨_, rfl⟩
  generalize w.alloc (.cells #[.string o, .string f, .int .i64 ep, .slice A rs.length c, .slice B ws.length d, .int .u64 (ver : Int), .slice V vs.length cv, .slice K ks.length ck, .string sig] 60) = w1 at HB HMX ⊢
  rw [hg] at HMX ⊢
  have HG := zh hg
  clear hg
  obtain ⟨⟨m0, m1, m2, m3, m4, m5, m6, m7, m8⟩, _⟩ := HMX.out
  go_wp2
  go_ret
  first | exact ⟨rfl, HB.out⟩ | (rw [← HG.out]; exact ⟨rfl, HB.out⟩)
 have hlb : ((vs.length : Int) == ep + 1) = true := by simpa using hlen
 rw [show decide ((vs.length : Int) = ep + 1 ∧ Kds 117 (bl vs)) = decide (Kds 117 (bl vs)) by rw [Bool.eq_iff_iff]; simp only [decide_eq_true_eq]; exact ⟨fun h => h.2, fun h => ⟨hlen, h⟩⟩]
 obtain ⟨bb, hbb⟩ : ∃ b, decide (Kds 117 (bl vs)) = b := ⟨_, rfl⟩
 rw [hbb] at HALL ⊢
 clear hbb hlen
 go_enter Tryz.func127, Tryz.ntmps127
 go_wp2_with fail
 have hmx := mx_alloc w o f ep A rs.length c B ws.length d ver V vs.length cv K ks.length ck sig 60
 have hb0 := al w (.cells #[.string o, .string f, .int .i64 ep, .slice A rs.length c, .slice B ws.length d, .int .u64 (ver : Int), .slice V vs.length cv, .slice K ks.length ck, .string sig] 60)
 have HB := zh hb0
 have HMX := zh hmx
 clear hmx hb0
 obtain ⟨g, hg⟩ : ∃ g, w.heap.size = g := ⟨_, rfl⟩
 generalize w.alloc (.cells #[.string o, .string f, .int .i64 ep, .slice A rs.length c, .slice B ws.length d, .int .u64 (ver : Int), .slice V vs.length cv, .slice K ks.length ck, .string sig] 60) = w1 at HB HMX ⊢
 rw [hg] at HMX ⊢
 have HG := zh hg
 clear hg
 obtain ⟨⟨m0, m1, m2, m3, m4, m5, m6, m7, m8⟩, _⟩ := HMX.out
 go_wp2_with fail
 clear m0 m1 m2 m3 m4 m5 m6 m7 m8 hlb hw1
 with_reducible refine (HALL.out _ (HV.out.below HB.out zl)).mono ?_
 rintro e w2 ⟨rfl, hb2⟩
 have HB := zh (Bel.call HB.out hb2)
 have HMX := zh (HMX.out.call hb2)
 clear hb2
 dsimp only
 go_wp2
 go_ret
 first | exact ⟨rfl, HB.out⟩ | (rw [← HG.out]; exact ⟨rfl, HB.out⟩)
set_option maxHeartbeats 8000000 in
set_option maxRecDepth 1000000 in
theorem rightBlocks_any (o f sig : ByteArray) (ep : Int) (A : Option Addr) (c : Nat) (rs : List ByteArray) (B : Option Addr) (d : Nat) (ws : List ByteArray) (ver : Nat) (V : Option Addr) (cv : Nat) (vs : List ByteArray) (K : Option Addr) (ck : Nat) (ks : List (ByteArray × ByteArray)) (w : World) (hA : SReads w A rs) (hB : SReads w B ws) (hK : PReads w K ks) (hna : A = none → c = 0) (hnb : B = none → d = 0) (hr : RR ⟨o.data.toList, f.data.toList, ep, bl rs, bl ws⟩) (hkl : ks.length ≤ 1000) (hz : ∀ y ∈ ks, y.2.size ≤ 140737488355328) :
  Calls Tryz.prog 128 #[.agg #[.string o, .string f, .int .i64 ep, .slice A rs.length c, .slice B ws.length d, .int .u64 (ver : Int), .slice V vs.length cv, .slice K ks.length ck, .string sig]] w fun e w' => e = .returned (.bool (decide ((pl ks).map (·.1) = oth ⟨o.data.toList, f.data.toList, ep, bl rs, bl ws⟩ ∧ Kds 98 ((pl ks).map (·.2))))) ∧ Below w.heap.size w w' := by
 obtain ⟨bb, hbb⟩ : ∃ b, decide ((pl ks).map (·.1) = oth ⟨o.data.toList, f.data.toList, ep, bl rs, bl ws⟩ ∧ Kds 98 ((pl ks).map (·.2))) = b := ⟨_, rfl⟩
 have HNO : Hid (¬ ((pl ks).map (·.1) = oth ⟨o.data.toList, f.data.toList, ep, bl rs, bl ws⟩ ∧ Kds 98 ((pl ks).map (·.2))) → bb = false) := fun h => by rw [← hbb]; exact decide_eq_false h
 have HYES : Hid (((pl ks).map (·.1) = oth ⟨o.data.toList, f.data.toList, ep, bl rs, bl ws⟩ ∧ Kds 98 ((pl ks).map (·.2))) → bb = true) := fun h => by rw [← hbb]; exact decide_eq_true h
 rw [hbb]
 have HA := zh hA
 have HBB := zh hB
 have HK := zh hK
 have HZK := zh hz
 have HRR := zh hr
 have HOC := zh fun w h1 h2 => others_any o f ep A c rs B d ws w h1 h2 hna hnb hr
 unfold RV at HOC
 clear hA hB hK hna hnb hbb hz hr
 go_enter Tryz.func128, Tryz.ntmps128
 go_wp2_with fail
 have hmx := mx_alloc w o f ep A rs.length c B ws.length d ver V vs.length cv K ks.length ck sig 60
 have hb0 := al w (.cells #[.string o, .string f, .int .i64 ep, .slice A rs.length c, .slice B ws.length d, .int .u64 (ver : Int), .slice V vs.length cv, .slice K ks.length ck, .string sig] 60)
 have HB := zh hb0
 have HMX := zh hmx
 clear hmx hb0
 obtain ⟨g, hg⟩ : ∃ g, w.heap.size = g := ⟨_, rfl⟩
 generalize w.alloc (.cells #[.string o, .string f, .int .i64 ep, .slice A rs.length c, .slice B ws.length d, .int .u64 (ver : Int), .slice V vs.length cv, .slice K ks.length ck, .string sig] 60) = w1 at HB HMX ⊢
 rw [hg] at HMX ⊢
 have HG := zh hg
 clear hg
 obtain ⟨⟨m0, m1, m2, m3, m4, m5, m6, m7, m8⟩, _⟩ := HMX.out
 go_wp2_with fail
 clear m0 m1 m2 m3 m4 m5 m6 m7 m8
 with_reducible refine (HOC.out _ (HA.out.below HB.out zl) (HBB.out.below HB.out zl)).mono ?_
 rintro e w5 ⟨⟨A2, c2, ys, hys, hc2, hs2, hfr2, rfl⟩, hb5⟩
 have HB := zh (Bel.call HB.out hb5)
 have HMX := zh (HMX.out.call hb5)
 have HYS := zh hys
 have HS2 := zh hs2
 have hyl : ys.length ≤ 40 := by
  have h := congrArg List.length hys
  rw [bl_len, oth_len] at h
  have h2 := HRR.out.2.2.2.1
  simp only at h h2
  omega
 clear hb5 hys hs2 hc2 hfr2
 dsimp only
 obtain ⟨⟨m0, m1, m2, m3, m4, m5, m6, m7, m8⟩, _⟩ := HMX.out
 by_cases hll : (ks.length : Int) = (ys.length : Int)
 case neg =>
  obtain rfl : bb = false := HNO.out fun h => by
   have h1 := congrArg List.length h.1
   simp only [List.length_map, pl_len] at h1
   rw [← HYS.out, bl_len] at h1
   omega
  have q : ((ks.length : Int) == (ys.length : Int)) = false := by simpa using hll
  have q' : ((ks.length : Int) != (ys.length : Int)) = true := by simpa using hll
  go_wp2
  go_ret
  exact ⟨rfl, HB.out⟩
 have hq : ((ks.length : Int) == (ys.length : Int)) = true := by simpa using hll
 have hq' : ((ks.length : Int) != (ys.length : Int)) = false := by simpa using hll
 have hlk : ys.length = ks.length := by omega
 have HLK := zh hlk
 go_wp2_with fail
 clear m0 m1 m2 m3 m4 m5 m6 m7 m8 hq hq' hll hlk
 go_loopw [18] (fun i wr => ∃ j : Nat, j ≤ ks.length ∧ i = .int .i64 (j : Int) ∧ Hid (Blk ((bl ys).take j) ((pl ks).take j)) ∧ Hid (Below w5.heap.size w5 wr)) (fun i _ => ks.length - (intOf i).toNat)
 case atStart => exact ⟨0, Nat.zero_le _, rfl, zh ⟨by simp, fun t ht => by simp at ht⟩, zh (Below.refl _ _)⟩
 case round =>
  obtain ⟨j, hj, rfl, HKJ, HBJ⟩ := hrel
  have HB := zh (Bel.call HB.out HBJ.out)
  have HMX := zh (HMX.out.call HBJ.out)
  by_cases hlt2 : (j : Int) < (ks.length : Int)
  ·
   obtain ⟨b2, off2, rfl, hbl2, hcl2, hcl3⟩ := (HK.out.below HB.out zl) j (by omega)
   obtain ⟨b, off, rfl, hbl, hcl⟩ := ((HS2.out.below HBJ.out zl)) j (by have := HLK.out; omega)
   obtain ⟨y, hy⟩ : ∃ y, ys.getD j ByteArray.empty = y := ⟨_, rfl⟩
   obtain ⟨u, x, hux⟩ : ∃ u x, ks.getD j default = (u, x) := ⟨_, _, rfl⟩
   have hkt := blk_take (ys := ys) (ks := ks) (j := j) (by have := HLK.out; omega) (by omega)
   have hxz : x.size ≤ 140737488355328 := HZK.out (u, x) (by rw [← hux]; simp [List.getD, show j < ks.length by omega])
   rw [hy] at hcl hkt
   rw [hux] at hcl2 hcl3 hkt
   simp only at hcl2 hcl3
   have HKT := zh hkt
   have HKX := zh fun w => t_Kind x w hxz
   have hkx := kind_lt x.data.toList
   obtain ⟨kx, hkk⟩ : ∃ k, kind x.data.toList = k := ⟨_, rfl⟩
   have HKK := zh hkk
   rw [hkk] at HKX hkx
   have hblk := hbl
   have hclk := hcl
   clear hy hux hbl hbl2 hkt hxz hkk hcl
   have HNO2 : Hid (¬ Blk ((bl ys).take (j + 1)) ((pl ks).take (j + 1)) → bb = false) := fun h => HNO.out fun h2 => h ⟨by
    have h3 : (pl ks).map (·.1) = oth ⟨o.data.toList, f.data.toList, ep, bl rs, bl ws⟩ := h2.1
    rw [List.map_take, h3, HYS.out], fun t ht => h2.2 t (by rw [List.map_take] at ht; exact List.mem_of_mem_take ht)⟩
   have hjk : j < ks.length := by omega
   have hjy : j < ys.length := by have := HLK.out; omega
   have hjy2 : (j : Int) < (ys.length : Int) := by omega
   have HL1 := zh hblk
   have HC1 := zh hclk
   clear hblk hclk
   go_wp2_with fail
   have hca : ∀ i, (wr.alloc (.cells #[.string u, .string x] 120)).cell? ⟨wr.heap.size, i, none⟩ = (#[.string u, .string x] : Array Value)[i]? := fun i => cell_of_row _ _ _ _ _ (0, 0) (heap_alloc_new wr _)
   have hal := al wr (.cells #[.string u, .string x] 120)
   have hsz2 : (wr.alloc (.cells #[.string u, .string x] 120)).heap.size = wr.heap.size + 1 := by simp
   obtain ⟨nb, hnb⟩ : ∃ n, wr.heap.size = n := ⟨_, rfl⟩
   have HCA := zh hca
   have HBA := zh (Bel.call HBJ.out hal)
   have HBW := zh (Bel.call HB.out hal)
   have HCY : Hid ((wr.alloc (.cells #[.string u, .string x] 120)).cell? ⟨b, off + j, none⟩ = some (.string y)) := zh ((hal.cell (p := ⟨b, off + j, none⟩) HL1.out).trans HC1.out)
   have HBL := zh (Nat.lt_of_lt_of_le HL1.out hal.size)
   rw [hnb] at HCA hsz2 ⊢
   clear hca hal hnb hcl2 hcl3
   generalize wr.alloc (.cells #[.string u, .string x] 120) = wa at HCA HBA HBW HCY HBL hsz2 ⊢
   have HSZ := zh hsz2
   clear hsz2
   have hdr := Below.drewN' (Below.refl wa.heap.size wa) 1
   by_cases hu : u.data.toList = y.data.toList
   ·
    have q := s_eq hu
    by_cases hk98 : kx = 98
    ·
     subst hk98
     refine Ord.region_lit (S := fun w' => Below wa.heap.size wa w') (by kernel_rfl) (by kernel_rfl) hdr ?_
     clear hdr
     refine Ord.stepR (v := ?_) (by rfl) ?_ ?_
     rotate_left
     · intro w' hSw; have hk0 := (hSw.cell (p := ⟨nb, 0, none⟩) (by have := HSZ.out; simp only; omega)).trans (HCA.out 0); have hk1 := (hSw.cell (p := ⟨nb, 1, none⟩) (by have := HSZ.out; simp only; omega)).trans (HCA.out 1); have hk2 := (hSw.cell (p := ⟨b, off + j, none⟩) HBL.out).trans HCY.out; simp only [List.getElem?_toArray, List.getElem?_cons_zero, List.getElem?_cons_succ] at hk0 hk1; go_simp; try with_reducible rfl
     try simp only [Act.put, zq1, zq2, zq3]
     refine Ord.stepR (v := ?_) (by rfl) ?_ ?_
     rotate_left
     · intro w' hSw; have hk0 := (hSw.cell (p := ⟨nb, 0, none⟩) (by have := HSZ.out; simp only; omega)).trans (HCA.out 0); have hk1 := (hSw.cell (p := ⟨nb, 1, none⟩) (by have := HSZ.out; simp only; omega)).trans (HCA.out 1); have hk2 := (hSw.cell (p := ⟨b, off + j, none⟩) HBL.out).trans HCY.out; simp only [List.getElem?_toArray, List.getElem?_cons_zero, List.getElem?_cons_succ] at hk0 hk1; go_simp; try with_reducible rfl
     try simp only [Act.put, zq1, zq2, zq3]
     refine Ord.stepR (v := ?_) (by rfl) ?_ ?_
     rotate_left
     · intro w' hSw; have hk0 := (hSw.cell (p := ⟨nb, 0, none⟩) (by have := HSZ.out; simp only; omega)).trans (HCA.out 0); have hk1 := (hSw.cell (p := ⟨nb, 1, none⟩) (by have := HSZ.out; simp only; omega)).trans (HCA.out 1); have hk2 := (hSw.cell (p := ⟨b, off + j, none⟩) HBL.out).trans HCY.out; simp only [List.getElem?_toArray, List.getElem?_cons_zero, List.getElem?_cons_succ] at hk0 hk1; go_simp; try with_reducible rfl
     try simp only [Act.put, zq1, zq2, zq3]
     refine Ord.stepR (v := ?_) (by rfl) ?_ ?_
     rotate_left
     · intro w' hSw; have hk0 := (hSw.cell (p := ⟨nb, 0, none⟩) (by have := HSZ.out; simp only; omega)).trans (HCA.out 0); have hk1 := (hSw.cell (p := ⟨nb, 1, none⟩) (by have := HSZ.out; simp only; omega)).trans (HCA.out 1); have hk2 := (hSw.cell (p := ⟨b, off + j, none⟩) HBL.out).trans HCY.out; simp only [List.getElem?_toArray, List.getElem?_cons_zero, List.getElem?_cons_succ] at hk0 hk1; go_simp; try with_reducible rfl
     try simp only [Act.put, zq1, zq2, zq3]
     refine Ord.stepR (v := ?_) (by rfl) ?_ ?_
     rotate_left
     · intro w' hSw; have hk0 := (hSw.cell (p := ⟨nb, 0, none⟩) (by have := HSZ.out; simp only; omega)).trans (HCA.out 0); have hk1 := (hSw.cell (p := ⟨nb, 1, none⟩) (by have := HSZ.out; simp only; omega)).trans (HCA.out 1); have hk2 := (hSw.cell (p := ⟨b, off + j, none⟩) HBL.out).trans HCY.out; simp only [List.getElem?_toArray, List.getElem?_cons_zero, List.getElem?_cons_succ] at hk0 hk1; go_simp; try with_reducible rfl
     try simp only [Act.put, zq1, zq2, zq3]
     refine Ord.stepR (v := ?_) (by rfl) ?_ ?_
     rotate_left
     · intro w' hSw; have hk0 := (hSw.cell (p := ⟨nb, 0, none⟩) (by have := HSZ.out; simp only; omega)).trans (HCA.out 0); have hk1 := (hSw.cell (p := ⟨nb, 1, none⟩) (by have := HSZ.out; simp only; omega)).trans (HCA.out 1); have hk2 := (hSw.cell (p := ⟨b, off + j, none⟩) HBL.out).trans HCY.out; simp only [List.getElem?_toArray, List.getElem?_cons_zero, List.getElem?_cons_succ] at hk0 hk1; go_simp; try with_reducible rfl
     try simp only [Act.put, zq1, zq2, zq3]
     refine Ord.stepR (v := ?_) (by rfl) ?_ ?_
     rotate_left
     · intro w' hSw; have hk0 := (hSw.cell (p := ⟨nb, 0, none⟩) (by have := HSZ.out; simp only; omega)).trans (HCA.out 0); have hk1 := (hSw.cell (p := ⟨nb, 1, none⟩) (by have := HSZ.out; simp only; omega)).trans (HCA.out 1); have hk2 := (hSw.cell (p := ⟨b, off + j, none⟩) HBL.out).trans HCY.out; simp only [List.getElem?_toArray, List.getElem?_cons_zero, List.getElem?_cons_succ] at hk0 hk1; go_simp; try with_reducible rfl
     try simp only [Act.put, zq1, zq2, zq3]
     refine Ord.stepR (v := ?_) (by rfl) ?_ ?_
     rotate_left
     · intro w' hSw; have hk0 := (hSw.cell (p := ⟨nb, 0, none⟩) (by have := HSZ.out; simp only; omega)).trans (HCA.out 0); have hk1 := (hSw.cell (p := ⟨nb, 1, none⟩) (by have := HSZ.out; simp only; omega)).trans (HCA.out 1); have hk2 := (hSw.cell (p := ⟨b, off + j, none⟩) HBL.out).trans HCY.out; simp only [List.getElem?_toArray, List.getElem?_cons_zero, List.getElem?_cons_succ] at hk0 hk1; go_simp; try with_reducible rfl
     try simp only [Act.put, zq1, zq2, zq3]
     refine Ord.stepR (v := ?_) (by rfl) ?_ ?_
     rotate_left
     · intro w' hSw; have hk0 := (hSw.cell (p := ⟨nb, 0, none⟩) (by have := HSZ.out; simp only; omega)).trans (HCA.out 0); have hk1 := (hSw.cell (p := ⟨nb, 1, none⟩) (by have := HSZ.out; simp only; omega)).trans (HCA.out 1); have hk2 := (hSw.cell (p := ⟨b, off + j, none⟩) HBL.out).trans HCY.out; simp only [List.getElem?_toArray, List.getElem?_cons_zero, List.getElem?_cons_succ] at hk0 hk1; go_simp; try with_reducible rfl
     try simp only [Act.put, zq1, zq2, zq3]
     refine Ord.stepR (v := ?_) (by rfl) ?_ ?_
     rotate_left
     · intro w' hSw; have hk0 := (hSw.cell (p := ⟨nb, 0, none⟩) (by have := HSZ.out; simp only; omega)).trans (HCA.out 0); have hk1 := (hSw.cell (p := ⟨nb, 1, none⟩) (by have := HSZ.out; simp only; omega)).trans (HCA.out 1); have hk2 := (hSw.cell (p := ⟨b, off + j, none⟩) HBL.out).trans HCY.out; simp only [List.getElem?_toArray, List.getElem?_cons_zero, List.getElem?_cons_succ] at hk0 hk1; go_simp; try with_reducible rfl
     try simp only [Act.put, zq1, zq2, zq3]
     refine Ord.stepC (v := .int .u8 ((98 : Nat) : Int)) (by rfl) ?_ (fun w1 hS => (HKX.out w1).mono fun e w2 h => ⟨h.1, hS.trans (h.2.mono hS.size)⟩) ?_
     · intro w' hSw; go_simp; try with_reducible rfl
     try simp only [Act.put, zq1, zq2, zq3]
     refine Ord.stepR (v := ?_) (by rfl) ?_ ?_
     rotate_left
     · intro w' hSw; have hk0 := (hSw.cell (p := ⟨nb, 0, none⟩) (by have := HSZ.out; simp only; omega)).trans (HCA.out 0); have hk1 := (hSw.cell (p := ⟨nb, 1, none⟩) (by have := HSZ.out; simp only; omega)).trans (HCA.out 1); have hk2 := (hSw.cell (p := ⟨b, off + j, none⟩) HBL.out).trans HCY.out; simp only [List.getElem?_toArray, List.getElem?_cons_zero, List.getElem?_cons_succ] at hk0 hk1; go_simp; try with_reducible rfl
     try simp only [Act.put, zq1, zq2, zq3]
     refine Ord.stepR (v := ?_) (by rfl) ?_ ?_
     rotate_left
     · intro w' hSw; have hk0 := (hSw.cell (p := ⟨nb, 0, none⟩) (by have := HSZ.out; simp only; omega)).trans (HCA.out 0); have hk1 := (hSw.cell (p := ⟨nb, 1, none⟩) (by have := HSZ.out; simp only; omega)).trans (HCA.out 1); have hk2 := (hSw.cell (p := ⟨b, off + j, none⟩) HBL.out).trans HCY.out; simp only [List.getElem?_toArray, List.getElem?_cons_zero, List.getElem?_cons_succ] at hk0 hk1; go_simp; try with_reducible rfl
     try simp only [Act.put, zq1, zq2, zq3]
     refine Ord.stepD ?_
     rintro w9 hS9
     have HB9 := zh (Bel.call HBA.out hS9)
     have HBZ := zh (Bel.call HBW.out hS9)
     clear hS9
     go_wp2
     go_roundw
     case rel => exact ⟨j + 1, by omega, by go_num, zh (HKT.out.2 ⟨HKJ.out, hu, HKK.out⟩), HB9⟩
     case measure => simp [intOf]; omega
    ·
     obtain rfl : bb = false := HNO2.out fun h => hk98 (HKK.out.symm.trans (HKT.out.1 h).2.2)
     have q2 : ((kx : Int) == 98) = false := by simpa using (show ¬ (kx : Int) = 98 by omega)
     have q3 : ((kx : Int) != 98) = true := by simpa using (show ¬ (kx : Int) = 98 by omega)
     refine Ord.region_lit (S := fun w' => Below wa.heap.size wa w') (by kernel_rfl) (by kernel_rfl) hdr ?_
     clear hdr
     refine Ord.stepR (v := ?_) (by rfl) ?_ ?_
     rotate_left
     · intro w' hSw; have hk0 := (hSw.cell (p := ⟨nb, 0, none⟩) (by have := HSZ.out; simp only; omega)).trans (HCA.out 0); have hk1 := (hSw.cell (p := ⟨nb, 1, none⟩) (by have := HSZ.out; simp only; omega)).trans (HCA.out 1); have hk2 := (hSw.cell (p := ⟨b, off + j, none⟩) HBL.out).trans HCY.out; simp only [List.getElem?_toArray, List.getElem?_cons_zero, List.getElem?_cons_succ] at hk0 hk1; go_simp; try with_reducible rfl
     try simp only [Act.put, zq1, zq2, zq3]
     refine Ord.stepR (v := ?_) (by rfl) ?_ ?_
     rotate_left
     · intro w' hSw; have hk0 := (hSw.cell (p := ⟨nb, 0, none⟩) (by have := HSZ.out; simp only; omega)).trans (HCA.out 0); have hk1 := (hSw.cell (p := ⟨nb, 1, none⟩) (by have := HSZ.out; simp only; omega)).trans (HCA.out 1); have hk2 := (hSw.cell (p := ⟨b, off + j, none⟩) HBL.out).trans HCY.out; simp only [List.getElem?_toArray, List.getElem?_cons_zero, List.getElem?_cons_succ] at hk0 hk1; go_simp; try with_reducible rfl
     try simp only [Act.put, zq1, zq2, zq3]
     refine Ord.stepR (v := ?_) (by rfl) ?_ ?_
     rotate_left
     · intro w' hSw; have hk0 := (hSw.cell (p := ⟨nb, 0, none⟩) (by have := HSZ.out; simp only; omega)).trans (HCA.out 0); have hk1 := (hSw.cell (p := ⟨nb, 1, none⟩) (by have := HSZ.out; simp only; omega)).trans (HCA.out 1); have hk2 := (hSw.cell (p := ⟨b, off + j, none⟩) HBL.out).trans HCY.out; simp only [List.getElem?_toArray, List.getElem?_cons_zero, List.getElem?_cons_succ] at hk0 hk1; go_simp; try with_reducible rfl
     try simp only [Act.put, zq1, zq2, zq3]
     refine Ord.stepR (v := ?_) (by rfl) ?_ ?_
     rotate_left
     · intro w' hSw; have hk0 := (hSw.cell (p := ⟨nb, 0, none⟩) (by have := HSZ.out; simp only; omega)).trans (HCA.out 0); have hk1 := (hSw.cell (p := ⟨nb, 1, none⟩) (by have := HSZ.out; simp only; omega)).trans (HCA.out 1); have hk2 := (hSw.cell (p := ⟨b, off + j, none⟩) HBL.out).trans HCY.out; simp only [List.getElem?_toArray, List.getElem?_cons_zero, List.getElem?_cons_succ] at hk0 hk1; go_simp; try with_reducible rfl
     try simp only [Act.put, zq1, zq2, zq3]
     refine Ord.stepR (v := ?_) (by rfl) ?_ ?_
     rotate_left
     · intro w' hSw; have hk0 := (hSw.cell (p := ⟨nb, 0, none⟩) (by have := HSZ.out; simp only; omega)).trans (HCA.out 0); have hk1 := (hSw.cell (p := ⟨nb, 1, none⟩) (by have := HSZ.out; simp only; omega)).trans (HCA.out 1); have hk2 := (hSw.cell (p := ⟨b, off + j, none⟩) HBL.out).trans HCY.out; simp only [List.getElem?_toArray, List.getElem?_cons_zero, List.getElem?_cons_succ] at hk0 hk1; go_simp; try with_reducible rfl
     try simp only [Act.put, zq1, zq2, zq3]
     refine Ord.stepR (v := ?_) (by rfl) ?_ ?_
     rotate_left
     · intro w' hSw; have hk0 := (hSw.cell (p := ⟨nb, 0, none⟩) (by have := HSZ.out; simp only; omega)).trans (HCA.out 0); have hk1 := (hSw.cell (p := ⟨nb, 1, none⟩) (by have := HSZ.out; simp only; omega)).trans (HCA.out 1); have hk2 := (hSw.cell (p := ⟨b, off + j, none⟩) HBL.out).trans HCY.out; simp only [List.getElem?_toArray, List.getElem?_cons_zero, List.getElem?_cons_succ] at hk0 hk1; go_simp; try with_reducible rfl
     try simp only [Act.put, zq1, zq2, zq3]
     refine Ord.stepR (v := ?_) (by rfl) ?_ ?_
     rotate_left
     · intro w' hSw; have hk0 := (hSw.cell (p := ⟨nb, 0, none⟩) (by have := HSZ.out; simp only; omega)).trans (HCA.out 0); have hk1 := (hSw.cell (p := ⟨nb, 1, none⟩) (by have := HSZ.out; simp only; omega)).trans (HCA.out 1); have hk2 := (hSw.cell (p := ⟨b, off + j, none⟩) HBL.out).trans HCY.out; simp only [List.getElem?_toArray, List.getElem?_cons_zero, List.getElem?_cons_succ] at hk0 hk1; go_simp; try with_reducible rfl
     try simp only [Act.put, zq1, zq2, zq3]
     refine Ord.stepR (v := ?_) (by rfl) ?_ ?_
     rotate_left
     · intro w' hSw; have hk0 := (hSw.cell (p := ⟨nb, 0, none⟩) (by have := HSZ.out; simp only; omega)).trans (HCA.out 0); have hk1 := (hSw.cell (p := ⟨nb, 1, none⟩) (by have := HSZ.out; simp only; omega)).trans (HCA.out 1); have hk2 := (hSw.cell (p := ⟨b, off + j, none⟩) HBL.out).trans HCY.out; simp only [List.getElem?_toArray, List.getElem?_cons_zero, List.getElem?_cons_succ] at hk0 hk1; go_simp; try with_reducible rfl
     try simp only [Act.put, zq1, zq2, zq3]
     refine Ord.stepR (v := ?_) (by rfl) ?_ ?_
     rotate_left
     · intro w' hSw; have hk0 := (hSw.cell (p := ⟨nb, 0, none⟩) (by have := HSZ.out; simp only; omega)).trans (HCA.out 0); have hk1 := (hSw.cell (p := ⟨nb, 1, none⟩) (by have := HSZ.out; simp only; omega)).trans (HCA.out 1); have hk2 := (hSw.cell (p := ⟨b, off + j, none⟩) HBL.out).trans HCY.out; simp only [List.getElem?_toArray, List.getElem?_cons_zero, List.getElem?_cons_succ] at hk0 hk1; go_simp; try with_reducible rfl
     try simp only [Act.put, zq1, zq2, zq3]
     refine Ord.stepR (v := ?_) (by rfl) ?_ ?_
     rotate_left
     · intro w' hSw; have hk0 := (hSw.cell (p := ⟨nb, 0, none⟩) (by have := HSZ.out; simp only; omega)).trans (HCA.out 0); have hk1 := (hSw.cell (p := ⟨nb, 1, none⟩) (by have := HSZ.out; simp only; omega)).trans (HCA.out 1); have hk2 := (hSw.cell (p := ⟨b, off + j, none⟩) HBL.out).trans HCY.out; simp only [List.getElem?_toArray, List.getElem?_cons_zero, List.getElem?_cons_succ] at hk0 hk1; go_simp; try with_reducible rfl
     try simp only [Act.put, zq1, zq2, zq3]
     refine Ord.stepC (v := .int .u8 (kx : Int)) (by rfl) ?_ (fun w1 hS => (HKX.out w1).mono fun e w2 h => ⟨h.1, hS.trans (h.2.mono hS.size)⟩) ?_
     · intro w' hSw; go_simp; try with_reducible rfl
     try simp only [Act.put, zq1, zq2, zq3]
     refine Ord.stepR (v := ?_) (by rfl) ?_ ?_
     rotate_left
     · intro w' hSw; have hk0 := (hSw.cell (p := ⟨nb, 0, none⟩) (by have := HSZ.out; simp only; omega)).trans (HCA.out 0); have hk1 := (hSw.cell (p := ⟨nb, 1, none⟩) (by have := HSZ.out; simp only; omega)).trans (HCA.out 1); have hk2 := (hSw.cell (p := ⟨b, off + j, none⟩) HBL.out).trans HCY.out; simp only [List.getElem?_toArray, List.getElem?_cons_zero, List.getElem?_cons_succ] at hk0 hk1; go_simp; try with_reducible rfl
     try simp only [Act.put, zq1, zq2, zq3]
     refine Ord.stepR (v := ?_) (by rfl) ?_ ?_
     rotate_left
     · intro w' hSw; have hk0 := (hSw.cell (p := ⟨nb, 0, none⟩) (by have := HSZ.out; simp only; omega)).trans (HCA.out 0); have hk1 := (hSw.cell (p := ⟨nb, 1, none⟩) (by have := HSZ.out; simp only; omega)).trans (HCA.out 1); have hk2 := (hSw.cell (p := ⟨b, off + j, none⟩) HBL.out).trans HCY.out; simp only [List.getElem?_toArray, List.getElem?_cons_zero, List.getElem?_cons_succ] at hk0 hk1; go_simp; try with_reducible rfl
     try simp only [Act.put, zq1, zq2, zq3]
     refine Ord.stepD ?_
     rintro w9 hS9
     have HB9 := zh (Bel.call HBA.out hS9)
     have HBZ := zh (Bel.call HBW.out hS9)
     clear hS9
     go_wp2
     go_ret
     first | exact ⟨rfl, HBZ.out⟩ | (rw [← HG.out]; exact ⟨rfl, HBZ.out⟩)
   ·
    have q := s_ne hu
    obtain rfl : bb = false := HNO2.out fun h => hu (HKT.out.1 h).2.1
    refine Ord.region_lit (S := fun w' => Below wa.heap.size wa w') (by kernel_rfl) (by kernel_rfl) hdr ?_
    clear hdr
    refine Ord.stepR (v := ?_) (by rfl) ?_ ?_
    rotate_left
    · intro w' hSw; have hk0 := (hSw.cell (p := ⟨nb, 0, none⟩) (by have := HSZ.out; simp only; omega)).trans (HCA.out 0); have hk1 := (hSw.cell (p := ⟨nb, 1, none⟩) (by have := HSZ.out; simp only; omega)).trans (HCA.out 1); have hk2 := (hSw.cell (p := ⟨b, off + j, none⟩) HBL.out).trans HCY.out; simp only [List.getElem?_toArray, List.getElem?_cons_zero, List.getElem?_cons_succ] at hk0 hk1; go_simp; try with_reducible rfl
    try simp only [Act.put, zq1, zq2, zq3]
    refine Ord.stepR (v := ?_) (by rfl) ?_ ?_
    rotate_left
    · intro w' hSw; have hk0 := (hSw.cell (p := ⟨nb, 0, none⟩) (by have := HSZ.out; simp only; omega)).trans (HCA.out 0); have hk1 := (hSw.cell (p := ⟨nb, 1, none⟩) (by have := HSZ.out; simp only; omega)).trans (HCA.out 1); have hk2 := (hSw.cell (p := ⟨b, off + j, none⟩) HBL.out).trans HCY.out; simp only [List.getElem?_toArray, List.getElem?_cons_zero, List.getElem?_cons_succ] at hk0 hk1; go_simp; try with_reducible rfl
    try simp only [Act.put, zq1, zq2, zq3]
    refine Ord.stepR (v := ?_) (by rfl) ?_ ?_
    rotate_left
    · intro w' hSw; have hk0 := (hSw.cell (p := ⟨nb, 0, none⟩) (by have := HSZ.out; simp only; omega)).trans (HCA.out 0); have hk1 := (hSw.cell (p := ⟨nb, 1, none⟩) (by have := HSZ.out; simp only; omega)).trans (HCA.out 1); have hk2 := (hSw.cell (p := ⟨b, off + j, none⟩) HBL.out).trans HCY.out; simp only [List.getElem?_toArray, List.getElem?_cons_zero, List.getElem?_cons_succ] at hk0 hk1; go_simp; try with_reducible rfl
    try simp only [Act.put, zq1, zq2, zq3]
    refine Ord.stepR (v := ?_) (by rfl) ?_ ?_
    rotate_left
    · intro w' hSw; have hk0 := (hSw.cell (p := ⟨nb, 0, none⟩) (by have := HSZ.out; simp only; omega)).trans (HCA.out 0); have hk1 := (hSw.cell (p := ⟨nb, 1, none⟩) (by have := HSZ.out; simp only; omega)).trans (HCA.out 1); have hk2 := (hSw.cell (p := ⟨b, off + j, none⟩) HBL.out).trans HCY.out; simp only [List.getElem?_toArray, List.getElem?_cons_zero, List.getElem?_cons_succ] at hk0 hk1; go_simp; try with_reducible rfl
    try simp only [Act.put, zq1, zq2, zq3]
    refine Ord.stepR (v := ?_) (by rfl) ?_ ?_
    rotate_left
    · intro w' hSw; have hk0 := (hSw.cell (p := ⟨nb, 0, none⟩) (by have := HSZ.out; simp only; omega)).trans (HCA.out 0); have hk1 := (hSw.cell (p := ⟨nb, 1, none⟩) (by have := HSZ.out; simp only; omega)).trans (HCA.out 1); have hk2 := (hSw.cell (p := ⟨b, off + j, none⟩) HBL.out).trans HCY.out; simp only [List.getElem?_toArray, List.getElem?_cons_zero, List.getElem?_cons_succ] at hk0 hk1; go_simp; try with_reducible rfl
    try simp only [Act.put, zq1, zq2, zq3]
    refine Ord.stepR (v := ?_) (by rfl) ?_ ?_
    rotate_left
    · intro w' hSw; have hk0 := (hSw.cell (p := ⟨nb, 0, none⟩) (by have := HSZ.out; simp only; omega)).trans (HCA.out 0); have hk1 := (hSw.cell (p := ⟨nb, 1, none⟩) (by have := HSZ.out; simp only; omega)).trans (HCA.out 1); have hk2 := (hSw.cell (p := ⟨b, off + j, none⟩) HBL.out).trans HCY.out; simp only [List.getElem?_toArray, List.getElem?_cons_zero, List.getElem?_cons_succ] at hk0 hk1; go_simp; try with_reducible rfl
    try simp only [Act.put, zq1, zq2, zq3]
    refine Ord.stepR (v := ?_) (by rfl) ?_ ?_
    rotate_left
    · intro w' hSw; have hk0 := (hSw.cell (p := ⟨nb, 0, none⟩) (by have := HSZ.out; simp only; omega)).trans (HCA.out 0); have hk1 := (hSw.cell (p := ⟨nb, 1, none⟩) (by have := HSZ.out; simp only; omega)).trans (HCA.out 1); have hk2 := (hSw.cell (p := ⟨b, off + j, none⟩) HBL.out).trans HCY.out; simp only [List.getElem?_toArray, List.getElem?_cons_zero, List.getElem?_cons_succ] at hk0 hk1; go_simp; try with_reducible rfl
    try simp only [Act.put, zq1, zq2, zq3]
    refine Ord.stepR (v := ?_) (by rfl) ?_ ?_
    rotate_left
    · intro w' hSw; have hk0 := (hSw.cell (p := ⟨nb, 0, none⟩) (by have := HSZ.out; simp only; omega)).trans (HCA.out 0); have hk1 := (hSw.cell (p := ⟨nb, 1, none⟩) (by have := HSZ.out; simp only; omega)).trans (HCA.out 1); have hk2 := (hSw.cell (p := ⟨b, off + j, none⟩) HBL.out).trans HCY.out; simp only [List.getElem?_toArray, List.getElem?_cons_zero, List.getElem?_cons_succ] at hk0 hk1; go_simp; try with_reducible rfl
    try simp only [Act.put, zq1, zq2, zq3]
    refine Ord.stepS (by rfl) ?_
    try simp only [Act.put, zq1, zq2, zq3]
    refine Ord.stepS (by rfl) ?_
    try simp only [Act.put, zq1, zq2, zq3]
    refine Ord.stepS (by rfl) ?_
    try simp only [Act.put, zq1, zq2, zq3]
    refine Ord.stepS (by rfl) ?_
    try simp only [Act.put, zq1, zq2, zq3]
    refine Ord.stepR (v := ?_) (by rfl) ?_ ?_
    rotate_left
    · intro w' hSw; have hk0 := (hSw.cell (p := ⟨nb, 0, none⟩) (by have := HSZ.out; simp only; omega)).trans (HCA.out 0); have hk1 := (hSw.cell (p := ⟨nb, 1, none⟩) (by have := HSZ.out; simp only; omega)).trans (HCA.out 1); have hk2 := (hSw.cell (p := ⟨b, off + j, none⟩) HBL.out).trans HCY.out; simp only [List.getElem?_toArray, List.getElem?_cons_zero, List.getElem?_cons_succ] at hk0 hk1; go_simp; try with_reducible rfl
    try simp only [Act.put, zq1, zq2, zq3]
    refine Ord.stepD ?_
    rintro w9 hS9
    have HB9 := zh (Bel.call HBA.out hS9)
    have HBZ := zh (Bel.call HBW.out hS9)
    clear hS9
    go_wp2
    go_ret
    first | exact ⟨rfl, HBZ.out⟩ | (rw [← HG.out]; exact ⟨rfl, HBZ.out⟩)
  ·
   obtain rfl : bb = true := HYES.out ⟨by
    have h := HKJ.out.1
    rw [show j = ks.length by omega, List.take_of_length_le (by rw [pl_len]; exact Nat.le_refl _), List.take_of_length_le (by rw [bl_len, HLK.out]; exact Nat.le_refl _), HYS.out] at h
    exact h, by
    have h := HKJ.out.2
    rw [show j = ks.length by omega, List.take_of_length_le (by rw [pl_len]; exact Nat.le_refl _)] at h
    exact h⟩
   have hlt3 : ¬ (j : Int) < (ys.length : Int) := by have := HLK.out; omega
   go_wp2
   go_ret
   first | exact ⟨rfl, HB.out⟩ | (rw [← HG.out]; exact ⟨rfl, HB.out⟩)
set_option maxHeartbeats 4000000 in
set_option maxRecDepth 1000000 in
theorem cright_any (o f sig : ByteArray) (ep : Int) (A : Option Addr) (c : Nat) (rs : List ByteArray) (B : Option Addr) (d : Nat) (ws : List ByteArray) (ver : Nat) (V : Option Addr) (cv : Nat) (vs : List ByteArray) (K : Option Addr) (ck : Nat) (ks : List (ByteArray × ByteArray)) (w : World) (hA : SReads w A rs) (hB : SReads w B ws) (hV : SReads w V vs) (hK : PReads w K ks) (hna : A = none → c = 0) (hnb : B = none → d = 0) (hf : FewM ⟨⟨o.data.toList, f.data.toList, ep, bl rs, bl ws⟩, ver, bl vs, pl ks, sig.data.toList⟩) :
  Calls Tryz.prog 72 #[.agg #[.string o, .string f, .int .i64 ep, .slice A rs.length c, .slice B ws.length d, .int .u64 (ver : Int), .slice V vs.length cv, .slice K ks.length ck, .string sig]] w fun e w' => e = .returned (.bool (decide (MR ⟨⟨o.data.toList, f.data.toList, ep, bl rs, bl ws⟩, ver, bl vs, pl ks, sig.data.toList⟩))) ∧ Below w.heap.size w w' := by
 obtain ⟨hf1, hf2, hf3, hf4, hf5, hf6, hf7⟩ := hf
 simp only at hf1 hf2 hf3 hf4 hf5 hf6 hf7
 rw [bl_len] at hf2
 rw [pl_len] at hf3
 have hzv : ∀ y ∈ vs, y.size ≤ 140737488355328 := fun y hy => by have := hf4 _ (List.mem_map.2 ⟨y, hy, rfl⟩); rw [← Lib.size_eq] at this; omega
 have hzk : ∀ y ∈ ks, y.2.size ≤ 140737488355328 := fun y hy => by have := (hf5 _ (List.mem_map.2 ⟨y, hy, rfl⟩)).2; simp only at this; rw [← Lib.size_eq] at this; omega
 have HA := zh hA
 have HBB := zh hB
 have HV := zh hV
 have HK := zh hK
 have HRT := zh fun w h1 h2 => right_code o f ep A c rs B d ws w h1 h2 hf1
 unfold RV at HRT
 have hsz : sig.size ≤ 140737488355328 := by rw [Lib.size_eq]; omega
 have HKS := zh fun w => t_Kind sig w hsz
 have hks := kind_lt sig.data.toList
 obtain ⟨kd, hkd⟩ : ∃ k, kind sig.data.toList = k := ⟨_, rfl⟩
 have HKD := zh hkd
 rw [hkd] at HKS hks
 clear hA hB hV hK hf1 hf4 hf5 hf6 hf7 hsz hkd
 by_cases hr : RR ⟨o.data.toList, f.data.toList, ep, bl rs, bl ws⟩
 case neg =>
  rw [decide_eq_false hr] at HRT
  rw [show decide (MR ⟨⟨o.data.toList, f.data.toList, ep, bl rs, bl ws⟩, ver, bl vs, pl ks, sig.data.toList⟩) = false from decide_eq_false fun h => hr h.1]
  clear hr
  go_enter Tryz.func72, Tryz.ntmps72
  go_wp2_with fail
  have hmx := mx_alloc w o f ep A rs.length c B ws.length d ver V vs.length cv K ks.length ck sig 60
  have hb0 := al w (.cells #[.string o, .string f, .int .i64 ep, .slice A rs.length c, .slice B ws.length d, .int .u64 (ver : Int), .slice V vs.length cv, .slice K ks.length ck, .string sig] 60)
  have HB := zh hb0
  have HMX := zh hmx
  clear hmx hb0
  obtain ⟨g, hg⟩ : ∃ g, w.heap.size = g := ⟨_, rfl⟩
  generalize w.alloc (.cells #[.string o, .string f, .int .i64 ep, .slice A rs.length c, .slice B ws.length d, .int .u64 (ver : Int), .slice V vs.length cv, .slice K ks.length ck, .string sig] 60) = w1 at HB HMX ⊢
  rw [hg] at HMX ⊢
  have HG := zh hg
  clear hg
  obtain ⟨⟨m0, m1, m2, m3, m4, m5, m6, m7, m8⟩, _⟩ := HMX.out
  go_wp2_with fail
  clear m0 m1 m2 m3 m4 m5 m6 m7 m8
  with_reducible refine (HRT.out _ (HA.out.below HB.out zl) (HBB.out.below HB.out zl)).mono ?_
  rintro e w2 ⟨rfl, hb2⟩
  have HB := zh (Bel.call HB.out hb2)
  have HMX := zh (HMX.out.call hb2)
  clear hb2
  dsimp only
  obtain ⟨⟨m0, m1, m2, m3, m4, m5, m6, m7, m8⟩, _⟩ := HMX.out
  go_wp2
  go_ret
  first | exact ⟨rfl, HB.out⟩ | (rw [← HG.out]; exact ⟨rfl, HB.out⟩)
 rw [decide_eq_true hr] at HRT
 have HVF := zh fun w h => rightVerify_any o f sig ep A c rs B d ws ver V cv vs K ck ks w h hr (by omega) hzv
 have HBK := zh fun w h1 h2 h3 => rightBlocks_any o f sig ep A c rs B d ws ver V cv vs K ck ks w h1 h2 h3 hna hnb hr (by omega) hzk
 clear hzv hzk hna hnb
 by_cases hv : (vs.length : Int) = ep + 1 ∧ Kds 117 (bl vs)
 case neg =>
  rw [decide_eq_false hv] at HVF
  rw [show decide (MR ⟨⟨o.data.toList, f.data.toList, ep, bl rs, bl ws⟩, ver, bl vs, pl ks, sig.data.toList⟩) = false from decide_eq_false fun h => hv ⟨by have h2 := h.2.1; simp only [bl_len] at h2; exact h2, h.2.2.2.1⟩]
  clear hv hr HBK HKD HKS
  go_enter Tryz.func72, Tryz.ntmps72
  go_wp2_with fail
  have hmx := mx_alloc w o f ep A rs.length c B ws.length d ver V vs.length cv K ks.length ck sig 60
  have hb0 := al w (.cells #[.string o, .string f, .int .i64 ep, .slice A rs.length c, .slice B ws.length d, .int .u64 (ver : Int), .slice V vs.length cv, .slice K ks.length ck, .string sig] 60)
  have HB := zh hb0
  have HMX := zh hmx
  clear hmx hb0
  obtain ⟨g, hg⟩ : ∃ g, w.heap.size = g := ⟨_, rfl⟩
  generalize w.alloc (.cells #[.string o, .string f, .int .i64 ep, .slice A rs.length c, .slice B ws.length d, .int .u64 (ver : Int), .slice V vs.length cv, .slice K ks.length ck, .string sig] 60) = w1 at HB HMX ⊢
  rw [hg] at HMX ⊢
  have HG := zh hg
  clear hg
  obtain ⟨⟨m0, m1, m2, m3, m4, m5, m6, m7, m8⟩, _⟩ := HMX.out
  go_wp2_with fail
  clear m0 m1 m2 m3 m4 m5 m6 m7 m8
  with_reducible refine (HRT.out _ (HA.out.below HB.out zl) (HBB.out.below HB.out zl)).mono ?_
  rintro e w2 ⟨rfl, hb2⟩
  have HB := zh (Bel.call HB.out hb2)
  have HMX := zh (HMX.out.call hb2)
  clear hb2
  dsimp only
  obtain ⟨⟨m0, m1, m2, m3, m4, m5, m6, m7, m8⟩, _⟩ := HMX.out
  go_wp2_with fail
  clear m0 m1 m2 m3 m4 m5 m6 m7 m8
  with_reducible refine (HVF.out _ (HV.out.below HB.out zl)).mono ?_
  rintro e w3 ⟨rfl, hb3⟩
  have HB := zh (Bel.call HB.out hb3)
  have HMX := zh (HMX.out.call hb3)
  clear hb3
  dsimp only
  obtain ⟨⟨m0, m1, m2, m3, m4, m5, m6, m7, m8⟩, _⟩ := HMX.out
  go_wp2
  go_ret
  first | exact ⟨rfl, HB.out⟩ | (rw [← HG.out]; exact ⟨rfl, HB.out⟩)
 rw [decide_eq_true hv] at HVF
 by_cases hb : (pl ks).map (·.1) = oth ⟨o.data.toList, f.data.toList, ep, bl rs, bl ws⟩ ∧ Kds 98 ((pl ks).map (·.2))
 case neg =>
  rw [decide_eq_false hb] at HBK
  rw [show decide (MR ⟨⟨o.data.toList, f.data.toList, ep, bl rs, bl ws⟩, ver, bl vs, pl ks, sig.data.toList⟩) = false from decide_eq_false fun h => hb ⟨h.2.2.2.2.1, h.2.2.2.2.2⟩]
  clear hv hr hb HKD HKS
  go_enter Tryz.func72, Tryz.ntmps72
  go_wp2_with fail
  have hmx := mx_alloc w o f ep A rs.length c B ws.length d ver V vs.length cv K ks.length ck sig 60
  have hb0 := al w (.cells #[.string o, .string f, .int .i64 ep, .slice A rs.length c, .slice B ws.length d, .int .u64 (ver : Int), .slice V vs.length cv, .slice K ks.length ck, .string sig] 60)
  have HB := zh hb0
  have HMX := zh hmx
  clear hmx hb0
  obtain ⟨g, hg⟩ : ∃ g, w.heap.size = g := ⟨_, rfl⟩
  generalize w.alloc (.cells #[.string o, .string f, .int .i64 ep, .slice A rs.length c, .slice B ws.length d, .int .u64 (ver : Int), .slice V vs.length cv, .slice K ks.length ck, .string sig] 60) = w1 at HB HMX ⊢
  rw [hg] at HMX ⊢
  have HG := zh hg
  clear hg
  obtain ⟨⟨m0, m1, m2, m3, m4, m5, m6, m7, m8⟩, _⟩ := HMX.out
  go_wp2_with fail
  clear m0 m1 m2 m3 m4 m5 m6 m7 m8
  with_reducible refine (HRT.out _ (HA.out.below HB.out zl) (HBB.out.below HB.out zl)).mono ?_
  rintro e w2 ⟨rfl, hb2⟩
  have HB := zh (Bel.call HB.out hb2)
  have HMX := zh (HMX.out.call hb2)
  clear hb2
  dsimp only
  obtain ⟨⟨m0, m1, m2, m3, m4, m5, m6, m7, m8⟩, _⟩ := HMX.out
  go_wp2_with fail
  clear m0 m1 m2 m3 m4 m5 m6 m7 m8
  with_reducible refine (HVF.out _ (HV.out.below HB.out zl)).mono ?_
  rintro e w3 ⟨rfl, hb3⟩
  have HB := zh (Bel.call HB.out hb3)
  have HMX := zh (HMX.out.call hb3)
  clear hb3
  dsimp only
  obtain ⟨⟨m0, m1, m2, m3, m4, m5, m6, m7, m8⟩, _⟩ := HMX.out
  go_wp2_with fail
  clear m0 m1 m2 m3 m4 m5 m6 m7 m8
  with_reducible refine (HBK.out _ (HA.out.below HB.out zl) (HBB.out.below HB.out zl) (HK.out.below HB.out zl)).mono ?_
  rintro e w4 ⟨rfl, hb4⟩
  have HB := zh (Bel.call HB.out hb4)
  have HMX := zh (HMX.out.call hb4)
  clear hb4
  dsimp only
  obtain ⟨⟨m0, m1, m2, m3, m4, m5, m6, m7, m8⟩, _⟩ := HMX.out
  go_wp2
  go_ret
  first | exact ⟨rfl, HB.out⟩ | (rw [← HG.out]; exact ⟨rfl, HB.out⟩)
 rw [decide_eq_true hb] at HBK
 by_cases hk103 : kd = 103
 case neg =>
  rw [show decide (MR ⟨⟨o.data.toList, f.data.toList, ep, bl rs, bl ws⟩, ver, bl vs, pl ks, sig.data.toList⟩) = false from decide_eq_false fun h => hk103 (HKD.out.symm.trans h.2.2.1)]
  have q : ((kd : Int) == 103) = false := by simpa using (show ¬ (kd : Int) = 103 by omega)
  clear hv hr hb HKD
  go_enter Tryz.func72, Tryz.ntmps72
  go_wp2_with fail
  have hmx := mx_alloc w o f ep A rs.length c B ws.length d ver V vs.length cv K ks.length ck sig 60
  have hb0 := al w (.cells #[.string o, .string f, .int .i64 ep, .slice A rs.length c, .slice B ws.length d, .int .u64 (ver : Int), .slice V vs.length cv, .slice K ks.length ck, .string sig] 60)
  have HB := zh hb0
  have HMX := zh hmx
  clear hmx hb0
  obtain ⟨g, hg⟩ : ∃ g, w.heap.size = g := ⟨_, rfl⟩
  generalize w.alloc (.cells #[.string o, .string f, .int .i64 ep, .slice A rs.length c, .slice B ws.length d, .int .u64 (ver : Int), .slice V vs.length cv, .slice K ks.length ck, .string sig] 60) = w1 at HB HMX ⊢
  rw [hg] at HMX ⊢
  have HG := zh hg
  clear hg
  obtain ⟨⟨m0, m1, m2, m3, m4, m5, m6, m7, m8⟩, _⟩ := HMX.out
  go_wp2_with fail
  clear m0 m1 m2 m3 m4 m5 m6 m7 m8
  with_reducible refine (HRT.out _ (HA.out.below HB.out zl) (HBB.out.below HB.out zl)).mono ?_
  rintro e w2 ⟨rfl, hb2⟩
  have HB := zh (Bel.call HB.out hb2)
  have HMX := zh (HMX.out.call hb2)
  clear hb2
  dsimp only
  obtain ⟨⟨m0, m1, m2, m3, m4, m5, m6, m7, m8⟩, _⟩ := HMX.out
  go_wp2_with fail
  clear m0 m1 m2 m3 m4 m5 m6 m7 m8
  with_reducible refine (HVF.out _ (HV.out.below HB.out zl)).mono ?_
  rintro e w3 ⟨rfl, hb3⟩
  have HB := zh (Bel.call HB.out hb3)
  have HMX := zh (HMX.out.call hb3)
  clear hb3
  dsimp only
  obtain ⟨⟨m0, m1, m2, m3, m4, m5, m6, m7, m8⟩, _⟩ := HMX.out
  go_wp2_with fail
  clear m0 m1 m2 m3 m4 m5 m6 m7 m8
  with_reducible refine (HBK.out _ (HA.out.below HB.out zl) (HBB.out.below HB.out zl) (HK.out.below HB.out zl)).mono ?_
  rintro e w4 ⟨rfl, hb4⟩
  have HB := zh (Bel.call HB.out hb4)
  have HMX := zh (HMX.out.call hb4)
  clear hb4
  dsimp only
  obtain ⟨⟨m0, m1, m2, m3, m4, m5, m6, m7, m8⟩, _⟩ := HMX.out
  go_wp2_with fail
  clear m0 m1 m2 m3 m4 m5 m6 m7 m8
  with_reducible refine (HKS.out _).mono ?_
  rintro e w5 ⟨rfl, hb5⟩
  have HB := zh (Bel.call HB.out hb5)
  have HMX := zh (HMX.out.call hb5)
  clear hb5
  dsimp only
  obtain ⟨⟨m0, m1, m2, m3, m4, m5, m6, m7, m8⟩, _⟩ := HMX.out
  go_wp2
  go_ret
  first | exact ⟨rfl, HB.out⟩ | (rw [← HG.out]; exact ⟨rfl, HB.out⟩)
 rw [show decide (MR ⟨⟨o.data.toList, f.data.toList, ep, bl rs, bl ws⟩, ver, bl vs, pl ks, sig.data.toList⟩) = true from decide_eq_true ⟨hr, by simp only [bl_len]; exact hv.1, HKD.out.trans hk103, hv.2, hb.1, hb.2⟩]
 subst hk103
 clear hv hr hb HKD
 go_enter Tryz.func72, Tryz.ntmps72
 go_wp2_with fail
 have hmx := mx_alloc w o f ep A rs.length c B ws.length d ver V vs.length cv K ks.length ck sig 60
 have hb0 := al w (.cells #[.string o, .string f, .int .i64 ep, .slice A rs.length c, .slice B ws.length d, .int .u64 (ver : Int), .slice V vs.length cv, .slice K ks.length ck, .string sig] 60)
 have HB := zh hb0
 have HMX := zh hmx
 clear hmx hb0
 obtain ⟨g, hg⟩ : ∃ g, w.heap.size = g := ⟨_, rfl⟩
 generalize w.alloc (.cells #[.string o, .string f, .int .i64 ep, .slice A rs.length c, .slice B ws.length d, .int .u64 (ver : Int), .slice V vs.length cv, .slice K ks.length ck, .string sig] 60) = w1 at HB HMX ⊢
 rw [hg] at HMX ⊢
 have HG := zh hg
 clear hg
 obtain ⟨⟨m0, m1, m2, m3, m4, m5, m6, m7, m8⟩, _⟩ := HMX.out
 go_wp2_with fail
 clear m0 m1 m2 m3 m4 m5 m6 m7 m8
 with_reducible refine (HRT.out _ (HA.out.below HB.out zl) (HBB.out.below HB.out zl)).mono ?_
 rintro e w2 ⟨rfl, hb2⟩
 have HB := zh (Bel.call HB.out hb2)
 have HMX := zh (HMX.out.call hb2)
 clear hb2
 dsimp only
 obtain ⟨⟨m0, m1, m2, m3, m4, m5, m6, m7, m8⟩, _⟩ := HMX.out
 go_wp2_with fail
 clear m0 m1 m2 m3 m4 m5 m6 m7 m8
 with_reducible refine (HVF.out _ (HV.out.below HB.out zl)).mono ?_
 rintro e w3 ⟨rfl, hb3⟩
 have HB := zh (Bel.call HB.out hb3)
 have HMX := zh (HMX.out.call hb3)
 clear hb3
 dsimp only
 obtain ⟨⟨m0, m1, m2, m3, m4, m5, m6, m7, m8⟩, _⟩ := HMX.out
 go_wp2_with fail
 clear m0 m1 m2 m3 m4 m5 m6 m7 m8
 with_reducible refine (HBK.out _ (HA.out.below HB.out zl) (HBB.out.below HB.out zl) (HK.out.below HB.out zl)).mono ?_
 rintro e w4 ⟨rfl, hb4⟩
 have HB := zh (Bel.call HB.out hb4)
 have HMX := zh (HMX.out.call hb4)
 clear hb4
 dsimp only
 obtain ⟨⟨m0, m1, m2, m3, m4, m5, m6, m7, m8⟩, _⟩ := HMX.out
 go_wp2_with fail
 clear m0 m1 m2 m3 m4 m5 m6 m7 m8
 with_reducible refine (HKS.out _).mono ?_
 rintro e w5 ⟨rfl, hb5⟩
 have HB := zh (Bel.call HB.out hb5)
 have HMX := zh (HMX.out.call hb5)
 clear hb5
 dsimp only
 obtain ⟨⟨m0, m1, m2, m3, m4, m5, m6, m7, m8⟩, _⟩ := HMX.out
 go_wp2
 go_ret
 first | exact ⟨rfl, HB.out⟩ | (rw [← HG.out]; exact ⟨rfl, HB.out⟩)
end Go.Proofs.YtbdealddjonobaaGreat.Mta

