/-
  MReg, R1, MCBlocks, ShelfS, MCSort. By an AI agent.
-/
import Derived.Test.YtmihiknebelkbaaGreatOZ
import Derived.Test.YtmihiknebelkbaaGreatOMCAdr
import Derived.Test.YtmihiknebelkbaaGreatOMSame
import Derived.Test.YtmihiknebelkbaaGreatOMApp
import Derived.Test.YtmihiknebelkbaaGreatOG1
import Derived.Test.YtmihiknebelkbaaGreatOT2
import Derived.Test.YtmihiknebelkbaaGreatOC1
import Derived.Test.YtmihiknebelkbaaGreatOMCTake
import Derived.Shelf.Sort.Plain
import Derived.Shelf.Slices.In.SortNone
import Derived.Test.YtmihiknebelkbaaGreatProg
import Derived.Sort.OwnSorted
import Derived.Sort.Walk0
import Derived.Test.YtmihiknebelkbaaGreatOMOth
set_option linter.unusedSimpArgs false
set_option linter.unusedVariables false
set_option maxHeartbeats 4000000
namespace Go.Proofs.YtmihiknebelkbaaGreat.Mta
open Go.RowKit Wire Term Rig
theorem Mx.lt {g:Nat} {w:World} {o f:ByteArray} {ep:Int} {A:Option Addr} {n c:Nat} {B:Option Addr} {m d:Nat} {ver:Nat} {V:Option Addr} {nv cv:Nat} {K:Option Addr} {nk ck:Nat} {sig:ByteArray} (h:Mx g w o f ep A n c B m d ver V nv cv K nk ck sig):g<w.heap.size:=h.2
theorem bx_lt {g:Nat} {w:World} {o f:ByteArray} {ep:Int} {A:Option Addr} {n c:Nat} {B:Option Addr} {m d:Nat} (h:Bx g w o f ep A n c B m d):g<w.heap.size:=h.2.2.2.2.2
theorem set9 {w0 w:World} {g B:Nat} {v0 v1 v2 v3 v4 v5 v6 v7 v8:Value} (h:Below B w0 w) (hg:B≤g):Below B w0 (((((((((w.setCell ⟨g,0,none⟩ v0).setCell ⟨g,1,none⟩ v1).setCell ⟨g,2,none⟩ v2).setCell ⟨g,3,none⟩ v3).setCell ⟨g,4,none⟩ v4).setCell ⟨g,5,none⟩ v5).setCell ⟨g,6,none⟩ v6).setCell ⟨g,7,none⟩ v7).setCell ⟨g,8,none⟩ v8):=
 (((((((((h.setCell hg v0).setCell hg v1).setCell hg v2).setCell hg v3).setCell hg v4).setCell hg v5).setCell hg v6).setCell hg v7).setCell hg v8)
theorem cell_set9 {w:World} {g b j:Nat} {v0 v1 v2 v3 v4 v5 v6 v7 v8:Value} (h:b≠g):(((((((((w.setCell ⟨g,0,none⟩ v0).setCell ⟨g,1,none⟩ v1).setCell ⟨g,2,none⟩ v2).setCell ⟨g,3,none⟩ v3).setCell ⟨g,4,none⟩ v4).setCell ⟨g,5,none⟩ v5).setCell ⟨g,6,none⟩ v6).setCell ⟨g,7,none⟩ v7).setCell ⟨g,8,none⟩ v8).cell? ⟨b,j,none⟩=w.cell? ⟨b,j,none⟩:=by
 have e:∀i,(⟨g,i,none⟩:Addr)≠⟨b,j,none⟩:=fun i e=>h (by injection e with e1 _ _;exact e1.symm)
 rw[World.cell?_setCell_other _ _ _ _ (e 8),World.cell?_setCell_other _ _ _ _ (e 7),World.cell?_setCell_other _ _ _ _ (e 6),World.cell?_setCell_other _ _ _ _ (e 5),World.cell?_setCell_other _ _ _ _ (e 4),World.cell?_setCell_other _ _ _ _ (e 3),World.cell?_setCell_other _ _ _ _ (e 2),World.cell?_setCell_other _ _ _ _ (e 1),World.cell?_setCell_other _ _ _ _ (e 0)]
theorem size_set9 {w:World} {g:Nat} {v0 v1 v2 v3 v4 v5 v6 v7 v8:Value}:(((((((((w.setCell ⟨g,0,none⟩ v0).setCell ⟨g,1,none⟩ v1).setCell ⟨g,2,none⟩ v2).setCell ⟨g,3,none⟩ v3).setCell ⟨g,4,none⟩ v4).setCell ⟨g,5,none⟩ v5).setCell ⟨g,6,none⟩ v6).setCell ⟨g,7,none⟩ v7).setCell ⟨g,8,none⟩ v8).heap.size=w.heap.size:=by simp[World.setCell]
theorem sreads_set9 {w:World} {A:Option Addr} {ys:List ByteArray} (h:SReads w A ys) {g:Nat} {v0 v1 v2 v3 v4 v5 v6 v7 v8:Value} (hR:∀b off,A=some ⟨b,off,none⟩→0<ys.length→b≠g):SReads (((((((((w.setCell ⟨g,0,none⟩ v0).setCell ⟨g,1,none⟩ v1).setCell ⟨g,2,none⟩ v2).setCell ⟨g,3,none⟩ v3).setCell ⟨g,4,none⟩ v4).setCell ⟨g,5,none⟩ v5).setCell ⟨g,6,none⟩ v6).setCell ⟨g,7,none⟩ v7).setCell ⟨g,8,none⟩ v8) A ys:=fun i hi=>by
 obtain⟨b,off,e,hb,hc⟩:=h i hi;have hne:=hR b off e (by omega);exact⟨b,off,e,by rw[size_set9];exact hb,by rw[cell_set9 hne];exact hc⟩
theorem preads_set9 {w:World} {A:Option Addr} {ks:List (ByteArray×ByteArray)} (h:PReads w A ks) {g:Nat} {v0 v1 v2 v3 v4 v5 v6 v7 v8:Value} (hR:∀b off,A=some ⟨b,off,none⟩→0<ks.length→b≠g):PReads (((((((((w.setCell ⟨g,0,none⟩ v0).setCell ⟨g,1,none⟩ v1).setCell ⟨g,2,none⟩ v2).setCell ⟨g,3,none⟩ v3).setCell ⟨g,4,none⟩ v4).setCell ⟨g,5,none⟩ v5).setCell ⟨g,6,none⟩ v6).setCell ⟨g,7,none⟩ v7).setCell ⟨g,8,none⟩ v8) A ks:=fun i hi=>by
 obtain⟨b,off,e,hb,h1,h2⟩:=h i hi;have hne:=hR b off e (by omega);exact⟨b,off,e,by rw[size_set9];exact hb,by rw[cell_set9 hne];exact h1,by rw[cell_set9 hne];exact h2⟩
theorem isM_set9 {gs:List Nat} {g:Nat} (hG:g∈gs) {w:World} {v:Value} {m:Mt} {v0 v1 v2 v3 v4 v5 v6 v7 v8:Value} (h:IsM (Off gs) w v m):IsM (Off gs) (((((((((w.setCell ⟨g,0,none⟩ v0).setCell ⟨g,1,none⟩ v1).setCell ⟨g,2,none⟩ v2).setCell ⟨g,3,none⟩ v3).setCell ⟨g,4,none⟩ v4).setCell ⟨g,5,none⟩ v5).setCell ⟨g,6,none⟩ v6).setCell ⟨g,7,none⟩ v7).setCell ⟨g,8,none⟩ v8) v m:=by
 obtain⟨o,f,sig,A,c,rs,B',d,ws,V,cv,vs,K,ck,ks,h1,h2,h3,h4,h5,h6,h7,h8,h9,h10,k1,k2,k3,k4⟩:=h;refine⟨o,f,sig,A,c,rs,B',d,ws,V,cv,vs,K,ck,ks,h1,h2,sreads_set9 h3 fun b off e h0 e2=>?_,sreads_set9 h4 fun b off e h0 e2=>?_,sreads_set9 h5 fun b off e h0 e2=>?_,preads_set9 h6 fun b off e h0 e2=>?_,h7,h8,h9,h10,k1,k2,k3,k4⟩
 ·subst e2;exact k1 b off e h0 hG
 ·subst e2;exact k2 b off e h0 hG
 ·subst e2;exact k3 b off e h0 hG
 ·subst e2;exact k4 b off e h0 hG
theorem SepM.below {w w':World} {v:Value} (h:SepM w v) (hb:Below w.heap.size w w'):SepM w' v:=by
 intro o f sig ep ver A n c B m d V nv cv K nk ck e;obtain⟨h1,h2⟩:=h o f sig ep ver A n c B m d V nv cv K nk ck e;refine⟨fun b off e h0=>?_,fun b off e h0=>?_⟩
 ·obtain⟨a1,a2,a3⟩:=h1 b off e h0
  exact⟨Nat.lt_of_lt_of_le a1 hb.size,fun j=>(hb.frozen (p:=⟨b,j,none⟩) a1).trans (a2 j),a3⟩
 ·obtain⟨a1,a2,a3⟩:=h2 b off e h0
  exact⟨Nat.lt_of_lt_of_le a1 hb.size,fun j=>(hb.frozen (p:=⟨b,j,none⟩) a1).trans (a2 j),a3⟩
def Sf9 (g:Nat) (w:World):Prop:=w.frozen? ⟨g,0,none⟩=false∧w.frozen? ⟨g,1,none⟩=false∧w.frozen? ⟨g,2,none⟩=false∧w.frozen? ⟨g,3,none⟩=false∧w.frozen? ⟨g,4,none⟩=false∧w.frozen? ⟨g,5,none⟩=false∧w.frozen? ⟨g,6,none⟩=false∧w.frozen? ⟨g,7,none⟩=false∧w.frozen? ⟨g,8,none⟩=false
theorem sf9_alloc (w:World) (cs:Array Value) (t:TypeId):Sf9 w.heap.size (w.alloc (.cells cs t)):=by
 have h:∀j,(w.alloc (.cells cs t)).frozen? ⟨w.heap.size,j,none⟩=false:=fun j=>by
  unfold World.frozen?;rw[heap_alloc_new];simp
 exact⟨h 0,h 1,h 2,h 3,h 4,h 5,h 6,h 7,h 8⟩
theorem Sf9.below {g:Nat} {w w':World} {M:Nat} (h:Sf9 g w) (hb:Below M w w') (hg:g<M):Sf9 g w':=by
 obtain⟨h0,h1,h2,h3,h4,h5,h6,h7,h8⟩:=h;have e:=fun j=>hb.frozen (p:=⟨g,j,none⟩) hg
 exact⟨(e 0).trans h0,(e 1).trans h1,(e 2).trans h2,(e 3).trans h3,(e 4).trans h4,(e 5).trans h5,(e 6).trans h6,(e 7).trans h7,(e 8).trans h8⟩
end Go.Proofs.YtmihiknebelkbaaGreat.Mta
namespace Go.Proofs.YtmihiknebelkbaaGreat.Reg
open Go.RowKit Wire Term Clo Draw
theorem str_eq {S H:ByteArray} (h:S.data.toList=H.data.toList):S=H:=by
 cases S;cases H;simp only at h;congr 1;exact Array.toList_inj.1 h
end Go.Proofs.YtmihiknebelkbaaGreat.Reg
namespace Go.Proofs.YtmihiknebelkbaaGreat.Reg
open Go.RowKit Wire Term Clo Draw
end Go.Proofs.YtmihiknebelkbaaGreat.Reg
namespace Go.Proofs.YtmihiknebelkbaaGreat.Mta
open Go.RowKit Wire Term Rig
def Bk2 (g:Nat) (w:World) (u x:ByteArray):Prop:=g<w.heap.size∧w.cell? ⟨g,0,none⟩=some (.string u)∧w.cell? ⟨g,1,none⟩=some (.string x)
theorem Bk2.call {g:Nat} {w w':World} {u x:ByteArray} (h:Bk2 g w u x) (hb:Below w.heap.size w w'):Bk2 g w' u x:=⟨Nat.lt_of_lt_of_le h.1 hb.size,(hb.cell (p:=⟨g,0,none⟩) h.1).trans h.2.1,(hb.cell (p:=⟨g,1,none⟩) h.1).trans h.2.2⟩
end Go.Proofs.YtmihiknebelkbaaGreat.Mta
namespace Go.Proofs
open Go.Shelf
def Tryz.lays190_ren:Go.Shelf.Ren:=⟨fun|190=>97|125=>110|258=>109|128=>123|129=>124|302=>114|303=>115|304=>116|305=>117|306=>118|307=>119|308=>120|309=>121|310=>122|333=>125|329=>126|330=>127|334=>128|335=>129|336=>130|344=>131|n=>n,fun|31=>22|9=>9|3=>3|46=>86|0=>0|51=>183|53=>25|4=>4|183=>177|182=>176|131=>149|5=>5|218=>185|222=>189|228=>191|229=>192|n=>n,fun|n=>n⟩
theorem Tryz.lays190:Go.Proofs.Lays.n190 Tryz.prog Tryz.lays190_ren:={
 mixed:=by kernel_rfl
 f125:=Tryz.func110.trans (congrArg some (by kernel_rfl))
 f128:=Tryz.func123.trans (congrArg some (by kernel_rfl))
 f129:=Tryz.func124.trans (congrArg some (by kernel_rfl))
 f190:=Tryz.func97.trans (congrArg some (by kernel_rfl))
 f258:=Tryz.func109.trans (congrArg some (by kernel_rfl))
 f302:=Tryz.func114.trans (congrArg some (by kernel_rfl))
 f303:=Tryz.func115.trans (congrArg some (by kernel_rfl))
 f304:=Tryz.func116.trans (congrArg some (by kernel_rfl))
 f305:=Tryz.func117.trans (congrArg some (by kernel_rfl))
 f306:=Tryz.func118.trans (congrArg some (by kernel_rfl))
 f307:=Tryz.func119.trans (congrArg some (by kernel_rfl))
 f308:=Tryz.func120.trans (congrArg some (by kernel_rfl))
 f309:=Tryz.func121.trans (congrArg some (by kernel_rfl))
 f310:=Tryz.func122.trans (congrArg some (by kernel_rfl))
 f329:=Tryz.func126.trans (congrArg some (by kernel_rfl))
 f330:=Tryz.func127.trans (congrArg some (by kernel_rfl))
 f333:=Tryz.func125.trans (congrArg some (by kernel_rfl))
 f334:=Tryz.func128.trans (congrArg some (by kernel_rfl))
 f335:=Tryz.func129.trans (congrArg some (by kernel_rfl))
 f336:=Tryz.func130.trans (congrArg some (by kernel_rfl))
 f344:=Tryz.func131.trans (congrArg some (by kernel_rfl))
 t0:=Tryz.underlying0
 a0:=Tryz.isAgg0
 z0:=Tryz.sizeOf0
 v0:=Tryz.zeroValue0
 t3:=Tryz.underlying3
 a3:=Tryz.isAgg3
 z3:=Tryz.sizeOf3
 v3:=Tryz.zeroValue3
 t4:=Tryz.underlying4
 a4:=Tryz.isAgg4
 z4:=Tryz.sizeOf4
 v4:=Tryz.zeroValue4
 t5:=Tryz.underlying5
 a5:=Tryz.isAgg5
 z5:=Tryz.sizeOf5
 v5:=Tryz.zeroValue5
 t9:=Tryz.underlying9
 a9:=Tryz.isAgg9
 z9:=Tryz.sizeOf9
 v9:=Tryz.zeroValue9
 t31:=Tryz.underlying22
 a31:=Tryz.isAgg22
 z31:=Tryz.sizeOf22
 v31:=Tryz.zeroValue22
 t46:=Tryz.underlying86
 a46:=Tryz.isAgg86
 z46:=Tryz.sizeOf86
 v46:=Tryz.zeroValue86
 t51:=Tryz.underlying183
 a51:=Tryz.isAgg183
 z51:=Tryz.sizeOf183
 v51:=Tryz.zeroValue183
 t53:=Tryz.underlying25
 a53:=Tryz.isAgg25
 z53:=Tryz.sizeOf25
 v53:=Tryz.zeroValue25
 t131:=Tryz.underlying149
 a131:=Tryz.isAgg149
 z131:=Tryz.sizeOf149
 v131:=Tryz.zeroValue149
 t182:=Tryz.underlying176
 a182:=Tryz.isAgg176
 z182:=Tryz.sizeOf176
 v182:=Tryz.zeroValue176
 t183:=Tryz.underlying177
 a183:=Tryz.isAgg177
 z183:=Tryz.sizeOf177
 v183:=Tryz.zeroValue177
 t218:=Tryz.underlying185
 a218:=Tryz.isAgg185
 z218:=Tryz.sizeOf185
 v218:=Tryz.zeroValue185
 t222:=Tryz.underlying189
 a222:=Tryz.isAgg189
 z222:=Tryz.sizeOf189
 v222:=Tryz.zeroValue189
 t228:=Tryz.underlying191
 a228:=Tryz.isAgg191
 z228:=Tryz.sizeOf191
 v228:=Tryz.zeroValue191
 t229:=Tryz.underlying192
 a229:=Tryz.isAgg192
 z229:=Tryz.sizeOf192
 v229:=Tryz.zeroValue192 }
open Go.Sort Go.RowKit in
theorem Tryz.slices_Sort_string (blk off cap:Nat) (ss:List (List UInt8)) (w:World) (hH:Holds encStr w blk off ss.toArray) (hblk:blk<w.heap.size) (hsz:ss.length<4611686018427387904):
 Calls Tryz.prog 97 #[.slice (some ⟨blk,off,none⟩) ss.length cap] w fun e w'=>
  e = .returned (.tuple #[])∧∃n os,w'=grow (putRow encStr (Sort.ahead w n) blk off (ss.mergeSort fun x y=>decide (x≤y)).toArray) os:=Any.slices_Sort_string Tryz.lays190 blk off cap ss w hH hblk hsz
open Go.RowKit Go.Sort in
theorem Tryz.slices_Sort_string_none (p:Option Addr) (cap:Nat) (w:World):
 Calls Tryz.prog 97 #[.slice p 0 cap] w fun e w'=>e = .returned (.tuple #[])∧w'=w:=Any.slices_Sort_string_none Tryz.lays190 p cap w
end Go.Proofs
namespace Go.Proofs.YtmihiknebelkbaaGreat.Mta
open Go.RowKit Go.Sort Wire Term Rig
theorem sv_enc (ss:List ByteArray):(bl ss).map encStr=sv ss:=by
 simp only[bl,sv,List.map_map];refine List.map_congr_left fun y _=>?_
 simp[encStr]
def unb (l:List Tm):List ByteArray:=l.map fun x=>⟨x.toArray⟩
theorem bl_unb (l:List Tm):bl (unb l)=l:=by
 unfold bl unb;rw[List.map_map];have:((fun y:ByteArray=>y.data.toList)∘fun x:Tm=>(⟨x.toArray⟩:ByteArray))=id:=by funext x;simp
 rw[this,List.map_id]
theorem sv_unb (l:List Tm):l.map encStr=sv (unb l):=by rw[←sv_enc,bl_unb]
theorem rising_sort {l:List Tm} (h:l.Nodup):Rise (l.mergeSort fun x y=>decide (x≤y))∧∀x,x∈(l.mergeSort fun x y=>decide (x≤y))↔x∈l:=by
 have hp:=List.mergeSort_perm l (fun x y=>decide (x≤y));refine⟨?_,fun x=>hp.mem_iff⟩;have hs:=List.pairwise_mergeSort (le:=fun x y:Tm=>decide (x≤y)) (fun a b c h1 h2=>by simp only[decide_eq_true_eq]at *;exact List.le_trans h1 h2) (fun a b=>by simp only[Bool.or_eq_true,decide_eq_true_eq];exact List.le_total a b) l;have hn:(l.mergeSort fun x y=>decide (x≤y)).Pairwise (fun a b=>a≠b):=(hp.nodup_iff).2 h;refine List.Pairwise.imp₂ (fun {a b} h1 h2=>?_) hs hn;show Op.bytesLess a b=true
 rw[bytesLess_eq];simp only[decide_eq_true_eq]at h1⊢;exact Classical.byContradiction fun hn=>h2 (List.le_antisymm h1 (List.not_lt.1 hn))
theorem sort_own {w wr:World} {ss:List ByteArray} {v:Value} (ho:wr.ownsRow w.heap.size 9 1 v ss.length (sv ss)) (hb:Below w.heap.size w wr) (hn:(bl ss).Nodup) (hl:ss.length≤100000):
 Calls Tryz.prog 97 #[v] wr fun e w'=>e = .returned (.tuple #[])∧(∃ys:List ByteArray,Rise (bl ys)∧(∀x,x∈bl ys↔x∈bl ss)∧w'.ownsRow w.heap.size 9 1 v ys.length (sv ys))∧Below w.heap.size w w':=by
 rcases List.eq_nil_or_concat ss with rfl|⟨ss0,sl,hss⟩
 ·obtain⟨A,c,rfl⟩:=own_value ho
  refine(Tryz.slices_Sort_string_none A c wr).mono ?_;rintro e w7 ⟨rfl,rfl⟩;exact⟨rfl,⟨[],List.Pairwise.nil,fun _=>Iff.rfl,ho⟩,hb⟩
 ·have hpos:0<ss.length:=by rw[hss];simp
  have hr:=ho;obtain⟨_,hr2⟩:=hr;rcases hr2 with⟨_,h0⟩|⟨g,cap,cur,hv,hbase,hheap,hnn,hcap,hsz,htake⟩
  ·omega
  subst hv;have hgl:g<wr.heap.size:=(Array.getElem?_eq_some_iff.1 hheap).1;have hH:Holds encStr wr g 0 (bl ss).toArray:=holds_of_block hheap (by rw[bl_len,sv_enc];rw[Nat.mul_one]at htake;exact htake);have hct:=Tryz.slices_Sort_string g 0 cap (bl ss) wr hH hgl (by rw[bl_len];omega);rw[bl_len]at hct;refine hct.mono ?_;rintro e w7 ⟨rfl,nn,os,hw7⟩;obtain⟨r1,r2⟩:=rising_sort hn;have h1:=ownsRow_sorted (w:=wr) (base:=w.heap.size) (g:=g) (cap:=cap) (n:=nn) (os:=os) (ss:=bl ss) (ts:=(bl ss).mergeSort fun x y=>decide (x≤y)) (by rw[List.length_mergeSort]) hbase hheap (by rw[bl_len];exact hnn) hcap hsz;rw[←hw7,sv_unb,bl_len]at h1;have hu:(unb ((bl ss).mergeSort fun x y=>decide (x≤y))).length=ss.length:=by unfold unb;rw[List.length_map,List.length_mergeSort,bl_len]
  refine⟨rfl,⟨unb ((bl ss).mergeSort fun x y=>decide (x≤y)),by rw[bl_unb];exact r1,fun x=>by rw[bl_unb];exact r2 x,by rw[hu];exact h1⟩,?_⟩;rw[hw7];exact hb.grown (grownBy_sorted _) (by omega) fun k e=>by have:=Option.some.inj e;omega
set_option maxRecDepth 1000000 in
theorem others_any (o f:ByteArray) (ep:Int) (A:Option Addr) (c:Nat) (rs:List ByteArray) (B:Option Addr) (d:Nat) (ws:List ByteArray) (w:World) (hA:SReads w A rs) (hB:SReads w B ws) (hna:A=none→c=0) (hnb:B=none→d=0) (hr:RR ⟨o.data.toList,f.data.toList,ep,bl rs,bl ws⟩):
 Calls Tryz.prog 78 #[RV o f ep A rs.length c B ws.length d] w fun e w'=>Lst w.heap.size (oth ⟨o.data.toList,f.data.toList,ep,bl rs,bl ws⟩) e w'∧Below w.heap.size w w':=by
 have hl:rs.length+ws.length≤5:=by
  have h2:=hr.2.2.2.1;simp only[bl_len]at h2;omega
 have hnd:=oth_nodup hr;simp only at hnd;rw[←bl_app]at hnd;have HND:=zh hnd;have HA:=zh hA;have HBB:=zh hB;have HR:=zh hr;have HNA:=zh hna;have HNB:=zh hnb;clear hnd hA hB hr hna hnb;unfold RV;go_enter Tryz.func78,Tryz.ntmps78;go_wp2_with fail;have HX0:=zh (bx_alloc w o f ep A rs.length c B ws.length d 24);have HB0:=zh (al w (.cells #[.string o,.string f,.int .i64 ep,.slice A rs.length c,.slice B ws.length d] 24));have hz0:(w.alloc (.cells #[.string o,.string f,.int .i64 ep,.slice A rs.length c,.slice B ws.length d] 24)).heap.size=w.heap.size+1:=by simp
 generalize w.alloc (.cells #[.string o,.string f,.int .i64 ep,.slice A rs.length c,.slice B ws.length d] 24)=w0 at HX0 HB0 hz0⊢;have hb1:=al w0 (.cells #[.slice A rs.length c,.slice B ws.length d] 22);have HB1:=zh (Bel.call HB0.out hb1);have hp:=two_pieces w0 w0.heap.size 22 (A1:=A) (A2:=B) (c1:=c) (c2:=d) (x1:=rs) (x2:=ws) rfl rfl rfl (HA.out.below HB0.out zl) (HBB.out.below HB0.out zl) HNA.out HNB.out;obtain⟨w1,hw1⟩:∃W,w0.alloc (.cells #[.slice A rs.length c,.slice B ws.length d] 22)=W:=⟨_,rfl⟩
 have hc:Calls Tryz.prog 96 #[.slice (some ⟨w0.heap.size,0,none⟩) 2 2] (w0.alloc (.cells #[.slice A rs.length c,.slice B ws.length d] 22)) fun e w'=>(∃v,e = .returned v∧Owns (w0.alloc (.cells #[.slice A rs.length c,.slice B ws.length d] 22)) (bl (rs++ws)) v w')∧Below (w0.alloc (.cells #[.slice A rs.length c,.slice B ws.length d] 22)).heap.size (w0.alloc (.cells #[.slice A rs.length c,.slice B ws.length d] 22)) w':=by
  have h:=concat_own w0.heap.size _ _ hp (by simp) (by simp[whole];omega);rw[show whole [(A,c,rs),(B,d,ws)]=rs++ws by simp[whole]]at h;exact h
 rw[hw1,hz0]at hc;rw[hw1]at HB1;have HC:=zh hc;clear hb1 hp hc hz0;rw[hw1];clear hw1;with_reducible refine HC.out.mono ?_
 rintro e w2 ⟨⟨v,rfl,ys,hys,hown,hb2⟩,_⟩
 have hyl:ys.length≤5:=by
  have h:=congrArg List.length hys;rw[bl_len,bl_len,List.length_append]at h;omega
 have HSO:=zh (sort_own hown hb2 (by rw[hys];exact HND.out) (by omega));have HYS:=zh hys;clear hys hown hb2;dsimp only;go_wp2_with fail;with_reducible refine HSO.out.mono ?_
 rintro e w3 ⟨rfl,⟨zs,hz1,hz2,hz3⟩,hb3⟩;have HB3:=zh (Bel.call HB1.out hb3)
 have HF:Hid (Lst w.heap.size (oth ⟨o.data.toList,f.data.toList,ep,bl rs,bl ws⟩) (.returned v) w3):=by
  have e1:bl zs=oth ⟨o.data.toList,f.data.toList,ep,bl rs,bl ws⟩:=oth_is HR.out hz1 fun x=>by rw[hz2 x,HYS.out,bl_app]
  exact lst_mono (owns_lst ⟨zs,e1,hz3,hb3⟩) HB1.out.size
 clear hz1 hz2 hz3 hb3;dsimp only;go_wp2;go_ret;exact⟨HF.out,HB3.out⟩
end Go.Proofs.YtmihiknebelkbaaGreat.Mta
