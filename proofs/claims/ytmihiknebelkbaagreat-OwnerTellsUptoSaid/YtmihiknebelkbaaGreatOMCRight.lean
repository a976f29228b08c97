/-
  MCRight. By an AI agent.
-/
import Derived.Test.YtmihiknebelkbaaGreatOZ
import Derived.Test.YtmihiknebelkbaaGreatOMCSort
import Derived.Test.YtmihiknebelkbaaGreatOMCAdr
import Derived.Test.YtmihiknebelkbaaGreatOMRight
import Derived.Test.YtmihiknebelkbaaGreatOC1
set_option linter.unusedSimpArgs false
set_option linter.unusedVariables false
set_option maxHeartbeats 8000000
namespace Go.Proofs.YtmihiknebelkbaaGreat.Mta
open Go.RowKit Wire Term Rig
theorem all_kds {k:Nat} (l:List Tm):l.all (fun t=>decide (kind t=k))=decide (Kds k l):=by
 rw[Bool.eq_iff_iff];simp only[List.all_eq_true,decide_eq_true_eq];exact Iff.rfl
set_option maxRecDepth 1000000 in
theorem rightVerify_any (o f sig:ByteArray) (ep:Int) (A:Option Addr) (c:Nat) (rs:List ByteArray) (B:Option Addr) (d:Nat) (ws:List ByteArray) (ver:Nat) (V:Option Addr) (cv:Nat) (vs:List ByteArray) (K:Option Addr) (ck:Nat) (ks:List (ByteArray×ByteArray)) (w:World) (hV:SReads w V vs) (hr:RR ⟨o.data.toList,f.data.toList,ep,bl rs,bl ws⟩) (hvl:vs.length≤1000) (hz:∀y∈vs,y.size≤140737488355328):
 Calls Tryz.prog 57 #[.agg #[.string o,.string f,.int .i64 ep,.slice A rs.length c,.slice B ws.length d,.int .u64 (ver:Int),.slice V vs.length cv,.slice K ks.length ck,.string sig]] w fun e w'=>e = .returned (.bool (decide ((vs.length:Int)=ep+1∧Kds 117 (bl vs))))∧Below w.heap.size w w':=by
 have hep:=hr.2.2.1;simp only at hep;have HV:=zh hV;have HALL:=zh fun w h=>all_fn 77 (fun _ _=>rfl) (fun t=>decide (kind t=117)) V cv vs w h (by omega) fun y hy W=>isPublic_any y W (hz y hy)
 rw[all_kds]at HALL;have hw1:IntKind.i64.wrap (ep+1)=ep+1:=by rw[IntKind.wrap_i64];omega
 clear hV hz hr;by_cases hlen:(vs.length:Int)=ep+1
 case neg=>
  rw[decide_eq_false fun h=>hlen h.1];have hlb:((vs.length:Int)==ep+1)=false:=by simpa using hlen
  go_enter Tryz.func57,Tryz.ntmps57;go_wp2_with fail;have hmx:=mx_alloc w o f ep A rs.length c B ws.length d ver V vs.length cv K ks.length ck sig 28;have hb0:=al w (.cells #[.string o,.string f,.int .i64 ep,.slice A rs.length c,.slice B ws.length d,.int .u64 (ver:Int),.slice V vs.length cv,.slice K ks.length ck,.string sig] 28);have HB:=zh hb0;have HMX:=zh hmx;clear hmx hb0;obtain⟨g,hg⟩:∃g,w.heap.size=g:=⟨_,rfl⟩
  generalize w.alloc (.cells #[.string o,.string f,.int .i64 ep,.slice A rs.length c,.slice B ws.length d,.int .u64 (ver:Int),.slice V vs.length cv,.slice K ks.length ck,.string sig] 28)=w1 at HB HMX⊢;rw[hg]at HMX⊢;have HG:=zh hg;clear hg;obtain⟨⟨m0,m1,m2,m3,m4,m5,m6,m7,m8⟩,_⟩:=HMX.out;go_wp2;go_ret;first|exact⟨rfl,HB.out⟩|(rw[←HG.out];exact⟨rfl,HB.out⟩)
 have hlb:((vs.length:Int)==ep+1)=true:=by simpa using hlen
 rw[show decide ((vs.length:Int)=ep+1∧Kds 117 (bl vs))=decide (Kds 117 (bl vs))by rw[Bool.eq_iff_iff];simp only[decide_eq_true_eq];exact⟨fun h=>h.2,fun h=>⟨hlen,h⟩⟩];obtain⟨bb,hbb⟩:∃b,decide (Kds 117 (bl vs))=b:=⟨_,rfl⟩
 rw[hbb]at HALL⊢;clear hbb hlen;go_enter Tryz.func57,Tryz.ntmps57;go_wp2_with fail;have hmx:=mx_alloc w o f ep A rs.length c B ws.length d ver V vs.length cv K ks.length ck sig 28;have hb0:=al w (.cells #[.string o,.string f,.int .i64 ep,.slice A rs.length c,.slice B ws.length d,.int .u64 (ver:Int),.slice V vs.length cv,.slice K ks.length ck,.string sig] 28);have HB:=zh hb0;have HMX:=zh hmx;clear hmx hb0;obtain⟨g,hg⟩:∃g,w.heap.size=g:=⟨_,rfl⟩
 generalize w.alloc (.cells #[.string o,.string f,.int .i64 ep,.slice A rs.length c,.slice B ws.length d,.int .u64 (ver:Int),.slice V vs.length cv,.slice K ks.length ck,.string sig] 28)=w1 at HB HMX⊢;rw[hg]at HMX⊢;have HG:=zh hg;clear hg;obtain⟨⟨m0,m1,m2,m3,m4,m5,m6,m7,m8⟩,_⟩:=HMX.out;go_wp2_with fail;clear m0 m1 m2 m3 m4 m5 m6 m7 m8 hlb hw1;with_reducible refine(HALL.out _ (HV.out.below HB.out zl)).mono ?_
 rintro e w2 ⟨rfl,hb2⟩;have HB:=zh (Bel.call HB.out hb2);have HMX:=zh (HMX.out.call hb2);clear hb2;dsimp only;go_wp2;go_ret;first|exact⟨rfl,HB.out⟩|(rw[←HG.out];exact⟨rfl,HB.out⟩)
set_option maxRecDepth 1000000 in
theorem rightBlocks_any (o f sig:ByteArray) (ep:Int) (A:Option Addr) (c:Nat) (rs:List ByteArray) (B:Option Addr) (d:Nat) (ws:List ByteArray) (ver:Nat) (V:Option Addr) (cv:Nat) (vs:List ByteArray) (K:Option Addr) (ck:Nat) (ks:List (ByteArray×ByteArray)) (w:World) (hA:SReads w A rs) (hB:SReads w B ws) (hK:PReads w K ks) (hna:A=none→c=0) (hnb:B=none→d=0) (hr:RR ⟨o.data.toList,f.data.toList,ep,bl rs,bl ws⟩) (hkl:ks.length≤1000) (hz:∀y∈ks,y.2.size≤140737488355328):
 Calls Tryz.prog 58 #[.agg #[.string o,.string f,.int .i64 ep,.slice A rs.length c,.slice B ws.length d,.int .u64 (ver:Int),.slice V vs.length cv,.slice K ks.length ck,.string sig]] w fun e w'=>e = .returned (.bool (decide ((pl ks).map (·.1)=oth ⟨o.data.toList,f.data.toList,ep,bl rs,bl ws⟩∧Kds 98 ((pl ks).map (·.2)))))∧Below w.heap.size w w':=by
 obtain⟨bb,hbb⟩:∃b,decide ((pl ks).map (·.1)=oth ⟨o.data.toList,f.data.toList,ep,bl rs,bl ws⟩∧Kds 98 ((pl ks).map (·.2)))=b:=⟨_,rfl⟩
 have HNO:Hid (¬((pl ks).map (·.1)=oth ⟨o.data.toList,f.data.toList,ep,bl rs,bl ws⟩∧Kds 98 ((pl ks).map (·.2)))→bb=false):=fun h=>by rw[←hbb];exact decide_eq_false h
 have HYES:Hid (((pl ks).map (·.1)=oth ⟨o.data.toList,f.data.toList,ep,bl rs,bl ws⟩∧Kds 98 ((pl ks).map (·.2)))→bb=true):=fun h=>by rw[←hbb];exact decide_eq_true h
 rw[hbb];have HA:=zh hA;have HBB:=zh hB;have HK:=zh hK;have HZK:=zh hz;have HRR:=zh hr;have HOC:=zh fun w h1 h2=>others_any o f ep A c rs B d ws w h1 h2 hna hnb hr
 unfold RV at HOC;clear hA hB hK hna hnb hbb hz hr;go_enter Tryz.func58,Tryz.ntmps58;go_wp2_with fail;have hmx:=mx_alloc w o f ep A rs.length c B ws.length d ver V vs.length cv K ks.length ck sig 28;have hb0:=al w (.cells #[.string o,.string f,.int .i64 ep,.slice A rs.length c,.slice B ws.length d,.int .u64 (ver:Int),.slice V vs.length cv,.slice K ks.length ck,.string sig] 28);have HB:=zh hb0;have HMX:=zh hmx;clear hmx hb0;obtain⟨g,hg⟩:∃g,w.heap.size=g:=⟨_,rfl⟩
 generalize w.alloc (.cells #[.string o,.string f,.int .i64 ep,.slice A rs.length c,.slice B ws.length d,.int .u64 (ver:Int),.slice V vs.length cv,.slice K ks.length ck,.string sig] 28)=w1 at HB HMX⊢;rw[hg]at HMX⊢;have HG:=zh hg;clear hg;obtain⟨⟨m0,m1,m2,m3,m4,m5,m6,m7,m8⟩,_⟩:=HMX.out;go_wp2_with fail;clear m0 m1 m2 m3 m4 m5 m6 m7 m8;with_reducible refine(HOC.out _ (HA.out.below HB.out zl) (HBB.out.below HB.out zl)).mono ?_
 rintro e w5 ⟨⟨A2,c2,ys,hys,hc2,hs2,hfr2,rfl⟩,hb5⟩;have HB:=zh (Bel.call HB.out hb5);have HMX:=zh (HMX.out.call hb5);have HYS:=zh hys;have HS2:=zh hs2
 have hyl:ys.length≤40:=by
  have h:=congrArg List.length hys;rw[bl_len,oth_len]at h;have h2:=HRR.out.2.2.2.1;simp only at h h2;omega
 clear hb5 hys hs2 hc2 hfr2;dsimp only;obtain⟨⟨m0,m1,m2,m3,m4,m5,m6,m7,m8⟩,_⟩:=HMX.out;by_cases hll:(ks.length:Int)=(ys.length:Int)
 case neg=>
  obtain rfl:bb=false:=HNO.out fun h=>by
   have h1:=congrArg List.length h.1;simp only[List.length_map,pl_len]at h1;rw[←HYS.out,bl_len]at h1;omega
  have q:((ks.length:Int)==(ys.length:Int))=false:=by simpa using hll
  have q':((ks.length:Int) != (ys.length:Int))=true:=by simpa using hll
  go_wp2;go_ret;exact⟨rfl,HB.out⟩
 have hq:((ks.length:Int)==(ys.length:Int))=true:=by simpa using hll
 have hq':((ks.length:Int) != (ys.length:Int))=false:=by simpa using hll
 have hlk:ys.length=ks.length:=by omega
 have HLK:=zh hlk;go_wp2_with fail;clear m0 m1 m2 m3 m4 m5 m6 m7 m8 hq hq' hll hlk;go_loopw [18] (fun i wr=>∃j:Nat,j≤ks.length∧i = .int .i64 (j:Int)∧Hid (Blk ((bl ys).take j) ((pl ks).take j))∧Hid (Below w5.heap.size w5 wr)) (fun i _=>ks.length-(intOf i).toNat);case atStart=>exact⟨0,Nat.zero_le _,rfl,zh ⟨by simp,fun t ht=>by simp at ht⟩,zh (Below.refl _ _)⟩
 case round=>
  obtain⟨j,hj,rfl,HKJ,HBJ⟩:=hrel;have HB:=zh (Bel.call HB.out HBJ.out);have HMX:=zh (HMX.out.call HBJ.out);by_cases hlt2:(j:Int)<(ks.length:Int)
  ·obtain⟨b2,off2,rfl,hbl2,hcl2,hcl3⟩:=(HK.out.below HB.out zl) j (by omega)
   obtain⟨b,off,rfl,hbl,hcl⟩:=((HS2.out.below HBJ.out zl)) j (by have:=HLK.out;omega);obtain⟨y,hy⟩:∃y,ys.getD j ByteArray.empty=y:=⟨_,rfl⟩
   obtain⟨u,x,hux⟩:∃u x,ks.getD j default=(u,x):=⟨_,_,rfl⟩
   have hkt:=blk_take (ys:=ys) (ks:=ks) (j:=j) (by have:=HLK.out;omega) (by omega);have hxz:x.size≤140737488355328:=HZK.out (u,x) (by rw[←hux];simp[List.getD,show j<ks.length by omega]);rw[hy]at hcl hkt;rw[hux]at hcl2 hcl3 hkt;simp only at hcl2 hcl3;have HKT:=zh hkt;have HKX:=zh fun w=>t_Kind x w hxz
   have hkx:=kind_lt x.data.toList;obtain⟨kx,hkk⟩:∃k,kind x.data.toList=k:=⟨_,rfl⟩
   have HKK:=zh hkk;rw[hkk]at HKX hkx;have hblk:=hbl;have hclk:=hcl;clear hy hux hbl hbl2 hkt hxz hkk hcl
   have HNO2:Hid (¬Blk ((bl ys).take (j+1)) ((pl ks).take (j+1))→bb=false):=fun h=>HNO.out fun h2=>h ⟨by
    have h3:(pl ks).map (·.1)=oth ⟨o.data.toList,f.data.toList,ep,bl rs,bl ws⟩:=h2.1
    rw[List.map_take,h3,HYS.out],fun t ht=>h2.2 t (by rw[List.map_take]at ht;exact List.mem_of_mem_take ht)⟩
   have hjk:j<ks.length:=by omega
   have hjy:j<ys.length:=by have:=HLK.out;omega
   have hjy2:(j:Int)<(ys.length:Int):=by omega
   have HL1:=zh hblk;have HC1:=zh hclk;clear hblk hclk;go_wp2_with fail;have hca:∀i,(wr.alloc (.cells #[.string u,.string x] 55)).cell? ⟨wr.heap.size,i,none⟩=(#[.string u,.string x]:Array Value)[i]?:=fun i=>cell_of_row _ _ _ _ _ (0,0) (heap_alloc_new wr _)
   have hal:=al wr (.cells #[.string u,.string x] 55);have hsz2:(wr.alloc (.cells #[.string u,.string x] 55)).heap.size=wr.heap.size+1:=by simp
   obtain⟨nb,hnb⟩:∃n,wr.heap.size=n:=⟨_,rfl⟩
   have HCA:=zh hca;have HBA:=zh (Bel.call HBJ.out hal);have HBW:=zh (Bel.call HB.out hal);have HCY:Hid ((wr.alloc (.cells #[.string u,.string x] 55)).cell? ⟨b,off+j,none⟩=some (.string y)):=zh ((hal.cell (p:=⟨b,off+j,none⟩) HL1.out).trans HC1.out);have HBL:=zh (Nat.lt_of_lt_of_le HL1.out hal.size);rw[hnb]at HCA hsz2⊢;clear hca hal hnb hcl2 hcl3;generalize wr.alloc (.cells #[.string u,.string x] 55)=wa at HCA HBA HBW HCY HBL hsz2⊢;have HSZ:=zh hsz2;clear hsz2;have hdr:=Below.drewN' (Below.refl wa.heap.size wa) 1;by_cases hu:u.data.toList=y.data.toList
   ·have q:=s_eq hu
    by_cases hk98:kx=98
    ·subst hk98
     refine Ord.region_lit (S:=fun w'=>Below wa.heap.size wa w') (by kernel_rfl) (by kernel_rfl) hdr ?_;clear hdr;refine Ord.stepR (v:=?_) (by rfl) ?_ ?_;rotate_left
     ·intro w' hSw;have hk0:=(hSw.cell (p:=⟨nb,0,none⟩) (by have:=HSZ.out;simp only;omega)).trans (HCA.out 0);have hk1:=(hSw.cell (p:=⟨nb,1,none⟩) (by have:=HSZ.out;simp only;omega)).trans (HCA.out 1);have hk2:=(hSw.cell (p:=⟨b,off+j,none⟩) HBL.out).trans HCY.out;simp only[List.getElem?_toArray,List.getElem?_cons_zero,List.getElem?_cons_succ]at hk0 hk1;go_simp;try with_reducible rfl
     try simp only[Act.put,zq1,zq2,zq3]
     refine Ord.stepR (v:=?_) (by rfl) ?_ ?_;rotate_left
     ·intro w' hSw;have hk0:=(hSw.cell (p:=⟨nb,0,none⟩) (by have:=HSZ.out;simp only;omega)).trans (HCA.out 0);have hk1:=(hSw.cell (p:=⟨nb,1,none⟩) (by have:=HSZ.out;simp only;omega)).trans (HCA.out 1);have hk2:=(hSw.cell (p:=⟨b,off+j,none⟩) HBL.out).trans HCY.out;simp only[List.getElem?_toArray,List.getElem?_cons_zero,List.getElem?_cons_succ]at hk0 hk1;go_simp;try with_reducible rfl
     try simp only[Act.put,zq1,zq2,zq3]
     refine Ord.stepR (v:=?_) (by rfl) ?_ ?_;rotate_left
     ·intro w' hSw;have hk0:=(hSw.cell (p:=⟨nb,0,none⟩) (by have:=HSZ.out;simp only;omega)).trans (HCA.out 0);have hk1:=(hSw.cell (p:=⟨nb,1,none⟩) (by have:=HSZ.out;simp only;omega)).trans (HCA.out 1);have hk2:=(hSw.cell (p:=⟨b,off+j,none⟩) HBL.out).trans HCY.out;simp only[List.getElem?_toArray,List.getElem?_cons_zero,List.getElem?_cons_succ]at hk0 hk1;go_simp;try with_reducible rfl
     try simp only[Act.put,zq1,zq2,zq3]
     refine Ord.stepR (v:=?_) (by rfl) ?_ ?_;rotate_left
     ·intro w' hSw;have hk0:=(hSw.cell (p:=⟨nb,0,none⟩) (by have:=HSZ.out;simp only;omega)).trans (HCA.out 0);have hk1:=(hSw.cell (p:=⟨nb,1,none⟩) (by have:=HSZ.out;simp only;omega)).trans (HCA.out 1);have hk2:=(hSw.cell (p:=⟨b,off+j,none⟩) HBL.out).trans HCY.out;simp only[List.getElem?_toArray,List.getElem?_cons_zero,List.getElem?_cons_succ]at hk0 hk1;go_simp;try with_reducible rfl
     try simp only[Act.put,zq1,zq2,zq3]
     refine Ord.stepR (v:=?_) (by rfl) ?_ ?_;rotate_left
     ·intro w' hSw;have hk0:=(hSw.cell (p:=⟨nb,0,none⟩) (by have:=HSZ.out;simp only;omega)).trans (HCA.out 0);have hk1:=(hSw.cell (p:=⟨nb,1,none⟩) (by have:=HSZ.out;simp only;omega)).trans (HCA.out 1);have hk2:=(hSw.cell (p:=⟨b,off+j,none⟩) HBL.out).trans HCY.out;simp only[List.getElem?_toArray,List.getElem?_cons_zero,List.getElem?_cons_succ]at hk0 hk1;go_simp;try with_reducible rfl
     try simp only[Act.put,zq1,zq2,zq3]
     refine Ord.stepR (v:=?_) (by rfl) ?_ ?_;rotate_left
     ·intro w' hSw;have hk0:=(hSw.cell (p:=⟨nb,0,none⟩) (by have:=HSZ.out;simp only;omega)).trans (HCA.out 0);have hk1:=(hSw.cell (p:=⟨nb,1,none⟩) (by have:=HSZ.out;simp only;omega)).trans (HCA.out 1);have hk2:=(hSw.cell (p:=⟨b,off+j,none⟩) HBL.out).trans HCY.out;simp only[List.getElem?_toArray,List.getElem?_cons_zero,List.getElem?_cons_succ]at hk0 hk1;go_simp;try with_reducible rfl
     try simp only[Act.put,zq1,zq2,zq3]
     refine Ord.stepR (v:=?_) (by rfl) ?_ ?_;rotate_left
     ·intro w' hSw;have hk0:=(hSw.cell (p:=⟨nb,0,none⟩) (by have:=HSZ.out;simp only;omega)).trans (HCA.out 0);have hk1:=(hSw.cell (p:=⟨nb,1,none⟩) (by have:=HSZ.out;simp only;omega)).trans (HCA.out 1);have hk2:=(hSw.cell (p:=⟨b,off+j,none⟩) HBL.out).trans HCY.out;simp only[List.getElem?_toArray,List.getElem?_cons_zero,List.getElem?_cons_succ]at hk0 hk1;go_simp;try with_reducible rfl
     try simp only[Act.put,zq1,zq2,zq3]
     refine Ord.stepR (v:=?_) (by rfl) ?_ ?_;rotate_left
     ·intro w' hSw;have hk0:=(hSw.cell (p:=⟨nb,0,none⟩) (by have:=HSZ.out;simp only;omega)).trans (HCA.out 0);have hk1:=(hSw.cell (p:=⟨nb,1,none⟩) (by have:=HSZ.out;simp only;omega)).trans (HCA.out 1);have hk2:=(hSw.cell (p:=⟨b,off+j,none⟩) HBL.out).trans HCY.out;simp only[List.getElem?_toArray,List.getElem?_cons_zero,List.getElem?_cons_succ]at hk0 hk1;go_simp;try with_reducible rfl
     try simp only[Act.put,zq1,zq2,zq3]
     refine Ord.stepR (v:=?_) (by rfl) ?_ ?_;rotate_left
     ·intro w' hSw;have hk0:=(hSw.cell (p:=⟨nb,0,none⟩) (by have:=HSZ.out;simp only;omega)).trans (HCA.out 0);have hk1:=(hSw.cell (p:=⟨nb,1,none⟩) (by have:=HSZ.out;simp only;omega)).trans (HCA.out 1);have hk2:=(hSw.cell (p:=⟨b,off+j,none⟩) HBL.out).trans HCY.out;simp only[List.getElem?_toArray,List.getElem?_cons_zero,List.getElem?_cons_succ]at hk0 hk1;go_simp;try with_reducible rfl
     try simp only[Act.put,zq1,zq2,zq3]
     refine Ord.stepR (v:=?_) (by rfl) ?_ ?_;rotate_left
     ·intro w' hSw;have hk0:=(hSw.cell (p:=⟨nb,0,none⟩) (by have:=HSZ.out;simp only;omega)).trans (HCA.out 0);have hk1:=(hSw.cell (p:=⟨nb,1,none⟩) (by have:=HSZ.out;simp only;omega)).trans (HCA.out 1);have hk2:=(hSw.cell (p:=⟨b,off+j,none⟩) HBL.out).trans HCY.out;simp only[List.getElem?_toArray,List.getElem?_cons_zero,List.getElem?_cons_succ]at hk0 hk1;go_simp;try with_reducible rfl
     try simp only[Act.put,zq1,zq2,zq3]
     refine Ord.stepC (v:=.int .u8 ((98:Nat):Int)) (by rfl) ?_ (fun w1 hS=>(HKX.out w1).mono fun e w2 h=>⟨h.1,hS.trans (h.2.mono hS.size)⟩) ?_
     ·intro w' hSw;go_simp;try with_reducible rfl
     try simp only[Act.put,zq1,zq2,zq3]
     refine Ord.stepR (v:=?_) (by rfl) ?_ ?_;rotate_left
     ·intro w' hSw;have hk0:=(hSw.cell (p:=⟨nb,0,none⟩) (by have:=HSZ.out;simp only;omega)).trans (HCA.out 0);have hk1:=(hSw.cell (p:=⟨nb,1,none⟩) (by have:=HSZ.out;simp only;omega)).trans (HCA.out 1);have hk2:=(hSw.cell (p:=⟨b,off+j,none⟩) HBL.out).trans HCY.out;simp only[List.getElem?_toArray,List.getElem?_cons_zero,List.getElem?_cons_succ]at hk0 hk1;go_simp;try with_reducible rfl
     try simp only[Act.put,zq1,zq2,zq3]
     refine Ord.stepR (v:=?_) (by rfl) ?_ ?_;rotate_left
     ·intro w' hSw;have hk0:=(hSw.cell (p:=⟨nb,0,none⟩) (by have:=HSZ.out;simp only;omega)).trans (HCA.out 0);have hk1:=(hSw.cell (p:=⟨nb,1,none⟩) (by have:=HSZ.out;simp only;omega)).trans (HCA.out 1);have hk2:=(hSw.cell (p:=⟨b,off+j,none⟩) HBL.out).trans HCY.out;simp only[List.getElem?_toArray,List.getElem?_cons_zero,List.getElem?_cons_succ]at hk0 hk1;go_simp;try with_reducible rfl
     try simp only[Act.put,zq1,zq2,zq3]
     refine Ord.stepD ?_;rintro w9 hS9;have HB9:=zh (Bel.call HBA.out hS9);have HBZ:=zh (Bel.call HBW.out hS9);clear hS9;go_wp2;go_roundw;case rel=>exact⟨j+1,by omega,by go_num,zh (HKT.out.2 ⟨HKJ.out,hu,HKK.out⟩),HB9⟩
     case measure=>simp[intOf];omega
    ·obtain rfl:bb=false:=HNO2.out fun h=>hk98 (HKK.out.symm.trans (HKT.out.1 h).2.2)
     have q2:((kx:Int)==98)=false:=by simpa using(show ¬(kx:Int)=98 by omega)
     have q3:((kx:Int) != 98)=true:=by simpa using(show ¬(kx:Int)=98 by omega)
     refine Ord.region_lit (S:=fun w'=>Below wa.heap.size wa w') (by kernel_rfl) (by kernel_rfl) hdr ?_;clear hdr;refine Ord.stepR (v:=?_) (by rfl) ?_ ?_;rotate_left
     ·intro w' hSw;have hk0:=(hSw.cell (p:=⟨nb,0,none⟩) (by have:=HSZ.out;simp only;omega)).trans (HCA.out 0);have hk1:=(hSw.cell (p:=⟨nb,1,none⟩) (by have:=HSZ.out;simp only;omega)).trans (HCA.out 1);have hk2:=(hSw.cell (p:=⟨b,off+j,none⟩) HBL.out).trans HCY.out;simp only[List.getElem?_toArray,List.getElem?_cons_zero,List.getElem?_cons_succ]at hk0 hk1;go_simp;try with_reducible rfl
     try simp only[Act.put,zq1,zq2,zq3]
     refine Ord.stepR (v:=?_) (by rfl) ?_ ?_;rotate_left
     ·intro w' hSw;have hk0:=(hSw.cell (p:=⟨nb,0,none⟩) (by have:=HSZ.out;simp only;omega)).trans (HCA.out 0);have hk1:=(hSw.cell (p:=⟨nb,1,none⟩) (by have:=HSZ.out;simp only;omega)).trans (HCA.out 1);have hk2:=(hSw.cell (p:=⟨b,off+j,none⟩) HBL.out).trans HCY.out;simp only[List.getElem?_toArray,List.getElem?_cons_zero,List.getElem?_cons_succ]at hk0 hk1;go_simp;try with_reducible rfl
     try simp only[Act.put,zq1,zq2,zq3]
     refine Ord.stepR (v:=?_) (by rfl) ?_ ?_;rotate_left
     ·intro w' hSw;have hk0:=(hSw.cell (p:=⟨nb,0,none⟩) (by have:=HSZ.out;simp only;omega)).trans (HCA.out 0);have hk1:=(hSw.cell (p:=⟨nb,1,none⟩) (by have:=HSZ.out;simp only;omega)).trans (HCA.out 1);have hk2:=(hSw.cell (p:=⟨b,off+j,none⟩) HBL.out).trans HCY.out;simp only[List.getElem?_toArray,List.getElem?_cons_zero,List.getElem?_cons_succ]at hk0 hk1;go_simp;try with_reducible rfl
     try simp only[Act.put,zq1,zq2,zq3]
     refine Ord.stepR (v:=?_) (by rfl) ?_ ?_;rotate_left
     ·intro w' hSw;have hk0:=(hSw.cell (p:=⟨nb,0,none⟩) (by have:=HSZ.out;simp only;omega)).trans (HCA.out 0);have hk1:=(hSw.cell (p:=⟨nb,1,none⟩) (by have:=HSZ.out;simp only;omega)).trans (HCA.out 1);have hk2:=(hSw.cell (p:=⟨b,off+j,none⟩) HBL.out).trans HCY.out;simp only[List.getElem?_toArray,List.getElem?_cons_zero,List.getElem?_cons_succ]at hk0 hk1;go_simp;try with_reducible rfl
     try simp only[Act.put,zq1,zq2,zq3]
     refine Ord.stepR (v:=?_) (by rfl) ?_ ?_;rotate_left
     ·intro w' hSw;have hk0:=(hSw.cell (p:=⟨nb,0,none⟩) (by have:=HSZ.out;simp only;omega)).trans (HCA.out 0);have hk1:=(hSw.cell (p:=⟨nb,1,none⟩) (by have:=HSZ.out;simp only;omega)).trans (HCA.out 1);have hk2:=(hSw.cell (p:=⟨b,off+j,none⟩) HBL.out).trans HCY.out;simp only[List.getElem?_toArray,List.getElem?_cons_zero,List.getElem?_cons_succ]at hk0 hk1;go_simp;try with_reducible rfl
     try simp only[Act.put,zq1,zq2,zq3]
     refine Ord.stepR (v:=?_) (by rfl) ?_ ?_;rotate_left
     ·intro w' hSw;have hk0:=(hSw.cell (p:=⟨nb,0,none⟩) (by have:=HSZ.out;simp only;omega)).trans (HCA.out 0);have hk1:=(hSw.cell (p:=⟨nb,1,none⟩) (by have:=HSZ.out;simp only;omega)).trans (HCA.out 1);have hk2:=(hSw.cell (p:=⟨b,off+j,none⟩) HBL.out).trans HCY.out;simp only[List.getElem?_toArray,List.getElem?_cons_zero,List.getElem?_cons_succ]at hk0 hk1;go_simp;try with_reducible rfl
     try simp only[Act.put,zq1,zq2,zq3]
     refine Ord.stepR (v:=?_) (by rfl) ?_ ?_;rotate_left
     ·intro w' hSw;have hk0:=(hSw.cell (p:=⟨nb,0,none⟩) (by have:=HSZ.out;simp only;omega)).trans (HCA.out 0);have hk1:=(hSw.cell (p:=⟨nb,1,none⟩) (by have:=HSZ.out;simp only;omega)).trans (HCA.out 1);have hk2:=(hSw.cell (p:=⟨b,off+j,none⟩) HBL.out).trans HCY.out;simp only[List.getElem?_toArray,List.getElem?_cons_zero,List.getElem?_cons_succ]at hk0 hk1;go_simp;try with_reducible rfl
     try simp only[Act.put,zq1,zq2,zq3]
     refine Ord.stepR (v:=?_) (by rfl) ?_ ?_;rotate_left
     ·intro w' hSw;have hk0:=(hSw.cell (p:=⟨nb,0,none⟩) (by have:=HSZ.out;simp only;omega)).trans (HCA.out 0);have hk1:=(hSw.cell (p:=⟨nb,1,none⟩) (by have:=HSZ.out;simp only;omega)).trans (HCA.out 1);have hk2:=(hSw.cell (p:=⟨b,off+j,none⟩) HBL.out).trans HCY.out;simp only[List.getElem?_toArray,List.getElem?_cons_zero,List.getElem?_cons_succ]at hk0 hk1;go_simp;try with_reducible rfl
     try simp only[Act.put,zq1,zq2,zq3]
     refine Ord.stepR (v:=?_) (by rfl) ?_ ?_;rotate_left
     ·intro w' hSw;have hk0:=(hSw.cell (p:=⟨nb,0,none⟩) (by have:=HSZ.out;simp only;omega)).trans (HCA.out 0);have hk1:=(hSw.cell (p:=⟨nb,1,none⟩) (by have:=HSZ.out;simp only;omega)).trans (HCA.out 1);have hk2:=(hSw.cell (p:=⟨b,off+j,none⟩) HBL.out).trans HCY.out;simp only[List.getElem?_toArray,List.getElem?_cons_zero,List.getElem?_cons_succ]at hk0 hk1;go_simp;try with_reducible rfl
     try simp only[Act.put,zq1,zq2,zq3]
     refine Ord.stepR (v:=?_) (by rfl) ?_ ?_;rotate_left
     ·intro w' hSw;have hk0:=(hSw.cell (p:=⟨nb,0,none⟩) (by have:=HSZ.out;simp only;omega)).trans (HCA.out 0);have hk1:=(hSw.cell (p:=⟨nb,1,none⟩) (by have:=HSZ.out;simp only;omega)).trans (HCA.out 1);have hk2:=(hSw.cell (p:=⟨b,off+j,none⟩) HBL.out).trans HCY.out;simp only[List.getElem?_toArray,List.getElem?_cons_zero,List.getElem?_cons_succ]at hk0 hk1;go_simp;try with_reducible rfl
     try simp only[Act.put,zq1,zq2,zq3]
     refine Ord.stepC (v:=.int .u8 (kx:Int)) (by rfl) ?_ (fun w1 hS=>(HKX.out w1).mono fun e w2 h=>⟨h.1,hS.trans (h.2.mono hS.size)⟩) ?_
     ·intro w' hSw;go_simp;try with_reducible rfl
     try simp only[Act.put,zq1,zq2,zq3]
     refine Ord.stepR (v:=?_) (by rfl) ?_ ?_;rotate_left
     ·intro w' hSw;have hk0:=(hSw.cell (p:=⟨nb,0,none⟩) (by have:=HSZ.out;simp only;omega)).trans (HCA.out 0);have hk1:=(hSw.cell (p:=⟨nb,1,none⟩) (by have:=HSZ.out;simp only;omega)).trans (HCA.out 1);have hk2:=(hSw.cell (p:=⟨b,off+j,none⟩) HBL.out).trans HCY.out;simp only[List.getElem?_toArray,List.getElem?_cons_zero,List.getElem?_cons_succ]at hk0 hk1;go_simp;try with_reducible rfl
     try simp only[Act.put,zq1,zq2,zq3]
     refine Ord.stepR (v:=?_) (by rfl) ?_ ?_;rotate_left
     ·intro w' hSw;have hk0:=(hSw.cell (p:=⟨nb,0,none⟩) (by have:=HSZ.out;simp only;omega)).trans (HCA.out 0);have hk1:=(hSw.cell (p:=⟨nb,1,none⟩) (by have:=HSZ.out;simp only;omega)).trans (HCA.out 1);have hk2:=(hSw.cell (p:=⟨b,off+j,none⟩) HBL.out).trans HCY.out;simp only[List.getElem?_toArray,List.getElem?_cons_zero,List.getElem?_cons_succ]at hk0 hk1;go_simp;try with_reducible rfl
     try simp only[Act.put,zq1,zq2,zq3]
     refine Ord.stepD ?_;rintro w9 hS9;have HB9:=zh (Bel.call HBA.out hS9);have HBZ:=zh (Bel.call HBW.out hS9);clear hS9;go_wp2;go_ret;first|exact⟨rfl,HBZ.out⟩|(rw[←HG.out];exact⟨rfl,HBZ.out⟩)
   ·have q:=s_ne hu
    obtain rfl:bb=false:=HNO2.out fun h=>hu (HKT.out.1 h).2.1
    refine Ord.region_lit (S:=fun w'=>Below wa.heap.size wa w') (by kernel_rfl) (by kernel_rfl) hdr ?_;clear hdr;refine Ord.stepR (v:=?_) (by rfl) ?_ ?_;rotate_left
    ·intro w' hSw;have hk0:=(hSw.cell (p:=⟨nb,0,none⟩) (by have:=HSZ.out;simp only;omega)).trans (HCA.out 0);have hk1:=(hSw.cell (p:=⟨nb,1,none⟩) (by have:=HSZ.out;simp only;omega)).trans (HCA.out 1);have hk2:=(hSw.cell (p:=⟨b,off+j,none⟩) HBL.out).trans HCY.out;simp only[List.getElem?_toArray,List.getElem?_cons_zero,List.getElem?_cons_succ]at hk0 hk1;go_simp;try with_reducible rfl
    try simp only[Act.put,zq1,zq2,zq3]
    refine Ord.stepR (v:=?_) (by rfl) ?_ ?_;rotate_left
    ·intro w' hSw;have hk0:=(hSw.cell (p:=⟨nb,0,none⟩) (by have:=HSZ.out;simp only;omega)).trans (HCA.out 0);have hk1:=(hSw.cell (p:=⟨nb,1,none⟩) (by have:=HSZ.out;simp only;omega)).trans (HCA.out 1);have hk2:=(hSw.cell (p:=⟨b,off+j,none⟩) HBL.out).trans HCY.out;simp only[List.getElem?_toArray,List.getElem?_cons_zero,List.getElem?_cons_succ]at hk0 hk1;go_simp;try with_reducible rfl
    try simp only[Act.put,zq1,zq2,zq3]
    refine Ord.stepR (v:=?_) (by rfl) ?_ ?_;rotate_left
    ·intro w' hSw;have hk0:=(hSw.cell (p:=⟨nb,0,none⟩) (by have:=HSZ.out;simp only;omega)).trans (HCA.out 0);have hk1:=(hSw.cell (p:=⟨nb,1,none⟩) (by have:=HSZ.out;simp only;omega)).trans (HCA.out 1);have hk2:=(hSw.cell (p:=⟨b,off+j,none⟩) HBL.out).trans HCY.out;simp only[List.getElem?_toArray,List.getElem?_cons_zero,List.getElem?_cons_succ]at hk0 hk1;go_simp;try with_reducible rfl
    try simp only[Act.put,zq1,zq2,zq3]
    refine Ord.stepR (v:=?_) (by rfl) ?_ ?_;rotate_left
    ·intro w' hSw;have hk0:=(hSw.cell (p:=⟨nb,0,none⟩) (by have:=HSZ.out;simp only;omega)).trans (HCA.out 0);have hk1:=(hSw.cell (p:=⟨nb,1,none⟩) (by have:=HSZ.out;simp only;omega)).trans (HCA.out 1);have hk2:=(hSw.cell (p:=⟨b,off+j,none⟩) HBL.out).trans HCY.out;simp only[List.getElem?_toArray,List.getElem?_cons_zero,List.getElem?_cons_succ]at hk0 hk1;go_simp;try with_reducible rfl
    try simp only[Act.put,zq1,zq2,zq3]
    refine Ord.stepR (v:=?_) (by rfl) ?_ ?_;rotate_left
    ·intro w' hSw;have hk0:=(hSw.cell (p:=⟨nb,0,none⟩) (by have:=HSZ.out;simp only;omega)).trans (HCA.out 0);have hk1:=(hSw.cell (p:=⟨nb,1,none⟩) (by have:=HSZ.out;simp only;omega)).trans (HCA.out 1);have hk2:=(hSw.cell (p:=⟨b,off+j,none⟩) HBL.out).trans HCY.out;simp only[List.getElem?_toArray,List.getElem?_cons_zero,List.getElem?_cons_succ]at hk0 hk1;go_simp;try with_reducible rfl
    try simp only[Act.put,zq1,zq2,zq3]
    refine Ord.stepR (v:=?_) (by rfl) ?_ ?_;rotate_left
    ·intro w' hSw;have hk0:=(hSw.cell (p:=⟨nb,0,none⟩) (by have:=HSZ.out;simp only;omega)).trans (HCA.out 0);have hk1:=(hSw.cell (p:=⟨nb,1,none⟩) (by have:=HSZ.out;simp only;omega)).trans (HCA.out 1);have hk2:=(hSw.cell (p:=⟨b,off+j,none⟩) HBL.out).trans HCY.out;simp only[List.getElem?_toArray,List.getElem?_cons_zero,List.getElem?_cons_succ]at hk0 hk1;go_simp;try with_reducible rfl
    try simp only[Act.put,zq1,zq2,zq3]
    refine Ord.stepR (v:=?_) (by rfl) ?_ ?_;rotate_left
    ·intro w' hSw;have hk0:=(hSw.cell (p:=⟨nb,0,none⟩) (by have:=HSZ.out;simp only;omega)).trans (HCA.out 0);have hk1:=(hSw.cell (p:=⟨nb,1,none⟩) (by have:=HSZ.out;simp only;omega)).trans (HCA.out 1);have hk2:=(hSw.cell (p:=⟨b,off+j,none⟩) HBL.out).trans HCY.out;simp only[List.getElem?_toArray,List.getElem?_cons_zero,List.getElem?_cons_succ]at hk0 hk1;go_simp;try with_reducible rfl
    try simp only[Act.put,zq1,zq2,zq3]
    refine Ord.stepR (v:=?_) (by rfl) ?_ ?_;rotate_left
    ·intro w' hSw;have hk0:=(hSw.cell (p:=⟨nb,0,none⟩) (by have:=HSZ.out;simp only;omega)).trans (HCA.out 0);have hk1:=(hSw.cell (p:=⟨nb,1,none⟩) (by have:=HSZ.out;simp only;omega)).trans (HCA.out 1);have hk2:=(hSw.cell (p:=⟨b,off+j,none⟩) HBL.out).trans HCY.out;simp only[List.getElem?_toArray,List.getElem?_cons_zero,List.getElem?_cons_succ]at hk0 hk1;go_simp;try with_reducible rfl
    try simp only[Act.put,zq1,zq2,zq3]
    refine Ord.stepS (by rfl) ?_;try simp only[Act.put,zq1,zq2,zq3]
    refine Ord.stepS (by rfl) ?_;try simp only[Act.put,zq1,zq2,zq3]
    refine Ord.stepS (by rfl) ?_;try simp only[Act.put,zq1,zq2,zq3]
    refine Ord.stepS (by rfl) ?_;try simp only[Act.put,zq1,zq2,zq3]
    refine Ord.stepR (v:=?_) (by rfl) ?_ ?_;rotate_left
    ·intro w' hSw;have hk0:=(hSw.cell (p:=⟨nb,0,none⟩) (by have:=HSZ.out;simp only;omega)).trans (HCA.out 0);have hk1:=(hSw.cell (p:=⟨nb,1,none⟩) (by have:=HSZ.out;simp only;omega)).trans (HCA.out 1);have hk2:=(hSw.cell (p:=⟨b,off+j,none⟩) HBL.out).trans HCY.out;simp only[List.getElem?_toArray,List.getElem?_cons_zero,List.getElem?_cons_succ]at hk0 hk1;go_simp;try with_reducible rfl
    try simp only[Act.put,zq1,zq2,zq3]
    refine Ord.stepD ?_;rintro w9 hS9;have HB9:=zh (Bel.call HBA.out hS9);have HBZ:=zh (Bel.call HBW.out hS9);clear hS9;go_wp2;go_ret;first|exact⟨rfl,HBZ.out⟩|(rw[←HG.out];exact⟨rfl,HBZ.out⟩)
  ·obtain rfl:bb=true:=HYES.out ⟨by
    have h:=HKJ.out.1;rw[show j=ks.length by omega,List.take_of_length_le (by rw[pl_len];exact Nat.le_refl _),List.take_of_length_le (by rw[bl_len,HLK.out];exact Nat.le_refl _),HYS.out]at h;exact h,by
    have h:=HKJ.out.2;rw[show j=ks.length by omega,List.take_of_length_le (by rw[pl_len];exact Nat.le_refl _)]at h
    exact h⟩
   have hlt3:¬(j:Int)<(ys.length:Int):=by have:=HLK.out;omega
   go_wp2;go_ret;first|exact⟨rfl,HB.out⟩|(rw[←HG.out];exact⟨rfl,HB.out⟩)
set_option maxRecDepth 1000000 in
theorem cright_any (o f sig:ByteArray) (ep:Int) (A:Option Addr) (c:Nat) (rs:List ByteArray) (B:Option Addr) (d:Nat) (ws:List ByteArray) (ver:Nat) (V:Option Addr) (cv:Nat) (vs:List ByteArray) (K:Option Addr) (ck:Nat) (ks:List (ByteArray×ByteArray)) (w:World) (hA:SReads w A rs) (hB:SReads w B ws) (hV:SReads w V vs) (hK:PReads w K ks) (hna:A=none→c=0) (hnb:B=none→d=0) (hf:FewM ⟨⟨o.data.toList,f.data.toList,ep,bl rs,bl ws⟩,ver,bl vs,pl ks,sig.data.toList⟩):
 Calls Tryz.prog 36 #[.agg #[.string o,.string f,.int .i64 ep,.slice A rs.length c,.slice B ws.length d,.int .u64 (ver:Int),.slice V vs.length cv,.slice K ks.length ck,.string sig]] w fun e w'=>e = .returned (.bool (decide (MR ⟨⟨o.data.toList,f.data.toList,ep,bl rs,bl ws⟩,ver,bl vs,pl ks,sig.data.toList⟩)))∧Below w.heap.size w w':=by
 obtain⟨hf1,hf2,hf3,hf4,hf5,hf6,hf7⟩:=hf;simp only at hf1 hf2 hf3 hf4 hf5 hf6 hf7;rw[bl_len]at hf2;rw[pl_len]at hf3;have hzv:∀y∈vs,y.size≤140737488355328:=fun y hy=>by have:=hf4 _ (List.mem_map.2 ⟨y,hy,rfl⟩);rw[←Lib.size_eq]at this;omega
 have hzk:∀y∈ks,y.2.size≤140737488355328:=fun y hy=>by have:=(hf5 _ (List.mem_map.2 ⟨y,hy,rfl⟩)).2;simp only at this;rw[←Lib.size_eq]at this;omega
 have HA:=zh hA;have HBB:=zh hB;have HV:=zh hV;have HK:=zh hK;have HRT:=zh fun w h1 h2=>right_code o f ep A c rs B d ws w h1 h2 hf1
 unfold RV at HRT;have hsz:sig.size≤140737488355328:=by rw[Lib.size_eq];omega
 have HKS:=zh fun w=>t_Kind sig w hsz
 have hks:=kind_lt sig.data.toList;obtain⟨kd,hkd⟩:∃k,kind sig.data.toList=k:=⟨_,rfl⟩
 have HKD:=zh hkd;rw[hkd]at HKS hks;clear hA hB hV hK hf1 hf4 hf5 hf6 hf7 hsz hkd;by_cases hr:RR ⟨o.data.toList,f.data.toList,ep,bl rs,bl ws⟩
 case neg=>
  rw[decide_eq_false hr]at HRT;rw[show decide (MR ⟨⟨o.data.toList,f.data.toList,ep,bl rs,bl ws⟩,ver,bl vs,pl ks,sig.data.toList⟩)=false from decide_eq_false fun h=>hr h.1];clear hr;go_enter Tryz.func36,Tryz.ntmps36;go_wp2_with fail;have hmx:=mx_alloc w o f ep A rs.length c B ws.length d ver V vs.length cv K ks.length ck sig 28;have hb0:=al w (.cells #[.string o,.string f,.int .i64 ep,.slice A rs.length c,.slice B ws.length d,.int .u64 (ver:Int),.slice V vs.length cv,.slice K ks.length ck,.string sig] 28);have HB:=zh hb0;have HMX:=zh hmx;clear hmx hb0;obtain⟨g,hg⟩:∃g,w.heap.size=g:=⟨_,rfl⟩
  generalize w.alloc (.cells #[.string o,.string f,.int .i64 ep,.slice A rs.length c,.slice B ws.length d,.int .u64 (ver:Int),.slice V vs.length cv,.slice K ks.length ck,.string sig] 28)=w1 at HB HMX⊢;rw[hg]at HMX⊢;have HG:=zh hg;clear hg;obtain⟨⟨m0,m1,m2,m3,m4,m5,m6,m7,m8⟩,_⟩:=HMX.out;go_wp2_with fail;clear m0 m1 m2 m3 m4 m5 m6 m7 m8;with_reducible refine(HRT.out _ (HA.out.below HB.out zl) (HBB.out.below HB.out zl)).mono ?_
  rintro e w2 ⟨rfl,hb2⟩;have HB:=zh (Bel.call HB.out hb2);have HMX:=zh (HMX.out.call hb2);clear hb2;dsimp only;obtain⟨⟨m0,m1,m2,m3,m4,m5,m6,m7,m8⟩,_⟩:=HMX.out;go_wp2;go_ret;first|exact⟨rfl,HB.out⟩|(rw[←HG.out];exact⟨rfl,HB.out⟩)
 rw[decide_eq_true hr]at HRT;have HVF:=zh fun w h=>rightVerify_any o f sig ep A c rs B d ws ver V cv vs K ck ks w h hr (by omega) hzv
 have HBK:=zh fun w h1 h2 h3=>rightBlocks_any o f sig ep A c rs B d ws ver V cv vs K ck ks w h1 h2 h3 hna hnb hr (by omega) hzk
 clear hzv hzk hna hnb;by_cases hv:(vs.length:Int)=ep+1∧Kds 117 (bl vs)
 case neg=>
  rw[decide_eq_false hv]at HVF;rw[show decide (MR ⟨⟨o.data.toList,f.data.toList,ep,bl rs,bl ws⟩,ver,bl vs,pl ks,sig.data.toList⟩)=false from decide_eq_false fun h=>hv ⟨by have h2:=h.2.1;simp only[bl_len]at h2;exact h2,h.2.2.2.1⟩];clear hv hr HBK HKD HKS;go_enter Tryz.func36,Tryz.ntmps36;go_wp2_with fail;have hmx:=mx_alloc w o f ep A rs.length c B ws.length d ver V vs.length cv K ks.length ck sig 28;have hb0:=al w (.cells #[.string o,.string f,.int .i64 ep,.slice A rs.length c,.slice B ws.length d,.int .u64 (ver:Int),.slice V vs.length cv,.slice K ks.length ck,.string sig] 28);have HB:=zh hb0;have HMX:=zh hmx;clear hmx hb0;obtain⟨g,hg⟩:∃g,w.heap.size=g:=⟨_,rfl⟩
  generalize w.alloc (.cells #[.string o,.string f,.int .i64 ep,.slice A rs.length c,.slice B ws.length d,.int .u64 (ver:Int),.slice V vs.length cv,.slice K ks.length ck,.string sig] 28)=w1 at HB HMX⊢;rw[hg]at HMX⊢;have HG:=zh hg;clear hg;obtain⟨⟨m0,m1,m2,m3,m4,m5,m6,m7,m8⟩,_⟩:=HMX.out;go_wp2_with fail;clear m0 m1 m2 m3 m4 m5 m6 m7 m8;with_reducible refine(HRT.out _ (HA.out.below HB.out zl) (HBB.out.below HB.out zl)).mono ?_
  rintro e w2 ⟨rfl,hb2⟩;have HB:=zh (Bel.call HB.out hb2);have HMX:=zh (HMX.out.call hb2);clear hb2;dsimp only;obtain⟨⟨m0,m1,m2,m3,m4,m5,m6,m7,m8⟩,_⟩:=HMX.out;go_wp2_with fail;clear m0 m1 m2 m3 m4 m5 m6 m7 m8;with_reducible refine(HVF.out _ (HV.out.below HB.out zl)).mono ?_
  rintro e w3 ⟨rfl,hb3⟩;have HB:=zh (Bel.call HB.out hb3);have HMX:=zh (HMX.out.call hb3);clear hb3;dsimp only;obtain⟨⟨m0,m1,m2,m3,m4,m5,m6,m7,m8⟩,_⟩:=HMX.out;go_wp2;go_ret;first|exact⟨rfl,HB.out⟩|(rw[←HG.out];exact⟨rfl,HB.out⟩)
 rw[decide_eq_true hv]at HVF;by_cases hb:(pl ks).map (·.1)=oth ⟨o.data.toList,f.data.toList,ep,bl rs,bl ws⟩∧Kds 98 ((pl ks).map (·.2))
 case neg=>
  rw[decide_eq_false hb]at HBK;rw[show decide (MR ⟨⟨o.data.toList,f.data.toList,ep,bl rs,bl ws⟩,ver,bl vs,pl ks,sig.data.toList⟩)=false from decide_eq_false fun h=>hb ⟨h.2.2.2.2.1,h.2.2.2.2.2⟩];clear hv hr hb HKD HKS;go_enter Tryz.func36,Tryz.ntmps36;go_wp2_with fail;have hmx:=mx_alloc w o f ep A rs.length c B ws.length d ver V vs.length cv K ks.length ck sig 28;have hb0:=al w (.cells #[.string o,.string f,.int .i64 ep,.slice A rs.length c,.slice B ws.length d,.int .u64 (ver:Int),.slice V vs.length cv,.slice K ks.length ck,.string sig] 28);have HB:=zh hb0;have HMX:=zh hmx;clear hmx hb0;obtain⟨g,hg⟩:∃g,w.heap.size=g:=⟨_,rfl⟩
  generalize w.alloc (.cells #[.string o,.string f,.int .i64 ep,.slice A rs.length c,.slice B ws.length d,.int .u64 (ver:Int),.slice V vs.length cv,.slice K ks.length ck,.string sig] 28)=w1 at HB HMX⊢;rw[hg]at HMX⊢;have HG:=zh hg;clear hg;obtain⟨⟨m0,m1,m2,m3,m4,m5,m6,m7,m8⟩,_⟩:=HMX.out;go_wp2_with fail;clear m0 m1 m2 m3 m4 m5 m6 m7 m8;with_reducible refine(HRT.out _ (HA.out.below HB.out zl) (HBB.out.below HB.out zl)).mono ?_
  rintro e w2 ⟨rfl,hb2⟩;have HB:=zh (Bel.call HB.out hb2);have HMX:=zh (HMX.out.call hb2);clear hb2;dsimp only;obtain⟨⟨m0,m1,m2,m3,m4,m5,m6,m7,m8⟩,_⟩:=HMX.out;go_wp2_with fail;clear m0 m1 m2 m3 m4 m5 m6 m7 m8;with_reducible refine(HVF.out _ (HV.out.below HB.out zl)).mono ?_
  rintro e w3 ⟨rfl,hb3⟩;have HB:=zh (Bel.call HB.out hb3);have HMX:=zh (HMX.out.call hb3);clear hb3;dsimp only;obtain⟨⟨m0,m1,m2,m3,m4,m5,m6,m7,m8⟩,_⟩:=HMX.out;go_wp2_with fail;clear m0 m1 m2 m3 m4 m5 m6 m7 m8;with_reducible refine(HBK.out _ (HA.out.below HB.out zl) (HBB.out.below HB.out zl) (HK.out.below HB.out zl)).mono ?_
  rintro e w4 ⟨rfl,hb4⟩;have HB:=zh (Bel.call HB.out hb4);have HMX:=zh (HMX.out.call hb4);clear hb4;dsimp only;obtain⟨⟨m0,m1,m2,m3,m4,m5,m6,m7,m8⟩,_⟩:=HMX.out;go_wp2;go_ret;first|exact⟨rfl,HB.out⟩|(rw[←HG.out];exact⟨rfl,HB.out⟩)
 rw[decide_eq_true hb]at HBK;by_cases hk103:kd=103
 case neg=>
  rw[show decide (MR ⟨⟨o.data.toList,f.data.toList,ep,bl rs,bl ws⟩,ver,bl vs,pl ks,sig.data.toList⟩)=false from decide_eq_false fun h=>hk103 (HKD.out.symm.trans h.2.2.1)];have q:((kd:Int)==103)=false:=by simpa using(show ¬(kd:Int)=103 by omega)
  clear hv hr hb HKD;go_enter Tryz.func36,Tryz.ntmps36;go_wp2_with fail;have hmx:=mx_alloc w o f ep A rs.length c B ws.length d ver V vs.length cv K ks.length ck sig 28;have hb0:=al w (.cells #[.string o,.string f,.int .i64 ep,.slice A rs.length c,.slice B ws.length d,.int .u64 (ver:Int),.slice V vs.length cv,.slice K ks.length ck,.string sig] 28);have HB:=zh hb0;have HMX:=zh hmx;clear hmx hb0;obtain⟨g,hg⟩:∃g,w.heap.size=g:=⟨_,rfl⟩
  generalize w.alloc (.cells #[.string o,.string f,.int .i64 ep,.slice A rs.length c,.slice B ws.length d,.int .u64 (ver:Int),.slice V vs.length cv,.slice K ks.length ck,.string sig] 28)=w1 at HB HMX⊢;rw[hg]at HMX⊢;have HG:=zh hg;clear hg;obtain⟨⟨m0,m1,m2,m3,m4,m5,m6,m7,m8⟩,_⟩:=HMX.out;go_wp2_with fail;clear m0 m1 m2 m3 m4 m5 m6 m7 m8;with_reducible refine(HRT.out _ (HA.out.below HB.out zl) (HBB.out.below HB.out zl)).mono ?_
  rintro e w2 ⟨rfl,hb2⟩;have HB:=zh (Bel.call HB.out hb2);have HMX:=zh (HMX.out.call hb2);clear hb2;dsimp only;obtain⟨⟨m0,m1,m2,m3,m4,m5,m6,m7,m8⟩,_⟩:=HMX.out;go_wp2_with fail;clear m0 m1 m2 m3 m4 m5 m6 m7 m8;with_reducible refine(HVF.out _ (HV.out.below HB.out zl)).mono ?_
  rintro e w3 ⟨rfl,hb3⟩;have HB:=zh (Bel.call HB.out hb3);have HMX:=zh (HMX.out.call hb3);clear hb3;dsimp only;obtain⟨⟨m0,m1,m2,m3,m4,m5,m6,m7,m8⟩,_⟩:=HMX.out;go_wp2_with fail;clear m0 m1 m2 m3 m4 m5 m6 m7 m8;with_reducible refine(HBK.out _ (HA.out.below HB.out zl) (HBB.out.below HB.out zl) (HK.out.below HB.out zl)).mono ?_
  rintro e w4 ⟨rfl,hb4⟩;have HB:=zh (Bel.call HB.out hb4);have HMX:=zh (HMX.out.call hb4);clear hb4;dsimp only;obtain⟨⟨m0,m1,m2,m3,m4,m5,m6,m7,m8⟩,_⟩:=HMX.out;go_wp2_with fail;clear m0 m1 m2 m3 m4 m5 m6 m7 m8;with_reducible refine(HKS.out _).mono ?_
  rintro e w5 ⟨rfl,hb5⟩;have HB:=zh (Bel.call HB.out hb5);have HMX:=zh (HMX.out.call hb5);clear hb5;dsimp only;obtain⟨⟨m0,m1,m2,m3,m4,m5,m6,m7,m8⟩,_⟩:=HMX.out;go_wp2;go_ret;first|exact⟨rfl,HB.out⟩|(rw[←HG.out];exact⟨rfl,HB.out⟩)
 rw[show decide (MR ⟨⟨o.data.toList,f.data.toList,ep,bl rs,bl ws⟩,ver,bl vs,pl ks,sig.data.toList⟩)=true from decide_eq_true ⟨hr,by simp only[bl_len];exact hv.1,HKD.out.trans hk103,hv.2,hb.1,hb.2⟩];subst hk103;clear hv hr hb HKD;go_enter Tryz.func36,Tryz.ntmps36;go_wp2_with fail;have hmx:=mx_alloc w o f ep A rs.length c B ws.length d ver V vs.length cv K ks.length ck sig 28;have hb0:=al w (.cells #[.string o,.string f,.int .i64 ep,.slice A rs.length c,.slice B ws.length d,.int .u64 (ver:Int),.slice V vs.length cv,.slice K ks.length ck,.string sig] 28);have HB:=zh hb0;have HMX:=zh hmx;clear hmx hb0;obtain⟨g,hg⟩:∃g,w.heap.size=g:=⟨_,rfl⟩
 generalize w.alloc (.cells #[.string o,.string f,.int .i64 ep,.slice A rs.length c,.slice B ws.length d,.int .u64 (ver:Int),.slice V vs.length cv,.slice K ks.length ck,.string sig] 28)=w1 at HB HMX⊢;rw[hg]at HMX⊢;have HG:=zh hg;clear hg;obtain⟨⟨m0,m1,m2,m3,m4,m5,m6,m7,m8⟩,_⟩:=HMX.out;go_wp2_with fail;clear m0 m1 m2 m3 m4 m5 m6 m7 m8;with_reducible refine(HRT.out _ (HA.out.below HB.out zl) (HBB.out.below HB.out zl)).mono ?_
 rintro e w2 ⟨rfl,hb2⟩;have HB:=zh (Bel.call HB.out hb2);have HMX:=zh (HMX.out.call hb2);clear hb2;dsimp only;obtain⟨⟨m0,m1,m2,m3,m4,m5,m6,m7,m8⟩,_⟩:=HMX.out;go_wp2_with fail;clear m0 m1 m2 m3 m4 m5 m6 m7 m8;with_reducible refine(HVF.out _ (HV.out.below HB.out zl)).mono ?_
 rintro e w3 ⟨rfl,hb3⟩;have HB:=zh (Bel.call HB.out hb3);have HMX:=zh (HMX.out.call hb3);clear hb3;dsimp only;obtain⟨⟨m0,m1,m2,m3,m4,m5,m6,m7,m8⟩,_⟩:=HMX.out;go_wp2_with fail;clear m0 m1 m2 m3 m4 m5 m6 m7 m8;with_reducible refine(HBK.out _ (HA.out.below HB.out zl) (HBB.out.below HB.out zl) (HK.out.below HB.out zl)).mono ?_
 rintro e w4 ⟨rfl,hb4⟩;have HB:=zh (Bel.call HB.out hb4);have HMX:=zh (HMX.out.call hb4);clear hb4;dsimp only;obtain⟨⟨m0,m1,m2,m3,m4,m5,m6,m7,m8⟩,_⟩:=HMX.out;go_wp2_with fail;clear m0 m1 m2 m3 m4 m5 m6 m7 m8;with_reducible refine(HKS.out _).mono ?_
 rintro e w5 ⟨rfl,hb5⟩;have HB:=zh (Bel.call HB.out hb5);have HMX:=zh (HMX.out.call hb5);clear hb5;dsimp only;obtain⟨⟨m0,m1,m2,m3,m4,m5,m6,m7,m8⟩,_⟩:=HMX.out;go_wp2;go_ret;first|exact⟨rfl,HB.out⟩|(rw[←HG.out];exact⟨rfl,HB.out⟩)
end Go.Proofs.YtmihiknebelkbaaGreat.Mta
