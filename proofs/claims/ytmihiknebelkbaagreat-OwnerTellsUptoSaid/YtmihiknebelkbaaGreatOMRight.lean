/-
  MRight. By an AI agent.
-/
import Derived.Test.YtmihiknebelkbaaGreatOZ
import Derived.Test.YtmihiknebelkbaaGreatOMOth
import Derived.Test.YtmihiknebelkbaaGreatOT1
set_option linter.unusedSimpArgs false
set_option maxHeartbeats 8000000
namespace Go.Proofs.YtmihiknebelkbaaGreat.Mta
open Go.RowKit Wire Term Rig
def Mx (g:Nat) (w:World) (o f:ByteArray) (ep:Int) (A:Option Addr) (n c:Nat) (B:Option Addr) (m d:Nat) (ver:Nat) (V:Option Addr) (nv cv:Nat) (K:Option Addr) (nk ck:Nat) (sig:ByteArray):Prop:=
 (w.cell? ⟨g,0,none⟩=some (.string o)∧w.cell? ⟨g,1,none⟩=some (.string f)∧w.cell? ⟨g,2,none⟩=some (.int .i64 ep)∧w.cell? ⟨g,3,none⟩=some (.slice A n c)∧w.cell? ⟨g,4,none⟩=some (.slice B m d) ∧
 w.cell? ⟨g,5,none⟩=some (.int .u64 (ver:Int))∧w.cell? ⟨g,6,none⟩=some (.slice V nv cv)∧w.cell? ⟨g,7,none⟩=some (.slice K nk ck)∧w.cell? ⟨g,8,none⟩=some (.string sig))∧g<w.heap.size
theorem mx_alloc (w:World) (o f:ByteArray) (ep:Int) (A:Option Addr) (n c:Nat) (B:Option Addr) (m d:Nat) (ver:Nat) (V:Option Addr) (nv cv:Nat) (K:Option Addr) (nk ck:Nat) (sig:ByteArray) (t:TypeId):
 Mx w.heap.size (w.alloc (.cells #[.string o,.string f,.int .i64 ep,.slice A n c,.slice B m d,.int .u64 (ver:Int),.slice V nv cv,.slice K nk ck,.string sig] t)) o f ep A n c B m d ver V nv cv K nk ck sig:=by
 have h:∀j,(w.alloc (.cells #[.string o,.string f,.int .i64 ep,.slice A n c,.slice B m d,.int .u64 (ver:Int),.slice V nv cv,.slice K nk ck,.string sig] t)).cell? ⟨w.heap.size,j,none⟩=(#[.string o,.string f,.int .i64 ep,.slice A n c,.slice B m d,.int .u64 (ver:Int),.slice V nv cv,.slice K nk ck,.string sig]:Array Value)[j]?:=fun j=>cell_of_row _ _ _ _ _ (0,0) (heap_alloc_new w _)
 exact⟨⟨h 0,h 1,h 2,h 3,h 4,h 5,h 6,h 7,h 8⟩,by simp⟩
theorem Mx.below {g:Nat} {w w':World} {o f:ByteArray} {ep:Int} {A:Option Addr} {n c:Nat} {B:Option Addr} {m d:Nat} {ver:Nat} {V:Option Addr} {nv cv:Nat} {K:Option Addr} {nk ck:Nat} {sig:ByteArray} {M:Nat} (h:Mx g w o f ep A n c B m d ver V nv cv K nk ck sig) (hb:Below M w w') (hg:g<M):Mx g w' o f ep A n c B m d ver V nv cv K nk ck sig:=by
 obtain⟨⟨h0,h1,h2,h3,h4,h5,h6,h7,h8⟩,h9⟩:=h;have e:=fun j=>hb.cell (p:=⟨g,j,none⟩) hg
 exact⟨⟨(e 0).trans h0,(e 1).trans h1,(e 2).trans h2,(e 3).trans h3,(e 4).trans h4,(e 5).trans h5,(e 6).trans h6,(e 7).trans h7,(e 8).trans h8⟩,Nat.lt_of_lt_of_le h9 hb.size⟩
theorem Mx.call {g:Nat} {w w':World} {o f:ByteArray} {ep:Int} {A:Option Addr} {n c:Nat} {B:Option Addr} {m d:Nat} {ver:Nat} {V:Option Addr} {nv cv:Nat} {K:Option Addr} {nk ck:Nat} {sig:ByteArray} (h:Mx g w o f ep A n c B m d ver V nv cv K nk ck sig) (hb:Below w.heap.size w w'):Mx g w' o f ep A n c B m d ver V nv cv K nk ck sig:=h.below hb h.2
theorem kds_take {k:Nat} {ys:List ByteArray} {j:Nat} (hj:j<ys.length):Kds k ((bl ys).take (j+1))↔Kds k ((bl ys).take j)∧kind (ys.getD j ByteArray.empty).data.toList=k:=by
 rw[bl_get hj]
 exact⟨fun h=>⟨fun t ht=>h t (List.mem_append_left _ ht),h _ (List.mem_append_right _ (List.mem_singleton_self _))⟩,fun h t ht=>by
  rcases List.mem_append.1 ht with ht|ht
  ·exact h.1 t ht
  ·rw[List.mem_singleton.1 ht];exact h.2⟩
def Blk (l:List Tm) (b:List (Tm×Tm)):Prop:=b.map (·.1)=l∧Kds 98 (b.map (·.2))
theorem blk_take {ys:List ByteArray} {ks:List (ByteArray×ByteArray)} {j:Nat} (hj:j<ys.length) (hk:j<ks.length):
 Blk ((bl ys).take (j+1)) ((pl ks).take (j+1))↔Blk ((bl ys).take j) ((pl ks).take j)∧(ks.getD j default).1.data.toList=(ys.getD j ByteArray.empty).data.toList∧kind (ks.getD j default).2.data.toList=98:=by
 have hl:((pl ks).take j).length=((bl ys).take j).length:=by rw[List.length_take,List.length_take,pl_len,bl_len];omega
 unfold Blk;rw[bl_get hj,pl_get hk,List.map_append,List.map_append];constructor
 ·rintro⟨h1,h2⟩
  obtain⟨e1,e2⟩:=List.append_inj h1 (by rw[List.length_map];exact hl);exact⟨⟨e1,fun t ht=>h2 t (List.mem_append_left _ ht)⟩,by simpa using e2,h2 _ (List.mem_append_right _ (by simp))⟩
 ·rintro⟨⟨h1,h2⟩,h3,h4⟩
  refine⟨by rw[h1,List.map_cons,List.map_nil,h3],fun t ht=>?_⟩;rcases List.mem_append.1 ht with ht|ht
  ·exact h2 t ht
  ·rw[show t=(ks.getD j default).2.data.toList by simpa using ht];exact h4
theorem kind_lt (l:Tm):kind l<256:=by
 unfold kind;split
 ·exact(l.headD 0).toNat_lt
 ·decide
set_option maxRecDepth 1000000 in
theorem mright_any (o f sig:ByteArray) (ep:Int) (A:Option Addr) (c:Nat) (rs:List ByteArray) (B:Option Addr) (d:Nat) (ws:List ByteArray) (ver:Nat) (V:Option Addr) (cv:Nat) (vs:List ByteArray) (K:Option Addr) (ck:Nat) (ks:List (ByteArray×ByteArray)) (w:World) (hA:SReads w A rs) (hB:SReads w B ws) (hV:SReads w V vs) (hK:PReads w K ks) (hna:A=none→c=0) (hnb:B=none→d=0) (hf:FewM ⟨⟨o.data.toList,f.data.toList,ep,bl rs,bl ws⟩,ver,bl vs,pl ks,sig.data.toList⟩):
 Calls Tryz.prog 37 #[.agg #[.string o,.string f,.int .i64 ep,.slice A rs.length c,.slice B ws.length d,.int .u64 (ver:Int),.slice V vs.length cv,.slice K ks.length ck,.string sig]] w fun e w'=>e = .returned (.bool (decide (MR ⟨⟨o.data.toList,f.data.toList,ep,bl rs,bl ws⟩,ver,bl vs,pl ks,sig.data.toList⟩)))∧Below w.heap.size w w':=by
 obtain⟨hf1,hf2,hf3,hf4,hf5,hf6,hf7⟩:=hf;simp only at hf1 hf2 hf3 hf4 hf5 hf6 hf7;rw[bl_len]at hf2;rw[pl_len]at hf3;obtain⟨bb,hbb⟩:∃b,decide (MR ⟨⟨o.data.toList,f.data.toList,ep,bl rs,bl ws⟩,ver,bl vs,pl ks,sig.data.toList⟩)=b:=⟨_,rfl⟩
 have HNO:Hid (¬MR ⟨⟨o.data.toList,f.data.toList,ep,bl rs,bl ws⟩,ver,bl vs,pl ks,sig.data.toList⟩→bb=false):=fun h=>by rw[←hbb];exact decide_eq_false h
 have HYES:Hid (MR ⟨⟨o.data.toList,f.data.toList,ep,bl rs,bl ws⟩,ver,bl vs,pl ks,sig.data.toList⟩→bb=true):=fun h=>by rw[←hbb];exact decide_eq_true h
 rw[hbb];have HA:=zh hA;have HBB:=zh hB;have HV:=zh hV;have HK:=zh hK;have HNA:=zh hna;have HNB:=zh hnb;have HRT:=zh fun w h1 h2=>rright_any o f ep A c rs B d ws w h1 h2 hf1
 unfold RV at HRT;have hep1:=hf1.2.2.2.2.2.2.1;have hep2:=hf1.2.2.2.2.2.2.2;simp only at hep1 hep2;have HZV:Hid (∀y∈vs,y.size≤140737488355328):=fun y hy=>by have:=hf4 _ (List.mem_map.2 ⟨y,hy,rfl⟩);rw[←Lib.size_eq]at this;omega
 have HZK:Hid (∀y∈ks,y.2.size≤140737488355328):=fun y hy=>by have:=(hf5 _ (List.mem_map.2 ⟨y,hy,rfl⟩)).2;simp only at this;rw[←Lib.size_eq]at this;omega
 have hsz:sig.size≤140737488355328:=by rw[Lib.size_eq];omega
 have HKS:=zh fun w=>kind_any sig w hsz
 have hks:=kind_lt sig.data.toList;obtain⟨kd,hkd⟩:∃k,kind sig.data.toList=k:=⟨_,rfl⟩
 have HKD:=zh hkd;rw[hkd]at HKS hks;clear hA hB hV hK hna hnb hf1 hf4 hf5 hf6 hf7 hbb hsz hkd;go_enter Tryz.func37,Tryz.ntmps37;go_wp2_with fail;have hmx:=mx_alloc w o f ep A rs.length c B ws.length d ver V vs.length cv K ks.length ck sig 37;have hb0:=al w (.cells #[.string o,.string f,.int .i64 ep,.slice A rs.length c,.slice B ws.length d,.int .u64 (ver:Int),.slice V vs.length cv,.slice K ks.length ck,.string sig] 37);have HB:=zh hb0;have HMX:=zh hmx;clear hmx hb0;obtain⟨g,hg⟩:∃g,w.heap.size=g:=⟨_,rfl⟩
 generalize w.alloc (.cells #[.string o,.string f,.int .i64 ep,.slice A rs.length c,.slice B ws.length d,.int .u64 (ver:Int),.slice V vs.length cv,.slice K ks.length ck,.string sig] 37)=w1 at HB HMX⊢;rw[hg]at HMX⊢;clear hg;with_reducible refine(HRT.out _ (HA.out.below HB.out zl) (HBB.out.below HB.out zl)).mono ?_
 by_cases hr:RR ⟨o.data.toList,f.data.toList,ep,bl rs,bl ws⟩
 case neg=>
  rw[decide_eq_false hr];obtain rfl:bb=false:=HNO.out fun h=>hr h.1
  rintro e w2 ⟨rfl,hb2⟩;have HB:=zh (Bel.call HB.out hb2);have HMX:=zh (HMX.out.call hb2);clear hb2;dsimp only;go_wp2;go_ret;exact⟨rfl,HB.out⟩
 rw[decide_eq_true hr];rintro e w2 ⟨rfl,hb2⟩;have HB:=zh (Bel.call HB.out hb2);have HMX:=zh (HMX.out.call hb2);have HRR:=zh hr;have he7:=hr.2.2.1;simp only at he7;clear hb2 hr;dsimp only;obtain⟨⟨m0,m1,m2,m3,m4,m5,m6,m7,m8⟩,_⟩:=HMX.out;have hw1:IntKind.i64.wrap (ep+1)=ep+1:=by rw[IntKind.wrap_i64];omega
 by_cases hlen:(vs.length:Int)=ep+1
 case neg=>
  obtain rfl:bb=false:=HNO.out fun h=>hlen (by have h2:=h.2.1;simp only[bl_len]at h2;exact h2)
  go_wp2;go_ret;exact⟨rfl,HB.out⟩
 have hlb:((vs.length:Int)==ep+1)=true:=by simpa using hlen
 have HLEN:=zh hlen;clear hlen;go_wp2_with fail;clear m0 m1 m2 m3 m4 m5 m6 m7 m8;with_reducible refine(HKS.out _).mono ?_
 rintro e w3 ⟨rfl,hb3⟩;have HB:=zh (Bel.call HB.out hb3);have HMX:=zh (HMX.out.call hb3);clear hb3;dsimp only;obtain⟨⟨m0,m1,m2,m3,m4,m5,m6,m7,m8⟩,_⟩:=HMX.out;clear hlb hw1;by_cases hk103:kd=103
 case neg=>
  obtain rfl:bb=false:=HNO.out fun h=>hk103 (HKD.out.symm.trans h.2.2.1)
  have q:((kd:Int) != 103)=true:=by simpa using(show ¬(kd:Int)=103 by omega)
  have q':((kd:Int)==103)=false:=by simpa using(show ¬(kd:Int)=103 by omega)
  go_wp2;go_ret;exact⟨rfl,HB.out⟩
 subst hk103;go_wp2_with fail;clear m0 m1 m2 m3 m4 m5 m6 m7 m8;go_loopw [3] (fun i wr=>∃j:Nat,j≤vs.length∧i = .int .i64 (j:Int)∧Hid (Kds 117 ((bl vs).take j))∧Hid (Below w3.heap.size w3 wr)) (fun i _=>vs.length-(intOf i).toNat);case atStart=>exact⟨0,Nat.zero_le _,rfl,zh (fun t ht=>by simp at ht),zh (Below.refl _ _)⟩
 case round=>
  obtain⟨j,hj,rfl,HKJ,HBJ⟩:=hrel;have HB:=zh (Bel.call HB.out HBJ.out);have HMX:=zh (HMX.out.call HBJ.out);obtain⟨⟨m0,m1,m2,m3,m4,m5,m6,m7,m8⟩,_⟩:=HMX.out;by_cases hlt:(j:Int)<(vs.length:Int)
  ·obtain⟨b,off,rfl,hbl,hcl⟩:=(HV.out.below HB.out zl) j (by omega)
   obtain⟨y,hy⟩:∃y,vs.getD j ByteArray.empty=y:=⟨_,rfl⟩
   have hkt:=kds_take (k:=117) (ys:=vs) (j:=j) (by omega);have hyz:y.size≤140737488355328:=HZV.out y (by rw[←hy];simp[List.getD,show j<vs.length by omega]);rw[hy]at hcl hkt;have HKT:=zh hkt;have HKY:=zh fun w=>kind_any y w hyz
   have hky:=kind_lt y.data.toList;obtain⟨ky,hkk⟩:∃k,kind y.data.toList=k:=⟨_,rfl⟩
   have HKK:=zh hkk;rw[hkk]at HKY hky;clear hy hbl hkt hyz hkk;go_wp2_with fail;clear m0 m1 m2 m3 m4 m5 m6 m7 m8 hcl;with_reducible refine(HKY.out _).mono ?_
   rintro e w4 ⟨rfl,hb4⟩;have HB4:=zh (Bel.call HBJ.out hb4);have HB:=zh (Bel.call HB.out hb4);have HMX:=zh (HMX.out.call hb4);clear hb4;dsimp only;by_cases hk117:ky=117
   ·subst hk117
    go_wp2;go_roundw;case rel=>exact⟨j+1,by omega,by go_num,zh (HKT.out.2 ⟨HKJ.out,HKK.out⟩),HB4⟩
    case measure=>simp[intOf];omega
   ·obtain rfl:bb=false:=HNO.out fun h=>hk117 (HKK.out.symm.trans (HKT.out.1 fun t ht=>h.2.2.2.1 t (List.mem_of_mem_take ht)).2)
    have q:((ky:Int) != 117)=true:=by simpa using(show ¬(ky:Int)=117 by omega)
    have q':((ky:Int)==117)=false:=by simpa using(show ¬(ky:Int)=117 by omega)
    go_wp2;go_ret;exact⟨rfl,HB.out⟩
  ·have HVF:Hid (Kds 117 (bl vs)):=by
    have h:=HKJ.out;rw[show j=vs.length by omega,bl_take_all]at h;exact h
   have HOC:=zh fun w h1 h2=>roth_any o f ep A c rs B d ws w h1 h2 HNA.out HNB.out HRR.out
   unfold RV at HOC;go_wp2_with fail;clear m0 m1 m2 m3 m4 m5 m6 m7 m8;with_reducible refine(HOC.out _ (HA.out.below HB.out zl) (HBB.out.below HB.out zl)).mono ?_
   rintro e w5 ⟨⟨A2,c2,ys,hys,hc2,hs2,hfr2,rfl⟩,hb5⟩;have HB:=zh (Bel.call HB.out hb5);have HMX:=zh (HMX.out.call hb5);have HYS:=zh hys;have HS2:=zh hs2
   have hyl:ys.length≤40:=by
    have h:=congrArg List.length hys;rw[bl_len,oth_len]at h;have h2:=HRR.out.2.2.2.1;simp only at h h2;omega
   clear hb5 hys hs2 hc2 hfr2 HBJ;dsimp only;obtain⟨⟨m0,m1,m2,m3,m4,m5,m6,m7,m8⟩,_⟩:=HMX.out;by_cases hll:(ys.length:Int)=(ks.length:Int)
   case neg=>
    obtain rfl:bb=false:=HNO.out fun h=>by
     have h1:=congrArg List.length h.2.2.2.2.1;simp only[List.length_map,pl_len]at h1;rw[←HYS.out,bl_len]at h1;omega
    have q:((ys.length:Int)==(ks.length:Int))=false:=by simpa using hll
    go_wp2;go_ret;exact⟨rfl,HB.out⟩
   have hq:((ys.length:Int)==(ks.length:Int))=true:=by simpa using hll
   have hlk:ys.length=ks.length:=by omega
   have HLK:=zh hlk;go_wp2_with fail;clear m0 m1 m2 m3 m4 m5 m6 m7 m8 hq hll hlk;go_loopw [5] (fun i wr=>∃j:Nat,j≤ys.length∧i = .int .i64 (j:Int)∧Hid (Blk ((bl ys).take j) ((pl ks).take j))∧Hid (Below w5.heap.size w5 wr)) (fun i _=>ys.length-(intOf i).toNat);case atStart=>exact⟨0,Nat.zero_le _,rfl,zh ⟨by simp,fun t ht=>by simp at ht⟩,zh (Below.refl _ _)⟩
   case round=>
    obtain⟨j,hj,rfl,HKJ,HBJ⟩:=hrel;have HB:=zh (Bel.call HB.out HBJ.out);have HMX:=zh (HMX.out.call HBJ.out);by_cases hlt2:(j:Int)<(ys.length:Int)
    ·obtain⟨b,off,rfl,hbl,hcl⟩:=((HS2.out.below HBJ.out zl)) j (by omega)
     obtain⟨b2,off2,rfl,hbl2,hcl2,hcl3⟩:=(HK.out.below HB.out zl) j (by have:=HLK.out;omega);obtain⟨y,hy⟩:∃y,ys.getD j ByteArray.empty=y:=⟨_,rfl⟩
     obtain⟨u,x,hux⟩:∃u x,ks.getD j default=(u,x):=⟨_,_,rfl⟩
     have hkt:=blk_take (ys:=ys) (ks:=ks) (j:=j) (by omega) (by have:=HLK.out;omega);have hxz:x.size≤140737488355328:=HZK.out (u,x) (by rw[←hux];simp[List.getD,show j<ks.length by have:=HLK.out;omega]);rw[hy]at hcl hkt;rw[hux]at hcl2 hcl3 hkt;have HKT:=zh hkt;have HKX:=zh fun w=>kind_any x w hxz
     have hkx:=kind_lt x.data.toList;obtain⟨kx,hkk⟩:∃k,kind x.data.toList=k:=⟨_,rfl⟩
     have HKK:=zh hkk;rw[hkk]at HKX hkx;have HC1:=zh hcl;have HC2:=zh hcl2;have HC3:=zh hcl3;have HL1:=zh hbl;have HL2:=zh hbl2;clear hy hux hbl hbl2 hkt hxz hkk hcl hcl2 hcl3
     have HNO2:Hid (¬Blk ((bl ys).take (j+1)) ((pl ks).take (j+1))→bb=false):=fun h=>HNO.out fun h2=>h ⟨by
      have h3:(pl ks).map (·.1)=oth ⟨o.data.toList,f.data.toList,ep,bl rs,bl ws⟩:=h2.2.2.2.2.1
      rw[List.map_take,h3,HYS.out],fun t ht=>h2.2.2.2.2.2 t (by rw[List.map_take]at ht;exact List.mem_of_mem_take ht)⟩
     have hjk:j<ks.length:=by have:=HLK.out;omega
     have hjk2:(j:Int)<(ks.length:Int):=by omega
     have hjy:j<ys.length:=by omega
     go_wp2_with fail;have hdr:=Below.drewN' (Below.refl wr.heap.size wr) 1;by_cases hu:u.data.toList=y.data.toList
     ·have q:=s_eq hu
      by_cases hk98:kx=98
      ·subst hk98
       refine Ord.region_lit (S:=fun w'=>Below wr.heap.size wr w') (by kernel_rfl) (by kernel_rfl) hdr ?_;clear hdr;refine Ord.stepR (v:=?_) (by rfl) ?_ ?_;rotate_left
       ·intro w' hSw;have hk1:=(hSw.cell (p:=⟨b,off+j,none⟩) HL1.out).trans HC1.out;have hk2:=(hSw.cell (p:=⟨b2,off2+j*2,none⟩) HL2.out).trans HC2.out;have hk3:=(hSw.cell (p:=⟨b2,off2+j*2+1,none⟩) HL2.out).trans HC3.out;obtain⟨⟨m0,m1,m2,m3,m4,m5,m6,m7,m8⟩,_⟩:=HMX.out.call hSw;go_simp;try with_reducible rfl
       try simp only[Act.put,zq1,zq2,zq3]
       refine Ord.stepR (v:=?_) (by rfl) ?_ ?_;rotate_left
       ·intro w' hSw;have hk1:=(hSw.cell (p:=⟨b,off+j,none⟩) HL1.out).trans HC1.out;have hk2:=(hSw.cell (p:=⟨b2,off2+j*2,none⟩) HL2.out).trans HC2.out;have hk3:=(hSw.cell (p:=⟨b2,off2+j*2+1,none⟩) HL2.out).trans HC3.out;obtain⟨⟨m0,m1,m2,m3,m4,m5,m6,m7,m8⟩,_⟩:=HMX.out.call hSw;go_simp;try with_reducible rfl
       try simp only[Act.put,zq1,zq2,zq3]
       refine Ord.stepR (v:=?_) (by rfl) ?_ ?_;rotate_left
       ·intro w' hSw;have hk1:=(hSw.cell (p:=⟨b,off+j,none⟩) HL1.out).trans HC1.out;have hk2:=(hSw.cell (p:=⟨b2,off2+j*2,none⟩) HL2.out).trans HC2.out;have hk3:=(hSw.cell (p:=⟨b2,off2+j*2+1,none⟩) HL2.out).trans HC3.out;obtain⟨⟨m0,m1,m2,m3,m4,m5,m6,m7,m8⟩,_⟩:=HMX.out.call hSw;go_simp;try with_reducible rfl
       try simp only[Act.put,zq1,zq2,zq3]
       refine Ord.stepR (v:=?_) (by rfl) ?_ ?_;rotate_left
       ·intro w' hSw;have hk1:=(hSw.cell (p:=⟨b,off+j,none⟩) HL1.out).trans HC1.out;have hk2:=(hSw.cell (p:=⟨b2,off2+j*2,none⟩) HL2.out).trans HC2.out;have hk3:=(hSw.cell (p:=⟨b2,off2+j*2+1,none⟩) HL2.out).trans HC3.out;obtain⟨⟨m0,m1,m2,m3,m4,m5,m6,m7,m8⟩,_⟩:=HMX.out.call hSw;go_simp;try with_reducible rfl
       try simp only[Act.put,zq1,zq2,zq3]
       refine Ord.stepR (v:=?_) (by rfl) ?_ ?_;rotate_left
       ·intro w' hSw;have hk1:=(hSw.cell (p:=⟨b,off+j,none⟩) HL1.out).trans HC1.out;have hk2:=(hSw.cell (p:=⟨b2,off2+j*2,none⟩) HL2.out).trans HC2.out;have hk3:=(hSw.cell (p:=⟨b2,off2+j*2+1,none⟩) HL2.out).trans HC3.out;obtain⟨⟨m0,m1,m2,m3,m4,m5,m6,m7,m8⟩,_⟩:=HMX.out.call hSw;go_simp;try with_reducible rfl
       try simp only[Act.put,zq1,zq2,zq3]
       refine Ord.stepR (v:=?_) (by rfl) ?_ ?_;rotate_left
       ·intro w' hSw;have hk1:=(hSw.cell (p:=⟨b,off+j,none⟩) HL1.out).trans HC1.out;have hk2:=(hSw.cell (p:=⟨b2,off2+j*2,none⟩) HL2.out).trans HC2.out;have hk3:=(hSw.cell (p:=⟨b2,off2+j*2+1,none⟩) HL2.out).trans HC3.out;obtain⟨⟨m0,m1,m2,m3,m4,m5,m6,m7,m8⟩,_⟩:=HMX.out.call hSw;go_simp;try with_reducible rfl
       try simp only[Act.put,zq1,zq2,zq3]
       refine Ord.stepR (v:=?_) (by rfl) ?_ ?_;rotate_left
       ·intro w' hSw;have hk1:=(hSw.cell (p:=⟨b,off+j,none⟩) HL1.out).trans HC1.out;have hk2:=(hSw.cell (p:=⟨b2,off2+j*2,none⟩) HL2.out).trans HC2.out;have hk3:=(hSw.cell (p:=⟨b2,off2+j*2+1,none⟩) HL2.out).trans HC3.out;obtain⟨⟨m0,m1,m2,m3,m4,m5,m6,m7,m8⟩,_⟩:=HMX.out.call hSw;go_simp;try with_reducible rfl
       try simp only[Act.put,zq1,zq2,zq3]
       refine Ord.stepR (v:=?_) (by rfl) ?_ ?_;rotate_left
       ·intro w' hSw;have hk1:=(hSw.cell (p:=⟨b,off+j,none⟩) HL1.out).trans HC1.out;have hk2:=(hSw.cell (p:=⟨b2,off2+j*2,none⟩) HL2.out).trans HC2.out;have hk3:=(hSw.cell (p:=⟨b2,off2+j*2+1,none⟩) HL2.out).trans HC3.out;obtain⟨⟨m0,m1,m2,m3,m4,m5,m6,m7,m8⟩,_⟩:=HMX.out.call hSw;go_simp;try with_reducible rfl
       try simp only[Act.put,zq1,zq2,zq3]
       refine Ord.stepR (v:=?_) (by rfl) ?_ ?_;rotate_left
       ·intro w' hSw;have hk1:=(hSw.cell (p:=⟨b,off+j,none⟩) HL1.out).trans HC1.out;have hk2:=(hSw.cell (p:=⟨b2,off2+j*2,none⟩) HL2.out).trans HC2.out;have hk3:=(hSw.cell (p:=⟨b2,off2+j*2+1,none⟩) HL2.out).trans HC3.out;obtain⟨⟨m0,m1,m2,m3,m4,m5,m6,m7,m8⟩,_⟩:=HMX.out.call hSw;go_simp;try with_reducible rfl
       try simp only[Act.put,zq1,zq2,zq3]
       refine Ord.stepR (v:=?_) (by rfl) ?_ ?_;rotate_left
       ·intro w' hSw;have hk1:=(hSw.cell (p:=⟨b,off+j,none⟩) HL1.out).trans HC1.out;have hk2:=(hSw.cell (p:=⟨b2,off2+j*2,none⟩) HL2.out).trans HC2.out;have hk3:=(hSw.cell (p:=⟨b2,off2+j*2+1,none⟩) HL2.out).trans HC3.out;obtain⟨⟨m0,m1,m2,m3,m4,m5,m6,m7,m8⟩,_⟩:=HMX.out.call hSw;go_simp;try with_reducible rfl
       try simp only[Act.put,zq1,zq2,zq3]
       refine Ord.stepR (v:=?_) (by rfl) ?_ ?_;rotate_left
       ·intro w' hSw;have hk1:=(hSw.cell (p:=⟨b,off+j,none⟩) HL1.out).trans HC1.out;have hk2:=(hSw.cell (p:=⟨b2,off2+j*2,none⟩) HL2.out).trans HC2.out;have hk3:=(hSw.cell (p:=⟨b2,off2+j*2+1,none⟩) HL2.out).trans HC3.out;obtain⟨⟨m0,m1,m2,m3,m4,m5,m6,m7,m8⟩,_⟩:=HMX.out.call hSw;go_simp;try with_reducible rfl
       try simp only[Act.put,zq1,zq2,zq3]
       refine Ord.stepR (v:=?_) (by rfl) ?_ ?_;rotate_left
       ·intro w' hSw;have hk1:=(hSw.cell (p:=⟨b,off+j,none⟩) HL1.out).trans HC1.out;have hk2:=(hSw.cell (p:=⟨b2,off2+j*2,none⟩) HL2.out).trans HC2.out;have hk3:=(hSw.cell (p:=⟨b2,off2+j*2+1,none⟩) HL2.out).trans HC3.out;obtain⟨⟨m0,m1,m2,m3,m4,m5,m6,m7,m8⟩,_⟩:=HMX.out.call hSw;go_simp;try with_reducible rfl
       try simp only[Act.put,zq1,zq2,zq3]
       refine Ord.stepR (v:=?_) (by rfl) ?_ ?_;rotate_left
       ·intro w' hSw;have hk1:=(hSw.cell (p:=⟨b,off+j,none⟩) HL1.out).trans HC1.out;have hk2:=(hSw.cell (p:=⟨b2,off2+j*2,none⟩) HL2.out).trans HC2.out;have hk3:=(hSw.cell (p:=⟨b2,off2+j*2+1,none⟩) HL2.out).trans HC3.out;obtain⟨⟨m0,m1,m2,m3,m4,m5,m6,m7,m8⟩,_⟩:=HMX.out.call hSw;go_simp;try with_reducible rfl
       try simp only[Act.put,zq1,zq2,zq3]
       refine Ord.stepR (v:=?_) (by rfl) ?_ ?_;rotate_left
       ·intro w' hSw;have hk1:=(hSw.cell (p:=⟨b,off+j,none⟩) HL1.out).trans HC1.out;have hk2:=(hSw.cell (p:=⟨b2,off2+j*2,none⟩) HL2.out).trans HC2.out;have hk3:=(hSw.cell (p:=⟨b2,off2+j*2+1,none⟩) HL2.out).trans HC3.out;obtain⟨⟨m0,m1,m2,m3,m4,m5,m6,m7,m8⟩,_⟩:=HMX.out.call hSw;go_simp;try with_reducible rfl
       try simp only[Act.put,zq1,zq2,zq3]
       refine Ord.stepR (v:=?_) (by rfl) ?_ ?_;rotate_left
       ·intro w' hSw;have hk1:=(hSw.cell (p:=⟨b,off+j,none⟩) HL1.out).trans HC1.out;have hk2:=(hSw.cell (p:=⟨b2,off2+j*2,none⟩) HL2.out).trans HC2.out;have hk3:=(hSw.cell (p:=⟨b2,off2+j*2+1,none⟩) HL2.out).trans HC3.out;obtain⟨⟨m0,m1,m2,m3,m4,m5,m6,m7,m8⟩,_⟩:=HMX.out.call hSw;go_simp;try with_reducible rfl
       try simp only[Act.put,zq1,zq2,zq3]
       refine Ord.stepR (v:=?_) (by rfl) ?_ ?_;rotate_left
       ·intro w' hSw;have hk1:=(hSw.cell (p:=⟨b,off+j,none⟩) HL1.out).trans HC1.out;have hk2:=(hSw.cell (p:=⟨b2,off2+j*2,none⟩) HL2.out).trans HC2.out;have hk3:=(hSw.cell (p:=⟨b2,off2+j*2+1,none⟩) HL2.out).trans HC3.out;obtain⟨⟨m0,m1,m2,m3,m4,m5,m6,m7,m8⟩,_⟩:=HMX.out.call hSw;go_simp;try with_reducible rfl
       try simp only[Act.put,zq1,zq2,zq3]
       refine Ord.stepR (v:=?_) (by rfl) ?_ ?_;rotate_left
       ·intro w' hSw;have hk1:=(hSw.cell (p:=⟨b,off+j,none⟩) HL1.out).trans HC1.out;have hk2:=(hSw.cell (p:=⟨b2,off2+j*2,none⟩) HL2.out).trans HC2.out;have hk3:=(hSw.cell (p:=⟨b2,off2+j*2+1,none⟩) HL2.out).trans HC3.out;obtain⟨⟨m0,m1,m2,m3,m4,m5,m6,m7,m8⟩,_⟩:=HMX.out.call hSw;go_simp;try with_reducible rfl
       try simp only[Act.put,zq1,zq2,zq3]
       refine Ord.stepR (v:=?_) (by rfl) ?_ ?_;rotate_left
       ·intro w' hSw;have hk1:=(hSw.cell (p:=⟨b,off+j,none⟩) HL1.out).trans HC1.out;have hk2:=(hSw.cell (p:=⟨b2,off2+j*2,none⟩) HL2.out).trans HC2.out;have hk3:=(hSw.cell (p:=⟨b2,off2+j*2+1,none⟩) HL2.out).trans HC3.out;obtain⟨⟨m0,m1,m2,m3,m4,m5,m6,m7,m8⟩,_⟩:=HMX.out.call hSw;go_simp;try with_reducible rfl
       try simp only[Act.put,zq1,zq2,zq3]
       refine Ord.stepC (v:=.int .u8 ((98:Nat):Int)) (by rfl) ?_ (fun w1 hS=>(HKX.out w1).mono fun e w2 h=>⟨h.1,hS.trans (h.2.mono hS.size)⟩) ?_
       ·intro w' hSw;go_simp;try with_reducible rfl
       try simp only[Act.put,zq1,zq2,zq3]
       refine Ord.stepR (v:=?_) (by rfl) ?_ ?_;rotate_left
       ·intro w' hSw;have hk1:=(hSw.cell (p:=⟨b,off+j,none⟩) HL1.out).trans HC1.out;have hk2:=(hSw.cell (p:=⟨b2,off2+j*2,none⟩) HL2.out).trans HC2.out;have hk3:=(hSw.cell (p:=⟨b2,off2+j*2+1,none⟩) HL2.out).trans HC3.out;obtain⟨⟨m0,m1,m2,m3,m4,m5,m6,m7,m8⟩,_⟩:=HMX.out.call hSw;go_simp;try with_reducible rfl
       try simp only[Act.put,zq1,zq2,zq3]
       refine Ord.stepR (v:=?_) (by rfl) ?_ ?_;rotate_left
       ·intro w' hSw;have hk1:=(hSw.cell (p:=⟨b,off+j,none⟩) HL1.out).trans HC1.out;have hk2:=(hSw.cell (p:=⟨b2,off2+j*2,none⟩) HL2.out).trans HC2.out;have hk3:=(hSw.cell (p:=⟨b2,off2+j*2+1,none⟩) HL2.out).trans HC3.out;obtain⟨⟨m0,m1,m2,m3,m4,m5,m6,m7,m8⟩,_⟩:=HMX.out.call hSw;go_simp;try with_reducible rfl
       try simp only[Act.put,zq1,zq2,zq3]
       refine Ord.stepD ?_;rintro w9 hS9;have HB9:=zh (Bel.call HBJ.out hS9);have HBZ:=zh (Bel.call HB.out hS9);clear hS9;go_wp2;go_roundw;case rel=>exact⟨j+1,by omega,by go_num,zh (HKT.out.2 ⟨HKJ.out,hu,HKK.out⟩),HB9⟩
       case measure=>simp[intOf];omega
      ·obtain rfl:bb=false:=HNO2.out fun h=>hk98 (HKK.out.symm.trans (HKT.out.1 h).2.2)
       have q2:((kx:Int)==98)=false:=by simpa using(show ¬(kx:Int)=98 by omega)
       refine Ord.region_lit (S:=fun w'=>Below wr.heap.size wr w') (by kernel_rfl) (by kernel_rfl) hdr ?_;clear hdr;refine Ord.stepR (v:=?_) (by rfl) ?_ ?_;rotate_left
       ·intro w' hSw;have hk1:=(hSw.cell (p:=⟨b,off+j,none⟩) HL1.out).trans HC1.out;have hk2:=(hSw.cell (p:=⟨b2,off2+j*2,none⟩) HL2.out).trans HC2.out;have hk3:=(hSw.cell (p:=⟨b2,off2+j*2+1,none⟩) HL2.out).trans HC3.out;obtain⟨⟨m0,m1,m2,m3,m4,m5,m6,m7,m8⟩,_⟩:=HMX.out.call hSw;go_simp;try with_reducible rfl
       try simp only[Act.put,zq1,zq2,zq3]
       refine Ord.stepR (v:=?_) (by rfl) ?_ ?_;rotate_left
       ·intro w' hSw;have hk1:=(hSw.cell (p:=⟨b,off+j,none⟩) HL1.out).trans HC1.out;have hk2:=(hSw.cell (p:=⟨b2,off2+j*2,none⟩) HL2.out).trans HC2.out;have hk3:=(hSw.cell (p:=⟨b2,off2+j*2+1,none⟩) HL2.out).trans HC3.out;obtain⟨⟨m0,m1,m2,m3,m4,m5,m6,m7,m8⟩,_⟩:=HMX.out.call hSw;go_simp;try with_reducible rfl
       try simp only[Act.put,zq1,zq2,zq3]
       refine Ord.stepR (v:=?_) (by rfl) ?_ ?_;rotate_left
       ·intro w' hSw;have hk1:=(hSw.cell (p:=⟨b,off+j,none⟩) HL1.out).trans HC1.out;have hk2:=(hSw.cell (p:=⟨b2,off2+j*2,none⟩) HL2.out).trans HC2.out;have hk3:=(hSw.cell (p:=⟨b2,off2+j*2+1,none⟩) HL2.out).trans HC3.out;obtain⟨⟨m0,m1,m2,m3,m4,m5,m6,m7,m8⟩,_⟩:=HMX.out.call hSw;go_simp;try with_reducible rfl
       try simp only[Act.put,zq1,zq2,zq3]
       refine Ord.stepR (v:=?_) (by rfl) ?_ ?_;rotate_left
       ·intro w' hSw;have hk1:=(hSw.cell (p:=⟨b,off+j,none⟩) HL1.out).trans HC1.out;have hk2:=(hSw.cell (p:=⟨b2,off2+j*2,none⟩) HL2.out).trans HC2.out;have hk3:=(hSw.cell (p:=⟨b2,off2+j*2+1,none⟩) HL2.out).trans HC3.out;obtain⟨⟨m0,m1,m2,m3,m4,m5,m6,m7,m8⟩,_⟩:=HMX.out.call hSw;go_simp;try with_reducible rfl
       try simp only[Act.put,zq1,zq2,zq3]
       refine Ord.stepR (v:=?_) (by rfl) ?_ ?_;rotate_left
       ·intro w' hSw;have hk1:=(hSw.cell (p:=⟨b,off+j,none⟩) HL1.out).trans HC1.out;have hk2:=(hSw.cell (p:=⟨b2,off2+j*2,none⟩) HL2.out).trans HC2.out;have hk3:=(hSw.cell (p:=⟨b2,off2+j*2+1,none⟩) HL2.out).trans HC3.out;obtain⟨⟨m0,m1,m2,m3,m4,m5,m6,m7,m8⟩,_⟩:=HMX.out.call hSw;go_simp;try with_reducible rfl
       try simp only[Act.put,zq1,zq2,zq3]
       refine Ord.stepR (v:=?_) (by rfl) ?_ ?_;rotate_left
       ·intro w' hSw;have hk1:=(hSw.cell (p:=⟨b,off+j,none⟩) HL1.out).trans HC1.out;have hk2:=(hSw.cell (p:=⟨b2,off2+j*2,none⟩) HL2.out).trans HC2.out;have hk3:=(hSw.cell (p:=⟨b2,off2+j*2+1,none⟩) HL2.out).trans HC3.out;obtain⟨⟨m0,m1,m2,m3,m4,m5,m6,m7,m8⟩,_⟩:=HMX.out.call hSw;go_simp;try with_reducible rfl
       try simp only[Act.put,zq1,zq2,zq3]
       refine Ord.stepR (v:=?_) (by rfl) ?_ ?_;rotate_left
       ·intro w' hSw;have hk1:=(hSw.cell (p:=⟨b,off+j,none⟩) HL1.out).trans HC1.out;have hk2:=(hSw.cell (p:=⟨b2,off2+j*2,none⟩) HL2.out).trans HC2.out;have hk3:=(hSw.cell (p:=⟨b2,off2+j*2+1,none⟩) HL2.out).trans HC3.out;obtain⟨⟨m0,m1,m2,m3,m4,m5,m6,m7,m8⟩,_⟩:=HMX.out.call hSw;go_simp;try with_reducible rfl
       try simp only[Act.put,zq1,zq2,zq3]
       refine Ord.stepR (v:=?_) (by rfl) ?_ ?_;rotate_left
       ·intro w' hSw;have hk1:=(hSw.cell (p:=⟨b,off+j,none⟩) HL1.out).trans HC1.out;have hk2:=(hSw.cell (p:=⟨b2,off2+j*2,none⟩) HL2.out).trans HC2.out;have hk3:=(hSw.cell (p:=⟨b2,off2+j*2+1,none⟩) HL2.out).trans HC3.out;obtain⟨⟨m0,m1,m2,m3,m4,m5,m6,m7,m8⟩,_⟩:=HMX.out.call hSw;go_simp;try with_reducible rfl
       try simp only[Act.put,zq1,zq2,zq3]
       refine Ord.stepR (v:=?_) (by rfl) ?_ ?_;rotate_left
       ·intro w' hSw;have hk1:=(hSw.cell (p:=⟨b,off+j,none⟩) HL1.out).trans HC1.out;have hk2:=(hSw.cell (p:=⟨b2,off2+j*2,none⟩) HL2.out).trans HC2.out;have hk3:=(hSw.cell (p:=⟨b2,off2+j*2+1,none⟩) HL2.out).trans HC3.out;obtain⟨⟨m0,m1,m2,m3,m4,m5,m6,m7,m8⟩,_⟩:=HMX.out.call hSw;go_simp;try with_reducible rfl
       try simp only[Act.put,zq1,zq2,zq3]
       refine Ord.stepR (v:=?_) (by rfl) ?_ ?_;rotate_left
       ·intro w' hSw;have hk1:=(hSw.cell (p:=⟨b,off+j,none⟩) HL1.out).trans HC1.out;have hk2:=(hSw.cell (p:=⟨b2,off2+j*2,none⟩) HL2.out).trans HC2.out;have hk3:=(hSw.cell (p:=⟨b2,off2+j*2+1,none⟩) HL2.out).trans HC3.out;obtain⟨⟨m0,m1,m2,m3,m4,m5,m6,m7,m8⟩,_⟩:=HMX.out.call hSw;go_simp;try with_reducible rfl
       try simp only[Act.put,zq1,zq2,zq3]
       refine Ord.stepR (v:=?_) (by rfl) ?_ ?_;rotate_left
       ·intro w' hSw;have hk1:=(hSw.cell (p:=⟨b,off+j,none⟩) HL1.out).trans HC1.out;have hk2:=(hSw.cell (p:=⟨b2,off2+j*2,none⟩) HL2.out).trans HC2.out;have hk3:=(hSw.cell (p:=⟨b2,off2+j*2+1,none⟩) HL2.out).trans HC3.out;obtain⟨⟨m0,m1,m2,m3,m4,m5,m6,m7,m8⟩,_⟩:=HMX.out.call hSw;go_simp;try with_reducible rfl
       try simp only[Act.put,zq1,zq2,zq3]
       refine Ord.stepR (v:=?_) (by rfl) ?_ ?_;rotate_left
       ·intro w' hSw;have hk1:=(hSw.cell (p:=⟨b,off+j,none⟩) HL1.out).trans HC1.out;have hk2:=(hSw.cell (p:=⟨b2,off2+j*2,none⟩) HL2.out).trans HC2.out;have hk3:=(hSw.cell (p:=⟨b2,off2+j*2+1,none⟩) HL2.out).trans HC3.out;obtain⟨⟨m0,m1,m2,m3,m4,m5,m6,m7,m8⟩,_⟩:=HMX.out.call hSw;go_simp;try with_reducible rfl
       try simp only[Act.put,zq1,zq2,zq3]
       refine Ord.stepR (v:=?_) (by rfl) ?_ ?_;rotate_left
       ·intro w' hSw;have hk1:=(hSw.cell (p:=⟨b,off+j,none⟩) HL1.out).trans HC1.out;have hk2:=(hSw.cell (p:=⟨b2,off2+j*2,none⟩) HL2.out).trans HC2.out;have hk3:=(hSw.cell (p:=⟨b2,off2+j*2+1,none⟩) HL2.out).trans HC3.out;obtain⟨⟨m0,m1,m2,m3,m4,m5,m6,m7,m8⟩,_⟩:=HMX.out.call hSw;go_simp;try with_reducible rfl
       try simp only[Act.put,zq1,zq2,zq3]
       refine Ord.stepR (v:=?_) (by rfl) ?_ ?_;rotate_left
       ·intro w' hSw;have hk1:=(hSw.cell (p:=⟨b,off+j,none⟩) HL1.out).trans HC1.out;have hk2:=(hSw.cell (p:=⟨b2,off2+j*2,none⟩) HL2.out).trans HC2.out;have hk3:=(hSw.cell (p:=⟨b2,off2+j*2+1,none⟩) HL2.out).trans HC3.out;obtain⟨⟨m0,m1,m2,m3,m4,m5,m6,m7,m8⟩,_⟩:=HMX.out.call hSw;go_simp;try with_reducible rfl
       try simp only[Act.put,zq1,zq2,zq3]
       refine Ord.stepR (v:=?_) (by rfl) ?_ ?_;rotate_left
       ·intro w' hSw;have hk1:=(hSw.cell (p:=⟨b,off+j,none⟩) HL1.out).trans HC1.out;have hk2:=(hSw.cell (p:=⟨b2,off2+j*2,none⟩) HL2.out).trans HC2.out;have hk3:=(hSw.cell (p:=⟨b2,off2+j*2+1,none⟩) HL2.out).trans HC3.out;obtain⟨⟨m0,m1,m2,m3,m4,m5,m6,m7,m8⟩,_⟩:=HMX.out.call hSw;go_simp;try with_reducible rfl
       try simp only[Act.put,zq1,zq2,zq3]
       refine Ord.stepR (v:=?_) (by rfl) ?_ ?_;rotate_left
       ·intro w' hSw;have hk1:=(hSw.cell (p:=⟨b,off+j,none⟩) HL1.out).trans HC1.out;have hk2:=(hSw.cell (p:=⟨b2,off2+j*2,none⟩) HL2.out).trans HC2.out;have hk3:=(hSw.cell (p:=⟨b2,off2+j*2+1,none⟩) HL2.out).trans HC3.out;obtain⟨⟨m0,m1,m2,m3,m4,m5,m6,m7,m8⟩,_⟩:=HMX.out.call hSw;go_simp;try with_reducible rfl
       try simp only[Act.put,zq1,zq2,zq3]
       refine Ord.stepR (v:=?_) (by rfl) ?_ ?_;rotate_left
       ·intro w' hSw;have hk1:=(hSw.cell (p:=⟨b,off+j,none⟩) HL1.out).trans HC1.out;have hk2:=(hSw.cell (p:=⟨b2,off2+j*2,none⟩) HL2.out).trans HC2.out;have hk3:=(hSw.cell (p:=⟨b2,off2+j*2+1,none⟩) HL2.out).trans HC3.out;obtain⟨⟨m0,m1,m2,m3,m4,m5,m6,m7,m8⟩,_⟩:=HMX.out.call hSw;go_simp;try with_reducible rfl
       try simp only[Act.put,zq1,zq2,zq3]
       refine Ord.stepR (v:=?_) (by rfl) ?_ ?_;rotate_left
       ·intro w' hSw;have hk1:=(hSw.cell (p:=⟨b,off+j,none⟩) HL1.out).trans HC1.out;have hk2:=(hSw.cell (p:=⟨b2,off2+j*2,none⟩) HL2.out).trans HC2.out;have hk3:=(hSw.cell (p:=⟨b2,off2+j*2+1,none⟩) HL2.out).trans HC3.out;obtain⟨⟨m0,m1,m2,m3,m4,m5,m6,m7,m8⟩,_⟩:=HMX.out.call hSw;go_simp;try with_reducible rfl
       try simp only[Act.put,zq1,zq2,zq3]
       refine Ord.stepC (v:=.int .u8 (kx:Int)) (by rfl) ?_ (fun w1 hS=>(HKX.out w1).mono fun e w2 h=>⟨h.1,hS.trans (h.2.mono hS.size)⟩) ?_
       ·intro w' hSw;go_simp;try with_reducible rfl
       try simp only[Act.put,zq1,zq2,zq3]
       refine Ord.stepR (v:=?_) (by rfl) ?_ ?_;rotate_left
       ·intro w' hSw;have hk1:=(hSw.cell (p:=⟨b,off+j,none⟩) HL1.out).trans HC1.out;have hk2:=(hSw.cell (p:=⟨b2,off2+j*2,none⟩) HL2.out).trans HC2.out;have hk3:=(hSw.cell (p:=⟨b2,off2+j*2+1,none⟩) HL2.out).trans HC3.out;obtain⟨⟨m0,m1,m2,m3,m4,m5,m6,m7,m8⟩,_⟩:=HMX.out.call hSw;go_simp;try with_reducible rfl
       try simp only[Act.put,zq1,zq2,zq3]
       refine Ord.stepR (v:=?_) (by rfl) ?_ ?_;rotate_left
       ·intro w' hSw;have hk1:=(hSw.cell (p:=⟨b,off+j,none⟩) HL1.out).trans HC1.out;have hk2:=(hSw.cell (p:=⟨b2,off2+j*2,none⟩) HL2.out).trans HC2.out;have hk3:=(hSw.cell (p:=⟨b2,off2+j*2+1,none⟩) HL2.out).trans HC3.out;obtain⟨⟨m0,m1,m2,m3,m4,m5,m6,m7,m8⟩,_⟩:=HMX.out.call hSw;go_simp;try with_reducible rfl
       try simp only[Act.put,zq1,zq2,zq3]
       refine Ord.stepD ?_;rintro w9 hS9;have HB9:=zh (Bel.call HBJ.out hS9);have HBZ:=zh (Bel.call HB.out hS9);clear hS9;go_wp2;go_ret;exact⟨rfl,HBZ.out⟩
     ·have q:=s_ne hu
      obtain rfl:bb=false:=HNO2.out fun h=>hu (HKT.out.1 h).2.1
      refine Ord.region_lit (S:=fun w'=>Below wr.heap.size wr w') (by kernel_rfl) (by kernel_rfl) hdr ?_;clear hdr;refine Ord.stepR (v:=?_) (by rfl) ?_ ?_;rotate_left
      ·intro w' hSw;have hk1:=(hSw.cell (p:=⟨b,off+j,none⟩) HL1.out).trans HC1.out;have hk2:=(hSw.cell (p:=⟨b2,off2+j*2,none⟩) HL2.out).trans HC2.out;have hk3:=(hSw.cell (p:=⟨b2,off2+j*2+1,none⟩) HL2.out).trans HC3.out;obtain⟨⟨m0,m1,m2,m3,m4,m5,m6,m7,m8⟩,_⟩:=HMX.out.call hSw;go_simp;try with_reducible rfl
      try simp only[Act.put,zq1,zq2,zq3]
      refine Ord.stepR (v:=?_) (by rfl) ?_ ?_;rotate_left
      ·intro w' hSw;have hk1:=(hSw.cell (p:=⟨b,off+j,none⟩) HL1.out).trans HC1.out;have hk2:=(hSw.cell (p:=⟨b2,off2+j*2,none⟩) HL2.out).trans HC2.out;have hk3:=(hSw.cell (p:=⟨b2,off2+j*2+1,none⟩) HL2.out).trans HC3.out;obtain⟨⟨m0,m1,m2,m3,m4,m5,m6,m7,m8⟩,_⟩:=HMX.out.call hSw;go_simp;try with_reducible rfl
      try simp only[Act.put,zq1,zq2,zq3]
      refine Ord.stepR (v:=?_) (by rfl) ?_ ?_;rotate_left
      ·intro w' hSw;have hk1:=(hSw.cell (p:=⟨b,off+j,none⟩) HL1.out).trans HC1.out;have hk2:=(hSw.cell (p:=⟨b2,off2+j*2,none⟩) HL2.out).trans HC2.out;have hk3:=(hSw.cell (p:=⟨b2,off2+j*2+1,none⟩) HL2.out).trans HC3.out;obtain⟨⟨m0,m1,m2,m3,m4,m5,m6,m7,m8⟩,_⟩:=HMX.out.call hSw;go_simp;try with_reducible rfl
      try simp only[Act.put,zq1,zq2,zq3]
      refine Ord.stepR (v:=?_) (by rfl) ?_ ?_;rotate_left
      ·intro w' hSw;have hk1:=(hSw.cell (p:=⟨b,off+j,none⟩) HL1.out).trans HC1.out;have hk2:=(hSw.cell (p:=⟨b2,off2+j*2,none⟩) HL2.out).trans HC2.out;have hk3:=(hSw.cell (p:=⟨b2,off2+j*2+1,none⟩) HL2.out).trans HC3.out;obtain⟨⟨m0,m1,m2,m3,m4,m5,m6,m7,m8⟩,_⟩:=HMX.out.call hSw;go_simp;try with_reducible rfl
      try simp only[Act.put,zq1,zq2,zq3]
      refine Ord.stepR (v:=?_) (by rfl) ?_ ?_;rotate_left
      ·intro w' hSw;have hk1:=(hSw.cell (p:=⟨b,off+j,none⟩) HL1.out).trans HC1.out;have hk2:=(hSw.cell (p:=⟨b2,off2+j*2,none⟩) HL2.out).trans HC2.out;have hk3:=(hSw.cell (p:=⟨b2,off2+j*2+1,none⟩) HL2.out).trans HC3.out;obtain⟨⟨m0,m1,m2,m3,m4,m5,m6,m7,m8⟩,_⟩:=HMX.out.call hSw;go_simp;try with_reducible rfl
      try simp only[Act.put,zq1,zq2,zq3]
      refine Ord.stepR (v:=?_) (by rfl) ?_ ?_;rotate_left
      ·intro w' hSw;have hk1:=(hSw.cell (p:=⟨b,off+j,none⟩) HL1.out).trans HC1.out;have hk2:=(hSw.cell (p:=⟨b2,off2+j*2,none⟩) HL2.out).trans HC2.out;have hk3:=(hSw.cell (p:=⟨b2,off2+j*2+1,none⟩) HL2.out).trans HC3.out;obtain⟨⟨m0,m1,m2,m3,m4,m5,m6,m7,m8⟩,_⟩:=HMX.out.call hSw;go_simp;try with_reducible rfl
      try simp only[Act.put,zq1,zq2,zq3]
      refine Ord.stepR (v:=?_) (by rfl) ?_ ?_;rotate_left
      ·intro w' hSw;have hk1:=(hSw.cell (p:=⟨b,off+j,none⟩) HL1.out).trans HC1.out;have hk2:=(hSw.cell (p:=⟨b2,off2+j*2,none⟩) HL2.out).trans HC2.out;have hk3:=(hSw.cell (p:=⟨b2,off2+j*2+1,none⟩) HL2.out).trans HC3.out;obtain⟨⟨m0,m1,m2,m3,m4,m5,m6,m7,m8⟩,_⟩:=HMX.out.call hSw;go_simp;try with_reducible rfl
      try simp only[Act.put,zq1,zq2,zq3]
      refine Ord.stepR (v:=?_) (by rfl) ?_ ?_;rotate_left
      ·intro w' hSw;have hk1:=(hSw.cell (p:=⟨b,off+j,none⟩) HL1.out).trans HC1.out;have hk2:=(hSw.cell (p:=⟨b2,off2+j*2,none⟩) HL2.out).trans HC2.out;have hk3:=(hSw.cell (p:=⟨b2,off2+j*2+1,none⟩) HL2.out).trans HC3.out;obtain⟨⟨m0,m1,m2,m3,m4,m5,m6,m7,m8⟩,_⟩:=HMX.out.call hSw;go_simp;try with_reducible rfl
      try simp only[Act.put,zq1,zq2,zq3]
      refine Ord.stepR (v:=?_) (by rfl) ?_ ?_;rotate_left
      ·intro w' hSw;have hk1:=(hSw.cell (p:=⟨b,off+j,none⟩) HL1.out).trans HC1.out;have hk2:=(hSw.cell (p:=⟨b2,off2+j*2,none⟩) HL2.out).trans HC2.out;have hk3:=(hSw.cell (p:=⟨b2,off2+j*2+1,none⟩) HL2.out).trans HC3.out;obtain⟨⟨m0,m1,m2,m3,m4,m5,m6,m7,m8⟩,_⟩:=HMX.out.call hSw;go_simp;try with_reducible rfl
      try simp only[Act.put,zq1,zq2,zq3]
      refine Ord.stepR (v:=?_) (by rfl) ?_ ?_;rotate_left
      ·intro w' hSw;have hk1:=(hSw.cell (p:=⟨b,off+j,none⟩) HL1.out).trans HC1.out;have hk2:=(hSw.cell (p:=⟨b2,off2+j*2,none⟩) HL2.out).trans HC2.out;have hk3:=(hSw.cell (p:=⟨b2,off2+j*2+1,none⟩) HL2.out).trans HC3.out;obtain⟨⟨m0,m1,m2,m3,m4,m5,m6,m7,m8⟩,_⟩:=HMX.out.call hSw;go_simp;try with_reducible rfl
      try simp only[Act.put,zq1,zq2,zq3]
      refine Ord.stepR (v:=?_) (by rfl) ?_ ?_;rotate_left
      ·intro w' hSw;have hk1:=(hSw.cell (p:=⟨b,off+j,none⟩) HL1.out).trans HC1.out;have hk2:=(hSw.cell (p:=⟨b2,off2+j*2,none⟩) HL2.out).trans HC2.out;have hk3:=(hSw.cell (p:=⟨b2,off2+j*2+1,none⟩) HL2.out).trans HC3.out;obtain⟨⟨m0,m1,m2,m3,m4,m5,m6,m7,m8⟩,_⟩:=HMX.out.call hSw;go_simp;try with_reducible rfl
      try simp only[Act.put,zq1,zq2,zq3]
      refine Ord.stepR (v:=?_) (by rfl) ?_ ?_;rotate_left
      ·intro w' hSw;have hk1:=(hSw.cell (p:=⟨b,off+j,none⟩) HL1.out).trans HC1.out;have hk2:=(hSw.cell (p:=⟨b2,off2+j*2,none⟩) HL2.out).trans HC2.out;have hk3:=(hSw.cell (p:=⟨b2,off2+j*2+1,none⟩) HL2.out).trans HC3.out;obtain⟨⟨m0,m1,m2,m3,m4,m5,m6,m7,m8⟩,_⟩:=HMX.out.call hSw;go_simp;try with_reducible rfl
      try simp only[Act.put,zq1,zq2,zq3]
      refine Ord.stepS (by rfl) ?_;try simp only[Act.put,zq1,zq2,zq3]
      refine Ord.stepS (by rfl) ?_;try simp only[Act.put,zq1,zq2,zq3]
      refine Ord.stepS (by rfl) ?_;try simp only[Act.put,zq1,zq2,zq3]
      refine Ord.stepS (by rfl) ?_;try simp only[Act.put,zq1,zq2,zq3]
      refine Ord.stepS (by rfl) ?_;try simp only[Act.put,zq1,zq2,zq3]
      refine Ord.stepS (by rfl) ?_;try simp only[Act.put,zq1,zq2,zq3]
      refine Ord.stepS (by rfl) ?_;try simp only[Act.put,zq1,zq2,zq3]
      refine Ord.stepS (by rfl) ?_;try simp only[Act.put,zq1,zq2,zq3]
      refine Ord.stepR (v:=?_) (by rfl) ?_ ?_;rotate_left
      ·intro w' hSw;have hk1:=(hSw.cell (p:=⟨b,off+j,none⟩) HL1.out).trans HC1.out;have hk2:=(hSw.cell (p:=⟨b2,off2+j*2,none⟩) HL2.out).trans HC2.out;have hk3:=(hSw.cell (p:=⟨b2,off2+j*2+1,none⟩) HL2.out).trans HC3.out;obtain⟨⟨m0,m1,m2,m3,m4,m5,m6,m7,m8⟩,_⟩:=HMX.out.call hSw;go_simp;try with_reducible rfl
      try simp only[Act.put,zq1,zq2,zq3]
      refine Ord.stepD ?_;rintro w9 hS9;have HB9:=zh (Bel.call HBJ.out hS9);have HBZ:=zh (Bel.call HB.out hS9);clear hS9;go_wp2;go_ret;exact⟨rfl,HBZ.out⟩
    ·obtain rfl:bb=true:=HYES.out ⟨HRR.out,by simp only[bl_len];exact HLEN.out,HKD.out,HVF.out,by
      have h:=HKJ.out.1;rw[show j=ys.length by omega,bl_take_all,List.take_of_length_le (by rw[pl_len,HLK.out];exact Nat.le_refl _),HYS.out]at h;exact h,by
      have h:=HKJ.out.2;rw[show j=ys.length by omega,List.take_of_length_le (by rw[pl_len,HLK.out];exact Nat.le_refl _)]at h
      exact h⟩
     go_wp2;go_ret;exact⟨rfl,HB.out⟩
end Go.Proofs.YtmihiknebelkbaaGreat.Mta
