/-
  MCBody. By an AI agent.
-/
import Derived.Test.YtmihiknebelkbaaGreatOZ
import Derived.Test.YtmihiknebelkbaaGreatOMBody
import Derived.Test.YtmihiknebelkbaaGreatOC1
set_option linter.unusedSimpArgs false
set_option linter.unusedVariables false
set_option maxHeartbeats 8000000
namespace Go.Proofs.YtmihiknebelkbaaGreat.Mta
open Go.RowKit Wire Term Rig
def Rw (g n:Nat) (ys:List ByteArray) (w:World):Prop:=g<w.heap.size∧(∀j<ys.length,w.cell? ⟨g,j,none⟩=some (.string (ys.getD j ByteArray.empty)))∧(∀j<n,∃v,w.cell? ⟨g,j,none⟩=some v)∧∀j,w.frozen? ⟨g,j,none⟩=false
theorem Rw.below {g n:Nat} {ys:List ByteArray} {w w':World} (h:Rw g n ys w) (hb:Below w.heap.size w w'):Rw g n ys w':=
 ⟨Nat.lt_of_lt_of_le h.1 hb.size,fun j hj=>(hb.cell (p:=⟨g,j,none⟩) h.1).trans (h.2.1 j hj),fun j hj=>by obtain⟨v,hv⟩:=h.2.2.1 j hj;exact⟨v,(hb.cell (p:=⟨g,j,none⟩) h.1).trans hv⟩,fun j=>(hb.frozen (p:=⟨g,j,none⟩) h.1).trans (h.2.2.2 j)⟩
theorem rw_made (w:World) (cs:Array Value) (t:TypeId) (n:Nat) (hn:cs.size=n):Rw w.heap.size n [] (w.alloc (.cells cs t)):=by
 have h:∀j,(w.alloc (.cells cs t)).cell? ⟨w.heap.size,j,none⟩=cs[j]?:=fun j=>cell_of_row _ _ _ _ _ (0,0) (heap_alloc_new w _)
 exact⟨by simp,fun j hj=>by simp at hj,fun j hj=>⟨cs[j]'(by omega),by rw[h,Array.getElem?_eq_getElem]⟩,fun j=>by
  unfold World.frozen?;rw[heap_alloc_new]
  simp⟩
theorem rw_set {g n k:Nat} {ys:List ByteArray} {w:World} (h:Rw g n ys w) (hk:ys.length=k) (hn:k<n) (T:ByteArray):Rw g n (ys++[T]) (w.setCell ⟨g,k,none⟩ (.string T)):=by
 obtain⟨h1,h2,h3,h4⟩:=h;have hs:∀j,j≠k→(w.setCell ⟨g,k,none⟩ (.string T)).cell? ⟨g,j,none⟩=w.cell? ⟨g,j,none⟩:=fun j hj=>World.cell?_setCell_other w _ _ _ (fun e=>by injection e with _ e _;exact hj e.symm)
 obtain⟨v,hv⟩:=h3 k hn;have hk2:(w.setCell ⟨g,k,none⟩ (.string T)).cell? ⟨g,k,none⟩=some (.string T):=World.cell?_setCell_same w _ _ hv;refine⟨by simpa[World.setCell]using h1,fun j hj=>?_,fun j hj=>?_,fun j=>by simpa using h4 j⟩
 ·by_cases e:j=k
  ·subst e;rw[hk2];simp[List.getD,←hk]
  ·rw[hs j e,h2 j (by simp at hj;omega)]
   simp[List.getD,List.getElem?_append,show j<ys.length by simp at hj;omega]
 ·by_cases e:j=k
  ·subst e;exact⟨_,hk2⟩
  ·rw[hs j e];exact h3 j hj
theorem rw_reads {g n:Nat} {ys:List ByteArray} {w:World} (h:Rw g n ys w):SReads w (some ⟨g,0,none⟩) ys:=fun j hj=>⟨g,0,rfl,h.1,by rw[Nat.zero_add];exact h.2.1 j hj⟩
theorem make_strN (c:Nat) (hc:c≤2000000):∃cs:Array Value,cs.size=c ∧
 ∀W:World,(Instr.makeSlice 22 (.int .i64 (c:Int)) (.int .i64 (c:Int))).run Tryz.prog W = .ok (.slice (some ⟨W.heap.size,0,none⟩) c c) (W.alloc (.cells cs 9)):=by
 obtain⟨i0,hi0,hz0,hz1,hz2⟩:=info_parts str_info;refine⟨madeCells (Value.string ⟨#[]⟩).cells ((c:Int).toNat*1),by simp[size_madeCells],fun W=>?_⟩;have h:=run_make (P:=Tryz.prog) W 22 9 i0 _ Tryz.underlying22 hi0 hz0 .i64 .i64 c c (by omega) (by omega) (by rw[hz2];omega) (by omega);rw[hz1]at h;simpa using h
set_option maxRecDepth 1000000 in
theorem cbody_any (o f sig:ByteArray) (ep:Int) (A:Option Addr) (c:Nat) (rs:List ByteArray) (B:Option Addr) (d:Nat) (ws:List ByteArray) (ver:Nat) (V:Option Addr) (cv:Nat) (vs:List ByteArray) (K:Option Addr) (ck:Nat) (ks:List (ByteArray×ByteArray)) (w:World) (hA:SReads w A rs) (hB:SReads w B ws) (hV:SReads w V vs) (hK:PReads w K ks) (hf:FewM ⟨⟨o.data.toList,f.data.toList,ep,bl rs,bl ws⟩,ver,bl vs,pl ks,sig.data.toList⟩) (hr:RR ⟨o.data.toList,f.data.toList,ep,bl rs,bl ws⟩):
 Calls Tryz.prog 41 #[.agg #[.string o,.string f,.int .i64 ep,.slice A rs.length c,.slice B ws.length d,.int .u64 (ver:Int),.slice V vs.length cv,.slice K ks.length ck,.string sig]] w fun e w'=>St (bodyB ⟨⟨o.data.toList,f.data.toList,ep,bl rs,bl ws⟩,ver,bl vs,pl ks,sig.data.toList⟩) e∧Below w.heap.size w w':=by
 obtain⟨hf1,hf2,hf3,hf4,hf5,hf6,hf7⟩:=hf;simp only at hf1 hf2 hf3 hf4 hf5 hf6 hf7;rw[bl_len]at hf2;rw[pl_len]at hf3;have hrow:=row_small hr;have hvl:=putAll_most (k:=1100000) (n:=40) (by omega) (l:=bl vs) (by rw[bl_len];exact hf2) (by omega) hf4
 have hkl:=putAll_most (k:=2300000) (n:=40) (by omega) (l:=(pl ks).map fun b=>putAll [b.1,b.2]) (by rw[List.length_map,pl_len];exact hf3) (by omega) fun t ht=>by
  obtain⟨b,hb,rfl⟩:=List.mem_map.1 ht
  have h:=putAll_most (k:=1100000) (n:=2) (by omega) (l:=[b.1,b.2]) (by simp) (by omega) fun t ht=>by
   have h5:=hf5 b hb;have:t=b.1∨t=b.2:=by simpa using ht
   rcases this with rfl|rfl<;>omega
  omega
 have hvf:=flat_k _ hf4;rw[bl_len]at hvf;have hvn:=Nat.mul_le_mul_right 1100000 hf2;have hpl:=(put_le hf7).2;have HA:=zh hA;have HBB:=zh hB;have HV:=zh hV;have HK:=zh hK;have HPT:=zh fun w h1 h2=>put_code o f ep A c rs B d ws w h1 h2 hf1
 rw[show putR ⟨o.data.toList,f.data.toList,ep,bl rs,bl ws⟩=(rowR ⟨o.data.toList,f.data.toList,ep,bl rs,bl ws⟩,0)by unfold putR;rw[if_pos hr]]at HPT;unfold RV Srt at HPT;simp only at HPT;have HPV:=zh fun w=>Wire.put_any ver w hf7
 have HL1:=zh fun w h=>Wire.putAll_any V cv vs w h (by omega) (by omega)
 have HPP:Hid (∀(u x:ByteArray) (g:Nat) (w:World),u.data.toList.length≤1100000→x.data.toList.length≤1100000→SReads w (some ⟨g,0,none⟩) [u,x]→Calls Tryz.prog 21 #[.slice (some ⟨g,0,none⟩) 2 2] w fun e w'=>St (putAll [u.data.toList,x.data.toList]) e∧Below w.heap.size w w'):=fun u x g w h1 h2 hr=>
  Wire.putAll_any (some ⟨g,0,none⟩) 2 [u,x] w hr (by simp) (by simp[bl]at *;omega)
 have HL3:Hid (∀(a:Option Addr) (n cap:Nat) (ys:List ByteArray) (w:World),n=ys.length→ys.length≤40→bl ys=(pl ks).map (fun b=>putAll [b.1,b.2])→SReads w a ys→Calls Tryz.prog 21 #[.slice a n cap] w fun e w'=>St (putAll ((pl ks).map fun b=>putAll [b.1,b.2])) e∧Below w.heap.size w w'):=fun a n cap ys w hn hl he hr=>by
  have h:=Wire.putAll_any a cap ys w hr (by omega) (by
   rw[he]
   have h:=flat_k (k:=2300000) ((pl ks).map fun b=>putAll [b.1,b.2]) fun t ht=>by
    obtain⟨b,hb,rfl⟩:=List.mem_map.1 ht
    have h:=putAll_most (k:=1100000) (n:=2) (by omega) (l:=[b.1,b.2]) (by simp) (by omega) fun t ht=>by
     have h5:=hf5 b hb;have:t=b.1∨t=b.2:=by simpa using ht
     rcases this with rfl|rfl<;>omega
    omega
   rw[List.length_map,pl_len]at h;have:=Nat.mul_le_mul_right 2300000 hf3
   omega)
  rw[he,←hn]at h;exact h
 have HL4:Hid (∀(P P1 P2 P3:ByteArray) (g:Nat) (w:World),P.data.toList=rowR ⟨o.data.toList,f.data.toList,ep,bl rs,bl ws⟩→P1.data.toList=put ver→P2.data.toList=putAll (bl vs)→P3.data.toList=putAll ((pl ks).map fun b=>putAll [b.1,b.2])→SReads w (some ⟨g,0,none⟩) [P,P1,P2,P3]→Calls Tryz.prog 21 #[.slice (some ⟨g,0,none⟩) 4 4] w fun e w'=>St (bodyB ⟨⟨o.data.toList,f.data.toList,ep,bl rs,bl ws⟩,ver,bl vs,pl ks,sig.data.toList⟩) e∧Below w.heap.size w w'):=fun P P1 P2 P3 g w e0 e1 e2 e3 hr=>by
  have eb:bl [P,P1,P2,P3] = [rowR ⟨o.data.toList,f.data.toList,ep,bl rs,bl ws⟩,put ver,putAll (bl vs),putAll ((pl ks).map fun b=>putAll [b.1,b.2])]:=by
   show[P.data.toList,P1.data.toList,P2.data.toList,P3.data.toList]=_
   rw[e0,e1,e2,e3]
  have h:=Wire.putAll_any (some ⟨g,0,none⟩) 4 [P,P1,P2,P3] w hr (by simp) (by
   rw[eb];simp only[List.flatten_cons,List.flatten_nil,List.length_append,List.length_nil]
   omega)
  rw[eb]at h;exact h
 have HF5:Hid (∀k (_:k<ks.length),(ks.getD k default).1.data.toList.length≤1100000∧(ks.getD k default).2.data.toList.length≤1100000):=fun k hk=>hf5 _ (List.mem_of_getElem? (pl_at hk))
 clear hA hB hV hK hf1 hf4 hf5 hf6 hf7 hrow hvl hkl hvf hvn hpl hr;obtain⟨cs,hcs,hmk⟩:=make_strN ks.length (by omega);have HCS:=zh hcs;clear hcs;go_enter Tryz.func41,Tryz.ntmps41;go_wp2_with fail;have hmx:=mx_alloc w o f ep A rs.length c B ws.length d ver V vs.length cv K ks.length ck sig 28;have hb0:=al w (.cells #[.string o,.string f,.int .i64 ep,.slice A rs.length c,.slice B ws.length d,.int .u64 (ver:Int),.slice V vs.length cv,.slice K ks.length ck,.string sig] 28);have HB:=zh hb0;have HMX:=zh hmx;clear hmx hb0;obtain⟨g,hg⟩:∃g,w.heap.size=g:=⟨_,rfl⟩
 generalize w.alloc (.cells #[.string o,.string f,.int .i64 ep,.slice A rs.length c,.slice B ws.length d,.int .u64 (ver:Int),.slice V vs.length cv,.slice K ks.length ck,.string sig] 28)=w1 at HB HMX⊢;rw[hg]at HMX⊢;clear hg;with_reducible refine(HPT.out _ (HA.out.below HB.out zl) (HBB.out.below HB.out zl)).mono ?_
 rintro e w2 ⟨⟨P,hP,rfl⟩,hb2⟩;have HB2:=zh (Bel.call HB.out hb2);replace HMX:=zh (HMX.out.call hb2);clear hb2 HB;have HP:=zh hP;clear hP;dsimp only;obtain⟨⟨m0,m1,m2,m3,m4,m5,m6,m7,m8⟩,_⟩:=HMX.out;have hmk2:=hmk w2;clear hmk;go_wp2_with fail;clear m0 m1 m2 m3 m4 m5 m6 m7 m8 hmk2;have HR0:=zh (rw_made w2 cs 9 ks.length HCS.out);have HBL0:=zh (al w2 (.cells cs 9));obtain⟨g2,hg2⟩:∃n,w2.heap.size=n:=⟨_,rfl⟩
 have HG2:=zh hg2;rw[hg2]at HR0⊢;clear hg2;go_loopw [21] (fun i wr=>∃(k:Nat) (ys:List ByteArray),k≤ks.length∧i = .int .i64 (k:Int)∧Hid (Rw g2 ks.length ys wr)∧ys.length=k∧Hid (bl ys=((pl ks).take k).map (fun b=>putAll [b.1,b.2]))∧Hid (Below w2.heap.size w2 wr)) (fun i _=>ks.length-(intOf i).toNat);case atStart=>exact⟨0,[],Nat.zero_le _,rfl,HR0,rfl,zh rfl,HBL0⟩
 case round=>
  obtain⟨k,ys,hk,rfl,HRW,hyl,HYB,HBJ⟩:=hrel;clear HR0 HBL0;by_cases hlt:(k:Int)<(ks.length:Int)
  ·obtain⟨b2,off2,rfl,hbl2,hcl2,hcl3⟩:=(HK.out.below (Bel.call HB2.out HBJ.out) zl) k (by omega)
   have hkk:k<ks.length:=by omega
   obtain⟨h51,h52⟩:=HF5.out k hkk;have hpg:=pl_get hkk;obtain⟨u,x,hux⟩:∃u x,ks.getD k default=(u,x):=⟨_,_,rfl⟩
   rw[hux]at hcl2 hcl3 h51 h52 hpg;simp only at hcl2 hcl3 h51 h52 hpg;have HPG:=zh hpg;clear hux hpg hbl2;have hb1:=al wr (.cells #[.string u,.string x] 55);have hb2:=al (wr.alloc (.cells #[.string u,.string x] 55)) (.cells #[.string u,.string x] 9);have hb3:=Bel.call hb1 hb2;have HPC:=zh (HPP.out u x _ _ h51 h52 (lit2_reads8 (wr.alloc (.cells #[.string u,.string x] 55)) u x _ rfl));have hsz1:(wr.alloc (.cells #[.string u,.string x] 55)).heap.size=wr.heap.size+1:=by simp
   rw[hsz1]at HPC;have HB3:=zh hb3;clear hb1 hb2 hb3 hsz1 h51 h52;have i0:(0:Int)≤(k:Int):=by omega
   go_wp2_with fail;with_reducible refine HPC.out.mono ?_
   rintro e w5 ⟨⟨T,hT,rfl⟩,hb5⟩;have hb6:=Bel.call HB3.out hb5;have HB5:=zh (Bel.call HBJ.out hb6);have HR5:=zh (HRW.out.below hb6);have HT:=zh hT;clear hb5 hb6 hT HPC HB3 hcl2 hcl3;dsimp only;obtain⟨v0,hv0⟩:=HR5.out.2.2.1 k hkk;have hf0:=HR5.out.2.2.2 k;go_wp2;clear hv0 hf0;have HR6:=zh (rw_set HR5.out hyl hkk T);have HB6:Hid (Below w2.heap.size w2 (w5.setCell ⟨g2,k,none⟩ (.string T))):=zh (HB5.out.setCell (by rw[HG2.out];exact Nat.le_refl _) _);go_roundw;case rel=>exact⟨k+1,ys++[T],by omega,by go_num,HR6,by rw[List.length_append,hyl];rfl,zh (by rw[Rig.bl_app,HYB.out,HPG.out,List.map_append,List.map_cons,List.map_nil,←HT.out];rfl),HB6⟩
   case measure=>simp[intOf];omega
  ·have hyk:ks.length=ys.length:=by omega
   have hyall:bl ys=(pl ks).map (fun b=>putAll [b.1,b.2]):=by
    rw[HYB.out,List.take_of_length_le (by rw[pl_len];omega)]
   have HYS:=zh (rw_reads HRW.out);have HYA:=zh hyall;have HYK:=zh hyk;have hy40:ys.length≤40:=by omega
   clear hyall hyk hyl;go_wp2_with fail;have ha0:Below wr.heap.size wr wr.drew:=Below.drewN' (Below.refl _ _) 1;have hs0:=Bel.call HBJ.out ha0;obtain⟨wd,hwd⟩:∃W,wr.drew=W:=⟨_,rfl⟩
   refine wp_region_held_drew (S:=fun w'=>Below w2.heap.size w2 w') (by kernel_rfl) hs0 (fun hHeld=>?_);rw[hwd]at hHeld ha0 hs0⊢;clear hwd;refine zqT 0 ?_ ?_ ?_;rotate_left
   ·intro w' hSw;obtain⟨⟨m0,m1,m2,m3,m4,m5,m6,m7,m8⟩,_⟩:=HMX.out.call hSw;go_simp;try with_reducible rfl
   try simp only[Act.put,zq1,zq2,zq3]
   refine zqT 1 ?_ ?_ ?_;rotate_left
   ·intro w' hSw;obtain⟨⟨m0,m1,m2,m3,m4,m5,m6,m7,m8⟩,_⟩:=HMX.out.call hSw;go_simp;try with_reducible rfl
   try simp only[Act.put,zq1,zq2,zq3]
   refine zqT 2 ?_ ?_ ?_;rotate_left
   ·intro w' hSw;obtain⟨⟨m0,m1,m2,m3,m4,m5,m6,m7,m8⟩,_⟩:=HMX.out.call hSw;go_simp;try with_reducible rfl
   try simp only[Act.put,zq1,zq2,zq3]
   refine zqT 4 ?_ ?_ ?_;rotate_left
   ·intro w' hSw;obtain⟨⟨m0,m1,m2,m3,m4,m5,m6,m7,m8⟩,_⟩:=HMX.out.call hSw;go_simp;try with_reducible rfl
   try simp only[Act.put,zq1,zq2,zq3]
   refine zqT 5 ?_ ?_ ?_;rotate_left
   ·intro w' hSw;obtain⟨⟨m0,m1,m2,m3,m4,m5,m6,m7,m8⟩,_⟩:=HMX.out.call hSw;go_simp;try with_reducible rfl
   try simp only[Act.put,zq1,zq2,zq3]
   refine zqT 7 ?_ ?_ ?_;rotate_left
   ·intro w' hSw;obtain⟨⟨m0,m1,m2,m3,m4,m5,m6,m7,m8⟩,_⟩:=HMX.out.call hSw;go_simp;try with_reducible rfl
   try simp only[Act.put,zq1,zq2,zq3]
   clear hHeld;refine zqR [3] ?_;refine zqC (fun K hK=>?_) AllReadyH.nil;go_simp;go_at_call 22;with_reducible refine(HPV.out _).mono ?_
   rintro e w3 ⟨⟨P1,hP1,rfl⟩,hb3⟩;have ha3:=Bel.call ha0 hb3;have hs3:=Bel.call HBJ.out ha3;clear hb3;dsimp only;refine hK.out _ _ hs3 (fun hHeld=>?_);try simp only[Act.put,zq1,zq2,zq3]
   clear hHeld;refine zqR [6] ?_;refine zqC (fun K hK=>?_) AllReadyH.nil;go_simp;go_at_call 21;with_reducible refine(HL1.out _ (HV.out.below (Bel.call HB2.out hs3) zl)).mono ?_
   rintro e w4 ⟨⟨P2,hP2,rfl⟩,hb4⟩;have ha4:=Bel.call ha3 hb4;have hs4:=Bel.call HBJ.out ha4;clear hb4;dsimp only;refine hK.out _ _ hs4 (fun hHeld=>?_);try simp only[Act.put,zq1,zq2,zq3]
   clear hHeld;refine zqR [8] ?_;refine zqC (fun K hK=>?_) AllReadyH.nil;go_simp;go_at_call 21;with_reducible refine(HL3.out _ _ _ ys _ HYK.out hy40 HYA.out (HYS.out.below ha4 zl)).mono ?_
   rintro e w5 ⟨⟨P3,hP3,rfl⟩,hb5⟩;have ha5:=Bel.call ha4 hb5;have hs5:=Bel.call HBJ.out ha5;clear hb5;dsimp only;refine hK.out _ _ hs5 (fun hHeld=>?_);try simp only[Act.put,zq1,zq2,zq3]
   clear hHeld;refine zqR [9] ?_;refine zqC (fun K hK=>?_) AllReadyH.nil;go_simp;have ha6:=ha5.alloc ha5.size (.cells #[.string P,.string P1,.string P2,.string P3] 9);have hs6:=Bel.call HBJ.out ha6;refine hK.out _ _ hs6 (fun hHeld=>?_);try simp only[Act.put,zq1,zq2,zq3]
   clear hHeld;refine zqR [10] ?_;refine zqC (fun K hK=>?_) AllReadyH.nil;go_simp;go_at_call 21;with_reducible refine(HL4.out P P1 P2 P3 _ _ HP.out hP1 hP2 hP3 (lit4_reads8 w5 P P1 P2 P3 _ rfl)).mono ?_
   rintro e w7 ⟨⟨Q,hQ,rfl⟩,hb7⟩;have ha7:=Bel.call ha6 hb7;have hs7:=Bel.call HBJ.out ha7;clear hb7;dsimp only;refine hK.out _ _ hs7 (fun hHeld=>?_);try simp only[Act.put,zq1,zq2,zq3]
   refine zqT 11 ?_ ?_ ?_;rotate_left
   ·intro w' hSw;obtain⟨⟨m0,m1,m2,m3,m4,m5,m6,m7,m8⟩,_⟩:=HMX.out.call hSw;go_simp;try with_reducible rfl
   try simp only[Act.put,zq1,zq2,zq3]
   clear hHeld;refine wpAnyH_done (by kernel_rfl) ?_ _;have HS7:=zh (Bel.call HB2.out hs7);have HQ:=zh hQ;go_wp2;go_ret;exact⟨⟨Q,HQ.out,rfl⟩,HS7.out⟩
end Go.Proofs.YtmihiknebelkbaaGreat.Mta
