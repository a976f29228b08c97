/-
  H1. By an AI agent.
-/
import Derived.Test.YtmihiknebelkbaaGreatOZ
import Derived.Test.YtmihiknebelkbaaGreatOG3
import Derived.Test.YtmihiknebelkbaaGreatOG1
set_option linter.unusedSimpArgs false
set_option maxHeartbeats 16000000
namespace Go.Proofs.YtmihiknebelkbaaGreat.Rig
open Go.RowKit Wire
theorem bl_five {ys:List ByteArray} {a b c d e:Tm} (h:bl ys = [a,b,c,d,e]):∃A B C D E:ByteArray,ys = [A,B,C,D,E]∧A.data.toList=a∧B.data.toList=b∧C.data.toList=c∧D.data.toList=d∧E.data.toList=e:=by
 match ys,h with
 | [A,B,C,D,E],h=>
  simp only[bl,List.map_cons,List.map_nil,List.cons.injEq,and_true]at h;exact⟨A,B,C,D,E,rfl,h⟩
theorem mem_flat {t:Tm}:∀{l:List Tm},t∈l→t.length≤(l.flatMap putText).length
 | x::l,h=>by
  rw[List.flatMap_cons,List.length_append];rcases List.mem_cons.1 h with rfl|h
  ·rw[putText_len];omega
  ·have:=mem_flat h;omega
theorem all_few {l:Tm} {a b:Int} {x:List Tm} {e:Int} (h:all l a b=(x,e)):(x.length:Int)≤max a 0∧∀t∈x,t.length≤l.length:=by
 obtain⟨h1,h2⟩:=all_back h;by_cases he:e=0
 ·obtain⟨h3,_⟩:=h1 he
  refine⟨?_,fun t ht=>?_⟩
  ·subst he
   have h4:take l=some (x.length,x.flatMap putText):=by
    rw[h3];exact take_put (by omega) _
   by_cases hb:max a 0<(x.length:Int)
   ·rw[all_big h4 hb]at h
    have:=(Prod.mk.inj h).2;omega
   ·omega
  ·have h5:=mem_flat ht
   rw[h3];unfold putAll;rw[List.length_append];omega
 ·rw[h2 he]
  exact⟨by simp;omega,fun t ht=>(List.not_mem_nil ht).elim⟩
theorem five_reads {w:World} {A:Option Addr} {a b c d e:ByteArray} (h:SReads w A [a,b,c,d,e]):∃(g off:Nat),A=some ⟨g,off,none⟩∧g<w.heap.size∧w.cell? ⟨g,off,none⟩=some (.string a)∧w.cell? ⟨g,off+1,none⟩=some (.string b)∧w.cell? ⟨g,off+2,none⟩=some (.string c)∧w.cell? ⟨g,off+3,none⟩=some (.string d)∧w.cell? ⟨g,off+4,none⟩=some (.string e):=by
 obtain⟨g,off,e0,hl,c0⟩:=h 0 (by simp)
 have k:∀j (hj:j<5) (y:ByteArray),[a,b,c,d,e].getD j ByteArray.empty=y→w.cell? ⟨g,off+j,none⟩=some (.string y):=fun j hj y hy=>by
  obtain⟨g2,off2,e2,_,c2⟩:=h j (by simpa using hj);rw[e0]at e2;injection e2 with e2
  injection e2 with e3 e4 _
  subst e3;subst e4;rw[hy]at c2;exact c2
 exact⟨g,off,e0,hl,k 0 (by decide) a rfl,k 1 (by decide) b rfl,k 2 (by decide) c rfl,k 3 (by decide) d rfl,k 4 (by decide) e rfl⟩
set_option maxRecDepth 1000000 in
theorem rtake_any (s:ByteArray) (w:World) (hs:s.size≤1100000):
 Calls Tryz.prog 50 #[.string s] w fun e w'=>Re (fun b=>w.heap.size≤b) (takeR s.data.toList) e w'∧Below w.heap.size w w':=by
 have hs5:=hs;replace hs:s.size≤1000000000000:=by omega
 obtain⟨x,fx,hx⟩:∃x fx,all s.data.toList 5 4000=(x,fx):=⟨_,_,rfl⟩
 have HX:=zh hx;by_cases hfx:fx=0
 case neg=>
  rw[show takeR s.data.toList=(zero,2)by unfold takeR;rw[hx,if_pos (.inl hfx)]];have q:(fx != 0)=true:=by simpa using hfx
  clear hx hfx;go_enter Tryz.func50,Tryz.ntmps50;go_wp2_with fail;with_reducible refine(refAllF_any s 5 4000 _ hs (by decide) (by decide)).mono ?_
  rw[HX.out];rintro e w1 ⟨⟨A0,k0,y0,hy0,hk0,hs0,_,rfl⟩,hb1⟩;have HB1:=zh (after_alloc (Below.refl _ w) hb1);have HR1:=zh (bx_first hb1);have HF1:=zh (sf_first hb1);clear hb1;dsimp only at hy0⊢;obtain⟨r0,r1,r2,r3,r4,_⟩:=HR1.out;obtain⟨f0,f1,f2,f3,f4⟩:=HF1.out;go_wp2;refine bodyPost_ret (v:=.tuple #[RV ⟨#[]⟩ ⟨#[]⟩ 0 none 0 0 none 0 0,.int .i64 2]) (by simp[results,Tryz.results50,go_sem,RV,r0,r1,r2,r3,r4]) rfl ?_;exact⟨⟨_,isX_zero _ _,rfl⟩,set5 HB1.out zl⟩
 subst hfx;by_cases h5:x.length=5
 case neg=>
  rw[show takeR s.data.toList=(zero,2)by unfold takeR;rw[hx,if_pos (.inr h5)]];go_enter Tryz.func50,Tryz.ntmps50;go_wp2_with fail;with_reducible refine(refAllF_any s 5 4000 _ hs (by decide) (by decide)).mono ?_
  rw[HX.out];rintro e w1 ⟨⟨A0,k0,y0,hy0,hk0,hs0,_,rfl⟩,hb1⟩;have HB1:=zh (after_alloc (Below.refl _ w) hb1);have HR1:=zh (bx_first hb1);have HF1:=zh (sf_first hb1);clear hb1;dsimp only at hy0⊢
  have hl:¬(y0.length:Int)=5:=by
   have:=bl_len y0;rw[hy0]at this;omega
  have q:((y0.length:Int) != 5)=true:=by simpa using hl
  obtain⟨r0,r1,r2,r3,r4,_⟩:=HR1.out;obtain⟨f0,f1,f2,f3,f4⟩:=HF1.out;go_wp2;refine bodyPost_ret (v:=.tuple #[RV ⟨#[]⟩ ⟨#[]⟩ 0 none 0 0 none 0 0,.int .i64 2]) (by simp[results,Tryz.results50,go_sem,RV,r0,r1,r2,r3,r4]) rfl ?_;exact⟨⟨_,isX_zero _ _,rfl⟩,set5 HB1.out zl⟩
 obtain⟨zl,zs⟩:=all_few hx;obtain⟨a,b,c,d,e,rfl⟩:∃a b c d e,x = [a,b,c,d,e]:=⟨_,_,_,_,_,five h5⟩
 have ZS:Hid (∀t∈[a,b,c,d,e],t.length≤2000000):=fun t ht=>by
  have:=zs t ht;rw[←Lib.size_eq]at this;omega
 have Z5:∀t∈[a,b,c,d,e],t.length≤1100000:=fun t ht=>by
  have:=zs t ht;rw[←Lib.size_eq]at this;omega
 obtain⟨n,r,fc,htc⟩:∃n r fc,tk c=(n,r,fc):=⟨_,_,_,rfl⟩
 obtain⟨xd,fd,htd⟩:∃xd fd,all d 5 4000=(xd,fd):=⟨_,_,rfl⟩
 obtain⟨xe,fe,hte⟩:∃xe fe,all e 5 4000=(xe,fe):=⟨_,_,rfl⟩
 have HTC:=zh htc;have HTD:=zh htd;have HTE:=zh hte
 have hn64:n<18446744073709551616:=by
  cases h:take c with
  | none=>rw[tk_none h]at htc;have:=(Prod.mk.inj htc).1;omega
  | some p=>
   obtain⟨n2,r2⟩:=p;rw[tk_some h]at htc;have:=(take_some h).2;have:=(Prod.mk.inj htc).1;omega
 have htake:takeR s.data.toList=if fc≠0∨r≠[]∨fd≠0∨fe≠0∨7<n∨¬RR ⟨a,b,(n:Int),xd,xe⟩then(zero,2)else(⟨a,b,(n:Int),xd,xe⟩,0):=by
  unfold takeR;rw[hx,if_neg (by simp)];show(if(tk c).2.2≠0∨(tk c).2.1≠[]∨(all d 5 4000).2≠0∨(all e 5 4000).2≠0∨7<(tk c).1∨¬RR ⟨a,b,((tk c).1:Int),(all d 5 4000).1,(all e 5 4000).1⟩then((zero,2):Rt×Int)else((⟨a,b,((tk c).1:Int),(all d 5 4000).1,(all e 5 4000).1⟩:Rt),(0:Int)))=_
  rw[htc,htd,hte]
 obtain⟨zl1,zs1⟩:=all_few htd;obtain⟨zl2,zs2⟩:=all_few hte
 have HFW:Hid (Few ⟨a,b,(n:Int),xd,xe⟩∨7<n):=by
  by_cases h7:7<n
  ·exact .inr h7
  ·refine .inl ⟨Z5 a (by simp),Z5 b (by simp),by simp only;omega,by simp only;omega,fun t ht=>?_,fun t ht=>?_,by simp only;omega,by simp only;omega⟩
   ·have h1:=zs1 t ht
    have h2:=Z5 d (by simp);omega
   ·have h1:=zs2 t ht
    have h2:=Z5 e (by simp);omega
 clear hx htc htd hte zl zs Z5 zl1 zs1 zl2 zs2 h5;by_cases h1:fc=0
 case neg=>
  rw[htake,if_pos (.inl h1)];have q1:(fc != 0)=true:=by simpa using h1
  clear htake;go_enter Tryz.func50,Tryz.ntmps50;go_wp2_with fail;with_reducible refine(refAllF_any s 5 4000 _ hs (by decide) (by decide)).mono ?_
  rw[HX.out];rintro e w1 ⟨⟨A0,k0,y0,hy0,hk0,hs0,_,rfl⟩,hb1⟩;have HB1:=zh (after_alloc (Below.refl _ w) hb1);have HR1:=zh (bx_first hb1);have HF1:=zh (sf_first hb1);clear hb1;dsimp only at hy0⊢;obtain⟨FA,FB,FC,FD,FE,rfl,hfa,hfb,hfc,hfd,hfe⟩:=bl_five hy0;obtain⟨g,off,rfl,hg1,l0,l1,l2,l3,l4⟩:=five_reads hs0;clear hs0 hy0 hk0;have zc:FC.size≤2000000:=by rw[Lib.size_eq,hfc];exact ZS.out c (by simp)
  have zd:FD.size≤2000000:=by rw[Lib.size_eq,hfd];exact ZS.out d (by simp)
  have ze:FE.size≤2000000:=by rw[Lib.size_eq,hfe];exact ZS.out e (by simp)
  have HFA:=zh hfa;have HFB:=zh hfb;have HFC:=zh hfc;have HFD:=zh hfd;have HFE:=zh hfe;clear hfa hfb hfc hfd hfe;have HC:=zh fun w=>refTake_any FC w (by omega)
  have HD:=zh fun w=>refAllF_any FD 5 4000 w (by omega) (by decide) (by decide)
  have HE:=zh fun w=>refAllF_any FE 5 4000 w (by omega) (by decide) (by decide)
  rw[HFC.out,HTC.out]at HC;rw[HFD.out,HTD.out]at HD;rw[HFE.out,HTE.out]at HE;go_wp2_with fail;with_reducible refine(HC.out _).mono ?_
  rintro e2 w2 ⟨⟨R,hR,rfl⟩,hb2⟩;have HB2:=zh (Bel.call HB1.out hb2);have HR2:=zh (HR1.out.below hb2 HR1.out.2.2.2.2.2);have HF2:=zh (HF1.out.below hb2 HR1.out.2.2.2.2.2);have hg2:g<w2.heap.size:=Nat.lt_of_lt_of_le hg1 hb2.size;replace l0:=(hb2.cell (p:=⟨g,off,none⟩) hg1).trans l0;replace l1:=(hb2.cell (p:=⟨g,off+1,none⟩) hg1).trans l1;replace l2:=(hb2.cell (p:=⟨g,off+2,none⟩) hg1).trans l2;replace l3:=(hb2.cell (p:=⟨g,off+3,none⟩) hg1).trans l3;replace l4:=(hb2.cell (p:=⟨g,off+4,none⟩) hg1).trans l4;have HRR:=zh hR;clear hR hb2;dsimp only;go_wp2_with fail;with_reducible refine(HD.out _).mono ?_
  rintro e3 w3 ⟨⟨A1,c1,y1,hy1,hc1,hs1,hn1,rfl⟩,hb3⟩;have HB3:=zh (Bel.call HB2.out hb3);have HR3:=zh (HR2.out.below hb3 HR2.out.2.2.2.2.2);have HF3:=zh (HF2.out.below hb3 HR2.out.2.2.2.2.2);have hg3:g<w3.heap.size:=Nat.lt_of_lt_of_le hg2 hb3.size;replace l0:=(hb3.cell (p:=⟨g,off,none⟩) hg2).trans l0;replace l1:=(hb3.cell (p:=⟨g,off+1,none⟩) hg2).trans l1;replace l2:=(hb3.cell (p:=⟨g,off+2,none⟩) hg2).trans l2;replace l3:=(hb3.cell (p:=⟨g,off+3,none⟩) hg2).trans l3;replace l4:=(hb3.cell (p:=⟨g,off+4,none⟩) hg2).trans l4;have HS1:=zh hs1;have HY1:=zh hy1
  have HN1:Hid (∀b off,A1=some ⟨b,off,none⟩→0<y1.length→w.heap.size≤b∧b≠w.heap.size):=fun b off h _=>by
   have h1:=hn1 b off h;have h2:=HR2.out.2.2.2.2.2;exact⟨by omega,by omega⟩
  clear hs1 hy1 hn1 hb3;dsimp only;go_wp2_with fail;with_reducible refine(HE.out _).mono ?_
  rintro e4 w4 ⟨⟨A2,c2,y2,hy2,hc2,hs2,hn2,rfl⟩,hb4⟩;have HB4:=zh (Bel.call HB3.out hb4);have HR4:=zh (HR3.out.below hb4 HR3.out.2.2.2.2.2);have HF4:=zh (HF3.out.below hb4 HR3.out.2.2.2.2.2);have hg4:g<w4.heap.size:=Nat.lt_of_lt_of_le hg3 hb4.size;replace l0:=(hb4.cell (p:=⟨g,off,none⟩) hg3).trans l0;replace l1:=(hb4.cell (p:=⟨g,off+1,none⟩) hg3).trans l1;replace l2:=(hb4.cell (p:=⟨g,off+2,none⟩) hg3).trans l2;replace l3:=(hb4.cell (p:=⟨g,off+3,none⟩) hg3).trans l3;replace l4:=(hb4.cell (p:=⟨g,off+4,none⟩) hg3).trans l4;have HS2:=zh hs2;have HY2:=zh hy2
  have HN2:Hid (∀b off,A2=some ⟨b,off,none⟩→0<y2.length→w.heap.size≤b∧b≠w.heap.size):=fun b off h _=>by
   have h1:=hn2 b off h;have h2:=HR3.out.2.2.2.2.2;exact⟨by omega,by omega⟩
  replace HS1:=zh (HS1.out.below hb4 zl);clear hs2 hy2 hn2 hb4;dsimp only;go_wp2_with fail;clear l2 l3 l4;have hd4:Below w4.heap.size w4 w4.drew:=Below.drewN' (Below.refl w4.heap.size w4) 1;refine wp_region_held_drew (S:=fun w'=>w'.cell? ⟨g,off,none⟩=some (.string FA)∧w'.cell? ⟨g,off+1,none⟩=some (.string FB)∧Below w4.heap.size w4 w') (by kernel_rfl) ⟨(hd4.cell (p:=⟨g,off,none⟩) hg4).trans l0,(hd4.cell (p:=⟨g,off+1,none⟩) hg4).trans l1,hd4⟩ (fun hHeld=>?_);clear l0 l1;refine zqT 0 ?_ ?_ ?_;rotate_left
  ·intro w' hSw;obtain⟨l0,l1,_⟩:=hSw;go_simp;try with_reducible rfl
  try simp only[Act.put,zq1,zq2,zq3]
  refine zqT 1 ?_ ?_ ?_;rotate_left
  ·intro w' hSw;obtain⟨l0,l1,_⟩:=hSw;go_simp;try with_reducible rfl
  try simp only[Act.put,zq1,zq2,zq3]
  refine zqT 2 ?_ ?_ ?_;rotate_left
  ·intro w' hSw;obtain⟨l0,l1,_⟩:=hSw;go_simp;try with_reducible rfl
  try simp only[Act.put,zq1,zq2,zq3]
  refine zqT 3 ?_ ?_ ?_;rotate_left
  ·intro w' hSw;obtain⟨l0,l1,_⟩:=hSw;go_simp;try with_reducible rfl
  try simp only[Act.put,zq1,zq2,zq3]
  refine zqT 4 ?_ ?_ ?_;rotate_left
  ·intro w' hSw;obtain⟨l0,l1,_⟩:=hSw;go_simp;try with_reducible rfl
  try simp only[Act.put,zq1,zq2,zq3]
  refine zqT 5 ?_ ?_ ?_;rotate_left
  ·intro w' hSw;obtain⟨l0,l1,_⟩:=hSw;go_simp;try with_reducible rfl
  try simp only[Act.put,zq1,zq2,zq3]
  refine zqT 6 ?_ ?_ ?_;rotate_left
  ·intro w' hSw;obtain⟨l0,l1,_⟩:=hSw;go_simp;try with_reducible rfl
  try simp only[Act.put,zq1,zq2,zq3]
  refine zqT 7 ?_ ?_ ?_;rotate_left
  ·intro w' hSw;obtain⟨l0,l1,_⟩:=hSw;go_simp;try with_reducible rfl
  try simp only[Act.put,zq1,zq2,zq3]
  refine zqT 8 ?_ ?_ ?_;rotate_left
  ·intro w' hSw;obtain⟨l0,l1,_⟩:=hSw;go_simp;try with_reducible rfl
  try simp only[Act.put,zq1,zq2,zq3]
  refine zqT 9 ?_ ?_ ?_;rotate_left
  ·intro w' hSw;obtain⟨l0,l1,_⟩:=hSw;go_simp;try with_reducible rfl
  try simp only[Act.put,zq1,zq2,zq3]
  refine zqT 10 ?_ ?_ ?_;rotate_left
  ·intro w' hSw;obtain⟨l0,l1,_⟩:=hSw;go_simp;try with_reducible rfl
  try simp only[Act.put,zq1,zq2,zq3]
  obtain⟨m0,m1,m2⟩:=hHeld;obtain⟨wd,hwd⟩:∃wd,w4.drew=wd:=⟨_,rfl⟩
  rw[hwd]at m0 m1 m2⊢;refine zqR [11] ?_;refine zqC (fun K hK=>?_) AllReadyH.nil;go_simp;obtain⟨G,hG⟩:∃G,wd.heap.size=G:=⟨_,rfl⟩
  have hXx:Bx G (wd.alloc (.cells #[.string ⟨#[]⟩,.string ⟨#[]⟩,.int .i64 0,.slice none 0 0,.slice none 0 0] 24)) ⟨#[]⟩ ⟨#[]⟩ 0 none 0 0 none 0 0:=by rw[←hG];exact bx_alloc wd _ _ _ _ _ _ _ _ _ _
  have hSx:Sf G (wd.alloc (.cells #[.string ⟨#[]⟩,.string ⟨#[]⟩,.int .i64 0,.slice none 0 0,.slice none 0 0] 24)):=by rw[←hG];exact sf_alloc wd _ _
  have hba:=al wd (.cells #[.string ⟨#[]⟩,.string ⟨#[]⟩,.int .i64 0,.slice none 0 0,.slice none 0 0] 24);have hg5:g<wd.heap.size:=Nat.lt_of_lt_of_le hg4 m2.size;have n0:=(hba.cell (p:=⟨g,off,none⟩) hg5).trans m0;have n1:=(hba.cell (p:=⟨g,off+1,none⟩) hg5).trans m1;have n2:Below w4.heap.size w4 (wd.alloc (.cells #[.string ⟨#[]⟩,.string ⟨#[]⟩,.int .i64 0,.slice none 0 0,.slice none 0 0] 24)):=Bel.call m2 hba;have hGg:w4.heap.size≤G:=by rw[←hG];exact m2.size
  generalize wd.alloc (.cells #[.string ⟨#[]⟩,.string ⟨#[]⟩,.int .i64 0,.slice none 0 0,.slice none 0 0] 24)=wx at *;try rw[hG]
  refine hK.out _ _ ⟨n0,n1,n2⟩ (fun hHeld=>?_);try simp only[Act.put,zq1,zq2,zq3]
  clear hHeld;obtain⟨x0,x1,x2,x3,x4,_⟩:=id hXx;obtain⟨g0,g1,g2,g3,g4⟩:=id hSx;refine zqR [12] ?_;refine zqC (fun K hK=>?_) AllReadyH.nil;go_simp;have hXS:=bx_set5 (o:=FA) (f:=FB) (ep:=IntKind.i64.wrap (n:Int)) (A:=A1) (n:=y1.length) (c:=c1) (B:=A2) (m:=y2.length) (d:=c2) hXx;have hcs:Below w4.heap.size w4 (((((wx.setCell ⟨G,0,none⟩ (.string FA)).setCell ⟨G,1,none⟩ (.string FB)).setCell ⟨G,2,none⟩ (.int .i64 (IntKind.i64.wrap (n:Int)))).setCell ⟨G,3,none⟩ (.slice A1 y1.length c1)).setCell ⟨G,4,none⟩ (.slice A2 y2.length c2)):=(((((n2.setCell (p:=⟨G,0,none⟩) hGg _).setCell (p:=⟨G,1,none⟩) hGg _).setCell (p:=⟨G,2,none⟩) hGg _).setCell (p:=⟨G,3,none⟩) hGg _).setCell (p:=⟨G,4,none⟩) hGg _)
  have p0:=(hcs.cell (p:=⟨g,off,none⟩) hg4).trans ((n2.cell (p:=⟨g,off,none⟩) hg4).symm.trans n0);have p1:=(hcs.cell (p:=⟨g,off+1,none⟩) hg4).trans ((n2.cell (p:=⟨g,off+1,none⟩) hg4).symm.trans n1);refine hK.out _ _ ⟨p0,p1,hcs⟩ (fun hHeld=>?_);try simp only[Act.put,zq1,zq2,zq3]
  clear hHeld x0 x1 x2 x3 x4 g0 g1 g2 g3 g4;generalize (((((wx.setCell ⟨G,0,none⟩ (.string FA)).setCell ⟨G,1,none⟩ (.string FB)).setCell ⟨G,2,none⟩ (.int .i64 (IntKind.i64.wrap (n:Int)))).setCell ⟨G,3,none⟩ (.slice A1 y1.length c1)).setCell ⟨G,4,none⟩ (.slice A2 y2.length c2))=w5 at *;refine wpAnyH_done (by kernel_rfl) ?_ _;have HB5:=zh (Bel.call HB4.out hcs);have HR5:=zh (HR4.out.below hcs HR4.out.2.2.2.2.2);have HF5:=zh (HF4.out.below hcs HR4.out.2.2.2.2.2);have HX5:=zh hXS;replace HS1:=zh (HS1.out.below hcs zl);replace HS2:=zh (HS2.out.below hcs zl);clear m0 m1 m2 n0 n1 n2 p0 p1 hba hXx hSx hcs hXS hd4;obtain⟨d0,d1,d2,d3,d4,hG5⟩:=HX5.out;obtain⟨r0,r1,r2,r3,r4,_⟩:=HR5.out;obtain⟨f0,f1,f2,f3,f4⟩:=HF5.out;go_wp2;refine bodyPost_ret (v:=.tuple #[RV ⟨#[]⟩ ⟨#[]⟩ 0 none 0 0 none 0 0,.int .i64 2]) (by simp[results,Tryz.results50,go_sem,RV,r0,r1,r2,r3,r4]) rfl ?_;exact⟨⟨_,isX_zero _ _,rfl⟩,set5 HB5.out zl⟩
 subst h1;by_cases h2:r = []
 case neg=>
  rw[htake,if_pos (.inr (.inl h2))];clear htake;go_enter Tryz.func50,Tryz.ntmps50;go_wp2_with fail;with_reducible refine(refAllF_any s 5 4000 _ hs (by decide) (by decide)).mono ?_
  rw[HX.out];rintro e w1 ⟨⟨A0,k0,y0,hy0,hk0,hs0,_,rfl⟩,hb1⟩;have HB1:=zh (after_alloc (Below.refl _ w) hb1);have HR1:=zh (bx_first hb1);have HF1:=zh (sf_first hb1);clear hb1;dsimp only at hy0⊢;obtain⟨FA,FB,FC,FD,FE,rfl,hfa,hfb,hfc,hfd,hfe⟩:=bl_five hy0;obtain⟨g,off,rfl,hg1,l0,l1,l2,l3,l4⟩:=five_reads hs0;clear hs0 hy0 hk0;have zc:FC.size≤2000000:=by rw[Lib.size_eq,hfc];exact ZS.out c (by simp)
  have zd:FD.size≤2000000:=by rw[Lib.size_eq,hfd];exact ZS.out d (by simp)
  have ze:FE.size≤2000000:=by rw[Lib.size_eq,hfe];exact ZS.out e (by simp)
  have HFA:=zh hfa;have HFB:=zh hfb;have HFC:=zh hfc;have HFD:=zh hfd;have HFE:=zh hfe;clear hfa hfb hfc hfd hfe;have HC:=zh fun w=>refTake_any FC w (by omega)
  have HD:=zh fun w=>refAllF_any FD 5 4000 w (by omega) (by decide) (by decide)
  have HE:=zh fun w=>refAllF_any FE 5 4000 w (by omega) (by decide) (by decide)
  rw[HFC.out,HTC.out]at HC;rw[HFD.out,HTD.out]at HD;rw[HFE.out,HTE.out]at HE;go_wp2_with fail;with_reducible refine(HC.out _).mono ?_
  rintro e2 w2 ⟨⟨R,hR,rfl⟩,hb2⟩;have HB2:=zh (Bel.call HB1.out hb2);have HR2:=zh (HR1.out.below hb2 HR1.out.2.2.2.2.2);have HF2:=zh (HF1.out.below hb2 HR1.out.2.2.2.2.2);have hg2:g<w2.heap.size:=Nat.lt_of_lt_of_le hg1 hb2.size;replace l0:=(hb2.cell (p:=⟨g,off,none⟩) hg1).trans l0;replace l1:=(hb2.cell (p:=⟨g,off+1,none⟩) hg1).trans l1;replace l2:=(hb2.cell (p:=⟨g,off+2,none⟩) hg1).trans l2;replace l3:=(hb2.cell (p:=⟨g,off+3,none⟩) hg1).trans l3;replace l4:=(hb2.cell (p:=⟨g,off+4,none⟩) hg1).trans l4;have HRR:=zh hR;clear hR hb2;dsimp only;go_wp2_with fail;with_reducible refine(HD.out _).mono ?_
  rintro e3 w3 ⟨⟨A1,c1,y1,hy1,hc1,hs1,hn1,rfl⟩,hb3⟩;have HB3:=zh (Bel.call HB2.out hb3);have HR3:=zh (HR2.out.below hb3 HR2.out.2.2.2.2.2);have HF3:=zh (HF2.out.below hb3 HR2.out.2.2.2.2.2);have hg3:g<w3.heap.size:=Nat.lt_of_lt_of_le hg2 hb3.size;replace l0:=(hb3.cell (p:=⟨g,off,none⟩) hg2).trans l0;replace l1:=(hb3.cell (p:=⟨g,off+1,none⟩) hg2).trans l1;replace l2:=(hb3.cell (p:=⟨g,off+2,none⟩) hg2).trans l2;replace l3:=(hb3.cell (p:=⟨g,off+3,none⟩) hg2).trans l3;replace l4:=(hb3.cell (p:=⟨g,off+4,none⟩) hg2).trans l4;have HS1:=zh hs1;have HY1:=zh hy1
  have HN1:Hid (∀b off,A1=some ⟨b,off,none⟩→0<y1.length→w.heap.size≤b∧b≠w.heap.size):=fun b off h _=>by
   have h1:=hn1 b off h;have h2:=HR2.out.2.2.2.2.2;exact⟨by omega,by omega⟩
  clear hs1 hy1 hn1 hb3;dsimp only;go_wp2_with fail;with_reducible refine(HE.out _).mono ?_
  rintro e4 w4 ⟨⟨A2,c2,y2,hy2,hc2,hs2,hn2,rfl⟩,hb4⟩;have HB4:=zh (Bel.call HB3.out hb4);have HR4:=zh (HR3.out.below hb4 HR3.out.2.2.2.2.2);have HF4:=zh (HF3.out.below hb4 HR3.out.2.2.2.2.2);have hg4:g<w4.heap.size:=Nat.lt_of_lt_of_le hg3 hb4.size;replace l0:=(hb4.cell (p:=⟨g,off,none⟩) hg3).trans l0;replace l1:=(hb4.cell (p:=⟨g,off+1,none⟩) hg3).trans l1;replace l2:=(hb4.cell (p:=⟨g,off+2,none⟩) hg3).trans l2;replace l3:=(hb4.cell (p:=⟨g,off+3,none⟩) hg3).trans l3;replace l4:=(hb4.cell (p:=⟨g,off+4,none⟩) hg3).trans l4;have HS2:=zh hs2;have HY2:=zh hy2
  have HN2:Hid (∀b off,A2=some ⟨b,off,none⟩→0<y2.length→w.heap.size≤b∧b≠w.heap.size):=fun b off h _=>by
   have h1:=hn2 b off h;have h2:=HR3.out.2.2.2.2.2;exact⟨by omega,by omega⟩
  replace HS1:=zh (HS1.out.below hb4 zl);clear hs2 hy2 hn2 hb4;dsimp only;go_wp2_with fail;clear l2 l3 l4;have hd4:Below w4.heap.size w4 w4.drew:=Below.drewN' (Below.refl w4.heap.size w4) 1;refine wp_region_held_drew (S:=fun w'=>w'.cell? ⟨g,off,none⟩=some (.string FA)∧w'.cell? ⟨g,off+1,none⟩=some (.string FB)∧Below w4.heap.size w4 w') (by kernel_rfl) ⟨(hd4.cell (p:=⟨g,off,none⟩) hg4).trans l0,(hd4.cell (p:=⟨g,off+1,none⟩) hg4).trans l1,hd4⟩ (fun hHeld=>?_);clear l0 l1;refine zqT 0 ?_ ?_ ?_;rotate_left
  ·intro w' hSw;obtain⟨l0,l1,_⟩:=hSw;go_simp;try with_reducible rfl
  try simp only[Act.put,zq1,zq2,zq3]
  refine zqT 1 ?_ ?_ ?_;rotate_left
  ·intro w' hSw;obtain⟨l0,l1,_⟩:=hSw;go_simp;try with_reducible rfl
  try simp only[Act.put,zq1,zq2,zq3]
  refine zqT 2 ?_ ?_ ?_;rotate_left
  ·intro w' hSw;obtain⟨l0,l1,_⟩:=hSw;go_simp;try with_reducible rfl
  try simp only[Act.put,zq1,zq2,zq3]
  refine zqT 3 ?_ ?_ ?_;rotate_left
  ·intro w' hSw;obtain⟨l0,l1,_⟩:=hSw;go_simp;try with_reducible rfl
  try simp only[Act.put,zq1,zq2,zq3]
  refine zqT 4 ?_ ?_ ?_;rotate_left
  ·intro w' hSw;obtain⟨l0,l1,_⟩:=hSw;go_simp;try with_reducible rfl
  try simp only[Act.put,zq1,zq2,zq3]
  refine zqT 5 ?_ ?_ ?_;rotate_left
  ·intro w' hSw;obtain⟨l0,l1,_⟩:=hSw;go_simp;try with_reducible rfl
  try simp only[Act.put,zq1,zq2,zq3]
  refine zqT 6 ?_ ?_ ?_;rotate_left
  ·intro w' hSw;obtain⟨l0,l1,_⟩:=hSw;go_simp;try with_reducible rfl
  try simp only[Act.put,zq1,zq2,zq3]
  refine zqT 7 ?_ ?_ ?_;rotate_left
  ·intro w' hSw;obtain⟨l0,l1,_⟩:=hSw;go_simp;try with_reducible rfl
  try simp only[Act.put,zq1,zq2,zq3]
  refine zqT 8 ?_ ?_ ?_;rotate_left
  ·intro w' hSw;obtain⟨l0,l1,_⟩:=hSw;go_simp;try with_reducible rfl
  try simp only[Act.put,zq1,zq2,zq3]
  refine zqT 9 ?_ ?_ ?_;rotate_left
  ·intro w' hSw;obtain⟨l0,l1,_⟩:=hSw;go_simp;try with_reducible rfl
  try simp only[Act.put,zq1,zq2,zq3]
  refine zqT 10 ?_ ?_ ?_;rotate_left
  ·intro w' hSw;obtain⟨l0,l1,_⟩:=hSw;go_simp;try with_reducible rfl
  try simp only[Act.put,zq1,zq2,zq3]
  obtain⟨m0,m1,m2⟩:=hHeld;obtain⟨wd,hwd⟩:∃wd,w4.drew=wd:=⟨_,rfl⟩
  rw[hwd]at m0 m1 m2⊢;refine zqR [11] ?_;refine zqC (fun K hK=>?_) AllReadyH.nil;go_simp;obtain⟨G,hG⟩:∃G,wd.heap.size=G:=⟨_,rfl⟩
  have hXx:Bx G (wd.alloc (.cells #[.string ⟨#[]⟩,.string ⟨#[]⟩,.int .i64 0,.slice none 0 0,.slice none 0 0] 24)) ⟨#[]⟩ ⟨#[]⟩ 0 none 0 0 none 0 0:=by rw[←hG];exact bx_alloc wd _ _ _ _ _ _ _ _ _ _
  have hSx:Sf G (wd.alloc (.cells #[.string ⟨#[]⟩,.string ⟨#[]⟩,.int .i64 0,.slice none 0 0,.slice none 0 0] 24)):=by rw[←hG];exact sf_alloc wd _ _
  have hba:=al wd (.cells #[.string ⟨#[]⟩,.string ⟨#[]⟩,.int .i64 0,.slice none 0 0,.slice none 0 0] 24);have hg5:g<wd.heap.size:=Nat.lt_of_lt_of_le hg4 m2.size;have n0:=(hba.cell (p:=⟨g,off,none⟩) hg5).trans m0;have n1:=(hba.cell (p:=⟨g,off+1,none⟩) hg5).trans m1;have n2:Below w4.heap.size w4 (wd.alloc (.cells #[.string ⟨#[]⟩,.string ⟨#[]⟩,.int .i64 0,.slice none 0 0,.slice none 0 0] 24)):=Bel.call m2 hba;have hGg:w4.heap.size≤G:=by rw[←hG];exact m2.size
  generalize wd.alloc (.cells #[.string ⟨#[]⟩,.string ⟨#[]⟩,.int .i64 0,.slice none 0 0,.slice none 0 0] 24)=wx at *;try rw[hG]
  refine hK.out _ _ ⟨n0,n1,n2⟩ (fun hHeld=>?_);try simp only[Act.put,zq1,zq2,zq3]
  clear hHeld;obtain⟨x0,x1,x2,x3,x4,_⟩:=id hXx;obtain⟨g0,g1,g2,g3,g4⟩:=id hSx;refine zqR [12] ?_;refine zqC (fun K hK=>?_) AllReadyH.nil;go_simp;have hXS:=bx_set5 (o:=FA) (f:=FB) (ep:=IntKind.i64.wrap (n:Int)) (A:=A1) (n:=y1.length) (c:=c1) (B:=A2) (m:=y2.length) (d:=c2) hXx;have hcs:Below w4.heap.size w4 (((((wx.setCell ⟨G,0,none⟩ (.string FA)).setCell ⟨G,1,none⟩ (.string FB)).setCell ⟨G,2,none⟩ (.int .i64 (IntKind.i64.wrap (n:Int)))).setCell ⟨G,3,none⟩ (.slice A1 y1.length c1)).setCell ⟨G,4,none⟩ (.slice A2 y2.length c2)):=(((((n2.setCell (p:=⟨G,0,none⟩) hGg _).setCell (p:=⟨G,1,none⟩) hGg _).setCell (p:=⟨G,2,none⟩) hGg _).setCell (p:=⟨G,3,none⟩) hGg _).setCell (p:=⟨G,4,none⟩) hGg _)
  have p0:=(hcs.cell (p:=⟨g,off,none⟩) hg4).trans ((n2.cell (p:=⟨g,off,none⟩) hg4).symm.trans n0);have p1:=(hcs.cell (p:=⟨g,off+1,none⟩) hg4).trans ((n2.cell (p:=⟨g,off+1,none⟩) hg4).symm.trans n1);refine hK.out _ _ ⟨p0,p1,hcs⟩ (fun hHeld=>?_);try simp only[Act.put,zq1,zq2,zq3]
  clear hHeld x0 x1 x2 x3 x4 g0 g1 g2 g3 g4;generalize (((((wx.setCell ⟨G,0,none⟩ (.string FA)).setCell ⟨G,1,none⟩ (.string FB)).setCell ⟨G,2,none⟩ (.int .i64 (IntKind.i64.wrap (n:Int)))).setCell ⟨G,3,none⟩ (.slice A1 y1.length c1)).setCell ⟨G,4,none⟩ (.slice A2 y2.length c2))=w5 at *;refine wpAnyH_done (by kernel_rfl) ?_ _;have HB5:=zh (Bel.call HB4.out hcs);have HR5:=zh (HR4.out.below hcs HR4.out.2.2.2.2.2);have HF5:=zh (HF4.out.below hcs HR4.out.2.2.2.2.2);have HX5:=zh hXS;replace HS1:=zh (HS1.out.below hcs zl);replace HS2:=zh (HS2.out.below hcs zl);clear m0 m1 m2 n0 n1 n2 p0 p1 hba hXx hSx hcs hXS hd4;obtain⟨d0,d1,d2,d3,d4,hG5⟩:=HX5.out;have q2:¬R.toList = []:=fun h=>h2 (HRR.out.symm.trans (by rw[←Lib.toList_data];exact h))
  have q2':(R.toList==(ByteArray.mk #[]).toList)=false:=s_ne (fun h=>h2 (HRR.out.symm.trans h));obtain⟨r0,r1,r2,r3,r4,_⟩:=HR5.out;obtain⟨f0,f1,f2,f3,f4⟩:=HF5.out;go_wp2;refine bodyPost_ret (v:=.tuple #[RV ⟨#[]⟩ ⟨#[]⟩ 0 none 0 0 none 0 0,.int .i64 2]) (by simp[results,Tryz.results50,go_sem,RV,r0,r1,r2,r3,r4]) rfl ?_;exact⟨⟨_,isX_zero _ _,rfl⟩,set5 HB5.out zl⟩
 subst h2;by_cases h3:fd=0
 case neg=>
  rw[htake,if_pos (.inr (.inr (.inl h3)))];have q3:(fd != 0)=true:=by simpa using h3
  clear htake;go_enter Tryz.func50,Tryz.ntmps50;go_wp2_with fail;with_reducible refine(refAllF_any s 5 4000 _ hs (by decide) (by decide)).mono ?_
  rw[HX.out];rintro e w1 ⟨⟨A0,k0,y0,hy0,hk0,hs0,_,rfl⟩,hb1⟩;have HB1:=zh (after_alloc (Below.refl _ w) hb1);have HR1:=zh (bx_first hb1);have HF1:=zh (sf_first hb1);clear hb1;dsimp only at hy0⊢;obtain⟨FA,FB,FC,FD,FE,rfl,hfa,hfb,hfc,hfd,hfe⟩:=bl_five hy0;obtain⟨g,off,rfl,hg1,l0,l1,l2,l3,l4⟩:=five_reads hs0;clear hs0 hy0 hk0;have zc:FC.size≤2000000:=by rw[Lib.size_eq,hfc];exact ZS.out c (by simp)
  have zd:FD.size≤2000000:=by rw[Lib.size_eq,hfd];exact ZS.out d (by simp)
  have ze:FE.size≤2000000:=by rw[Lib.size_eq,hfe];exact ZS.out e (by simp)
  have HFA:=zh hfa;have HFB:=zh hfb;have HFC:=zh hfc;have HFD:=zh hfd;have HFE:=zh hfe;clear hfa hfb hfc hfd hfe;have HC:=zh fun w=>refTake_any FC w (by omega)
  have HD:=zh fun w=>refAllF_any FD 5 4000 w (by omega) (by decide) (by decide)
  have HE:=zh fun w=>refAllF_any FE 5 4000 w (by omega) (by decide) (by decide)
  rw[HFC.out,HTC.out]at HC;rw[HFD.out,HTD.out]at HD;rw[HFE.out,HTE.out]at HE;go_wp2_with fail;with_reducible refine(HC.out _).mono ?_
  rintro e2 w2 ⟨⟨R,hR,rfl⟩,hb2⟩;have HB2:=zh (Bel.call HB1.out hb2);have HR2:=zh (HR1.out.below hb2 HR1.out.2.2.2.2.2);have HF2:=zh (HF1.out.below hb2 HR1.out.2.2.2.2.2);have hg2:g<w2.heap.size:=Nat.lt_of_lt_of_le hg1 hb2.size;replace l0:=(hb2.cell (p:=⟨g,off,none⟩) hg1).trans l0;replace l1:=(hb2.cell (p:=⟨g,off+1,none⟩) hg1).trans l1;replace l2:=(hb2.cell (p:=⟨g,off+2,none⟩) hg1).trans l2;replace l3:=(hb2.cell (p:=⟨g,off+3,none⟩) hg1).trans l3;replace l4:=(hb2.cell (p:=⟨g,off+4,none⟩) hg1).trans l4;have HRR:=zh hR;clear hR hb2;dsimp only;go_wp2_with fail;with_reducible refine(HD.out _).mono ?_
  rintro e3 w3 ⟨⟨A1,c1,y1,hy1,hc1,hs1,hn1,rfl⟩,hb3⟩;have HB3:=zh (Bel.call HB2.out hb3);have HR3:=zh (HR2.out.below hb3 HR2.out.2.2.2.2.2);have HF3:=zh (HF2.out.below hb3 HR2.out.2.2.2.2.2);have hg3:g<w3.heap.size:=Nat.lt_of_lt_of_le hg2 hb3.size;replace l0:=(hb3.cell (p:=⟨g,off,none⟩) hg2).trans l0;replace l1:=(hb3.cell (p:=⟨g,off+1,none⟩) hg2).trans l1;replace l2:=(hb3.cell (p:=⟨g,off+2,none⟩) hg2).trans l2;replace l3:=(hb3.cell (p:=⟨g,off+3,none⟩) hg2).trans l3;replace l4:=(hb3.cell (p:=⟨g,off+4,none⟩) hg2).trans l4;have HS1:=zh hs1;have HY1:=zh hy1
  have HN1:Hid (∀b off,A1=some ⟨b,off,none⟩→0<y1.length→w.heap.size≤b∧b≠w.heap.size):=fun b off h _=>by
   have h1:=hn1 b off h;have h2:=HR2.out.2.2.2.2.2;exact⟨by omega,by omega⟩
  clear hs1 hy1 hn1 hb3;dsimp only;go_wp2_with fail;with_reducible refine(HE.out _).mono ?_
  rintro e4 w4 ⟨⟨A2,c2,y2,hy2,hc2,hs2,hn2,rfl⟩,hb4⟩;have HB4:=zh (Bel.call HB3.out hb4);have HR4:=zh (HR3.out.below hb4 HR3.out.2.2.2.2.2);have HF4:=zh (HF3.out.below hb4 HR3.out.2.2.2.2.2);have hg4:g<w4.heap.size:=Nat.lt_of_lt_of_le hg3 hb4.size;replace l0:=(hb4.cell (p:=⟨g,off,none⟩) hg3).trans l0;replace l1:=(hb4.cell (p:=⟨g,off+1,none⟩) hg3).trans l1;replace l2:=(hb4.cell (p:=⟨g,off+2,none⟩) hg3).trans l2;replace l3:=(hb4.cell (p:=⟨g,off+3,none⟩) hg3).trans l3;replace l4:=(hb4.cell (p:=⟨g,off+4,none⟩) hg3).trans l4;have HS2:=zh hs2;have HY2:=zh hy2
  have HN2:Hid (∀b off,A2=some ⟨b,off,none⟩→0<y2.length→w.heap.size≤b∧b≠w.heap.size):=fun b off h _=>by
   have h1:=hn2 b off h;have h2:=HR3.out.2.2.2.2.2;exact⟨by omega,by omega⟩
  replace HS1:=zh (HS1.out.below hb4 zl);clear hs2 hy2 hn2 hb4;dsimp only;go_wp2_with fail;clear l2 l3 l4;have hd4:Below w4.heap.size w4 w4.drew:=Below.drewN' (Below.refl w4.heap.size w4) 1;refine wp_region_held_drew (S:=fun w'=>w'.cell? ⟨g,off,none⟩=some (.string FA)∧w'.cell? ⟨g,off+1,none⟩=some (.string FB)∧Below w4.heap.size w4 w') (by kernel_rfl) ⟨(hd4.cell (p:=⟨g,off,none⟩) hg4).trans l0,(hd4.cell (p:=⟨g,off+1,none⟩) hg4).trans l1,hd4⟩ (fun hHeld=>?_);clear l0 l1;refine zqT 0 ?_ ?_ ?_;rotate_left
  ·intro w' hSw;obtain⟨l0,l1,_⟩:=hSw;go_simp;try with_reducible rfl
  try simp only[Act.put,zq1,zq2,zq3]
  refine zqT 1 ?_ ?_ ?_;rotate_left
  ·intro w' hSw;obtain⟨l0,l1,_⟩:=hSw;go_simp;try with_reducible rfl
  try simp only[Act.put,zq1,zq2,zq3]
  refine zqT 2 ?_ ?_ ?_;rotate_left
  ·intro w' hSw;obtain⟨l0,l1,_⟩:=hSw;go_simp;try with_reducible rfl
  try simp only[Act.put,zq1,zq2,zq3]
  refine zqT 3 ?_ ?_ ?_;rotate_left
  ·intro w' hSw;obtain⟨l0,l1,_⟩:=hSw;go_simp;try with_reducible rfl
  try simp only[Act.put,zq1,zq2,zq3]
  refine zqT 4 ?_ ?_ ?_;rotate_left
  ·intro w' hSw;obtain⟨l0,l1,_⟩:=hSw;go_simp;try with_reducible rfl
  try simp only[Act.put,zq1,zq2,zq3]
  refine zqT 5 ?_ ?_ ?_;rotate_left
  ·intro w' hSw;obtain⟨l0,l1,_⟩:=hSw;go_simp;try with_reducible rfl
  try simp only[Act.put,zq1,zq2,zq3]
  refine zqT 6 ?_ ?_ ?_;rotate_left
  ·intro w' hSw;obtain⟨l0,l1,_⟩:=hSw;go_simp;try with_reducible rfl
  try simp only[Act.put,zq1,zq2,zq3]
  refine zqT 7 ?_ ?_ ?_;rotate_left
  ·intro w' hSw;obtain⟨l0,l1,_⟩:=hSw;go_simp;try with_reducible rfl
  try simp only[Act.put,zq1,zq2,zq3]
  refine zqT 8 ?_ ?_ ?_;rotate_left
  ·intro w' hSw;obtain⟨l0,l1,_⟩:=hSw;go_simp;try with_reducible rfl
  try simp only[Act.put,zq1,zq2,zq3]
  refine zqT 9 ?_ ?_ ?_;rotate_left
  ·intro w' hSw;obtain⟨l0,l1,_⟩:=hSw;go_simp;try with_reducible rfl
  try simp only[Act.put,zq1,zq2,zq3]
  refine zqT 10 ?_ ?_ ?_;rotate_left
  ·intro w' hSw;obtain⟨l0,l1,_⟩:=hSw;go_simp;try with_reducible rfl
  try simp only[Act.put,zq1,zq2,zq3]
  obtain⟨m0,m1,m2⟩:=hHeld;obtain⟨wd,hwd⟩:∃wd,w4.drew=wd:=⟨_,rfl⟩
  rw[hwd]at m0 m1 m2⊢;refine zqR [11] ?_;refine zqC (fun K hK=>?_) AllReadyH.nil;go_simp;obtain⟨G,hG⟩:∃G,wd.heap.size=G:=⟨_,rfl⟩
  have hXx:Bx G (wd.alloc (.cells #[.string ⟨#[]⟩,.string ⟨#[]⟩,.int .i64 0,.slice none 0 0,.slice none 0 0] 24)) ⟨#[]⟩ ⟨#[]⟩ 0 none 0 0 none 0 0:=by rw[←hG];exact bx_alloc wd _ _ _ _ _ _ _ _ _ _
  have hSx:Sf G (wd.alloc (.cells #[.string ⟨#[]⟩,.string ⟨#[]⟩,.int .i64 0,.slice none 0 0,.slice none 0 0] 24)):=by rw[←hG];exact sf_alloc wd _ _
  have hba:=al wd (.cells #[.string ⟨#[]⟩,.string ⟨#[]⟩,.int .i64 0,.slice none 0 0,.slice none 0 0] 24);have hg5:g<wd.heap.size:=Nat.lt_of_lt_of_le hg4 m2.size;have n0:=(hba.cell (p:=⟨g,off,none⟩) hg5).trans m0;have n1:=(hba.cell (p:=⟨g,off+1,none⟩) hg5).trans m1;have n2:Below w4.heap.size w4 (wd.alloc (.cells #[.string ⟨#[]⟩,.string ⟨#[]⟩,.int .i64 0,.slice none 0 0,.slice none 0 0] 24)):=Bel.call m2 hba;have hGg:w4.heap.size≤G:=by rw[←hG];exact m2.size
  generalize wd.alloc (.cells #[.string ⟨#[]⟩,.string ⟨#[]⟩,.int .i64 0,.slice none 0 0,.slice none 0 0] 24)=wx at *;try rw[hG]
  refine hK.out _ _ ⟨n0,n1,n2⟩ (fun hHeld=>?_);try simp only[Act.put,zq1,zq2,zq3]
  clear hHeld;obtain⟨x0,x1,x2,x3,x4,_⟩:=id hXx;obtain⟨g0,g1,g2,g3,g4⟩:=id hSx;refine zqR [12] ?_;refine zqC (fun K hK=>?_) AllReadyH.nil;go_simp;have hXS:=bx_set5 (o:=FA) (f:=FB) (ep:=IntKind.i64.wrap (n:Int)) (A:=A1) (n:=y1.length) (c:=c1) (B:=A2) (m:=y2.length) (d:=c2) hXx;have hcs:Below w4.heap.size w4 (((((wx.setCell ⟨G,0,none⟩ (.string FA)).setCell ⟨G,1,none⟩ (.string FB)).setCell ⟨G,2,none⟩ (.int .i64 (IntKind.i64.wrap (n:Int)))).setCell ⟨G,3,none⟩ (.slice A1 y1.length c1)).setCell ⟨G,4,none⟩ (.slice A2 y2.length c2)):=(((((n2.setCell (p:=⟨G,0,none⟩) hGg _).setCell (p:=⟨G,1,none⟩) hGg _).setCell (p:=⟨G,2,none⟩) hGg _).setCell (p:=⟨G,3,none⟩) hGg _).setCell (p:=⟨G,4,none⟩) hGg _)
  have p0:=(hcs.cell (p:=⟨g,off,none⟩) hg4).trans ((n2.cell (p:=⟨g,off,none⟩) hg4).symm.trans n0);have p1:=(hcs.cell (p:=⟨g,off+1,none⟩) hg4).trans ((n2.cell (p:=⟨g,off+1,none⟩) hg4).symm.trans n1);refine hK.out _ _ ⟨p0,p1,hcs⟩ (fun hHeld=>?_);try simp only[Act.put,zq1,zq2,zq3]
  clear hHeld x0 x1 x2 x3 x4 g0 g1 g2 g3 g4;generalize (((((wx.setCell ⟨G,0,none⟩ (.string FA)).setCell ⟨G,1,none⟩ (.string FB)).setCell ⟨G,2,none⟩ (.int .i64 (IntKind.i64.wrap (n:Int)))).setCell ⟨G,3,none⟩ (.slice A1 y1.length c1)).setCell ⟨G,4,none⟩ (.slice A2 y2.length c2))=w5 at *;refine wpAnyH_done (by kernel_rfl) ?_ _;have HB5:=zh (Bel.call HB4.out hcs);have HR5:=zh (HR4.out.below hcs HR4.out.2.2.2.2.2);have HF5:=zh (HF4.out.below hcs HR4.out.2.2.2.2.2);have HX5:=zh hXS;replace HS1:=zh (HS1.out.below hcs zl);replace HS2:=zh (HS2.out.below hcs zl);clear m0 m1 m2 n0 n1 n2 p0 p1 hba hXx hSx hcs hXS hd4;obtain⟨d0,d1,d2,d3,d4,hG5⟩:=HX5.out;obtain rfl:R=⟨#[]⟩:=str_eq HRR.out;obtain⟨r0,r1,r2,r3,r4,_⟩:=HR5.out;obtain⟨f0,f1,f2,f3,f4⟩:=HF5.out;go_wp2;refine bodyPost_ret (v:=.tuple #[RV ⟨#[]⟩ ⟨#[]⟩ 0 none 0 0 none 0 0,.int .i64 2]) (by simp[results,Tryz.results50,go_sem,RV,r0,r1,r2,r3,r4]) rfl ?_;exact⟨⟨_,isX_zero _ _,rfl⟩,set5 HB5.out zl⟩
 subst h3;by_cases h4:fe=0
 case neg=>
  rw[htake,if_pos (.inr (.inr (.inr (.inl h4))))];have q4:(fe != 0)=true:=by simpa using h4
  clear htake;go_enter Tryz.func50,Tryz.ntmps50;go_wp2_with fail;with_reducible refine(refAllF_any s 5 4000 _ hs (by decide) (by decide)).mono ?_
  rw[HX.out];rintro e w1 ⟨⟨A0,k0,y0,hy0,hk0,hs0,_,rfl⟩,hb1⟩;have HB1:=zh (after_alloc (Below.refl _ w) hb1);have HR1:=zh (bx_first hb1);have HF1:=zh (sf_first hb1);clear hb1;dsimp only at hy0⊢;obtain⟨FA,FB,FC,FD,FE,rfl,hfa,hfb,hfc,hfd,hfe⟩:=bl_five hy0;obtain⟨g,off,rfl,hg1,l0,l1,l2,l3,l4⟩:=five_reads hs0;clear hs0 hy0 hk0;have zc:FC.size≤2000000:=by rw[Lib.size_eq,hfc];exact ZS.out c (by simp)
  have zd:FD.size≤2000000:=by rw[Lib.size_eq,hfd];exact ZS.out d (by simp)
  have ze:FE.size≤2000000:=by rw[Lib.size_eq,hfe];exact ZS.out e (by simp)
  have HFA:=zh hfa;have HFB:=zh hfb;have HFC:=zh hfc;have HFD:=zh hfd;have HFE:=zh hfe;clear hfa hfb hfc hfd hfe;have HC:=zh fun w=>refTake_any FC w (by omega)
  have HD:=zh fun w=>refAllF_any FD 5 4000 w (by omega) (by decide) (by decide)
  have HE:=zh fun w=>refAllF_any FE 5 4000 w (by omega) (by decide) (by decide)
  rw[HFC.out,HTC.out]at HC;rw[HFD.out,HTD.out]at HD;rw[HFE.out,HTE.out]at HE;go_wp2_with fail;with_reducible refine(HC.out _).mono ?_
  rintro e2 w2 ⟨⟨R,hR,rfl⟩,hb2⟩;have HB2:=zh (Bel.call HB1.out hb2);have HR2:=zh (HR1.out.below hb2 HR1.out.2.2.2.2.2);have HF2:=zh (HF1.out.below hb2 HR1.out.2.2.2.2.2);have hg2:g<w2.heap.size:=Nat.lt_of_lt_of_le hg1 hb2.size;replace l0:=(hb2.cell (p:=⟨g,off,none⟩) hg1).trans l0;replace l1:=(hb2.cell (p:=⟨g,off+1,none⟩) hg1).trans l1;replace l2:=(hb2.cell (p:=⟨g,off+2,none⟩) hg1).trans l2;replace l3:=(hb2.cell (p:=⟨g,off+3,none⟩) hg1).trans l3;replace l4:=(hb2.cell (p:=⟨g,off+4,none⟩) hg1).trans l4;have HRR:=zh hR;clear hR hb2;dsimp only;go_wp2_with fail;with_reducible refine(HD.out _).mono ?_
  rintro e3 w3 ⟨⟨A1,c1,y1,hy1,hc1,hs1,hn1,rfl⟩,hb3⟩;have HB3:=zh (Bel.call HB2.out hb3);have HR3:=zh (HR2.out.below hb3 HR2.out.2.2.2.2.2);have HF3:=zh (HF2.out.below hb3 HR2.out.2.2.2.2.2);have hg3:g<w3.heap.size:=Nat.lt_of_lt_of_le hg2 hb3.size;replace l0:=(hb3.cell (p:=⟨g,off,none⟩) hg2).trans l0;replace l1:=(hb3.cell (p:=⟨g,off+1,none⟩) hg2).trans l1;replace l2:=(hb3.cell (p:=⟨g,off+2,none⟩) hg2).trans l2;replace l3:=(hb3.cell (p:=⟨g,off+3,none⟩) hg2).trans l3;replace l4:=(hb3.cell (p:=⟨g,off+4,none⟩) hg2).trans l4;have HS1:=zh hs1;have HY1:=zh hy1
  have HN1:Hid (∀b off,A1=some ⟨b,off,none⟩→0<y1.length→w.heap.size≤b∧b≠w.heap.size):=fun b off h _=>by
   have h1:=hn1 b off h;have h2:=HR2.out.2.2.2.2.2;exact⟨by omega,by omega⟩
  clear hs1 hy1 hn1 hb3;dsimp only;go_wp2_with fail;with_reducible refine(HE.out _).mono ?_
  rintro e4 w4 ⟨⟨A2,c2,y2,hy2,hc2,hs2,hn2,rfl⟩,hb4⟩;have HB4:=zh (Bel.call HB3.out hb4);have HR4:=zh (HR3.out.below hb4 HR3.out.2.2.2.2.2);have HF4:=zh (HF3.out.below hb4 HR3.out.2.2.2.2.2);have hg4:g<w4.heap.size:=Nat.lt_of_lt_of_le hg3 hb4.size;replace l0:=(hb4.cell (p:=⟨g,off,none⟩) hg3).trans l0;replace l1:=(hb4.cell (p:=⟨g,off+1,none⟩) hg3).trans l1;replace l2:=(hb4.cell (p:=⟨g,off+2,none⟩) hg3).trans l2;replace l3:=(hb4.cell (p:=⟨g,off+3,none⟩) hg3).trans l3;replace l4:=(hb4.cell (p:=⟨g,off+4,none⟩) hg3).trans l4;have HS2:=zh hs2;have HY2:=zh hy2
  have HN2:Hid (∀b off,A2=some ⟨b,off,none⟩→0<y2.length→w.heap.size≤b∧b≠w.heap.size):=fun b off h _=>by
   have h1:=hn2 b off h;have h2:=HR3.out.2.2.2.2.2;exact⟨by omega,by omega⟩
  replace HS1:=zh (HS1.out.below hb4 zl);clear hs2 hy2 hn2 hb4;dsimp only;go_wp2_with fail;clear l2 l3 l4;have hd4:Below w4.heap.size w4 w4.drew:=Below.drewN' (Below.refl w4.heap.size w4) 1;refine wp_region_held_drew (S:=fun w'=>w'.cell? ⟨g,off,none⟩=some (.string FA)∧w'.cell? ⟨g,off+1,none⟩=some (.string FB)∧Below w4.heap.size w4 w') (by kernel_rfl) ⟨(hd4.cell (p:=⟨g,off,none⟩) hg4).trans l0,(hd4.cell (p:=⟨g,off+1,none⟩) hg4).trans l1,hd4⟩ (fun hHeld=>?_);clear l0 l1;refine zqT 0 ?_ ?_ ?_;rotate_left
  ·intro w' hSw;obtain⟨l0,l1,_⟩:=hSw;go_simp;try with_reducible rfl
  try simp only[Act.put,zq1,zq2,zq3]
  refine zqT 1 ?_ ?_ ?_;rotate_left
  ·intro w' hSw;obtain⟨l0,l1,_⟩:=hSw;go_simp;try with_reducible rfl
  try simp only[Act.put,zq1,zq2,zq3]
  refine zqT 2 ?_ ?_ ?_;rotate_left
  ·intro w' hSw;obtain⟨l0,l1,_⟩:=hSw;go_simp;try with_reducible rfl
  try simp only[Act.put,zq1,zq2,zq3]
  refine zqT 3 ?_ ?_ ?_;rotate_left
  ·intro w' hSw;obtain⟨l0,l1,_⟩:=hSw;go_simp;try with_reducible rfl
  try simp only[Act.put,zq1,zq2,zq3]
  refine zqT 4 ?_ ?_ ?_;rotate_left
  ·intro w' hSw;obtain⟨l0,l1,_⟩:=hSw;go_simp;try with_reducible rfl
  try simp only[Act.put,zq1,zq2,zq3]
  refine zqT 5 ?_ ?_ ?_;rotate_left
  ·intro w' hSw;obtain⟨l0,l1,_⟩:=hSw;go_simp;try with_reducible rfl
  try simp only[Act.put,zq1,zq2,zq3]
  refine zqT 6 ?_ ?_ ?_;rotate_left
  ·intro w' hSw;obtain⟨l0,l1,_⟩:=hSw;go_simp;try with_reducible rfl
  try simp only[Act.put,zq1,zq2,zq3]
  refine zqT 7 ?_ ?_ ?_;rotate_left
  ·intro w' hSw;obtain⟨l0,l1,_⟩:=hSw;go_simp;try with_reducible rfl
  try simp only[Act.put,zq1,zq2,zq3]
  refine zqT 8 ?_ ?_ ?_;rotate_left
  ·intro w' hSw;obtain⟨l0,l1,_⟩:=hSw;go_simp;try with_reducible rfl
  try simp only[Act.put,zq1,zq2,zq3]
  refine zqT 9 ?_ ?_ ?_;rotate_left
  ·intro w' hSw;obtain⟨l0,l1,_⟩:=hSw;go_simp;try with_reducible rfl
  try simp only[Act.put,zq1,zq2,zq3]
  refine zqT 10 ?_ ?_ ?_;rotate_left
  ·intro w' hSw;obtain⟨l0,l1,_⟩:=hSw;go_simp;try with_reducible rfl
  try simp only[Act.put,zq1,zq2,zq3]
  obtain⟨m0,m1,m2⟩:=hHeld;obtain⟨wd,hwd⟩:∃wd,w4.drew=wd:=⟨_,rfl⟩
  rw[hwd]at m0 m1 m2⊢;refine zqR [11] ?_;refine zqC (fun K hK=>?_) AllReadyH.nil;go_simp;obtain⟨G,hG⟩:∃G,wd.heap.size=G:=⟨_,rfl⟩
  have hXx:Bx G (wd.alloc (.cells #[.string ⟨#[]⟩,.string ⟨#[]⟩,.int .i64 0,.slice none 0 0,.slice none 0 0] 24)) ⟨#[]⟩ ⟨#[]⟩ 0 none 0 0 none 0 0:=by rw[←hG];exact bx_alloc wd _ _ _ _ _ _ _ _ _ _
  have hSx:Sf G (wd.alloc (.cells #[.string ⟨#[]⟩,.string ⟨#[]⟩,.int .i64 0,.slice none 0 0,.slice none 0 0] 24)):=by rw[←hG];exact sf_alloc wd _ _
  have hba:=al wd (.cells #[.string ⟨#[]⟩,.string ⟨#[]⟩,.int .i64 0,.slice none 0 0,.slice none 0 0] 24);have hg5:g<wd.heap.size:=Nat.lt_of_lt_of_le hg4 m2.size;have n0:=(hba.cell (p:=⟨g,off,none⟩) hg5).trans m0;have n1:=(hba.cell (p:=⟨g,off+1,none⟩) hg5).trans m1;have n2:Below w4.heap.size w4 (wd.alloc (.cells #[.string ⟨#[]⟩,.string ⟨#[]⟩,.int .i64 0,.slice none 0 0,.slice none 0 0] 24)):=Bel.call m2 hba;have hGg:w4.heap.size≤G:=by rw[←hG];exact m2.size
  generalize wd.alloc (.cells #[.string ⟨#[]⟩,.string ⟨#[]⟩,.int .i64 0,.slice none 0 0,.slice none 0 0] 24)=wx at *;try rw[hG]
  refine hK.out _ _ ⟨n0,n1,n2⟩ (fun hHeld=>?_);try simp only[Act.put,zq1,zq2,zq3]
  clear hHeld;obtain⟨x0,x1,x2,x3,x4,_⟩:=id hXx;obtain⟨g0,g1,g2,g3,g4⟩:=id hSx;refine zqR [12] ?_;refine zqC (fun K hK=>?_) AllReadyH.nil;go_simp;have hXS:=bx_set5 (o:=FA) (f:=FB) (ep:=IntKind.i64.wrap (n:Int)) (A:=A1) (n:=y1.length) (c:=c1) (B:=A2) (m:=y2.length) (d:=c2) hXx;have hcs:Below w4.heap.size w4 (((((wx.setCell ⟨G,0,none⟩ (.string FA)).setCell ⟨G,1,none⟩ (.string FB)).setCell ⟨G,2,none⟩ (.int .i64 (IntKind.i64.wrap (n:Int)))).setCell ⟨G,3,none⟩ (.slice A1 y1.length c1)).setCell ⟨G,4,none⟩ (.slice A2 y2.length c2)):=(((((n2.setCell (p:=⟨G,0,none⟩) hGg _).setCell (p:=⟨G,1,none⟩) hGg _).setCell (p:=⟨G,2,none⟩) hGg _).setCell (p:=⟨G,3,none⟩) hGg _).setCell (p:=⟨G,4,none⟩) hGg _)
  have p0:=(hcs.cell (p:=⟨g,off,none⟩) hg4).trans ((n2.cell (p:=⟨g,off,none⟩) hg4).symm.trans n0);have p1:=(hcs.cell (p:=⟨g,off+1,none⟩) hg4).trans ((n2.cell (p:=⟨g,off+1,none⟩) hg4).symm.trans n1);refine hK.out _ _ ⟨p0,p1,hcs⟩ (fun hHeld=>?_);try simp only[Act.put,zq1,zq2,zq3]
  clear hHeld x0 x1 x2 x3 x4 g0 g1 g2 g3 g4;generalize (((((wx.setCell ⟨G,0,none⟩ (.string FA)).setCell ⟨G,1,none⟩ (.string FB)).setCell ⟨G,2,none⟩ (.int .i64 (IntKind.i64.wrap (n:Int)))).setCell ⟨G,3,none⟩ (.slice A1 y1.length c1)).setCell ⟨G,4,none⟩ (.slice A2 y2.length c2))=w5 at *;refine wpAnyH_done (by kernel_rfl) ?_ _;have HB5:=zh (Bel.call HB4.out hcs);have HR5:=zh (HR4.out.below hcs HR4.out.2.2.2.2.2);have HF5:=zh (HF4.out.below hcs HR4.out.2.2.2.2.2);have HX5:=zh hXS;replace HS1:=zh (HS1.out.below hcs zl);replace HS2:=zh (HS2.out.below hcs zl);clear m0 m1 m2 n0 n1 n2 p0 p1 hba hXx hSx hcs hXS hd4;obtain⟨d0,d1,d2,d3,d4,hG5⟩:=HX5.out;obtain rfl:R=⟨#[]⟩:=str_eq HRR.out;obtain⟨r0,r1,r2,r3,r4,_⟩:=HR5.out;obtain⟨f0,f1,f2,f3,f4⟩:=HF5.out;go_wp2;refine bodyPost_ret (v:=.tuple #[RV ⟨#[]⟩ ⟨#[]⟩ 0 none 0 0 none 0 0,.int .i64 2]) (by simp[results,Tryz.results50,go_sem,RV,r0,r1,r2,r3,r4]) rfl ?_;exact⟨⟨_,isX_zero _ _,rfl⟩,set5 HB5.out zl⟩
 subst h4;by_cases h7:7<n
 ·rw[htake,if_pos (.inr (.inr (.inr (.inr (.inl h7)))))]
  have q5:(7:Int)<(n:Int):=by omega
  clear htake;go_enter Tryz.func50,Tryz.ntmps50;go_wp2_with fail;with_reducible refine(refAllF_any s 5 4000 _ hs (by decide) (by decide)).mono ?_
  rw[HX.out];rintro e w1 ⟨⟨A0,k0,y0,hy0,hk0,hs0,_,rfl⟩,hb1⟩;have HB1:=zh (after_alloc (Below.refl _ w) hb1);have HR1:=zh (bx_first hb1);have HF1:=zh (sf_first hb1);clear hb1;dsimp only at hy0⊢;obtain⟨FA,FB,FC,FD,FE,rfl,hfa,hfb,hfc,hfd,hfe⟩:=bl_five hy0;obtain⟨g,off,rfl,hg1,l0,l1,l2,l3,l4⟩:=five_reads hs0;clear hs0 hy0 hk0;have zc:FC.size≤2000000:=by rw[Lib.size_eq,hfc];exact ZS.out c (by simp)
  have zd:FD.size≤2000000:=by rw[Lib.size_eq,hfd];exact ZS.out d (by simp)
  have ze:FE.size≤2000000:=by rw[Lib.size_eq,hfe];exact ZS.out e (by simp)
  have HFA:=zh hfa;have HFB:=zh hfb;have HFC:=zh hfc;have HFD:=zh hfd;have HFE:=zh hfe;clear hfa hfb hfc hfd hfe;have HC:=zh fun w=>refTake_any FC w (by omega)
  have HD:=zh fun w=>refAllF_any FD 5 4000 w (by omega) (by decide) (by decide)
  have HE:=zh fun w=>refAllF_any FE 5 4000 w (by omega) (by decide) (by decide)
  rw[HFC.out,HTC.out]at HC;rw[HFD.out,HTD.out]at HD;rw[HFE.out,HTE.out]at HE;go_wp2_with fail;with_reducible refine(HC.out _).mono ?_
  rintro e2 w2 ⟨⟨R,hR,rfl⟩,hb2⟩;have HB2:=zh (Bel.call HB1.out hb2);have HR2:=zh (HR1.out.below hb2 HR1.out.2.2.2.2.2);have HF2:=zh (HF1.out.below hb2 HR1.out.2.2.2.2.2);have hg2:g<w2.heap.size:=Nat.lt_of_lt_of_le hg1 hb2.size;replace l0:=(hb2.cell (p:=⟨g,off,none⟩) hg1).trans l0;replace l1:=(hb2.cell (p:=⟨g,off+1,none⟩) hg1).trans l1;replace l2:=(hb2.cell (p:=⟨g,off+2,none⟩) hg1).trans l2;replace l3:=(hb2.cell (p:=⟨g,off+3,none⟩) hg1).trans l3;replace l4:=(hb2.cell (p:=⟨g,off+4,none⟩) hg1).trans l4;have HRR:=zh hR;clear hR hb2;dsimp only;go_wp2_with fail;with_reducible refine(HD.out _).mono ?_
  rintro e3 w3 ⟨⟨A1,c1,y1,hy1,hc1,hs1,hn1,rfl⟩,hb3⟩;have HB3:=zh (Bel.call HB2.out hb3);have HR3:=zh (HR2.out.below hb3 HR2.out.2.2.2.2.2);have HF3:=zh (HF2.out.below hb3 HR2.out.2.2.2.2.2);have hg3:g<w3.heap.size:=Nat.lt_of_lt_of_le hg2 hb3.size;replace l0:=(hb3.cell (p:=⟨g,off,none⟩) hg2).trans l0;replace l1:=(hb3.cell (p:=⟨g,off+1,none⟩) hg2).trans l1;replace l2:=(hb3.cell (p:=⟨g,off+2,none⟩) hg2).trans l2;replace l3:=(hb3.cell (p:=⟨g,off+3,none⟩) hg2).trans l3;replace l4:=(hb3.cell (p:=⟨g,off+4,none⟩) hg2).trans l4;have HS1:=zh hs1;have HY1:=zh hy1
  have HN1:Hid (∀b off,A1=some ⟨b,off,none⟩→0<y1.length→w.heap.size≤b∧b≠w.heap.size):=fun b off h _=>by
   have h1:=hn1 b off h;have h2:=HR2.out.2.2.2.2.2;exact⟨by omega,by omega⟩
  clear hs1 hy1 hn1 hb3;dsimp only;go_wp2_with fail;with_reducible refine(HE.out _).mono ?_
  rintro e4 w4 ⟨⟨A2,c2,y2,hy2,hc2,hs2,hn2,rfl⟩,hb4⟩;have HB4:=zh (Bel.call HB3.out hb4);have HR4:=zh (HR3.out.below hb4 HR3.out.2.2.2.2.2);have HF4:=zh (HF3.out.below hb4 HR3.out.2.2.2.2.2);have hg4:g<w4.heap.size:=Nat.lt_of_lt_of_le hg3 hb4.size;replace l0:=(hb4.cell (p:=⟨g,off,none⟩) hg3).trans l0;replace l1:=(hb4.cell (p:=⟨g,off+1,none⟩) hg3).trans l1;replace l2:=(hb4.cell (p:=⟨g,off+2,none⟩) hg3).trans l2;replace l3:=(hb4.cell (p:=⟨g,off+3,none⟩) hg3).trans l3;replace l4:=(hb4.cell (p:=⟨g,off+4,none⟩) hg3).trans l4;have HS2:=zh hs2;have HY2:=zh hy2
  have HN2:Hid (∀b off,A2=some ⟨b,off,none⟩→0<y2.length→w.heap.size≤b∧b≠w.heap.size):=fun b off h _=>by
   have h1:=hn2 b off h;have h2:=HR3.out.2.2.2.2.2;exact⟨by omega,by omega⟩
  replace HS1:=zh (HS1.out.below hb4 zl);clear hs2 hy2 hn2 hb4;dsimp only;go_wp2_with fail;clear l2 l3 l4;have hd4:Below w4.heap.size w4 w4.drew:=Below.drewN' (Below.refl w4.heap.size w4) 1;refine wp_region_held_drew (S:=fun w'=>w'.cell? ⟨g,off,none⟩=some (.string FA)∧w'.cell? ⟨g,off+1,none⟩=some (.string FB)∧Below w4.heap.size w4 w') (by kernel_rfl) ⟨(hd4.cell (p:=⟨g,off,none⟩) hg4).trans l0,(hd4.cell (p:=⟨g,off+1,none⟩) hg4).trans l1,hd4⟩ (fun hHeld=>?_);clear l0 l1;refine zqT 0 ?_ ?_ ?_;rotate_left
  ·intro w' hSw;obtain⟨l0,l1,_⟩:=hSw;go_simp;try with_reducible rfl
  try simp only[Act.put,zq1,zq2,zq3]
  refine zqT 1 ?_ ?_ ?_;rotate_left
  ·intro w' hSw;obtain⟨l0,l1,_⟩:=hSw;go_simp;try with_reducible rfl
  try simp only[Act.put,zq1,zq2,zq3]
  refine zqT 2 ?_ ?_ ?_;rotate_left
  ·intro w' hSw;obtain⟨l0,l1,_⟩:=hSw;go_simp;try with_reducible rfl
  try simp only[Act.put,zq1,zq2,zq3]
  refine zqT 3 ?_ ?_ ?_;rotate_left
  ·intro w' hSw;obtain⟨l0,l1,_⟩:=hSw;go_simp;try with_reducible rfl
  try simp only[Act.put,zq1,zq2,zq3]
  refine zqT 4 ?_ ?_ ?_;rotate_left
  ·intro w' hSw;obtain⟨l0,l1,_⟩:=hSw;go_simp;try with_reducible rfl
  try simp only[Act.put,zq1,zq2,zq3]
  refine zqT 5 ?_ ?_ ?_;rotate_left
  ·intro w' hSw;obtain⟨l0,l1,_⟩:=hSw;go_simp;try with_reducible rfl
  try simp only[Act.put,zq1,zq2,zq3]
  refine zqT 6 ?_ ?_ ?_;rotate_left
  ·intro w' hSw;obtain⟨l0,l1,_⟩:=hSw;go_simp;try with_reducible rfl
  try simp only[Act.put,zq1,zq2,zq3]
  refine zqT 7 ?_ ?_ ?_;rotate_left
  ·intro w' hSw;obtain⟨l0,l1,_⟩:=hSw;go_simp;try with_reducible rfl
  try simp only[Act.put,zq1,zq2,zq3]
  refine zqT 8 ?_ ?_ ?_;rotate_left
  ·intro w' hSw;obtain⟨l0,l1,_⟩:=hSw;go_simp;try with_reducible rfl
  try simp only[Act.put,zq1,zq2,zq3]
  refine zqT 9 ?_ ?_ ?_;rotate_left
  ·intro w' hSw;obtain⟨l0,l1,_⟩:=hSw;go_simp;try with_reducible rfl
  try simp only[Act.put,zq1,zq2,zq3]
  refine zqT 10 ?_ ?_ ?_;rotate_left
  ·intro w' hSw;obtain⟨l0,l1,_⟩:=hSw;go_simp;try with_reducible rfl
  try simp only[Act.put,zq1,zq2,zq3]
  obtain⟨m0,m1,m2⟩:=hHeld;obtain⟨wd,hwd⟩:∃wd,w4.drew=wd:=⟨_,rfl⟩
  rw[hwd]at m0 m1 m2⊢;refine zqR [11] ?_;refine zqC (fun K hK=>?_) AllReadyH.nil;go_simp;obtain⟨G,hG⟩:∃G,wd.heap.size=G:=⟨_,rfl⟩
  have hXx:Bx G (wd.alloc (.cells #[.string ⟨#[]⟩,.string ⟨#[]⟩,.int .i64 0,.slice none 0 0,.slice none 0 0] 24)) ⟨#[]⟩ ⟨#[]⟩ 0 none 0 0 none 0 0:=by rw[←hG];exact bx_alloc wd _ _ _ _ _ _ _ _ _ _
  have hSx:Sf G (wd.alloc (.cells #[.string ⟨#[]⟩,.string ⟨#[]⟩,.int .i64 0,.slice none 0 0,.slice none 0 0] 24)):=by rw[←hG];exact sf_alloc wd _ _
  have hba:=al wd (.cells #[.string ⟨#[]⟩,.string ⟨#[]⟩,.int .i64 0,.slice none 0 0,.slice none 0 0] 24);have hg5:g<wd.heap.size:=Nat.lt_of_lt_of_le hg4 m2.size;have n0:=(hba.cell (p:=⟨g,off,none⟩) hg5).trans m0;have n1:=(hba.cell (p:=⟨g,off+1,none⟩) hg5).trans m1;have n2:Below w4.heap.size w4 (wd.alloc (.cells #[.string ⟨#[]⟩,.string ⟨#[]⟩,.int .i64 0,.slice none 0 0,.slice none 0 0] 24)):=Bel.call m2 hba;have hGg:w4.heap.size≤G:=by rw[←hG];exact m2.size
  generalize wd.alloc (.cells #[.string ⟨#[]⟩,.string ⟨#[]⟩,.int .i64 0,.slice none 0 0,.slice none 0 0] 24)=wx at *;try rw[hG]
  refine hK.out _ _ ⟨n0,n1,n2⟩ (fun hHeld=>?_);try simp only[Act.put,zq1,zq2,zq3]
  clear hHeld;obtain⟨x0,x1,x2,x3,x4,_⟩:=id hXx;obtain⟨g0,g1,g2,g3,g4⟩:=id hSx;refine zqR [12] ?_;refine zqC (fun K hK=>?_) AllReadyH.nil;go_simp;have hXS:=bx_set5 (o:=FA) (f:=FB) (ep:=IntKind.i64.wrap (n:Int)) (A:=A1) (n:=y1.length) (c:=c1) (B:=A2) (m:=y2.length) (d:=c2) hXx;have hcs:Below w4.heap.size w4 (((((wx.setCell ⟨G,0,none⟩ (.string FA)).setCell ⟨G,1,none⟩ (.string FB)).setCell ⟨G,2,none⟩ (.int .i64 (IntKind.i64.wrap (n:Int)))).setCell ⟨G,3,none⟩ (.slice A1 y1.length c1)).setCell ⟨G,4,none⟩ (.slice A2 y2.length c2)):=(((((n2.setCell (p:=⟨G,0,none⟩) hGg _).setCell (p:=⟨G,1,none⟩) hGg _).setCell (p:=⟨G,2,none⟩) hGg _).setCell (p:=⟨G,3,none⟩) hGg _).setCell (p:=⟨G,4,none⟩) hGg _)
  have p0:=(hcs.cell (p:=⟨g,off,none⟩) hg4).trans ((n2.cell (p:=⟨g,off,none⟩) hg4).symm.trans n0);have p1:=(hcs.cell (p:=⟨g,off+1,none⟩) hg4).trans ((n2.cell (p:=⟨g,off+1,none⟩) hg4).symm.trans n1);refine hK.out _ _ ⟨p0,p1,hcs⟩ (fun hHeld=>?_);try simp only[Act.put,zq1,zq2,zq3]
  clear hHeld x0 x1 x2 x3 x4 g0 g1 g2 g3 g4;generalize (((((wx.setCell ⟨G,0,none⟩ (.string FA)).setCell ⟨G,1,none⟩ (.string FB)).setCell ⟨G,2,none⟩ (.int .i64 (IntKind.i64.wrap (n:Int)))).setCell ⟨G,3,none⟩ (.slice A1 y1.length c1)).setCell ⟨G,4,none⟩ (.slice A2 y2.length c2))=w5 at *;refine wpAnyH_done (by kernel_rfl) ?_ _;have HB5:=zh (Bel.call HB4.out hcs);have HR5:=zh (HR4.out.below hcs HR4.out.2.2.2.2.2);have HF5:=zh (HF4.out.below hcs HR4.out.2.2.2.2.2);have HX5:=zh hXS;replace HS1:=zh (HS1.out.below hcs zl);replace HS2:=zh (HS2.out.below hcs zl);clear m0 m1 m2 n0 n1 n2 p0 p1 hba hXx hSx hcs hXS hd4;obtain⟨d0,d1,d2,d3,d4,hG5⟩:=HX5.out;obtain rfl:R=⟨#[]⟩:=str_eq HRR.out;obtain⟨r0,r1,r2,r3,r4,_⟩:=HR5.out;obtain⟨f0,f1,f2,f3,f4⟩:=HF5.out;go_wp2;refine bodyPost_ret (v:=.tuple #[RV ⟨#[]⟩ ⟨#[]⟩ 0 none 0 0 none 0 0,.int .i64 2]) (by simp[results,Tryz.results50,go_sem,RV,r0,r1,r2,r3,r4]) rfl ?_;exact⟨⟨_,isX_zero _ _,rfl⟩,set5 HB5.out zl⟩
 have hfw:=HFW.out.resolve_right h7;replace HFW:=zh hfw;clear hfw
 have HW:Hid (IntKind.i64.wrap (n:Int)=(n:Int)):=by
  show _=_
  rw[IntKind.wrap_i64];omega
 have q5:¬(7:Int)<(n:Int):=by omega
 by_cases hr:RR ⟨a,b,(n:Int),xd,xe⟩
 case neg=>
  rw[htake,if_pos (.inr (.inr (.inr (.inr (.inr hr)))))];have HRR6:=zh hr;clear htake;go_enter Tryz.func50,Tryz.ntmps50;go_wp2_with fail;with_reducible refine(refAllF_any s 5 4000 _ hs (by decide) (by decide)).mono ?_
  rw[HX.out];rintro e w1 ⟨⟨A0,k0,y0,hy0,hk0,hs0,_,rfl⟩,hb1⟩;have HB1:=zh (after_alloc (Below.refl _ w) hb1);have HR1:=zh (bx_first hb1);have HF1:=zh (sf_first hb1);clear hb1;dsimp only at hy0⊢;obtain⟨FA,FB,FC,FD,FE,rfl,hfa,hfb,hfc,hfd,hfe⟩:=bl_five hy0;obtain⟨g,off,rfl,hg1,l0,l1,l2,l3,l4⟩:=five_reads hs0;clear hs0 hy0 hk0;have zc:FC.size≤2000000:=by rw[Lib.size_eq,hfc];exact ZS.out c (by simp)
  have zd:FD.size≤2000000:=by rw[Lib.size_eq,hfd];exact ZS.out d (by simp)
  have ze:FE.size≤2000000:=by rw[Lib.size_eq,hfe];exact ZS.out e (by simp)
  have HFA:=zh hfa;have HFB:=zh hfb;have HFC:=zh hfc;have HFD:=zh hfd;have HFE:=zh hfe;clear hfa hfb hfc hfd hfe;have HC:=zh fun w=>refTake_any FC w (by omega)
  have HD:=zh fun w=>refAllF_any FD 5 4000 w (by omega) (by decide) (by decide)
  have HE:=zh fun w=>refAllF_any FE 5 4000 w (by omega) (by decide) (by decide)
  rw[HFC.out,HTC.out]at HC;rw[HFD.out,HTD.out]at HD;rw[HFE.out,HTE.out]at HE;go_wp2_with fail;with_reducible refine(HC.out _).mono ?_
  rintro e2 w2 ⟨⟨R,hR,rfl⟩,hb2⟩;have HB2:=zh (Bel.call HB1.out hb2);have HR2:=zh (HR1.out.below hb2 HR1.out.2.2.2.2.2);have HF2:=zh (HF1.out.below hb2 HR1.out.2.2.2.2.2);have hg2:g<w2.heap.size:=Nat.lt_of_lt_of_le hg1 hb2.size;replace l0:=(hb2.cell (p:=⟨g,off,none⟩) hg1).trans l0;replace l1:=(hb2.cell (p:=⟨g,off+1,none⟩) hg1).trans l1;replace l2:=(hb2.cell (p:=⟨g,off+2,none⟩) hg1).trans l2;replace l3:=(hb2.cell (p:=⟨g,off+3,none⟩) hg1).trans l3;replace l4:=(hb2.cell (p:=⟨g,off+4,none⟩) hg1).trans l4;have HRR:=zh hR;clear hR hb2;dsimp only;go_wp2_with fail;with_reducible refine(HD.out _).mono ?_
  rintro e3 w3 ⟨⟨A1,c1,y1,hy1,hc1,hs1,hn1,rfl⟩,hb3⟩;have HB3:=zh (Bel.call HB2.out hb3);have HR3:=zh (HR2.out.below hb3 HR2.out.2.2.2.2.2);have HF3:=zh (HF2.out.below hb3 HR2.out.2.2.2.2.2);have hg3:g<w3.heap.size:=Nat.lt_of_lt_of_le hg2 hb3.size;replace l0:=(hb3.cell (p:=⟨g,off,none⟩) hg2).trans l0;replace l1:=(hb3.cell (p:=⟨g,off+1,none⟩) hg2).trans l1;replace l2:=(hb3.cell (p:=⟨g,off+2,none⟩) hg2).trans l2;replace l3:=(hb3.cell (p:=⟨g,off+3,none⟩) hg2).trans l3;replace l4:=(hb3.cell (p:=⟨g,off+4,none⟩) hg2).trans l4;have HS1:=zh hs1;have HY1:=zh hy1
  have HN1:Hid (∀b off,A1=some ⟨b,off,none⟩→0<y1.length→w.heap.size≤b∧b≠w.heap.size):=fun b off h _=>by
   have h1:=hn1 b off h;have h2:=HR2.out.2.2.2.2.2;exact⟨by omega,by omega⟩
  clear hs1 hy1 hn1 hb3;dsimp only;go_wp2_with fail;with_reducible refine(HE.out _).mono ?_
  rintro e4 w4 ⟨⟨A2,c2,y2,hy2,hc2,hs2,hn2,rfl⟩,hb4⟩;have HB4:=zh (Bel.call HB3.out hb4);have HR4:=zh (HR3.out.below hb4 HR3.out.2.2.2.2.2);have HF4:=zh (HF3.out.below hb4 HR3.out.2.2.2.2.2);have hg4:g<w4.heap.size:=Nat.lt_of_lt_of_le hg3 hb4.size;replace l0:=(hb4.cell (p:=⟨g,off,none⟩) hg3).trans l0;replace l1:=(hb4.cell (p:=⟨g,off+1,none⟩) hg3).trans l1;replace l2:=(hb4.cell (p:=⟨g,off+2,none⟩) hg3).trans l2;replace l3:=(hb4.cell (p:=⟨g,off+3,none⟩) hg3).trans l3;replace l4:=(hb4.cell (p:=⟨g,off+4,none⟩) hg3).trans l4;have HS2:=zh hs2;have HY2:=zh hy2
  have HN2:Hid (∀b off,A2=some ⟨b,off,none⟩→0<y2.length→w.heap.size≤b∧b≠w.heap.size):=fun b off h _=>by
   have h1:=hn2 b off h;have h2:=HR3.out.2.2.2.2.2;exact⟨by omega,by omega⟩
  replace HS1:=zh (HS1.out.below hb4 zl);clear hs2 hy2 hn2 hb4;dsimp only;go_wp2_with fail;clear l2 l3 l4;have hd4:Below w4.heap.size w4 w4.drew:=Below.drewN' (Below.refl w4.heap.size w4) 1;refine wp_region_held_drew (S:=fun w'=>w'.cell? ⟨g,off,none⟩=some (.string FA)∧w'.cell? ⟨g,off+1,none⟩=some (.string FB)∧Below w4.heap.size w4 w') (by kernel_rfl) ⟨(hd4.cell (p:=⟨g,off,none⟩) hg4).trans l0,(hd4.cell (p:=⟨g,off+1,none⟩) hg4).trans l1,hd4⟩ (fun hHeld=>?_);clear l0 l1;refine zqT 0 ?_ ?_ ?_;rotate_left
  ·intro w' hSw;obtain⟨l0,l1,_⟩:=hSw;go_simp;try with_reducible rfl
  try simp only[Act.put,zq1,zq2,zq3]
  refine zqT 1 ?_ ?_ ?_;rotate_left
  ·intro w' hSw;obtain⟨l0,l1,_⟩:=hSw;go_simp;try with_reducible rfl
  try simp only[Act.put,zq1,zq2,zq3]
  refine zqT 2 ?_ ?_ ?_;rotate_left
  ·intro w' hSw;obtain⟨l0,l1,_⟩:=hSw;go_simp;try with_reducible rfl
  try simp only[Act.put,zq1,zq2,zq3]
  refine zqT 3 ?_ ?_ ?_;rotate_left
  ·intro w' hSw;obtain⟨l0,l1,_⟩:=hSw;go_simp;try with_reducible rfl
  try simp only[Act.put,zq1,zq2,zq3]
  refine zqT 4 ?_ ?_ ?_;rotate_left
  ·intro w' hSw;obtain⟨l0,l1,_⟩:=hSw;go_simp;try with_reducible rfl
  try simp only[Act.put,zq1,zq2,zq3]
  refine zqT 5 ?_ ?_ ?_;rotate_left
  ·intro w' hSw;obtain⟨l0,l1,_⟩:=hSw;go_simp;try with_reducible rfl
  try simp only[Act.put,zq1,zq2,zq3]
  refine zqT 6 ?_ ?_ ?_;rotate_left
  ·intro w' hSw;obtain⟨l0,l1,_⟩:=hSw;go_simp;try with_reducible rfl
  try simp only[Act.put,zq1,zq2,zq3]
  refine zqT 7 ?_ ?_ ?_;rotate_left
  ·intro w' hSw;obtain⟨l0,l1,_⟩:=hSw;go_simp;try with_reducible rfl
  try simp only[Act.put,zq1,zq2,zq3]
  refine zqT 8 ?_ ?_ ?_;rotate_left
  ·intro w' hSw;obtain⟨l0,l1,_⟩:=hSw;go_simp;try with_reducible rfl
  try simp only[Act.put,zq1,zq2,zq3]
  refine zqT 9 ?_ ?_ ?_;rotate_left
  ·intro w' hSw;obtain⟨l0,l1,_⟩:=hSw;go_simp;try with_reducible rfl
  try simp only[Act.put,zq1,zq2,zq3]
  refine zqT 10 ?_ ?_ ?_;rotate_left
  ·intro w' hSw;obtain⟨l0,l1,_⟩:=hSw;go_simp;try with_reducible rfl
  try simp only[Act.put,zq1,zq2,zq3]
  obtain⟨m0,m1,m2⟩:=hHeld;obtain⟨wd,hwd⟩:∃wd,w4.drew=wd:=⟨_,rfl⟩
  rw[hwd]at m0 m1 m2⊢;refine zqR [11] ?_;refine zqC (fun K hK=>?_) AllReadyH.nil;go_simp;obtain⟨G,hG⟩:∃G,wd.heap.size=G:=⟨_,rfl⟩
  have hXx:Bx G (wd.alloc (.cells #[.string ⟨#[]⟩,.string ⟨#[]⟩,.int .i64 0,.slice none 0 0,.slice none 0 0] 24)) ⟨#[]⟩ ⟨#[]⟩ 0 none 0 0 none 0 0:=by rw[←hG];exact bx_alloc wd _ _ _ _ _ _ _ _ _ _
  have hSx:Sf G (wd.alloc (.cells #[.string ⟨#[]⟩,.string ⟨#[]⟩,.int .i64 0,.slice none 0 0,.slice none 0 0] 24)):=by rw[←hG];exact sf_alloc wd _ _
  have hba:=al wd (.cells #[.string ⟨#[]⟩,.string ⟨#[]⟩,.int .i64 0,.slice none 0 0,.slice none 0 0] 24);have hg5:g<wd.heap.size:=Nat.lt_of_lt_of_le hg4 m2.size;have n0:=(hba.cell (p:=⟨g,off,none⟩) hg5).trans m0;have n1:=(hba.cell (p:=⟨g,off+1,none⟩) hg5).trans m1;have n2:Below w4.heap.size w4 (wd.alloc (.cells #[.string ⟨#[]⟩,.string ⟨#[]⟩,.int .i64 0,.slice none 0 0,.slice none 0 0] 24)):=Bel.call m2 hba;have hGg:w4.heap.size≤G:=by rw[←hG];exact m2.size
  generalize wd.alloc (.cells #[.string ⟨#[]⟩,.string ⟨#[]⟩,.int .i64 0,.slice none 0 0,.slice none 0 0] 24)=wx at *;try rw[hG]
  refine hK.out _ _ ⟨n0,n1,n2⟩ (fun hHeld=>?_);try simp only[Act.put,zq1,zq2,zq3]
  clear hHeld;obtain⟨x0,x1,x2,x3,x4,_⟩:=id hXx;obtain⟨g0,g1,g2,g3,g4⟩:=id hSx;refine zqR [12] ?_;refine zqC (fun K hK=>?_) AllReadyH.nil;go_simp;have hXS:=bx_set5 (o:=FA) (f:=FB) (ep:=IntKind.i64.wrap (n:Int)) (A:=A1) (n:=y1.length) (c:=c1) (B:=A2) (m:=y2.length) (d:=c2) hXx;have hcs:Below w4.heap.size w4 (((((wx.setCell ⟨G,0,none⟩ (.string FA)).setCell ⟨G,1,none⟩ (.string FB)).setCell ⟨G,2,none⟩ (.int .i64 (IntKind.i64.wrap (n:Int)))).setCell ⟨G,3,none⟩ (.slice A1 y1.length c1)).setCell ⟨G,4,none⟩ (.slice A2 y2.length c2)):=(((((n2.setCell (p:=⟨G,0,none⟩) hGg _).setCell (p:=⟨G,1,none⟩) hGg _).setCell (p:=⟨G,2,none⟩) hGg _).setCell (p:=⟨G,3,none⟩) hGg _).setCell (p:=⟨G,4,none⟩) hGg _)
  have p0:=(hcs.cell (p:=⟨g,off,none⟩) hg4).trans ((n2.cell (p:=⟨g,off,none⟩) hg4).symm.trans n0);have p1:=(hcs.cell (p:=⟨g,off+1,none⟩) hg4).trans ((n2.cell (p:=⟨g,off+1,none⟩) hg4).symm.trans n1);refine hK.out _ _ ⟨p0,p1,hcs⟩ (fun hHeld=>?_);try simp only[Act.put,zq1,zq2,zq3]
  clear hHeld x0 x1 x2 x3 x4 g0 g1 g2 g3 g4;generalize (((((wx.setCell ⟨G,0,none⟩ (.string FA)).setCell ⟨G,1,none⟩ (.string FB)).setCell ⟨G,2,none⟩ (.int .i64 (IntKind.i64.wrap (n:Int)))).setCell ⟨G,3,none⟩ (.slice A1 y1.length c1)).setCell ⟨G,4,none⟩ (.slice A2 y2.length c2))=w5 at *;refine wpAnyH_done (by kernel_rfl) ?_ _;rw[HW.out]at hXS;have HB5:=zh (Bel.call HB4.out hcs);have HR5:=zh (HR4.out.below hcs HR4.out.2.2.2.2.2);have HF5:=zh (HF4.out.below hcs HR4.out.2.2.2.2.2);have HX5:=zh hXS;replace HS1:=zh (HS1.out.below hcs zl);replace HS2:=zh (HS2.out.below hcs zl);clear m0 m1 m2 n0 n1 n2 p0 p1 hba hXx hSx hcs hXS hd4;obtain⟨d0,d1,d2,d3,d4,hG5⟩:=HX5.out;obtain rfl:R=⟨#[]⟩:=str_eq HRR.out;have HRT:=zh fun w h1 h2=>rright_any FA FB (n:Int) A1 c1 y1 A2 c2 y2 w h1 h2 (by rw[HFA.out,HFB.out,HY1.out,HY2.out];exact HFW.out)
  unfold RV at HRT;rw[HFA.out,HFB.out,HY1.out,HY2.out,decide_eq_false HRR6.out]at HRT;go_wp2_with fail;with_reducible refine(HRT.out _ HS1.out HS2.out).mono ?_
  rintro e6 w6 ⟨rfl,hb6⟩;have HB6:=zh (Bel.call HB5.out hb6);have HR6:=zh (HR5.out.below hb6 HR5.out.2.2.2.2.2);have HF6:=zh (HF5.out.below hb6 HR5.out.2.2.2.2.2);have HX6:=zh (HX5.out.below hb6 HX5.out.2.2.2.2.2);replace HS1:=zh (HS1.out.below hb6 zl);replace HS2:=zh (HS2.out.below hb6 zl);clear d0 d1 d2 d3 d4;obtain⟨d0,d1,d2,d3,d4,hG6⟩:=HX6.out;clear hb6;dsimp only;obtain⟨r0,r1,r2,r3,r4,_⟩:=HR6.out;obtain⟨f0,f1,f2,f3,f4⟩:=HF6.out;go_wp2;refine bodyPost_ret (v:=.tuple #[RV ⟨#[]⟩ ⟨#[]⟩ 0 none 0 0 none 0 0,.int .i64 2]) (by simp[results,Tryz.results50,go_sem,RV,r0,r1,r2,r3,r4]) rfl ?_;exact⟨⟨_,isX_zero _ _,rfl⟩,set5 HB6.out zl⟩
 ·rw[htake,if_neg (by rintro(h|h|h|h|h|h)<;>first|exact h rfl|exact absurd h h7|exact h hr)]
  have HRR6:=zh hr;clear htake;go_enter Tryz.func50,Tryz.ntmps50;go_wp2_with fail;with_reducible refine(refAllF_any s 5 4000 _ hs (by decide) (by decide)).mono ?_
  rw[HX.out];rintro e w1 ⟨⟨A0,k0,y0,hy0,hk0,hs0,_,rfl⟩,hb1⟩;have HB1:=zh (after_alloc (Below.refl _ w) hb1);have HR1:=zh (bx_first hb1);have HF1:=zh (sf_first hb1);clear hb1;dsimp only at hy0⊢;obtain⟨FA,FB,FC,FD,FE,rfl,hfa,hfb,hfc,hfd,hfe⟩:=bl_five hy0;obtain⟨g,off,rfl,hg1,l0,l1,l2,l3,l4⟩:=five_reads hs0;clear hs0 hy0 hk0;have zc:FC.size≤2000000:=by rw[Lib.size_eq,hfc];exact ZS.out c (by simp)
  have zd:FD.size≤2000000:=by rw[Lib.size_eq,hfd];exact ZS.out d (by simp)
  have ze:FE.size≤2000000:=by rw[Lib.size_eq,hfe];exact ZS.out e (by simp)
  have HFA:=zh hfa;have HFB:=zh hfb;have HFC:=zh hfc;have HFD:=zh hfd;have HFE:=zh hfe;clear hfa hfb hfc hfd hfe;have HC:=zh fun w=>refTake_any FC w (by omega)
  have HD:=zh fun w=>refAllF_any FD 5 4000 w (by omega) (by decide) (by decide)
  have HE:=zh fun w=>refAllF_any FE 5 4000 w (by omega) (by decide) (by decide)
  rw[HFC.out,HTC.out]at HC;rw[HFD.out,HTD.out]at HD;rw[HFE.out,HTE.out]at HE;go_wp2_with fail;with_reducible refine(HC.out _).mono ?_
  rintro e2 w2 ⟨⟨R,hR,rfl⟩,hb2⟩;have HB2:=zh (Bel.call HB1.out hb2);have HR2:=zh (HR1.out.below hb2 HR1.out.2.2.2.2.2);have HF2:=zh (HF1.out.below hb2 HR1.out.2.2.2.2.2);have hg2:g<w2.heap.size:=Nat.lt_of_lt_of_le hg1 hb2.size;replace l0:=(hb2.cell (p:=⟨g,off,none⟩) hg1).trans l0;replace l1:=(hb2.cell (p:=⟨g,off+1,none⟩) hg1).trans l1;replace l2:=(hb2.cell (p:=⟨g,off+2,none⟩) hg1).trans l2;replace l3:=(hb2.cell (p:=⟨g,off+3,none⟩) hg1).trans l3;replace l4:=(hb2.cell (p:=⟨g,off+4,none⟩) hg1).trans l4;have HRR:=zh hR;clear hR hb2;dsimp only;go_wp2_with fail;with_reducible refine(HD.out _).mono ?_
  rintro e3 w3 ⟨⟨A1,c1,y1,hy1,hc1,hs1,hn1,rfl⟩,hb3⟩;have HB3:=zh (Bel.call HB2.out hb3);have HR3:=zh (HR2.out.below hb3 HR2.out.2.2.2.2.2);have HF3:=zh (HF2.out.below hb3 HR2.out.2.2.2.2.2);have hg3:g<w3.heap.size:=Nat.lt_of_lt_of_le hg2 hb3.size;replace l0:=(hb3.cell (p:=⟨g,off,none⟩) hg2).trans l0;replace l1:=(hb3.cell (p:=⟨g,off+1,none⟩) hg2).trans l1;replace l2:=(hb3.cell (p:=⟨g,off+2,none⟩) hg2).trans l2;replace l3:=(hb3.cell (p:=⟨g,off+3,none⟩) hg2).trans l3;replace l4:=(hb3.cell (p:=⟨g,off+4,none⟩) hg2).trans l4;have HS1:=zh hs1;have HY1:=zh hy1
  have HN1:Hid (∀b off,A1=some ⟨b,off,none⟩→0<y1.length→w.heap.size≤b∧b≠w.heap.size):=fun b off h _=>by
   have h1:=hn1 b off h;have h2:=HR2.out.2.2.2.2.2;exact⟨by omega,by omega⟩
  clear hs1 hy1 hn1 hb3;dsimp only;go_wp2_with fail;with_reducible refine(HE.out _).mono ?_
  rintro e4 w4 ⟨⟨A2,c2,y2,hy2,hc2,hs2,hn2,rfl⟩,hb4⟩;have HB4:=zh (Bel.call HB3.out hb4);have HR4:=zh (HR3.out.below hb4 HR3.out.2.2.2.2.2);have HF4:=zh (HF3.out.below hb4 HR3.out.2.2.2.2.2);have hg4:g<w4.heap.size:=Nat.lt_of_lt_of_le hg3 hb4.size;replace l0:=(hb4.cell (p:=⟨g,off,none⟩) hg3).trans l0;replace l1:=(hb4.cell (p:=⟨g,off+1,none⟩) hg3).trans l1;replace l2:=(hb4.cell (p:=⟨g,off+2,none⟩) hg3).trans l2;replace l3:=(hb4.cell (p:=⟨g,off+3,none⟩) hg3).trans l3;replace l4:=(hb4.cell (p:=⟨g,off+4,none⟩) hg3).trans l4;have HS2:=zh hs2;have HY2:=zh hy2
  have HN2:Hid (∀b off,A2=some ⟨b,off,none⟩→0<y2.length→w.heap.size≤b∧b≠w.heap.size):=fun b off h _=>by
   have h1:=hn2 b off h;have h2:=HR3.out.2.2.2.2.2;exact⟨by omega,by omega⟩
  replace HS1:=zh (HS1.out.below hb4 zl);clear hs2 hy2 hn2 hb4;dsimp only;go_wp2_with fail;clear l2 l3 l4;have hd4:Below w4.heap.size w4 w4.drew:=Below.drewN' (Below.refl w4.heap.size w4) 1;refine wp_region_held_drew (S:=fun w'=>w'.cell? ⟨g,off,none⟩=some (.string FA)∧w'.cell? ⟨g,off+1,none⟩=some (.string FB)∧Below w4.heap.size w4 w') (by kernel_rfl) ⟨(hd4.cell (p:=⟨g,off,none⟩) hg4).trans l0,(hd4.cell (p:=⟨g,off+1,none⟩) hg4).trans l1,hd4⟩ (fun hHeld=>?_);clear l0 l1;refine zqT 0 ?_ ?_ ?_;rotate_left
  ·intro w' hSw;obtain⟨l0,l1,_⟩:=hSw;go_simp;try with_reducible rfl
  try simp only[Act.put,zq1,zq2,zq3]
  refine zqT 1 ?_ ?_ ?_;rotate_left
  ·intro w' hSw;obtain⟨l0,l1,_⟩:=hSw;go_simp;try with_reducible rfl
  try simp only[Act.put,zq1,zq2,zq3]
  refine zqT 2 ?_ ?_ ?_;rotate_left
  ·intro w' hSw;obtain⟨l0,l1,_⟩:=hSw;go_simp;try with_reducible rfl
  try simp only[Act.put,zq1,zq2,zq3]
  refine zqT 3 ?_ ?_ ?_;rotate_left
  ·intro w' hSw;obtain⟨l0,l1,_⟩:=hSw;go_simp;try with_reducible rfl
  try simp only[Act.put,zq1,zq2,zq3]
  refine zqT 4 ?_ ?_ ?_;rotate_left
  ·intro w' hSw;obtain⟨l0,l1,_⟩:=hSw;go_simp;try with_reducible rfl
  try simp only[Act.put,zq1,zq2,zq3]
  refine zqT 5 ?_ ?_ ?_;rotate_left
  ·intro w' hSw;obtain⟨l0,l1,_⟩:=hSw;go_simp;try with_reducible rfl
  try simp only[Act.put,zq1,zq2,zq3]
  refine zqT 6 ?_ ?_ ?_;rotate_left
  ·intro w' hSw;obtain⟨l0,l1,_⟩:=hSw;go_simp;try with_reducible rfl
  try simp only[Act.put,zq1,zq2,zq3]
  refine zqT 7 ?_ ?_ ?_;rotate_left
  ·intro w' hSw;obtain⟨l0,l1,_⟩:=hSw;go_simp;try with_reducible rfl
  try simp only[Act.put,zq1,zq2,zq3]
  refine zqT 8 ?_ ?_ ?_;rotate_left
  ·intro w' hSw;obtain⟨l0,l1,_⟩:=hSw;go_simp;try with_reducible rfl
  try simp only[Act.put,zq1,zq2,zq3]
  refine zqT 9 ?_ ?_ ?_;rotate_left
  ·intro w' hSw;obtain⟨l0,l1,_⟩:=hSw;go_simp;try with_reducible rfl
  try simp only[Act.put,zq1,zq2,zq3]
  refine zqT 10 ?_ ?_ ?_;rotate_left
  ·intro w' hSw;obtain⟨l0,l1,_⟩:=hSw;go_simp;try with_reducible rfl
  try simp only[Act.put,zq1,zq2,zq3]
  obtain⟨m0,m1,m2⟩:=hHeld;obtain⟨wd,hwd⟩:∃wd,w4.drew=wd:=⟨_,rfl⟩
  rw[hwd]at m0 m1 m2⊢;refine zqR [11] ?_;refine zqC (fun K hK=>?_) AllReadyH.nil;go_simp;obtain⟨G,hG⟩:∃G,wd.heap.size=G:=⟨_,rfl⟩
  have hXx:Bx G (wd.alloc (.cells #[.string ⟨#[]⟩,.string ⟨#[]⟩,.int .i64 0,.slice none 0 0,.slice none 0 0] 24)) ⟨#[]⟩ ⟨#[]⟩ 0 none 0 0 none 0 0:=by rw[←hG];exact bx_alloc wd _ _ _ _ _ _ _ _ _ _
  have hSx:Sf G (wd.alloc (.cells #[.string ⟨#[]⟩,.string ⟨#[]⟩,.int .i64 0,.slice none 0 0,.slice none 0 0] 24)):=by rw[←hG];exact sf_alloc wd _ _
  have hba:=al wd (.cells #[.string ⟨#[]⟩,.string ⟨#[]⟩,.int .i64 0,.slice none 0 0,.slice none 0 0] 24);have hg5:g<wd.heap.size:=Nat.lt_of_lt_of_le hg4 m2.size;have n0:=(hba.cell (p:=⟨g,off,none⟩) hg5).trans m0;have n1:=(hba.cell (p:=⟨g,off+1,none⟩) hg5).trans m1;have n2:Below w4.heap.size w4 (wd.alloc (.cells #[.string ⟨#[]⟩,.string ⟨#[]⟩,.int .i64 0,.slice none 0 0,.slice none 0 0] 24)):=Bel.call m2 hba;have hGg:w4.heap.size≤G:=by rw[←hG];exact m2.size
  generalize wd.alloc (.cells #[.string ⟨#[]⟩,.string ⟨#[]⟩,.int .i64 0,.slice none 0 0,.slice none 0 0] 24)=wx at *;try rw[hG]
  refine hK.out _ _ ⟨n0,n1,n2⟩ (fun hHeld=>?_);try simp only[Act.put,zq1,zq2,zq3]
  clear hHeld;obtain⟨x0,x1,x2,x3,x4,_⟩:=id hXx;obtain⟨g0,g1,g2,g3,g4⟩:=id hSx;refine zqR [12] ?_;refine zqC (fun K hK=>?_) AllReadyH.nil;go_simp;have hXS:=bx_set5 (o:=FA) (f:=FB) (ep:=IntKind.i64.wrap (n:Int)) (A:=A1) (n:=y1.length) (c:=c1) (B:=A2) (m:=y2.length) (d:=c2) hXx;have hcs:Below w4.heap.size w4 (((((wx.setCell ⟨G,0,none⟩ (.string FA)).setCell ⟨G,1,none⟩ (.string FB)).setCell ⟨G,2,none⟩ (.int .i64 (IntKind.i64.wrap (n:Int)))).setCell ⟨G,3,none⟩ (.slice A1 y1.length c1)).setCell ⟨G,4,none⟩ (.slice A2 y2.length c2)):=(((((n2.setCell (p:=⟨G,0,none⟩) hGg _).setCell (p:=⟨G,1,none⟩) hGg _).setCell (p:=⟨G,2,none⟩) hGg _).setCell (p:=⟨G,3,none⟩) hGg _).setCell (p:=⟨G,4,none⟩) hGg _)
  have p0:=(hcs.cell (p:=⟨g,off,none⟩) hg4).trans ((n2.cell (p:=⟨g,off,none⟩) hg4).symm.trans n0);have p1:=(hcs.cell (p:=⟨g,off+1,none⟩) hg4).trans ((n2.cell (p:=⟨g,off+1,none⟩) hg4).symm.trans n1);refine hK.out _ _ ⟨p0,p1,hcs⟩ (fun hHeld=>?_);try simp only[Act.put,zq1,zq2,zq3]
  clear hHeld x0 x1 x2 x3 x4 g0 g1 g2 g3 g4;generalize (((((wx.setCell ⟨G,0,none⟩ (.string FA)).setCell ⟨G,1,none⟩ (.string FB)).setCell ⟨G,2,none⟩ (.int .i64 (IntKind.i64.wrap (n:Int)))).setCell ⟨G,3,none⟩ (.slice A1 y1.length c1)).setCell ⟨G,4,none⟩ (.slice A2 y2.length c2))=w5 at *;refine wpAnyH_done (by kernel_rfl) ?_ _;rw[HW.out]at hXS;have HB5:=zh (Bel.call HB4.out hcs);have HR5:=zh (HR4.out.below hcs HR4.out.2.2.2.2.2);have HF5:=zh (HF4.out.below hcs HR4.out.2.2.2.2.2);have HX5:=zh hXS;replace HS1:=zh (HS1.out.below hcs zl);replace HS2:=zh (HS2.out.below hcs zl);clear m0 m1 m2 n0 n1 n2 p0 p1 hba hXx hSx hcs hXS hd4;obtain⟨d0,d1,d2,d3,d4,hG5⟩:=HX5.out;obtain rfl:R=⟨#[]⟩:=str_eq HRR.out;have HRT:=zh fun w h1 h2=>rright_any FA FB (n:Int) A1 c1 y1 A2 c2 y2 w h1 h2 (by rw[HFA.out,HFB.out,HY1.out,HY2.out];exact HFW.out)
  unfold RV at HRT;rw[HFA.out,HFB.out,HY1.out,HY2.out,decide_eq_true HRR6.out]at HRT;go_wp2_with fail;with_reducible refine(HRT.out _ HS1.out HS2.out).mono ?_
  rintro e6 w6 ⟨rfl,hb6⟩;have HB6:=zh (Bel.call HB5.out hb6);have HR6:=zh (HR5.out.below hb6 HR5.out.2.2.2.2.2);have HF6:=zh (HF5.out.below hb6 HR5.out.2.2.2.2.2);have HX6:=zh (HX5.out.below hb6 HX5.out.2.2.2.2.2);replace HS1:=zh (HS1.out.below hb6 zl);replace HS2:=zh (HS2.out.below hb6 zl);clear d0 d1 d2 d3 d4;obtain⟨d0,d1,d2,d3,d4,hG6⟩:=HX6.out;clear hb6;dsimp only;obtain⟨r0,r1,r2,r3,r4,_⟩:=HR6.out;obtain⟨f0,f1,f2,f3,f4⟩:=HF6.out;go_wp2;refine bodyPost_ret (v:=.tuple #[RV FA FB (n:Int) A1 y1.length c1 A2 y2.length c2,.int .i64 0]) (by simp[results,Tryz.results50,go_sem,RV,r0,r1,r2,r3,r4,HW.out]) rfl ?_;exact⟨⟨_,⟨FA,FB,A1,c1,y1,A2,c2,y2,rfl,by rw[HFA.out,HFB.out,HY1.out,HY2.out],sreads_setL5 HS1.out fun b off h h0=>(HN1.out b off h h0).2,sreads_setL5 HS2.out fun b off h h0=>(HN2.out b off h h0).2,hc1,hc2,fun b off h h0=>(HN1.out b off h h0).1,fun b off h h0=>(HN2.out b off h h0).1⟩,rfl⟩,set5 HB6.out zl⟩
end Go.Proofs.YtmihiknebelkbaaGreat.Rig
namespace Go.Proofs.YtmihiknebelkbaaGreat.Rig
open Go.RowKit Wire
def whoB:List ByteArray:=[⟨#[97,110,110,97]⟩,⟨#[98,101,110]⟩,⟨#[99,121]⟩,⟨#[100,111,114,97]⟩,⟨#[101,109,105,108]⟩,⟨#[195,164,109,105,108]⟩,⟨#[102,97,45,49]⟩,⟨#[103]⟩]
def whoN (m:Nat):ByteArray:=whoB.getD m ByteArray.empty
end Go.Proofs.YtmihiknebelkbaaGreat.Rig
namespace Go.Proofs.YtmihiknebelkbaaGreat.Rig
open Wire
end Go.Proofs.YtmihiknebelkbaaGreat.Rig
namespace Go.Proofs.YtmihiknebelkbaaGreat.Rig
open Go.RowKit Wire
def Off (gs:List Nat) (b:Nat):Prop:=b∉gs
theorem Re.mono {ok ok':Nat→Prop} {x:Rt×Int} {e:Ending} {w:World} (h:Re ok x e w) (hk:∀b,b<w.heap.size→ok b→ok' b):Re ok' x e w:=by
 obtain⟨v,h1,h2⟩:=h;exact⟨v,h1.mono hk,h2⟩
theorem isX_len {ok:Nat→Prop} {w:World} {o f:ByteArray} {ep:Int} {A:Option Addr} {n c:Nat} {B:Option Addr} {m d:Nat} {r:Rt} (h:IsX ok w (.agg #[.string o,.string f,.int .i64 ep,.slice A n c,.slice B m d]) r):n=r.rs.length∧m=r.ws.length∧ep=r.ep∧o.data.toList=r.o∧f.data.toList=r.f:=by
 obtain⟨o2,f2,A2,c2,rs,B2,d2,ws,h1,h2,_⟩:=h;unfold RV at h1;simp only[Value.agg.injEq,Array.mk.injEq,List.cons.injEq,Value.string.injEq,Value.int.injEq,Value.slice.injEq,true_and,and_true]at h1;obtain⟨rfl,rfl,e,⟨_,rfl,_⟩,_,rfl,_⟩:=h1;have h3:=congrArg Rt.rs h2;have h4:=congrArg Rt.ws h2;have h5:=congrArg Rt.o h2;have h6:=congrArg Rt.f h2;simp only at h3 h4 h5 h6;exact⟨by rw[h3,bl_len],by rw[h4,bl_len],e,h5.symm,h6.symm⟩
theorem isX_lit {ok:Nat→Prop} {w:World} {v:Value} {r:Rt} (h:IsX ok w v r):∃(o f:ByteArray) (ep:Int) (A:Option Addr) (n c:Nat) (B:Option Addr) (m d:Nat),v = .agg #[.string o,.string f,.int .i64 ep,.slice A n c,.slice B m d] ∧
 ep=r.ep∧n=r.rs.length∧m=r.ws.length∧o.data.toList=r.o∧f.data.toList=r.f∧IsX ok w (.agg #[.string o,.string f,.int .i64 ep,.slice A n c,.slice B m d]) r:=by
 obtain⟨o,f,A,c,rs,B,d,ws,rfl,h2⟩:=id h;obtain⟨h3,h4,_,h5,h6⟩:=isX_len (show IsX ok w (.agg #[.string o,.string f,.int .i64 r.ep,.slice A rs.length c,.slice B ws.length d]) r from h);exact⟨o,f,_,A,_,c,B,_,d,rfl,rfl,h3,h4,h5,h6,h⟩
def HoldL (gs:List Nat) (g:Nat) (w:World) (o f:ByteArray) (ep:Int) (A:Option Addr) (n c:Nat) (B:Option Addr) (m d:Nat) (r:Rt):Prop:=
 Bx g w o f ep A n c B m d∧Sf g w∧IsX (Off gs) w (.agg #[.string o,.string f,.int .i64 ep,.slice A n c,.slice B m d]) r
section
variable {gs:List Nat} {g:Nat} {w w':World} {o f:ByteArray} {ep:Int} {A:Option Addr} {n c:Nat} {B:Option Addr} {m d:Nat} {r:Rt}
theorem HoldL.lt (h:HoldL gs g w o f ep A n c B m d r):g<w.heap.size:=h.1.2.2.2.2.2
theorem HoldL.isR (h:HoldL gs g w o f ep A n c B m d r):IsR w (.agg #[.string o,.string f,.int .i64 ep,.slice A n c,.slice B m d]) r:=h.2.2.isR
theorem HoldL.call (h:HoldL gs g w o f ep A n c B m d r) (hb:Below w.heap.size w w'):HoldL gs g w' o f ep A n c B m d r:=
 ⟨h.1.below hb h.lt,h.2.1.below hb h.lt,h.2.2.below hb zl⟩
theorem HoldL.sub {gs':List Nat} (h:HoldL gs g w o f ep A n c B m d r) (hs:∀b∈gs',b∈gs):HoldL gs' g w o f ep A n c B m d r:=⟨h.1,h.2.1,h.2.2.mono fun b _ hb hm=>hb (hs b hm)⟩
theorem isX_more {g':Nat} {v:Value} (h:IsX (Off gs) w v r) (hg:w.heap.size≤g'):IsX (Off (g'::gs)) w v r:=
 h.mono fun b hlt hb hm=>by
  rcases List.mem_cons.1 hm with rfl|hm
  ·omega
  ·exact hb hm
theorem HoldL.more {g':Nat} (h:HoldL gs g w o f ep A n c B m d r) (hg:w.heap.size≤g'):HoldL (g'::gs) g w o f ep A n c B m d r:=⟨h.1,h.2.1,isX_more h.2.2 hg⟩
theorem HoldL.new {ob:Obj} (h:HoldL gs g w o f ep A n c B m d r):HoldL (w.heap.size::gs) g (w.alloc ob) o f ep A n c B m d r:=(h.more zl).call (al w ob)
theorem isX_set5 {G:Nat} (hG:G∈gs) {v v0 v1 v2 v3 v4:Value} (h:IsX (Off gs) w v r):IsX (Off gs) (((((w.setCell ⟨G,0,none⟩ v0).setCell ⟨G,1,none⟩ v1).setCell ⟨G,2,none⟩ v2).setCell ⟨G,3,none⟩ v3).setCell ⟨G,4,none⟩ v4) v r:=by
 obtain⟨o,f,A,c,rs,B',d,ws,h1,h2,h3,h4,h5,h6,h7,h8⟩:=h;refine⟨o,f,A,c,rs,B',d,ws,h1,h2,sreads_setL5 h3 fun b off e h0 e2=>?_,sreads_setL5 h4 fun b off e h0 e2=>?_,h5,h6,h7,h8⟩
 ·subst e2;exact h7 b off e h0 hG
 ·subst e2;exact h8 b off e h0 hG
theorem cell_set5 {G:Nat} {v0 v1 v2 v3 v4:Value} {j:Nat} (h:g≠G):(((((w.setCell ⟨G,0,none⟩ v0).setCell ⟨G,1,none⟩ v1).setCell ⟨G,2,none⟩ v2).setCell ⟨G,3,none⟩ v3).setCell ⟨G,4,none⟩ v4).cell? ⟨g,j,none⟩=w.cell? ⟨g,j,none⟩:=by
 have e:∀i,(⟨G,i,none⟩:Addr)≠⟨g,j,none⟩:=fun i e=>h (by injection e with e1 _ _;exact e1.symm)
 rw[World.cell?_setCell_other _ _ _ _ (e 4),World.cell?_setCell_other _ _ _ _ (e 3),World.cell?_setCell_other _ _ _ _ (e 2),World.cell?_setCell_other _ _ _ _ (e 1),World.cell?_setCell_other _ _ _ _ (e 0)]
theorem HoldL.set5 {G:Nat} (hG:G∈gs) (hne:g≠G) {v0 v1 v2 v3 v4:Value} (h:HoldL gs g w o f ep A n c B m d r):HoldL gs g (((((w.setCell ⟨G,0,none⟩ v0).setCell ⟨G,1,none⟩ v1).setCell ⟨G,2,none⟩ v2).setCell ⟨G,3,none⟩ v3).setCell ⟨G,4,none⟩ v4) o f ep A n c B m d r:=by
 obtain⟨h1,h2,h3⟩:=h;obtain⟨b0,b1,b2,b3,b4,b5⟩:=h1;obtain⟨f0,f1,f2,f3,f4⟩:=h2;exact⟨⟨(cell_set5 hne).trans b0,(cell_set5 hne).trans b1,(cell_set5 hne).trans b2,(cell_set5 hne).trans b3,(cell_set5 hne).trans b4,by simpa[World.setCell]using b5⟩,⟨by simpa using f0,by simpa using f1,by simpa using f2,by simpa using f3,by simpa using f4⟩,isX_set5 hG h3⟩
end
end Go.Proofs.YtmihiknebelkbaaGreat.Rig
