/-
  MBody. By an AI agent.
-/
import Derived.Test.YtmihiknebelkbaaGreatOZ
import Derived.Test.YtmihiknebelkbaaGreatOMRight
import Derived.Test.YtmihiknebelkbaaGreatOMApp
import Derived.Test.YtmihiknebelkbaaGreatOMBack
import Derived.Test.YtmihiknebelkbaaGreatOW1
import Derived.Test.YtmihiknebelkbaaGreatOG2
set_option linter.unusedSimpArgs false
set_option maxHeartbeats 8000000
namespace Go.Proofs.YtmihiknebelkbaaGreat.Mta
open Go.RowKit Wire Term Rig
theorem lit1_reads8 (W:World) (a0:ByteArray) (g:Nat) (hg:g=W.heap.size):SReads (W.alloc (.cells #[.string a0] 9)) (some ⟨g,0,none⟩) [a0]:=by
 subst hg;intro j hj;refine⟨_,0,rfl,by simp,?_⟩;have h:∀i,(W.alloc (.cells #[.string a0] 9)).cell? ⟨W.heap.size,i,none⟩=(#[.string a0]:Array Value)[i]?:=fun i=>cell_of_row _ _ _ _ _ (0,0) (heap_alloc_new W _)
 rw[h,Nat.zero_add];have:j=0:=by simp at hj;omega
 rcases this with rfl<;>rfl
theorem lit2_reads8 (W:World) (a0 a1:ByteArray) (g:Nat) (hg:g=W.heap.size):SReads (W.alloc (.cells #[.string a0,.string a1] 9)) (some ⟨g,0,none⟩) [a0,a1]:=by
 subst hg;intro j hj;refine⟨_,0,rfl,by simp,?_⟩;have h:∀i,(W.alloc (.cells #[.string a0,.string a1] 9)).cell? ⟨W.heap.size,i,none⟩=(#[.string a0,.string a1]:Array Value)[i]?:=fun i=>cell_of_row _ _ _ _ _ (0,0) (heap_alloc_new W _)
 rw[h,Nat.zero_add];have:j=0∨j=1:=by simp at hj;omega
 rcases this with rfl|rfl<;>rfl
theorem lit4_reads8 (W:World) (a0 a1 a2 a3:ByteArray) (g:Nat) (hg:g=W.heap.size):SReads (W.alloc (.cells #[.string a0,.string a1,.string a2,.string a3] 9)) (some ⟨g,0,none⟩) [a0,a1,a2,a3]:=by
 subst hg;intro j hj;refine⟨_,0,rfl,by simp,?_⟩;have h:∀i,(W.alloc (.cells #[.string a0,.string a1,.string a2,.string a3] 9)).cell? ⟨W.heap.size,i,none⟩=(#[.string a0,.string a1,.string a2,.string a3]:Array Value)[i]?:=fun i=>cell_of_row _ _ _ _ _ (0,0) (heap_alloc_new W _)
 rw[h,Nat.zero_add];have:j=0∨j=1∨j=2∨j=3:=by simp at hj;omega
 rcases this with rfl|rfl|rfl|rfl<;>rfl
theorem flat_k {k:Nat}:∀(l:List Tm),(∀t∈l,t.length≤k)→l.flatten.length≤l.length*k
 | [],_=>by simp
 | t::l,h=>by
  have h1:=h t (by simp);have h2:=flat_k l fun x hx=>h x (by simp[hx])
  rw[List.flatten_cons,List.length_append,List.length_cons,Nat.add_mul];omega
set_option maxRecDepth 1000000 in
theorem body_any (o f sig:ByteArray) (ep:Int) (A:Option Addr) (c:Nat) (rs:List ByteArray) (B:Option Addr) (d:Nat) (ws:List ByteArray) (ver:Nat) (V:Option Addr) (cv:Nat) (vs:List ByteArray) (K:Option Addr) (ck:Nat) (ks:List (ByteArray×ByteArray)) (w:World) (hA:SReads w A rs) (hB:SReads w B ws) (hV:SReads w V vs) (hK:PReads w K ks) (hf:FewM ⟨⟨o.data.toList,f.data.toList,ep,bl rs,bl ws⟩,ver,bl vs,pl ks,sig.data.toList⟩) (hr:RR ⟨o.data.toList,f.data.toList,ep,bl rs,bl ws⟩):
 Calls Tryz.prog 43 #[.agg #[.string o,.string f,.int .i64 ep,.slice A rs.length c,.slice B ws.length d,.int .u64 (ver:Int),.slice V vs.length cv,.slice K ks.length ck,.string sig]] w fun e w'=>St (bodyB ⟨⟨o.data.toList,f.data.toList,ep,bl rs,bl ws⟩,ver,bl vs,pl ks,sig.data.toList⟩) e∧Below w.heap.size w w':=by
 obtain⟨hf1,hf2,hf3,hf4,hf5,hf6,hf7⟩:=hf;simp only at hf1 hf2 hf3 hf4 hf5 hf6 hf7;rw[bl_len]at hf2;rw[pl_len]at hf3;have hrow:=row_small hr;have hvl:=putAll_most (k:=1100000) (n:=40) (by omega) (l:=bl vs) (by rw[bl_len];exact hf2) (by omega) hf4
 have hkl:=putAll_most (k:=2300000) (n:=40) (by omega) (l:=(pl ks).map fun b=>putAll [b.1,b.2]) (by rw[List.length_map,pl_len];exact hf3) (by omega) fun t ht=>by
  obtain⟨b,hb,rfl⟩:=List.mem_map.1 ht
  have h:=putAll_most (k:=1100000) (n:=2) (by omega) (l:=[b.1,b.2]) (by simp) (by omega) fun t ht=>by
   have h5:=hf5 b hb;have:t=b.1∨t=b.2:=by simpa using ht
   rcases this with rfl|rfl<;>omega
  omega
 have hvf:=flat_k _ hf4;rw[bl_len]at hvf;have hvn:=Nat.mul_le_mul_right 1100000 hf2;have hpl:=(put_le hf7).2;have HA:=zh hA;have HBB:=zh hB;have HV:=zh hV;have HK:=zh hK;have HPT:=zh fun w h1 h2=>rput_any o f ep A c rs B d ws w h1 h2 hf1
 rw[show putR ⟨o.data.toList,f.data.toList,ep,bl rs,bl ws⟩=(rowR ⟨o.data.toList,f.data.toList,ep,bl rs,bl ws⟩,0)by unfold putR;rw[if_pos hr]]at HPT;unfold RV Srt at HPT;simp only at HPT;have HPV:=zh fun w=>refPut_any ver w hf7
 have HL1:=zh fun w h=>refPutAll_any V cv vs w h (by omega) (by omega)
 have HPP:Hid (∀(u x:ByteArray) (g:Nat) (w:World),u.data.toList.length≤1100000→x.data.toList.length≤1100000→SReads w (some ⟨g,0,none⟩) [u,x]→Calls Tryz.prog 25 #[.slice (some ⟨g,0,none⟩) 2 2] w fun e w'=>St (putAll [u.data.toList,x.data.toList]) e∧Below w.heap.size w w'):=fun u x g w h1 h2 hr=>
  refPutAll_any (some ⟨g,0,none⟩) 2 [u,x] w hr (by simp) (by simp[bl]at *;omega)
 have HL3:Hid (∀(a:Option Addr) (n cap:Nat) (ys:List ByteArray) (w:World),n=ys.length→ys.length≤40→bl ys=(pl ks).map (fun b=>putAll [b.1,b.2])→SReads w a ys→Calls Tryz.prog 25 #[.slice a n cap] w fun e w'=>St (putAll ((pl ks).map fun b=>putAll [b.1,b.2])) e∧Below w.heap.size w w'):=fun a n cap ys w hn hl he hr=>by
  have h:=refPutAll_any a cap ys w hr (by omega) (by
   rw[he]
   have h:=flat_k (k:=2300000) ((pl ks).map fun b=>putAll [b.1,b.2]) fun t ht=>by
    obtain⟨b,hb,rfl⟩:=List.mem_map.1 ht
    have h:=putAll_most (k:=1100000) (n:=2) (by omega) (l:=[b.1,b.2]) (by simp) (by omega) fun t ht=>by
     have h5:=hf5 b hb;have:t=b.1∨t=b.2:=by simpa using ht
     rcases this with rfl|rfl<;>omega
    omega
   rw[List.length_map,pl_len]at h;have:=Nat.mul_le_mul_right 2300000 hf3
   omega)
  rw[he,←hn]at h;exact h
 have HL4:Hid (∀(P P1 P2 P3:ByteArray) (g:Nat) (w:World),P.data.toList=rowR ⟨o.data.toList,f.data.toList,ep,bl rs,bl ws⟩→P1.data.toList=put ver→P2.data.toList=putAll (bl vs)→P3.data.toList=putAll ((pl ks).map fun b=>putAll [b.1,b.2])→SReads w (some ⟨g,0,none⟩) [P,P1,P2,P3]→Calls Tryz.prog 25 #[.slice (some ⟨g,0,none⟩) 4 4] w fun e w'=>St (bodyB ⟨⟨o.data.toList,f.data.toList,ep,bl rs,bl ws⟩,ver,bl vs,pl ks,sig.data.toList⟩) e∧Below w.heap.size w w'):=fun P P1 P2 P3 g w e0 e1 e2 e3 hr=>by
  have eb:bl [P,P1,P2,P3] = [rowR ⟨o.data.toList,f.data.toList,ep,bl rs,bl ws⟩,put ver,putAll (bl vs),putAll ((pl ks).map fun b=>putAll [b.1,b.2])]:=by
   show[P.data.toList,P1.data.toList,P2.data.toList,P3.data.toList]=_
   rw[e0,e1,e2,e3]
  have h:=refPutAll_any (some ⟨g,0,none⟩) 4 [P,P1,P2,P3] w hr (by simp) (by
   rw[eb];simp only[List.flatten_cons,List.flatten_nil,List.length_append,List.length_nil]
   omega)
  rw[eb]at h;exact h
 have HF5:Hid (∀k (_:k<ks.length),(ks.getD k default).1.data.toList.length≤1100000∧(ks.getD k default).2.data.toList.length≤1100000):=fun k hk=>hf5 _ (List.mem_of_getElem? (pl_at hk))
 clear hA hB hV hK hf1 hf4 hf5 hf6 hf7 hrow hvl hkl hvf hvn hpl hr;go_enter Tryz.func43,Tryz.ntmps43;go_wp2_with fail;have hmx:=mx_alloc w o f ep A rs.length c B ws.length d ver V vs.length cv K ks.length ck sig 37;have hb0:=al w (.cells #[.string o,.string f,.int .i64 ep,.slice A rs.length c,.slice B ws.length d,.int .u64 (ver:Int),.slice V vs.length cv,.slice K ks.length ck,.string sig] 37);have HB:=zh hb0;have HMX:=zh hmx;clear hmx hb0;obtain⟨g,hg⟩:∃g,w.heap.size=g:=⟨_,rfl⟩
 generalize w.alloc (.cells #[.string o,.string f,.int .i64 ep,.slice A rs.length c,.slice B ws.length d,.int .u64 (ver:Int),.slice V vs.length cv,.slice K ks.length ck,.string sig] 37)=w1 at HB HMX⊢;rw[hg]at HMX⊢;clear hg;with_reducible refine(HPT.out _ (HA.out.below HB.out zl) (HBB.out.below HB.out zl)).mono ?_
 rintro e w2 ⟨⟨P,hP,rfl⟩,hb2⟩;have HB2:=zh (Bel.call HB.out hb2);replace HMX:=zh (HMX.out.call hb2);clear hb2 HB;have HP:=zh hP;clear hP;dsimp only;go_wp2_with fail;go_loopw [5,6] (fun v i wr=>∃k:Nat,k≤ks.length∧i = .int .i64 (k:Int)∧Hid (∃ys:List ByteArray,wr.ownsRow w2.heap.size 9 1 v k (sv ys)∧ys.length=k∧bl ys=((pl ks).take k).map (fun b=>putAll [b.1,b.2]))∧Hid (Below w2.heap.size w2 wr)) (fun _ i _=>ks.length-(intOf i).toNat);case atStart=>exact⟨0,Nat.zero_le _,rfl,zh ⟨[],⟨by simp[sv],.inl ⟨rfl,rfl⟩⟩,rfl,rfl⟩,zh (Below.refl _ _)⟩
 case round=>
  obtain⟨k,hk,rfl,HS,HBJ⟩:=hrel;obtain⟨ys,hown,hyl,hyb⟩:=HS.out;clear HS;have HMJ:=zh (HMX.out.call HBJ.out);obtain⟨⟨m0,m1,m2,m3,m4,m5,m6,m7,m8⟩,_⟩:=HMJ.out;by_cases hlt:(k:Int)<(ks.length:Int)
  ·obtain⟨b2,off2,rfl,hbl2,hcl2,hcl3⟩:=(HK.out.below HB2.out zl) k (by omega)
   have hkk:k<ks.length:=by omega
   obtain⟨h51,h52⟩:=HF5.out k hkk;have hpg:=pl_get hkk;obtain⟨u,x,hux⟩:∃u x,ks.getD k default=(u,x):=⟨_,_,rfl⟩
   rw[hux]at hcl2 hcl3 h51 h52 hpg;simp only at hcl2 hcl3 h51 h52 hpg;have HPG:=zh hpg;have HC2:=zh hcl2;have HC3:=zh hcl3;have HL2:=zh hbl2;clear hux hpg hcl2 hcl3 hbl2;go_wp2_with fail;have ha0:Below wr.heap.size wr wr.drew:=Below.drewN' (Below.refl _ _) 1;have hs0:=Bel.call HBJ.out ha0;obtain⟨wd,hwd⟩:∃W,wr.drew=W:=⟨_,rfl⟩
   refine wp_region_held_drew (S:=fun w'=>Below w2.heap.size w2 w') (by kernel_rfl) hs0 (fun hHeld=>?_);rw[hwd]at hHeld ha0 hs0⊢;clear hwd;clear m0 m1 m2 m3 m4 m5 m6 m7 m8;refine zqT 0 ?_ ?_ ?_;rotate_left
   ·intro w' hSw;have hk2:=(hSw.cell (p:=⟨b2,off2+k*2,none⟩) HL2.out).trans HC2.out;have hk3:=(hSw.cell (p:=⟨b2,off2+k*2+1,none⟩) HL2.out).trans HC3.out;obtain⟨⟨m0,m1,m2,m3,m4,m5,m6,m7,m8⟩,_⟩:=HMX.out.call hSw;go_simp;try with_reducible rfl
   try simp only[Act.put,zq1,zq2,zq3]
   refine zqT 1 ?_ ?_ ?_;rotate_left
   ·intro w' hSw;have hk2:=(hSw.cell (p:=⟨b2,off2+k*2,none⟩) HL2.out).trans HC2.out;have hk3:=(hSw.cell (p:=⟨b2,off2+k*2+1,none⟩) HL2.out).trans HC3.out;obtain⟨⟨m0,m1,m2,m3,m4,m5,m6,m7,m8⟩,_⟩:=HMX.out.call hSw;go_simp;try with_reducible rfl
   try simp only[Act.put,zq1,zq2,zq3]
   refine zqT 2 ?_ ?_ ?_;rotate_left
   ·intro w' hSw;have hk2:=(hSw.cell (p:=⟨b2,off2+k*2,none⟩) HL2.out).trans HC2.out;have hk3:=(hSw.cell (p:=⟨b2,off2+k*2+1,none⟩) HL2.out).trans HC3.out;obtain⟨⟨m0,m1,m2,m3,m4,m5,m6,m7,m8⟩,_⟩:=HMX.out.call hSw;go_simp;try with_reducible rfl
   try simp only[Act.put,zq1,zq2,zq3]
   refine zqT 3 ?_ ?_ ?_;rotate_left
   ·intro w' hSw;have hk2:=(hSw.cell (p:=⟨b2,off2+k*2,none⟩) HL2.out).trans HC2.out;have hk3:=(hSw.cell (p:=⟨b2,off2+k*2+1,none⟩) HL2.out).trans HC3.out;obtain⟨⟨m0,m1,m2,m3,m4,m5,m6,m7,m8⟩,_⟩:=HMX.out.call hSw;go_simp;try with_reducible rfl
   try simp only[Act.put,zq1,zq2,zq3]
   refine zqT 4 ?_ ?_ ?_;rotate_left
   ·intro w' hSw;have hk2:=(hSw.cell (p:=⟨b2,off2+k*2,none⟩) HL2.out).trans HC2.out;have hk3:=(hSw.cell (p:=⟨b2,off2+k*2+1,none⟩) HL2.out).trans HC3.out;obtain⟨⟨m0,m1,m2,m3,m4,m5,m6,m7,m8⟩,_⟩:=HMX.out.call hSw;go_simp;try with_reducible rfl
   try simp only[Act.put,zq1,zq2,zq3]
   refine zqT 5 ?_ ?_ ?_;rotate_left
   ·intro w' hSw;have hk2:=(hSw.cell (p:=⟨b2,off2+k*2,none⟩) HL2.out).trans HC2.out;have hk3:=(hSw.cell (p:=⟨b2,off2+k*2+1,none⟩) HL2.out).trans HC3.out;obtain⟨⟨m0,m1,m2,m3,m4,m5,m6,m7,m8⟩,_⟩:=HMX.out.call hSw;go_simp;try with_reducible rfl
   try simp only[Act.put,zq1,zq2,zq3]
   refine zqT 6 ?_ ?_ ?_;rotate_left
   ·intro w' hSw;have hk2:=(hSw.cell (p:=⟨b2,off2+k*2,none⟩) HL2.out).trans HC2.out;have hk3:=(hSw.cell (p:=⟨b2,off2+k*2+1,none⟩) HL2.out).trans HC3.out;obtain⟨⟨m0,m1,m2,m3,m4,m5,m6,m7,m8⟩,_⟩:=HMX.out.call hSw;go_simp;try with_reducible rfl
   try simp only[Act.put,zq1,zq2,zq3]
   refine zqT 7 ?_ ?_ ?_;rotate_left
   ·intro w' hSw;have hk2:=(hSw.cell (p:=⟨b2,off2+k*2,none⟩) HL2.out).trans HC2.out;have hk3:=(hSw.cell (p:=⟨b2,off2+k*2+1,none⟩) HL2.out).trans HC3.out;obtain⟨⟨m0,m1,m2,m3,m4,m5,m6,m7,m8⟩,_⟩:=HMX.out.call hSw;go_simp;try with_reducible rfl
   try simp only[Act.put,zq1,zq2,zq3]
   refine zqT 8 ?_ ?_ ?_;rotate_left
   ·intro w' hSw;have hk2:=(hSw.cell (p:=⟨b2,off2+k*2,none⟩) HL2.out).trans HC2.out;have hk3:=(hSw.cell (p:=⟨b2,off2+k*2+1,none⟩) HL2.out).trans HC3.out;obtain⟨⟨m0,m1,m2,m3,m4,m5,m6,m7,m8⟩,_⟩:=HMX.out.call hSw;go_simp;try with_reducible rfl
   try simp only[Act.put,zq1,zq2,zq3]
   refine zqT 9 ?_ ?_ ?_;rotate_left
   ·intro w' hSw;have hk2:=(hSw.cell (p:=⟨b2,off2+k*2,none⟩) HL2.out).trans HC2.out;have hk3:=(hSw.cell (p:=⟨b2,off2+k*2+1,none⟩) HL2.out).trans HC3.out;obtain⟨⟨m0,m1,m2,m3,m4,m5,m6,m7,m8⟩,_⟩:=HMX.out.call hSw;go_simp;try with_reducible rfl
   try simp only[Act.put,zq1,zq2,zq3]
   refine zqT 10 ?_ ?_ ?_;rotate_left
   ·intro w' hSw;have hk2:=(hSw.cell (p:=⟨b2,off2+k*2,none⟩) HL2.out).trans HC2.out;have hk3:=(hSw.cell (p:=⟨b2,off2+k*2+1,none⟩) HL2.out).trans HC3.out;obtain⟨⟨m0,m1,m2,m3,m4,m5,m6,m7,m8⟩,_⟩:=HMX.out.call hSw;go_simp;try with_reducible rfl
   try simp only[Act.put,zq1,zq2,zq3]
   refine zqT 11 ?_ ?_ ?_;rotate_left
   ·intro w' hSw;have hk2:=(hSw.cell (p:=⟨b2,off2+k*2,none⟩) HL2.out).trans HC2.out;have hk3:=(hSw.cell (p:=⟨b2,off2+k*2+1,none⟩) HL2.out).trans HC3.out;obtain⟨⟨m0,m1,m2,m3,m4,m5,m6,m7,m8⟩,_⟩:=HMX.out.call hSw;go_simp;try with_reducible rfl
   try simp only[Act.put,zq1,zq2,zq3]
   refine zqT 12 ?_ ?_ ?_;rotate_left
   ·intro w' hSw;have hk2:=(hSw.cell (p:=⟨b2,off2+k*2,none⟩) HL2.out).trans HC2.out;have hk3:=(hSw.cell (p:=⟨b2,off2+k*2+1,none⟩) HL2.out).trans HC3.out;obtain⟨⟨m0,m1,m2,m3,m4,m5,m6,m7,m8⟩,_⟩:=HMX.out.call hSw;go_simp;try with_reducible rfl
   try simp only[Act.put,zq1,zq2,zq3]
   clear hHeld;refine zqR [13] ?_;refine zqC (fun K hK=>?_) AllReadyH.nil;go_simp;have ha1:=ha0.alloc ha0.size (.cells #[.string u,.string x] 9);have hs1:=Bel.call HBJ.out ha1;refine hK.out _ _ hs1 (fun hHeld=>?_);try simp only[Act.put,zq1,zq2,zq3]
   clear hHeld;refine zqR [14] ?_;refine zqC (fun K hK=>?_) AllReadyH.nil;go_simp;go_at_call 25;with_reducible refine(HPP.out u x _ _ h51 h52 (lit2_reads8 wd u x _ rfl)).mono ?_
   rintro e w5 ⟨⟨T,hT,rfl⟩,hb5⟩;have ha5:=Bel.call ha1 hb5;have hs5:=Bel.call HBJ.out ha5;clear hb5;dsimp only;refine hK.out _ _ hs5 (fun hHeld=>?_);try simp only[Act.put,zq1,zq2,zq3]
   clear hHeld;refine zqR [15] ?_;refine zqC (fun K hK=>?_) AllReadyH.nil;go_simp;have ha6:=ha5.alloc ha5.size (.cells #[.string T] 9);have hs6:=Bel.call HBJ.out ha6;refine hK.out _ _ hs6 (fun hHeld=>?_);try simp only[Act.put,zq1,zq2,zq3]
   clear hHeld;refine zqR [16] ?_;refine zqC (fun K hK=>?_) AllReadyH.nil;rw[if_pos (by rfl)];refine wp_append_strs _ _ rfl w2.heap.size _ k ys [T] rfl (own_below hown ha6 zl) hyl.symm (some ⟨w5.heap.size,0,none⟩) 1 1 rfl rfl (fun h=>by cases h) (lit1_reads8 w5 T _ rfl) (by simp;omega) hs6.size ?_;intro v7 w7 hown7 hb7;have hs7:=hs6.trans hb7;clear hb7;refine hK.out _ _ hs7 (fun hHeld=>?_);try simp only[Act.put,zq1,zq2,zq3]
   refine zqT 17 ?_ ?_ ?_;rotate_left
   ·intro w' hSw;have hk2:=(hSw.cell (p:=⟨b2,off2+k*2,none⟩) HL2.out).trans HC2.out;have hk3:=(hSw.cell (p:=⟨b2,off2+k*2+1,none⟩) HL2.out).trans HC3.out;obtain⟨⟨m0,m1,m2,m3,m4,m5,m6,m7,m8⟩,_⟩:=HMX.out.call hSw;go_simp;try with_reducible rfl
   try simp only[Act.put,zq1,zq2,zq3]
   clear hHeld;refine wpAnyH_done (by kernel_rfl) ?_ _;have HO7:=zh hown7;have HS7:=zh hs7;have HT:=zh hT;have HYL:=zh hyl;have HYB:=zh hyb;clear hown7 hs7 hT hyl hyb hown ha0 hs0 ha1 hs1 ha5 hs5 ha6 hs6;go_wp2;go_roundw;case rel=>exact⟨k+1,by omega,by go_num,zh ⟨ys++[T],HO7.out,by rw[List.length_append,HYL.out];rfl,by rw[bl_app,HYB.out,HPG.out,List.map_append,List.map_cons,List.map_nil,←HT.out];rfl⟩,HS7⟩
   case measure=>simp[intOf];omega
  ·obtain⟨A3,c3,rfl,hk3,hs3,hc3,hf3⟩:=own_part hown
   have hyall:bl ys=(pl ks).map (fun b=>putAll [b.1,b.2]):=by
    rw[hyb,List.take_of_length_le (by rw[pl_len];omega)]
   have HYS:=zh hs3;have HYA:=zh hyall;have HYK:=zh hk3;have hy40:ys.length≤40:=by omega
   clear hown hc3 hf3 hs3 hyall hyb hk3 hyl;go_wp2_with fail;have ha0:Below wr.heap.size wr wr.drew:=Below.drewN' (Below.refl _ _) 1;have hs0:=Bel.call HBJ.out ha0;obtain⟨wd,hwd⟩:∃W,wr.drew=W:=⟨_,rfl⟩
   refine wp_region_held_drew (S:=fun w'=>Below w2.heap.size w2 w') (by kernel_rfl) hs0 (fun hHeld=>?_);rw[hwd]at hHeld ha0 hs0⊢;clear hwd;clear m0 m1 m2 m3 m4 m5 m6 m7 m8;refine zqT 0 ?_ ?_ ?_;rotate_left
   ·intro w' hSw;obtain⟨⟨m0,m1,m2,m3,m4,m5,m6,m7,m8⟩,_⟩:=HMX.out.call hSw;go_simp;try with_reducible rfl
   try simp only[Act.put,zq1,zq2,zq3]
   refine zqT 1 ?_ ?_ ?_;rotate_left
   ·intro w' hSw;obtain⟨⟨m0,m1,m2,m3,m4,m5,m6,m7,m8⟩,_⟩:=HMX.out.call hSw;go_simp;try with_reducible rfl
   try simp only[Act.put,zq1,zq2,zq3]
   refine zqT 2 ?_ ?_ ?_;rotate_left
   ·intro w' hSw;obtain⟨⟨m0,m1,m2,m3,m4,m5,m6,m7,m8⟩,_⟩:=HMX.out.call hSw;go_simp;try with_reducible rfl
   try simp only[Act.put,zq1,zq2,zq3]
   refine zqT 4 ?_ ?_ ?_;rotate_left
   ·intro w' hSw;obtain⟨⟨m0,m1,m2,m3,m4,m5,m6,m7,m8⟩,_⟩:=HMX.out.call hSw;go_simp;try with_reducible rfl
   try simp only[Act.put,zq1,zq2,zq3]
   refine zqT 5 ?_ ?_ ?_;rotate_left
   ·intro w' hSw;obtain⟨⟨m0,m1,m2,m3,m4,m5,m6,m7,m8⟩,_⟩:=HMX.out.call hSw;go_simp;try with_reducible rfl
   try simp only[Act.put,zq1,zq2,zq3]
   refine zqT 7 ?_ ?_ ?_;rotate_left
   ·intro w' hSw;obtain⟨⟨m0,m1,m2,m3,m4,m5,m6,m7,m8⟩,_⟩:=HMX.out.call hSw;go_simp;try with_reducible rfl
   try simp only[Act.put,zq1,zq2,zq3]
   clear hHeld;refine zqR [3] ?_;refine zqC (fun K hK=>?_) AllReadyH.nil;go_simp;go_at_call 26;with_reducible refine(HPV.out _).mono ?_
   rintro e w3 ⟨⟨P1,hP1,rfl⟩,hb3⟩;have ha3:=Bel.call ha0 hb3;have hs3:=Bel.call HBJ.out ha3;clear hb3;dsimp only;refine hK.out _ _ hs3 (fun hHeld=>?_);try simp only[Act.put,zq1,zq2,zq3]
   clear hHeld;refine zqR [6] ?_;refine zqC (fun K hK=>?_) AllReadyH.nil;go_simp;go_at_call 25;with_reducible refine(HL1.out _ (HV.out.below (Bel.call HB2.out hs3) zl)).mono ?_
   rintro e w4 ⟨⟨P2,hP2,rfl⟩,hb4⟩;have ha4:=Bel.call ha3 hb4;have hs4:=Bel.call HBJ.out ha4;clear hb4;dsimp only;refine hK.out _ _ hs4 (fun hHeld=>?_);try simp only[Act.put,zq1,zq2,zq3]
   clear hHeld;refine zqR [8] ?_;refine zqC (fun K hK=>?_) AllReadyH.nil;go_simp;go_at_call 25;with_reducible refine(HL3.out _ _ _ ys _ HYK.out hy40 HYA.out (HYS.out.below ha4 zl)).mono ?_
   rintro e w5 ⟨⟨P3,hP3,rfl⟩,hb5⟩;have ha5:=Bel.call ha4 hb5;have hs5:=Bel.call HBJ.out ha5;clear hb5;dsimp only;refine hK.out _ _ hs5 (fun hHeld=>?_);try simp only[Act.put,zq1,zq2,zq3]
   clear hHeld;refine zqR [9] ?_;refine zqC (fun K hK=>?_) AllReadyH.nil;go_simp;have ha6:=ha5.alloc ha5.size (.cells #[.string P,.string P1,.string P2,.string P3] 9);have hs6:=Bel.call HBJ.out ha6;refine hK.out _ _ hs6 (fun hHeld=>?_);try simp only[Act.put,zq1,zq2,zq3]
   clear hHeld;refine zqR [10] ?_;refine zqC (fun K hK=>?_) AllReadyH.nil;go_simp;go_at_call 25;with_reducible refine(HL4.out P P1 P2 P3 _ _ HP.out hP1 hP2 hP3 (lit4_reads8 w5 P P1 P2 P3 _ rfl)).mono ?_
   rintro e w7 ⟨⟨Q,hQ,rfl⟩,hb7⟩;have ha7:=Bel.call ha6 hb7;have hs7:=Bel.call HBJ.out ha7;clear hb7;dsimp only;refine hK.out _ _ hs7 (fun hHeld=>?_);try simp only[Act.put,zq1,zq2,zq3]
   refine zqT 11 ?_ ?_ ?_;rotate_left
   ·intro w' hSw;obtain⟨⟨m0,m1,m2,m3,m4,m5,m6,m7,m8⟩,_⟩:=HMX.out.call hSw;go_simp;try with_reducible rfl
   try simp only[Act.put,zq1,zq2,zq3]
   clear hHeld;refine wpAnyH_done (by kernel_rfl) ?_ _;have HS7:=zh (Bel.call HB2.out hs7);have HQ:=zh hQ;go_wp2;go_ret;exact⟨⟨Q,HQ.out,rfl⟩,HS7.out⟩
end Go.Proofs.YtmihiknebelkbaaGreat.Mta
