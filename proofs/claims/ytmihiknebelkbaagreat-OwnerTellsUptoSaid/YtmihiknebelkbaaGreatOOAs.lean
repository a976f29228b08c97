/-
  OAs. By an AI agent.
-/
import Derived.Test.YtmihiknebelkbaaGreatOZ
import Derived.Test.YtmihiknebelkbaaGreatOOPureC
import Derived.Test.YtmihiknebelkbaaGreatOMAs15
set_option linter.unusedSimpArgs false
set_option linter.unusedVariables false
set_option maxHeartbeats 8000000
namespace Go.Proofs.YtmihiknebelkbaaGreat.Own
open Go Go.RowKit Wire Term Rig Mta Frm Usr
theorem isS_parts {O R G:ByteArray} {t:Nat} {y:Int} {s:Frs.Sp} (h:Frs.IsS (.agg #[.string O,.int .u64 (t:Int),.int .i64 y,.string R,.string G]) s):O.data.toList=s.own∧t=s.time∧y=s.many∧R.data.toList=s.root∧G.data.toList=s.sig:=by
 obtain⟨a,b,c,h1,h2,h3,e⟩:=h;injection e with e
 have q:=Array.mk.inj e;simp only[List.cons.injEq,Value.string.injEq,Value.int.injEq,true_and]at q;obtain⟨rfl,ht,rfl,rfl,rfl,_⟩:=q;exact⟨h1,by omega,rfl,h2,h3⟩
theorem asm_w {w:World} {o f sig:ByteArray} {ep:Int} {A:Option Addr} {n c:Nat} {B:Option Addr} {m d ver:Nat} {V:Option Addr} {k cv:Nat} {K:Option Addr} {q ck:Nat} {M:Mt} (h:IsW w (.agg #[.string o,.string f,.int .i64 ep,.slice A n c,.slice B m d,.int .u64 (ver:Int),.slice V k cv,.slice K q ck,.string sig]) M) (hl:M.bs.length≤1000):
 Calls Tryz.prog 18 #[.agg #[.string o,.string f,.int .i64 ep,.slice A n c,.slice B m d,.int .u64 (ver:Int),.slice V k cv,.slice K q ck,.string sig]] w fun e w'=>(∃K' ck',IsW w' (.agg #[.string o,.string f,.int .i64 ep,.slice A n c,.slice B m d,.int .u64 (ver:Int),.slice V k cv,.slice K' q ck',.string sig]) M∧(∀b off,K'=some ⟨b,off,none⟩→w.heap.size≤b)∧e = .returned (.agg #[.string o,.string f,.int .i64 ep,.slice A n c,.slice B m d,.int .u64 (ver:Int),.slice V k cv,.slice K' q ck',.string sig]))∧Below w.heap.size w w':=by
 obtain⟨o',f',sig',A',c',rs,B',d',ws,V',cv',vs,K',ck',ks,h1,h2,h3,h4,h5,h6,h7⟩:=h;injection h1 with h1
 have g2:=Array.mk.inj h1;simp only[List.cons.injEq,Value.string.injEq,Value.slice.injEq,Value.int.injEq,and_true,true_and]at g2;obtain⟨rfl,rfl,rfl,⟨rfl,rfl,rfl⟩,⟨rfl,rfl,rfl⟩,hver,⟨rfl,rfl,rfl⟩,⟨rfl,rfl,rfl⟩,rfl⟩:=g2;obtain rfl:ver=M.ver:=by omega
 have hkl:ks.length=M.bs.length:=by
  have:=congrArg (fun m:Mt=>m.bs.length) h2;simpa[pl]using this.symm
 refine(asmeta_any o f sig _ A c rs B d ws _ V cv vs K ck ks w h6 (by omega)).mono ?_;rintro e w' ⟨⟨K2,ck2,hk,hn,rfl⟩,hb⟩;exact⟨⟨K2,ck2,⟨o,f,sig,A,c,rs,B,d,ws,V,cv,vs,K2,ck2,ks,rfl,h2,h3.below hb zl,h4.below hb zl,h5.below hb zl,hk,h7⟩,hn,rfl⟩,hb⟩
def iwP (vs:List Value) (m:Mt):Part where
 P w:=IsW w (.agg vs.toArray) m;S b:=Bk vs b;M _:=False;sub _ h:=h.elim
 dep hs h hb:=by
  obtain⟨o,f,sig,A,c,rs,B,d,ws,V,cv,xs,K,ck,ks,h1,h2,h3,h4,h5,h6,h7⟩:=h;injection h1 with h1
  have g2:=Array.mk.inj h1;subst g2
  exact⟨o,f,sig,A,c,rs,B,d,ws,V,cv,xs,K,ck,ks,rfl,h2,sreads_keep hs h3 fun b off e h0=>hb b ⟨off,rs.length,c,by simp[e],h0⟩,sreads_keep hs h4 fun b off e h0=>hb b ⟨off,ws.length,d,by simp[e],h0⟩,sreads_keep hs h5 fun b off e h0=>hb b ⟨off,xs.length,cv,by simp[e],h0⟩,
   (prsP K ks).dep hs h6 fun b h=>(by obtain⟨h0,off,e⟩:=h;exact hb b ⟨off,ks.length,ck,by simp[e],h0⟩),h7⟩
 old h b hb:=by
  obtain⟨o,f,sig,A,c,rs,B,d,ws,V,cv,xs,K,ck,ks,h1,h2,h3,h4,h5,h6,h7⟩:=h;injection h1 with h1
  have g2:=Array.mk.inj h1;subst g2;obtain⟨off,q,cc,hm,h0⟩:=hb;simp only[List.mem_cons,reduceCtorEq,Value.slice.injEq,List.not_mem_nil,or_false,false_or]at hm;rcases hm with⟨e1,e2,_⟩|⟨e1,e2,_⟩|⟨e1,e2,_⟩|⟨e1,e2,_⟩
  ·exact sreads_lt h3 e1.symm (by omega)
  ·exact sreads_lt h4 e1.symm (by omega)
  ·exact sreads_lt h5 e1.symm (by omega)
  ·exact preads_lt h6 e1.symm (by omega)
theorem Fm.far {w0 w w':World} {l:List Part} {q:Part} (h:Fm w0 w l) (hb:Below w.heap.size w w') (hq:q.P w') (hM:∀b,¬q.M b) (hS:∀b,q.S b→b<w0.heap.size∨w.heap.size≤b):Fm w0 w' (q::l):=
 Frm.Fm.off h hb hq hM fun r hr b h1 h2=>by
  have h4:=(h.all r hr).2 b h1;have h5:=r.old (h.all r hr).1 b (r.sub b h1);rcases hS b h2 with h3|h3<;>omega
theorem bk_k {o f sig:ByteArray} {ep:Int} {A:Option Addr} {n c:Nat} {B:Option Addr} {m d:Nat} {ver:Int} {V:Option Addr} {k cv:Nat} {K K':Option Addr} {q ck ck' N:Nat} (hn:∀b off,K'=some ⟨b,off,none⟩→N≤b):∀b,Bk [.string o,.string f,.int .i64 ep,.slice A n c,.slice B m d,.int .u64 ver,.slice V k cv,.slice K' q ck',.string sig] b→Bk [.string o,.string f,.int .i64 ep,.slice A n c,.slice B m d,.int .u64 ver,.slice V k cv,.slice K q ck,.string sig] b∨N≤b:=by
 rintro b ⟨off,z,cc,hm,h0⟩;simp only[List.mem_cons,reduceCtorEq,Value.slice.injEq,List.not_mem_nil,or_false,false_or]at hm;rcases hm with⟨e1,e2,e3⟩|⟨e1,e2,e3⟩|⟨e1,e2,e3⟩|⟨e1,e2,e3⟩
 ·exact .inl ⟨off,n,c,by simp[e1],by omega⟩
 ·exact .inl ⟨off,m,d,by simp[e1],by omega⟩
 ·exact .inl ⟨off,k,cv,by simp[e1],by omega⟩
 ·exact .inr (hn b off e1.symm)
theorem bk_e {o f sig:ByteArray} {ep:Int} {A:Option Addr} {n c:Nat} {B:Option Addr} {m d:Nat} {ver:Int} {V:Option Addr} {k cv:Nat} {K K':Option Addr} {q ck ck' N:Nat} {O R G:ByteArray} {T Y I:Int} {P:Option Addr} {pl cp:Nat} (hn:∀b off,K'=some ⟨b,off,none⟩→N≤b):∀b,Bk [.string o,.string f,.int .i64 ep,.slice A n c,.slice B m d,.int .u64 ver,.slice V k cv,.slice K' q ck',.string sig,.string O,.int .u64 T,.int .i64 Y,.string R,.string G,.int .i64 I,.slice P pl cp] b→Bk [.string o,.string f,.int .i64 ep,.slice A n c,.slice B m d,.int .u64 ver,.slice V k cv,.slice K q ck,.string sig,.string O,.int .u64 T,.int .i64 Y,.string R,.string G,.int .i64 I,.slice P pl cp] b∨N≤b:=by
 rintro b ⟨off,z,cc,hm,h0⟩;simp only[List.mem_cons,reduceCtorEq,Value.slice.injEq,List.not_mem_nil,or_false,false_or]at hm;rcases hm with⟨e1,e2,e3⟩|⟨e1,e2,e3⟩|⟨e1,e2,e3⟩|⟨e1,e2,e3⟩|⟨e1,e2,e3⟩
 ·exact .inl ⟨off,n,c,by simp[e1],by omega⟩
 ·exact .inl ⟨off,m,d,by simp[e1],by omega⟩
 ·exact .inl ⟨off,k,cv,by simp[e1],by omega⟩
 ·exact .inr (hn b off e1.symm)
 ·exact .inl ⟨off,pl,cp,by simp[e1],by omega⟩
def eP (vs:List Value) (e:Env):Part where
 P w:=IsE w (.agg vs.toArray) e;S b:=Bk vs b;M _:=False;sub _ h:=h.elim
 dep hs h hb:=by
  obtain⟨mv,O,R,G,P,cp,ps,h1,h2,h3,h4,h5,h6,h7⟩:=h;obtain⟨o,f,sig,A,c,rs,B,d,ws,V,cv,xs,K,ck,ks,g1,k2,k3,k4,k5,k6,k7⟩:=h2;injection g1 with g1
  have g2:=Array.mk.inj g1;subst g2;injection h1 with h1
  have g3:=Array.mk.inj h1;subst g3
  refine⟨_,O,R,G,P,cp,ps,rfl,⟨o,f,sig,A,c,rs,B,d,ws,V,cv,xs,K,ck,ks,rfl,k2,sreads_keep hs k3 fun b off e h0=>hb b ⟨off,rs.length,c,by simp[e],h0⟩,sreads_keep hs k4 fun b off e h0=>hb b ⟨off,ws.length,d,by simp[e],h0⟩,sreads_keep hs k5 fun b off e h0=>hb b ⟨off,xs.length,cv,by simp[e],h0⟩,
   (prsP K ks).dep hs k6 fun b h=>(by obtain⟨h0,off,e⟩:=h;exact hb b ⟨off,ks.length,ck,by simp[e],h0⟩),k7⟩,h3,h4,h5,sreads_keep hs h6 fun b off e h0=>hb b ⟨off,ps.length,cp,by simp[e],h0⟩,h7⟩
 old h b hb:=by
  obtain⟨mv,O,R,G,P,cp,ps,h1,h2,h3,h4,h5,h6,h7⟩:=h;obtain⟨o,f,sig,A,c,rs,B,d,ws,V,cv,xs,K,ck,ks,g1,k2,k3,k4,k5,k6,k7⟩:=h2;injection g1 with g1
  have g2:=Array.mk.inj g1;subst g2;injection h1 with h1
  have g3:=Array.mk.inj h1;subst g3;obtain⟨off,q,cc,hm,h0⟩:=hb;simp only[List.cons_append,List.nil_append,List.mem_cons,reduceCtorEq,Value.slice.injEq,List.not_mem_nil,or_false,false_or]at hm;rcases hm with⟨e1,e2,_⟩|⟨e1,e2,_⟩|⟨e1,e2,_⟩|⟨e1,e2,_⟩|⟨e1,e2,_⟩
  ·exact sreads_lt k3 e1.symm (by omega)
  ·exact sreads_lt k4 e1.symm (by omega)
  ·exact sreads_lt k5 e1.symm (by omega)
  ·exact preads_lt k6 e1.symm (by omega)
  ·exact sreads_lt h6 e1.symm (by omega)
set_option maxRecDepth 1000000 in
theorem as15_any (vs:List Value) (e:Env) (w:World) (h:IsE w (.agg vs.toArray) e) (hl:e.m.bs.length≤1000):Calls Tryz.prog 6 #[.agg vs.toArray] w fun z w'=>(∃us:List Value,IsE w' (.agg us.toArray) e∧(∀b,Bk us b→Bk vs b∨w.heap.size≤b)∧us.length=16∧z = .returned (.agg us.toArray))∧Below w.heap.size w w':=by
 obtain⟨o,f,sig,ep,A,n,c,B,m,d,ver,V,k,cv,K,q,ck,O,R,G,P,cp,ps,he,hm,hs,hp,hpe⟩:=isE_lit h
 injection he with he
 obtain rfl:=Array.mk.inj he
 obtain⟨M,S,I,pf⟩:=e
 simp only at hm hs hpe hl⊢
 have HAM:=zh fun w' (hb:Below w.heap.size w w')=>asm_w (w:=w') (hm.below hb zl) hl
 have HS:=zh hs
 have HP:=zh hp
 have HPE:=zh hpe
 have HM:=zh hm
 generalize hT:S.time=T at HS⊢
 generalize hY:S.many=Y at HS⊢
 have HT:=zh hT
 have HY:=zh hY
 clear hm hs hp hpe hl h he hT hY
 have HF:=zh (fm_refl w)
 go_enter Tryz.func6,Tryz.ntmps6
 go_wp2_with fail
 have hF:=(HF.out.box #[.string o,.string f,.int .i64 ep,.slice A n c,.slice B m d,.int .u64 (ver:Int),.slice V k cv,.slice K q ck,.string sig,.string O,.int .u64 (T:Int),.int .i64 Y,.string R,.string G,.int .i64 I,.slice P ps.length cp] 32).box #[.string ⟨#[]⟩,.string ⟨#[]⟩,.int .i64 0,.slice none 0 0,.slice none 0 0,.int .u64 0,.slice none 0 0,.slice none 0 0,.string ⟨#[]⟩,.string ⟨#[]⟩,.int .u64 0,.int .i64 0,.string ⟨#[]⟩,.string ⟨#[]⟩,.int .i64 0,.slice none 0 0] 40
 rw[show(w.alloc (.cells #[.string o,.string f,.int .i64 ep,.slice A n c,.slice B m d,.int .u64 (ver:Int),.slice V k cv,.slice K q ck,.string sig,.string O,.int .u64 (T:Int),.int .i64 Y,.string R,.string G,.int .i64 I,.slice P ps.length cp] 32)).heap.size=w.heap.size+1 by simp]at hF
 have hz:((w.alloc (.cells #[.string o,.string f,.int .i64 ep,.slice A n c,.slice B m d,.int .u64 (ver:Int),.slice V k cv,.slice K q ck,.string sig,.string O,.int .u64 (T:Int),.int .i64 Y,.string R,.string G,.int .i64 I,.slice P ps.length cp] 32)).alloc (.cells #[.string ⟨#[]⟩,.string ⟨#[]⟩,.int .i64 0,.slice none 0 0,.slice none 0 0,.int .u64 0,.slice none 0 0,.slice none 0 0,.string ⟨#[]⟩,.string ⟨#[]⟩,.int .u64 0,.int .i64 0,.string ⟨#[]⟩,.string ⟨#[]⟩,.int .i64 0,.slice none 0 0] 40)).heap.size=w.heap.size+1+1:=by simp
 obtain⟨ge,hg⟩:∃g,w.heap.size=g:=⟨_,rfl⟩
 obtain⟨GR,hg2⟩:∃g,ge+1=g:=⟨_,rfl⟩
 rw[hg,hg2]at hF hz⊢
 generalize (w.alloc (.cells #[.string o,.string f,.int .i64 ep,.slice A n c,.slice B m d,.int .u64 (ver:Int),.slice V k cv,.slice K q ck,.string sig,.string O,.int .u64 (T:Int),.int .i64 Y,.string R,.string G,.int .i64 I,.slice P ps.length cp] 32)).alloc (.cells #[.string ⟨#[]⟩,.string ⟨#[]⟩,.int .i64 0,.slice none 0 0,.slice none 0 0,.int .u64 0,.slice none 0 0,.slice none 0 0,.string ⟨#[]⟩,.string ⟨#[]⟩,.int .u64 0,.int .i64 0,.string ⟨#[]⟩,.string ⟨#[]⟩,.int .i64 0,.slice none 0 0] 40)=w1 at hF hz⊢
 replace HF:=zh hF
 have HZ:=zh hz
 clear hF hg hg2 hz
 obtain⟨c0,c1,c2,c3,c4,c5,c6,c7,c8,c9,c10,c11,c12,c13,c14,c15,c16⟩:=bxn16 (HF.out.at 1 rfl)
 go_wp2_with fail
 clear c0 c1 c2 c3 c4 c5 c6 c7 c8 c9 c10 c11 c12 c13 c14 c15 c16
 have hF:=HF.out.box #[.string O,.int .u64 (T:Int),.int .i64 Y,.string R,.string G] 38
 rw[HZ.out]at hF
 generalize w1.alloc (.cells #[.string O,.int .u64 (T:Int),.int .i64 Y,.string R,.string G] 38)=w1 at hF⊢
 replace HF:=zh hF
 clear hF HZ
 have hR0:=HF.out
 skip
 have hdr:=(HF.out.hide 1).go (Below.drewN' (Below.refl w1.heap.size w1) 1)
 have hfull:=HF.out.go (Below.drewN' (Below.refl w1.heap.size w1) 1)
 refine wp_region_held_drew (S:=fun w'=>Fm w w' _) (by kernel_rfl) hdr (fun hHeld=>?_)
 clear hHeld
 replace hdr:Fm w w1.drew _:=hdr
 replace hfull:Fm w w1.drew _:=hfull
 generalize w1.drew=w1 at hdr hfull⊢
 replace HF:=zh hfull
 have hHeld:=hdr
 clear hdr hfull
 refine zqT 0 ?_ ?_ ?_;rotate_left;· (intro w' hSw;go_simp;try with_reducible rfl)
 refine zqT 1 ?_ ?_ ?_;rotate_left;· (intro w' hSw;obtain⟨y0,y1,y2,y3,y4,y5⟩:=bxn5 (hSw.at 0 rfl);obtain⟨c0,c1,c2,c3,c4,c5,c6,c7,c8,c9,c10,c11,c12,c13,c14,c15,c16⟩:=bxn16 (hSw.at 1 rfl);go_simp;try with_reducible rfl)
 refine zqT 3 ?_ ?_ ?_;rotate_left;· (intro w' hSw;obtain⟨y0,y1,y2,y3,y4,y5⟩:=bxn5 (hSw.at 0 rfl);obtain⟨c0,c1,c2,c3,c4,c5,c6,c7,c8,c9,c10,c11,c12,c13,c14,c15,c16⟩:=bxn16 (hSw.at 1 rfl);go_simp;try with_reducible rfl)
 try simp only[Act.put,zq1,zq2,zq3]
 refine zqT 4 ?_ ?_ ?_;rotate_left;· (intro w' hSw;go_simp;try with_reducible rfl)
 refine zqT 5 ?_ ?_ ?_;rotate_left;· (intro w' hSw;obtain⟨y0,y1,y2,y3,y4,y5⟩:=bxn5 (hSw.at 0 rfl);obtain⟨c0,c1,c2,c3,c4,c5,c6,c7,c8,c9,c10,c11,c12,c13,c14,c15,c16⟩:=bxn16 (hSw.at 1 rfl);go_simp;try with_reducible rfl)
 refine zqT 6 ?_ ?_ ?_;rotate_left;· (intro w' hSw;go_simp;try with_reducible rfl)
 try simp only[Act.put,zq1,zq2,zq3]
 refine zqT 7 ?_ ?_ ?_;rotate_left;· (intro w' hSw;obtain⟨y0,y1,y2,y3,y4,y5⟩:=bxn5 (hSw.at 0 rfl);obtain⟨c0,c1,c2,c3,c4,c5,c6,c7,c8,c9,c10,c11,c12,c13,c14,c15,c16⟩:=bxn16 (hSw.at 1 rfl);go_simp;try with_reducible rfl)
 try simp only[Act.put,zq1,zq2,zq3]
 clear hHeld
 refine zqR [2] ?_
 refine zqC (fun Kn hK=>?_) AllReadyH.nil
 go_simp
 with_reducible refine(HAM.out w1 HF.out.bel).mono ?_
 rintro en w2 ⟨⟨K',ck',hw,hkn,rfl⟩,hb⟩
 have hz:w.heap.size≤w1.heap.size:=HF.out.bel.size
 have hmo:=(iwP _ _).old HM.out
 replace HF:=zh (Fm.far (q:=iwP [.string o,.string f,.int .i64 ep,.slice A n c,.slice B m d,.int .u64 (ver:Int),.slice V k cv,.slice K' q ck',.string sig] M) HF.out hb hw (fun _ h=>h) (fun b hb=>by
  rcases bk_k hkn b hb with h|h
  ·exact .inl (hmo b h)
  ·exact .inr h))
 have HKN:Hid (∀b off,K'=some ⟨b,off,none⟩→w.heap.size≤b):=zh fun b off e=>Nat.le_trans hz (hkn b off e)
 clear hb hkn hw hz hmo
 generalize w2=w1 at HF⊢
 try dsimp only
 refine hK.out _ _ (HF.out.tail.hide 1) (fun hHeld=>?_)
 refine zqT 8 ?_ ?_ ?_;rotate_left;· (intro w' hSw;go_simp;try with_reducible rfl)
 try simp only[Act.put,zq1,zq2,zq3]
 clear hHeld
 refine zqR [9] ?_
 refine zqC (fun Kn hK=>?_) AllReadyH.nil
 obtain⟨x0,x1,x2,x3,x4,x5,x6,x7,x8,x9,x10,x11,x12,x13,x14,x15,x16⟩:=bxn16 (HF.out.at 2 rfl)
 have fz:=box_sf (HF.out.at 2 rfl)
 go_simp
 clear fz x0 x1 x2 x3 x4 x5 x6 x7 x8 x9 x10 x11 x12 x13 x14 x15 x16
 have hF:=HF.out.fill 2 rfl [.string o,.string f,.int .i64 ep,.slice A n c,.slice B m d,.int .u64 (ver:Int),.slice V k cv,.slice K' q ck',.string sig,.string O,.int .u64 (T:Int),.int .i64 Y,.string R,.string G,.int .i64 I,.slice P ps.length cp] rfl
 simp only[fills,Nat.reduceAdd,Nat.zero_add,List.set_cons_zero,List.set_cons_succ]at hF
 generalize ((((((((((((((((w1.setCell ⟨GR,0,none⟩ (.string o)).setCell ⟨GR,1,none⟩ (.string f)).setCell ⟨GR,2,none⟩ (.int .i64 ep)).setCell ⟨GR,3,none⟩ (.slice A n c)).setCell ⟨GR,4,none⟩ (.slice B m d)).setCell ⟨GR,5,none⟩ (.int .u64 (ver:Int))).setCell ⟨GR,6,none⟩ (.slice V k cv)).setCell ⟨GR,7,none⟩ (.slice K' q ck')).setCell ⟨GR,8,none⟩ (.string sig)).setCell ⟨GR,9,none⟩ (.string O)).setCell ⟨GR,10,none⟩ (.int .u64 (T:Int))).setCell ⟨GR,11,none⟩ (.int .i64 Y)).setCell ⟨GR,12,none⟩ (.string R)).setCell ⟨GR,13,none⟩ (.string G)).setCell ⟨GR,14,none⟩ (.int .i64 I)).setCell ⟨GR,15,none⟩ (.slice P ps.length cp))=w2 at hF⊢
 replace HF:=zh hF
 clear hF
 generalize w2=w1 at HF⊢
 refine hK.out _ _ (HF.out.tail.hide 1) (fun hHeld=>?_)
 try simp only[Act.put,zq1,zq2,zq3]
 refine wpAnyH_done (by kernel_rfl) ?_ _
 clear hHeld
 go_wp2_with fail
 obtain⟨d0,d1,d2,d3,d4,d5,d6,d7,d8,d9,d10,d11,d12,d13,d14,d15,d16⟩:=bxn16 (HF.out.at 2 rfl)
 refine bodyPost_ret (v:=.agg #[.string o,.string f,.int .i64 ep,.slice A n c,.slice B m d,.int .u64 (ver:Int),.slice V k cv,.slice K' q ck',.string sig,.string O,.int .u64 (T:Int),.int .i64 Y,.string R,.string G,.int .i64 I,.slice P ps.length cp]) (by simp[results,Tryz.results6,go_sem,d0,d1,d2,d3,d4,d5,d6,d7,d8,d9,d10,d11,d12,d13,d14,d15]) rfl ?_
 have h1:=isE_mk (i:=I) (cp:=cp) (HF.out.at 0 rfl) (isS_parts HS.out) (HP.out.below HF.out.bel zl)
 rw[HPE.out]at h1
 exact⟨⟨[.string o,.string f,.int .i64 ep,.slice A n c,.slice B m d,.int .u64 (ver:Int),.slice V k cv,.slice K' q ck',.string sig,.string O,.int .u64 (T:Int),.int .i64 Y,.string R,.string G,.int .i64 I,.slice P ps.length cp],h1,bk_e HKN.out,rfl,rfl⟩,HF.out.bel⟩
end Go.Proofs.YtmihiknebelkbaaGreat.Own
