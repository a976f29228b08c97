/-
  MCPureC, MCPut, OMem, J2, J3, J4. By an AI agent.
-/
import Derived.Test.YtmihiknebelkbaaGreatOZ
import Derived.Test.YtmihiknebelkbaaGreatOMCBody
import Derived.Test.YtmihiknebelkbaaGreatOMCSort
import Derived.Test.YtmihiknebelkbaaGreatOMSame
import Derived.Test.YtmihiknebelkbaaGreatOMCTk
import Derived.Test.YtmihiknebelkbaaGreatOMCRight
import Derived.Test.YtmihiknebelkbaaGreatOMLit
import Derived.Test.YtmihiknebelkbaaGreatOWRAllN
import Derived.Test.YtmihiknebelkbaaGreatOJ1
import Derived.Test.YtmihiknebelkbaaGreatOH1
import Derived.Test.YtmihiknebelkbaaGreatOG3
import Derived.Test.YtmihiknebelkbaaGreatOMTakeR
import Derived.Test.YtmihiknebelkbaaGreatOT1
import Derived.Test.YtmihiknebelkbaaGreatOT2
import Derived.RangeFuncNested
import Derived.RangeFuncBound
import Derived.RangeFuncCalls
import Derived.RangeFuncLeaves
import Derived.RangeFuncRecord
import Derived.RangeFuncFrom
import Derived.Deep.RegionHeld
import Derived.OwnWalkIn
import Derived.TacticsInMore
import Derived.Shelf.RegionOpen
import Derived.Shelf.Small.Bits
import Derived.Test.YtmihiknebelkbaaGreatProg
import Derived.Test.YtmihiknebelkbaaGreatOO1
import Derived.Laws.AppendOwnNone
set_option linter.unusedSimpArgs false
set_option linter.unusedVariables false
set_option maxHeartbeats 8000000
namespace Go.Proofs.YtmihiknebelkbaaGreat.Mta
open Go.RowKit Wire Term Rig
theorem mx_set7 {g:Nat} {w:World} {o f:ByteArray} {ep:Int} {A:Option Addr} {n c:Nat} {B:Option Addr} {m d:Nat} {ver:Nat} {V:Option Addr} {nv cv:Nat} {K:Option Addr} {nk ck:Nat} {sig:ByteArray} (h:Mx g w o f ep A n c B m d ver V nv cv K nk ck sig) (K':Option Addr) (nk' ck':Nat):Mx g (w.setCell ⟨g,7,none⟩ (.slice K' nk' ck')) o f ep A n c B m d ver V nv cv K' nk' ck' sig:=by
 obtain⟨⟨h0,h1,h2,h3,h4,h5,h6,h7,h8⟩,h9⟩:=h;have e:∀j,j≠7→(w.setCell ⟨g,7,none⟩ (.slice K' nk' ck')).cell? ⟨g,j,none⟩=w.cell? ⟨g,j,none⟩:=fun j hj=>World.cell?_setCell_other w _ _ _ (fun e=>by injection e with _ e _;exact hj e.symm)
 exact⟨⟨(e 0 (by decide)).trans h0,(e 1 (by decide)).trans h1,(e 2 (by decide)).trans h2,(e 3 (by decide)).trans h3,(e 4 (by decide)).trans h4,(e 5 (by decide)).trans h5,(e 6 (by decide)).trans h6,World.cell?_setCell_same w _ _ h7,(e 8 (by decide)).trans h8⟩,by simpa[World.setCell]using h9⟩
theorem sf9_set {g G j:Nat} {w:World} {v:Value} (h:Sf9 g w):Sf9 g (w.setCell ⟨G,j,none⟩ v):=by
 obtain⟨h0,h1,h2,h3,h4,h5,h6,h7,h8⟩:=h;exact⟨by simpa using h0,by simpa using h1,by simpa using h2,by simpa using h3,by simpa using h4,by simpa using h5,by simpa using h6,by simpa using h7,by simpa using h8⟩
end Go.Proofs.YtmihiknebelkbaaGreat.Mta
namespace Go.Proofs.YtmihiknebelkbaaGreat.Mta
open Go.RowKit Wire Term Rig
set_option maxRecDepth 1000000 in
theorem cput_any (o f sig:ByteArray) (ep:Int) (A:Option Addr) (c:Nat) (rs:List ByteArray) (B:Option Addr) (d:Nat) (ws:List ByteArray) (ver:Nat) (V:Option Addr) (cv:Nat) (vs:List ByteArray) (K:Option Addr) (ck:Nat) (ks:List (ByteArray×ByteArray)) (w:World) (hA:SReads w A rs) (hB:SReads w B ws) (hV:SReads w V vs) (hK:PReads w K ks) (hna:A=none→c=0) (hnb:B=none→d=0) (hf:FewM ⟨⟨o.data.toList,f.data.toList,ep,bl rs,bl ws⟩,ver,bl vs,pl ks,sig.data.toList⟩):
 Calls Tryz.prog 19 #[.agg #[.string o,.string f,.int .i64 ep,.slice A rs.length c,.slice B ws.length d,.int .u64 (ver:Int),.slice V vs.length cv,.slice K ks.length ck,.string sig]] w fun e w'=>Srt (putM ⟨⟨o.data.toList,f.data.toList,ep,bl rs,bl ws⟩,ver,bl vs,pl ks,sig.data.toList⟩) e∧Below w.heap.size w w':=by
 have HA:=zh hA;have HBB:=zh hB;have HV:=zh hV;have HK:=zh hK;have HRT:=zh fun w h1 h2 h3 h4=>cright_any o f sig ep A c rs B d ws ver V cv vs K ck ks w h1 h2 h3 h4 hna hnb hf
 by_cases hr:MR ⟨⟨o.data.toList,f.data.toList,ep,bl rs,bl ws⟩,ver,bl vs,pl ks,sig.data.toList⟩
 case neg=>
  rw[show putM ⟨⟨o.data.toList,f.data.toList,ep,bl rs,bl ws⟩,ver,bl vs,pl ks,sig.data.toList⟩=([],1)by unfold putM;rw[if_neg hr]];rw[decide_eq_false hr]at HRT;clear hA hB hV hK hna hnb hf hr;go_enter Tryz.func19,Tryz.ntmps19;go_wp2_with fail;with_reducible refine(HRT.out _ (HA.out.below (al _ _) zl) (HBB.out.below (al _ _) zl) (HV.out.below (al _ _) zl) (HK.out.below (al _ _) zl)).mono ?_
  rintro e w1 ⟨rfl,hb1⟩;have HB1:=zh (Rig.after_alloc (Below.refl _ w) hb1);clear hb1;dsimp only;go_wp2;go_ret2;exact⟨⟨⟨#[]⟩,rfl,rfl⟩,HB1.out⟩
 rw[decide_eq_true hr]at HRT;have HBY:=zh fun w h1 h2 h3 h4=>cbody_any o f sig ep A c rs B d ws ver V cv vs K ck ks w h1 h2 h3 h4 hf hr.1
 rw[show putM ⟨⟨o.data.toList,f.data.toList,ep,bl rs,bl ws⟩,ver,bl vs,pl ks,sig.data.toList⟩=(putAll [bodyB ⟨⟨o.data.toList,f.data.toList,ep,bl rs,bl ws⟩,ver,bl vs,pl ks,sig.data.toList⟩,sig.data.toList],0)by unfold putM;rw[if_pos hr]];have hbs:=body_small hr hf.2.2.2.2.2.2;have hss:=kd_len hr.2.2.1 (by decide);simp only at hss
 have HPP:Hid (∀(T:ByteArray) (g:Nat) (w:World),T.data.toList=bodyB ⟨⟨o.data.toList,f.data.toList,ep,bl rs,bl ws⟩,ver,bl vs,pl ks,sig.data.toList⟩→SReads w (some ⟨g,0,none⟩) [T,sig]→Calls Tryz.prog 21 #[.slice (some ⟨g,0,none⟩) 2 2] w fun e w'=>St (putAll [bodyB ⟨⟨o.data.toList,f.data.toList,ep,bl rs,bl ws⟩,ver,bl vs,pl ks,sig.data.toList⟩,sig.data.toList]) e∧Below w.heap.size w w'):=fun T g w hT hr=>by
  have h:=Wire.putAll_any (some ⟨g,0,none⟩) 2 [T,sig] w hr (by simp) (by
   show([T.data.toList,sig.data.toList]:List Tm).flatten.length≤_;rw[hT];simp only[List.flatten_cons,List.flatten_nil,List.length_append,List.length_nil]
   omega)
  rw[show bl [T,sig] = [bodyB ⟨⟨o.data.toList,f.data.toList,ep,bl rs,bl ws⟩,ver,bl vs,pl ks,sig.data.toList⟩,sig.data.toList]by show[T.data.toList,sig.data.toList]=_;rw[hT]]at h;exact h
 clear hbs hss;clear hA hB hV hK hna hnb hf hr;go_enter Tryz.func19,Tryz.ntmps19;go_wp2_with fail;have hmx:=mx_alloc w o f ep A rs.length c B ws.length d ver V vs.length cv K ks.length ck sig 28;have hb0:=al w (.cells #[.string o,.string f,.int .i64 ep,.slice A rs.length c,.slice B ws.length d,.int .u64 (ver:Int),.slice V vs.length cv,.slice K ks.length ck,.string sig] 28);have HB:=zh hb0;have HMX:=zh hmx;clear hmx hb0;obtain⟨g,hg⟩:∃g,w.heap.size=g:=⟨_,rfl⟩
 generalize w.alloc (.cells #[.string o,.string f,.int .i64 ep,.slice A rs.length c,.slice B ws.length d,.int .u64 (ver:Int),.slice V vs.length cv,.slice K ks.length ck,.string sig] 28)=w1 at HB HMX⊢;rw[hg]at HMX⊢;clear hg;with_reducible refine(HRT.out _ (HA.out.below HB.out zl) (HBB.out.below HB.out zl) (HV.out.below HB.out zl) (HK.out.below HB.out zl)).mono ?_
 rintro e w2 ⟨rfl,hb2⟩;have HB2:=zh (Bel.call HB.out hb2);replace HMX:=zh (HMX.out.call hb2);clear hb2 HB;dsimp only;obtain⟨⟨m0,m1,m2,m3,m4,m5,m6,m7,m8⟩,_⟩:=HMX.out;have HBJ:=zh (Below.refl w2.heap.size w2);go_wp2_with fail;have ha0:Below w2.heap.size w2 w2.drew:=Below.drewN' (Below.refl _ _) 1;have hs0:=Bel.call HBJ.out ha0;obtain⟨wd,hwd⟩:∃W,w2.drew=W:=⟨_,rfl⟩
 refine wp_region_held_drew (S:=fun w'=>Below w2.heap.size w2 w') (by kernel_rfl) hs0 (fun hHeld=>?_);rw[hwd]at hHeld ha0 hs0⊢;clear hwd;clear m0 m1 m2 m3 m4 m5 m6 m7 m8;refine zqT 0 ?_ ?_ ?_;rotate_left
 ·intro w' hSw;obtain⟨⟨m0,m1,m2,m3,m4,m5,m6,m7,m8⟩,_⟩:=HMX.out.call hSw;go_simp;try with_reducible rfl
 try simp only[Act.put,zq1,zq2,zq3]
 refine zqT 2 ?_ ?_ ?_;rotate_left
 ·intro w' hSw;obtain⟨⟨m0,m1,m2,m3,m4,m5,m6,m7,m8⟩,_⟩:=HMX.out.call hSw;go_simp;try with_reducible rfl
 try simp only[Act.put,zq1,zq2,zq3]
 refine zqT 3 ?_ ?_ ?_;rotate_left
 ·intro w' hSw;obtain⟨⟨m0,m1,m2,m3,m4,m5,m6,m7,m8⟩,_⟩:=HMX.out.call hSw;go_simp;try with_reducible rfl
 try simp only[Act.put,zq1,zq2,zq3]
 clear hHeld;refine zqR [1] ?_;refine zqC (fun K hK=>?_) AllReadyH.nil;go_simp;go_at_call 41;with_reducible refine(HBY.out _ (HA.out.below (Bel.call HB2.out hs0) zl) (HBB.out.below (Bel.call HB2.out hs0) zl) (HV.out.below (Bel.call HB2.out hs0) zl) (HK.out.below (Bel.call HB2.out hs0) zl)).mono ?_
 rintro e w3 ⟨⟨T,hT,rfl⟩,hb3⟩;have ha3:=Bel.call ha0 hb3;have hs3:=Bel.call HBJ.out ha3;clear hb3;dsimp only;refine hK.out _ _ hs3 (fun hHeld=>?_);try simp only[Act.put,zq1,zq2,zq3]
 clear hHeld;refine zqR [4] ?_;refine zqC (fun K hK=>?_) AllReadyH.nil;go_simp;have ha4:=ha3.alloc ha3.size (.cells #[.string T,.string sig] 9);have hs4:=Bel.call HBJ.out ha4;refine hK.out _ _ hs4 (fun hHeld=>?_);try simp only[Act.put,zq1,zq2,zq3]
 clear hHeld;refine zqR [5] ?_;refine zqC (fun K hK=>?_) AllReadyH.nil;go_simp;go_at_call 21;with_reducible refine(HPP.out T _ _ hT (lit2_reads8 w3 T sig _ rfl)).mono ?_
 rintro e w5 ⟨⟨Q,hQ,rfl⟩,hb5⟩;have ha5:=Bel.call ha4 hb5;have hs5:=Bel.call HBJ.out ha5;clear hb5;dsimp only;refine hK.out _ _ hs5 (fun hHeld=>?_);try simp only[Act.put,zq1,zq2,zq3]
 refine zqT 6 ?_ ?_ ?_;rotate_left
 ·intro w' hSw;obtain⟨⟨m0,m1,m2,m3,m4,m5,m6,m7,m8⟩,_⟩:=HMX.out.call hSw;go_simp;try with_reducible rfl
 try simp only[Act.put,zq1,zq2,zq3]
 refine zqT 7 ?_ ?_ ?_;rotate_left
 ·intro w' hSw;obtain⟨⟨m0,m1,m2,m3,m4,m5,m6,m7,m8⟩,_⟩:=HMX.out.call hSw;go_simp;try with_reducible rfl
 try simp only[Act.put,zq1,zq2,zq3]
 clear hHeld;refine wpAnyH_done (by kernel_rfl) ?_ _;have HS7:=zh (Bel.call HB2.out hs5);have HQ:=zh hQ;go_wp2;go_ret2;exact⟨⟨Q,HQ.out,rfl⟩,HS7.out⟩
end Go.Proofs.YtmihiknebelkbaaGreat.Mta
namespace Go.Proofs.YtmihiknebelkbaaGreat.Own
open Go Go.RowKit Wire Term Rig Mta Frm Usr
def IsE (w:World) (v:Value) (e:Env):Prop:=∃(mv:List Value) (O R G:ByteArray) (P:Option Addr) (cp:Nat) (ps:List ByteArray),
 v = .agg (mv++([.string O,.int .u64 (e.s.time:Int),.int .i64 e.s.many,.string R,.string G,.int .i64 e.i,.slice P ps.length cp]:List Value)).toArray∧IsW w (.agg mv.toArray) e.m∧O.data.toList=e.s.own∧R.data.toList=e.s.root∧G.data.toList=e.s.sig∧SReads w P ps∧bl ps=e.pf
theorem IsE.below {w w':World} {v:Value} {e:Env} (h:IsE w v e) (hb:Below w.heap.size w w'):IsE w' v e:=by
 obtain⟨mv,O,R,G,P,cp,ps,h1,h2,h3,h4,h5,h6,h7⟩:=h;exact⟨mv,O,R,G,P,cp,ps,h1,h2.below hb zl,h3,h4,h5,h6.below hb zl,h7⟩
theorem isE_lit {w:World} {v:Value} {e:Env} (h:IsE w v e):∃(o f sig:ByteArray) (ep:Int) (A:Option Addr) (n c:Nat) (B:Option Addr) (m d ver:Nat) (V:Option Addr) (k cv:Nat) (K:Option Addr) (q ck:Nat) (O R G:ByteArray) (P:Option Addr) (cp:Nat) (ps:List ByteArray),
 v = .agg #[.string o,.string f,.int .i64 ep,.slice A n c,.slice B m d,.int .u64 (ver:Int),.slice V k cv,.slice K q ck,.string sig,.string O,.int .u64 (e.s.time:Int),.int .i64 e.s.many,.string R,.string G,.int .i64 e.i,.slice P ps.length cp] ∧
 IsW w (.agg #[.string o,.string f,.int .i64 ep,.slice A n c,.slice B m d,.int .u64 (ver:Int),.slice V k cv,.slice K q ck,.string sig]) e.m∧Frs.IsS (.agg #[.string O,.int .u64 (e.s.time:Int),.int .i64 e.s.many,.string R,.string G]) e.s∧SReads w P ps∧bl ps=e.pf:=by
 obtain⟨mv,O,R,G,P,cp,ps,h1,h2,h3,h4,h5,h6,h7⟩:=h
 obtain⟨o,f,sig,A,c,rs,B,d,ws,V,cv,vs,K,ck,ks,g1,_⟩:=id h2
 injection g1 with g1
 have g2:mv = [.string o,.string f,.int .i64 e.m.r.ep,.slice A rs.length c,.slice B ws.length d,.int .u64 (e.m.ver:Int),.slice V vs.length cv,.slice K ks.length ck,.string sig]:=(Array.mk.inj g1)
 subst g2
 exact⟨o,f,sig,_,A,_,c,B,_,d,_,V,_,cv,K,_,ck,O,R,G,P,cp,ps,h1,h2,⟨O,R,G,h3,h4,h5,rfl⟩,h6,h7⟩
theorem isE_mk {w:World} {o f sig:ByteArray} {ep:Int} {A:Option Addr} {n c:Nat} {B:Option Addr} {m d:Nat} {ver:Int} {V:Option Addr} {k cv:Nat} {K:Option Addr} {q ck:Nat} {O R G:ByteArray} {t:Nat} {y i:Int} {P:Option Addr} {cp:Nat} {ps:List ByteArray} {M:Mt} {s:Frs.Sp}
 (h:IsW w (.agg #[.string o,.string f,.int .i64 ep,.slice A n c,.slice B m d,.int .u64 ver,.slice V k cv,.slice K q ck,.string sig]) M) (h2:O.data.toList=s.own∧t=s.time∧y=s.many∧R.data.toList=s.root∧G.data.toList=s.sig) (h3:SReads w P ps):
 IsE w (.agg #[.string o,.string f,.int .i64 ep,.slice A n c,.slice B m d,.int .u64 ver,.slice V k cv,.slice K q ck,.string sig,.string O,.int .u64 (t:Int),.int .i64 y,.string R,.string G,.int .i64 i,.slice P ps.length cp]) ⟨M,s,i,bl ps⟩:=by
 obtain⟨a1,rfl,rfl,a4,a5⟩:=h2;exact⟨_,O,R,G,P,cp,ps,rfl,h,a1,a4,a5,h3,rfl⟩
structure FewE (e:Env):Prop where
 m:FewM e.m
 own:e.s.own.length≤2000000
 root:e.s.root.length≤2000000
 sig:e.s.sig.length≤2000000
 time:e.s.time<18446744073709551616
 few:e.pf.length≤40
 pf:∀t∈e.pf,t.length≤2000000
 i:-9223372036854775808≤e.i∧e.i≤9223372036854775807
def mwP (ok:Nat→Prop) (vs:List Value) (m:Mt):Part where
 P w:=IsM ok w (.agg vs.toArray) m;S b:=Bk vs b;M _:=False;sub _ h:=h.elim
 dep hs h hb:=by
  obtain⟨o,f,sig,A,c,rs,B,d,ws,V,cv,xs,K,ck,ks,h1,h2,h3,h4,h5,h6,h7⟩:=h;injection h1 with h1
  have g2:=Array.mk.inj h1;subst g2
  exact⟨o,f,sig,A,c,rs,B,d,ws,V,cv,xs,K,ck,ks,rfl,h2,sreads_keep hs h3 fun b off e h0=>hb b ⟨off,rs.length,c,by simp[e],h0⟩,sreads_keep hs h4 fun b off e h0=>hb b ⟨off,ws.length,d,by simp[e],h0⟩,sreads_keep hs h5 fun b off e h0=>hb b ⟨off,xs.length,cv,by simp[e],h0⟩,
   (prsP K ks).dep hs h6 fun b h=>(by obtain⟨h0,off,e⟩:=h;exact hb b ⟨off,ks.length,ck,by simp[e],h0⟩),h7⟩
 old h b hb:=by
  obtain⟨o,f,sig,A,c,rs,B,d,ws,V,cv,xs,K,ck,ks,h1,h2,h3,h4,h5,h6,h7⟩:=h;injection h1 with h1
  have g2:=Array.mk.inj h1;subst g2;obtain⟨off,q,cc,hm,h0⟩:=hb;simp only[List.mem_cons,reduceCtorEq,Value.slice.injEq,List.not_mem_nil,or_false,false_or]at hm;rcases hm with⟨e1,e2,_⟩|⟨e1,e2,_⟩|⟨e1,e2,_⟩|⟨e1,e2,_⟩
  ·exact sreads_lt h3 e1.symm (by omega)
  ·exact sreads_lt h4 e1.symm (by omega)
  ·exact sreads_lt h5 e1.symm (by omega)
  ·exact preads_lt h6 e1.symm (by omega)
theorem mw_ok {ok:Nat→Prop} {w:World} {vs:List Value} {m:Mt} (h:IsM ok w (.agg vs.toArray) m) {b:Nat} (hb:Bk vs b):ok b:=by
 obtain⟨o,f,sig,A,c,rs,B,d,ws,V,cv,xs,K,ck,ks,h1,h2,h3,h4,h5,h6,_,_,_,_,k1,k2,k3,k4⟩:=h;injection h1 with h1
 have g2:=Array.mk.inj h1;subst g2;obtain⟨off,q,cc,hm,h0⟩:=hb;simp only[List.mem_cons,reduceCtorEq,Value.slice.injEq,List.not_mem_nil,or_false,false_or]at hm;rcases hm with⟨e1,e2,_⟩|⟨e1,e2,_⟩|⟨e1,e2,_⟩|⟨e1,e2,_⟩
 ·exact k1 b off e1.symm (by omega)
 ·exact k2 b off e1.symm (by omega)
 ·exact k3 b off e1.symm (by omega)
 ·exact k4 b off e1.symm (by omega)
theorem me_fm {w0 w w':World} {l:List Part} {x:Mt×Int} {e:Ending} (h:Fm w0 w l) (t:Me (fun b=>w.heap.size≤b) x e w'∧Below w.heap.size w w'):∃(o f sig:ByteArray) (ep:Int) (A:Option Addr) (n c:Nat) (B:Option Addr) (m d ver:Nat) (V:Option Addr) (k cv:Nat) (K:Option Addr) (q ck:Nat),
 Fm w0 w' (mwP (fun b=>w0.heap.size≤b) [.string o,.string f,.int .i64 ep,.slice A n c,.slice B m d,.int .u64 (ver:Int),.slice V k cv,.slice K q ck,.string sig] x.1::l)∧e = .returned (.tuple #[.agg #[.string o,.string f,.int .i64 ep,.slice A n c,.slice B m d,.int .u64 (ver:Int),.slice V k cv,.slice K q ck,.string sig],.int .i64 x.2]):=by
 obtain⟨⟨v,h1,h2⟩,hb⟩:=t;obtain⟨o,f,sig,A,c,rs,B,d,ws,V,cv,vs,K,ck,ks,rfl,_⟩:=id h1;refine⟨o,f,sig,_,A,_,c,B,_,d,_,V,_,cv,K,_,ck,h.new (p:=mwP (fun b=>w0.heap.size≤b) _ x.1) hb (h1.mono fun b _ hb=>Nat.le_trans h.bel.size hb) (fun b hb=>mw_ok h1 hb) (fun _ h=>h.elim),h2⟩
theorem cright_w (v:Value) (m:Mt) (w:World) (h:IsW w v m) (hf:FewM m):Calls Tryz.prog 36 #[v] w fun e w'=>e = .returned (.bool (decide (MR m)))∧Below w.heap.size w w':=by
 obtain⟨o,f,sig,ep,A,c,rs,B,d,ws,ver,V,cv,vs,K,ck,ks,rfl,rfl,h3,h4,h5,h6,h7,h8⟩:=isW_lit h;exact cright_any o f sig ep A c rs B d ws ver V cv vs K ck ks w h3 h4 h5 h6 h7 h8 hf
theorem cput_w (v:Value) (m:Mt) (w:World) (h:IsW w v m) (hf:FewM m):Calls Tryz.prog 19 #[v] w fun e w'=>Srt (putM m) e∧Below w.heap.size w w':=by
 obtain⟨o,f,sig,ep,A,c,rs,B,d,ws,ver,V,cv,vs,K,ck,ks,rfl,rfl,h3,h4,h5,h6,h7,h8⟩:=isW_lit h;exact cput_any o f sig ep A c rs B d ws ver V cv vs K ck ks w h3 h4 h5 h6 h7 h8 hf
theorem ctake_new (s:ByteArray) (w:World) (hs:s.size≤1100000):Calls Tryz.prog 46 #[.string s] w fun e w'=>Me (fun b=>w.heap.size≤b) (takeM s.data.toList) e w'∧Below w.heap.size w w':=
 (ctake_any (List.range w.heap.size) s w (fun g hg=>List.mem_range.1 hg) hs).mono fun e w' h=>by
   obtain⟨⟨v,h1,h2⟩,h3⟩:=h;exact⟨⟨v,h1.mono fun b _ hb=>Nat.le_of_not_lt fun hl=>hb (List.mem_range.2 hl),h2⟩,h3⟩
end Go.Proofs.YtmihiknebelkbaaGreat.Own
namespace Go.Proofs.YtmihiknebelkbaaGreat.Tre
open Go.RowKit Wire Term Draw Reg Clo
end Go.Proofs.YtmihiknebelkbaaGreat.Tre
namespace Go.Proofs.YtmihiknebelkbaaGreat.Tre
open Go.RowKit Wire Term Draw Reg Clo
end Go.Proofs.YtmihiknebelkbaaGreat.Tre
namespace Go.Proofs.YtmihiknebelkbaaGreat.Tre
open Go.RowKit Wire Term Draw Reg Clo
theorem str_eq {S H:ByteArray} (h:S.data.toList=H.data.toList):S=H:=by
 cases S;cases H
 simp only[ByteArray.mk.injEq];exact Array.toList_inj.1 h
end Go.Proofs.YtmihiknebelkbaaGreat.Tre
namespace Go.Proofs.YtmihiknebelkbaaGreat.Tre
open Go.RowKit Wire Term Draw Reg Clo
end Go.Proofs.YtmihiknebelkbaaGreat.Tre
namespace Go.Proofs.YtmihiknebelkbaaGreat.Tre
open Go.RowKit Wire Term Draw Reg Clo
end Go.Proofs.YtmihiknebelkbaaGreat.Tre
namespace Go.Proofs.YtmihiknebelkbaaGreat.Tre
open Go Go.RowKit
structure Keeps (B m:Nat) (A C:World):Prop where
 size:A.heap.size≤C.heap.size
 same:∀k,B≤k→k<m→C.heap[k]? = A.heap[k]?
theorem Keeps.refl (B m:Nat) (A:World):Keeps B m A A:=⟨Nat.le_refl _,fun _ _ _=>rfl⟩
theorem Keeps.trans {B m:Nat} {A C D:World} (h:Keeps B m A C) (k:Keeps B m C D):Keeps B m A D:=
 ⟨Nat.le_trans h.size k.size,fun i h1 h2=>(k.same i h1 h2).trans (h.same i h1 h2)⟩
theorem Keeps.mono {B B' m:Nat} {A C:World} (h:Keeps B m A C) (hB:B≤B'):Keeps B' m A C:=⟨h.size,fun k h1 h2=>h.same k (by omega) h2⟩
theorem Keeps.cell {B m:Nat} {A C:World} (h:Keeps B m A C) {p:Addr} (h1:B≤p.block) (h2:p.block<m):C.cell? p=A.cell? p:=
 World.cell?_of_block (h.same p.block h1 h2)
end Go.Proofs.YtmihiknebelkbaaGreat.Tre
namespace Go.Proofs.YtmihiknebelkbaaGreat.Tre
open Go.RowKit Wire Term Draw Reg Clo
end Go.Proofs.YtmihiknebelkbaaGreat.Tre
namespace Go.Proofs.YtmihiknebelkbaaGreat.Tre
open Go Go.RowKit Go.Shelf Wire Term Draw Reg Clo
attribute [local go_sem] Oper.semAt_some
def pcs (x:Nat×Nat):Value:=.agg #[.int .i64 (x.1:Int),.int .i64 (x.2:Int)]
structure Bxs (w:World) (bt bf bi:Nat) (i f t:Nat):Prop where
 t0:w.cell? ⟨bt,0,none⟩=some (.int .i64 (t:Int))
 f0:w.cell? ⟨bf,0,none⟩=some (.int .i64 (f:Int))
 i0:w.cell? ⟨bi,0,none⟩=some (.int .i64 (i:Int))
 lt:bt<w.heap.size
 lf:bf<w.heap.size
 li:bi<w.heap.size
theorem Bxs.below {w w':World} {bt bf bi i f t:Nat} (h:Bxs w bt bf bi i f t) (hb:Below w.heap.size w w'):Bxs w' bt bf bi i f t:=
 ⟨(hb.cell (p:=⟨bt,0,none⟩) h.lt).trans h.t0,(hb.cell (p:=⟨bf,0,none⟩) h.lf).trans h.f0,(hb.cell (p:=⟨bi,0,none⟩) h.li).trans h.i0,Nat.lt_of_lt_of_le h.lt hb.size,Nat.lt_of_lt_of_le h.lf hb.size,Nat.lt_of_lt_of_le h.li hb.size⟩
end Go.Proofs.YtmihiknebelkbaaGreat.Tre
namespace Go.Proofs.YtmihiknebelkbaaGreat.Tre
open Go.RowKit Wire Term Draw Reg Clo
end Go.Proofs.YtmihiknebelkbaaGreat.Tre
namespace Go.Proofs.YtmihiknebelkbaaGreat.Tre
open Go.RowKit Wire Term Draw Reg Clo
end Go.Proofs.YtmihiknebelkbaaGreat.Tre
namespace Go.Proofs.YtmihiknebelkbaaGreat.Tre
open Go.RowKit Wire Term Draw Reg Clo
end Go.Proofs.YtmihiknebelkbaaGreat.Tre
namespace Go.Proofs.YtmihiknebelkbaaGreat.Tre
open Wire Term Draw Reg Clo
end Go.Proofs.YtmihiknebelkbaaGreat.Tre
namespace Go.Proofs.YtmihiknebelkbaaGreat.Tre
open Go Go.RowKit Go.Shelf Wire Term Draw Reg Clo
attribute [local go_sem] Oper.semAt_some
end Go.Proofs.YtmihiknebelkbaaGreat.Tre
namespace Go.Proofs.YtmihiknebelkbaaGreat.Tre
open Go Go.RowKit Go.Shelf Wire Term Draw Reg Clo
attribute [local go_sem] Oper.semAt_some
end Go.Proofs.YtmihiknebelkbaaGreat.Tre
namespace Go.Proofs.YtmihiknebelkbaaGreat.Tre
open Go Go.RowKit Wire Term Draw Reg Clo
theorem Bel.call {w0 w1 w2:World} (h:Below w0.heap.size w0 w1) (h2:Below w1.heap.size w1 w2):Below w0.heap.size w0 w2:=h.trans (h2.mono h.size)
end Go.Proofs.YtmihiknebelkbaaGreat.Tre
namespace Go.Proofs.YtmihiknebelkbaaGreat.Tre
open Go Go.RowKit Wire Term Draw Reg Clo
end Go.Proofs.YtmihiknebelkbaaGreat.Tre
namespace Go.Proofs.YtmihiknebelkbaaGreat.Tre
open Go Go.RowKit Wire Term Draw Reg Clo
end Go.Proofs.YtmihiknebelkbaaGreat.Tre
namespace Go.Proofs.YtmihiknebelkbaaGreat.Tre
open Go Go.RowKit Wire Term Draw Reg Clo
end Go.Proofs.YtmihiknebelkbaaGreat.Tre
namespace Go.Proofs.YtmihiknebelkbaaGreat.Tre
open Go Go.RowKit Wire Term Draw Reg Clo
end Go.Proofs.YtmihiknebelkbaaGreat.Tre
namespace Go.Proofs.YtmihiknebelkbaaGreat.Tre
open Go Go.RowKit Wire Term Draw Reg Clo
theorem cell_at {w:World} {g o j:Nat} {ys:List ByteArray} (h:SReads w (some ⟨g,o,none⟩) ys) (hj:j<ys.length):w.cell? ⟨g,o+j,none⟩=some (.string (ys.getD j ByteArray.empty)):=by
 obtain⟨b,o',e,_,hc⟩:=h j hj;injection e with e
 injection e with e1 e2 _
 subst e1;subst e2;exact hc
end Go.Proofs.YtmihiknebelkbaaGreat.Tre
