/-
  MCRead. By an AI agent.
-/
import Derived.Test.YtmihiknebelkbaaGreatOZ
import Derived.Test.YtmihiknebelkbaaGreatOMCTake
import Derived.Test.YtmihiknebelkbaaGreatOMCRight
import Derived.Test.YtmihiknebelkbaaGreatOC1
import Derived.Test.YtmihiknebelkbaaGreatOMCSort
set_option linter.unusedSimpArgs false
set_option linter.unusedVariables false
set_option maxHeartbeats 8000000
namespace Go.Proofs.YtmihiknebelkbaaGreat.Mta
open Go.RowKit Wire Term Rig
def Mr (gs:List Nat) (x:Option Mt) (e:Ending) (w':World):Prop:=match x with
 | none=>e = .returned (.tuple #[.agg #[.string ⟨#[]⟩,.string ⟨#[]⟩,.int .i64 0,.slice none 0 0,.slice none 0 0,.int .u64 0,.slice none 0 0,.slice none 0 0,.string ⟨#[]⟩],.bool false])
 | some m=>∃v,IsM (Off gs) w' v m∧e = .returned (.tuple #[v,.bool true])
def readQ (t0 t1 t2 t3 q:Tm):Option Mt:=
 if(takeR t0).2≠0 then none
 else if(tk t1).2.2≠0∨(tk t1).2.1≠[]then none
 else match rowK t2 ((takeR t0).1.ep.toNat+1)with
  | none=>none
  | some v=>match blksK t3 ((takeR t0).1.rs.length+(takeR t0).1.ws.length)with
   | none=>none
   | some b=>some ⟨(takeR t0).1,(tk t1).1,v,b,q⟩
theorem readP_q (t0 t1 t2 t3 q:Tm):readP [t0,t1,t2,t3] q=readQ t0 t1 t2 t3 q:=rfl
def Rs (g:Nat) (w:World):Prop:=Mx g w ⟨#[]⟩ ⟨#[]⟩ 0 none 0 0 none 0 0 0 none 0 0 none 0 0 ⟨#[]⟩∧Sf9 g w
theorem Rs.call {g:Nat} {w w':World} (h:Rs g w) (hb:Below w.heap.size w w'):Rs g w':=⟨h.1.call hb,h.2.below hb h.1.2⟩
theorem rs_lt {g:Nat} {w:World} (h:Rs g w):g<w.heap.size:=h.1.2
theorem isM_mk {ok:Nat→Prop} {w:World} {o f:ByteArray} {ep:Int} {A:Option Addr} {n c:Nat} {B:Option Addr} {m d:Nat} {r:Rt} (hx:IsX ok w (.agg #[.string o,.string f,.int .i64 ep,.slice A n c,.slice B m d]) r) (ver:Nat) {V:Option Addr} {cv:Nat} {vs:List ByteArray} (hv:SReads w V vs) (hvc:vs.length≤cv∧(V=none→cv=0)) (hvo:∀b off,V=some ⟨b,off,none⟩→0<vs.length→ok b)
 {K:Option Addr} {ck:Nat} {ks:List (ByteArray×ByteArray)} (hk:PReads w K ks) (hkc:ks.length≤ck∧(K=none→ck=0)) (hko:∀b off,K=some ⟨b,off,none⟩→0<ks.length→ok b) (sig:ByteArray):
 IsM ok w (.agg #[.string o,.string f,.int .i64 ep,.slice A n c,.slice B m d,.int .u64 (ver:Int),.slice V vs.length cv,.slice K ks.length ck,.string sig]) ⟨r,ver,bl vs,pl ks,sig.data.toList⟩:=by
 obtain⟨o',f',A',c',rs,B',d',ws,h1,h2,h3,h4,h5,h6,h7,h8⟩:=hx;simp[RV]at h1;obtain⟨rfl,rfl,rfl,⟨rfl,rfl,rfl⟩,⟨rfl,rfl,rfl⟩⟩:=h1;exact⟨o,f,sig,A,c,rs,B,d,ws,V,cv,vs,K,ck,ks,rfl,congrArg (fun r=>(⟨r,ver,bl vs,pl ks,sig.data.toList⟩:Mt)) h2,h3,h4,hv,hk,h5,h6,hvc,hkc,h7,h8,hvo,hko⟩
theorem rs_alloc (w:World) (t:TypeId):Rs w.heap.size (w.alloc (.cells #[.string ⟨#[]⟩,.string ⟨#[]⟩,.int .i64 0,.slice none 0 0,.slice none 0 0,.int .u64 0,.slice none 0 0,.slice none 0 0,.string ⟨#[]⟩] t)):=⟨mx_alloc w ⟨#[]⟩ ⟨#[]⟩ 0 none 0 0 none 0 0 0 none 0 0 none 0 0 ⟨#[]⟩ t,sf9_alloc w _ t⟩
set_option maxRecDepth 1000000 in
theorem read_any (gs:List Nat) (s:ByteArray) (w:World) (hg:∀g∈gs,g<w.heap.size) (hs:s.size≤1100000):
 Calls Tryz.prog 69 #[.string s] w fun e w'=>Mr gs (readM s.data.toList) e w'∧Below w.heap.size w w':=by
 have HT2:Hid (∀w,Calls Tryz.prog 90 #[.string s,.int .i64 2] w fun e w'=>Rk w.heap.size (rowK s.data.toList 2) e w'∧Below w.heap.size w w'):=zh fun w=>takeRow_any s 2 w (by omega) (by omega)
 obtain⟨z,hz⟩:∃z,readM s.data.toList=z:=⟨_,rfl⟩
 have HZQ:=zh hz;rw[hz];clear hz;have hlen:s.data.toList.length≤1100000:=by rw[←Lib.size_eq];exact hs
 cases h1:rowK s.data.toList 2 with
 | none=>
  rw[h1]at HT2;obtain rfl:z=none:=by rw[←HZQ.out];unfold readM;rw[h1]
  clear h1 hlen;go_enter Tryz.func69,Tryz.ntmps69;go_wp2_with fail;have HRS:=zh (rs_alloc w 28);have HB:=zh (al w (.cells #[.string ⟨#[]⟩,.string ⟨#[]⟩,.int .i64 0,.slice none 0 0,.slice none 0 0,.int .u64 0,.slice none 0 0,.slice none 0 0,.string ⟨#[]⟩] 28));obtain⟨R,hR⟩:∃n,w.heap.size=n:=⟨_,rfl⟩
  have HG:=zh hR;generalize w.alloc (.cells #[.string ⟨#[]⟩,.string ⟨#[]⟩,.int .i64 0,.slice none 0 0,.slice none 0 0,.int .u64 0,.slice none 0 0,.slice none 0 0,.string ⟨#[]⟩] 28)=w1 at HRS HB⊢;rw[hR]at HRS⊢;clear hR;with_reducible refine(HT2.out _).mono ?_
  rintro e w2 ⟨hr,hb2⟩;obtain rfl:e = .returned (.tuple #[.slice none 0 0,.bool false]):=hr;have HB:=zh (Bel.call HB.out hb2);have HRS:=zh (HRS.out.call hb2);clear hb2;dsimp only;obtain⟨⟨⟨r0,r1,r2,r3,r4,r5,r6,r7,r8⟩,_⟩,⟨f0,f1,f2,f3,f4,f5,f6,f7,f8⟩⟩:=HRS.out;go_wp2;refine bodyPost_ret (v:=.tuple #[.agg #[.string ⟨#[]⟩,.string ⟨#[]⟩,.int .i64 0,.slice none 0 0,.slice none 0 0,.int .u64 0,.slice none 0 0,.slice none 0 0,.string ⟨#[]⟩],.bool false]) (by simp[results,Tryz.results69,go_sem,r0,r1,r2,r3,r4,r5,r6,r7,r8]) rfl ?_;exact⟨rfl,set9 HB.out (by rw[HG.out];exact Nat.le_refl _)⟩
 | some l=>
  rw[h1]at HT2;have hl:=rowK_back h1;have hl2:=two_of hl.2
  have hz0:(l.getD 0 []).length≤1100000:=by
   have h:=part_le (l:=l) (t:=l.getD 0 []) (by rw[hl2];simp);rw[←hl.1]at h;omega
  have HL2:Hid (∀l',rowK s.data.toList 2=some l'→l'.length=2):=zh fun l' h=>(rowK_back h).2
  cases h2:rowK (l.getD 0 []) 4 with
  | none=>
   obtain rfl:z=none:=by rw[←HZQ.out];unfold readM;rw[h1];simp only;rw[h2]
   have H2:=zh h2;have HLL:=zh hl.2;have HZ0:=zh hz0;clear h1 h2 hl hl2 hlen hz0 HL2;go_enter Tryz.func69,Tryz.ntmps69;go_wp2_with fail;have HRS:=zh (rs_alloc w 28);have HB:=zh (al w (.cells #[.string ⟨#[]⟩,.string ⟨#[]⟩,.int .i64 0,.slice none 0 0,.slice none 0 0,.int .u64 0,.slice none 0 0,.slice none 0 0,.string ⟨#[]⟩] 28));obtain⟨R,hR⟩:∃n,w.heap.size=n:=⟨_,rfl⟩
   have HG:=zh hR;generalize w.alloc (.cells #[.string ⟨#[]⟩,.string ⟨#[]⟩,.int .i64 0,.slice none 0 0,.slice none 0 0,.int .u64 0,.slice none 0 0,.slice none 0 0,.string ⟨#[]⟩] 28)=w1 at HRS HB⊢;rw[hR]at HRS⊢;clear hR;with_reducible refine(HT2.out _).mono ?_
   rintro e w2 ⟨hr,hb2⟩;obtain⟨b1,o1,c1,P,Q,hPQ,hb1,hlt1,hc0,hc1,rfl⟩:=rk_two hr fun l' h=>by injection h with h;rw[←h];exact HLL.out
   have HNB:Hid (R<b1):=zh (by have:=rs_lt HRS.out;omega);have HB:=zh (Bel.call HB.out hb2);have HRS:=zh (HRS.out.call hb2);obtain⟨eP,eQ⟩:l.getD 0 []=P.data.toList∧l.getD 1 []=Q.data.toList:=by rw[hPQ];exact⟨rfl,rfl⟩
   have HEP:=zh eP;have HEQ:=zh eQ;have hpz:P.size≤1100000:=by rw[Lib.size_eq,←eP];exact HZ0.out
   have HT4:Hid (∀w,Calls Tryz.prog 90 #[.string P,.int .i64 4] w fun e w'=>Rk w.heap.size (rowK P.data.toList 4) e w'∧Below w.heap.size w w'):=zh fun w=>takeRow_any P 4 w (by omega) (by omega)
   rw[←eP,H2.out]at HT4;have HC1:=zh hc1;have HLT1:=zh hlt1;clear hb2 eP eQ hPQ hr hpz hb1;dsimp only;go_wp2_with fail;clear hc0 hc1 hlt1;with_reducible refine(HT4.out _).mono ?_
   rintro e w3 ⟨hr,hb3⟩;obtain rfl:e = .returned (.tuple #[.slice none 0 0,.bool false]):=hr;have HB:=zh (Bel.call HB.out hb3);have HRS:=zh (HRS.out.call hb3);clear hb3;dsimp only;obtain⟨⟨⟨r0,r1,r2,r3,r4,r5,r6,r7,r8⟩,_⟩,⟨f0,f1,f2,f3,f4,f5,f6,f7,f8⟩⟩:=HRS.out;go_wp2;refine bodyPost_ret (v:=.tuple #[.agg #[.string ⟨#[]⟩,.string ⟨#[]⟩,.int .i64 0,.slice none 0 0,.slice none 0 0,.int .u64 0,.slice none 0 0,.slice none 0 0,.string ⟨#[]⟩],.bool false]) (by simp[results,Tryz.results69,go_sem,r0,r1,r2,r3,r4,r5,r6,r7,r8]) rfl ?_;exact⟨rfl,set9 HB.out (by rw[HG.out];exact Nat.le_refl _)⟩
  | some p=>
   have hp:=rowK_back h2;have hp4:=four_of hp.2
   have hz:∀t∈p,t.length≤1100000:=fun t ht=>by
    have h:=part_le ht;rw[←hp.1]at h;omega
   have HZP:Hid (z=readP p (l.getD 1 [])):=zh (by rw[←HZQ.out];unfold readM;rw[h1];simp only;rw[h2]);have H2:=zh h2;have HLL:=zh hl.2;have HZ0:=zh hz0;have HPL:=zh hp.2;have HZ:=zh hz;have HP4:=zh hp4;clear h1 h2 hl hl2 hlen hz0 HL2 hp hz hp4;go_enter Tryz.func69,Tryz.ntmps69;go_wp2_with fail;have HRS:=zh (rs_alloc w 28);have HB:=zh (al w (.cells #[.string ⟨#[]⟩,.string ⟨#[]⟩,.int .i64 0,.slice none 0 0,.slice none 0 0,.int .u64 0,.slice none 0 0,.slice none 0 0,.string ⟨#[]⟩] 28));obtain⟨R,hR⟩:∃n,w.heap.size=n:=⟨_,rfl⟩
   have HG:=zh hR;generalize w.alloc (.cells #[.string ⟨#[]⟩,.string ⟨#[]⟩,.int .i64 0,.slice none 0 0,.slice none 0 0,.int .u64 0,.slice none 0 0,.slice none 0 0,.string ⟨#[]⟩] 28)=w1 at HRS HB⊢;rw[hR]at HRS⊢;clear hR;with_reducible refine(HT2.out _).mono ?_
   rintro e w2 ⟨hr,hb2⟩;obtain⟨b1,o1,c1,P,Q,hPQ,hb1,hlt1,hc0,hc1,rfl⟩:=rk_two hr fun l' h=>by injection h with h;rw[←h];exact HLL.out
   have HNB:Hid (R<b1):=zh (by have:=rs_lt HRS.out;omega);have HB:=zh (Bel.call HB.out hb2);have HRS:=zh (HRS.out.call hb2);obtain⟨eP,eQ⟩:l.getD 0 []=P.data.toList∧l.getD 1 []=Q.data.toList:=by rw[hPQ];exact⟨rfl,rfl⟩
   have HEP:=zh eP;have HEQ:=zh eQ;have hpz:P.size≤1100000:=by rw[Lib.size_eq,←eP];exact HZ0.out
   have HT4:Hid (∀w,Calls Tryz.prog 90 #[.string P,.int .i64 4] w fun e w'=>Rk w.heap.size (rowK P.data.toList 4) e w'∧Below w.heap.size w w'):=zh fun w=>takeRow_any P 4 w (by omega) (by omega)
   rw[←eP,H2.out]at HT4;have HC1:=zh hc1;have HLT1:=zh hlt1;clear hb2 eP eQ hPQ hr hpz hb1;dsimp only;go_wp2_with fail;clear hc0 hc1 hlt1;with_reducible refine(HT4.out _).mono ?_
   rintro e w3 ⟨hr,hb3⟩;obtain⟨b3,o3,c3,T0,T1,T2,T3,hTT,hb4,hlt3,hd0,hd1,hd2,hd3,rfl⟩:=rk_four hr fun l' h=>by injection h with h;rw[←h];exact HPL.out
   have HB:=zh (Bel.call HB.out hb3);have HRS:=zh (HRS.out.call hb3);have HC1:=zh ((hb3.cell (p:=⟨b1,o1+1,none⟩) HLT1.out).trans HC1.out);have HLT1:=zh (Nat.lt_of_lt_of_le HLT1.out hb3.size);have hz0:T0.size≤1100000:=by rw[Lib.size_eq];exact HZ.out _ (by rw[hTT];simp)
   have hz1:T1.size≤1100000:=by rw[Lib.size_eq];exact HZ.out _ (by rw[hTT];simp)
   have hz2:T2.size≤1100000:=by rw[Lib.size_eq];exact HZ.out _ (by rw[hTT];simp)
   have hz3:T3.size≤1100000:=by rw[Lib.size_eq];exact HZ.out _ (by rw[hTT];simp)
   obtain⟨e0,e1,e2,e3⟩:p.getD 0 []=T0.data.toList∧p.getD 1 []=T1.data.toList∧p.getD 2 []=T2.data.toList∧p.getD 3 []=T3.data.toList:=by rw[hTT];exact⟨rfl,rfl,rfl,rfl⟩
   have HRQ:Hid (z=readQ T0.data.toList T1.data.toList T2.data.toList T3.data.toList Q.data.toList):=zh (by rw[HZP.out,HEQ.out,hTT];exact readP_q _ _ _ _ _);have HCD:Hid (b3<w3.heap.size∧w3.cell? ⟨b3,o3,none⟩=some (.string T0)∧w3.cell? ⟨b3,o3+1,none⟩=some (.string T1)∧w3.cell? ⟨b3,o3+2,none⟩=some (.string T2)∧w3.cell? ⟨b3,o3+3,none⟩=some (.string T3)):=zh ⟨hlt3,hd0,hd1,hd2,hd3⟩;clear hb3 e0 e1 e2 e3 hTT HZP HZQ hr hb4 hlt3 hd1 hd2 hd3 HT2 HT4 HEP HEQ HZ HPL HP4 H2 HLL HZ0;dsimp only;go_wp2_with fail;clear hd0;have HTK:=zh fun w hg=>take_code (R::gs) T0 w hg (by omega)
   obtain⟨x,ex,hx⟩:∃x e,takeR T0.data.toList=(x,e):=⟨_,_,rfl⟩
   rw[hx]at HTK;have HX:=zh hx;have hxr:=takeR_cases T0.data.toList;rw[hx]at hxr;have HXR:=zh hxr;clear hx hxr;have HRQ2:Hid (z=if ex≠0 then none else if(tk T1.data.toList).2.2≠0∨(tk T1.data.toList).2.1≠[]then none else match rowK T2.data.toList (x.ep.toNat+1)with|none=>none|some v=>match blksK T3.data.toList (x.rs.length+x.ws.length)with|none=>none|some b=>some ⟨x,(tk T1.data.toList).1,v,b,Q.data.toList⟩):=zh (by rw[HRQ.out];unfold readQ;rw[HX.out]);clear HRQ
   with_reducible refine(HTK.out _ (fun g h=>by
    rcases List.mem_cons.1 h with rfl|h
    ·exact rs_lt HRS.out
    ·exact Nat.lt_of_lt_of_le (hg g h) HB.out.size)).mono ?_
   rintro e w4 ⟨⟨v,hxv,rfl⟩,hb4⟩;obtain⟨o4,f4,p4,A4,n4,c4,B4,m4,d4,rfl,hp4,hn4,hm4,ho4,hf4,hxv⟩:=isX_lit hxv;have HB:=zh (Bel.call HB.out hb4);have HRS:=zh (HRS.out.call hb4);have HC1:=zh ((hb4.cell (p:=⟨b1,o1+1,none⟩) HLT1.out).trans HC1.out);have HLT1:=zh (Nat.lt_of_lt_of_le HLT1.out hb4.size);have HCD:Hid (b3<_∧_∧_∧_∧_):=zh ⟨Nat.lt_of_lt_of_le HCD.out.1 hb4.size,(hb4.cell (p:=⟨b3,o3,none⟩) HCD.out.1).trans HCD.out.2.1,(hb4.cell (p:=⟨b3,o3+1,none⟩) HCD.out.1).trans HCD.out.2.2.1,(hb4.cell (p:=⟨b3,o3+2,none⟩) HCD.out.1).trans HCD.out.2.2.2.1,(hb4.cell (p:=⟨b3,o3+3,none⟩) HCD.out.1).trans HCD.out.2.2.2.2⟩;have HXV:=zh hxv;have HPE:=zh hp4;have HN4:=zh hn4;have HM4:=zh hm4;clear hb4 hxv hp4 hn4 hm4 ho4 hf4;dsimp only at HXV HPE HN4 HM4⊢;have hbS:=al w4 (.cells #[.string o4,.string f4,.int .i64 p4,.slice A4 n4 c4,.slice B4 m4 d4] 24);have HNG:Hid (R<w4.heap.size):=zh (rs_lt HRS.out);have HBX:=zh (bx_alloc w4 o4 f4 p4 A4 n4 c4 B4 m4 d4 24);have HB:=zh (Bel.call HB.out hbS);have HRS:=zh (HRS.out.call hbS);have HC1:=zh ((hbS.cell (p:=⟨b1,o1+1,none⟩) HLT1.out).trans HC1.out);have HLT1:=zh (Nat.lt_of_lt_of_le HLT1.out hbS.size);have HCD:Hid (b3<_∧_∧_∧_∧_):=zh ⟨Nat.lt_of_lt_of_le HCD.out.1 hbS.size,(hbS.cell (p:=⟨b3,o3,none⟩) HCD.out.1).trans HCD.out.2.1,(hbS.cell (p:=⟨b3,o3+1,none⟩) HCD.out.1).trans HCD.out.2.2.1,(hbS.cell (p:=⟨b3,o3+2,none⟩) HCD.out.1).trans HCD.out.2.2.2.1,(hbS.cell (p:=⟨b3,o3+3,none⟩) HCD.out.1).trans HCD.out.2.2.2.2⟩;have HXV:=zh (HXV.out.below hbS zl);clear hbS;by_cases hex:ex=0
   case neg=>
    have q:(ex != 0)=true:=by simpa using hex
    obtain rfl:z=none:=by rw[HRQ2.out,if_pos hex]
    obtain⟨⟨⟨r0,r1,r2,r3,r4,r5,r6,r7,r8⟩,_⟩,⟨f0,f1,f2,f3,f4,f5,f6,f7,f8⟩⟩:=HRS.out;go_wp2;refine bodyPost_ret (v:=.tuple #[.agg #[.string ⟨#[]⟩,.string ⟨#[]⟩,.int .i64 0,.slice none 0 0,.slice none 0 0,.int .u64 0,.slice none 0 0,.slice none 0 0,.string ⟨#[]⟩],.bool false]) (by simp[results,Tryz.results69,go_sem,r0,r1,r2,r3,r4,r5,r6,r7,r8]) rfl ?_;exact⟨rfl,set9 HB.out (by rw[HG.out];exact Nat.le_refl _)⟩
   subst hex;have HTB:=zh fun w=>takeB_any T1 w (by omega)
   obtain⟨nn,rest,e5,htk⟩:∃n r e,tk T1.data.toList=(n,r,e):=⟨_,_,_,rfl⟩
   rw[htk]at HTB;have HTKQ:=zh htk;clear htk;obtain⟨_,_,hd1,_,_⟩:=HCD.out;go_wp2_with fail;clear hd1;obtain⟨gr,hgr⟩:∃n,w4.heap.size=n:=⟨_,rfl⟩
   generalize w4.alloc (.cells #[.string o4,.string f4,.int .i64 p4,.slice A4 n4 c4,.slice B4 m4 d4] 24)=w5 at HB HRS HC1 HLT1 HCD HXV HBX⊢;rw[hgr]at HBX HNG⊢;clear hgr;with_reducible refine(HTB.out _).mono ?_
   rintro e w6 ⟨⟨RS,hRS,rfl⟩,hb6⟩;have HB:=zh (Bel.call HB.out hb6);have HRS:=zh (HRS.out.call hb6);have HC1:=zh ((hb6.cell (p:=⟨b1,o1+1,none⟩) HLT1.out).trans HC1.out);have HLT1:=zh (Nat.lt_of_lt_of_le HLT1.out hb6.size);have HCD:Hid (b3<_∧_∧_∧_∧_):=zh ⟨Nat.lt_of_lt_of_le HCD.out.1 hb6.size,(hb6.cell (p:=⟨b3,o3,none⟩) HCD.out.1).trans HCD.out.2.1,(hb6.cell (p:=⟨b3,o3+1,none⟩) HCD.out.1).trans HCD.out.2.2.1,(hb6.cell (p:=⟨b3,o3+2,none⟩) HCD.out.1).trans HCD.out.2.2.2.1,(hb6.cell (p:=⟨b3,o3+3,none⟩) HCD.out.1).trans HCD.out.2.2.2.2⟩;have HXV:=zh (HXV.out.below hb6 zl);have HBX:=zh (HBX.out.below hb6 (bx_lt HBX.out));dsimp only at hRS;have HRS2:=zh hRS;clear hb6 hRS HTB HTK;dsimp only;by_cases he5:e5=0
   case neg=>
    have q:(e5 != 0)=true:=by simpa using he5
    obtain rfl:z=none:=by rw[HRQ2.out,if_neg (by simp),HTKQ.out,if_pos (Or.inl he5)]
    obtain⟨⟨⟨r0,r1,r2,r3,r4,r5,r6,r7,r8⟩,_⟩,⟨f0,f1,f2,f3,f4,f5,f6,f7,f8⟩⟩:=HRS.out;go_wp2;refine bodyPost_ret (v:=.tuple #[.agg #[.string ⟨#[]⟩,.string ⟨#[]⟩,.int .i64 0,.slice none 0 0,.slice none 0 0,.int .u64 0,.slice none 0 0,.slice none 0 0,.string ⟨#[]⟩],.bool false]) (by simp[results,Tryz.results69,go_sem,r0,r1,r2,r3,r4,r5,r6,r7,r8]) rfl ?_;exact⟨rfl,set9 HB.out (by rw[HG.out];exact Nat.le_refl _)⟩
   subst he5;by_cases hre:rest = []
   case neg=>
    have q2:RS.toList.isEmpty=false:=nonempty_str (by rw[HRS2.out];exact hre)
    have q3:(RS.toList==[])=false:=by
     cases h:RS.toList with
     | nil=>rw[h]at q2;cases q2
     | cons b l=>rfl
    obtain rfl:z=none:=by rw[HRQ2.out,if_neg (by simp),HTKQ.out,if_pos (Or.inr hre)]
    obtain⟨⟨⟨r0,r1,r2,r3,r4,r5,r6,r7,r8⟩,_⟩,⟨f0,f1,f2,f3,f4,f5,f6,f7,f8⟩⟩:=HRS.out;go_wp2;refine bodyPost_ret (v:=.tuple #[.agg #[.string ⟨#[]⟩,.string ⟨#[]⟩,.int .i64 0,.slice none 0 0,.slice none 0 0,.int .u64 0,.slice none 0 0,.slice none 0 0,.string ⟨#[]⟩],.bool false]) (by simp[results,Tryz.results69,go_sem,r0,r1,r2,r3,r4,r5,r6,r7,r8]) rfl ?_;exact⟨rfl,set9 HB.out (by rw[HG.out];exact Nat.le_refl _)⟩
   subst hre;obtain rfl:RS=⟨#[]⟩:=str_eq HRS2.out
   have hrx:RR x:=by
    rcases HXR.out with h|⟨r,h,h2,_⟩
    ·cases h
    ·injection h with h3 _;rw[h3];exact h2
   have hpe:=HPE.out;have hx7:=hrx.2.2.1;have hep:((x.ep.toNat+1:Nat):Int)=p4+1:=by omega
   have hwr:IntKind.i64.wrap (p4+1)=p4+1:=by rw[IntKind.wrap_i64];omega
   have HTV:Hid (∀w,Calls Tryz.prog 90 #[.string T2,.int .i64 (p4+1)] w fun e w'=>Rk w.heap.size (rowK T2.data.toList (x.ep.toNat+1)) e w'∧Below w.heap.size w w'):=zh fun w=>by
    have h:=takeRow_any T2 (x.ep.toNat+1) w (by omega) (by omega);rw[hep]at h;exact h
   have hx5:=hrx.2.2.2.1;have hw2:IntKind.i64.wrap ((n4:Int)+(m4:Int))=(n4:Int)+(m4:Int):=by have h1:=HN4.out;have h2:=HM4.out;rw[IntKind.wrap_i64];omega
   have HTB4:Hid (∀w,Calls Tryz.prog 92 #[.string T3,.int .i64 ((n4:Int)+(m4:Int))] w fun e w'=>Rb w.heap.size (blksK T3.data.toList (x.rs.length+x.ws.length)) e w'∧Below w.heap.size w w'):=zh fun w=>by
    have h:=readBlocks_any T3 (x.rs.length+x.ws.length) w (by omega) (by omega);have h1:=HN4.out;have h2:=HM4.out;rw[←h1,←h2,Int.natCast_add]at h;rw[←h1,←h2];exact h
   have HZF:Hid (z=match rowK T2.data.toList (x.ep.toNat+1)with|none=>none|some v=>match blksK T3.data.toList (x.rs.length+x.ws.length)with|none=>none|some b=>some ⟨x,nn,v,b,Q.data.toList⟩):=zh (by rw[HRQ2.out,if_neg (by simp),HTKQ.out,if_neg (by simp)]);clear hpe hx7 hep hx5 hrx HRQ2 HTKQ HPE HX HXR;cases h3:rowK T2.data.toList (x.ep.toNat+1)with
   | none=>
    rw[h3]at HTV;obtain rfl:z=none:=by rw[HZF.out,h3]
    go_wp2_with fail;have hdr:Below w6.heap.size w6 w6.drew:=Below.drewN' (Below.refl _ _) 1;refine wp_region_held_drew (S:=fun w'=>Below w6.heap.size w6 w') (by kernel_rfl) hdr (fun hHeld=>?_);have HDR:=zh hdr;clear hdr;obtain⟨wd,hwd⟩:∃W,w6.drew=W:=⟨_,rfl⟩
    rw[hwd]at hHeld HDR⊢;clear hwd;refine zqT 0 ?_ ?_ ?_;rotate_left
    ·intro w' hSw;have k0:=(hSw.cell (p:=⟨b3,o3+2,none⟩) HCD.out.1).trans HCD.out.2.2.2.1;have k1:=(hSw.cell (p:=⟨b3,o3+3,none⟩) HCD.out.1).trans HCD.out.2.2.2.2;obtain⟨x0,x1,x2,x3,x4,_⟩:=HBX.out.below hSw (bx_lt HBX.out);go_simp;try with_reducible rfl
    try simp only[Act.put,zq1,zq2,zq3]
    refine zqT 1 ?_ ?_ ?_;rotate_left
    ·intro w' hSw;have k0:=(hSw.cell (p:=⟨b3,o3+2,none⟩) HCD.out.1).trans HCD.out.2.2.2.1;have k1:=(hSw.cell (p:=⟨b3,o3+3,none⟩) HCD.out.1).trans HCD.out.2.2.2.2;obtain⟨x0,x1,x2,x3,x4,_⟩:=HBX.out.below hSw (bx_lt HBX.out);go_simp;try with_reducible rfl
    try simp only[Act.put,zq1,zq2,zq3]
    refine zqT 2 ?_ ?_ ?_;rotate_left
    ·intro w' hSw;have k0:=(hSw.cell (p:=⟨b3,o3+2,none⟩) HCD.out.1).trans HCD.out.2.2.2.1;have k1:=(hSw.cell (p:=⟨b3,o3+3,none⟩) HCD.out.1).trans HCD.out.2.2.2.2;obtain⟨x0,x1,x2,x3,x4,_⟩:=HBX.out.below hSw (bx_lt HBX.out);go_simp;try with_reducible rfl
    try simp only[Act.put,zq1,zq2,zq3]
    refine zqT 3 ?_ ?_ ?_;rotate_left
    ·intro w' hSw;have k0:=(hSw.cell (p:=⟨b3,o3+2,none⟩) HCD.out.1).trans HCD.out.2.2.2.1;have k1:=(hSw.cell (p:=⟨b3,o3+3,none⟩) HCD.out.1).trans HCD.out.2.2.2.2;obtain⟨x0,x1,x2,x3,x4,_⟩:=HBX.out.below hSw (bx_lt HBX.out);go_simp;try with_reducible rfl
    try simp only[Act.put,zq1,zq2,zq3]
    refine zqT 4 ?_ ?_ ?_;rotate_left
    ·intro w' hSw;have k0:=(hSw.cell (p:=⟨b3,o3+2,none⟩) HCD.out.1).trans HCD.out.2.2.2.1;have k1:=(hSw.cell (p:=⟨b3,o3+3,none⟩) HCD.out.1).trans HCD.out.2.2.2.2;obtain⟨x0,x1,x2,x3,x4,_⟩:=HBX.out.below hSw (bx_lt HBX.out);go_simp;try with_reducible rfl
    try simp only[Act.put,zq1,zq2,zq3]
    refine zqT 5 ?_ ?_ ?_;rotate_left
    ·intro w' hSw;have k0:=(hSw.cell (p:=⟨b3,o3+2,none⟩) HCD.out.1).trans HCD.out.2.2.2.1;have k1:=(hSw.cell (p:=⟨b3,o3+3,none⟩) HCD.out.1).trans HCD.out.2.2.2.2;obtain⟨x0,x1,x2,x3,x4,_⟩:=HBX.out.below hSw (bx_lt HBX.out);go_simp;try with_reducible rfl
    try simp only[Act.put,zq1,zq2,zq3]
    clear hHeld;refine zqR [6] ?_;refine zqC (fun K hK=>?_) AllReadyH.nil;go_simp;go_at_call 90;with_reducible refine(HTV.out _).mono ?_
    rintro e w7 ⟨hr,hb7⟩;obtain rfl:e = .returned (.tuple #[.slice none 0 0,.bool false]):=hr;have hb8:=Bel.call HDR.out hb7;refine hK.out _ _ hb8 (fun hHeld=>?_);try simp only[Act.put,zq1,zq2,zq3]
    refine zqT 7 ?_ ?_ ?_;rotate_left
    ·intro w' hSw;have k0:=(hSw.cell (p:=⟨b3,o3+2,none⟩) HCD.out.1).trans HCD.out.2.2.2.1;have k1:=(hSw.cell (p:=⟨b3,o3+3,none⟩) HCD.out.1).trans HCD.out.2.2.2.2;obtain⟨x0,x1,x2,x3,x4,_⟩:=HBX.out.below hSw (bx_lt HBX.out);go_simp;try with_reducible rfl
    try simp only[Act.put,zq1,zq2,zq3]
    refine zqT 8 ?_ ?_ ?_;rotate_left
    ·intro w' hSw;have k0:=(hSw.cell (p:=⟨b3,o3+2,none⟩) HCD.out.1).trans HCD.out.2.2.2.1;have k1:=(hSw.cell (p:=⟨b3,o3+3,none⟩) HCD.out.1).trans HCD.out.2.2.2.2;obtain⟨x0,x1,x2,x3,x4,_⟩:=HBX.out.below hSw (bx_lt HBX.out);go_simp;try with_reducible rfl
    try simp only[Act.put,zq1,zq2,zq3]
    refine zqT 9 ?_ ?_ ?_;rotate_left
    ·intro w' hSw;have k0:=(hSw.cell (p:=⟨b3,o3+2,none⟩) HCD.out.1).trans HCD.out.2.2.2.1;have k1:=(hSw.cell (p:=⟨b3,o3+3,none⟩) HCD.out.1).trans HCD.out.2.2.2.2;obtain⟨x0,x1,x2,x3,x4,_⟩:=HBX.out.below hSw (bx_lt HBX.out);go_simp;try with_reducible rfl
    try simp only[Act.put,zq1,zq2,zq3]
    refine zqT 10 ?_ ?_ ?_;rotate_left
    ·intro w' hSw;have k0:=(hSw.cell (p:=⟨b3,o3+2,none⟩) HCD.out.1).trans HCD.out.2.2.2.1;have k1:=(hSw.cell (p:=⟨b3,o3+3,none⟩) HCD.out.1).trans HCD.out.2.2.2.2;obtain⟨x0,x1,x2,x3,x4,_⟩:=HBX.out.below hSw (bx_lt HBX.out);go_simp;try with_reducible rfl
    try simp only[Act.put,zq1,zq2,zq3]
    refine zqT 11 ?_ ?_ ?_;rotate_left
    ·intro w' hSw;have k0:=(hSw.cell (p:=⟨b3,o3+2,none⟩) HCD.out.1).trans HCD.out.2.2.2.1;have k1:=(hSw.cell (p:=⟨b3,o3+3,none⟩) HCD.out.1).trans HCD.out.2.2.2.2;obtain⟨x0,x1,x2,x3,x4,_⟩:=HBX.out.below hSw (bx_lt HBX.out);go_simp;try with_reducible rfl
    try simp only[Act.put,zq1,zq2,zq3]
    clear hHeld;refine wpAnyH_done (by kernel_rfl) ?_ _;have HB:=zh (Bel.call HB.out hb8);have HRS:=zh (HRS.out.call hb8);clear hb7 hb8;obtain⟨⟨⟨r0,r1,r2,r3,r4,r5,r6,r7,r8⟩,_⟩,⟨f0,f1,f2,f3,f4,f5,f6,f7,f8⟩⟩:=HRS.out;go_wp2;refine bodyPost_ret (v:=.tuple #[.agg #[.string ⟨#[]⟩,.string ⟨#[]⟩,.int .i64 0,.slice none 0 0,.slice none 0 0,.int .u64 0,.slice none 0 0,.slice none 0 0,.string ⟨#[]⟩],.bool false]) (by simp[results,Tryz.results69,go_sem,r0,r1,r2,r3,r4,r5,r6,r7,r8]) rfl ?_;exact⟨rfl,set9 HB.out (by rw[HG.out];exact Nat.le_refl _)⟩
   | some vl=>
    rw[h3]at HTV;have HZF2:Hid (z=match blksK T3.data.toList (x.rs.length+x.ws.length)with|none=>none|some b=>some ⟨x,nn,vl,b,Q.data.toList⟩):=zh (by rw[HZF.out,h3]);clear h3 HZF;go_wp2_with fail;have hdr:Below w6.heap.size w6 w6.drew:=Below.drewN' (Below.refl _ _) 1;refine wp_region_held_drew (S:=fun w'=>Below w6.heap.size w6 w') (by kernel_rfl) hdr (fun hHeld=>?_);have HDR:=zh hdr;have HRS6:=HRS;clear hdr;obtain⟨wd,hwd⟩:∃W,w6.drew=W:=⟨_,rfl⟩
    rw[hwd]at hHeld HDR⊢;clear hwd;refine zqT 0 ?_ ?_ ?_;rotate_left
    ·intro w' hSw;have k0:=(hSw.cell (p:=⟨b3,o3+2,none⟩) HCD.out.1).trans HCD.out.2.2.2.1;have k1:=(hSw.cell (p:=⟨b3,o3+3,none⟩) HCD.out.1).trans HCD.out.2.2.2.2;obtain⟨x0,x1,x2,x3,x4,_⟩:=HBX.out.below hSw (bx_lt HBX.out);go_simp;try with_reducible rfl
    try simp only[Act.put,zq1,zq2,zq3]
    refine zqT 1 ?_ ?_ ?_;rotate_left
    ·intro w' hSw;have k0:=(hSw.cell (p:=⟨b3,o3+2,none⟩) HCD.out.1).trans HCD.out.2.2.2.1;have k1:=(hSw.cell (p:=⟨b3,o3+3,none⟩) HCD.out.1).trans HCD.out.2.2.2.2;obtain⟨x0,x1,x2,x3,x4,_⟩:=HBX.out.below hSw (bx_lt HBX.out);go_simp;try with_reducible rfl
    try simp only[Act.put,zq1,zq2,zq3]
    refine zqT 2 ?_ ?_ ?_;rotate_left
    ·intro w' hSw;have k0:=(hSw.cell (p:=⟨b3,o3+2,none⟩) HCD.out.1).trans HCD.out.2.2.2.1;have k1:=(hSw.cell (p:=⟨b3,o3+3,none⟩) HCD.out.1).trans HCD.out.2.2.2.2;obtain⟨x0,x1,x2,x3,x4,_⟩:=HBX.out.below hSw (bx_lt HBX.out);go_simp;try with_reducible rfl
    try simp only[Act.put,zq1,zq2,zq3]
    refine zqT 3 ?_ ?_ ?_;rotate_left
    ·intro w' hSw;have k0:=(hSw.cell (p:=⟨b3,o3+2,none⟩) HCD.out.1).trans HCD.out.2.2.2.1;have k1:=(hSw.cell (p:=⟨b3,o3+3,none⟩) HCD.out.1).trans HCD.out.2.2.2.2;obtain⟨x0,x1,x2,x3,x4,_⟩:=HBX.out.below hSw (bx_lt HBX.out);go_simp;try with_reducible rfl
    try simp only[Act.put,zq1,zq2,zq3]
    refine zqT 4 ?_ ?_ ?_;rotate_left
    ·intro w' hSw;have k0:=(hSw.cell (p:=⟨b3,o3+2,none⟩) HCD.out.1).trans HCD.out.2.2.2.1;have k1:=(hSw.cell (p:=⟨b3,o3+3,none⟩) HCD.out.1).trans HCD.out.2.2.2.2;obtain⟨x0,x1,x2,x3,x4,_⟩:=HBX.out.below hSw (bx_lt HBX.out);go_simp;try with_reducible rfl
    try simp only[Act.put,zq1,zq2,zq3]
    refine zqT 5 ?_ ?_ ?_;rotate_left
    ·intro w' hSw;have k0:=(hSw.cell (p:=⟨b3,o3+2,none⟩) HCD.out.1).trans HCD.out.2.2.2.1;have k1:=(hSw.cell (p:=⟨b3,o3+3,none⟩) HCD.out.1).trans HCD.out.2.2.2.2;obtain⟨x0,x1,x2,x3,x4,_⟩:=HBX.out.below hSw (bx_lt HBX.out);go_simp;try with_reducible rfl
    try simp only[Act.put,zq1,zq2,zq3]
    clear hHeld;refine zqR [6] ?_;refine zqC (fun K hK=>?_) AllReadyH.nil;go_simp;go_at_call 90;with_reducible refine(HTV.out _).mono ?_
    rintro e w7 ⟨⟨AV,cv,vs,hvs,hcv,hsv,hfv,rfl⟩,hb7⟩;have hb8:=Bel.call HDR.out hb7;refine hK.out _ _ hb8 (fun hHeld=>?_);try simp only[Act.put,zq1,zq2,zq3]
    refine zqT 7 ?_ ?_ ?_;rotate_left
    ·intro w' hSw;have k0:=(hSw.cell (p:=⟨b3,o3+2,none⟩) HCD.out.1).trans HCD.out.2.2.2.1;have k1:=(hSw.cell (p:=⟨b3,o3+3,none⟩) HCD.out.1).trans HCD.out.2.2.2.2;obtain⟨x0,x1,x2,x3,x4,_⟩:=HBX.out.below hSw (bx_lt HBX.out);go_simp;try with_reducible rfl
    try simp only[Act.put,zq1,zq2,zq3]
    refine zqT 8 ?_ ?_ ?_;rotate_left
    ·intro w' hSw;have k0:=(hSw.cell (p:=⟨b3,o3+2,none⟩) HCD.out.1).trans HCD.out.2.2.2.1;have k1:=(hSw.cell (p:=⟨b3,o3+3,none⟩) HCD.out.1).trans HCD.out.2.2.2.2;obtain⟨x0,x1,x2,x3,x4,_⟩:=HBX.out.below hSw (bx_lt HBX.out);go_simp;try with_reducible rfl
    try simp only[Act.put,zq1,zq2,zq3]
    refine zqT 9 ?_ ?_ ?_;rotate_left
    ·intro w' hSw;have k0:=(hSw.cell (p:=⟨b3,o3+2,none⟩) HCD.out.1).trans HCD.out.2.2.2.1;have k1:=(hSw.cell (p:=⟨b3,o3+3,none⟩) HCD.out.1).trans HCD.out.2.2.2.2;obtain⟨x0,x1,x2,x3,x4,_⟩:=HBX.out.below hSw (bx_lt HBX.out);go_simp;try with_reducible rfl
    try simp only[Act.put,zq1,zq2,zq3]
    refine zqT 10 ?_ ?_ ?_;rotate_left
    ·intro w' hSw;have k0:=(hSw.cell (p:=⟨b3,o3+2,none⟩) HCD.out.1).trans HCD.out.2.2.2.1;have k1:=(hSw.cell (p:=⟨b3,o3+3,none⟩) HCD.out.1).trans HCD.out.2.2.2.2;obtain⟨x0,x1,x2,x3,x4,_⟩:=HBX.out.below hSw (bx_lt HBX.out);go_simp;try with_reducible rfl
    try simp only[Act.put,zq1,zq2,zq3]
    refine zqT 11 ?_ ?_ ?_;rotate_left
    ·intro w' hSw;have k0:=(hSw.cell (p:=⟨b3,o3+2,none⟩) HCD.out.1).trans HCD.out.2.2.2.1;have k1:=(hSw.cell (p:=⟨b3,o3+3,none⟩) HCD.out.1).trans HCD.out.2.2.2.2;obtain⟨x0,x1,x2,x3,x4,_⟩:=HBX.out.below hSw (bx_lt HBX.out);go_simp;try with_reducible rfl
    try simp only[Act.put,zq1,zq2,zq3]
    clear hHeld;refine wpAnyH_done (by kernel_rfl) ?_ _;have HB:=zh (Bel.call HB.out hb8);have HRS:=zh (HRS.out.call hb8);have HC1:=zh ((hb8.cell (p:=⟨b1,o1+1,none⟩) HLT1.out).trans HC1.out);have HLT1:=zh (Nat.lt_of_lt_of_le HLT1.out hb8.size);have HCD:Hid (b3<_∧_∧_∧_∧_):=zh ⟨Nat.lt_of_lt_of_le HCD.out.1 hb8.size,(hb8.cell (p:=⟨b3,o3,none⟩) HCD.out.1).trans HCD.out.2.1,(hb8.cell (p:=⟨b3,o3+1,none⟩) HCD.out.1).trans HCD.out.2.2.1,(hb8.cell (p:=⟨b3,o3+2,none⟩) HCD.out.1).trans HCD.out.2.2.2.1,(hb8.cell (p:=⟨b3,o3+3,none⟩) HCD.out.1).trans HCD.out.2.2.2.2⟩;have HXV:=zh (HXV.out.below hb8 zl);have HBX:=zh (HBX.out.below hb8 (bx_lt HBX.out));have HVS:=zh hvs;have HCV:=zh hcv;have HSV:=zh hsv;have HFV:Hid (∀b off,AV=some ⟨b,off,none⟩→w.heap.size<b):=zh fun b off e=>by have h1:=hfv b off e;have h2:=HDR.out.size;have h3:=rs_lt HRS6.out;have h4:=HG.out;omega
    clear hb7 hb8 hvs hcv hsv hfv HDR;cases h4:blksK T3.data.toList (x.rs.length+x.ws.length)with
    | none=>
     rw[h4]at HTB4;obtain rfl:z=none:=by rw[HZF2.out,h4]
     go_wp2_with fail;have hdr:Below w7.heap.size w7 w7.drew:=Below.drewN' (Below.refl _ _) 1;refine wp_region_held_drew (S:=fun w'=>Below w7.heap.size w7 w') (by kernel_rfl) hdr (fun hHeld=>?_);have HDR:=zh hdr;clear hdr;obtain⟨wd,hwd⟩:∃W,w7.drew=W:=⟨_,rfl⟩
     rw[hwd]at hHeld HDR⊢;clear hwd;refine zqT 0 ?_ ?_ ?_;rotate_left
     ·intro w' hSw;have k0:=(hSw.cell (p:=⟨b3,o3+2,none⟩) HCD.out.1).trans HCD.out.2.2.2.1;have k1:=(hSw.cell (p:=⟨b3,o3+3,none⟩) HCD.out.1).trans HCD.out.2.2.2.2;obtain⟨x0,x1,x2,x3,x4,_⟩:=HBX.out.below hSw (bx_lt HBX.out);go_simp;try with_reducible rfl
     try simp only[Act.put,zq1,zq2,zq3]
     refine zqT 1 ?_ ?_ ?_;rotate_left
     ·intro w' hSw;have k0:=(hSw.cell (p:=⟨b3,o3+2,none⟩) HCD.out.1).trans HCD.out.2.2.2.1;have k1:=(hSw.cell (p:=⟨b3,o3+3,none⟩) HCD.out.1).trans HCD.out.2.2.2.2;obtain⟨x0,x1,x2,x3,x4,_⟩:=HBX.out.below hSw (bx_lt HBX.out);go_simp;try with_reducible rfl
     try simp only[Act.put,zq1,zq2,zq3]
     refine zqT 2 ?_ ?_ ?_;rotate_left
     ·intro w' hSw;have k0:=(hSw.cell (p:=⟨b3,o3+2,none⟩) HCD.out.1).trans HCD.out.2.2.2.1;have k1:=(hSw.cell (p:=⟨b3,o3+3,none⟩) HCD.out.1).trans HCD.out.2.2.2.2;obtain⟨x0,x1,x2,x3,x4,_⟩:=HBX.out.below hSw (bx_lt HBX.out);go_simp;try with_reducible rfl
     try simp only[Act.put,zq1,zq2,zq3]
     refine zqT 3 ?_ ?_ ?_;rotate_left
     ·intro w' hSw;have k0:=(hSw.cell (p:=⟨b3,o3+2,none⟩) HCD.out.1).trans HCD.out.2.2.2.1;have k1:=(hSw.cell (p:=⟨b3,o3+3,none⟩) HCD.out.1).trans HCD.out.2.2.2.2;obtain⟨x0,x1,x2,x3,x4,_⟩:=HBX.out.below hSw (bx_lt HBX.out);go_simp;try with_reducible rfl
     try simp only[Act.put,zq1,zq2,zq3]
     refine zqT 4 ?_ ?_ ?_;rotate_left
     ·intro w' hSw;have k0:=(hSw.cell (p:=⟨b3,o3+2,none⟩) HCD.out.1).trans HCD.out.2.2.2.1;have k1:=(hSw.cell (p:=⟨b3,o3+3,none⟩) HCD.out.1).trans HCD.out.2.2.2.2;obtain⟨x0,x1,x2,x3,x4,_⟩:=HBX.out.below hSw (bx_lt HBX.out);go_simp;try with_reducible rfl
     try simp only[Act.put,zq1,zq2,zq3]
     refine zqT 5 ?_ ?_ ?_;rotate_left
     ·intro w' hSw;have k0:=(hSw.cell (p:=⟨b3,o3+2,none⟩) HCD.out.1).trans HCD.out.2.2.2.1;have k1:=(hSw.cell (p:=⟨b3,o3+3,none⟩) HCD.out.1).trans HCD.out.2.2.2.2;obtain⟨x0,x1,x2,x3,x4,_⟩:=HBX.out.below hSw (bx_lt HBX.out);go_simp;try with_reducible rfl
     try simp only[Act.put,zq1,zq2,zq3]
     refine zqT 6 ?_ ?_ ?_;rotate_left
     ·intro w' hSw;have k0:=(hSw.cell (p:=⟨b3,o3+2,none⟩) HCD.out.1).trans HCD.out.2.2.2.1;have k1:=(hSw.cell (p:=⟨b3,o3+3,none⟩) HCD.out.1).trans HCD.out.2.2.2.2;obtain⟨x0,x1,x2,x3,x4,_⟩:=HBX.out.below hSw (bx_lt HBX.out);go_simp;try with_reducible rfl
     try simp only[Act.put,zq1,zq2,zq3]
     refine zqT 7 ?_ ?_ ?_;rotate_left
     ·intro w' hSw;have k0:=(hSw.cell (p:=⟨b3,o3+2,none⟩) HCD.out.1).trans HCD.out.2.2.2.1;have k1:=(hSw.cell (p:=⟨b3,o3+3,none⟩) HCD.out.1).trans HCD.out.2.2.2.2;obtain⟨x0,x1,x2,x3,x4,_⟩:=HBX.out.below hSw (bx_lt HBX.out);go_simp;try with_reducible rfl
     try simp only[Act.put,zq1,zq2,zq3]
     refine zqT 8 ?_ ?_ ?_;rotate_left
     ·intro w' hSw;have k0:=(hSw.cell (p:=⟨b3,o3+2,none⟩) HCD.out.1).trans HCD.out.2.2.2.1;have k1:=(hSw.cell (p:=⟨b3,o3+3,none⟩) HCD.out.1).trans HCD.out.2.2.2.2;obtain⟨x0,x1,x2,x3,x4,_⟩:=HBX.out.below hSw (bx_lt HBX.out);go_simp;try with_reducible rfl
     try simp only[Act.put,zq1,zq2,zq3]
     refine zqT 9 ?_ ?_ ?_;rotate_left
     ·intro w' hSw;have k0:=(hSw.cell (p:=⟨b3,o3+2,none⟩) HCD.out.1).trans HCD.out.2.2.2.1;have k1:=(hSw.cell (p:=⟨b3,o3+3,none⟩) HCD.out.1).trans HCD.out.2.2.2.2;obtain⟨x0,x1,x2,x3,x4,_⟩:=HBX.out.below hSw (bx_lt HBX.out);go_simp;try with_reducible rfl
     try simp only[Act.put,zq1,zq2,zq3]
     clear hHeld;refine zqR [10] ?_;refine zqC (fun K hK=>?_) AllReadyH.nil;go_simp;go_at_call 92;with_reducible refine(HTB4.out _).mono ?_
     rintro e w9 ⟨hr,hb9⟩;obtain rfl:e = .returned (.tuple #[.slice none 0 0,.bool false]):=hr;have hb8:=Bel.call HDR.out hb9;refine hK.out _ _ hb8 (fun hHeld=>?_);try simp only[Act.put,zq1,zq2,zq3]
     refine zqT 11 ?_ ?_ ?_;rotate_left
     ·intro w' hSw;have k0:=(hSw.cell (p:=⟨b3,o3+2,none⟩) HCD.out.1).trans HCD.out.2.2.2.1;have k1:=(hSw.cell (p:=⟨b3,o3+3,none⟩) HCD.out.1).trans HCD.out.2.2.2.2;obtain⟨x0,x1,x2,x3,x4,_⟩:=HBX.out.below hSw (bx_lt HBX.out);go_simp;try with_reducible rfl
     try simp only[Act.put,zq1,zq2,zq3]
     refine zqT 12 ?_ ?_ ?_;rotate_left
     ·intro w' hSw;have k0:=(hSw.cell (p:=⟨b3,o3+2,none⟩) HCD.out.1).trans HCD.out.2.2.2.1;have k1:=(hSw.cell (p:=⟨b3,o3+3,none⟩) HCD.out.1).trans HCD.out.2.2.2.2;obtain⟨x0,x1,x2,x3,x4,_⟩:=HBX.out.below hSw (bx_lt HBX.out);go_simp;try with_reducible rfl
     try simp only[Act.put,zq1,zq2,zq3]
     refine zqT 13 ?_ ?_ ?_;rotate_left
     ·intro w' hSw;have k0:=(hSw.cell (p:=⟨b3,o3+2,none⟩) HCD.out.1).trans HCD.out.2.2.2.1;have k1:=(hSw.cell (p:=⟨b3,o3+3,none⟩) HCD.out.1).trans HCD.out.2.2.2.2;obtain⟨x0,x1,x2,x3,x4,_⟩:=HBX.out.below hSw (bx_lt HBX.out);go_simp;try with_reducible rfl
     try simp only[Act.put,zq1,zq2,zq3]
     refine zqT 14 ?_ ?_ ?_;rotate_left
     ·intro w' hSw;have k0:=(hSw.cell (p:=⟨b3,o3+2,none⟩) HCD.out.1).trans HCD.out.2.2.2.1;have k1:=(hSw.cell (p:=⟨b3,o3+3,none⟩) HCD.out.1).trans HCD.out.2.2.2.2;obtain⟨x0,x1,x2,x3,x4,_⟩:=HBX.out.below hSw (bx_lt HBX.out);go_simp;try with_reducible rfl
     try simp only[Act.put,zq1,zq2,zq3]
     refine zqT 15 ?_ ?_ ?_;rotate_left
     ·intro w' hSw;have k0:=(hSw.cell (p:=⟨b3,o3+2,none⟩) HCD.out.1).trans HCD.out.2.2.2.1;have k1:=(hSw.cell (p:=⟨b3,o3+3,none⟩) HCD.out.1).trans HCD.out.2.2.2.2;obtain⟨x0,x1,x2,x3,x4,_⟩:=HBX.out.below hSw (bx_lt HBX.out);go_simp;try with_reducible rfl
     try simp only[Act.put,zq1,zq2,zq3]
     clear hHeld;refine wpAnyH_done (by kernel_rfl) ?_ _;have HB:=zh (Bel.call HB.out hb8);have HRS:=zh (HRS.out.call hb8);clear hb9 hb8;obtain⟨⟨⟨r0,r1,r2,r3,r4,r5,r6,r7,r8⟩,_⟩,⟨f0,f1,f2,f3,f4,f5,f6,f7,f8⟩⟩:=HRS.out;go_wp2;refine bodyPost_ret (v:=.tuple #[.agg #[.string ⟨#[]⟩,.string ⟨#[]⟩,.int .i64 0,.slice none 0 0,.slice none 0 0,.int .u64 0,.slice none 0 0,.slice none 0 0,.string ⟨#[]⟩],.bool false]) (by simp[results,Tryz.results69,go_sem,r0,r1,r2,r3,r4,r5,r6,r7,r8]) rfl ?_;exact⟨rfl,set9 HB.out (by rw[HG.out];exact Nat.le_refl _)⟩
    | some bk=>
     have HRS7:=HRS;rw[h4]at HTB4;obtain rfl:z=some ⟨x,nn,vl,bk,Q.data.toList⟩:=by rw[HZF2.out,h4]
     clear h4 HZF2;go_wp2_with fail;have hdr:Below w7.heap.size w7 w7.drew:=Below.drewN' (Below.refl _ _) 1;refine wp_region_held_drew (S:=fun w'=>Below w7.heap.size w7 w') (by kernel_rfl) hdr (fun hHeld=>?_);have HDR:=zh hdr;clear hdr;obtain⟨wd,hwd⟩:∃W,w7.drew=W:=⟨_,rfl⟩
     rw[hwd]at hHeld HDR⊢;clear hwd;refine zqT 0 ?_ ?_ ?_;rotate_left
     ·intro w' hSw;have k0:=(hSw.cell (p:=⟨b3,o3+2,none⟩) HCD.out.1).trans HCD.out.2.2.2.1;have k1:=(hSw.cell (p:=⟨b3,o3+3,none⟩) HCD.out.1).trans HCD.out.2.2.2.2;obtain⟨x0,x1,x2,x3,x4,_⟩:=HBX.out.below hSw (bx_lt HBX.out);go_simp;try with_reducible rfl
     try simp only[Act.put,zq1,zq2,zq3]
     refine zqT 1 ?_ ?_ ?_;rotate_left
     ·intro w' hSw;have k0:=(hSw.cell (p:=⟨b3,o3+2,none⟩) HCD.out.1).trans HCD.out.2.2.2.1;have k1:=(hSw.cell (p:=⟨b3,o3+3,none⟩) HCD.out.1).trans HCD.out.2.2.2.2;obtain⟨x0,x1,x2,x3,x4,_⟩:=HBX.out.below hSw (bx_lt HBX.out);go_simp;try with_reducible rfl
     try simp only[Act.put,zq1,zq2,zq3]
     refine zqT 2 ?_ ?_ ?_;rotate_left
     ·intro w' hSw;have k0:=(hSw.cell (p:=⟨b3,o3+2,none⟩) HCD.out.1).trans HCD.out.2.2.2.1;have k1:=(hSw.cell (p:=⟨b3,o3+3,none⟩) HCD.out.1).trans HCD.out.2.2.2.2;obtain⟨x0,x1,x2,x3,x4,_⟩:=HBX.out.below hSw (bx_lt HBX.out);go_simp;try with_reducible rfl
     try simp only[Act.put,zq1,zq2,zq3]
     refine zqT 3 ?_ ?_ ?_;rotate_left
     ·intro w' hSw;have k0:=(hSw.cell (p:=⟨b3,o3+2,none⟩) HCD.out.1).trans HCD.out.2.2.2.1;have k1:=(hSw.cell (p:=⟨b3,o3+3,none⟩) HCD.out.1).trans HCD.out.2.2.2.2;obtain⟨x0,x1,x2,x3,x4,_⟩:=HBX.out.below hSw (bx_lt HBX.out);go_simp;try with_reducible rfl
     try simp only[Act.put,zq1,zq2,zq3]
     refine zqT 4 ?_ ?_ ?_;rotate_left
     ·intro w' hSw;have k0:=(hSw.cell (p:=⟨b3,o3+2,none⟩) HCD.out.1).trans HCD.out.2.2.2.1;have k1:=(hSw.cell (p:=⟨b3,o3+3,none⟩) HCD.out.1).trans HCD.out.2.2.2.2;obtain⟨x0,x1,x2,x3,x4,_⟩:=HBX.out.below hSw (bx_lt HBX.out);go_simp;try with_reducible rfl
     try simp only[Act.put,zq1,zq2,zq3]
     refine zqT 5 ?_ ?_ ?_;rotate_left
     ·intro w' hSw;have k0:=(hSw.cell (p:=⟨b3,o3+2,none⟩) HCD.out.1).trans HCD.out.2.2.2.1;have k1:=(hSw.cell (p:=⟨b3,o3+3,none⟩) HCD.out.1).trans HCD.out.2.2.2.2;obtain⟨x0,x1,x2,x3,x4,_⟩:=HBX.out.below hSw (bx_lt HBX.out);go_simp;try with_reducible rfl
     try simp only[Act.put,zq1,zq2,zq3]
     refine zqT 6 ?_ ?_ ?_;rotate_left
     ·intro w' hSw;have k0:=(hSw.cell (p:=⟨b3,o3+2,none⟩) HCD.out.1).trans HCD.out.2.2.2.1;have k1:=(hSw.cell (p:=⟨b3,o3+3,none⟩) HCD.out.1).trans HCD.out.2.2.2.2;obtain⟨x0,x1,x2,x3,x4,_⟩:=HBX.out.below hSw (bx_lt HBX.out);go_simp;try with_reducible rfl
     try simp only[Act.put,zq1,zq2,zq3]
     refine zqT 7 ?_ ?_ ?_;rotate_left
     ·intro w' hSw;have k0:=(hSw.cell (p:=⟨b3,o3+2,none⟩) HCD.out.1).trans HCD.out.2.2.2.1;have k1:=(hSw.cell (p:=⟨b3,o3+3,none⟩) HCD.out.1).trans HCD.out.2.2.2.2;obtain⟨x0,x1,x2,x3,x4,_⟩:=HBX.out.below hSw (bx_lt HBX.out);go_simp;try with_reducible rfl
     try simp only[Act.put,zq1,zq2,zq3]
     refine zqT 8 ?_ ?_ ?_;rotate_left
     ·intro w' hSw;have k0:=(hSw.cell (p:=⟨b3,o3+2,none⟩) HCD.out.1).trans HCD.out.2.2.2.1;have k1:=(hSw.cell (p:=⟨b3,o3+3,none⟩) HCD.out.1).trans HCD.out.2.2.2.2;obtain⟨x0,x1,x2,x3,x4,_⟩:=HBX.out.below hSw (bx_lt HBX.out);go_simp;try with_reducible rfl
     try simp only[Act.put,zq1,zq2,zq3]
     refine zqT 9 ?_ ?_ ?_;rotate_left
     ·intro w' hSw;have k0:=(hSw.cell (p:=⟨b3,o3+2,none⟩) HCD.out.1).trans HCD.out.2.2.2.1;have k1:=(hSw.cell (p:=⟨b3,o3+3,none⟩) HCD.out.1).trans HCD.out.2.2.2.2;obtain⟨x0,x1,x2,x3,x4,_⟩:=HBX.out.below hSw (bx_lt HBX.out);go_simp;try with_reducible rfl
     try simp only[Act.put,zq1,zq2,zq3]
     clear hHeld;refine zqR [10] ?_;refine zqC (fun K hK=>?_) AllReadyH.nil;go_simp;go_at_call 92;with_reducible refine(HTB4.out _).mono ?_
     rintro e w9 ⟨⟨AK,ck,ks,hks,hck,hsk,hfk,rfl⟩,hb9⟩;have hb8:=Bel.call HDR.out hb9;refine hK.out _ _ hb8 (fun hHeld=>?_);try simp only[Act.put,zq1,zq2,zq3]
     refine zqT 11 ?_ ?_ ?_;rotate_left
     ·intro w' hSw;have k0:=(hSw.cell (p:=⟨b3,o3+2,none⟩) HCD.out.1).trans HCD.out.2.2.2.1;have k1:=(hSw.cell (p:=⟨b3,o3+3,none⟩) HCD.out.1).trans HCD.out.2.2.2.2;obtain⟨x0,x1,x2,x3,x4,_⟩:=HBX.out.below hSw (bx_lt HBX.out);go_simp;try with_reducible rfl
     try simp only[Act.put,zq1,zq2,zq3]
     refine zqT 12 ?_ ?_ ?_;rotate_left
     ·intro w' hSw;have k0:=(hSw.cell (p:=⟨b3,o3+2,none⟩) HCD.out.1).trans HCD.out.2.2.2.1;have k1:=(hSw.cell (p:=⟨b3,o3+3,none⟩) HCD.out.1).trans HCD.out.2.2.2.2;obtain⟨x0,x1,x2,x3,x4,_⟩:=HBX.out.below hSw (bx_lt HBX.out);go_simp;try with_reducible rfl
     try simp only[Act.put,zq1,zq2,zq3]
     refine zqT 13 ?_ ?_ ?_;rotate_left
     ·intro w' hSw;have k0:=(hSw.cell (p:=⟨b3,o3+2,none⟩) HCD.out.1).trans HCD.out.2.2.2.1;have k1:=(hSw.cell (p:=⟨b3,o3+3,none⟩) HCD.out.1).trans HCD.out.2.2.2.2;obtain⟨x0,x1,x2,x3,x4,_⟩:=HBX.out.below hSw (bx_lt HBX.out);go_simp;try with_reducible rfl
     try simp only[Act.put,zq1,zq2,zq3]
     refine zqT 14 ?_ ?_ ?_;rotate_left
     ·intro w' hSw;have k0:=(hSw.cell (p:=⟨b3,o3+2,none⟩) HCD.out.1).trans HCD.out.2.2.2.1;have k1:=(hSw.cell (p:=⟨b3,o3+3,none⟩) HCD.out.1).trans HCD.out.2.2.2.2;obtain⟨x0,x1,x2,x3,x4,_⟩:=HBX.out.below hSw (bx_lt HBX.out);go_simp;try with_reducible rfl
     try simp only[Act.put,zq1,zq2,zq3]
     refine zqT 15 ?_ ?_ ?_;rotate_left
     ·intro w' hSw;have k0:=(hSw.cell (p:=⟨b3,o3+2,none⟩) HCD.out.1).trans HCD.out.2.2.2.1;have k1:=(hSw.cell (p:=⟨b3,o3+3,none⟩) HCD.out.1).trans HCD.out.2.2.2.2;obtain⟨x0,x1,x2,x3,x4,_⟩:=HBX.out.below hSw (bx_lt HBX.out);go_simp;try with_reducible rfl
     try simp only[Act.put,zq1,zq2,zq3]
     clear hHeld;refine wpAnyH_done (by kernel_rfl) ?_ _;have HB:=zh (Bel.call HB.out hb8);have HRS:=zh (HRS.out.call hb8);have HC1:=zh ((hb8.cell (p:=⟨b1,o1+1,none⟩) HLT1.out).trans HC1.out);have HLT1:=zh (Nat.lt_of_lt_of_le HLT1.out hb8.size);have HCD:Hid (b3<_∧_∧_∧_∧_):=zh ⟨Nat.lt_of_lt_of_le HCD.out.1 hb8.size,(hb8.cell (p:=⟨b3,o3,none⟩) HCD.out.1).trans HCD.out.2.1,(hb8.cell (p:=⟨b3,o3+1,none⟩) HCD.out.1).trans HCD.out.2.2.1,(hb8.cell (p:=⟨b3,o3+2,none⟩) HCD.out.1).trans HCD.out.2.2.2.1,(hb8.cell (p:=⟨b3,o3+3,none⟩) HCD.out.1).trans HCD.out.2.2.2.2⟩;have HXV:=zh (HXV.out.below hb8 zl);have HBX:=zh (HBX.out.below hb8 (bx_lt HBX.out));have HSV:=zh (HSV.out.below hb8 zl);have HFK:Hid (∀b off,AK=some ⟨b,off,none⟩→w.heap.size<b):=zh fun b off e=>by have h1:=hfk b off e;have h2:=HDR.out.size;have h3:=rs_lt HRS7.out;have h4:=HG.out;omega
     have HM:Hid (IsM (Off (R::gs)) w9 (.agg #[.string o4,.string f4,.int .i64 p4,.slice A4 n4 c4,.slice B4 m4 d4,.int .u64 (nn:Int),.slice AV vs.length cv,.slice AK ks.length ck,.string Q]) ⟨x,nn,bl vs,pl ks,Q.data.toList⟩):=zh (isM_mk HXV.out nn HSV.out HCV.out (fun b off e _ hm=>by
      have h1:=HFV.out b off e;rcases List.mem_cons.1 hm with h|h
      ·have:=HG.out;omega
      ·have:=hg b h;omega) hsk hck (fun b off e _ hm=>by
      have h1:=HFK.out b off e;rcases List.mem_cons.1 hm with h|h
      ·have:=HG.out;omega
      ·have:=hg b h;omega) Q)
     rw[HVS.out,hks]at HM;clear hb9 hb8 hks hck hsk hfk HDR HVS HCV HSV HXV HTV HTB4 HFV HFK;go_wp2_with fail;have hdr:Below w9.heap.size w9 w9.drew:=Below.drewN' (Below.refl _ _) 1;have HM:=zh (HM.out.below hdr zl);have HB:=zh (Bel.call HB.out hdr);have HRS:=zh (HRS.out.call hdr);have hS1:Bx gr w9.drew o4 f4 p4 A4 n4 c4 B4 m4 d4∧w9.drew.cell? ⟨b1,o1+1,none⟩=some (.string Q):=⟨HBX.out.below hdr (bx_lt HBX.out),(hdr.cell (p:=⟨b1,o1+1,none⟩) HLT1.out).trans HC1.out⟩
     refine wp_region_held_drew (S:=fun w'=>Bx gr w' o4 f4 p4 A4 n4 c4 B4 m4 d4∧w'.cell? ⟨b1,o1+1,none⟩=some (.string Q)) (by kernel_rfl) hS1 (fun hHeld=>?_);clear hdr hS1;obtain⟨wd,hwd⟩:∃W,w9.drew=W:=⟨_,rfl⟩
     rw[hwd]at hHeld HM HB HRS⊢;clear hwd;refine zqT 0 ?_ ?_ ?_;rotate_left
     ·intro w' hSw;obtain⟨⟨x0,x1,x2,x3,x4,_⟩,k1⟩:=hSw;go_simp;try with_reducible rfl
     try simp only[Act.put,zq1,zq2,zq3]
     refine zqT 1 ?_ ?_ ?_;rotate_left
     ·intro w' hSw;obtain⟨⟨x0,x1,x2,x3,x4,_⟩,k1⟩:=hSw;go_simp;try with_reducible rfl
     try simp only[Act.put,zq1,zq2,zq3]
     refine zqT 2 ?_ ?_ ?_;rotate_left
     ·intro w' hSw;obtain⟨⟨x0,x1,x2,x3,x4,_⟩,k1⟩:=hSw;go_simp;try with_reducible rfl
     try simp only[Act.put,zq1,zq2,zq3]
     refine zqT 3 ?_ ?_ ?_;rotate_left
     ·intro w' hSw;obtain⟨⟨x0,x1,x2,x3,x4,_⟩,k1⟩:=hSw;go_simp;try with_reducible rfl
     try simp only[Act.put,zq1,zq2,zq3]
     refine zqT 4 ?_ ?_ ?_;rotate_left
     ·intro w' hSw;obtain⟨⟨x0,x1,x2,x3,x4,_⟩,k1⟩:=hSw;go_simp;try with_reducible rfl
     try simp only[Act.put,zq1,zq2,zq3]
     refine zqT 5 ?_ ?_ ?_;rotate_left
     ·intro w' hSw;obtain⟨⟨x0,x1,x2,x3,x4,_⟩,k1⟩:=hSw;go_simp;try with_reducible rfl
     try simp only[Act.put,zq1,zq2,zq3]
     refine zqT 6 ?_ ?_ ?_;rotate_left
     ·intro w' hSw;obtain⟨⟨x0,x1,x2,x3,x4,_⟩,k1⟩:=hSw;go_simp;try with_reducible rfl
     try simp only[Act.put,zq1,zq2,zq3]
     refine zqT 7 ?_ ?_ ?_;rotate_left
     ·intro w' hSw;obtain⟨⟨x0,x1,x2,x3,x4,_⟩,k1⟩:=hSw;go_simp;try with_reducible rfl
     try simp only[Act.put,zq1,zq2,zq3]
     have HSW:=zh hHeld;clear hHeld;obtain⟨⟨⟨r0,r1,r2,r3,r4,r5,r6,r7,r8⟩,_⟩,⟨f0,f1,f2,f3,f4',f5,f6,f7,f8⟩⟩:=HRS.out;refine zqR [8] ?_;refine zqC (fun K hK=>?_) AllReadyH.nil;go_simp
     have hS9:Bx gr (((((((((wd.setCell ⟨R,0,none⟩ (.string o4)).setCell ⟨R,1,none⟩ (.string f4)).setCell ⟨R,2,none⟩ (.int .i64 p4)).setCell ⟨R,3,none⟩ (.slice A4 n4 c4)).setCell ⟨R,4,none⟩ (.slice B4 m4 d4)).setCell ⟨R,5,none⟩ (.int .u64 (nn:Int))).setCell ⟨R,6,none⟩ (.slice AV vs.length cv)).setCell ⟨R,7,none⟩ (.slice AK ks.length ck)).setCell ⟨R,8,none⟩ (.string Q)) o4 f4 p4 A4 n4 c4 B4 m4 d4∧(((((((((wd.setCell ⟨R,0,none⟩ (.string o4)).setCell ⟨R,1,none⟩ (.string f4)).setCell ⟨R,2,none⟩ (.int .i64 p4)).setCell ⟨R,3,none⟩ (.slice A4 n4 c4)).setCell ⟨R,4,none⟩ (.slice B4 m4 d4)).setCell ⟨R,5,none⟩ (.int .u64 (nn:Int))).setCell ⟨R,6,none⟩ (.slice AV vs.length cv)).setCell ⟨R,7,none⟩ (.slice AK ks.length ck)).setCell ⟨R,8,none⟩ (.string Q)).cell? ⟨b1,o1+1,none⟩=some (.string Q):=by
      have n1:gr≠R:=by have:=HNG.out;omega
      have n2:b1≠R:=by have:=HNB.out;omega
      obtain⟨⟨y0,y1,y2,y3,y4,y5⟩,y6⟩:=HSW.out;exact⟨⟨by rw[cell_set9 n1];exact y0,by rw[cell_set9 n1];exact y1,by rw[cell_set9 n1];exact y2,by rw[cell_set9 n1];exact y3,by rw[cell_set9 n1];exact y4,by rw[size_set9];exact y5⟩,by rw[cell_set9 n2];exact y6⟩
     refine hK.out _ _ hS9 (fun hHeld=>?_);try simp only[Act.put,zq1,zq2,zq3]
     refine zqT 9 ?_ ?_ ?_;rotate_left
     ·intro w' hSw;obtain⟨⟨x0,x1,x2,x3,x4,_⟩,k1⟩:=hSw;go_simp;try with_reducible rfl
     try simp only[Act.put,zq1,zq2,zq3]
     clear hHeld hS9;refine wpAnyH_done (by kernel_rfl) ?_ _;go_wp2;refine bodyPost_ret (v:=.tuple #[.agg #[.string o4,.string f4,.int .i64 p4,.slice A4 n4 c4,.slice B4 m4 d4,.int .u64 (nn:Int),.slice AV vs.length cv,.slice AK ks.length ck,.string Q],.bool true]) (by simp[results,Tryz.results69,go_sem,r0,r1,r2,r3,r4,r5,r6,r7,r8]) rfl ?_;exact⟨⟨_,(isM_set9 (List.mem_cons_self ..) HM.out).mono fun b _ h hm=>h (List.mem_cons_of_mem _ hm),rfl⟩,set9 HB.out (by rw[HG.out];exact Nat.le_refl _)⟩
end Go.Proofs.YtmihiknebelkbaaGreat.Mta
