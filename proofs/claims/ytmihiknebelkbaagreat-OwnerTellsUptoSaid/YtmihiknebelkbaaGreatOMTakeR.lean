/-
  MTakeR. By an AI agent.
-/
import Derived.Test.YtmihiknebelkbaaGreatOZ
import Derived.Test.YtmihiknebelkbaaGreatOMLit
import Derived.Test.YtmihiknebelkbaaGreatOMBack
import Derived.Test.YtmihiknebelkbaaGreatOH1
import Derived.Test.YtmihiknebelkbaaGreatOG3
import Derived.Test.YtmihiknebelkbaaGreatOW1
import Derived.Test.YtmihiknebelkbaaGreatOWRAllN
import Derived.Test.YtmihiknebelkbaaGreatOW0
import Derived.Test.YtmihiknebelkbaaGreatOMCPure
set_option linter.unusedSimpArgs false
set_option linter.unusedVariables false
set_option maxHeartbeats 4000000
namespace Go.Proofs.YtmihiknebelkbaaGreat.Mta
open Go Go.RowKit Wire Rig Frm Usr
theorem rblock_info:(Tryz.prog.info? 82).map (fun i=>(i.zero,i.size,i.bytes))=some (some (.agg #[.string ⟨#[]⟩,.string ⟨#[]⟩]),2,32):=by kernel_rfl
theorem ta_fm {w0 w w':World} {l:List Part} {x:List Tm×Int} {e:Ending} (h:Fm w0 w l) (t:Ta x e w'∧Below w.heap.size w w') (hr:RO l:=by repeat' first|exact ro_nil|refine ro_cons (fun _ h=>h) ?_):∃(A:Option Addr) (c:Nat) (ys:List ByteArray),bl ys=x.1∧ys.length≤c∧Fm w0 w' (rowP A ys::l)∧e = .returned (.tuple #[.slice A ys.length c,.int .i64 x.2]):=by
 obtain⟨⟨A,c,ys,h1,h2,h3,h4⟩,hb⟩:=t;exact⟨A,c,ys,h1,h2,h.off (q:=rowP A ys) hb h3 (fun _ h=>h) fun r hm b h2=>absurd h2 (hr r hm b),h4⟩
theorem tn_fm {w0 w w':World} {l:List Part} {x:List Tm×Int} {e:Ending} (h:Fm w0 w l) (t:Tn w.heap.size x e w'∧Below w.heap.size w w'):∃(A:Option Addr) (c:Nat) (ys:List ByteArray),bl ys=x.1∧(ys.length≤c∧(A=none→c=0)∧∀b off,A=some ⟨b,off,none⟩→w0.heap.size≤b)∧Fm w0 w' (rowP A ys::l)∧e = .returned (.tuple #[.slice A ys.length c,.int .i64 x.2]):=by
 obtain⟨⟨A,c,ys,h1,h2,h3,h4,h5,h6⟩,hb⟩:=t;exact⟨A,c,ys,h1,⟨h2,h6,fun b off e=>Nat.le_trans h.bel.size (h5 b off e)⟩,h.new (p:=rowP A ys) hb h3 (fun b hb=>by obtain⟨_,off,e⟩:=hb;exact h5 b off e) (fun _ h=>h.elim),h4⟩
theorem re_fm {w0 w w':World} {l:List Part} {x:Rt×Int} {e:Ending} (h:Fm w0 w l) (t:Re (fun b=>w.heap.size≤b) x e w'∧Below w.heap.size w w'):∃(o f:ByteArray) (A:Option Addr) (c:Nat) (B:Option Addr) (d:Nat),Fm w0 w' (rgtP (fun b=>w0.heap.size≤b) o f x.1.ep A x.1.rs.length c B x.1.ws.length d x.1::l)∧e = .returned (.tuple #[.agg #[.string o,.string f,.int .i64 x.1.ep,.slice A x.1.rs.length c,.slice B x.1.ws.length d],.int .i64 x.2]):=by
 obtain⟨⟨v,h1,h2⟩,hb⟩:=t;obtain⟨o,f,A,c,B,d,rfl⟩:=isX_vals h1;exact⟨o,f,A,c,B,d,h.new (p:=rgtP (fun b=>w0.heap.size≤b) o f x.1.ep A x.1.rs.length c B x.1.ws.length d x.1) hb (h1.mono fun b _ hb=>Nat.le_trans h.bel.size hb) (fun b hb=>isX_mem h1 hb) (fun _ h=>h.elim),h2⟩
theorem isM_rows {ok:Nat→Prop} {w:World} {o f sig:ByteArray} {r:Rt} {A:Option Addr} {c:Nat} {B:Option Addr} {d ver:Nat} {V:Option Addr} {cv:Nat} {vs:List ByteArray} {K:Option Addr} {ck:Nat} {ks:List (ByteArray×ByteArray)}
 (h1:IsX ok w (RV o f r.ep A r.rs.length c B r.ws.length d) r) (h2:SReads w V vs) (h3:PReads w K ks) (hv:vs.length≤cv∧(V=none→cv=0)∧∀b off,V=some ⟨b,off,none⟩→ok b) (hk:(ks.length≤ck∧(K=none→ck=0))∧∀b off,K=some ⟨b,off,none⟩→ok b):IsM ok w (.agg #[.string o,.string f,.int .i64 r.ep,.slice A r.rs.length c,.slice B r.ws.length d,.int .u64 (ver:Int),.slice V vs.length cv,.slice K ks.length ck,.string sig]) ⟨r,ver,bl vs,pl ks,sig.data.toList⟩:=by
 obtain⟨rs,ws,_,e1,e2,k1,k2,k3,k4,k5,k6,k7⟩:=isX_rv h1;rw[e1,e2];exact⟨o,f,sig,A,c,rs,B,d,ws,V,cv,vs,K,ck,ks,rfl,by rw[←k1],k2,k3,h2,h3,k4,k5,⟨hv.1,hv.2.1⟩,hk.1,k6,k7,fun b off e _=>hv.2.2 b off e,fun b off e _=>hk.2 b off e⟩
theorem bxn5 {w:World} {g:Nat} {v0 v1 v2 v3 v4:Value} {t:TypeId} (h:(box g #[v0,v1,v2,v3,v4] t).P w):w.cell? ⟨g,0,none⟩=some v0∧w.cell? ⟨g,1,none⟩=some v1∧w.cell? ⟨g,2,none⟩=some v2∧w.cell? ⟨g,3,none⟩=some v3∧w.cell? ⟨g,4,none⟩=some v4∧g<w.heap.size:=⟨box_at h 0,box_at h 1,box_at h 2,box_at h 3,box_at h 4,box_lt h⟩
theorem tk_small {l r:Tm} {n:Nat} {g:Int} (h:tk l=(n,r,g)):n<18446744073709551616:=by
 cases ht:take l with
 | none=>rw[tk_none ht]at h;obtain⟨rfl,_⟩:=Prod.mk.inj h;decide
 | some p=>
  obtain⟨m,q⟩:=p;rw[tk_some ht]at h;obtain⟨rfl,_⟩:=Prod.mk.inj h;exact(take_some ht).2
theorem blks_few {s:Tm} {b:List (Tm×Tm)} (h:blks s=some b):b.length≤5∧∀x∈b,x.1.length≤s.length∧x.2.length≤s.length:=by
 have h1:=blks_back h;refine⟨?_,fun x hx=>?_⟩
 ·unfold blks at h
  split at h
  ·have h2:=pairs_back _ _ h
   have h3:=(Rig.all_few (l:=s) (a:=5) (b:=9000) (x:=(all s 5 9000).1) (e:=(all s 5 9000).2) rfl).1;have h4:=congrArg List.length h2;rw[List.length_map]at h4;omega
  ·cases h
 ·have h2:(putAll [x.1,x.2]).length≤s.length:=by
   rw[h1];exact part_le (List.mem_map.2 ⟨x,hx,rfl⟩)
  have h3:x.1.length≤(putAll [x.1,x.2]).length:=part_le (by simp);have h4:x.2.length≤(putAll [x.1,x.2]).length:=part_le (by simp);omega
theorem four_read {w:World} {A:Option Addr} {zs:List ByteArray} {a b c d:Tm} (h:SReads w A zs) (hz:bl zs = [a,b,c,d]):∃g off P Q R S,A=some ⟨g,off,none⟩∧g<w.heap.size∧zs = [P,Q,R,S]∧P.data.toList=a∧Q.data.toList=b∧R.data.toList=c∧S.data.toList=d:=by
 have hl:zs.length=4:=by rw[←bl_len,hz];rfl
 match zs,hl with
 | [P,Q,R,S],_=>
  obtain⟨b,off,e,hlt,h0⟩:=h 0 (by simp);have q:[P.data.toList,Q.data.toList,R.data.toList,S.data.toList] = [_,_,_,_]:=hz;injection q with q1 q2
  injection q2 with q2 q3
  injection q3 with q3 q4
  injection q4 with q4 _
  exact⟨b,off,P,Q,R,S,e,hlt,rfl,q1,q2,q3,q4⟩
theorem four_cells {w:World} {g off:Nat} {P Q R S:ByteArray} (h:(rowP (some ⟨g,off,none⟩) [P,Q,R,S]).P w):w.cell? ⟨g,off,none⟩=some (.string P)∧w.cell? ⟨g,off+1,none⟩=some (.string Q)∧w.cell? ⟨g,off+2,none⟩=some (.string R)∧w.cell? ⟨g,off+3,none⟩=some (.string S)∧g<w.heap.size:=by
 have k:∀j,j<4→w.cell? ⟨g,off+j,none⟩=some (.string ([P,Q,R,S].getD j ByteArray.empty))∧g<w.heap.size:=fun j hj=>by
  obtain⟨b,o,e,hlt,h0⟩:=h j hj
  obtain⟨rfl,rfl⟩:g=b∧off=o:=by
   have:=Option.some.inj e;injection this with x1 x2 _
   exact⟨x1,x2⟩
  exact⟨h0,hlt⟩
 exact⟨(k 0 (by decide)).1,(k 1 (by decide)).1,(k 2 (by decide)).1,(k 3 (by decide)).1,(k 0 (by decide)).2⟩
theorem few_taken {r:Rt} {e:Int} {s:Tm} (h:takeR s=(r,e)):Few r:=by
 rcases takeR_cases s with h1|⟨q,h1,h2,_⟩
 ·rw[h1]at h
  obtain⟨rfl,_⟩:=Prod.mk.inj h;exact few_zero
 ·rw[h1]at h
  obtain⟨rfl,_⟩:=Prod.mk.inj h;exact few_right h2
theorem taken_is {X M:Mt×Int} {r:Rt} {e3 e4 e5:Int} {n:Nat} {rest:Tm} {vl:List Tm} {ob:Option (List (Tm×Tm))} {v:Tm}
 (h:(match ob with|none=>(mzero,2)|some b=>if e3≠0∨e4≠0∨rest≠[]∨e5≠0∨¬MR ⟨r,n,vl,b,v⟩then(mzero,2)else((⟨r,n,vl,b,v⟩:Mt),(0:Int)))=X):
 ((e3≠0∨e4≠0∨rest≠[]∨e5≠0∨ob=none∨¬MR ⟨r,n,vl,ob.getD [],v⟩)→X=(mzero,2))∧(e3=0→e4=0→rest = []→e5=0→ob≠none→MR ⟨r,n,vl,ob.getD [],v⟩→X=(⟨r,n,vl,ob.getD [],v⟩,0)):=by
 cases ob with
 | none=>exact⟨fun _=>h.symm,fun _ _ _ _ hn=>absurd rfl hn⟩
 | some b=>
  refine⟨fun hw=>?_,fun h1 h2 h3 h4 _ h6=>?_⟩
  ·rw[←h]
   simp only;rw[if_pos];rcases hw with k|k|k|k|k|k
   ·exact .inl k
   ·exact .inr (.inl k)
   ·exact .inr (.inr (.inl k))
   ·exact .inr (.inr (.inr (.inl k)))
   ·cases k
   ·exact .inr (.inr (.inr (.inr k)))
  ·rw[←h]
   simp only;rw[if_neg]
   ·rfl
   ·rintro(k|k|k|k|k)
    ·exact k h1
    ·exact k h2
    ·exact k h3
    ·exact k h4
    ·exact k h6
theorem row_at {w:World} {A:Option Addr} {ys:List ByteArray} (h:(rowP A ys).P w) {i:Nat} (hi:i<ys.length):∃b off,A=some ⟨b,off,none⟩∧b<w.heap.size∧w.cell? ⟨b,off+i,none⟩=some (.string (ys.getD i ByteArray.empty)):=h i hi
def prsV (ks:List (ByteArray×ByteArray)):List (List Value):=ks.map fun y=>[.string y.1,.string y.2]
theorem prsV_len (ks:List (ByteArray×ByteArray)):(prsV ks).length=ks.length:=List.length_map ..
theorem pairs_cons (t:Tm) (l:List Tm):pairs (t::l)=if(all t 2 9000).2=0∧(all t 2 9000).1.length=2 then(pairs l).map fun q=>((all t 2 9000).1.getD 0 [],(all t 2 9000).1.getD 1 [])::q else none:=rfl
theorem pairs_drop {x:List Tm} {i:Nat} {K:List (Tm×Tm)} (hi:i<x.length) (h:pairs x=(pairs (x.drop i)).map fun q=>K++q):pairs x=if(all (x.getD i []) 2 9000).2=0∧(all (x.getD i []) 2 9000).1.length=2 then(pairs (x.drop (i+1))).map fun q=>K++((all (x.getD i []) 2 9000).1.getD 0 [],(all (x.getD i []) 2 9000).1.getD 1 [])::q else none:=by
 have e:x.drop i=x.getD i []::x.drop (i+1):=by
  rw[List.getD_eq_getElem?_getD,List.getElem?_eq_getElem hi];exact List.drop_eq_getElem_cons hi
 rw[h,e,pairs_cons];split
 ·cases pairs (x.drop (i+1))<;>rfl
 ·rfl
theorem two_read {w:World} {A:Option Addr} {zs:List ByteArray} {u v:Tm} (h:SReads w A zs) (hz:bl zs = [u,v]):∃b off U V,A=some ⟨b,off,none⟩∧b<w.heap.size∧zs.length=2∧U.data.toList=u∧V.data.toList=v∧w.cell? ⟨b,off,none⟩=some (.string U)∧w.cell? ⟨b,off+1,none⟩=some (.string V):=by
 have hl:zs.length=2:=by rw[←bl_len,hz];rfl
 match zs,hl with
 | [U,V],_=>
  obtain⟨b,off,e,hlt,h0⟩:=h 0 (by simp);obtain⟨b2,off2,e2,_,h1⟩:=h 1 (by simp);rw[e]at e2
  obtain⟨rfl,rfl⟩:b=b2∧off=off2:=by
   have:=Option.some.inj e2;injection this with q1 q2 _
   exact⟨q1,q2⟩
  have q:[U.data.toList,V.data.toList] = [u,v]:=hz;injection q with q1 q2
  injection q2 with q2 _
  exact⟨b,off,U,V,e,hlt,rfl,q1,q2,h0,h1⟩
theorem bl_at {ys:List ByteArray} {l:List Tm} (h:bl ys=l) {i:Nat} (hi:i<l.length):(ys.getD i ByteArray.empty).data.toList=l.getD i []∧l.getD i []∈l:=by
 subst h;rw[bl_len]at hi;constructor
 ·simp[bl,List.getD,hi]
 ·have hi2:i<(bl ys).length:=by rw[bl_len];exact hi
  rw[List.getD_eq_getElem?_getD,List.getElem?_eq_getElem hi2];exact List.getElem_mem hi2
theorem pairs_more {x:List Tm} {i:Nat} {ks:List (ByteArray×ByteArray)} {U V:ByteArray} {u v:Tm} (hU:U.data.toList=u) (hV:V.data.toList=v):((pairs (x.drop (i+1))).map fun q=>pl ks++(([u,v]:List Tm).getD 0 [],([u,v]:List Tm).getD 1 [])::q)=(pairs (x.drop (i+1))).map fun q=>pl (ks++[(U,V)])++q:=by
 subst hU hV;have e:pl (ks++[(U,V)])=pl ks++[(U.data.toList,V.data.toList)]:=by simp[pl]
 rw[e];congr 1;funext q;simp
theorem prsV_more (ks:List (ByteArray×ByteArray)) (U V:ByteArray):prsV (ks++[(U,V)])=prsV ks++[[.string U,.string V]]:=by simp[prsV]
set_option maxRecDepth 1000000 in
theorem rblocks_any (s:ByteArray) (w:World) (hs:s.size≤2000000):Calls Tryz.prog 51 #[.string s] w fun e w'=>∃(K:Option Addr) (ck:Nat) (ks:List (ByteArray×ByteArray)),e = .returned (.tuple #[.slice K ks.length ck,.bool (blks s.data.toList).isSome])∧pl ks=(blks s.data.toList).getD []∧PReads w' K ks∧(∀b off,K=some ⟨b,off,none⟩→w.heap.size≤b)∧(ks.length≤ck∧(K=none→ck=0))∧Below w.heap.size w w':=by
 obtain⟨x,f,hx⟩:∃x f,all s.data.toList 5 9000=(x,f):=⟨_,_,rfl⟩
 have hlen:=(Rig.all_few hx).2
 have hfw:=(Rig.all_few hx).1
 have HT:=zh fun w=>refAll_any s 5 9000 w (by omega) (by decide) (by decide)
 rw[hx]at HT
 have hb:blks s.data.toList=if f=0 then pairs x else none:=by unfold blks;rw[hx]
 have h5:x.length≤5:=by omega
 have hsz:s.data.toList.length≤2000000:=by rw[←Lib.size_eq];exact hs
 clear hx hs hfw
 have HF:=zh (fm_refl w)
 go_enter Tryz.func51,Tryz.ntmps51
 go_wp2_with fail
 with_reducible refine(HT.out _).mono ?_
 rintro e w1 hT
 obtain⟨A,c,ys,hy,hc,hF,rfl⟩:=ta_fm HF.out hT
 replace HF:=zh hF
 clear hF hT
 dsimp only at hy⊢
 have HY:=zh hy
 have hyl:ys.length=x.length:=by rw[←hy,bl_len]
 by_cases hf:f=0
 case neg=>
  have hfb:(f==0)=false:=by simpa using hf
  have hfb2:(f != 0)=true:=by simpa using hf
  rw[if_neg hf]at hb
  have HB:=zh hb
  clear hb hy hc hf
  go_wp2_with fail
  go_ret2
  exact⟨none,0,[],by rw[HB.out];rfl,by rw[HB.out];rfl,PReads.nil _ _,fun _ _ e=>(by cases e),⟨Nat.le_refl _,fun _=>rfl⟩,HF.out.bel⟩
 case pos=>
  subst hf
  rw[if_pos rfl]at hb
  have HB:=zh hb
  have HLN:=zh hlen
  clear hb hy hlen
  generalize ys.length=n at hyl hc⊢
  have HN:=zh hyl
  have hn5:n≤5:=by omega
  clear h5 hyl
  go_wp2_with fail
  go_loopw [6,7] (fun vo vi wr=>∃(i:Nat) (K:Option Addr) (ck:Nat) (ks:List (ByteArray×ByteArray)),i≤n∧vi = .int .i64 (i:Int)∧vo = .slice K i ck∧ks.length=i∧Hid (pairs x=(pairs (x.drop i)).map fun q=>pl ks++q)∧Hid (Fm w wr [Frm.rowK 82 2 K ck (prsV ks),rowP A ys])) (fun _ i _=>n-(intOf i).toNat)
  case atStart=>exact⟨0,none,0,[],Nat.zero_le _,rfl,rfl,rfl,zh (by simp[pl]),zh (HF.out.nilK 82 2)⟩
  case round=>
   obtain⟨i,K,ck,ks,hi,rfl,rfl,hkl,HPS,HF⟩:=hrel
   have hi0:(0:Int)≤(i:Int):=Int.natCast_nonneg i
   by_cases hlt:(i:Int)<(n:Int)
   ·have hix:i<x.length:=by have:=HN.out;omega
    obtain⟨t1,t2⟩:=bl_at HY.out hix
    obtain⟨b,off,rfl,hbl,hcell⟩:=row_at (HF.out.at 1 rfl) (i:=i) (by have:=HN.out;rw[←bl_len,HY.out];exact hix)
    generalize ys.getD i ByteArray.empty=T at t1 hcell
    have htl:T.size≤2000000:=by rw[Lib.size_eq,t1];exact Nat.le_trans (HLN.out _ t2) hsz
    have HT2:=zh fun w=>refAll_any T 2 9000 w (by omega) (by decide) (by decide)
    rw[t1]at HT2
    have hpr:=pairs_drop hix HPS.out
    obtain⟨z,g,hz⟩:∃z g,all (x.getD i []) 2 9000=(z,g):=⟨_,_,rfl⟩
    rw[hz]at HT2 hpr
    have HPR:=zh hpr
    clear t1 t2 htl hz hpr hix
    go_wp2_with fail
    clear hcell hbl
    with_reducible refine(HT2.out _).mono ?_
    rintro e w1 ⟨⟨A2,c2,zs,hzs,hzc,hr2,rfl⟩,hb⟩
    replace HF:=zh (HF.out.go hb)
    clear hb
    dsimp only at hzs⊢
    have HZL:Hid (zs.length=z.length):=zh (by rw[←hzs,bl_len])
    by_cases hg:g=0∧z.length=2
    case pos=>
     obtain⟨rfl,hz2⟩:=hg
     obtain⟨u,v,rfl⟩:∃u v,z = [u,v]:=by
      match z,hz2 with
      | [u,v],_=>exact⟨u,v,rfl⟩
     have hpr:=HPR.out
     rw[if_pos ⟨rfl,rfl⟩]at hpr
     have HPN:=zh hpr
     obtain⟨b2,o2,U,V,rfl,hbl2,hzl,hU,hV,hc0,hc1⟩:=two_read hr2 hzs
     have HU:=zh (And.intro hU hV)
     rw[hzl]at hzc⊢
     clear hpr HPR hz2 hzs hr2 hzl hU hV
     have hc0d:w1.drew.cell? ⟨b2,o2,none⟩=some (.string U):=hc0
     have hc1d:w1.drew.cell? ⟨b2,o2+1,none⟩=some (.string V):=hc1
     clear hc0 hc1
     go_wp2_with fail
     replace HF:Hid (Fm w w1.drew _):=zh (HF.out.go (Below.drewN' (Below.refl w1.heap.size w1) 1))
     refine wp_region_held_drew (S:=fun _=>True) (by kernel_rfl) trivial (fun hHeld=>?_)
     generalize w1.drew=w1 at HF hc0d hc1d⊢
     try simp only[Act.put,zq1,zq2,zq3]
     refine zqT 0 ?_ ?_ ?_;rotate_left;· (intro w' hSw;go_simp;try with_reducible rfl)
     refine zqT 1 ?_ ?_ ?_;rotate_left;· (intro w' hSw;go_simp;try with_reducible rfl)
     refine zqT 4 ?_ ?_ ?_;rotate_left;· (intro w' hSw;go_simp;try with_reducible rfl)
     try simp only[Act.put,zq1,zq2,zq3]
     refine zqT 2 ?_ ?_ ?_;rotate_left;· (intro w' hSw;go_simp;try with_reducible rfl)
     refine zqT 5 ?_ ?_ ?_;rotate_left;· (intro w' hSw;go_simp;try with_reducible rfl)
     try simp only[Act.put,zq1,zq2,zq3]
     clear hHeld
     refine zqR [3,6] ?_
     refine zqC (fun Kn hK=>?_) (zqC (fun Kn hK=>?_) AllReadyH.nil)
     ·go_simp
      refine hK.out _ _ trivial (fun hHeld=>?_)
      try simp only[Act.put,zq1,zq2,zq3]
      clear hHeld
      refine zqR [6] ?_
      refine zqC (fun Kn hK=>?_) AllReadyH.nil
      go_simp
      refine hK.out _ _ trivial (fun hHeld=>?_)
      try simp only[Act.put,zq1,zq2,zq3]
      refine zqT 7 ?_ ?_ ?_;rotate_left;· (intro w' hSw;go_simp;try with_reducible rfl)
      try simp only[Act.put,zq1,zq2,zq3]
      clear hHeld
      refine zqR [8] ?_
      refine zqC (fun Kn hK=>?_) AllReadyH.nil
      go_simp
      have hF:=HF.out.box #[.string U,.string V] 82
      obtain⟨gl,hg⟩:∃g,w1.heap.size=g:=⟨_,rfl⟩
      rw[hg]at hF⊢
      clear hg
      generalize w1.alloc (.cells #[.string U,.string V] 82)=w1 at hF⊢
      replace HF:=zh hF
      clear hF hc0d hc1d
      refine hK.out _ _ trivial (fun hHeld=>?_)
      try simp only[Act.put,zq1,zq2,zq3]
      clear hHeld
      refine zqR [9] ?_
      refine zqC (fun Kn hK=>?_) AllReadyH.nil
      rw[if_pos (by rfl)]
      obtain⟨i0,hi0,hz0,hz1,hz2⟩:=info_parts rblock_info
      refine fmK_append (rs:=prsV ks) 1 rfl HF.out (.tmp 38) (.tmp 46) 35 rfl i0 _ 32 Tryz.underlying35 hi0 hz0 hz1 hz2 rfl (by decide) [.string U,.string V] gl 1 rfl (by intro u hu;simp only[List.mem_cons,List.not_mem_nil,or_false]at hu;rcases hu with rfl|rfl<;>rfl) (by rw[prsV_len,hkl];rfl) rfl (fun j u hj=>(box_at (HF.out.at 0 rfl) j).trans (by simpa using hj)) (by rw[prsV_len];omega) (by rw[prsV_len];omega) ?_
      intro g' c' w2 hgg hF
      rw[prsV_len,hkl]
      simp only[List.set_cons_zero,List.set_cons_succ]at hF
      replace HF:=zh hF.tail
      clear hF hgg hi0 hz0 hz1 hz2
      generalize w2=w1 at HF⊢
      refine hK.out _ _ trivial (fun hHeld=>?_)
      try simp only[Act.put,zq1,zq2,zq3]
      refine zqT 10 ?_ ?_ ?_;rotate_left;· (intro w' hSw;go_simp;try with_reducible rfl)
      try simp only[Act.put,zq1,zq2,zq3]
      refine wpAnyH_done (by kernel_rfl) ?_ _
      clear hHeld
      go_wp2_with fail
      go_roundw
      case rel=>exact⟨i+1,some ⟨g',0,none⟩,c',ks++[(U,V)],by omega,by go_num,rfl,by rw[List.length_append,hkl];rfl,zh (by rw[HPN.out];exact pairs_more HU.out.1 HU.out.2),zh (by rw[prsV_more];exact HF.out)⟩
      case measure=>simp[intOf];omega
     ·go_simp
      refine hK.out _ _ trivial (fun hHeld=>?_)
      try simp only[Act.put,zq1,zq2,zq3]
      clear hHeld
      refine zqR [3] ?_
      refine zqC (fun Kn hK=>?_) AllReadyH.nil
      go_simp
      refine hK.out _ _ trivial (fun hHeld=>?_)
      try simp only[Act.put,zq1,zq2,zq3]
      refine zqT 7 ?_ ?_ ?_;rotate_left;· (intro w' hSw;go_simp;try with_reducible rfl)
      try simp only[Act.put,zq1,zq2,zq3]
      clear hHeld
      refine zqR [8] ?_
      refine zqC (fun Kn hK=>?_) AllReadyH.nil
      go_simp
      have hF:=HF.out.box #[.string U,.string V] 82
      obtain⟨gl,hg⟩:∃g,w1.heap.size=g:=⟨_,rfl⟩
      rw[hg]at hF⊢
      clear hg
      generalize w1.alloc (.cells #[.string U,.string V] 82)=w1 at hF⊢
      replace HF:=zh hF
      clear hF hc0d hc1d
      refine hK.out _ _ trivial (fun hHeld=>?_)
      try simp only[Act.put,zq1,zq2,zq3]
      clear hHeld
      refine zqR [9] ?_
      refine zqC (fun Kn hK=>?_) AllReadyH.nil
      rw[if_pos (by rfl)]
      obtain⟨i0,hi0,hz0,hz1,hz2⟩:=info_parts rblock_info
      refine fmK_append (rs:=prsV ks) 1 rfl HF.out (.tmp 38) (.tmp 46) 35 rfl i0 _ 32 Tryz.underlying35 hi0 hz0 hz1 hz2 rfl (by decide) [.string U,.string V] gl 1 rfl (by intro u hu;simp only[List.mem_cons,List.not_mem_nil,or_false]at hu;rcases hu with rfl|rfl<;>rfl) (by rw[prsV_len,hkl];rfl) rfl (fun j u hj=>(box_at (HF.out.at 0 rfl) j).trans (by simpa using hj)) (by rw[prsV_len];omega) (by rw[prsV_len];omega) ?_
      intro g' c' w2 hgg hF
      rw[prsV_len,hkl]
      simp only[List.set_cons_zero,List.set_cons_succ]at hF
      replace HF:=zh hF.tail
      clear hF hgg hi0 hz0 hz1 hz2
      generalize w2=w1 at HF⊢
      refine hK.out _ _ trivial (fun hHeld=>?_)
      try simp only[Act.put,zq1,zq2,zq3]
      refine zqT 10 ?_ ?_ ?_;rotate_left;· (intro w' hSw;go_simp;try with_reducible rfl)
      try simp only[Act.put,zq1,zq2,zq3]
      refine wpAnyH_done (by kernel_rfl) ?_ _
      clear hHeld
      go_wp2_with fail
      go_roundw
      case rel=>exact⟨i+1,some ⟨g',0,none⟩,c',ks++[(U,V)],by omega,by go_num,rfl,by rw[List.length_append,hkl];rfl,zh (by rw[HPN.out];exact pairs_more HU.out.1 HU.out.2),zh (by rw[prsV_more];exact HF.out)⟩
      case measure=>simp[intOf];omega
    case neg=>
     have hpr:=HPR.out
     rw[if_neg hg]at hpr
     have HPN:=zh hpr
     clear hpr HPR hr2
     have hbl:blks s.data.toList=none:=HB.out.trans HPN.out
     have HBN:=zh hbl
     clear hbl hzs
     by_cases hg0:g=0
     case pos=>
      subst hg0
      have hzn:((zs.length:Int) != 2)=true:=by
       have h1:zs.length≠2:=fun e=>hg ⟨rfl,by rw[←HZL.out,e]⟩
       simp[bne];omega
      have hzn2:((zs.length:Int)==2)=false:=by simpa[bne]using hzn
      clear hg
      go_wp2_with fail
      go_ret2
      exact⟨none,0,[],by rw[HBN.out];rfl,by rw[HBN.out];rfl,PReads.nil _ _,fun _ _ e=>(by cases e),⟨Nat.le_refl _,fun _=>rfl⟩,HF.out.bel⟩
     case neg=>
      have hgb:(g==0)=false:=by simpa using hg0
      have hgb2:(g != 0)=true:=by simpa using hg0
      clear hg hg0
      go_wp2_with fail
      go_ret2
      exact⟨none,0,[],by rw[HBN.out];rfl,by rw[HBN.out];rfl,PReads.nil _ _,fun _ _ e=>(by cases e),⟨Nat.le_refl _,fun _=>rfl⟩,HF.out.bel⟩
   ·obtain rfl:i=n:=by omega
    go_wp2_with fail
    have hd:pairs x=some (pl ks):=by
     have h:=HPS.out
     rw[List.drop_eq_nil_iff.2 (by have:=HN.out;omega)]at h
     rw[h]
     show some (pl ks++[])=_
     rw[List.append_nil]
    have hb:=HB.out.trans hd
    go_ret2
    refine⟨K,ck,ks,by rw[hb,hkl];rfl,by rw[hb];rfl,rowK_preads (HF.out.at 0 rfl) rfl,fun b off e=>HF.out.lo 0 rfl b (by rw[e];rfl),⟨by have:=(rowK_cap (HF.out.at 0 rfl)).1;rw[prsV_len]at this;exact this,fun e=>(own_new (HF.out.at 0 rfl).1).2 e⟩,HF.out.bel⟩
set_option maxRecDepth 1000000 in
theorem mtake_w (s:ByteArray) (w:World) (hs:s.size≤1100000):Calls Tryz.prog 29 #[.string s] w fun e w'=>Me (fun b=>w.heap.size≤b) (takeM s.data.toList) e w'∧Below w.heap.size w w':=by
 obtain⟨X,hX⟩:∃X,takeM s.data.toList=X:=⟨_,rfl⟩
 rw[hX]
 unfold takeM at hX
 obtain⟨l,e1,h1⟩:∃l e,all s.data.toList 2 90000=(l,e):=⟨_,_,rfl⟩
 have hl1:=(Rig.all_few h1).2
 have HT1:=zh fun w=>refAll_new s 2 90000 w (by omega) (by decide) (by decide)
 rw[h1]at hX HT1
 dsimp only at hX
 have hss:s.data.toList.length≤1100000:=by rw[←Lib.size_eq];exact hs
 clear h1 hs
 have HF:=zh (fm_refl w)
 go_enter Tryz.func29,Tryz.ntmps29
 go_wp2_with fail
 have hF:=HF.out.box #[.string ⟨#[]⟩,.string ⟨#[]⟩,.int .i64 0,.slice none 0 0,.slice none 0 0,.int .u64 0,.slice none 0 0,.slice none 0 0,.string ⟨#[]⟩] 37
 obtain⟨gz,hg⟩:∃g,w.heap.size=g:=⟨_,rfl⟩
 rw[hg]at hF⊢
 clear hg
 generalize w.alloc (.cells #[.string ⟨#[]⟩,.string ⟨#[]⟩,.int .i64 0,.slice none 0 0,.slice none 0 0,.int .u64 0,.slice none 0 0,.slice none 0 0,.string ⟨#[]⟩] 37)=w1 at hF⊢
 replace HF:=zh hF
 clear hF
 with_reducible refine(HT1.out _).mono ?_
 rintro e w1 hT
 obtain⟨Al,cl,ysl,hyl,hcl,hF,rfl⟩:=tn_fm HF.out hT
 replace HF:=zh hF
 clear hF hT
 dsimp only at hyl⊢
 have hzl:ysl.length=l.length:=by rw[←hyl,bl_len]
 by_cases c1:e1≠0∨l.length≠2
 ·rw[if_pos c1]at hX
  have HX:=zh hX.symm
  by_cases he:e1=0
  case pos=>
   subst he
   have hb1:((ysl.length:Int) != 2)=true:=by
    have:l.length≠2:=by rcases c1 with h|h;exact absurd rfl h;exact h
    simp[bne];omega
   have hb2:((ysl.length:Int)==2)=false:=by simpa[bne]using hb1
   clear c1 hX
   obtain⟨c0,c1,c2,c3,c4,c5,c6,c7,c8,c9⟩:=bxn9 (HF.out.at 1 rfl)
   have fz:=box_sf (HF.out.at 1 rfl)
   go_wp2_with fail
   clear fz c0 c1 c2 c3 c4 c5 c6 c7 c8 c9
   have hF:=HF.out.fill 1 rfl [.string ⟨#[]⟩,.string ⟨#[]⟩,.int .i64 0,.slice none 0 0,.slice none 0 0,.int .u64 0,.slice none 0 0,.slice none 0 0,.string ⟨#[]⟩] rfl
   simp only[fills,Nat.reduceAdd,Nat.zero_add,List.set_cons_zero,List.set_cons_succ]at hF
   generalize (((((((((w1.setCell ⟨gz,0,none⟩ (.string ⟨#[]⟩)).setCell ⟨gz,1,none⟩ (.string ⟨#[]⟩)).setCell ⟨gz,2,none⟩ (.int .i64 0)).setCell ⟨gz,3,none⟩ (.slice none 0 0)).setCell ⟨gz,4,none⟩ (.slice none 0 0)).setCell ⟨gz,5,none⟩ (.int .u64 0)).setCell ⟨gz,6,none⟩ (.slice none 0 0)).setCell ⟨gz,7,none⟩ (.slice none 0 0)).setCell ⟨gz,8,none⟩ (.string ⟨#[]⟩))=w2 at hF⊢
   replace HF:=zh hF
   clear hF
   generalize w2=w1 at HF⊢
   obtain⟨d0,d1,d2,d3,d4,d5,d6,d7,d8,d9⟩:=bxn9 (HF.out.at 1 rfl)
   refine bodyPost_ret (v:=.tuple #[.agg #[.string ⟨#[]⟩,.string ⟨#[]⟩,.int .i64 0,.slice none 0 0,.slice none 0 0,.int .u64 0,.slice none 0 0,.slice none 0 0,.string ⟨#[]⟩],.int .i64 2]) (by simp[results,Tryz.results29,go_sem,d0,d1,d2,d3,d4,d5,d6,d7,d8]) rfl ?_
   exact⟨⟨_,by rw[HX.out];exact isM_zero _ _,by rw[HX.out]⟩,HF.out.bel⟩
  case neg=>
   have hb1:(e1==0)=false:=by simpa using he
   have hb2:(e1 != 0)=true:=by simpa using he
   clear c1 he hX
   obtain⟨c0,c1,c2,c3,c4,c5,c6,c7,c8,c9⟩:=bxn9 (HF.out.at 1 rfl)
   have fz:=box_sf (HF.out.at 1 rfl)
   go_wp2_with fail
   clear fz c0 c1 c2 c3 c4 c5 c6 c7 c8 c9
   have hF:=HF.out.fill 1 rfl [.string ⟨#[]⟩,.string ⟨#[]⟩,.int .i64 0,.slice none 0 0,.slice none 0 0,.int .u64 0,.slice none 0 0,.slice none 0 0,.string ⟨#[]⟩] rfl
   simp only[fills,Nat.reduceAdd,Nat.zero_add,List.set_cons_zero,List.set_cons_succ]at hF
   generalize (((((((((w1.setCell ⟨gz,0,none⟩ (.string ⟨#[]⟩)).setCell ⟨gz,1,none⟩ (.string ⟨#[]⟩)).setCell ⟨gz,2,none⟩ (.int .i64 0)).setCell ⟨gz,3,none⟩ (.slice none 0 0)).setCell ⟨gz,4,none⟩ (.slice none 0 0)).setCell ⟨gz,5,none⟩ (.int .u64 0)).setCell ⟨gz,6,none⟩ (.slice none 0 0)).setCell ⟨gz,7,none⟩ (.slice none 0 0)).setCell ⟨gz,8,none⟩ (.string ⟨#[]⟩))=w2 at hF⊢
   replace HF:=zh hF
   clear hF
   generalize w2=w1 at HF⊢
   obtain⟨d0,d1,d2,d3,d4,d5,d6,d7,d8,d9⟩:=bxn9 (HF.out.at 1 rfl)
   refine bodyPost_ret (v:=.tuple #[.agg #[.string ⟨#[]⟩,.string ⟨#[]⟩,.int .i64 0,.slice none 0 0,.slice none 0 0,.int .u64 0,.slice none 0 0,.slice none 0 0,.string ⟨#[]⟩],.int .i64 2]) (by simp[results,Tryz.results29,go_sem,d0,d1,d2,d3,d4,d5,d6,d7,d8]) rfl ?_
   exact⟨⟨_,by rw[HX.out];exact isM_zero _ _,by rw[HX.out]⟩,HF.out.bel⟩
 rw[if_neg c1]at hX
 obtain⟨rfl,h2⟩:e1=0∧l.length=2:=⟨Decidable.not_not.1 fun h=>c1 (.inl h),Decidable.not_not.1 fun h=>c1 (.inr h)⟩
 clear c1
 obtain⟨u,v,rfl⟩:∃u v,l = [u,v]:=by
  match l,h2 with
  | [u,v],_=>exact⟨u,v,rfl⟩
 obtain⟨b1,o1,U,W,rfl,hbl1,hzl2,hU,hW,_,_⟩:=two_read (HF.out.at 0 rfl) hyl
 have HRL:Hid (∀w',(rowP (some ⟨b1,o1,none⟩) ysl).P w'→w'.cell? ⟨b1,o1,none⟩=some (.string U)∧w'.cell? ⟨b1,o1+1,none⟩=some (.string W)):=zh fun w' h=>by
  obtain⟨b2,o2,U2,W2,e,_,_,q1,q2,q3,q4⟩:=two_read h hyl
  obtain⟨rfl,rfl⟩:b1=b2∧o1=o2:=by
   have:=Option.some.inj e
   injection this with x1 x2 _
   exact⟨x1,x2⟩
  rw[str_eq (hU.trans q1.symm),str_eq (hW.trans q2.symm)]
  exact⟨q3,q4⟩
 rw[hzl2]at hcl⊢
 have hlu:=hl1 u (by simp)
 have hlv:=hl1 v (by simp)
 have HWW:=zh hW
 have hUz:U.size≤1100000:=by rw[Lib.size_eq,hU];omega
 obtain⟨p,e2,h1⟩:∃p e,all u 4 90000=(p,e):=⟨_,_,rfl⟩
 have hl2:=(Rig.all_few h1).2
 have HT2:=zh fun w=>refAll_new U 4 90000 w (by omega) (by decide) (by decide)
 rw[hU,h1]at HT2
 simp only[List.getD_cons_zero,List.getD_cons_succ]at hX
 rw[h1]at hX
 dsimp only at hX
 clear h1 hl1 hU hW h2 hzl hzl2 hyl
 obtain⟨l0,l1⟩:=HRL.out _ (HF.out.at 0 rfl)
 go_wp2_with fail
 clear l0 l1 hbl1
 with_reducible refine(HT2.out _).mono ?_
 rintro e w1 hT
 obtain⟨Ap,cp,ysp,hyp,hcp,hF,rfl⟩:=tn_fm HF.out hT
 replace HF:=zh hF
 clear hF hT
 dsimp only at hyp⊢
 have hzl:ysp.length=p.length:=by rw[←hyp,bl_len]
 by_cases c1:e2≠0∨p.length≠4
 ·rw[if_pos c1]at hX
  have HX:=zh hX.symm
  by_cases he:e2=0
  case pos=>
   subst he
   have hb1:((ysp.length:Int) != 4)=true:=by
    have:p.length≠4:=by rcases c1 with h|h;exact absurd rfl h;exact h
    simp[bne];omega
   have hb2:((ysp.length:Int)==4)=false:=by simpa[bne]using hb1
   clear c1 hX
   obtain⟨c0,c1,c2,c3,c4,c5,c6,c7,c8,c9⟩:=bxn9 (HF.out.at 2 rfl)
   have fz:=box_sf (HF.out.at 2 rfl)
   go_wp2_with fail
   clear fz c0 c1 c2 c3 c4 c5 c6 c7 c8 c9
   have hF:=HF.out.fill 2 rfl [.string ⟨#[]⟩,.string ⟨#[]⟩,.int .i64 0,.slice none 0 0,.slice none 0 0,.int .u64 0,.slice none 0 0,.slice none 0 0,.string ⟨#[]⟩] rfl
   simp only[fills,Nat.reduceAdd,Nat.zero_add,List.set_cons_zero,List.set_cons_succ]at hF
   generalize (((((((((w1.setCell ⟨gz,0,none⟩ (.string ⟨#[]⟩)).setCell ⟨gz,1,none⟩ (.string ⟨#[]⟩)).setCell ⟨gz,2,none⟩ (.int .i64 0)).setCell ⟨gz,3,none⟩ (.slice none 0 0)).setCell ⟨gz,4,none⟩ (.slice none 0 0)).setCell ⟨gz,5,none⟩ (.int .u64 0)).setCell ⟨gz,6,none⟩ (.slice none 0 0)).setCell ⟨gz,7,none⟩ (.slice none 0 0)).setCell ⟨gz,8,none⟩ (.string ⟨#[]⟩))=w2 at hF⊢
   replace HF:=zh hF
   clear hF
   generalize w2=w1 at HF⊢
   obtain⟨d0,d1,d2,d3,d4,d5,d6,d7,d8,d9⟩:=bxn9 (HF.out.at 2 rfl)
   refine bodyPost_ret (v:=.tuple #[.agg #[.string ⟨#[]⟩,.string ⟨#[]⟩,.int .i64 0,.slice none 0 0,.slice none 0 0,.int .u64 0,.slice none 0 0,.slice none 0 0,.string ⟨#[]⟩],.int .i64 2]) (by simp[results,Tryz.results29,go_sem,d0,d1,d2,d3,d4,d5,d6,d7,d8]) rfl ?_
   exact⟨⟨_,by rw[HX.out];exact isM_zero _ _,by rw[HX.out]⟩,HF.out.bel⟩
  case neg=>
   have hb1:(e2==0)=false:=by simpa using he
   have hb2:(e2 != 0)=true:=by simpa using he
   clear c1 he hX
   obtain⟨c0,c1,c2,c3,c4,c5,c6,c7,c8,c9⟩:=bxn9 (HF.out.at 2 rfl)
   have fz:=box_sf (HF.out.at 2 rfl)
   go_wp2_with fail
   clear fz c0 c1 c2 c3 c4 c5 c6 c7 c8 c9
   have hF:=HF.out.fill 2 rfl [.string ⟨#[]⟩,.string ⟨#[]⟩,.int .i64 0,.slice none 0 0,.slice none 0 0,.int .u64 0,.slice none 0 0,.slice none 0 0,.string ⟨#[]⟩] rfl
   simp only[fills,Nat.reduceAdd,Nat.zero_add,List.set_cons_zero,List.set_cons_succ]at hF
   generalize (((((((((w1.setCell ⟨gz,0,none⟩ (.string ⟨#[]⟩)).setCell ⟨gz,1,none⟩ (.string ⟨#[]⟩)).setCell ⟨gz,2,none⟩ (.int .i64 0)).setCell ⟨gz,3,none⟩ (.slice none 0 0)).setCell ⟨gz,4,none⟩ (.slice none 0 0)).setCell ⟨gz,5,none⟩ (.int .u64 0)).setCell ⟨gz,6,none⟩ (.slice none 0 0)).setCell ⟨gz,7,none⟩ (.slice none 0 0)).setCell ⟨gz,8,none⟩ (.string ⟨#[]⟩))=w2 at hF⊢
   replace HF:=zh hF
   clear hF
   generalize w2=w1 at HF⊢
   obtain⟨d0,d1,d2,d3,d4,d5,d6,d7,d8,d9⟩:=bxn9 (HF.out.at 2 rfl)
   refine bodyPost_ret (v:=.tuple #[.agg #[.string ⟨#[]⟩,.string ⟨#[]⟩,.int .i64 0,.slice none 0 0,.slice none 0 0,.int .u64 0,.slice none 0 0,.slice none 0 0,.string ⟨#[]⟩],.int .i64 2]) (by simp[results,Tryz.results29,go_sem,d0,d1,d2,d3,d4,d5,d6,d7,d8]) rfl ?_
   exact⟨⟨_,by rw[HX.out];exact isM_zero _ _,by rw[HX.out]⟩,HF.out.bel⟩
 rw[if_neg c1]at hX
 obtain⟨rfl,h2⟩:e2=0∧p.length=4:=⟨Decidable.not_not.1 fun h=>c1 (.inl h),Decidable.not_not.1 fun h=>c1 (.inr h)⟩
 clear c1
 obtain⟨a0,a1,a2,a3,rfl⟩:∃a0 a1 a2 a3,p = [a0,a1,a2,a3]:=by
  match p,h2 with
  | [a0,a1,a2,a3],_=>exact⟨a0,a1,a2,a3,rfl⟩
 obtain⟨b2,o2,P0,P1,P2,P3,rfl,_,rfl,hP0,hP1,hP2,hP3⟩:=four_read (HF.out.at 0 rfl) hyp
 unfold metaOf at hX
 simp only[List.getD_cons_zero,List.getD_cons_succ]at hX
 have hz0:=hl2 a0 (by simp)
 have hz1:=hl2 a1 (by simp)
 have hz2:=hl2 a2 (by simp)
 have hz3:=hl2 a3 (by simp)
 have HT3:=zh fun w=>rtake_any P0 w (by rw[Lib.size_eq,hP0];omega)
 have HT4:=zh fun w=>refTake_any P1 w (by rw[Lib.size_eq,hP1];omega)
 have HT5:=zh fun w=>refAll_new P2 8 9000 w (by rw[Lib.size_eq,hP2];omega) (by decide) (by decide)
 have HT6:=zh fun w=>rblocks_any P3 w (by rw[Lib.size_eq,hP3];omega)
 rw[hP0]at HT3
 rw[hP1]at HT4
 rw[hP2]at HT5
 rw[hP3]at HT6
 obtain⟨r,e3,h3⟩:∃r e,takeR a0=(r,e):=⟨_,_,rfl⟩
 obtain⟨n,rest,e4,h4⟩:∃n q e,tk a1=(n,q,e):=⟨_,_,_,rfl⟩
 obtain⟨vl,e5,h5⟩:∃l e,all a2 8 9000=(l,e):=⟨_,_,rfl⟩
 obtain⟨ob,h6⟩:∃ob,blks a3=ob:=⟨_,rfl⟩
 have hfr:=few_taken h3
 have hn:=tk_small h4
 have hvl:=Rig.all_few h5
 have hbf:(ob.getD []).length≤5∧∀x∈ob.getD [],x.1.length≤1100000∧x.2.length≤1100000:=by
  cases ob with
  | none=>exact⟨Nat.zero_le _,fun x hx=>(List.not_mem_nil hx).elim⟩
  | some b=>
   have:=blks_few h6
   exact⟨this.1,fun x hx=>by have:=this.2 x hx;omega⟩
 rw[h3]at HT3 hX
 rw[h4]at HT4 hX
 rw[h5]at HT5 hX
 rw[h6]at HT6 hX
 dsimp only at hX
 obtain⟨HXB,HXG⟩:=taken_is (M:=X) hX
 have HXB:=zh HXB
 have HXG:=zh HXG
 have hfm:FewM ⟨r,n,vl,ob.getD [],v⟩:=⟨hfr,by show vl.length≤40;omega,by show(ob.getD []).length≤40;omega,fun t ht=>by have:=hvl.2 t ht;omega,hbf.2,by show v.length≤1100000;omega,hn⟩
 have HFM:=zh hfm
 clear h2 h3 h4 h5 h6 hP0 hP1 hP2 hP3 hz0 hz1 hz2 hz3 hl2 hlu hlv hUz hfr hvl hbf hfm hX hyp hzl hss
 have hcp4:([P0,P1,P2,P3]:List ByteArray).length=4:=rfl
 rw[hcp4]at hcp⊢
 clear hcp4
 obtain⟨q0,q1,q2,q3,q4⟩:=four_cells (HF.out.at 0 rfl)
 go_wp2_with fail
 clear q0 q1 q2 q3 q4
 with_reducible refine(HT3.out _).mono ?_
 rintro e w1 hT
 obtain⟨o,f,A,c,B,d,hF,rfl⟩:=re_fm HF.out hT
 replace HF:=zh hF
 clear hF hT
 dsimp only
 obtain⟨q0,q1,q2,q3,q4⟩:=four_cells (HF.out.at 1 rfl)
 go_wp2_with fail
 clear q0 q1 q2 q3 q4
 have hF:=HF.out.box #[.string o,.string f,.int .i64 r.ep,.slice A r.rs.length c,.slice B r.ws.length d] 24
 obtain⟨gr,hg⟩:∃g,w1.heap.size=g:=⟨_,rfl⟩
 rw[hg]at hF⊢
 clear hg
 generalize w1.alloc (.cells #[.string o,.string f,.int .i64 r.ep,.slice A r.rs.length c,.slice B r.ws.length d] 24)=w1 at hF⊢
 replace HF:=zh hF
 clear hF
 with_reducible refine(HT4.out _).mono ?_
 rintro e w1 ⟨⟨R,hR,rfl⟩,hb⟩
 replace HF:=zh (HF.out.go hb)
 clear hb
 dsimp only at hR⊢
 obtain⟨q0,q1,q2,q3,q4⟩:=four_cells (HF.out.at 2 rfl)
 go_wp2_with fail
 clear q0 q1 q2 q3 q4
 with_reducible refine(HT5.out _).mono ?_
 rintro e w1 hT
 obtain⟨Av,cv,ysv,hyv,hcv,hF,rfl⟩:=tn_fm HF.out hT
 replace HF:=zh hF
 clear hF hT
 dsimp only at hyv⊢
 obtain⟨q0,q1,q2,q3,q4⟩:=four_cells (HF.out.at 3 rfl)
 go_wp2_with fail
 clear q0 q1 q2 q3 q4
 have HKW:Hid (w.heap.size≤w1.heap.size):=zh HF.out.bel.size
 with_reducible refine(HT6.out _).mono ?_
 rintro e w1 ⟨K,ck,ks,rfl,hks,hpr,hkn,hkc,hb⟩
 replace HF:=zh (HF.out.new (p:=prsP K ks) hb hpr (fun b hb=>by obtain⟨_,off,e⟩:=hb;exact hkn b off e) (fun _ h=>h.elim))
 have HKC:=zh (And.intro hkc fun b off (e:K=some ⟨b,off,none⟩)=>Nat.le_trans HKW.out (hkn b off e))
 clear hb hpr hkn hkc
 dsimp only
 obtain⟨ok,hok⟩:∃ok,ob.isSome=ok:=⟨_,rfl⟩
 rw[hok]
 obtain⟨l0,l1⟩:=HRL.out _ (HF.out.at 5 rfl)
 obtain⟨x0,x1,x2,x3,x4,x5⟩:=bxn5 (HF.out.at 2 rfl)
 clear l0 l1 x0 x1 x2 x3 x4 x5
 go_wp2_with fail
 have hdr:=HF.out.go (Below.drewN' (Below.refl w1.heap.size w1) 1)
 have hfull:=HF.out.go (Below.drewN' (Below.refl w1.heap.size w1) 1)
 refine wp_region_held_drew (S:=fun w'=>Fm w w' _) (by kernel_rfl) hdr (fun hHeld=>?_)
 clear hHeld
 replace hdr:Fm w w1.drew _:=hdr
 replace hfull:Fm w w1.drew _:=hfull
 generalize w1.drew=w1 at hdr hfull⊢
 replace HF:=zh hfull
 have hHeld:=hdr
 clear hdr hfull
 refine zqT 0 ?_ ?_ ?_;rotate_left;· (intro w' hSw;obtain⟨x0,x1,x2,x3,x4,x5⟩:=bxn5 (hSw.at 2 rfl);obtain⟨l0,l1⟩:=HRL.out _ (hSw.at 5 rfl);go_simp;try with_reducible rfl)
 refine zqT 1 ?_ ?_ ?_;rotate_left;· (intro w' hSw;go_simp;try with_reducible rfl)
 refine zqT 2 ?_ ?_ ?_;rotate_left;· (intro w' hSw;go_simp;try with_reducible rfl)
 try simp only[Act.put,zq1,zq2,zq3]
 refine zqT 3 ?_ ?_ ?_;rotate_left;· (intro w' hSw;go_simp;try with_reducible rfl)
 refine zqT 4 ?_ ?_ ?_;rotate_left;· (intro w' hSw;go_simp;try with_reducible rfl)
 refine zqT 5 ?_ ?_ ?_;rotate_left;· (intro w' hSw;go_simp;try with_reducible rfl)
 try simp only[Act.put,zq1,zq2,zq3]
 refine zqT 6 ?_ ?_ ?_;rotate_left;· (intro w' hSw;obtain⟨x0,x1,x2,x3,x4,x5⟩:=bxn5 (hSw.at 2 rfl);obtain⟨l0,l1⟩:=HRL.out _ (hSw.at 5 rfl);go_simp;try with_reducible rfl)
 refine zqT 7 ?_ ?_ ?_;rotate_left;· (intro w' hSw;go_simp;try with_reducible rfl)
 try simp only[Act.put,zq1,zq2,zq3]
 clear hHeld
 refine zqR [8] ?_
 refine zqC (fun Kn hK=>?_) AllReadyH.nil
 go_simp
 have hF:=HF.out.box #[.string ⟨#[]⟩,.string ⟨#[]⟩,.int .i64 0,.slice none 0 0,.slice none 0 0,.int .u64 0,.slice none 0 0,.slice none 0 0,.string ⟨#[]⟩] 37
 obtain⟨gm,hg⟩:∃g,w1.heap.size=g:=⟨_,rfl⟩
 rw[hg]at hF⊢
 clear hg
 generalize w1.alloc (.cells #[.string ⟨#[]⟩,.string ⟨#[]⟩,.int .i64 0,.slice none 0 0,.slice none 0 0,.int .u64 0,.slice none 0 0,.slice none 0 0,.string ⟨#[]⟩] 37)=w1 at hF⊢
 replace HF:=zh hF
 clear hF
 refine hK.out _ _ (HF.out.tail) (fun hHeld=>?_)
 try simp only[Act.put,zq1,zq2,zq3]
 clear hHeld
 refine zqR [9] ?_
 refine zqC (fun Kn hK=>?_) AllReadyH.nil
 obtain⟨c0,c1,c2,c3,c4,c5,c6,c7,c8,c9⟩:=bxn9 (HF.out.at 0 rfl)
 have fz:=box_sf (HF.out.at 0 rfl)
 go_simp
 clear fz c0 c1 c2 c3 c4 c5 c6 c7 c8 c9
 have hF:=HF.out.fill 0 rfl [.string o,.string f,.int .i64 r.ep,.slice A r.rs.length c,.slice B r.ws.length d,.int .u64 (n:Int),.slice Av ysv.length cv,.slice K ks.length ck,.string W] rfl
 simp only[fills,Nat.reduceAdd,Nat.zero_add,List.set_cons_zero,List.set_cons_succ]at hF
 generalize (((((((((w1.setCell ⟨gm,0,none⟩ (.string o)).setCell ⟨gm,1,none⟩ (.string f)).setCell ⟨gm,2,none⟩ (.int .i64 r.ep)).setCell ⟨gm,3,none⟩ (.slice A r.rs.length c)).setCell ⟨gm,4,none⟩ (.slice B r.ws.length d)).setCell ⟨gm,5,none⟩ (.int .u64 (n:Int))).setCell ⟨gm,6,none⟩ (.slice Av ysv.length cv)).setCell ⟨gm,7,none⟩ (.slice K ks.length ck)).setCell ⟨gm,8,none⟩ (.string W))=w2 at hF⊢
 replace HF:=zh hF
 clear hF
 generalize w2=w1 at HF⊢
 refine hK.out _ _ (HF.out.tail) (fun hHeld=>?_)
 try simp only[Act.put,zq1,zq2,zq3]
 refine wpAnyH_done (by kernel_rfl) ?_ _
 clear hHeld
 have HYV:=zh hyv
 have HCV:=zh hcv
 have HKS:=zh hks
 have HRR:=zh hR
 clear hyv hks hR
 have hway:e3≠0∨(e3=0∧(e4≠0∨(e4=0∧(rest≠[]∨(rest = []∧(e5≠0∨(e5=0∧(ok=false∨ok=true)))))))):=by
  by_cases k3:e3=0
  ·by_cases k4:e4=0
   ·by_cases k:rest = []
    ·by_cases k5:e5=0
     ·exact .inr ⟨k3,.inr ⟨k4,.inr ⟨k,.inr ⟨k5,(by cases ok<;>simp)⟩⟩⟩⟩
     ·exact .inr ⟨k3,.inr ⟨k4,.inr ⟨k,.inl k5⟩⟩⟩
    ·exact .inr ⟨k3,.inr ⟨k4,.inl k⟩⟩
   ·exact .inr ⟨k3,.inl k4⟩
  ·exact .inl k3
 rcases hway with k|⟨rfl,k|⟨rfl,k|⟨rfl,k|⟨rfl,k|k⟩⟩⟩⟩
 have HX:=zh (HXB.out (.inl k))
 have hb1:(e3==0)=false:=by simpa using k
 have hb2:(e3 != 0)=true:=by simpa using k
 clear k
 rotate_left
 have HX:=zh (HXB.out (.inr (.inl k)))
 have hb1:(e4==0)=false:=by simpa using k
 have hb2:(e4 != 0)=true:=by simpa using k
 clear k
 rotate_left
 have HX:=zh (HXB.out (.inr (.inr (.inl k))))
 have hb1:R.toList.isEmpty=false:=by
  rw[Lib.toList_data,HRR.out]
  cases rest with
  | nil=>exact absurd rfl k
  | cons x y=>rfl
 have hb2:(R.toList==[])=false:=by
  rw[Lib.toList_data,HRR.out]
  exact beq_eq_false_iff_ne.2 k
 clear k
 rotate_left
 obtain rfl:R=⟨#[]⟩:=str_eq HRR.out
 have HX:=zh (HXB.out (.inr (.inr (.inr (.inl k)))))
 have hb1:(e5==0)=false:=by simpa using k
 have hb2:(e5 != 0)=true:=by simpa using k
 clear k
 rotate_left
 obtain rfl:R=⟨#[]⟩:=str_eq HRR.out
 subst k
 have HX:=zh (HXB.out (.inr (.inr (.inr (.inr (.inl (Option.isNone_iff_eq_none.1 (by simpa using hok))))))))
 rotate_left
 ·obtain rfl:R=⟨#[]⟩:=str_eq HRR.out
  subst k
  have hob:ob≠none:=fun e=>by rw[e]at hok;cases hok
  have HM:Hid (∀w',(rgtP (fun b=>w.heap.size≤b) o f r.ep A r.rs.length c B r.ws.length d r).P w'→(rowP Av ysv).P w'→(prsP K ks).P w'→IsM (fun b=>w.heap.size≤b) w' (.agg #[.string o,.string f,.int .i64 r.ep,.slice A r.rs.length c,.slice B r.ws.length d,.int .u64 (n:Int),.slice Av ysv.length cv,.slice K ks.length ck,.string W]) ⟨r,n,vl,ob.getD [],v⟩):=zh fun w' k1 k2 k3=>by
   have h1:=isM_rows (o:=o) (f:=f) (sig:=W) (ver:=n) (ck:=ck) (cv:=cv) k1 k2 k3 HCV.out HKC.out
   rw[HYV.out,HKS.out,HWW.out]at h1
   exact h1
  clear hok
  obtain⟨c0,c1,c2,c3,c4,c5,c6,c7,c8,c9⟩:=bxn9 (HF.out.at 0 rfl)
  go_wp2_with fail
  clear c0 c1 c2 c3 c4 c5 c6 c7 c8 c9
  obtain⟨bb,hbb⟩:∃b,decide (MR ⟨r,n,vl,ob.getD [],v⟩)=b:=⟨_,rfl⟩
  with_reducible refine(mright_w _ _ _ (HM.out _ (HF.out.at 4 rfl) (HF.out.at 2 rfl) (HF.out.at 1 rfl)).isW HFM.out).mono ?_
  rintro e w1 ⟨rfl,hb⟩
  replace HF:=zh (HF.out.go hb)
  clear hb
  try dsimp only
  rw[hbb]
  cases bb
  have HX:=zh (HXB.out (.inr (.inr (.inr (.inr (.inr (of_decide_eq_false hbb)))))))
  clear hbb hob
  ·obtain⟨c0,c1,c2,c3,c4,c5,c6,c7,c8,c9⟩:=bxn9 (HF.out.at 7 rfl)
   have fz:=box_sf (HF.out.at 7 rfl)
   go_wp2_with fail
   clear fz c0 c1 c2 c3 c4 c5 c6 c7 c8 c9
   have hF:=HF.out.fill 7 rfl [.string ⟨#[]⟩,.string ⟨#[]⟩,.int .i64 0,.slice none 0 0,.slice none 0 0,.int .u64 0,.slice none 0 0,.slice none 0 0,.string ⟨#[]⟩] rfl
   simp only[fills,Nat.reduceAdd,Nat.zero_add,List.set_cons_zero,List.set_cons_succ]at hF
   generalize (((((((((w1.setCell ⟨gz,0,none⟩ (.string ⟨#[]⟩)).setCell ⟨gz,1,none⟩ (.string ⟨#[]⟩)).setCell ⟨gz,2,none⟩ (.int .i64 0)).setCell ⟨gz,3,none⟩ (.slice none 0 0)).setCell ⟨gz,4,none⟩ (.slice none 0 0)).setCell ⟨gz,5,none⟩ (.int .u64 0)).setCell ⟨gz,6,none⟩ (.slice none 0 0)).setCell ⟨gz,7,none⟩ (.slice none 0 0)).setCell ⟨gz,8,none⟩ (.string ⟨#[]⟩))=w2 at hF⊢
   replace HF:=zh hF
   clear hF
   generalize w2=w1 at HF⊢
   obtain⟨d0,d1,d2,d3,d4,d5,d6,d7,d8,d9⟩:=bxn9 (HF.out.at 7 rfl)
   refine bodyPost_ret (v:=.tuple #[.agg #[.string ⟨#[]⟩,.string ⟨#[]⟩,.int .i64 0,.slice none 0 0,.slice none 0 0,.int .u64 0,.slice none 0 0,.slice none 0 0,.string ⟨#[]⟩],.int .i64 2]) (by simp[results,Tryz.results29,go_sem,d0,d1,d2,d3,d4,d5,d6,d7,d8]) rfl ?_
   exact⟨⟨_,by rw[HX.out];exact isM_zero _ _,by rw[HX.out]⟩,HF.out.bel⟩
  ·have HX:=zh (HXG.out (by first|rfl|trivial) (by first|rfl|trivial) (by first|rfl|trivial) (by first|rfl|trivial) hob (of_decide_eq_true hbb))
   clear hbb hob
   obtain⟨c0,c1,c2,c3,c4,c5,c6,c7,c8,c9⟩:=bxn9 (HF.out.at 0 rfl)
   obtain⟨z0,z1,z2,z3,z4,z5,z6,z7,z8,z9⟩:=bxn9 (HF.out.at 7 rfl)
   have fz:=box_sf (HF.out.at 7 rfl)
   go_wp2_with fail
   clear c0 c1 c2 c3 c4 c5 c6 c7 c8 c9
   clear fz z0 z1 z2 z3 z4 z5 z6 z7 z8 z9
   have hF:=HF.out.fill 7 rfl [.string o,.string f,.int .i64 r.ep,.slice A r.rs.length c,.slice B r.ws.length d,.int .u64 (n:Int),.slice Av ysv.length cv,.slice K ks.length ck,.string W] rfl
   simp only[fills,Nat.reduceAdd,Nat.zero_add,List.set_cons_zero,List.set_cons_succ]at hF
   generalize (((((((((w1.setCell ⟨gz,0,none⟩ (.string o)).setCell ⟨gz,1,none⟩ (.string f)).setCell ⟨gz,2,none⟩ (.int .i64 r.ep)).setCell ⟨gz,3,none⟩ (.slice A r.rs.length c)).setCell ⟨gz,4,none⟩ (.slice B r.ws.length d)).setCell ⟨gz,5,none⟩ (.int .u64 (n:Int))).setCell ⟨gz,6,none⟩ (.slice Av ysv.length cv)).setCell ⟨gz,7,none⟩ (.slice K ks.length ck)).setCell ⟨gz,8,none⟩ (.string W))=w2 at hF⊢
   replace HF:=zh hF
   clear hF
   generalize w2=w1 at HF⊢
   obtain⟨d0,d1,d2,d3,d4,d5,d6,d7,d8,d9⟩:=bxn9 (HF.out.at 7 rfl)
   refine bodyPost_ret (v:=.tuple #[.agg #[.string o,.string f,.int .i64 r.ep,.slice A r.rs.length c,.slice B r.ws.length d,.int .u64 (n:Int),.slice Av ysv.length cv,.slice K ks.length ck,.string W],.int .i64 0]) (by simp[results,Tryz.results29,go_sem,d0,d1,d2,d3,d4,d5,d6,d7,d8]) rfl ?_
   exact⟨⟨_,by rw[HX.out];exact HM.out _ (HF.out.at 4 rfl) (HF.out.at 2 rfl) (HF.out.at 1 rfl),by rw[HX.out]⟩,HF.out.bel⟩
 all_goals
  obtain⟨c0,c1,c2,c3,c4,c5,c6,c7,c8,c9⟩:=bxn9 (HF.out.at 7 rfl)
  have fz:=box_sf (HF.out.at 7 rfl)
  go_wp2_with fail
  clear fz c0 c1 c2 c3 c4 c5 c6 c7 c8 c9
  have hF:=HF.out.fill 7 rfl [.string ⟨#[]⟩,.string ⟨#[]⟩,.int .i64 0,.slice none 0 0,.slice none 0 0,.int .u64 0,.slice none 0 0,.slice none 0 0,.string ⟨#[]⟩] rfl
  simp only[fills,Nat.reduceAdd,Nat.zero_add,List.set_cons_zero,List.set_cons_succ]at hF
  generalize (((((((((w1.setCell ⟨gz,0,none⟩ (.string ⟨#[]⟩)).setCell ⟨gz,1,none⟩ (.string ⟨#[]⟩)).setCell ⟨gz,2,none⟩ (.int .i64 0)).setCell ⟨gz,3,none⟩ (.slice none 0 0)).setCell ⟨gz,4,none⟩ (.slice none 0 0)).setCell ⟨gz,5,none⟩ (.int .u64 0)).setCell ⟨gz,6,none⟩ (.slice none 0 0)).setCell ⟨gz,7,none⟩ (.slice none 0 0)).setCell ⟨gz,8,none⟩ (.string ⟨#[]⟩))=w2 at hF⊢
  replace HF:=zh hF
  clear hF
  generalize w2=w1 at HF⊢
  obtain⟨d0,d1,d2,d3,d4,d5,d6,d7,d8,d9⟩:=bxn9 (HF.out.at 7 rfl)
  refine bodyPost_ret (v:=.tuple #[.agg #[.string ⟨#[]⟩,.string ⟨#[]⟩,.int .i64 0,.slice none 0 0,.slice none 0 0,.int .u64 0,.slice none 0 0,.slice none 0 0,.string ⟨#[]⟩],.int .i64 2]) (by simp[results,Tryz.results29,go_sem,d0,d1,d2,d3,d4,d5,d6,d7,d8]) rfl ?_
  exact⟨⟨_,by rw[HX.out];exact isM_zero _ _,by rw[HX.out]⟩,HF.out.bel⟩
end Go.Proofs.YtmihiknebelkbaaGreat.Mta
