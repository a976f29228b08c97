/-
  OTakeP, OMemE, OPureC. By an AI agent.
-/
import Derived.Test.YtmihiknebelkbaaGreatOZ
import Derived.Test.YtmihiknebelkbaaGreatOOPut
import Derived.Test.YtmihiknebelkbaaGreatOMTakeR
import Derived.Laws.Tables
import Derived.Laws.Rows
import Derived.Test.YtmihiknebelkbaaGreatOJ4
import Derived.IntWalk
import Derived.Test.YtmihiknebelkbaaGreatOWRAllN
set_option linter.unusedSimpArgs false
set_option linter.unusedVariables false
namespace Go.Proofs.YtmihiknebelkbaaGreat.Own
open Go Go.RowKit Wire Term Rig Mta Frm Usr
theorem fewM_right {m:Mt} (h:MR m) (hv:m.ver<18446744073709551616):FewM m:=by
 obtain⟨v1,v2⟩:=vf_small h;obtain⟨b1,b2⟩:=bs_small h;have hs:=kd_len h.2.2.1 (by decide);exact⟨few_right h.1,by omega,by omega,fun t ht=>by have:=v2 t ht;omega,fun b hb=>by have:=b2 b hb;omega,by omega,hv⟩
theorem fewM_zero:FewM mzero:=⟨few_zero,Nat.zero_le _,Nat.zero_le _,fun _ h=>(List.not_mem_nil h).elim,fun _ h=>(List.not_mem_nil h).elim,Nat.zero_le _,show 0<18446744073709551616 by decide⟩
theorem few_parts {a0 a1:Tm} {M:Mt} {e3:Int} {S:Frs.Sp} {e4:Int} {n:Nat} (h3:takeM a0=(M,e3)) (h4:Frs.takeS a1=(S,e4)) {pf:List Tm} (h5:pf.length≤40) (h6:∀t∈pf,t.length≤2000000):∀E:Int,-9223372036854775808≤E∧E≤9223372036854775807→FewE ⟨M,S,E,pf⟩:=fun E hE=>by
 have hm:FewM M:=by
  rcases takeM_cases a0 with h|⟨m,h,k1,k2,_⟩
  ·rw[h]at h3
   rw[←(Prod.mk.inj h3).1];exact fewM_zero
  ·rw[h]at h3
   rw[←(Prod.mk.inj h3).1];exact fewM_right k1 k2
 have hs:S.own.length≤4000∧S.root.length≤4000∧S.sig.length≤4000∧S.time<18446744073709551616:=by
  rcases Frs.takeM_err (m:=4000) (b:=a1)with h|h
  ·have he:e4=0:=by
    have h8:(Frs.takeS a1).2=0:=h;rw[h4]at h8;exact h8
   have h7:Frs.takeS a1=(S,0):=by rw[h4,he]
   obtain⟨k1,_,k3⟩:=Frs.takeM_back h7;have l1:=Frs.own_len k1;have l2:=(right_len k1.2.2.1).2;have l3:=kd_len k1.2.2.2 (by decide);exact⟨by omega,by omega,by omega,k3⟩
  ·have h7:(Frs.szero,(2:Int))=(S,e4):=h.symm.trans h4
   rw[←(Prod.mk.inj h7).1];exact⟨Nat.zero_le _,Nat.zero_le _,Nat.zero_le _,show 0<18446744073709551616 by decide⟩
 exact⟨hm,by show S.own.length≤_;omega,by show S.root.length≤_;omega,by show S.sig.length≤_;omega,hs.2.2.2,h5,h6,hE⟩
theorem oTaken_is {X:Env×Int} {a0 a1 a2 a3:Tm} {b:Int} {M:Mt} {e3 e4 e5 e6:Int} {S:Frs.Sp} {n:Nat} {rest:Tm} {pf:List Tm} (h3:takeM a0=(M,e3)) (h4:Frs.takeS a1=(S,e4)) (h5:tk a2=(n,rest,e5)) (h6:all a3 3 b=(pf,e6))
 (h:(if ¬(rowOKE b [a0,a1,a2,a3]∧ER (envOf b [a0,a1,a2,a3]))then(ezero,(2:Int))else(envOf b [a0,a1,a2,a3],0))=X):
 ((e3≠0∨e4≠0∨e5≠0∨rest≠[]∨¬n≤7∨e6≠0∨¬ER ⟨M,S,(n:Int),pf⟩)→X=(ezero,2))∧(e3=0→e4=0→e5=0→rest = []→n≤7→e6=0→ER ⟨M,S,(n:Int),pf⟩→X=(⟨M,S,(n:Int),pf⟩,0)):=by
 have hr:rowOKE b [a0,a1,a2,a3]↔e3=0∧e4=0∧(e5=0∧rest = [])∧n≤7∧e6=0:=by
  unfold rowOKE;simp only[List.getD_cons_zero,List.getD_cons_succ];rw[h3,h4,h5,h6]
 have he:envOf b [a0,a1,a2,a3]=⟨M,S,(n:Int),pf⟩:=by
  unfold envOf;simp only[List.getD_cons_zero,List.getD_cons_succ];rw[h3,h4,h5,h6]
 refine⟨fun hw=>?_,fun k1 k2 k3 k4 k5 k6 k7=>?_⟩
 ·rw[←h,if_pos]
  rintro⟨hrow,k7⟩;rw[he]at k7;obtain⟨k1,k2,⟨k3,k4⟩,k5,k6⟩:=hr.1 hrow;rcases hw with k|k|k|k|k|k|k
  ·exact k k1
  ·exact k k2
  ·exact k k3
  ·exact k k4
  ·exact k k5
  ·exact k k6
  ·exact k k7
 ·rw[←h,if_neg (fun hn=>hn ⟨hr.2 ⟨k1,k2,⟨k3,k4⟩,k5,k6⟩,by rw[he];exact k7⟩),he]
end Go.Proofs.YtmihiknebelkbaaGreat.Own
namespace Go.Proofs.YtmihiknebelkbaaGreat.Own
open Go Go.RowKit Wire Term Rig Mta Frm Usr
def IsEn (B:Nat) (w:World) (v:Value) (e:Env):Prop:=∃(mv:List Value) (O R G:ByteArray) (P:Option Addr) (cp:Nat) (ps:List ByteArray),
 v = .agg (mv++([.string O,.int .u64 (e.s.time:Int),.int .i64 e.s.many,.string R,.string G,.int .i64 e.i,.slice P ps.length cp]:List Value)).toArray∧IsM (fun b=>B≤b) w (.agg mv.toArray) e.m∧O.data.toList=e.s.own∧R.data.toList=e.s.root∧G.data.toList=e.s.sig∧SReads w P ps∧bl ps=e.pf∧∀b off,P=some ⟨b,off,none⟩→B≤b
theorem IsEn.isE {B:Nat} {w:World} {v:Value} {e:Env} (h:IsEn B w v e):IsE w v e:=by
 obtain⟨mv,O,R,G,P,cp,ps,h1,h2,h3,h4,h5,h6,h7,_⟩:=h;exact⟨mv,O,R,G,P,cp,ps,h1,h2.isW,h3,h4,h5,h6,h7⟩
theorem isEn_mk {b0:Nat} {w:World} {o f sig:ByteArray} {ep:Int} {A:Option Addr} {n c:Nat} {B:Option Addr} {m d:Nat} {ver:Int} {V:Option Addr} {k cv:Nat} {K:Option Addr} {q ck:Nat} {O R G:ByteArray} {t:Nat} {y i:Int} {P:Option Addr} {cp:Nat} {ps:List ByteArray} {M:Mt} {s:Frs.Sp}
 (h:IsM (fun b=>b0≤b) w (.agg #[.string o,.string f,.int .i64 ep,.slice A n c,.slice B m d,.int .u64 ver,.slice V k cv,.slice K q ck,.string sig]) M) (h2:O.data.toList=s.own∧t=s.time∧y=s.many∧R.data.toList=s.root∧G.data.toList=s.sig) (h3:SReads w P ps) (h4:∀b off,P=some ⟨b,off,none⟩→b0≤b):
 IsEn b0 w (.agg #[.string o,.string f,.int .i64 ep,.slice A n c,.slice B m d,.int .u64 ver,.slice V k cv,.slice K q ck,.string sig,.string O,.int .u64 (t:Int),.int .i64 y,.string R,.string G,.int .i64 i,.slice P ps.length cp]) ⟨M,s,i,bl ps⟩:=by
 obtain⟨a1,rfl,rfl,a4,a5⟩:=h2;exact⟨_,O,R,G,P,cp,ps,rfl,h,a1,a4,a5,h3,rfl,h4⟩
def Ewn (B:Nat) (x:Env×Int) (e:Ending) (w':World):Prop:=∃v,IsEn B w' v x.1∧e = .returned (.tuple #[v,.int .i64 x.2])
theorem isEn_zero (B:Nat) (w:World):IsEn B w (.agg #[.string ⟨#[]⟩,.string ⟨#[]⟩,.int .i64 0,.slice none 0 0,.slice none 0 0,.int .u64 0,.slice none 0 0,.slice none 0 0,.string ⟨#[]⟩,.string ⟨#[]⟩,.int .u64 0,.int .i64 0,.string ⟨#[]⟩,.string ⟨#[]⟩,.int .i64 0,.slice none 0 0]) ezero:=
 ⟨_,⟨#[]⟩,⟨#[]⟩,⟨#[]⟩,none,0,[],rfl,isM_zero _ w,rfl,rfl,rfl,SReads.nil _ _,rfl,fun b off e=>by cases e⟩
theorem Fm.new2 {w0 w w':World} {l:List Part} {p q:Part} (h:Fm w0 w l) (hb:Below w.heap.size w w') (hp:p.P w') (hS:∀b,p.S b→w.heap.size≤b) (hM:∀b,¬p.M b) (hq:q.P w') (hS2:∀b,q.S b→w.heap.size≤b) (hM2:∀b,¬q.M b):Fm w0 w' (q::p::l):=
 (Frm.Fm.new h hb hp hS fun b h=>(hM b h).elim).add hq (fun b h=>(hM2 b h).elim) fun r hr=>by
   rcases List.mem_cons.1 hr with rfl|hr
   ·exact fun b=>⟨fun h=>hM2 b h.1,fun h=>hM b h.2⟩
   ·exact(List.pairwise_cons.1 (Frm.Fm.new h hb hq hS2 fun b h=>(hM2 b h).elim).dis).1 r hr
theorem fm_row {w0 w:World} {l:List Part} {g:Nat} {V:Array Value} {t:TypeId} (h:Fm w0 w l) (i:Nat) (hi:l[i]? = some (Frm.box g V t)) (U:Array Value):Fm w0 (w.setRow g U) (l.set i (Frm.box g U t)):=
 h.turn i hi ⟨rfl,rfl,rfl,by simp[World.setRow],fun b _ hn=>setRow_other w g b U hn⟩ (setRow_heap w g V U t (0,0) (h.at i hi)) (fun b e=>.inl e) (fun b e=>.inl e)
theorem results_row_tmp {P:Program} {fn:Func} {p q:Tmp} {ty:TypeId} (h:fn.results = #[.cell p ty,.tmp q]) (tmps:Array Value) (w:World) (g:Nat) (t:TypeId) (cs:Array Value) (fr:Nat×Nat) (d:TypeDesc)
 (hp:tmps.getD p undef = .pointer (some ⟨g,0,none⟩)) (hg:w.heap[g]? = some (.cells cs t fr))
 (hu:P.underlying ty=some d) (hd:(match d with | .struct _ | .array _ _=>true|_=>false)=true) (hi:(P.info? ty).map (·.size)=some cs.size):
 (results fn tmps).run P w = .ok (.tuple #[.agg cs,tmps.getD q undef]) w:=by
 have hp':tmps[p]?.getD undef = .pointer (some ⟨g,0,none⟩):=by simpa using hp
 simp[results,h,hp',asAddr,run_loadVar_row w g t ty cs fr d hg hu hd hi]
theorem exec_load_row {P:Program} {ρ:Operand→Value} {o:Oper} {w:World} (ty:TypeId) (x:Operand) (ho:o.op = .load ty x) (g:Nat) (hx:ρ x = .pointer (some ⟨g,0,none⟩)) (t:TypeId) (cs:Array Value) (fr:Nat×Nat) (d:TypeDesc) (hg:w.heap[g]? = some (.cells cs t fr))
 (hu:P.underlying ty=some d) (hd:(match d with | .struct _ | .array _ _=>true|_=>false)=true) (hi:(P.info? ty).map (·.size)=some cs.size):(execOp ρ o).run P w = .ok (.value (.agg cs)) w:=by
 unfold execOp;simp only[ho,hx,Instr.loadAt,Instr.sureAddr,Sem.run_bind,Sem.run_pure,Result.andThen_ok,run_loadVar_row w g t ty cs fr d hg hu hd hi]
theorem ee_fm {w0 w w':World} {l:List Part} {x:Env} {v:Value} (h:Fm w0 w l) (h1:IsEn w.heap.size w' v x) (hb:Below w.heap.size w w'):∃(o f sig:ByteArray) (ep:Int) (A:Option Addr) (n c:Nat) (B:Option Addr) (m d ver:Nat) (V:Option Addr) (k cv:Nat) (K:Option Addr) (q ck:Nat) (O R G:ByteArray) (P:Option Addr) (cp:Nat) (ps:List ByteArray),
 v = .agg #[.string o,.string f,.int .i64 ep,.slice A n c,.slice B m d,.int .u64 (ver:Int),.slice V k cv,.slice K q ck,.string sig,.string O,.int .u64 (x.s.time:Int),.int .i64 x.s.many,.string R,.string G,.int .i64 x.i,.slice P ps.length cp] ∧
 Fm w0 w' (rowP P ps::mwP (fun b=>w0.heap.size≤b) [.string o,.string f,.int .i64 ep,.slice A n c,.slice B m d,.int .u64 (ver:Int),.slice V k cv,.slice K q ck,.string sig] x.m::l)∧(O.data.toList=x.s.own∧R.data.toList=x.s.root∧G.data.toList=x.s.sig)∧bl ps=x.pf∧∀b off,P=some ⟨b,off,none⟩→w0.heap.size≤b:=by
 obtain⟨mv,O,R,G,P,cp,ps,rfl,h2,h3,h4,h5,h6,h7,h8⟩:=h1
 obtain⟨o,f,sig,A,c,rs,B,d,ws,V,cv,vs,K,ck,ks,g1,_⟩:=id h2
 injection g1 with g1
 have g2:mv = [.string o,.string f,.int .i64 x.m.r.ep,.slice A rs.length c,.slice B ws.length d,.int .u64 (x.m.ver:Int),.slice V vs.length cv,.slice K ks.length ck,.string sig]:=(Array.mk.inj g1)
 subst g2
 exact⟨o,f,sig,_,A,_,c,B,_,d,_,V,_,cv,K,_,ck,O,R,G,P,cp,ps,rfl,Fm.new2 h hb (p:=mwP (fun b=>w0.heap.size≤b) _ x.m) (h2.mono fun b _ hb=>Nat.le_trans h.bel.size hb) (fun b hb=>mw_ok h2 hb) (fun _ h=>h) (q:=rowP P ps) h6 (fun b hb=>by obtain⟨_,off,e⟩:=hb;exact h8 b off e) (fun _ h=>h),⟨h3,h4,h5⟩,h7,fun b off e=>Nat.le_trans h.bel.size (h8 b off e)⟩
end Go.Proofs.YtmihiknebelkbaaGreat.Own
namespace Go.Proofs.YtmihiknebelkbaaGreat.Own
open Go Wire Term Rig Mta
def readC (s:Tm):Option Env:=
 if(all s 4 (s.length:Int)).2≠0∨(all s 4 (s.length:Int)).1.length≠4 then none
 else if(takeM ((all s 4 (s.length:Int)).1.getD 0 [])).2≠0 then none
 else if(Frs.takeS ((all s 4 (s.length:Int)).1.getD 1 [])).2≠0 then none
 else if(tk ((all s 4 (s.length:Int)).1.getD 2 [])).2.2≠0∨(tk ((all s 4 (s.length:Int)).1.getD 2 [])).2.1≠[]then none
 else if(all ((all s 4 (s.length:Int)).1.getD 3 []) 3 ((((all s 4 (s.length:Int)).1.getD 3 []).length:Nat):Int)).2≠0 then none
 else some ⟨(takeM ((all s 4 (s.length:Int)).1.getD 0 [])).1,(Frs.takeS ((all s 4 (s.length:Int)).1.getD 1 [])).1,IntKind.i64.wrap (((tk ((all s 4 (s.length:Int)).1.getD 2 [])).1:Nat):Int),(all ((all s 4 (s.length:Int)).1.getD 3 []) 3 ((((all s 4 (s.length:Int)).1.getD 3 []).length:Nat):Int)).1⟩
def takeC (s:Tm):Env×Int:=match readC s with
 | none=>(ezero,2)
 | some e=>if ER e then(e,0)else(ezero,2)
theorem takeE_own {s:Tm} (h9:s.length≤90000):takeEb (s.length:Int) (((all s 4 (s.length:Int)).1.getD 3 []).length:Nat) s=takeE s:=by
 have hb:((all s 4 (s.length:Int)).1.getD 3 []).length≤s.length:=by
  have h1:=(Rig.all_few (l:=s) (a:=4) (b:=(s.length:Int)) (x:=(all s 4 (s.length:Int)).1) (e:=(all s 4 (s.length:Int)).2) rfl).2;by_cases hl:3<(all s 4 (s.length:Int)).1.length
  ·refine h1 _ ?_
   rw[List.getD_eq_getElem?_getD,List.getElem?_eq_getElem hl];exact List.getElem_mem hl
  ·rw[List.getD_eq_getElem?_getD,List.getElem?_eq_none (by omega)]
   exact Nat.zero_le _
 rcases takeEb_err (a:=(s.length:Int)) (b:=((((all s 4 (s.length:Int)).1.getD 3 []).length:Nat):Int)) (s:=s)with h|h
 ·obtain⟨e,he⟩:∃e,takeEb (s.length:Int) (((all s 4 (s.length:Int)).1.getD 3 []).length:Nat) s=(e,0):=⟨(takeEb (s.length:Int) (((all s 4 (s.length:Int)).1.getD 3 []).length:Nat) s).1,by rw[←h]⟩
  rw[he];exact(takeE_same (a:=90000) (b:=4000) (by decide) (by decide) h9 zl he).symm
 ·rcases takeEb_err (a:=90000) (b:=4000) (s:=s)with h2|h2
  ·obtain⟨e,he⟩:∃e,takeE s=(e,0):=⟨(takeE s).1,by rw[←h2];rfl⟩
   obtain⟨k1,k2,k3⟩:=takeEb_back he
   have h4:all s 4 (s.length:Int)=(partsE e,0):=by
    rw[k3];exact all_many (by simp[partsE]) (by decide) (by rw[←k3];omega) fun t ht=>part_len ht
   have hp:∀t∈e.pf,t.length≤((all s 4 (s.length:Int)).1.getD 3 []).length:=fun t ht=>by
    rw[h4];show t.length≤(putAll e.pf).length
    exact part_len ht
   have h5:takeEb (s.length:Int) (((all s 4 (s.length:Int)).1.getD 3 []).length:Nat) (rowE e)=(e,0):=takeEb_put k1 k2 (by omega) (by omega) (fun t ht=>by rw[k3];exact part_len ht) hp;rw[←k3,h]at h5;cases h5
  ·rw[h];exact h2.symm
theorem takeC_is {s:Tm} (h9:s.length≤90000):takeC s=takeE s:=by
 rw[←takeE_own h9];unfold takeC readC takeEb;by_cases c1:(all s 4 (s.length:Int)).2≠0∨(all s 4 (s.length:Int)).1.length≠4
 ·rw[if_pos c1,if_pos c1]
 rw[if_neg c1,if_neg c1]
 have hn:(tk ((all s 4 (s.length:Int)).1.getD 2 [])).1<18446744073709551616:=by
  cases ht:take ((all s 4 (s.length:Int)).1.getD 2 [])with
  | none=>rw[tk_none ht];decide
  | some p=>
   obtain⟨m,q⟩:=p;rw[tk_some ht];exact(take_some ht).2
 generalize (all s 4 (s.length:Int)).1=l at *;generalize hb:(((l.getD 3 []).length:Nat):Int)=b;have hr:rowOKE b l↔(takeM (l.getD 0 [])).2=0∧(Frs.takeS (l.getD 1 [])).2=0∧((tk (l.getD 2 [])).2.2=0∧(tk (l.getD 2 [])).2.1 = [])∧(tk (l.getD 2 [])).1≤7∧(all (l.getD 3 []) 3 b).2=0:=Iff.rfl;by_cases k1:(takeM (l.getD 0 [])).2≠0
 ·rw[if_pos k1,if_pos fun h=>k1 (hr.1 h.1).1]
 rw[if_neg k1];by_cases k2:(Frs.takeS (l.getD 1 [])).2≠0
 ·rw[if_pos k2,if_pos fun h=>k2 (hr.1 h.1).2.1]
 rw[if_neg k2];by_cases k3:(tk (l.getD 2 [])).2.2≠0∨(tk (l.getD 2 [])).2.1≠[]
 ·rw[if_pos k3,if_pos fun h=>k3.elim (fun k=>k (hr.1 h.1).2.2.1.1) fun k=>k (hr.1 h.1).2.2.1.2]
 rw[if_neg k3];by_cases k4:(all (l.getD 3 []) 3 b).2≠0
 ·rw[if_pos k4,if_pos fun h=>k4 (hr.1 h.1).2.2.2.2]
 rw[if_neg k4];simp only;by_cases k5:(tk (l.getD 2 [])).1≤7
 ·have hw:IntKind.i64.wrap (((tk (l.getD 2 [])).1:Nat):Int)=(((tk (l.getD 2 [])).1:Nat):Int):=by rw[IntKind.wrap_i64];omega
  rw[hw];have hro:rowOKE b l:=⟨Decidable.not_not.1 k1,Decidable.not_not.1 k2,⟨Decidable.not_not.1 fun k=>k3 (.inl k),Decidable.not_not.1 fun k=>k3 (.inr k)⟩,k5,Decidable.not_not.1 k4⟩
  by_cases k6:ER (envOf b l)
  ·exact(if_pos k6).trans (if_neg fun h=>h ⟨hro,k6⟩).symm
  ·exact(if_neg k6).trans (if_pos fun h=>k6 h.2).symm
 ·refine(if_neg fun h=>?_).trans (if_pos fun h=>k5 (hr.1 h.1).2.2.2.1).symm
  have h1:=h.2.2.1;simp only at h1;rw[IntKind.wrap_i64]at h1;omega
end Go.Proofs.YtmihiknebelkbaaGreat.Own
