/-
  USpec, Frm2, UPart, MLit. By an AI agent.
-/
import Derived.Test.YtmihiknebelkbaaGreatOZ
import Derived.Test.YtmihiknebelkbaaGreatOFrm
import Derived.Test.YtmihiknebelkbaaGreatOG1
import Derived.Laws.OwnMore
import Derived.Deep.AppendLies
import Derived.Test.YtmihiknebelkbaaGreatOH1
import Derived.Test.YtmihiknebelkbaaGreatOMApp
import Derived.Test.YtmihiknebelkbaaGreatOMSame
set_option linter.unusedVariables false
namespace Go.Proofs.YtmihiknebelkbaaGreat.Usr
open Go Go.RowKit Wire Rig Draw Frm
def Bk (vs:List Value) (b:Nat):Prop:=∃off n c,Value.slice (some ⟨b,off,none⟩) n c∈vs∧0<n
def rowP (A:Option Addr) (ys:List ByteArray):Part where
 P w:=SReads w A ys;S b:=0<ys.length∧∃off,A=some ⟨b,off,none⟩;M _:=False;sub _ h:=h.elim
 dep hs h hb:=fun j hj=>by
  obtain⟨b,off,e,hlt,hc⟩:=h j hj;exact⟨b,off,e,Nat.lt_of_lt_of_le hlt hs,(World.cell?_of_block (a:=⟨b,off+j,none⟩) (hb b ⟨by omega,off,e⟩)).trans hc⟩
 old h b hb:=by
  obtain⟨h0,off,e⟩:=hb;exact sreads_lt h e h0
abbrev UPred:=World→Addr→(Nat→Prop)→(Nat→Prop)→Us→Prop
section
variable {D:UPred} {w0 w:World} {l:List Part} {a:Addr} {S M:Nat→Prop} {u:Us} {n:Nat}
end
end Go.Proofs.YtmihiknebelkbaaGreat.Usr
namespace Go.Proofs.YtmihiknebelkbaaGreat.Frm
open Go Go.RowKit
section
variable {w0 w w':World} {l:List Part} {q:Part}
theorem Fm.off (h:Fm w0 w l) (hb:Below w.heap.size w w') (hq:q.P w') (hM:∀b,¬q.M b) (hS:∀r∈l,∀b,r.M b→¬q.S b):Fm w0 w' (q::l):=
 (h.go hb).add hq (fun b h2=>absurd h2 (hM b)) fun r hr b=>⟨fun h2=>hM b h2.1,fun h2=>hS r hr b h2.2 h2.1⟩
end
theorem owns_move {w w':World} {base n k:Nat} {T:TypeId} {v:Value} {zs:List Value} (h:w.ownsRow base T k v n zs) (hb:∀b,v.ownBlock=some b→w'.heap[b]? = w.heap[b]?):w'.ownsRow base T k v n zs:=by
 refine⟨h.1,?_⟩;rcases h.2 with h1|⟨x,cap,cur,rfl,a1,a2,a3⟩
 ·exact .inl h1
 ·exact .inr ⟨x,cap,cur,rfl,a1,(hb x rfl).trans a2,a3⟩
def rowK (T:TypeId) (k:Nat) (A:Option Addr) (cap:Nat) (rs:List (List Value)):Part where
 P w:=w.ownsRow 0 T k (.slice A rs.length cap) rs.length rs.flatten∧∀vs∈rs,vs.length=k;S b:=(Value.slice A rs.length cap).ownBlock=some b;M b:=(Value.slice A rs.length cap).ownBlock=some b;sub _ h:=h;dep _ h hs:=⟨owns_move h.1 hs,h.2⟩
 old h b hb:=(h.1.lt b hb).2
theorem flat_at {k:Nat}:∀{rs:List (List Value)} {i j:Nat} {vs:List Value},(∀vs∈rs,vs.length=k)→rs[i]? = some vs→j<k→rs.flatten[i*k+j]? = vs[j]?
 | [],i,j,vs,_,h,_=>by simp at h
 | v::rs,0,j,vs,hk,h,hj=>by
  obtain rfl:v=vs:=by simpa using h
  rw[List.flatten_cons,Nat.zero_mul,Nat.zero_add,List.getElem?_append_left (by rw[hk v (List.mem_cons_self ..)];exact hj)]
 | v::rs,i+1,j,vs,hk,h,hj=>by
  have h1:=hk v (List.mem_cons_self ..);rw[List.flatten_cons,Nat.succ_mul,List.getElem?_append_right (by rw[h1];omega),h1,show i*k+k+j-k=i*k+j by omega];exact flat_at (fun u hu=>hk u (List.mem_cons_of_mem _ hu)) (by simpa using h) hj
section
variable {T:TypeId} {k:Nat} {A:Option Addr} {cap:Nat} {rs:List (List Value)} {w0 w:World} {l:List Part}
theorem rowK_some (h:(rowK T k A cap rs).P w) {i:Nat} (hi:i<rs.length):∃g,A=some ⟨g,0,none⟩:=by
 rcases h.1.2 with⟨_,h0⟩|⟨g,cp,cur,hv,_⟩
 ·omega
 ·injection hv with hv
  exact⟨g,hv⟩
theorem rowK_cap (h:(rowK T k A cap rs).P w):rs.length≤cap∧cap≤9223372036854775807:=by
 rcases h.1.2 with⟨h1,h0⟩|⟨g,cp,cur,hv,_,_,h3,h4,_⟩
 ·injection h1 with _ h2 h3;omega
 ·injection hv with _ _ hc
  rw[hc];exact⟨h3,h4⟩
theorem rowK_at {g:Nat} (h:(rowK T k (some ⟨g,0,none⟩) cap rs).P w) {i:Nat} {vs:List Value} (hi:rs[i]? = some vs) {j:Nat} (hj:j<k):w.cell? ⟨g,i*k+j,none⟩=vs[j]?:=by
 have hil:=(List.getElem?_eq_some_iff.1 hi).1;refine(h.1.cellAt (i*k+j) ?_).trans (flat_at h.2 hi hj);have:=Nat.mul_le_mul_right k (Nat.succ_le_of_lt hil);rw[Nat.succ_mul]at this;omega
theorem rowK_lt {g:Nat} (h:(rowK T k (some ⟨g,0,none⟩) cap rs).P w):g<w.heap.size:=(h.1.lt g rfl).2
end
theorem Fm.conv {w0 w:World} {l:List Part} {p q:Part} (h:Fm w0 w l) (i:Nat) (hi:l[i]? = some p) (hq:q.P w) (hS:∀b,q.S b→p.S b) (hM:∀b,q.M b→p.M b):Fm w0 w (l.set i q):=
 h.turn i hi (Fr.none (Below.refl _ _)) hq (fun b hb=>.inl (hS b hb)) (fun b hb=>.inl (hM b hb))
theorem Fm.nilK {w0 w:World} {l:List Part} (h:Fm w0 w l) (T:TypeId) (k:Nat):Fm w0 w (rowK T k none 0 []::l):=
 h.add (p:=rowK T k none 0 []) ⟨World.ownsRow_nil _ _ _ _,fun _ h=>(List.not_mem_nil h).elim⟩ (fun b hb=>by cases hb) fun q hq b=>⟨fun h2=>(by cases h2.1),fun h2=>(by cases h2.1)⟩
theorem fmK_append {P:Program} {w0 w:World} {l:List Part} {T:TypeId} {k:Nat} {A:Option Addr} {cap:Nat} {rs:List (List Value)} (i:Nat) (hi:l[i]? = some (rowK T k A cap rs)) (h:Fm w0 w l) {o:Oper} {a:Act} {K:Act→World→Prop} {Q:Exit→Act→World→Prop} (s x:Operand) (t:TypeId)
 (ho:o.op = .call { callee:=.builtin .append,args:=#[s,x],argTypes:=#[t,t] }) (inf:TypeInfo) (z:Value) (bytes:Nat) (ht:P.underlying t=some (.slice T)) (hinf:P.info? T=some inf) (hz:inf.zero=some z) (hsz:inf.size=k) (hby:inf.bytes=bytes) (hzs:z.cells.size=k) (hk:0<k)
 (vs:List Value) (gl cc:Nat) (hvs:vs.length=k) (h1:∀u∈vs,u.oneCell'=true) (hs:a.eval s = .slice A rs.length cap) (hx:a.eval x = .slice (some ⟨gl,0,none⟩) 1 cc) (hr:∀j u,vs[j]? = some u→w.cell? ⟨gl,j,none⟩=some u) (hlen:rs.length+1≤1000000) (hbl:(rs.length+1)*bytes≤140737488355328)
 (kk:∀g' c' w',((Value.slice A rs.length cap).ownBlock=some g'∨w.heap.size≤g')→Fm w0 w' (l.set i (rowK T k (some ⟨g',0,none⟩) c' (rs++[vs])))→K (a.put o.dst (.slice (some ⟨g',0,none⟩) (rs.length+1) c')) w'):o.wp P a w K Q:=by
 have hp:=h.at i hi;refine wp_append_lies w s x t ho 0 T inf z k bytes ht hinf hz hsz hby hzs hk (.slice A rs.length cap) rs.length rs.flatten hs hp.1 ⟨gl,0,none⟩ 1 cc vs hx (by rw[hvs,Nat.one_mul]) ?_ h1 (by decide) (by simp only[maxLen];omega) hbl (Nat.zero_le _) _ rfl ?_
 ·intro j u hj
  rw[show(⟨gl,0,none⟩:Addr).add j=⟨gl,j,none⟩by unfold Addr.add;split<;>simp_all];exact hr j u hj
 ·intro g' c' w' hown hgr hat _
  have hgg:(Value.slice A rs.length cap).ownBlock=some g'∨w.heap.size≤g':=hat.imp_right fun e=>Nat.le_of_eq e.symm
  refine kk g' c' w' hgg (h.turn i hi ⟨hgr.os,hgr.tape,hgr.output,hgr.size,fun b hb hne=>hgr.block b hb fun e=>hne e.symm⟩ ⟨?_,fun us hu=>?_⟩ (fun b hb=>?_) (fun b hb=>?_))
  ·rw[List.length_append,List.flatten_append,List.flatten_singleton]
   exact hown
  ·rcases List.mem_append.1 hu with hu|hu
   ·exact hp.2 us hu
   ·rw[List.mem_singleton.1 hu];exact hvs
  ·obtain rfl:g'=b:=Option.some.inj hb
   exact hgg
  ·obtain rfl:g'=b:=Option.some.inj hb
   exact hgg
def RO (l:List Part):Prop:=∀r∈l,∀b,¬r.M b
theorem ro_nil:RO []:=fun _ h=>(List.not_mem_nil h).elim
theorem ro_cons {p:Part} {l:List Part} (h:∀b,¬p.M b) (h2:RO l):RO (p::l):=fun r hr=>by
 rcases List.mem_cons.1 hr with rfl|hr
 ·exact h
 ·exact h2 r hr
def fills (w:World) (g:Nat):Nat→List Value→World
 | _,[]=>w
 | k,v::vs=>fills (w.setCell ⟨g,k,none⟩ v) g (k+1) vs
theorem Fm.fillK {w0:World} {l:List Part} {g i:Nat} {t:TypeId}:∀(vs:List Value) (k:Nat) (w:World) (us:List Value),Fm w0 w (l.set i (Frm.box g us.toArray t))→i<l.length→us.length=k+vs.length→Fm w0 (fills w g k vs) (l.set i (Frm.box g (us.take k++vs).toArray t))
 | [],k,w,us,h,hi,hl=>by
  rw[List.length_nil,Nat.add_zero]at hl;rw[List.append_nil,List.take_of_length_le (by omega)];exact h
 | v::vs,k,w,us,h,hi,hl=>by
  rw[List.length_cons]at hl;have h1:=h.put i (List.getElem?_set_self hi) k v (us.set k v).toArray (by simp);rw[List.set_set]at h1;have h2:=Fm.fillK vs (k+1) (w.setCell ⟨g,k,none⟩ v) (us.set k v) h1 hi (by rw[List.length_set];omega)
  have e:(us.set k v).take (k+1)++vs=us.take k++v::vs:=by
   have hk:k<us.length:=by omega
   have e2:(us.set k v).take (k+1)=us.take k++[v]:=by
    rw[List.take_add_one,List.take_set_of_le zl,List.getElem?_set_self hk];rfl
   rw[e2,List.append_assoc];rfl
  rw[e]at h2;exact h2
theorem Fm.fill {w0 w:World} {l:List Part} {g:Nat} {V:Array Value} {t:TypeId} (h:Fm w0 w l) (i:Nat) (hi:l[i]? = some (Frm.box g V t)) (vs:List Value) (hl:V.size=vs.length):Fm w0 (fills w g 0 vs) (l.set i (Frm.box g vs.toArray t)):=by
 have hil:=(List.getElem?_eq_some_iff.1 hi).1
 have e:l.set i (Frm.box g V.toList.toArray t)=l:=by
  rw[Array.toArray_toList,←(List.getElem?_eq_some_iff.1 hi).2];exact List.set_getElem_self hil
 have h2:=Fm.fillK (l:=l) (i:=i) (g:=g) (t:=t) vs 0 w V.toList (by rw[e];exact h) hil (by rw[Array.length_toList];omega);rw[List.take_zero,List.nil_append]at h2;exact h2
end Go.Proofs.YtmihiknebelkbaaGreat.Frm
namespace Go.Proofs.YtmihiknebelkbaaGreat.Usr
open Go Go.RowKit Wire Rig Draw Frm
theorem isX_rv {ok:Nat→Prop} {w:World} {o f:ByteArray} {ep:Int} {A:Option Addr} {n c:Nat} {B:Option Addr} {m d:Nat} {r:Rt} (h:IsX ok w (RV o f ep A n c B m d) r):
 ∃rs ws:List ByteArray,ep=r.ep∧n=rs.length∧m=ws.length∧r=⟨o.data.toList,f.data.toList,r.ep,bl rs,bl ws⟩∧SReads w A rs∧SReads w B ws∧(rs.length≤c∧(A=none→c=0))∧(ws.length≤d∧(B=none→d=0)) ∧
  (∀b off,A=some ⟨b,off,none⟩→0<rs.length→ok b)∧(∀b off,B=some ⟨b,off,none⟩→0<ws.length→ok b):=by
 obtain⟨o',f',A',c',rs,B',d',ws,h1,h2,h3,h4,h5,h6,h7,h8⟩:=h;unfold RV at h1;injection h1 with h1
 simp only[Array.mk.injEq,List.cons.injEq,Value.string.injEq,Value.int.injEq,Value.slice.injEq,and_true,true_and]at h1;obtain⟨rfl,rfl,rfl,⟨rfl,rfl,rfl⟩,rfl,rfl,rfl⟩:=h1;exact⟨rs,ws,rfl,rfl,rfl,h2,h3,h4,h5,h6,h7,h8⟩
theorem sreads_keep {w w':World} {A:Option Addr} {ys:List ByteArray} (hs:w.heap.size≤w'.heap.size) (h:SReads w A ys) (hb:∀b off,A=some ⟨b,off,none⟩→0<ys.length→w'.heap[b]? = w.heap[b]?):SReads w' A ys:=
 (rowP A ys).dep hs h fun b h=>by
   obtain⟨h0,off,e⟩:=h;exact hb b off e h0
def rgtP (ok:Nat→Prop) (o f:ByteArray) (ep:Int) (A:Option Addr) (n c:Nat) (B:Option Addr) (m d:Nat) (r:Rt):Part where
 P w:=IsX ok w (RV o f ep A n c B m d) r;S b:=(0<n∧∃off,A=some ⟨b,off,none⟩)∨(0<m∧∃off,B=some ⟨b,off,none⟩);M _:=False;sub _ h:=h.elim
 dep hs h hb:=by
  obtain⟨rs,ws,rfl,rfl,rfl,k1,k2,k3,k4,k5,k6,k7⟩:=isX_rv h;exact⟨o,f,A,c,rs,B,d,ws,rfl,k1,sreads_keep hs k2 fun b off e h0=>hb b (.inl ⟨h0,off,e⟩),sreads_keep hs k3 fun b off e h0=>hb b (.inr ⟨h0,off,e⟩),k4,k5,k6,k7⟩
 old h b hb:=by
  obtain⟨rs,ws,rfl,rfl,rfl,k1,k2,k3,k4,k5,k6,k7⟩:=isX_rv h;rcases hb with⟨h0,off,e⟩|⟨h0,off,e⟩
  ·exact sreads_lt k2 e h0
  ·exact sreads_lt k3 e h0
theorem isX_mem {ok:Nat→Prop} {w:World} {o f:ByteArray} {ep:Int} {A:Option Addr} {n c:Nat} {B:Option Addr} {m d:Nat} {r:Rt} (h:IsX ok w (RV o f ep A n c B m d) r) {b:Nat} (hb:(rgtP ok o f ep A n c B m d r).S b):ok b:=by
 obtain⟨rs,ws,rfl,rfl,rfl,k1,k2,k3,k4,k5,k6,k7⟩:=isX_rv h;rcases hb with⟨h0,off,e⟩|⟨h0,off,e⟩
 ·exact k6 b off e h0
 ·exact k7 b off e h0
theorem isX_vals {ok:Nat→Prop} {w:World} {v:Value} {r:Rt} (h:IsX ok w v r):∃o f A c B d,v=RV o f r.ep A r.rs.length c B r.ws.length d:=by
 obtain⟨o,f,A,c,rs,B,d,ws,h1,h2,_⟩:=h;have e1:r.rs.length=rs.length:=by rw[h2,bl_len]
 have e2:r.ws.length=ws.length:=by rw[h2,bl_len]
 exact⟨o,f,A,c,B,d,by rw[e1,e2];exact h1⟩
def prsP (A:Option Addr) (ks:List (ByteArray×ByteArray)):Part where
 P w:=Mta.PReads w A ks;S b:=0<ks.length∧∃off,A=some ⟨b,off,none⟩;M _:=False;sub _ h:=h.elim
 dep hs h hb:=fun j hj=>by
  obtain⟨b,off,e,hlt,h1,h2⟩:=h j hj;have hk:=hb b ⟨by omega,off,e⟩;exact⟨b,off,e,Nat.lt_of_lt_of_le hlt hs,(World.cell?_of_block (a:=⟨b,off+j*2,none⟩) hk).trans h1,(World.cell?_of_block (a:=⟨b,off+j*2+1,none⟩) hk).trans h2⟩
 old h b hb:=by
  obtain⟨h0,off,e⟩:=hb;exact Mta.preads_lt h e h0
theorem rowK_preads {w:World} {T:TypeId} {A:Option Addr} {cap:Nat} {ks:List (ByteArray×ByteArray)} {rs:List (List Value)} (h:(rowK T 2 A cap rs).P w) (e:rs=ks.map fun y=>[.string y.1,.string y.2]):Mta.PReads w A ks:=fun j hj=>by
 subst e;have hl:(ks.map fun y=>[Value.string y.1,Value.string y.2]).length=ks.length:=List.length_map ..;obtain⟨g,rfl⟩:=rowK_some h (i:=j) (by rw[hl];exact hj)
 have hg:(ks.map fun y=>[Value.string y.1,Value.string y.2])[j]? = some [.string (ks.getD j default).1,.string (ks.getD j default).2]:=by
  rw[List.getElem?_map,List.getElem?_eq_getElem hj];simp[List.getD,hj]
 have h0:=rowK_at h hg (j:=0) (by decide);have h1:=rowK_at h hg (j:=1) (by decide);refine⟨g,0,rfl,rowK_lt h,?_,?_⟩
 ·rw[Nat.zero_add];exact h0
 ·rw[Nat.zero_add];exact h1
end Go.Proofs.YtmihiknebelkbaaGreat.Usr
namespace Go.Proofs.YtmihiknebelkbaaGreat.Mta
open Go Go.RowKit Wire Rig Frm
theorem bxn9 {w:World} {g:Nat} {v0 v1 v2 v3 v4 v5 v6 v7 v8:Value} {t:TypeId} (h:(box g #[v0,v1,v2,v3,v4,v5,v6,v7,v8] t).P w):w.cell? ⟨g,0,none⟩=some v0∧w.cell? ⟨g,1,none⟩=some v1∧w.cell? ⟨g,2,none⟩=some v2∧w.cell? ⟨g,3,none⟩=some v3∧w.cell? ⟨g,4,none⟩=some v4∧w.cell? ⟨g,5,none⟩=some v5∧w.cell? ⟨g,6,none⟩=some v6∧w.cell? ⟨g,7,none⟩=some v7∧w.cell? ⟨g,8,none⟩=some v8∧g<w.heap.size:=⟨box_at h 0,box_at h 1,box_at h 2,box_at h 3,box_at h 4,box_at h 5,box_at h 6,box_at h 7,box_at h 8,box_lt h⟩
theorem bxn16 {w:World} {g:Nat} {v0 v1 v2 v3 v4 v5 v6 v7 v8 v9 v10 v11 v12 v13 v14 v15:Value} {t:TypeId} (h:(box g #[v0,v1,v2,v3,v4,v5,v6,v7,v8,v9,v10,v11,v12,v13,v14,v15] t).P w):w.cell? ⟨g,0,none⟩=some v0∧w.cell? ⟨g,1,none⟩=some v1∧w.cell? ⟨g,2,none⟩=some v2∧w.cell? ⟨g,3,none⟩=some v3∧w.cell? ⟨g,4,none⟩=some v4∧w.cell? ⟨g,5,none⟩=some v5∧w.cell? ⟨g,6,none⟩=some v6∧w.cell? ⟨g,7,none⟩=some v7∧w.cell? ⟨g,8,none⟩=some v8∧w.cell? ⟨g,9,none⟩=some v9∧w.cell? ⟨g,10,none⟩=some v10∧w.cell? ⟨g,11,none⟩=some v11∧w.cell? ⟨g,12,none⟩=some v12∧w.cell? ⟨g,13,none⟩=some v13∧w.cell? ⟨g,14,none⟩=some v14∧w.cell? ⟨g,15,none⟩=some v15∧g<w.heap.size:=
 ⟨box_at h 0,box_at h 1,box_at h 2,box_at h 3,box_at h 4,box_at h 5,box_at h 6,box_at h 7,box_at h 8,box_at h 9,box_at h 10,box_at h 11,box_at h 12,box_at h 13,box_at h 14,box_at h 15,box_lt h⟩
def IsW (w:World) (v:Value) (m:Mt):Prop:=∃(o f sig:ByteArray) (A:Option Addr) (c:Nat) (rs:List ByteArray) (B:Option Addr) (d:Nat) (ws:List ByteArray) (V:Option Addr) (cv:Nat) (vs:List ByteArray) (K:Option Addr) (ck:Nat) (ks:List (ByteArray×ByteArray)),
 v = .agg #[.string o,.string f,.int .i64 m.r.ep,.slice A rs.length c,.slice B ws.length d,.int .u64 (m.ver:Int),.slice V vs.length cv,.slice K ks.length ck,.string sig] ∧
 m=⟨⟨o.data.toList,f.data.toList,m.r.ep,bl rs,bl ws⟩,m.ver,bl vs,pl ks,sig.data.toList⟩∧SReads w A rs∧SReads w B ws∧SReads w V vs∧PReads w K ks∧(A=none→c=0)∧(B=none→d=0)
theorem IsM.isW {ok:Nat→Prop} {w:World} {v:Value} {m:Mt} (h:IsM ok w v m):IsW w v m:=by
 obtain⟨o,f,sig,A,c,rs,B,d,ws,V,cv,vs,K,ck,ks,h1,h2,h3,h4,h5,h6,h7,h8,_⟩:=h;exact⟨o,f,sig,A,c,rs,B,d,ws,V,cv,vs,K,ck,ks,h1,h2,h3,h4,h5,h6,h7.2,h8.2⟩
theorem IsW.below {w w':World} {B:Nat} {v:Value} {m:Mt} (h:IsW w v m) (hb:Below B w w') (hB:w.heap.size≤B):IsW w' v m:=by
 obtain⟨o,f,sig,A,c,rs,B',d,ws,V,cv,vs,K,ck,ks,h1,h2,h3,h4,h5,h6,h7⟩:=h;exact⟨o,f,sig,A,c,rs,B',d,ws,V,cv,vs,K,ck,ks,h1,h2,h3.below hb hB,h4.below hb hB,h5.below hb hB,h6.below hb hB,h7⟩
theorem isW_lit {w:World} {v:Value} {m:Mt} (h:IsW w v m):∃(o f sig:ByteArray) (ep:Int) (A:Option Addr) (c:Nat) (rs:List ByteArray) (B:Option Addr) (d:Nat) (ws:List ByteArray) (ver:Nat) (V:Option Addr) (cv:Nat) (vs:List ByteArray) (K:Option Addr) (ck:Nat) (ks:List (ByteArray×ByteArray)),
 v = .agg #[.string o,.string f,.int .i64 ep,.slice A rs.length c,.slice B ws.length d,.int .u64 (ver:Int),.slice V vs.length cv,.slice K ks.length ck,.string sig] ∧
 m=⟨⟨o.data.toList,f.data.toList,ep,bl rs,bl ws⟩,ver,bl vs,pl ks,sig.data.toList⟩∧SReads w A rs∧SReads w B ws∧SReads w V vs∧PReads w K ks∧(A=none→c=0)∧(B=none→d=0):=by
 obtain⟨o,f,sig,A,c,rs,B',d,ws,V,cv,vs,K,ck,ks,h1,h2,h3⟩:=h
 exact⟨o,f,sig,m.r.ep,A,c,rs,B',d,ws,m.ver,V,cv,vs,K,ck,ks,h1,h2,h3⟩
theorem mright_w (v:Value) (m:Mt) (w:World) (h:IsW w v m) (hf:FewM m):Calls Tryz.prog 37 #[v] w fun e w'=>e = .returned (.bool (decide (MR m)))∧Below w.heap.size w w':=by
 obtain⟨o,f,sig,ep,A,c,rs,B,d,ws,ver,V,cv,vs,K,ck,ks,rfl,rfl,h3,h4,h5,h6,h7,h8⟩:=isW_lit h;exact mright_any o f sig ep A c rs B d ws ver V cv vs K ck ks w h3 h4 h5 h6 h7 h8 hf
theorem mput_w (v:Value) (m:Mt) (w:World) (h:IsW w v m) (hf:FewM m):Calls Tryz.prog 23 #[v] w fun e w'=>Srt (putM m) e∧Below w.heap.size w w':=by
 obtain⟨o,f,sig,ep,A,c,rs,B,d,ws,ver,V,cv,vs,K,ck,ks,rfl,rfl,h3,h4,h5,h6,h7,h8⟩:=isW_lit h;exact mput_any o f sig ep A c rs B d ws ver V cv vs K ck ks w h3 h4 h5 h6 h7 h8 hf
theorem msame_w (v v':Value) (m:Mt) (w:World) (h:IsW w v m) (h':IsW w v' m) (hn:m.r.rs.length≤2000000∧m.r.ws.length≤2000000∧m.vf.length≤2000000∧m.bs.length≤2000000):Calls Tryz.prog 40 #[v,v'] w fun e w'=>e = .returned (.bool true)∧Below w.heap.size w w':=by
 obtain⟨o,f,sig,ep,A,c,rs,B,d,ws,ver,V,cv,vs,K,ck,ks,rfl,rfl,h3,h4,h5,h6,h7,h8⟩:=isW_lit h;obtain⟨o',f',sig',ep',A',c',rs',B',d',ws',ver',V',cv',vs',K',ck',ks',rfl,q,h3',h4',h5',h6',h7',h8'⟩:=isW_lit h';simp only[Mt.mk.injEq,Rt.mk.injEq]at q;obtain⟨⟨q1,q2,rfl,q4,q5⟩,q6,q7,q8,q9⟩:=q;obtain rfl:=str_eq q1;obtain rfl:=str_eq q2;obtain rfl:=bl_inj q4;obtain rfl:=bl_inj q5;obtain rfl:=bl_inj q7;obtain rfl:=pl_inj q8;obtain rfl:=str_eq q9;obtain rfl:ver=ver':=q6;simp only[bl_len,pl_len]at hn;exact msame_any o f sig ep rs ws ver vs ks A c B d V cv K ck A' c' B' d' V' cv' K' ck' w h3 h4 h5 h6 h3' h4' h5' h6' hn.1 hn.2.1 hn.2.2.1 hn.2.2.2
end Go.Proofs.YtmihiknebelkbaaGreat.Mta
