/-
  Ein. By an AI agent.
-/
import Derived.Test.YtmihiknebelkbaaGreatOZ
import Derived.Test.YtmihiknebelkbaaGreatRows
import Derived.WalkKit
import Derived.Below
import Derived.SliceStrings
import Derived.SizedLaws
import Derived.ChangeSame
import Derived.Deep.Slices
import Derived.Deep.Fields
import Derived.OpenShut
import Derived.Test.YtmihiknebelkbaaGreatOJ4
set_option linter.unusedVariables false
namespace Go.Proofs.YtmihiknebelkbaaGreat.Ein
open Go Go.RowKit Go.ChangeShapes Wire Term Rig Mta Own
theorem addr_add (b off k:Nat):(⟨b,off,none⟩:Addr).add k=⟨b,off+k,none⟩:=by
 unfold Addr.add;split
 ·rename_i h0;rw[h0];rfl
 ·rfl
theorem z0 (y:Addr):y.add 0=y:=by simp[Addr.add]
theorem addr_none {w:World} {b off:Nat} {sp:_} {v:Value} (h:w.cell? ⟨b,off,sp⟩=some v):sp=none∧b<w.heap.size:=by
 unfold World.cell? at h;simp only at h;split at h
 ·rename_i h0
  refine⟨?_,(Array.getElem?_eq_some_iff.1 h0).1⟩;cases sp with
  | none=>rfl
  | some q=>simp at h
 ·cases h
section
variable {H:Type}
theorem bulk_one (d:DataW H):1≤Rows.uptoBulk d:=by
 cases d with
 | lit b=>cases b<;>simp[Rows.uptoBulk]
 | _=>simp[Rows.uptoBulk]
theorem bulk_all (ds:List (DataW H)):ds.length≤Rows.uptoBulkAll ds:=by
 induction ds with
 | nil=>exact Nat.zero_le _
 | cons d ds ih=>
  have:=bulk_one d;simp only[Rows.uptoBulkAll,List.length_cons];omega
theorem bulk_mem {ds:List (DataW H)} {d:DataW H} (h:d∈ds):Rows.uptoBulk d≤Rows.uptoBulkAll ds:=by
 induction ds with
 | nil=>cases h
 | cons x r ih=>
  simp only[Rows.uptoBulkAll];rcases List.mem_cons.1 h with rfl|h
  ·omega
  ·have:=ih h;omega
theorem bulk_str (s:ByteArray):s.size≤Rows.uptoBulk (H:=H) (.lit (.string s.data.toList)):=by
 simp only[Rows.uptoBulk,Lib.size_eq];omega
variable {enc:TypeId×Value→H} {w:World} {base:Nat} {held:Bool}
theorem strs_up {fuel:Nat} {v:Value} {y:DataW H×List MemPlace} (h:DataW.trod enc Tryz.prog w base (fun _=>true) held fuel 22 [v]=some y):∃(A:Option Addr) (c:Nat) (zs:List ByteArray),v = .slice A zs.length c∧SReads w A zs∧(A=none→c=0)∧zs.length≤Rows.uptoBulk y.1∧∀z∈zs,z.size≤Rows.uptoBulk y.1:=by
 rcases open_strings Tryz.underlying22 Tryz.underlying9 (by kernel_rfl) h with⟨hcs,_⟩|⟨x,l,c,zs,hcs,_,hl,hm,hz,hy,hcell,hsz⟩
 ·exact⟨none,0,[],(List.cons.inj hcs).1,SReads.nil _ _,fun _=>rfl,Nat.zero_le _,fun z h=>by cases h⟩
 ·have hz2:zs.length=c:=by simpa using hz
  obtain⟨ys,h1,_,_,h4,_⟩:=Wire.sreads_of (w:=w) (a:=some x) (len:=l) (cap:=c) (zs:=zs) (.inr ⟨x,rfl,hl,hm,hz2,hcell,hsz⟩)
  have hb:Rows.uptoBulkAll (strs (H:=H) (zs.take l))≤Rows.uptoBulk y.1:=by
   rw[hy];simp only[Rows.uptoBulk];omega
  have hn:=bulk_all (strs (H:=H) (zs.take l));rw[show(strs (H:=H) (zs.take l)).length=l by simp[strs];omega]at hn;refine⟨some x,c,ys,by rw[h1];exact(List.cons.inj hcs).1,h4,fun e=>(by cases e),by omega,fun z hzm=>?_⟩;obtain⟨j,hj,rfl⟩:=List.getElem_of_mem hzm;obtain⟨b,off,e,_,hc⟩:=h4 j hj;obtain rfl:=Option.some.inj e;have hc2:=hcell j (by omega);rw[addr_add,hc]at hc2
  have hg:ys[j]=zs[j]:=by
   have:=Option.some.inj hc2;injection this with this
   rwa [List.getD_eq_getElem?_getD,List.getD_eq_getElem?_getD,List.getElem?_eq_getElem hj,List.getElem?_eq_getElem (by omega)]at this
  rw[hg];have hm2:(DataW.lit (.string zs[j].data.toList):DataW H)∈strs (zs.take l):=List.mem_map.2 ⟨zs[j],List.mem_take_iff_getElem.2 ⟨j,by omega,rfl⟩,rfl⟩;have:=bulk_mem hm2;have:=bulk_str (H:=H) zs[j];omega
set_option maxRecDepth 1000000 in
theorem block_up {fuel:Nat} {cs:List Value} {x:DataW H×List MemPlace} (h:DataW.trod enc Tryz.prog w base (fun _=>true) held fuel 55 cs=some x):
 ∃U B:ByteArray,cs = [.string U,.string B]∧U.size≤Rows.uptoBulk x.1∧B.size≤Rows.uptoBulk x.1:=by
 obtain⟨xs,k,_,rfl,hl,hxl,hf⟩:=DataW.trod_struct Tryz.underlying55 h;rw[show Tryz.prog.cellsOf 55=2 by kernel_rfl]at hl;have c9:Tryz.prog.cellsOf 9=1:=by kernel_rfl
 have hx2:xs.length=2:=hxl;match cs,hl with
 | [v0,v1],_=>
  match xs,hx2 with
  | [y0,y1],_=>
   have h0:DataW.trod enc Tryz.prog w base (fun _=>true) held k 9 [v0]=some y0:=by have:=hf 0 _ rfl;simpa[c9]using this
   have h1:DataW.trod enc Tryz.prog w base (fun _=>true) held k 9 [v1]=some y1:=by have:=hf 1 _ rfl;simpa[c9]using this
   obtain⟨U,e0,r0,_⟩:=DataW.trod_string Tryz.underlying9 h0;obtain⟨B,e1,r1,_⟩:=DataW.trod_string Tryz.underlying9 h1;obtain rfl:=(List.cons.inj e0).1;obtain rfl:=(List.cons.inj e1).1;subst r0;subst r1;have q0:=bulk_str (H:=H) U;have q1:=bulk_str (H:=H) B;refine⟨U,B,rfl,?_,?_⟩<;>(simp only[List.map_cons,List.map_nil,Rows.uptoBulk,Rows.uptoBulkAll]at q0 q1⊢;omega)
set_option maxRecDepth 1000000 in
theorem blocks_up {fuel:Nat} {v:Value} {y:DataW H×List MemPlace} (h:DataW.trod enc Tryz.prog w base (fun _=>true) held fuel 26 [v]=some y):∃(K:Option Addr) (ck:Nat) (ks:List (ByteArray×ByteArray)),v = .slice K ks.length ck∧PReads w K ks∧ks.length≤Rows.uptoBulk y.1∧∀z∈ks,z.1.size≤Rows.uptoBulk y.1∧z.2.size≤Rows.uptoBulk y.1:=by
 rcases Go.Deep.open_slice Tryz.underlying26 h with⟨h0,_⟩|⟨b,l,c,m,n,D,Pl,hcs,_,hl,hm,hmm,hx,hi⟩
 ·exact⟨none,0,[],(List.cons.inj h0).1,PReads.nil _ _,Nat.zero_le _,fun z h=>by cases h⟩
 have hlm:l≤m:=by rw[hmm];split<;>omega
 have cA:Tryz.prog.cellsOf 55=2:=by kernel_rfl
 have hb:Rows.uptoBulkAll ((List.range l).map D)≤Rows.uptoBulk y.1:=by
  rw[hx];simp only[Rows.uptoBulk];omega
 have hn:=bulk_all ((List.range l).map D);rw[show((List.range l).map D).length=l by simp]at hn;by_cases hl0:l=0
 ·subst hl0
  exact⟨some b,c,[],(List.cons.inj hcs).1,PReads.nil _ _,Nat.zero_le _,fun z h=>by cases h⟩
 obtain⟨bb,off,sp⟩:=b
 obtain⟨rfl,hlt⟩:sp=none∧bb<w.heap.size:=by
  obtain⟨cs',h1,h2⟩:=hi 0 (by omega);rw[cA]at h1;obtain⟨_,hlen,hcell⟩:=World.cells?_some h1;obtain⟨U,B,rfl,_⟩:=block_up h2;have c0:=hcell 0 (by omega);rw[Nat.zero_mul,z0,z0]at c0;exact addr_none (c0.trans rfl)
 have key:∀i,∃z:ByteArray×ByteArray,i<l→(w.cell? ⟨bb,off+i*2,none⟩=some (.string z.1)∧w.cell? ⟨bb,off+i*2+1,none⟩=some (.string z.2))∧z.1.size≤Rows.uptoBulk y.1∧z.2.size≤Rows.uptoBulk y.1:=by
  intro i;by_cases hil:i<l
  ·obtain⟨cs',h1,h2⟩:=hi i (by omega)
   rw[cA]at h1;obtain⟨_,hlen,hcell⟩:=World.cells?_some h1;obtain⟨U,B,rfl,hU,hB⟩:=block_up h2;have hU:U.size≤Rows.uptoBulk (D i):=hU;have hB:B.size≤Rows.uptoBulk (D i):=hB;have hD:=bulk_mem (List.mem_map.2 ⟨i,List.mem_range.2 hil,rfl⟩:D i∈(List.range l).map D);have c0:=hcell 0 (by omega);have c1:=hcell 1 (by omega);rw[addr_add,addr_add]at c0 c1;exact⟨(U,B),fun _=>⟨⟨c0,c1⟩,by show U.size≤_;omega,by show B.size≤_;omega⟩⟩
  ·exact⟨default,fun h=>absurd h hil⟩
 refine⟨some ⟨bb,off,none⟩,c,(List.range l).map fun i=>Classical.choose (key i),by simpa using(List.cons.inj hcs).1,fun j hj=>?_,by simpa using(by omega:l≤Rows.uptoBulk y.1),fun z hz=>?_⟩
 ·have hj2:j<l:=by simpa using hj
  have h1:=(Classical.choose_spec (key j) hj2).1
  have hg:((List.range l).map fun i=>Classical.choose (key i)).getD j default=Classical.choose (key j):=by
   rw[List.getD_eq_getElem?_getD,List.getElem?_eq_getElem hj];simp
  exact⟨bb,off,rfl,hlt,by rw[hg];exact h1.1,by rw[hg];exact h1.2⟩
 ·obtain⟨i,hil,rfl⟩:=List.mem_map.1 hz
  exact(Classical.choose_spec (key i) (List.mem_range.1 hil)).2
set_option maxRecDepth 1000000 in
theorem rights_up {fuel:Nat} {cs:List Value} {x:DataW H×List MemPlace} (h:DataW.trod enc Tryz.prog w base (fun _=>true) held fuel 24 cs=some x):
 ∃(o f:ByteArray) (ep:Int) (A:Option Addr) (c:Nat) (rs:List ByteArray) (B:Option Addr) (d:Nat) (ws:List ByteArray),cs = [.string o,.string f,.int .i64 ep,.slice A rs.length c,.slice B ws.length d]∧(SReads w A rs∧SReads w B ws∧(A=none→c=0)∧(B=none→d=0))∧(-9223372036854775808≤ep∧ep≤9223372036854775807)∧o.size≤Rows.uptoBulk x.1∧f.size≤Rows.uptoBulk x.1∧rs.length≤Rows.uptoBulk x.1∧ws.length≤Rows.uptoBulk x.1∧(∀z∈rs,z.size≤Rows.uptoBulk x.1)∧∀z∈ws,z.size≤Rows.uptoBulk x.1:=by
 obtain⟨xs,k,_,rfl,hl,hxl,hf⟩:=DataW.trod_struct Tryz.underlying24 h;rw[show Tryz.prog.cellsOf 24=5 by kernel_rfl]at hl;have c9:Tryz.prog.cellsOf 9=1:=by kernel_rfl
 have c3:Tryz.prog.cellsOf 3=1:=by kernel_rfl
 have c22:Tryz.prog.cellsOf 22=1:=by kernel_rfl
 have hxn:xs.length=5:=hxl;match cs,hl with
 | [v0,v1,v2,v3,v4],_=>
  match xs,hxn with
  | [y0,y1,y2,y3,y4],_=>
   have h0:DataW.trod enc Tryz.prog w base (fun _=>true) held k 9 [v0]=some y0:=by have:=hf 0 _ rfl;simpa[c9,c3,c22]using this
   have h1:DataW.trod enc Tryz.prog w base (fun _=>true) held k 9 [v1]=some y1:=by have:=hf 1 _ rfl;simpa[c9,c3,c22]using this
   have h2:DataW.trod enc Tryz.prog w base (fun _=>true) held k 3 [v2]=some y2:=by have:=hf 2 _ rfl;simpa[c9,c3,c22]using this
   have h3:DataW.trod enc Tryz.prog w base (fun _=>true) held k 22 [v3]=some y3:=by have:=hf 3 _ rfl;simpa[c9,c3,c22]using this
   have h4:DataW.trod enc Tryz.prog w base (fun _=>true) held k 22 [v4]=some y4:=by have:=hf 4 _ rfl;simpa[c9,c3,c22]using this
   have hN:∀y∈[y0,y1,y2,y3,y4],Rows.uptoBulk (Prod.fst y)≤Rows.uptoBulk (.agg (List.map Prod.fst [y0,y1,y2,y3,y4])):=fun y hy=>by
    have:=bulk_mem (List.mem_map.2 ⟨y,hy,rfl⟩:y.1∈List.map Prod.fst [y0,y1,y2,y3,y4]);simp only[Rows.uptoBulk];omega
   have n0:=hN y0 (by simp);have n1:=hN y1 (by simp);have n2:=hN y2 (by simp);have n3:=hN y3 (by simp);have n4:=hN y4 (by simp);clear hN hf;obtain⟨o,e0,r0,_⟩:=DataW.trod_string Tryz.underlying9 h0;obtain⟨f,e1,r1,_⟩:=DataW.trod_string Tryz.underlying9 h1;obtain⟨ep,e2,_,hw⟩:=DataW.trod_int Tryz.underlying3 h2;obtain⟨A,c,rs,rfl,a1,a2,a3,a4⟩:=strs_up h3;obtain⟨B,d,ws,rfl,b1,b2,b3,b4⟩:=strs_up h4;obtain rfl:=(List.cons.inj e0).1;obtain rfl:=(List.cons.inj e1).1;obtain rfl:=(List.cons.inj e2).1;have q0:o.size≤_:=Nat.le_trans (show o.size≤Rows.uptoBulk y0.1 by rw[r0];exact bulk_str o) n0;have q1:f.size≤_:=Nat.le_trans (show f.size≤Rows.uptoBulk y1.1 by rw[r1];exact bulk_str f) n1;exact⟨o,f,ep,A,c,rs,B,d,ws,rfl,⟨a1,b1,a2,b2⟩,Wire.int_i64 hw,q0,q1,Nat.le_trans a3 n3,Nat.le_trans b3 n4,fun z hz=>Nat.le_trans (a4 z hz) n3,fun z hz=>Nat.le_trans (b4 z hz) n4⟩
set_option maxRecDepth 1000000 in
theorem stamp_up {fuel:Nat} {cs:List Value} {x:DataW H×List MemPlace} (h:DataW.trod enc Tryz.prog w base (fun _=>true) held fuel 30 cs=some x):
 ∃(O:ByteArray) (t:Nat) (m:Int) (R G:ByteArray),cs = [.string O,.int .u64 (t:Int),.int .i64 m,.string R,.string G]∧t<18446744073709551616∧O.size≤Rows.uptoBulk x.1∧R.size≤Rows.uptoBulk x.1∧G.size≤Rows.uptoBulk x.1:=by
 obtain⟨xs,k,_,rfl,hl,hxl,hf⟩:=DataW.trod_struct Tryz.underlying30 h;rw[show Tryz.prog.cellsOf 30=5 by kernel_rfl]at hl;have c9:Tryz.prog.cellsOf 9=1:=by kernel_rfl
 have c3:Tryz.prog.cellsOf 3=1:=by kernel_rfl
 have c8:Tryz.prog.cellsOf 25=1:=by kernel_rfl
 have hxn:xs.length=5:=hxl;match cs,hl with
 | [v0,v1,v2,v3,v4],_=>
  match xs,hxn with
  | [y0,y1,y2,y3,y4],_=>
   have h0:DataW.trod enc Tryz.prog w base (fun _=>true) held k 9 [v0]=some y0:=by have:=hf 0 _ rfl;simpa[c9,c3,c8]using this
   have h1:DataW.trod enc Tryz.prog w base (fun _=>true) held k 25 [v1]=some y1:=by have:=hf 1 _ rfl;simpa[c9,c3,c8]using this
   have h2:DataW.trod enc Tryz.prog w base (fun _=>true) held k 3 [v2]=some y2:=by have:=hf 2 _ rfl;simpa[c9,c3,c8]using this
   have h3:DataW.trod enc Tryz.prog w base (fun _=>true) held k 9 [v3]=some y3:=by have:=hf 3 _ rfl;simpa[c9,c3,c8]using this
   have h4:DataW.trod enc Tryz.prog w base (fun _=>true) held k 9 [v4]=some y4:=by have:=hf 4 _ rfl;simpa[c9,c3,c8]using this
   have hN:∀y∈[y0,y1,y2,y3,y4],Rows.uptoBulk (Prod.fst y)≤Rows.uptoBulk (.agg (List.map Prod.fst [y0,y1,y2,y3,y4])):=fun y hy=>by
    have:=bulk_mem (List.mem_map.2 ⟨y,hy,rfl⟩:y.1∈List.map Prod.fst [y0,y1,y2,y3,y4]);simp only[Rows.uptoBulk];omega
   have n0:=hN y0 (by simp);have n1:=hN y1 (by simp);have n2:=hN y2 (by simp);have n3:=hN y3 (by simp);have n4:=hN y4 (by simp);clear hN hf;obtain⟨O,e0,r0,_⟩:=DataW.trod_string Tryz.underlying9 h0;obtain⟨t,e1,_,hw1⟩:=DataW.trod_int Tryz.underlying25 h1;obtain⟨m,e2,_,hw2⟩:=DataW.trod_int Tryz.underlying3 h2;obtain⟨R,e3,r3,_⟩:=DataW.trod_string Tryz.underlying9 h3;obtain⟨G,e4,r4,_⟩:=DataW.trod_string Tryz.underlying9 h4;obtain rfl:=(List.cons.inj e0).1;obtain rfl:=(List.cons.inj e1).1;obtain rfl:=(List.cons.inj e2).1;obtain rfl:=(List.cons.inj e3).1;obtain rfl:=(List.cons.inj e4).1;obtain⟨tn,rfl,ht⟩:=Wire.nat_u64 hw1;exact⟨O,tn,m,R,G,rfl,ht,Nat.le_trans (show O.size≤Rows.uptoBulk y0.1 by rw[r0];exact bulk_str O) n0,Nat.le_trans (show R.size≤Rows.uptoBulk y3.1 by rw[r3];exact bulk_str R) n3,Nat.le_trans (show G.size≤Rows.uptoBulk y4.1 by rw[r4];exact bulk_str G) n4⟩
structure UpM (m:Mt) (N:Nat):Prop where
 o:m.r.o.length≤N
 f:m.r.f.length≤N
 nr:m.r.rs.length≤N
 nw:m.r.ws.length≤N
 rs:∀t∈m.r.rs,t.length≤N
 ws:∀t∈m.r.ws,t.length≤N
 ep:-9223372036854775808≤m.r.ep∧m.r.ep≤9223372036854775807
 nv:m.vf.length≤N
 vf:∀t∈m.vf,t.length≤N
 nb:m.bs.length≤N
 bs:∀b∈m.bs,b.1.length≤N∧b.2.length≤N
 sig:m.sig.length≤N
 ver:m.ver<18446744073709551616
structure UpE (e:Env) (N:Nat):Prop where
 m:UpM e.m N
 own:e.s.own.length≤N
 root:e.s.root.length≤N
 sig:e.s.sig.length≤N
 time:e.s.time<18446744073709551616
 np:e.pf.length≤N
 pf:∀t∈e.pf,t.length≤N
 i:-9223372036854775808≤e.i∧e.i≤9223372036854775807
theorem bl_le {l:List ByteArray} {N:Nat} (h:∀z∈l,z.size≤N):∀t∈bl l,t.length≤N:=fun t ht=>by
 obtain⟨z,hz,rfl⟩:=List.mem_map.1 ht;rw[←Lib.size_eq];exact h z hz
theorem UpM.mono {m:Mt} {N M:Nat} (h:UpM m N) (hn:N≤M):UpM m M:=
 ⟨Nat.le_trans h.o hn,Nat.le_trans h.f hn,Nat.le_trans h.nr hn,Nat.le_trans h.nw hn,fun t ht=>Nat.le_trans (h.rs t ht) hn,fun t ht=>Nat.le_trans (h.ws t ht) hn,h.ep,Nat.le_trans h.nv hn,fun t ht=>Nat.le_trans (h.vf t ht) hn,Nat.le_trans h.nb hn,fun b hb=>⟨Nat.le_trans (h.bs b hb).1 hn,Nat.le_trans (h.bs b hb).2 hn⟩,Nat.le_trans h.sig hn,h.ver⟩
theorem UpE.mono {e:Env} {N M:Nat} (h:UpE e N) (hn:N≤M):UpE e M:=
 ⟨h.m.mono hn,Nat.le_trans h.own hn,Nat.le_trans h.root hn,Nat.le_trans h.sig hn,h.time,Nat.le_trans h.np hn,fun t ht=>Nat.le_trans (h.pf t ht) hn,h.i⟩
set_option maxRecDepth 1000000 in
theorem meta_up {fuel:Nat} {cs:List Value} {x:DataW H×List MemPlace} (h:DataW.trod enc Tryz.prog w base (fun _=>true) held fuel 28 cs=some x):
 ∃M:Mt,IsW w (.agg cs.toArray) M∧UpM M (Rows.uptoBulk x.1):=by
 obtain⟨xs,k,_,rfl,hl,hxl,hf⟩:=DataW.trod_struct Tryz.underlying28 h;rw[show Tryz.prog.cellsOf 28=9 by kernel_rfl]at hl;have cR:Tryz.prog.cellsOf 24=5:=by kernel_rfl
 have c9:Tryz.prog.cellsOf 9=1:=by kernel_rfl
 have c8:Tryz.prog.cellsOf 25=1:=by kernel_rfl
 have c22:Tryz.prog.cellsOf 22=1:=by kernel_rfl
 have cB:Tryz.prog.cellsOf 26=1:=by kernel_rfl
 have hxn:xs.length=5:=hxl;match cs,hl with
 | [v0,v1,v2,v3,v4,v5,v6,v7,v8],_=>
  match xs,hxn with
  | [y0,y1,y2,y3,y4],_=>
   have h0:DataW.trod enc Tryz.prog w base (fun _=>true) held k 24 [v0,v1,v2,v3,v4]=some y0:=by have:=hf 0 _ rfl;simpa[cR,c9,c8,c22,cB]using this
   have h1:DataW.trod enc Tryz.prog w base (fun _=>true) held k 25 [v5]=some y1:=by have:=hf 1 _ rfl;simpa[cR,c9,c8,c22,cB]using this
   have h2:DataW.trod enc Tryz.prog w base (fun _=>true) held k 22 [v6]=some y2:=by have:=hf 2 _ rfl;simpa[cR,c9,c8,c22,cB]using this
   have h3:DataW.trod enc Tryz.prog w base (fun _=>true) held k 26 [v7]=some y3:=by have:=hf 3 _ rfl;simpa[cR,c9,c8,c22,cB]using this
   have h4:DataW.trod enc Tryz.prog w base (fun _=>true) held k 9 [v8]=some y4:=by have:=hf 4 _ rfl;simpa[cR,c9,c8,c22,cB]using this
   have hN:∀y∈[y0,y1,y2,y3,y4],Rows.uptoBulk (Prod.fst y)≤Rows.uptoBulk (.agg (List.map Prod.fst [y0,y1,y2,y3,y4])):=fun y hy=>by
    have:=bulk_mem (List.mem_map.2 ⟨y,hy,rfl⟩:y.1∈List.map Prod.fst [y0,y1,y2,y3,y4]);simp only[Rows.uptoBulk];omega
   have n0:=hN y0 (by simp);have n1:=hN y1 (by simp);have n2:=hN y2 (by simp);have n3:=hN y3 (by simp);have n4:=hN y4 (by simp);clear hN hf;obtain⟨o,f,ep,A,c,rs,B,d,ws,hcs,⟨a1,a2,a3,a4⟩,hep,b1,b2,b3,b4,b5,b6⟩:=rights_up h0;obtain⟨rfl,rfl,rfl,rfl,rfl⟩:v0 = .string o∧v1 = .string f∧v2 = .int .i64 ep∧v3 = .slice A rs.length c∧v4 = .slice B ws.length d:=by simpa using hcs
   obtain⟨ver,e1,_,hw1⟩:=DataW.trod_int Tryz.underlying25 h1;obtain⟨V,cv,vs,rfl,d1,d2,d3,d4⟩:=strs_up h2;obtain⟨K,ck,ks,rfl,f1,f2,f3⟩:=blocks_up h3;obtain⟨sig,e4,r4,_⟩:=DataW.trod_string Tryz.underlying9 h4;obtain rfl:=(List.cons.inj e1).1;obtain rfl:=(List.cons.inj e4).1;obtain⟨vn,rfl,hv⟩:=Wire.nat_u64 hw1;have q4:sig.size≤_:=Nat.le_trans (show sig.size≤Rows.uptoBulk y4.1 by rw[r4];exact bulk_str sig) n4;refine⟨⟨⟨o.data.toList,f.data.toList,ep,bl rs,bl ws⟩,vn,bl vs,pl ks,sig.data.toList⟩,⟨o,f,sig,A,c,rs,B,d,ws,V,cv,vs,K,ck,ks,rfl,rfl,a1,a2,d1,f1,a3,a4⟩,?_⟩
   exact⟨by show o.data.toList.length≤_;rw[←Lib.size_eq];exact Nat.le_trans b1 n0,by show f.data.toList.length≤_;rw[←Lib.size_eq];exact Nat.le_trans b2 n0,by show(bl rs).length≤_;rw[bl_len];exact Nat.le_trans b3 n0,by show(bl ws).length≤_;rw[bl_len];exact Nat.le_trans b4 n0,
    bl_le fun z hz=>Nat.le_trans (b5 z hz) n0,bl_le fun z hz=>Nat.le_trans (b6 z hz) n0,hep,by show(bl vs).length≤_;rw[bl_len];exact Nat.le_trans d3 n2,bl_le fun z hz=>Nat.le_trans (d4 z hz) n2,
    by show(pl ks).length≤_;rw[pl,List.length_map];exact Nat.le_trans f2 n3,fun b hb=>by
     obtain⟨z,hz,rfl⟩:=List.mem_map.1 hb;have:=f3 z hz
     exact⟨by show z.1.data.toList.length≤_;rw[←Lib.size_eq];exact Nat.le_trans this.1 n3,by show z.2.data.toList.length≤_;rw[←Lib.size_eq];exact Nat.le_trans this.2 n3⟩,by show sig.data.toList.length≤_;rw[←Lib.size_eq];exact q4,hv⟩
set_option maxRecDepth 1000000 in
theorem env_up {fuel:Nat} {cs:List Value} {x:DataW H×List MemPlace} (h:DataW.trod enc Tryz.prog w base (fun _=>true) held fuel 32 cs=some x):
 ∃e:Env,IsE w (.agg cs.toArray) e∧UpE e (Rows.uptoBulk x.1):=by
 obtain⟨xs,k,_,rfl,hl,hxl,hf⟩:=DataW.trod_struct Tryz.underlying32 h;rw[show Tryz.prog.cellsOf 32=16 by kernel_rfl]at hl;have cM:Tryz.prog.cellsOf 28=9:=by kernel_rfl
 have cS:Tryz.prog.cellsOf 30=5:=by kernel_rfl
 have c3:Tryz.prog.cellsOf 3=1:=by kernel_rfl
 have c22:Tryz.prog.cellsOf 22=1:=by kernel_rfl
 have hxn:xs.length=4:=hxl;match cs,hl with
 | [v0,v1,v2,v3,v4,v5,v6,v7,v8,v9,v10,v11,v12,v13,v14,v15],_=>
  match xs,hxn with
  | [y0,y1,y2,y3],_=>
   have h0:DataW.trod enc Tryz.prog w base (fun _=>true) held k 28 [v0,v1,v2,v3,v4,v5,v6,v7,v8]=some y0:=by have:=hf 0 _ rfl;simpa[cM,cS,c3,c22]using this
   have h1:DataW.trod enc Tryz.prog w base (fun _=>true) held k 30 [v9,v10,v11,v12,v13]=some y1:=by have:=hf 1 _ rfl;simpa[cM,cS,c3,c22]using this
   have h2:DataW.trod enc Tryz.prog w base (fun _=>true) held k 3 [v14]=some y2:=by have:=hf 2 _ rfl;simpa[cM,cS,c3,c22]using this
   have h3:DataW.trod enc Tryz.prog w base (fun _=>true) held k 22 [v15]=some y3:=by have:=hf 3 _ rfl;simpa[cM,cS,c3,c22]using this
   have hN:∀y∈[y0,y1,y2,y3],Rows.uptoBulk (Prod.fst y)≤Rows.uptoBulk (.agg (List.map Prod.fst [y0,y1,y2,y3])):=fun y hy=>by
    have:=bulk_mem (List.mem_map.2 ⟨y,hy,rfl⟩:y.1∈List.map Prod.fst [y0,y1,y2,y3]);simp only[Rows.uptoBulk];omega
   have n0:=hN y0 (by simp);have n1:=hN y1 (by simp);have n2:=hN y2 (by simp);have n3:=hN y3 (by simp);clear hN hf;obtain⟨M,hm,hM⟩:=meta_up h0;obtain⟨O,t,m,R,G,hcs,ht,b1,b2,b3⟩:=stamp_up h1;obtain⟨rfl,rfl,rfl,rfl,rfl⟩:v9 = .string O∧v10 = .int .u64 (t:Int)∧v11 = .int .i64 m∧v12 = .string R∧v13 = .string G:=by simpa using hcs
   obtain⟨i,e2,_,hw2⟩:=DataW.trod_int Tryz.underlying3 h2;obtain⟨P,cp,ps,rfl,d1,d2,d3,d4⟩:=strs_up h3;obtain rfl:=(List.cons.inj e2).1;refine⟨⟨M,⟨O.data.toList,t,m,R.data.toList,G.data.toList⟩,i,bl ps⟩,⟨[v0,v1,v2,v3,v4,v5,v6,v7,v8],O,R,G,P,cp,ps,rfl,hm,rfl,rfl,rfl,d1,rfl⟩,?_⟩;exact⟨hM.mono n0,by show O.data.toList.length≤_;rw[←Lib.size_eq];exact Nat.le_trans b1 n1,by show R.data.toList.length≤_;rw[←Lib.size_eq];exact Nat.le_trans b2 n1,by show G.data.toList.length≤_;rw[←Lib.size_eq];exact Nat.le_trans b3 n1,ht,by show(bl ps).length≤_;rw[bl_len];exact Nat.le_trans d3 n3,bl_le fun z hz=>Nat.le_trans (d4 z hz) n3,Wire.int_i64 hw2⟩
theorem up_few {e:Env} (h:UpE e 1048576) (h1:e.m.vf.length≤20∧e.m.bs.length≤20∧e.m.r.rs.length+e.m.r.ws.length≤20∧e.pf.length≤20):FewE e:=by
 obtain⟨hm,a1,a2,a3,a4,a5,a6,a7⟩:=h;obtain⟨b1,b2,b3,b4,b5,b6,b7,b8,b9,b10,b11,b12,b13⟩:=hm;exact⟨⟨⟨by omega,by omega,by omega,by omega,fun x hx=>by have:=b5 x hx;omega,fun x hx=>by have:=b6 x hx;omega,b7⟩,by omega,by omega,fun t ht=>by have:=b9 t ht;omega,fun b hb=>by have:=b11 b hb;omega,by omega,b13⟩,by omega,by omega,by omega,a4,by omega,fun t ht=>by have:=a6 t ht;omega,a7⟩
end
end Go.Proofs.YtmihiknebelkbaaGreat.Ein
