/-
  D1, MPure, MMem, MApp. By an AI agent.
-/
import Derived.Test.YtmihiknebelkbaaGreatOZ
import Derived.Laws.Bits64
import Derived.Test.YtmihiknebelkbaaGreatOT1
import Derived.Test.YtmihiknebelkbaaGreatOH1
import Derived.Laws.AppendOwnNone
namespace Go.Proofs.YtmihiknebelkbaaGreat.Clo
open Wire Term
def pts (t:List UInt8):List (List UInt8):=(parts t).1
def TogN (S:List UInt8→Prop):Nat→List UInt8→Prop
 | 0,_=>False
 | n+1,t=>S t∨t.headD 0=116∨(t.headD 0≠97∧∀p∈pts t,TogN S n p)
def Tog (S:List UInt8→Prop) (t:List UInt8):Prop:=TogN S (t.length+1) t
def Gives (S:List UInt8→Prop) (t x:List UInt8):Prop:=
 (t.headD 0=112∧x∈pts t)∨(t.headD 0=103∧x∈(pts t).drop 1)∨(t.headD 0=115∧Tog S ((pts t).headD [])∧x∈(pts t).drop 1)∨(t.headD 0=98∧Tog S ((pts t).headD []).tail∧x∈(pts t).drop 1)
open Op (bytesLess)
end Go.Proofs.YtmihiknebelkbaaGreat.Clo
namespace Go.Proofs.YtmihiknebelkbaaGreat.Draw
open Wire Term
end Go.Proofs.YtmihiknebelkbaaGreat.Draw
namespace Go.Proofs.YtmihiknebelkbaaGreat.Draw
open Wire Term Clo
def txt (use who:List UInt8):List UInt8:=116::putText (use++58::who)
def prs (use who:List UInt8) (n:Nat):List UInt8:=112::(txt use who++ofAtom n)
def sech (use who:List UInt8) (n:Nat):List UInt8:=104::prs use who n
end Go.Proofs.YtmihiknebelkbaaGreat.Draw
namespace Go.Proofs.YtmihiknebelkbaaGreat.Draw
open Wire Term Clo
end Go.Proofs.YtmihiknebelkbaaGreat.Draw
namespace Go.Proofs.YtmihiknebelkbaaGreat.Draw
open Go.RowKit Wire Term Clo
end Go.Proofs.YtmihiknebelkbaaGreat.Draw
namespace Go.Proofs.YtmihiknebelkbaaGreat.Draw
open Go.RowKit Wire Term Clo
end Go.Proofs.YtmihiknebelkbaaGreat.Draw
namespace Go.Proofs.YtmihiknebelkbaaGreat.Reg
open Wire Term Clo Draw
def hs (k:Nat) (t:List UInt8):List UInt8:=List.replicate k 104++t
def backN (t:List UInt8) (k:Nat):List UInt8×Int:=if right (hs k t)=true then(hs k t,0)else([],10)
def state (t:List UInt8) (ep:Int):List UInt8×Int:=if right t=true then(if 0≤ep∧ep≤7 then backN t (7-ep).toNat else([],9))else([],1)
def keyT:List UInt8:=[116,1,3,107,101,121]
def keyp (t:List UInt8):List UInt8:=112::(keyT++t)
def keyh (t:List UInt8):List UInt8:=104::keyp t
def key (t:List UInt8):List UInt8×Int:=if right t=true then(if right (keyp t)=true then made (keyh t)else([],10))else([],1)
end Go.Proofs.YtmihiknebelkbaaGreat.Reg
namespace Go.Proofs.YtmihiknebelkbaaGreat.Reg
open Go.RowKit Wire Term Clo Draw
theorem Bel.call {w0 w1 w2:World} (h:Below w0.heap.size w0 w1) (h2:Below w1.heap.size w1 w2):Below w0.heap.size w0 w2:=h.trans (h2.mono h.size)
end Go.Proofs.YtmihiknebelkbaaGreat.Reg
namespace Go.Proofs.YtmihiknebelkbaaGreat.Mta
open Wire Term Rig
def sort:List Tm→List Tm
 | []=>[]
 | x::l=>ins x (sort l)
theorem mem_sort {x:Tm}:∀{l:List Tm},x∈sort l↔x∈l
 | []=>Iff.rfl
 | y::l=>by
  show x∈ins y (sort l)↔_
  rw[mem_ins,mem_sort,List.mem_cons]
theorem sort_len:∀{l:List Tm},(sort l).length=l.length
 | []=>rfl
 | y::l=>by
  show(ins y (sort l)).length=_;rw[ins_len,sort_len,List.length_cons]
theorem lsd_sort {o:Tm}:∀{l:List Tm},(∀x∈l,nm x=true∧x≠o)→l.Nodup→Lsd o (sort l)
 | [],_,_=>lsd_nil o
 | y::l,h,hn=>by
  obtain⟨h1,h2⟩:=List.nodup_cons.1 hn;exact lsd_ins (h y (by simp)).1 (h y (by simp)).2 (lsd_sort (fun x hx=>h x (by simp[hx])) h2) (fun hm=>h1 (mem_sort.1 hm))
def oth (r:Rt):List Tm:=sort (r.rs++r.ws)
theorem lsd_nodup {o:Tm} {l:List Tm} (h:Lsd o l):l.Nodup:=h.2.imp fun {a b} hab e=>by rw[e,lt_irrefl]at hab;cases hab
theorem oth_nodup {r:Rt} (h:RR r):(r.rs++r.ws).Nodup:=by
 obtain⟨_,_,_,_,a5,a6,a7⟩:=h;exact List.nodup_append.2 ⟨lsd_nodup a5,lsd_nodup a6,fun a ha b hb e=>a7 a ha (by rw[e];exact hb)⟩
theorem oth_names {r:Rt} (h:RR r):∀x∈r.rs++r.ws,nm x=true∧x≠r.o:=fun x hx=>by
 obtain⟨_,_,_,_,a5,a6,_⟩:=h;rcases List.mem_append.1 hx with hx|hx
 ·exact a5.1 x hx
 ·exact a6.1 x hx
theorem lsd_oth {r:Rt} (h:RR r):Lsd r.o (oth r):=lsd_sort (oth_names h) (oth_nodup h)
theorem mem_oth {r:Rt} {x:Tm}:x∈oth r↔x∈r.rs∨x∈r.ws:=by unfold oth;rw[mem_sort,List.mem_append]
theorem oth_len (r:Rt):(oth r).length=r.rs.length+r.ws.length:=by unfold oth;rw[sort_len,List.length_append]
theorem oth_is {r:Rt} (h:RR r) {l:List Tm} (hl:l.Pairwise fun a b=>lt a b=true) (hm:∀x,x∈l↔x∈r.rs++r.ws):l=oth r:=
 lsd_eq (o:=r.o) ⟨fun x hx=>oth_names h x ((hm x).1 hx),hl⟩ (lsd_oth h) fun x=>by rw[hm,mem_oth,List.mem_append]
structure Mt where
 r:Rt
 ver:Nat
 vf:List Tm
 bs:List (Tm×Tm)
 sig:Tm
def mzero:Mt:=⟨zero,0,[],[],[]⟩
def Kds (k:Nat) (l:List Tm):Prop:=∀t∈l,kind t=k
instance (k:Nat) (l:List Tm):Decidable (Kds k l):=inferInstanceAs (Decidable (∀t∈l,kind t=k))
def MR (m:Mt):Prop:=RR m.r∧(m.vf.length:Int)=m.r.ep+1∧kind m.sig=103∧Kds 117 m.vf∧m.bs.map (·.1)=oth m.r∧Kds 98 (m.bs.map (·.2))
instance (m:Mt):Decidable (MR m):=inferInstanceAs (Decidable (_∧_∧_∧_∧_∧_))
def bodyB (m:Mt):Tm:=putAll [rowR m.r,put m.ver,putAll m.vf,putAll (m.bs.map fun b=>putAll [b.1,b.2])]
def putM (m:Mt):Tm×Int:=if MR m then(putAll [bodyB m,m.sig],0)else([],1)
def pairs:List Tm→Option (List (Tm×Tm))
 | []=>some []
 | t::l=>if(all t 2 9000).2=0∧(all t 2 9000).1.length=2 then(pairs l).map fun q=>((all t 2 9000).1.getD 0 [],(all t 2 9000).1.getD 1 [])::q else none
def blks (s:Tm):Option (List (Tm×Tm)):=if(all s 5 9000).2=0 then pairs (all s 5 9000).1 else none
def metaOf (p:List Tm) (sig:Tm) (b:List (Tm×Tm)):Mt:=⟨(takeR (p.getD 0 [])).1,(tk (p.getD 1 [])).1,(all (p.getD 2 []) 8 9000).1,b,sig⟩
def takeM (s:Tm):Mt×Int:=
 if(all s 2 90000).2≠0∨(all s 2 90000).1.length≠2 then(mzero,2)
 else if(all ((all s 2 90000).1.getD 0 []) 4 90000).2≠0∨(all ((all s 2 90000).1.getD 0 []) 4 90000).1.length≠4 then(mzero,2)
 else
  match blks ((all ((all s 2 90000).1.getD 0 []) 4 90000).1.getD 3 [])with
  | none=>(mzero,2)
  | some b=>
   if(takeR ((all ((all s 2 90000).1.getD 0 []) 4 90000).1.getD 0 [])).2≠0∨(tk ((all ((all s 2 90000).1.getD 0 []) 4 90000).1.getD 1 [])).2.2≠0∨(tk ((all ((all s 2 90000).1.getD 0 []) 4 90000).1.getD 1 [])).2.1≠[] ∨
    (all ((all ((all s 2 90000).1.getD 0 []) 4 90000).1.getD 2 []) 8 9000).2≠0∨¬MR (metaOf (all ((all s 2 90000).1.getD 0 []) 4 90000).1 ((all s 2 90000).1.getD 1 []) b)then(mzero,2)
   else(metaOf (all ((all s 2 90000).1.getD 0 []) 4 90000).1 ((all s 2 90000).1.getD 1 []) b,0)
def pub (known:List (Tm×Tm)) (s:Tm):Tm×Int:=match known.find? (fun k=>k.1==s)with
 | none=>([],4)
 | some k=>if kind k.2=117 then(k.2,0)else([],1)
def emptyT:Tm:=[116,0]
def blk (r:Rt) (s state signer p:Tm):(Tm×Tm)×Int:=
 if(two 112 state (if s∈r.ws then signer else emptyT)).2≠0 then(([],[]),(two 112 state (if s∈r.ws then signer else emptyT)).2)
 else((s,(box p (two 112 state (if s∈r.ws then signer else emptyT)).1).1),(box p (two 112 state (if s∈r.ws then signer else emptyT)).1).2)
end Go.Proofs.YtmihiknebelkbaaGreat.Mta
namespace Go.Proofs.YtmihiknebelkbaaGreat.Mta
open Go.RowKit Wire Rig
def pl (ks:List (ByteArray×ByteArray)):List (Tm×Tm):=ks.map fun k=>(k.1.data.toList,k.2.data.toList)
theorem pl_len (ks:List (ByteArray×ByteArray)):(pl ks).length=ks.length:=by simp[pl]
theorem pl_inj {a b:List (ByteArray×ByteArray)} (h:pl a=pl b):a=b:=by
 induction a generalizing b with
 | nil=>
  cases b with
  | nil=>rfl
  | cons z zs=>exact absurd h (by simp[pl])
 | cons y ys ih=>
  cases b with
  | nil=>exact absurd h (by simp[pl])
  | cons z zs=>
   have h1:(y.1.data.toList=z.1.data.toList∧y.2.data.toList=z.2.data.toList)∧pl ys=pl zs:=by simpa[pl]using h
   obtain⟨⟨e1,e2⟩,e3⟩:=h1;rw[ih e3,show y=z from Prod.ext (str_eq e1) (str_eq e2)]
theorem pl_get {ks:List (ByteArray×ByteArray)} {k:Nat} (hk:k<ks.length):(pl ks).take (k+1)=(pl ks).take k++[((ks.getD k default).1.data.toList,(ks.getD k default).2.data.toList)]:=by
 have e:(pl ks)[k]? = some ((ks.getD k default).1.data.toList,(ks.getD k default).2.data.toList):=by
  unfold pl;rw[List.getElem?_map,List.getElem?_eq_getElem hk];simp[List.getD,hk]
 rw[List.take_add_one,e];rfl
def PReads (w:World) (a:Option Addr) (ks:List (ByteArray×ByteArray)):Prop:=∀j<ks.length,∃b off,a=some ⟨b,off,none⟩∧b<w.heap.size∧w.cell? ⟨b,off+j*2,none⟩=some (.string (ks.getD j default).1)∧w.cell? ⟨b,off+j*2+1,none⟩=some (.string (ks.getD j default).2)
theorem PReads.nil (w:World) (a:Option Addr):PReads w a []:=fun j hj=>by simp at hj
theorem PReads.below {w w':World} {a:Option Addr} {ks:List (ByteArray×ByteArray)} {B:Nat} (h:PReads w a ks) (hb:Below B w w') (hB:w.heap.size≤B):PReads w' a ks:=fun j hj=>by
 obtain⟨b,off,e,hl,h1,h2⟩:=h j hj;have hlB:=Nat.lt_of_lt_of_le hl hB;exact⟨b,off,e,Nat.lt_of_lt_of_le hl hb.size,(hb.cell (p:=⟨b,off+j*2,none⟩) hlB).trans h1,(hb.cell (p:=⟨b,off+j*2+1,none⟩) hlB).trans h2⟩
theorem preads_lt {w:World} {A:Option Addr} {ks:List (ByteArray×ByteArray)} (h:PReads w A ks) {b off:Nat} (e:A=some ⟨b,off,none⟩) (h0:0<ks.length):b<w.heap.size:=by
 obtain⟨b2,off2,e2,hlt,_⟩:=h 0 h0;rw[e]at e2;injection e2 with e2
 injection e2 with e3 _ _
 omega
def IsM (ok:Nat→Prop) (w:World) (v:Value) (m:Mt):Prop:=∃(o f sig:ByteArray) (A:Option Addr) (c:Nat) (rs:List ByteArray) (B:Option Addr) (d:Nat) (ws:List ByteArray) (V:Option Addr) (cv:Nat) (vs:List ByteArray) (K:Option Addr) (ck:Nat) (ks:List (ByteArray×ByteArray)),
 v = .agg #[.string o,.string f,.int .i64 m.r.ep,.slice A rs.length c,.slice B ws.length d,.int .u64 (m.ver:Int),.slice V vs.length cv,.slice K ks.length ck,.string sig] ∧
 m=⟨⟨o.data.toList,f.data.toList,m.r.ep,bl rs,bl ws⟩,m.ver,bl vs,pl ks,sig.data.toList⟩ ∧
 SReads w A rs∧SReads w B ws∧SReads w V vs∧PReads w K ks∧(rs.length≤c∧(A=none→c=0))∧(ws.length≤d∧(B=none→d=0))∧(vs.length≤cv∧(V=none→cv=0))∧(ks.length≤ck∧(K=none→ck=0)) ∧
 (∀b off,A=some ⟨b,off,none⟩→0<rs.length→ok b)∧(∀b off,B=some ⟨b,off,none⟩→0<ws.length→ok b)∧(∀b off,V=some ⟨b,off,none⟩→0<vs.length→ok b)∧(∀b off,K=some ⟨b,off,none⟩→0<ks.length→ok b)
theorem IsM.below {ok:Nat→Prop} {w w':World} {B:Nat} {v:Value} {m:Mt} (h:IsM ok w v m) (hb:Below B w w') (hB:w.heap.size≤B):IsM ok w' v m:=by
 obtain⟨o,f,sig,A,c,rs,B',d,ws,V,cv,vs,K,ck,ks,h1,h2,h3,h4,h5,h6,h7⟩:=h;exact⟨o,f,sig,A,c,rs,B',d,ws,V,cv,vs,K,ck,ks,h1,h2,h3.below hb hB,h4.below hb hB,h5.below hb hB,h6.below hb hB,h7⟩
theorem IsM.mono {ok ok':Nat→Prop} {w:World} {v:Value} {m:Mt} (h:IsM ok w v m) (hk:∀b,b<w.heap.size→ok b→ok' b):IsM ok' w v m:=by
 obtain⟨o,f,sig,A,c,rs,B',d,ws,V,cv,vs,K,ck,ks,h1,h2,h3,h4,h5,h6,h7,h8,h9,h10,k1,k2,k3,k4⟩:=h;exact⟨o,f,sig,A,c,rs,B',d,ws,V,cv,vs,K,ck,ks,h1,h2,h3,h4,h5,h6,h7,h8,h9,h10,fun b off e h0=>hk b (sreads_lt h3 e h0) (k1 b off e h0),fun b off e h0=>hk b (sreads_lt h4 e h0) (k2 b off e h0),fun b off e h0=>hk b (sreads_lt h5 e h0) (k3 b off e h0),fun b off e h0=>hk b (preads_lt h6 e h0) (k4 b off e h0)⟩
theorem isM_zero (ok:Nat→Prop) (w:World):IsM ok w (.agg #[.string ⟨#[]⟩,.string ⟨#[]⟩,.int .i64 0,.slice none 0 0,.slice none 0 0,.int .u64 0,.slice none 0 0,.slice none 0 0,.string ⟨#[]⟩]) mzero:=
 ⟨⟨#[]⟩,⟨#[]⟩,⟨#[]⟩,none,0,[],none,0,[],none,0,[],none,0,[],rfl,rfl,SReads.nil _ _,SReads.nil _ _,SReads.nil _ _,PReads.nil _ _,⟨Nat.le_refl _,fun _=>rfl⟩,⟨Nat.le_refl _,fun _=>rfl⟩,⟨Nat.le_refl _,fun _=>rfl⟩,⟨Nat.le_refl _,fun _=>rfl⟩,
  (fun _ _ h=>by cases h),(fun _ _ h=>by cases h),(fun _ _ h=>by cases h),fun _ _ h=>by cases h⟩
def Me (ok:Nat→Prop) (x:Mt×Int) (e:Ending) (w':World):Prop:=∃v,IsM ok w' v x.1∧e = .returned (.tuple #[v,.int .i64 x.2])
def FewM (m:Mt):Prop:=Few m.r∧m.vf.length≤40∧m.bs.length≤40∧(∀t∈m.vf,t.length≤1100000)∧(∀b∈m.bs,b.1.length≤1100000∧b.2.length≤1100000)∧m.sig.length≤1100000∧m.ver<18446744073709551616
end Go.Proofs.YtmihiknebelkbaaGreat.Mta
namespace Go.Proofs.YtmihiknebelkbaaGreat.Rig
open Go.RowKit Wire
theorem own_empty_at (w:World) (g:Nat) (hg:g=w.heap.size):(w.alloc (.cells #[] 9)).ownsRow w.heap.size 9 1 (.slice (some ⟨g,0,none⟩) 0 0) 0 (sv []):=by
 subst hg;have:=World.ownsRow_lit (base:=w.heap.size) (e:=9) (size:=1) w #[] 0 zl (by decide) (by decide);simpa[sv]using this
theorem wp_append_strs {w:World} {o:Oper} {a:Act} {K:Act→World→Prop} {Q:Exit→Act→World→Prop} (s x:Operand)
 (ho:o.op = .call { callee:=.builtin .append,args:=#[s,x],argTypes:=#[22,22] }) (base:Nat)
 (v:Value) (k:Nat) (xs zs:List ByteArray) (hs:a.eval s=v) (hown:w.ownsRow base 9 1 v k (sv xs)) (hk:k=xs.length)
 (b:Option Addr) (n c:Nat) (hx:a.eval x = .slice b n c) (hn:n=zs.length) (hnil:b=none→c=0) (hr:SReads w b zs)
 (hlen:k+zs.length≤1000) (hbase:base≤w.heap.size)
 (h:∀v' w',w'.ownsRow base 9 1 v' (k+n) (sv (xs++zs))→Below base w w'→K (a.put o.dst v') w'):Oper.wp Tryz.prog o a w K Q:=by
 obtain⟨i0,hi0,hz0,hz1,hz2⟩:=info_parts str_info;subst hn;cases b with
 | none=>
  have hz:zs = []:=by
   cases zs with
   | nil=>rfl
   | cons z t=>obtain⟨_,_,he,_⟩:=hr 0 (by simp);cases he
  subst hz;rw[hnil rfl]at hx;have hx0:a.eval x = .slice none 0 0:=hx;have hrun:=run_append_owned_none (P:=Tryz.prog) (w:=w) base 22 o.type 9 i0 1 Tryz.underlying22 hi0 v k (sv xs) hown;unfold Oper.wp;simp[execOp,ho,resolve,invoke,builtin,hs,hx0,hrun,Result.andThen,Oper.upon];exact h v w (by simpa[sv]using hown) (Below.refl _ _)
 | some ad=>
  refine wp_append_own w s x 22 ho base 9 i0 _ 1 16 Tryz.underlying22 hi0 hz0 hz1 hz2 rfl (by decide) v k (sv xs) hs hown ad zs.length c (sv zs) hx (by simp[sv]) ?_ (sv_one zs) (by simp only[maxLen];omega) (by omega) hbase ?_
  ·intro j u hj
   have hjl:j<zs.length:=by have:=(List.getElem?_eq_some_iff.1 hj).1;simpa[sv]using this
   obtain⟨b',o',he,_,hc⟩:=hr j hjl;obtain rfl:=Option.some.inj he
   have hu:u = .string (zs.getD j ByteArray.empty):=by
    simp[sv,hjl]at hj;rw[←hj];simp[List.getD,hjl]
   rw[hu,show((⟨b',o',none⟩:Addr).add j)=⟨b',o'+j,none⟩from by unfold Addr.add;split<;>simp_all];exact hc
  ·intro v' w' hown' hgrow _
   exact h v' w' (by simpa[sv]using hown') (Below.grown (Below.refl _ _) hgrow hbase fun q hq=>(hown.lt q hq).1)
theorem own_part {w:World} {base:Nat} {v:Value} {k:Nat} {ys:List ByteArray} (h:w.ownsRow base 9 1 v k (sv ys)):∃A c,v = .slice A k c∧k=ys.length∧SReads w A ys∧(k≤c∧(A=none→c=0))∧∀b off,A=some ⟨b,off,none⟩→base≤b:=by
 obtain⟨A,c,rfl⟩:=own_value h;obtain⟨h1,h2,h3⟩:=sreads_own h;exact⟨A,c,rfl,h2.symm,h1,⟨h3,own_none h⟩,own_fresh h⟩
end Go.Proofs.YtmihiknebelkbaaGreat.Rig
