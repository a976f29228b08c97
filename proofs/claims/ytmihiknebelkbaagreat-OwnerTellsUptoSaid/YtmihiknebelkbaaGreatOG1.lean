/-
  G1. By an AI agent.
-/
import Derived.Test.YtmihiknebelkbaaGreatOZ
import Derived.Test.YtmihiknebelkbaaGreatON1
import Derived.Test.YtmihiknebelkbaaGreatOW0
set_option maxHeartbeats 2000000
namespace Go.Proofs.YtmihiknebelkbaaGreat.Rig
open Wire
abbrev Tm:=List UInt8
abbrev lt (a b:Tm):Bool:=Op.bytesLess a b
theorem lt_irrefl:∀a:Tm,lt a a=false
 | []=>rfl
 | x::a=>by
  unfold lt Op.bytesLess;rw[show Op.bytesLess a a=false from lt_irrefl a];simp
theorem lt_trans:∀{a b c:Tm},lt a b=true→lt b c=true→lt a c=true
 | _,[],_,h,_=>by rw[show lt _ []=false by unfold lt Op.bytesLess;rfl]at h;cases h
 | _,_::_,[],_,h=>by rw[show lt _ []=false by unfold lt Op.bytesLess;rfl]at h;cases h
 | [],_::_,_::_,_,_=>rfl
 | x::a,y::b,z::c,h1,h2=>by
  unfold lt Op.bytesLess at h1 h2⊢;simp only[Bool.or_eq_true,decide_eq_true_eq,Bool.and_eq_true,beq_iff_eq]at h1 h2⊢;rcases h1 with h1|⟨rfl,h1⟩
  ·rcases h2 with h2|⟨rfl,h2⟩
   ·exact .inl (UInt8.lt_trans h1 h2)
   ·exact .inl h1
  ·rcases h2 with h2|⟨rfl,h2⟩
   ·exact .inl h2
   ·exact .inr ⟨rfl,lt_trans h1 h2⟩
theorem lt_tri:∀a b:Tm,lt a b=true∨a=b∨lt b a=true
 | [],[]=>.inr (.inl rfl)
 | [],_::_=>.inl rfl
 | _::_,[]=>.inr (.inr rfl)
 | x::a,y::b=>by
  unfold lt Op.bytesLess;simp only[Bool.or_eq_true,decide_eq_true_eq,Bool.and_eq_true,beq_iff_eq,List.cons.injEq];by_cases h:x=y
  ·subst h
   rcases lt_tri a b with h|h|h
   ·exact .inl (.inr ⟨rfl,h⟩)
   ·exact .inr (.inl ⟨rfl,h⟩)
   ·exact .inr (.inr (.inr ⟨rfl,h⟩))
  ·have h':x.toNat≠y.toNat:=fun e=>h (UInt8.toNat_inj.1 e)
   rcases Nat.lt_or_gt_of_ne h' with h2|h2
   ·exact .inl (.inl (UInt8.lt_iff_toNat_lt.2 h2))
   ·exact .inr (.inr (.inl (UInt8.lt_iff_toNat_lt.2 h2)))
abbrev nm (t:Tm):Bool:=Txt.right t
def Lsd (o:Tm) (l:List Tm):Prop:=(∀x∈l,nm x=true∧x≠o)∧l.Pairwise (fun a b=>lt a b=true)
instance (o:Tm) (l:List Tm):Decidable (Lsd o l):=inferInstanceAs (Decidable (_∧_))
theorem lsd_nil (o:Tm):Lsd o []:=⟨fun _ h=>(List.not_mem_nil h).elim,List.Pairwise.nil⟩
theorem lsd_one {o x:Tm}:Lsd o [x]↔nm x=true∧x≠o:=⟨fun h=>h.1 x (by simp),fun h=>⟨fun y hy=>by rw[List.mem_singleton.1 hy];exact h,List.pairwise_singleton _ _⟩⟩
theorem lsd_more {o p x:Tm} {a:List Tm} (h:Lsd o (a++[p])):Lsd o (a++[p]++[x])↔nm x=true∧x≠o∧lt p x=true:=by
 constructor
 ·intro h2
  obtain⟨h3,h4⟩:=h2.1 x (by simp);exact⟨h3,h4,(List.pairwise_append.1 h2.2).2.2 p (by simp) x (by simp)⟩
 ·rintro⟨h1,h2,h3⟩
  refine⟨fun y hy=>?_,List.pairwise_append.2 ⟨h.2,List.pairwise_singleton _ _,fun y hy z hz=>?_⟩⟩
  ·rcases List.mem_append.1 hy with hy|hy
   ·exact h.1 y hy
   ·rw[List.mem_singleton.1 hy];exact⟨h1,h2⟩
  ·rw[List.mem_singleton.1 hz]
   rcases List.mem_append.1 hy with hy|hy
   ·exact lt_trans ((List.pairwise_append.1 h.2).2.2 y hy p (by simp)) h3
   ·rw[List.mem_singleton.1 hy];exact h3
theorem lsd_sub {o:Tm} {a b:List Tm} (hs:a.Sublist b) (h:Lsd o b):Lsd o a:=⟨fun x hx=>h.1 x (hs.subset hx),h.2.sublist hs⟩
def ins (u:Tm):List Tm→List Tm
 | []=>[u]
 | x::l=>if lt u x=true then u::x::l else x::ins u l
theorem mem_ins {u x:Tm}:∀{l:List Tm},x∈ins u l↔x=u∨x∈l
 | []=>by simp[ins]
 | y::l=>by
  unfold ins;split
  ·simp
  ·rw[List.mem_cons,mem_ins,List.mem_cons]
   constructor
   ·rintro(h|h|h)
    ·exact .inr (.inl h)
    ·exact .inl h
    ·exact .inr (.inr h)
   ·rintro(h|h|h)
    ·exact .inr (.inl h)
    ·exact .inl h
    ·exact .inr (.inr h)
theorem ins_len {u:Tm}:∀{l:List Tm},(ins u l).length=l.length+1
 | []=>rfl
 | y::l=>by
  unfold ins;split
  ·rfl
  ·rw[List.length_cons,ins_len,List.length_cons]
theorem lsd_ins {o u:Tm} (hu:nm u=true) (huo:u≠o):∀{l:List Tm},Lsd o l→u∉l→Lsd o (ins u l)
 | [],_,_=>lsd_one.2 ⟨hu,huo⟩
 | y::l,h,hn=>by
  obtain⟨h1,h2⟩:=h;obtain⟨h3,h4⟩:=List.pairwise_cons.1 h2;have hy:¬u=y:=fun e=>hn (by rw[e];simp)
  have hl:Lsd o l:=⟨fun x hx=>h1 x (List.mem_cons_of_mem _ hx),h4⟩
  unfold ins;split
  ·rename_i hlt
   refine⟨fun x hx=>?_,List.pairwise_cons.2 ⟨fun x hx=>?_,h2⟩⟩
   ·rcases List.mem_cons.1 hx with rfl|hx
    ·exact⟨hu,huo⟩
    ·exact h1 x hx
   ·rcases List.mem_cons.1 hx with rfl|hx
    ·exact hlt
    ·exact lt_trans hlt (h3 x hx)
  ·rename_i hlt
   have hyu:lt y u=true:=by
    rcases lt_tri u y with h|h|h
    ·exact absurd h hlt
    ·exact absurd h hy
    ·exact h
   obtain⟨g1,g2⟩:=lsd_ins hu huo hl (fun hm=>hn (List.mem_cons_of_mem _ hm));refine⟨fun x hx=>?_,List.pairwise_cons.2 ⟨fun x hx=>?_,g2⟩⟩
   ·rcases List.mem_cons.1 hx with rfl|hx
    ·exact h1 x (by simp)
    ·exact g1 x hx
   ·rcases mem_ins.1 hx with rfl|hx
    ·exact hyu
    ·exact h3 x hx
theorem lsd_eq {o:Tm}:∀{a b:List Tm},Lsd o a→Lsd o b→(∀x,x∈a↔x∈b)→a=b
 | [],[],_,_,_=>rfl
 | [],y::b,_,_,h=>by have:=(h y).2 (by simp);cases this
 | x::a,[],_,_,h=>by have:=(h x).1 (by simp);cases this
 | x::a,y::b,ha,hb,h=>by
  obtain⟨ha1,ha2⟩:=List.pairwise_cons.1 ha.2;obtain⟨hb1,hb2⟩:=List.pairwise_cons.1 hb.2
  have e:x=y:=by
   rcases List.mem_cons.1 ((h x).1 (by simp))with h1|h1
   ·exact h1
   ·rcases List.mem_cons.1 ((h y).2 (by simp))with h2|h2
    ·exact h2.symm
    ·have:=lt_trans (ha1 y h2) (hb1 x h1)
     rw[lt_irrefl]at this;cases this
  subst e
  have:a=b:=lsd_eq (o:=o) ⟨fun z hz=>ha.1 z (List.mem_cons_of_mem _ hz),ha2⟩ ⟨fun z hz=>hb.1 z (List.mem_cons_of_mem _ hz),hb2⟩ fun z=>by
   constructor
   ·intro hz
    rcases List.mem_cons.1 ((h z).1 (List.mem_cons_of_mem _ hz))with e|e
    ·have:=ha1 z hz;rw[e,lt_irrefl]at this;cases this
    ·exact e
   ·intro hz
    rcases List.mem_cons.1 ((h z).2 (List.mem_cons_of_mem _ hz))with e|e
    ·have:=hb1 z hz;rw[e,lt_irrefl]at this;cases this
    ·exact e
  rw[this]
structure Rt where
 o:Tm
 f:Tm
 ep:Int
 rs:List Tm
 ws:List Tm
def zero:Rt:=⟨[],[],0,[],[]⟩
def RR (r:Rt):Prop:=nm r.o=true∧nm r.f=true∧(0≤r.ep∧r.ep≤7)∧r.rs.length+r.ws.length≤5∧Lsd r.o r.rs∧Lsd r.o r.ws∧∀x∈r.rs,x∉r.ws
instance (r:Rt):Decidable (RR r):=inferInstanceAs (Decidable (_∧_∧_∧_∧_∧_∧_))
def new (o f:Tm):Rt×Int:=if nm o=true∧nm f=true then(⟨o,f,0,[],[]⟩,0)else(zero,3)
def gr (r:Rt) (u:Tm) (w:Bool):Rt×Int:=
 if ¬RR r then(zero,1)else if ¬nm u=true then(zero,3)else if u=r.o∨u∈r.rs∨u∈r.ws then(zero,5)else if 5≤r.rs.length+r.ws.length then(zero,10)
 else(if w=true then { r with ws:=ins u r.ws } else { r with rs:=ins u r.rs },0)
def rowR (r:Rt):Tm:=putAll [r.o,r.f,put r.ep.toNat,putAll r.rs,putAll r.ws]
def putR (r:Rt):Tm×Int:=if RR r then(rowR r,0)else([],1)
def takeR (s:Tm):Rt×Int:=
 if(all s 5 4000).2≠0∨(all s 5 4000).1.length≠5 then(zero,2)
 else
  if(tk ((all s 5 4000).1.getD 2 [])).2.2≠0∨(tk ((all s 5 4000).1.getD 2 [])).2.1≠[]∨(all ((all s 5 4000).1.getD 3 []) 5 4000).2≠0∨(all ((all s 5 4000).1.getD 4 []) 5 4000).2≠0∨7<(tk ((all s 5 4000).1.getD 2 [])).1 ∨
   ¬RR ⟨(all s 5 4000).1.getD 0 [],(all s 5 4000).1.getD 1 [],((tk ((all s 5 4000).1.getD 2 [])).1:Int),(all ((all s 5 4000).1.getD 3 []) 5 4000).1,(all ((all s 5 4000).1.getD 4 []) 5 4000).1⟩then(zero,2)
  else(⟨(all s 5 4000).1.getD 0 [],(all s 5 4000).1.getD 1 [],((tk ((all s 5 4000).1.getD 2 [])).1:Int),(all ((all s 5 4000).1.getD 3 []) 5 4000).1,(all ((all s 5 4000).1.getD 4 []) 5 4000).1⟩,0)
end Go.Proofs.YtmihiknebelkbaaGreat.Rig
namespace Go.Proofs.YtmihiknebelkbaaGreat.Rig
open Wire
theorem flat_len:∀(l:List Tm),(∀t∈l,t.length≤128)→(l.flatMap putText).length≤l.length*137
 | [],_=>by simp
 | t::l,h=>by
  have h1:=h t (by simp);have h2:=(put_le (n:=t.length) (by omega)).2;have h3:=flat_len l fun x hx=>h x (by simp[hx])
  rw[List.flatMap_cons,List.length_append,putText_len,List.length_cons];omega
theorem putAll_small {l:List Tm} (h5:l.length≤5) (h:∀t∈l,t.length≤128):(putAll l).length≤700:=by
 have h1:=flat_len l h;have h2:=(put_le (n:=l.length) (by omega)).2;unfold putAll;rw[List.length_append];omega
theorem all_put {l:List Tm} (h5:l.length≤5) (h:∀t∈l,t.length≤4000):all (putAll l) 5 4000=(l,0):=by
 have h1:take (putAll l)=some (l.length,l.flatMap putText):=take_put (by omega) _;have h2:=texts_put l [] 4000 [] fun t ht=>⟨by have:=h t ht;omega,by have:=h t ht;omega⟩
 rw[List.append_nil,List.nil_append]at h2;exact all_ok h1 (by omega) h2
theorem lsd_small {o:Tm} {l:List Tm} (h:Lsd o l):∀t∈l,t.length≤128:=fun t ht=>(Txt.right_len (h.1 t ht).1).2
theorem tk_put {n:Nat} (h:n<18446744073709551616):tk (put n)=(n,[],0):=by
 have:=take_put h [];rw[List.append_nil]at this;exact tk_some this
theorem row_list {r:Rt} (h:RR r):[r.o,r.f,put r.ep.toNat,putAll r.rs,putAll r.ws].length≤5∧∀t∈[r.o,r.f,put r.ep.toNat,putAll r.rs,putAll r.ws],t.length≤4000:=by
 obtain⟨a1,a2,a3,a4,a5,a6,a7⟩:=h;refine⟨by simp,fun t ht=>?_⟩;have:t=r.o∨t=r.f∨t=put r.ep.toNat∨t=putAll r.rs∨t=putAll r.ws:=by simpa using ht
 rcases this with rfl|rfl|rfl|rfl|rfl
 ·have:=(Txt.right_len a1).2;omega
 ·have:=(Txt.right_len a2).2;omega
 ·have:=(put_le (n:=r.ep.toNat) (by omega)).2;omega
 ·have:=putAll_small (by omega) (lsd_small a5);omega
 ·have:=putAll_small (by omega) (lsd_small a6);omega
theorem takeR_row {r:Rt} (h:RR r):takeR (rowR r)=(r,0):=by
 obtain⟨l5,l4⟩:=row_list h;have hall:all (rowR r) 5 4000=([r.o,r.f,put r.ep.toNat,putAll r.rs,putAll r.ws],0):=all_put l5 l4;obtain⟨a1,a2,a3,a4,a5,a6,a7⟩:=h;have h1:all (putAll r.rs) 5 4000=(r.rs,0):=all_put (by omega) fun t ht=>by have:=lsd_small a5 t ht;omega
 have h2:all (putAll r.ws) 5 4000=(r.ws,0):=all_put (by omega) fun t ht=>by have:=lsd_small a6 t ht;omega
 have h3:tk (put r.ep.toNat)=(r.ep.toNat,[],0):=tk_put (by omega);have h4:((r.ep.toNat:Nat):Int)=r.ep:=by omega
 unfold takeR;rw[hall];simp only[List.getD_cons_zero,List.getD_cons_succ,List.length_cons,List.length_nil];rw[h1,h2,h3];simp only[h4];rw[if_neg (by simp),if_neg];rintro(h|h|h|h|h|h)
 ·exact h rfl
 ·exact h rfl
 ·exact h rfl
 ·exact h rfl
 ·omega
 ·exact h ⟨a1,a2,a3,a4,a5,a6,a7⟩
theorem five {l:List Tm} (h:l.length=5):l = [l.getD 0 [],l.getD 1 [],l.getD 2 [],l.getD 3 [],l.getD 4 []]:=by
 match l,h with
 | [a,b,c,d,e],_=>rfl
theorem takeR_cases (s:Tm):takeR s=(zero,2)∨∃r,takeR s=(r,0)∧RR r∧s=rowR r:=by
 unfold takeR;by_cases h1:(all s 5 4000).2≠0∨(all s 5 4000).1.length≠5
 ·rw[if_pos h1];exact .inl rfl
 rw[if_neg h1]
 have e1:(all s 5 4000).2=0:=by
  by_cases h:(all s 5 4000).2=0
  ·exact h
  ·exact absurd (.inl h) h1
 have e2:(all s 5 4000).1.length=5:=by
  by_cases h:(all s 5 4000).1.length=5
  ·exact h
  ·exact absurd (.inr h) h1
 split
 ·exact .inl rfl
 rename_i h2;refine .inr ⟨_,rfl,?_⟩;generalize hl:(all s 5 4000).1=l at *;have hs:s=putAll l:=(all_back (x:=l) (e:=0) (by rw[←hl,←e1])).1 rfl |>.1
 obtain⟨n,q,f,hn⟩:∃n q f,tk (l.getD 2 [])=(n,q,f):=⟨_,_,_,rfl⟩
 obtain⟨a,fa,ha⟩:∃a fa,all (l.getD 3 []) 5 4000=(a,fa):=⟨_,_,rfl⟩
 obtain⟨b,fb,hb⟩:∃b fb,all (l.getD 4 []) 5 4000=(b,fb):=⟨_,_,rfl⟩
 rw[hn,ha,hb]at h2⊢;simp only at h2⊢
 have hf:f=0:=by
  by_cases h:f=0
  ·exact h
  ·exact absurd (.inl h) h2
 have hq:q = []:=by
  by_cases h:q = []
  ·exact h
  ·exact absurd (.inr (.inl h)) h2
 have hfa:fa=0:=by
  by_cases h:fa=0
  ·exact h
  ·exact absurd (.inr (.inr (.inl h))) h2
 have hfb:fb=0:=by
  by_cases h:fb=0
  ·exact h
  ·exact absurd (.inr (.inr (.inr (.inl h)))) h2
 have hR:RR ⟨l.getD 0 [],l.getD 1 [],(n:Int),a,b⟩:=by
  by_cases h:RR ⟨l.getD 0 [],l.getD 1 [],(n:Int),a,b⟩
  ·exact h
  ·exact absurd (.inr (.inr (.inr (.inr (.inr h))))) h2
 refine⟨hR,?_⟩;subst hf;subst hq;subst hfa;subst hfb
 have e3:l.getD 2 []=put n:=by
  cases ht:take (l.getD 2 [])with
  | none=>rw[tk_none ht]at hn;simp only[Prod.mk.injEq]at hn;exact absurd hn.2.2 (by decide)
  | some p=>
   obtain⟨m,r⟩:=p;rw[tk_some ht]at hn;simp only[Prod.mk.injEq]at hn;obtain⟨rfl,rfl,_⟩:=hn;have:=(take_some ht).1;rw[List.append_nil]at this;exact this
 have e4:l.getD 3 []=putAll a:=((all_back ha).1 rfl).1;have e5:l.getD 4 []=putAll b:=((all_back hb).1 rfl).1;unfold rowR;rw[hs];conv=>lhs;rw[five e2]
 rw[e3,e4,e5];have h0:((n:Int)).toNat=n:=by omega
 simp only[h0]
end Go.Proofs.YtmihiknebelkbaaGreat.Rig
namespace Go.Proofs.YtmihiknebelkbaaGreat.Rig
open Go.RowKit Wire
theorem Bel.call {w0 w1 w2:World} (h:Below w0.heap.size w0 w1) (h2:Below w1.heap.size w1 w2):Below w0.heap.size w0 w2:=h.trans (h2.mono h.size)
theorem str_eq {S H:ByteArray} (h:S.data.toList=H.data.toList):S=H:=by
 cases S;cases H;simp only at h;congr 1;exact Array.toList_inj.1 h
theorem s_eq {S T:ByteArray} (h:S.data.toList=T.data.toList):(S.toList==T.toList)=true:=by
 rw[Lib.toList_data,Lib.toList_data,h,beq_self_eq_true]
theorem s_ne {S T:ByteArray} (h:¬S.data.toList=T.data.toList):(S.toList==T.toList)=false:=by
 rw[beq_eq_false_iff_ne,Lib.toList_data,Lib.toList_data];exact h
theorem bl_get {ys:List ByteArray} {k:Nat} (hk:k<ys.length):(bl ys).take (k+1)=(bl ys).take k++[(ys.getD k ByteArray.empty).data.toList]:=by
 have e:(bl ys)[k]? = some (ys.getD k ByteArray.empty).data.toList:=by
  unfold bl;rw[List.getElem?_map,List.getElem?_eq_getElem hk];simp[List.getD,hk]
 rw[List.take_add_one,e];rfl
theorem bl_drop {ys:List ByteArray} {k:Nat} (hk:k<ys.length):(bl ys).drop k=(ys.getD k ByteArray.empty).data.toList::(bl ys).drop (k+1):=by
 have hk':k<(bl ys).length:=by rw[bl_len];exact hk
 rw[List.drop_eq_getElem_cons hk'];congr 1;simp[bl,List.getD,hk]
theorem bl_take_all (ys:List ByteArray):(bl ys).take ys.length=bl ys:=by rw[List.take_of_length_le (by rw[bl_len];exact Nat.le_refl _)]
set_option maxRecDepth 1000000 in
theorem rhas_any (a:Option Addr) (c:Nat) (ys:List ByteArray) (s:ByteArray) (w:World) (hr:SReads w a ys) (hn:ys.length≤140737488355328):
 Calls Tryz.prog 80 #[.slice a ys.length c,.string s] w fun e w'=>e = .returned (.bool (decide (s.data.toList∈bl ys)))∧w'=w:=by
 have HR:=zh hr;obtain⟨b,hb⟩:∃b,decide (s.data.toList∈bl ys)=b:=⟨_,rfl⟩
 have HB:=zh hb;rw[hb];clear hr hb;go_enter Tryz.func80,Tryz.ntmps80;go_wp2_with fail;go_loopw [5] (fun i wr=>∃k:Nat,k≤ys.length∧i = .int .i64 (k:Int)∧Hid (s.data.toList∉(bl ys).take k)∧wr=w) (fun i _=>ys.length-(intOf i).toNat);case atStart=>exact⟨0,Nat.zero_le _,rfl,zh (by simp),rfl⟩
 case round=>
  obtain⟨k,hk,rfl,HN,rfl⟩:=hrel;by_cases hlt:(k:Int)<(ys.length:Int)
  ·obtain⟨bk,off,rfl,hbl,hcl⟩:=HR.out k (by omega)
   obtain⟨y,hy⟩:∃y,ys.getD k ByteArray.empty=y:=⟨_,rfl⟩
   rw[hy]at hcl;have hg:=bl_get (ys:=ys) (k:=k) (by omega);rw[hy]at hg;have HG:=zh hg;clear hg hy hbl;by_cases he:y.data.toList=s.data.toList
   ·have q:=s_eq he
    have HT:Hid (b=true):=by
     show b=true
     rw[←HB.out];refine decide_eq_true ?_;have:s.data.toList∈(bl ys).take (k+1):=by rw[HG.out,he];simp
     exact List.mem_of_mem_take this
    clear he;go_wp2;go_ret;exact⟨by rw[HT.out];rfl,rfl⟩
   ·have q:=s_ne he
    have HN2:Hid (s.data.toList∉(bl ys).take (k+1)):=by
     show _∉_
     rw[HG.out];intro h;rcases List.mem_append.1 h with h|h
     ·exact HN.out h
     ·exact he (List.mem_singleton.1 h).symm
    clear he;go_wp2;go_roundw;case rel=>exact⟨k+1,by omega,by go_num,HN2,trivial⟩
    case measure=>simp[intOf];omega
  ·have HT:Hid (b=false):=by
    show b=false
    rw[←HB.out];refine decide_eq_false ?_;have:=HN.out;rw[show k=ys.length by omega,bl_take_all]at this;exact this
   go_wp2;go_ret;exact⟨by rw[HT.out];rfl,rfl⟩
def Lst (B:Nat) (x:List Tm) (e:Ending) (w':World):Prop:=∃(A:Option Addr) (c:Nat) (ys:List ByteArray),bl ys=x∧(ys.length≤c∧(A=none→c=0))∧SReads w' A ys∧(∀b off,A=some ⟨b,off,none⟩→B≤b)∧e = .returned (.slice A ys.length c)
theorem own_fresh {w:World} {base:Nat} {e:TypeId} {a:Option Addr} {n c:Nat} {xs:List Value} (h:w.ownsRow base e 1 (.slice a n c) n xs):∀b off,a=some ⟨b,off,none⟩→base≤b:=by
 rintro b off rfl;rcases h.2 with⟨hv,_⟩|⟨g,cap,cur,hv,hg,_⟩
 ·cases hv
 ·injection hv with e1 _ _
  injection e1 with e1
  injection e1 with e2 _ _
  rw[e2];exact hg
theorem own_none {w:World} {base:Nat} {e:TypeId} {a:Option Addr} {n c:Nat} {xs:List Value} (h:w.ownsRow base e 1 (.slice a n c) n xs):a=none→c=0:=by
 rintro rfl;rcases h.2 with⟨hv,_⟩|⟨g,cap,cur,hv,_⟩
 ·injection hv
 ·injection hv with e1 _ _
  cases e1
def Owns (w0:World) (x:List Tm) (v:Value) (wr:World):Prop:=∃ys:List ByteArray,bl ys=x∧wr.ownsRow w0.heap.size 9 1 v ys.length (sv ys)∧Below w0.heap.size w0 wr
theorem owns_lst {w0 wr:World} {x:List Tm} {v:Value} (h:Owns w0 x v wr):Lst w0.heap.size x (.returned v) wr:=by
 obtain⟨ys,h1,h2,_⟩:=h;obtain⟨A,c,rfl⟩:=own_value h2;obtain⟨h3,_,h4⟩:=sreads_own h2;exact⟨A,c,ys,h1,⟨h4,own_none h2⟩,h3,own_fresh h2,rfl⟩
end Go.Proofs.YtmihiknebelkbaaGreat.Rig
namespace Go.Proofs.YtmihiknebelkbaaGreat.Rig
open Go.RowKit Wire
def RV (o f:ByteArray) (ep:Int) (A:Option Addr) (n c:Nat) (B:Option Addr) (m d:Nat):Value:=.agg #[.string o,.string f,.int .i64 ep,.slice A n c,.slice B m d]
def IsR (w:World) (v:Value) (r:Rt):Prop:=∃(o f:ByteArray) (A:Option Addr) (c:Nat) (rs:List ByteArray) (B:Option Addr) (d:Nat) (ws:List ByteArray),
 v=RV o f r.ep A rs.length c B ws.length d∧r=⟨o.data.toList,f.data.toList,r.ep,bl rs,bl ws⟩∧SReads w A rs∧SReads w B ws∧rs.length≤c∧ws.length≤d
theorem IsR.below {w w':World} {B:Nat} {v:Value} {r:Rt} (h:IsR w v r) (hb:Below B w w') (hB:w.heap.size≤B):IsR w' v r:=by
 obtain⟨o,f,A,c,rs,B',d,ws,h1,h2,h3,h4,h5,h6⟩:=h;exact⟨o,f,A,c,rs,B',d,ws,h1,h2,h3.below hb hB,h4.below hb hB,h5,h6⟩
theorem after_alloc {w w1 w2:World} {o:Obj} (h:Below w.heap.size w w1) (h2:Below (w1.alloc o).heap.size (w1.alloc o) w2):Below w.heap.size w w2:=
 (h.alloc h.size o).trans (h2.mono (h.alloc h.size o).size)
def IsX (ok:Nat→Prop) (w:World) (v:Value) (r:Rt):Prop:=∃(o f:ByteArray) (A:Option Addr) (c:Nat) (rs:List ByteArray) (B:Option Addr) (d:Nat) (ws:List ByteArray),
 v=RV o f r.ep A rs.length c B ws.length d∧r=⟨o.data.toList,f.data.toList,r.ep,bl rs,bl ws⟩∧SReads w A rs∧SReads w B ws∧(rs.length≤c∧(A=none→c=0))∧(ws.length≤d∧(B=none→d=0)) ∧
 (∀b off,A=some ⟨b,off,none⟩→0<rs.length→ok b)∧(∀b off,B=some ⟨b,off,none⟩→0<ws.length→ok b)
theorem IsX.isR {ok:Nat→Prop} {w:World} {v:Value} {r:Rt} (h:IsX ok w v r):IsR w v r:=by
 obtain⟨o,f,A,c,rs,B,d,ws,h1,h2,h3,h4,h5,h6,_⟩:=h;exact⟨o,f,A,c,rs,B,d,ws,h1,h2,h3,h4,h5.1,h6.1⟩
theorem IsX.below {ok:Nat→Prop} {w w':World} {B:Nat} {v:Value} {r:Rt} (h:IsX ok w v r) (hb:Below B w w') (hB:w.heap.size≤B):IsX ok w' v r:=by
 obtain⟨o,f,A,c,rs,B',d,ws,h1,h2,h3,h4,h5,h6,h7⟩:=h;exact⟨o,f,A,c,rs,B',d,ws,h1,h2,h3.below hb hB,h4.below hb hB,h5,h6,h7⟩
theorem sreads_lt {w:World} {A:Option Addr} {ys:List ByteArray} (h:SReads w A ys) {b off:Nat} (e:A=some ⟨b,off,none⟩) (h0:0<ys.length):b<w.heap.size:=by
 obtain⟨b2,off2,e2,hlt,_⟩:=h 0 h0;rw[e]at e2;injection e2 with e2
 injection e2 with e3 _ _
 omega
theorem IsX.mono {ok ok':Nat→Prop} {w:World} {v:Value} {r:Rt} (h:IsX ok w v r) (hk:∀b,b<w.heap.size→ok b→ok' b):IsX ok' w v r:=by
 obtain⟨o,f,A,c,rs,B',d,ws,h1,h2,h3,h4,h5,h6,h7,h8⟩:=h;exact⟨o,f,A,c,rs,B',d,ws,h1,h2,h3,h4,h5,h6,fun b off e h0=>hk b (sreads_lt h3 e h0) (h7 b off e h0),fun b off e h0=>hk b (sreads_lt h4 e h0) (h8 b off e h0)⟩
theorem isX_zero (ok:Nat→Prop) (w:World):IsX ok w (RV ⟨#[]⟩ ⟨#[]⟩ 0 none 0 0 none 0 0) zero:=⟨⟨#[]⟩,⟨#[]⟩,none,0,[],none,0,[],rfl,rfl,SReads.nil _ _,SReads.nil _ _,⟨Nat.le_refl _,fun _=>rfl⟩,⟨Nat.le_refl _,fun _=>rfl⟩,(fun _ _ h=>by cases h),fun _ _ h=>by cases h⟩
def Re (ok:Nat→Prop) (x:Rt×Int) (e:Ending) (w':World):Prop:=∃v,IsX ok w' v x.1∧e = .returned (.tuple #[v,.int .i64 x.2])
def Few (r:Rt):Prop:=r.o.length≤1100000∧r.f.length≤1100000∧r.rs.length≤40∧r.ws.length≤40∧(∀x∈r.rs,x.length≤1100000)∧(∀x∈r.ws,x.length≤1100000)∧(-9223372036854775808≤r.ep∧r.ep≤9223372036854775807)
theorem few_right {r:Rt} (h:RR r):Few r:=by
 obtain⟨a1,a2,a3,a4,a5,a6,a7⟩:=h;have h1:=(Txt.right_len a1).2;have h2:=(Txt.right_len a2).2;exact⟨by omega,by omega,by omega,by omega,fun x hx=>by have:=lsd_small a5 x hx;omega,fun x hx=>by have:=lsd_small a6 x hx;omega,by omega,by omega⟩
theorem few_zero:Few zero:=⟨Nat.zero_le _,Nat.zero_le _,Nat.zero_le _,Nat.zero_le _,fun _ h=>(List.not_mem_nil h).elim,fun _ h=>(List.not_mem_nil h).elim,show(-9223372036854775808:Int)≤0 by decide,show(0:Int)≤9223372036854775807 by decide⟩
theorem bl_sizes {ys:List ByteArray} {n:Nat} (h:∀x∈bl ys,x.length≤n):∀y∈ys,y.size≤n:=fun y hy=>by
 rw[Lib.size_eq];exact h _ (List.mem_map.2 ⟨y,hy,rfl⟩)
def Bx (g:Nat) (wr:World) (o f:ByteArray) (ep:Int) (A:Option Addr) (n c:Nat) (B:Option Addr) (m d:Nat):Prop:=
 wr.cell? ⟨g,0,none⟩=some (.string o)∧wr.cell? ⟨g,1,none⟩=some (.string f)∧wr.cell? ⟨g,2,none⟩=some (.int .i64 ep)∧wr.cell? ⟨g,3,none⟩=some (.slice A n c)∧wr.cell? ⟨g,4,none⟩=some (.slice B m d)∧g<wr.heap.size
theorem bx_alloc (w:World) (o f:ByteArray) (ep:Int) (A:Option Addr) (n c:Nat) (B:Option Addr) (m d:Nat) (t:TypeId):Bx w.heap.size (w.alloc (.cells #[.string o,.string f,.int .i64 ep,.slice A n c,.slice B m d] t)) o f ep A n c B m d:=by
 have h:∀j,(w.alloc (.cells #[.string o,.string f,.int .i64 ep,.slice A n c,.slice B m d] t)).cell? ⟨w.heap.size,j,none⟩=(#[.string o,.string f,.int .i64 ep,.slice A n c,.slice B m d]:Array Value)[j]?:=fun j=>cell_of_row _ _ _ _ _ (0,0) (heap_alloc_new w _)
 exact⟨h 0,h 1,h 2,h 3,h 4,by simp⟩
theorem Bx.below {g:Nat} {w w':World} {o f:ByteArray} {ep:Int} {A:Option Addr} {n c:Nat} {B:Option Addr} {m d:Nat} {K:Nat} (h:Bx g w o f ep A n c B m d) (hb:Below K w w') (hg:g<K):Bx g w' o f ep A n c B m d:=by
 obtain⟨h0,h1,h2,h3,h4,h5⟩:=h;have e:=fun j=>hb.cell (p:=⟨g,j,none⟩) hg
 exact⟨(e 0).trans h0,(e 1).trans h1,(e 2).trans h2,(e 3).trans h3,(e 4).trans h4,Nat.lt_of_lt_of_le h5 hb.size⟩
theorem bx_first {w w1:World} {o f:ByteArray} {ep:Int} {A:Option Addr} {n c:Nat} {B:Option Addr} {m d:Nat} {t:TypeId} (hb:Below (w.alloc (.cells #[.string o,.string f,.int .i64 ep,.slice A n c,.slice B m d] t)).heap.size (w.alloc (.cells #[.string o,.string f,.int .i64 ep,.slice A n c,.slice B m d] t)) w1):Bx w.heap.size w1 o f ep A n c B m d:=
 (bx_alloc w o f ep A n c B m d t).below hb (bx_alloc w o f ep A n c B m d t).2.2.2.2.2
end Go.Proofs.YtmihiknebelkbaaGreat.Rig
namespace Go.Proofs.YtmihiknebelkbaaGreat.Rig
open Go.RowKit Wire
def Sf (g:Nat) (wr:World):Prop:=wr.frozen? ⟨g,0,none⟩=false∧wr.frozen? ⟨g,1,none⟩=false∧wr.frozen? ⟨g,2,none⟩=false∧wr.frozen? ⟨g,3,none⟩=false∧wr.frozen? ⟨g,4,none⟩=false
theorem sf_alloc (w:World) (cs:Array Value) (t:TypeId):Sf w.heap.size (w.alloc (.cells cs t)):=by
 have h:∀j,(w.alloc (.cells cs t)).frozen? ⟨w.heap.size,j,none⟩=false:=fun j=>by
  unfold World.frozen?;rw[heap_alloc_new];simp
 exact⟨h 0,h 1,h 2,h 3,h 4⟩
theorem Sf.below {g:Nat} {w w':World} {K:Nat} (h:Sf g w) (hb:Below K w w') (hg:g<K):Sf g w':=by
 obtain⟨h0,h1,h2,h3,h4⟩:=h;have e:=fun j=>hb.frozen (p:=⟨g,j,none⟩) hg
 exact⟨(e 0).trans h0,(e 1).trans h1,(e 2).trans h2,(e 3).trans h3,(e 4).trans h4⟩
theorem sf_first {w w1:World} {cs:Array Value} {t:TypeId} (hb:Below (w.alloc (.cells cs t)).heap.size (w.alloc (.cells cs t)) w1):Sf w.heap.size w1:=(sf_alloc w cs t).below hb (by simp)
theorem set5 {w0 w:World} {g:Nat} {v0 v1 v2 v3 v4:Value} (h:Below w0.heap.size w0 w) (hg:w0.heap.size≤g):Below w0.heap.size w0 (((((w.setCell ⟨g,0,none⟩ v0).setCell ⟨g,1,none⟩ v1).setCell ⟨g,2,none⟩ v2).setCell ⟨g,3,none⟩ v3).setCell ⟨g,4,none⟩ v4):=
 ((((h.setCell hg v0).setCell hg v1).setCell hg v2).setCell hg v3).setCell hg v4
def Two (w w1:World) (o f:ByteArray) (ep:Int) (A:Option Addr) (n c:Nat) (B:Option Addr) (m d:Nat):Prop:=
 Bx w.heap.size w1 o f ep A n c B m d∧Bx (w.heap.size+1) w1 ⟨#[]⟩ ⟨#[]⟩ 0 none 0 0 none 0 0∧Sf (w.heap.size+1) w1∧Below w.heap.size w w1
theorem Two.more {w w1 w2:World} {o f:ByteArray} {ep:Int} {A:Option Addr} {n c:Nat} {B:Option Addr} {m d:Nat} (h:Two w w1 o f ep A n c B m d) (hb:Below w1.heap.size w1 w2):Two w w2 o f ep A n c B m d:=
 ⟨h.1.below hb h.1.2.2.2.2.2,h.2.1.below hb h.2.1.2.2.2.2.2,h.2.2.1.below hb h.2.1.2.2.2.2.2,Bel.call h.2.2.2 hb⟩
end Go.Proofs.YtmihiknebelkbaaGreat.Rig
