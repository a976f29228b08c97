/-
  T1. By an AI agent.
-/
import Derived.Test.YtmihiknebelkbaaGreatOZ
import Derived.Deep.RegionHeld3
import Derived.IntWalk
import Derived.Test.YtmihiknebelkbaaGreatOW0
set_option maxHeartbeats 4000000
namespace Go.Proofs.YtmihiknebelkbaaGreat.Term
open Wire
def arity (b:UInt8):Option Nat:=
 if b=97∨b=116 then some 0 else if b=104∨b=117 then some 1 else if b=112∨b=115∨b=98∨b=103 then some 2 else none
def sizes (rec:List UInt8→Nat):Nat→List UInt8→Option Nat
 | 0,_=>some 0
 | k+1,l=>if rec l=0 then none else(sizes rec k (l.drop (rec l))).map (rec l + ·)
def leaf (b:UInt8) (t:List UInt8):Option Nat:=
 if b=97 then(take t).map fun p=>t.length-p.2.length
 else if(text t 4000).2.2=0 then some (t.length-(text t 4000).2.1.length)else none
def body (rec:List UInt8→Nat) (b:UInt8) (t:List UInt8):Option Nat:=match arity b with
 | none=>none
 | some 0=>leaf b t
 | some (m+1)=>if b=98∧t.head?≠some 117 then none else sizes rec (m+1) t
def up:Option Nat→Nat
 | none=>0
 | some n=>1+n
def size:Nat→List UInt8→Nat
 | 0,_=>0
 | _+1,[]=>0
 | d+1,b::t=>up (body (size d) b t)
theorem take_ext {l:List UInt8} {n:Nat} {r:List UInt8} (h:take l=some (n,r)) (q:List UInt8):take (l.take (l.length-r.length)++q)=some (n,q):=by
 obtain⟨rfl,hn⟩:=take_some h;rw[List.length_append,show(put n).length+r.length-r.length=(put n).length by omega,List.take_left,take_put hn]
theorem text_ext {l t r:List UInt8} {m:Int} (h:text l m=(t,r,0)) (q:List UInt8):text (l.take (l.length-r.length)++q) m=(t,q,0):=by
 rcases text_cases l m with h'|h'|⟨t',r',h',hl,ht,hm⟩
 ·rw[h']at h;simp at h
 ·rw[h']at h;simp at h
 ·rw[h']at h
  simp only[Prod.mk.injEq]at h;obtain⟨rfl,rfl,_⟩:=h;rw[hl,List.length_append,show(putText t').length+r'.length-r'.length=(putText t').length by omega,List.take_left,text_put ht _ _ hm]
theorem leaf_le {b:UInt8} {t:List UInt8} {n:Nat} (h:leaf b t=some n):n≤t.length:=by
 unfold leaf at h;split at h
 ·obtain⟨p,_,rfl⟩:=Option.map_eq_some_iff.1 h;omega
 ·split at h
  ·have:=Option.some.inj h;omega
  ·cases h
theorem leaf_ext {b:UInt8} {t:List UInt8} {n:Nat} (h:leaf b t=some n) (q:List UInt8):leaf b (t.take n++q)=some n:=by
 have hle:=leaf_le h;unfold leaf at h⊢;split at h
 ·rename_i hb
  rw[if_pos hb];obtain⟨⟨v,r⟩,hp,rfl⟩:=Option.map_eq_some_iff.1 h;rw[take_ext hp q];have:=(Wire.take_len hp).1;simp only[Option.map_some,List.length_append,List.length_take];congr 1;omega
 ·rename_i hb
  rw[if_neg hb];split at h
  ·rename_i h0
   obtain⟨x,r,e,hx⟩:∃x r e,text t 4000=(x,r,e):=⟨_,_,_,rfl⟩
   rw[hx]at h0 h;simp only at h0 h;subst h0;have h1:=Option.some.inj h;have h2:=text_len hx rfl;rw[←h1,text_ext hx q];simp only[if_pos,List.length_append,List.length_take];congr 1;omega
  ·cases h
theorem sizes_le {rec:List UInt8→Nat} (hrec:∀l,rec l≤l.length):∀(k:Nat) {l:List UInt8} {n:Nat},sizes rec k l=some n→n≤l.length
 | 0,l,n,h=>by have:=Option.some.inj h;omega
 | k+1,l,n,h=>by
  unfold sizes at h;split at h
  ·cases h
  ·obtain⟨m,hm,rfl⟩:=Option.map_eq_some_iff.1 h
   have:=sizes_le hrec k hm;have:=hrec l;rw[List.length_drop]at *;omega
theorem body_le {rec:List UInt8→Nat} (hrec:∀l,rec l≤l.length) {b:UInt8} {t:List UInt8} {n:Nat} (h:body rec b t=some n):n≤t.length:=by
 unfold body at h;split at h
 ·cases h
 ·exact leaf_le h
 ·split at h
  ·cases h
  ·exact sizes_le hrec _ h
theorem size_le:∀(d:Nat) (l:List UInt8),size d l≤l.length
 | 0,_=>Nat.zero_le _
 | d+1,[]=>Nat.zero_le _
 | d+1,b::t=>by
  show up (body (size d) b t)≤_
  cases h:body (size d) b t with
  | none=>exact Nat.zero_le _
  | some n=>
   have:=body_le (size_le d) h;simp only[up,List.length_cons];omega
def Ext (rec:List UInt8→Nat):Prop:=∀l q,rec l≠0→rec (l.take (rec l)++q)=rec l
theorem sizes_ext {rec:List UInt8→Nat} (hrec:∀l,rec l≤l.length) (hx:Ext rec):∀(k:Nat) {l:List UInt8} {n:Nat} (q:List UInt8),sizes rec k l=some n→sizes rec k (l.take n++q)=some n
 | 0,l,n,q,h=>h
 | k+1,l,n,q,h=>by
  unfold sizes at h;split at h
  ·cases h
  ·rename_i h0
   obtain⟨m,hm,rfl⟩:=Option.map_eq_some_iff.1 h;have hle:=hrec l;have hm':=sizes_le hrec k hm;rw[List.length_drop]at hm'
   have e:l.take (rec l+m)++q=l.take (rec l)++((l.drop (rec l)).take m++q):=by
    rw[←List.append_assoc,List.take_add]
   have hr:rec (l.take (rec l+m)++q)=rec l:=by rw[e];exact hx l _ h0
   unfold sizes;rw[hr,if_neg h0]
   have e2:(l.take (rec l+m)++q).drop (rec l)=(l.drop (rec l)).take m++q:=by
    rw[e,List.drop_append_of_le_length (by rw[List.length_take];omega),List.drop_of_length_le (by rw[List.length_take];omega),List.nil_append]
   rw[e2,sizes_ext hrec hx k q hm];rfl
theorem body_ext {rec:List UInt8→Nat} (hrec:∀l,rec l≤l.length) (hx:Ext rec) {b:UInt8} {t:List UInt8} {n:Nat} (h:body rec b t=some n) (q:List UInt8):body rec b (t.take n++q)=some n:=by
 unfold body at h⊢;split at h
 ·cases h
 ·exact leaf_ext h q
 ·split at h
  ·cases h
  ·rename_i m _ hb
   rw[if_neg]
   ·exact sizes_ext hrec hx _ q h
   ·rintro⟨h1,h2⟩
    refine hb ⟨h1,fun h3=>h2 ?_⟩
    have hn:0<n:=by
     unfold sizes at h;split at h
     ·cases h
     ·obtain⟨m',_,rfl⟩:=Option.map_eq_some_iff.1 h;omega
    cases t with
    | nil=>simp at h3
    | cons x y=>
     obtain⟨j,rfl⟩:∃j,n=j+1:=⟨n-1,by omega⟩
     simpa using h3
theorem size_ext:∀d,Ext (size d)
 | 0,l,q,h=>absurd rfl h
 | d+1,[],q,h=>absurd rfl h
 | d+1,b::t,q,h=>by
  have h':up (body (size d) b t)≠0:=h;show size (d+1) ((b::t).take (up (body (size d) b t))++q)=up (body (size d) b t)
  cases hb:body (size d) b t with
  | none=>rw[hb]at h';exact absurd rfl h'
  | some n=>
   have e:(b::t).take (up (some n))=b::t.take n:=by simp only[up];rw[Nat.add_comm,List.take_succ_cons]
   rw[e,List.cons_append];show up (body (size d) b (t.take n++q))=_
   rw[body_ext (size_le d) (size_ext d) hb q]
theorem sizes_mono {r1 r2:List UInt8→Nat} (h12:∀l,r1 l≠0→r2 l=r1 l):∀(k:Nat) {l:List UInt8} {n:Nat},sizes r1 k l=some n→sizes r2 k l=some n
 | 0,l,n,h=>h
 | k+1,l,n,h=>by
  unfold sizes at h⊢;split at h
  ·cases h
  ·rename_i h0
   obtain⟨m,hm,rfl⟩:=Option.map_eq_some_iff.1 h;rw[h12 l h0,if_neg h0,sizes_mono h12 k hm];rfl
theorem body_mono {r1 r2:List UInt8→Nat} (h12:∀l,r1 l≠0→r2 l=r1 l) {b:UInt8} {t:List UInt8} {n:Nat} (h:body r1 b t=some n):body r2 b t=some n:=by
 unfold body at h⊢;split at h
 ·cases h
 ·exact h
 ·split at h
  ·cases h
  ·rename_i hb;rw[if_neg hb];exact sizes_mono h12 _ h
theorem size_mono1:∀(d:Nat) (l:List UInt8),size d l≠0→size (d+1) l=size d l
 | 0,l,h=>absurd rfl h
 | d+1,[],h=>absurd rfl h
 | d+1,b::t,h=>by
  have h':up (body (size d) b t)≠0:=h;show up (body (size (d+1)) b t)=up (body (size d) b t)
  cases hb:body (size d) b t with
  | none=>rw[hb]at h';exact absurd rfl h'
  | some n=>rw[body_mono (size_mono1 d) hb]
theorem size_mono {d e : Nat} (hde : d ≤ e) {l : List UInt8} (h : size d l ≠ 0) : size e l = size d l := by
  induction e with
  | zero => obtain rfl : d = 0 := by omega
            rfl
  | succ e ih =>
    by_cases hd : d = e + 1
    · rw [hd]
    · have h1 := ih (by omega)
      rw [size_mono1 e l (by rw [h1]; exact h), h1]
def right (l:List UInt8):Bool:=decide (l≠[]∧l.length≤4000∧size 40 l=l.length)
theorem right_iff {l:List UInt8}:right l=true↔l≠[]∧l.length≤4000∧size 40 l=l.length:=by simp[right]
theorem right_take {l:List UInt8} (h0:size 40 l≠0) (hn:size 40 l≤4000):right (l.take (size 40 l))=true:=by
 have hle:=size_le 40 l;have hx:=size_ext 40 l [] h0;rw[List.append_nil]at hx;refine right_iff.2 ⟨fun h=>?_,?_,?_⟩
 ·have:=congrArg List.length h
  rw[List.length_take,List.length_nil]at this;omega
 ·rw[List.length_take];omega
 ·rw[hx,List.length_take];omega
def made (l:List UInt8):List UInt8×Int:=if right l=true then(l,0)else([],10)
def one (k:UInt8) (a:List UInt8):List UInt8×Int:=if right a=true then made (k::a)else([],1)
def two (k:UInt8) (a b:List UInt8):List UInt8×Int:=if right a=true∧right b=true then made (k::(a++b))else([],1)
def box (p a:List UInt8):List UInt8×Int:=if right p=true∧p.head? = some 117 then two 98 p a else([],1)
def ofAtom (n:Nat):List UInt8:=97::put n
def kind (l:List UInt8):Nat:=if right l=true then(l.headD 0).toNat else 0
def cuts:Nat→List UInt8→List (List UInt8)
 | 0,_=>[]
 | k+1,l=>l.take (size 40 l)::cuts k (l.drop (size 40 l))
def parts (l:List UInt8):List (List UInt8)×Int:=if right l=true then(cuts ((arity (l.headD 0)).getD 0) l.tail,0)else([],1)
end Go.Proofs.YtmihiknebelkbaaGreat.Term
namespace Go.Proofs.YtmihiknebelkbaaGreat.Term
open Go.RowKit Wire
theorem ret_i64 {a b:Int} (h:a=b):Ending.returned (.int .i64 a) = .returned (.int .i64 b):=by rw[h]
def manyI (b:UInt8):Int:=match arity b with|none=>-1|some n=>(n:Int)
theorem arity_nat (b:UInt8):arity b=if b.toNat=97∨b.toNat=116 then some 0 else if b.toNat=104∨b.toNat=117 then some 1 else if b.toNat=112∨b.toNat=115∨b.toNat=98∨b.toNat=103 then some 2 else none:=by
 have h:∀c:UInt8,b=c↔b.toNat=c.toNat:=fun c=>UInt8.toNat_inj.symm
 unfold arity;simp only[h];rfl
theorem many_any (b:UInt8) (w:World):Calls Tryz.prog 84 #[.int .u8 (b.toNat:Int)] w fun e w'=>e = .returned (.int .i64 (manyI b))∧w=w':=by
 have HA:=zh (arity_nat b);obtain⟨c,hc⟩:∃c:Nat,b.toNat=c:=⟨_,rfl⟩
 rw[hc]at HA⊢;clear hc;go_enter Tryz.func84,Tryz.ntmps84;go_wp2;all_goals go_ret
 all_goals refine⟨ret_i64 ?_,rfl⟩
 all_goals unfold manyI
 all_goals rw[HA.out]
 all_goals simp only[beq_iff_eq,beq_eq_false_iff_ne,ne_eq]at *
 all_goals first
  | (rw[if_pos (by omega)]<;>rfl)
  | (rw[if_neg (by omega),if_pos (by omega)]<;>rfl)
  | (rw[if_neg (by omega),if_neg (by omega),if_pos (by omega)]<;>rfl)
  | (rw[if_neg (by omega),if_neg (by omega),if_neg (by omega)]<;>rfl)
structure Head (s:ByteArray) (h0:0<s.size) (b:UInt8) (t:List UInt8):Prop where
 first:s[0]=b
 all:s.data.toList=b::t
 rest:(s.extract 1 s.size).data.toList=t
 len:t.length+1=s.size
 get:∀i (hi:i+1<s.size),t[i]? = some (s[i+1]'hi)
theorem head_of {s:ByteArray} (h0:0<s.size):∃b t,Head s h0 b t:=by
 obtain⟨t,ht⟩:∃t,(s.extract 1 s.size).data.toList=t:=⟨_,rfl⟩
 have hl:s.data.toList=s[0]::t:=by rw[take_hd h0,ht]
 have hlen:t.length+1=s.size:=by rw[Lib.size_eq,hl];rfl
 refine⟨s[0],t,rfl,hl,ht,hlen,fun i hi=>?_⟩
 have h1:(s.data.toList)[i+1]? = some (s[i+1]'hi):=by
  rw[List.getElem?_eq_getElem (by rw[←Lib.size_eq];exact hi)];rfl
 rw[hl,List.getElem?_cons_succ]at h1;exact h1
theorem size_zero (l:List UInt8):size 0 l=0:=rfl
theorem size_nil (d:Nat):size d []=0:=by cases d<;>rfl
theorem size_cons (d:Nat) (b:UInt8) (t:List UInt8):size (d+1) (b::t)=up (body (size d) b t):=rfl
set_option maxRecDepth 1000000 in
theorem size_empty (s:ByteArray) (d:Int) (w:World) (h:s.data.toList = []):Calls Tryz.prog 63 #[.string s,.int .i64 d] w fun e w'=>e = .returned (.int .i64 0)∧Below w.heap.size w w':=by
 have he:=empty_str h;clear h;go_enter Tryz.func63,Tryz.ntmps63;go_wp2_with fail;go_ret;exact⟨rfl,Below.refl _ _⟩
set_option maxRecDepth 1000000 in
theorem size_none (s:ByteArray) (w:World) (h:s.data.toList≠[]):Calls Tryz.prog 63 #[.string s,.int .i64 0] w fun e w'=>e = .returned (.int .i64 0)∧Below w.heap.size w w':=by
 have he:=nonempty_str h;clear h;go_enter Tryz.func63,Tryz.ntmps63;go_wp2_with fail;go_ret;exact⟨rfl,Below.refl _ _⟩
set_option maxRecDepth 1000000 in
theorem size_rest (d:Nat) (s:ByteArray) (w:World) (h0:0<s.size) (b:UInt8) (t:List UInt8) (m:Nat) (hd:d+1≤40) (hs:s.size≤140737488355328) (hh:Head s h0 b t) (ha:arity b=some m) (hm:¬m=0)
 (ih:∀(s:ByteArray) (w:World),s.size≤140737488355328→Calls Tryz.prog 63 #[.string s,.int .i64 (d:Int)] w fun e w'=>e = .returned (.int .i64 (size d s.data.toList:Nat))∧Below w.heap.size w w'):
 Calls Tryz.prog 63 #[.string s,.int .i64 ((d+1:Nat):Int)] w fun e w'=>e = .returned (.int .i64 (size (d+1) s.data.toList:Nat))∧Below w.heap.size w w':=by
 have IH:=zh ih;have HH:=zh hh;have he:=nonempty_str (s:=s) (by rw[hh.all];simp);have hb:=hh.first;have hx0:(0:Int)<(s.size:Int):=by omega
 have hdd:(((d:Int)+1)==0)=false:=by rw[beq_eq_false_iff_ne];omega
 have HM:Hid (manyI b=(m:Int)):=by show _=_;unfold manyI;rw[ha]
 have hbn:∀c:UInt8,b=c↔(b.toNat:Int)=(c.toNat:Int):=fun c=>⟨fun h=>by rw[h],fun h=>UInt8.toNat_inj.1 (by omega)⟩
 have HBN:=zh hbn;obtain⟨Z,hZ⟩:∃Z,size (d+1) s.data.toList=Z:=⟨_,rfl⟩
 rw[hZ];have HZ:=zh hZ;clear hbn ih hh hZ
 have hm2:0<m∧m≤2:=by
  unfold arity at ha;split at ha
  ·have:=Option.some.inj ha;omega
  ·split at ha
   ·have:=Option.some.inj ha;omega
   ·split at ha
    ·have:=Option.some.inj ha;omega
    ·cases ha
 obtain⟨hm0,hm2⟩:=hm2
 have hc:b≠97∧b≠116:=by
  constructor
  ·rintro rfl;have:arity 97=some 0:=rfl
   rw[this]at ha;have:=Option.some.inj ha;omega
  ·rintro rfl;have:arity 116=some 0:=rfl
   rw[this]at ha;have:=Option.some.inj ha;omega
 have c1:((b.toNat:Int)==97)=false:=by
  rw[beq_eq_false_iff_ne];intro h;exact hc.1 ((HBN.out 97).2 h)
 have c2:((b.toNat:Int)==116)=false:=by
  rw[beq_eq_false_iff_ne];intro h;exact hc.2 ((HBN.out 116).2 h)
 have hbody:body (size d) b t=if b=98∧t.head?≠some 117 then none else sizes (size d) m t:=by
  unfold body;rw[ha];obtain⟨k,rfl⟩:∃k,m=k+1:=⟨m-1,by omega⟩
  rfl
 clear hc ha hm;by_cases hbx:b=98
 ·have c3:((b.toNat:Int)==98)=true:=by rw[hbx];rfl
  by_cases hu:t.head? = some 117
  ·rw[if_neg (by simp[hu])]at hbody
   have HBODY:=zh hbody
   have ht1:1<s.size:=by
    have:=HH.out.len;cases t with
    | nil=>simp at hu
    | cons x y=>simp only[List.length_cons]at this;omega
   have c4:(((s[1]'ht1).toNat:Int) != 117)=false:=by
    have h:=HH.out.get 0 ht1;rw[List.head?_eq_getElem?,h]at hu;rw[Option.some.inj hu];rfl
   have ht1':(1:Int)<(s.size:Int):=by omega
   clear hbody hbx hu;go_enter Tryz.func63,Tryz.ntmps63;go_wp2_with (go_at_call 84;refine(many_any b _).mono ?_;rw[HM.out];rintro e w' ⟨rfl,rfl⟩);go_loopw [8,9] (fun p q wr=>∃i a:Nat,i≤m∧1≤a∧a≤s.size∧q = .int .i64 i∧p = .int .i64 a∧Hid (i=0→a=1)∧Hid (sizes (size d) m t=(sizes (size d) (m-i) (t.drop (a-1))).map ((a-1) + ·))∧Hid (Below w.heap.size w wr)) (fun _ q _=>m-(intOf q).toNat);case atStart=>exact⟨0,1,Nat.zero_le _,Nat.le_refl _,by omega,rfl,rfl,fun _=>rfl,by show _=_;simp,Below.refl _ _⟩
   case round=>
    obtain⟨i,a,hi,ha1,ha2,rfl,rfl,H0,HS,HW⟩:=hrel;by_cases hlt:i<m
    ·obtain⟨n,hn⟩:∃n,size d (t.drop (a-1))=n:=⟨_,rfl⟩
     have hxd:(s.extract a s.size).data.toList=t.drop (a-1):=by
      rw[extract_drop,HH.out.all];obtain⟨a',rfl⟩:∃a',a=a'+1:=⟨a-1,by omega⟩
      simp
     have hxz:(s.extract a s.size).size≤140737488355328:=by rw[Lib.size_eq,extract_drop,List.length_drop,←Lib.size_eq];omega
     have hnle:a+n≤s.size:=by
      have h1:=size_le d (t.drop (a-1));rw[hn,List.length_drop]at h1;have:=HH.out.len;omega
     have hst:sizes (size d) (m-i) (t.drop (a-1))=if n=0 then none else(sizes (size d) (m-(i+1)) ((t.drop (a-1)).drop n)).map (n + ·):=by
      rw[show m-i=(m-(i+1))+1 by omega];show(if size d (t.drop (a-1))=0 then none else _)=_
      rw[hn]
     have HXD:=zh hxd;have HN:=zh hn;have ha3:(0:Int)≤(a:Int):=by omega
     have ha4:(a:Int)≤(s.size:Int):=by omega
     clear hxd hn;by_cases hn0:n=0
     ·subst hn0
      rw[if_pos rfl]at hst
      have HSZ:Hid (size (d+1) s.data.toList=0):=by
       show _=_
       rw[HH.out.all,size_cons,HBODY.out,HS.out,hst];rfl
      clear hst;by_cases hi0:i=0
      ·have ha0:=H0.out hi0
       subst hi0 ha0
       go_wp2_with (first
        | (go_at_call 84;refine(many_any b _).mono ?_;rw[HM.out];rintro e w' ⟨rfl,rfl⟩)
        | (go_at_call 63;refine(IH.out _ _ hxz).mono ?_;rw[HXD.out,HN.out];rintro e w5 ⟨rfl,hb5⟩;have HB5:=zh (HW.out.trans (hb5.mono HW.out.size));clear hb5))
       go_ret;exact⟨ret_i64 (by have h1:=HSZ.out;have h2:=HZ.out;omega),HB5.out⟩
      ·have hib:((i:Int)==0)=false:=by rw[beq_eq_false_iff_ne];omega
       go_wp2_with (first
        | (go_at_call 84;refine(many_any b _).mono ?_;rw[HM.out];rintro e w' ⟨rfl,rfl⟩)
        | (go_at_call 63;refine(IH.out _ _ hxz).mono ?_;rw[HXD.out,HN.out];rintro e w5 ⟨rfl,hb5⟩;have HB5:=zh (HW.out.trans (hb5.mono HW.out.size));clear hb5))
       go_ret;exact⟨ret_i64 (by have h1:=HSZ.out;have h2:=HZ.out;omega),HB5.out⟩
     ·have hnb:((n:Int)==0)=false:=by rw[beq_eq_false_iff_ne];omega
      rw[if_neg hn0]at hst;have HST:=zh hst;clear hst hn0;by_cases hi0:i=0
      ·have ha0:=H0.out hi0
       subst hi0 ha0
       go_wp2_with (first
        | (go_at_call 84;refine(many_any b _).mono ?_;rw[HM.out];rintro e w' ⟨rfl,rfl⟩)
        | (go_at_call 63;refine(IH.out _ _ hxz).mono ?_;rw[HXD.out,HN.out];rintro e w5 ⟨rfl,hb5⟩;have HB5:=zh (HW.out.trans (hb5.mono HW.out.size));clear hb5))
       go_roundw
       case rel=>
        refine⟨0+1,1+n,by omega,by omega,hnle,by go_num,by go_num,fun h=>absurd h (by omega),?_,HB5⟩;show _=_
        rw[HS.out,HST.out,List.drop_drop,show 1-1+n=1+n-1 by omega];cases sizes (size d) (m-(0+1)) (t.drop (1+n-1))with
        | none=>rfl
        | some z=>
         simp only[Option.map_some];congr 1;omega
       case measure=>simp[intOf];omega
      ·have hib:((i:Int)==0)=false:=by rw[beq_eq_false_iff_ne];omega
       go_wp2_with (first
        | (go_at_call 84;refine(many_any b _).mono ?_;rw[HM.out];rintro e w' ⟨rfl,rfl⟩)
        | (go_at_call 63;refine(IH.out _ _ hxz).mono ?_;rw[HXD.out,HN.out];rintro e w5 ⟨rfl,hb5⟩;have HB5:=zh (HW.out.trans (hb5.mono HW.out.size));clear hb5))
       go_roundw
       case rel=>
        refine⟨i+1,a+n,by omega,by omega,hnle,by go_num,by go_num,fun h=>absurd h (by omega),?_,HB5⟩;show _=_
        rw[HS.out,HST.out,List.drop_drop,show a-1+n=a+n-1 by omega];cases sizes (size d) (m-(i+1)) (t.drop (a+n-1))with
        | none=>rfl
        | some z=>
         simp only[Option.map_some];congr 1;omega
       case measure=>simp[intOf];omega
    ·obtain rfl:i=m:=by omega
     have hsz:size (d+1) s.data.toList=a:=by
      have h:=HS.out;rw[Nat.sub_self]at h;have h2:sizes (size d) i t=some (a-1):=by rw[h];rfl
      rw[HH.out.all,size_cons,HBODY.out,h2];show 1+(a-1)=a
      omega
     have HSZ:=zh hsz;clear hsz;go_wp2_with (go_at_call 84;refine(many_any b _).mono ?_;rw[HM.out];rintro e w' ⟨rfl,rfl⟩);go_ret;exact⟨ret_i64 (by have h1:=HSZ.out;have h2:=HZ.out;omega),HW.out⟩
  ·rw[if_pos ⟨hbx,hu⟩]at hbody
   have HSZ:Hid (size (d+1) s.data.toList=0):=by
    show _=_
    rw[HH.out.all,size_cons,hbody];rfl
   clear hbody hbx;by_cases ht1:1<s.size
   ·have c4:(((s[1]'ht1).toNat:Int) != 117)=true:=by
     have h:=HH.out.get 0 ht1;rw[List.head?_eq_getElem?,h]at hu;have:(s[1]'ht1).toNat≠117:=fun h=>hu (by rw[UInt8.toNat_inj.1 (show(s[1]'ht1).toNat=(117:UInt8).toNat from h)])
     rw[bne_iff_ne];omega
    have ht1':(1:Int)<(s.size:Int):=by omega
    clear hu;go_enter Tryz.func63,Tryz.ntmps63;go_wp2_with (go_at_call 84;refine(many_any b _).mono ?_;rw[HM.out];rintro e w' ⟨rfl,rfl⟩);go_loopw [8,9] (fun p q wr=>p = .int .i64 1∧q = .int .i64 0∧wr=w) (fun _ _ _=>0);case atStart=>exact⟨rfl,rfl,rfl⟩
    case round=>
     obtain⟨rfl,rfl,rfl⟩:=hrel;go_wp2_with (go_at_call 84;refine(many_any b _).mono ?_;rw[HM.out];rintro e w' ⟨rfl,rfl⟩);go_ret;exact⟨ret_i64 (by have h1:=HSZ.out;have h2:=HZ.out;omega),Below.refl _ _⟩
   ·have ht1':(s.size:Int)≤1:=by omega
    clear hu;go_enter Tryz.func63,Tryz.ntmps63;go_wp2_with (go_at_call 84;refine(many_any b _).mono ?_;rw[HM.out];rintro e w' ⟨rfl,rfl⟩);go_loopw [8,9] (fun p q wr=>p = .int .i64 1∧q = .int .i64 0∧wr=w) (fun _ _ _=>0);case atStart=>exact⟨rfl,rfl,rfl⟩
    case round=>
     obtain⟨rfl,rfl,rfl⟩:=hrel;go_wp2_with (go_at_call 84;refine(many_any b _).mono ?_;rw[HM.out];rintro e w' ⟨rfl,rfl⟩);go_ret;exact⟨ret_i64 (by have h1:=HSZ.out;have h2:=HZ.out;omega),Below.refl _ _⟩
 ·rw[if_neg (fun h=>hbx h.1)]at hbody
  have HBODY:=zh hbody
  have c3:((b.toNat:Int)==98)=false:=by
   rw[beq_eq_false_iff_ne];intro h;exact hbx ((HBN.out 98).2 h)
  clear hbody hbx;go_enter Tryz.func63,Tryz.ntmps63;go_wp2_with (go_at_call 84;refine(many_any b _).mono ?_;rw[HM.out];rintro e w' ⟨rfl,rfl⟩);go_loopw [8,9] (fun p q wr=>∃i a:Nat,i≤m∧1≤a∧a≤s.size∧q = .int .i64 i∧p = .int .i64 a∧Hid (i=0→a=1)∧Hid (sizes (size d) m t=(sizes (size d) (m-i) (t.drop (a-1))).map ((a-1) + ·))∧Hid (Below w.heap.size w wr)) (fun _ q _=>m-(intOf q).toNat);case atStart=>exact⟨0,1,Nat.zero_le _,Nat.le_refl _,by omega,rfl,rfl,fun _=>rfl,by show _=_;simp,Below.refl _ _⟩
  case round=>
   obtain⟨i,a,hi,ha1,ha2,rfl,rfl,H0,HS,HW⟩:=hrel;by_cases hlt:i<m
   ·obtain⟨n,hn⟩:∃n,size d (t.drop (a-1))=n:=⟨_,rfl⟩
    have hxd:(s.extract a s.size).data.toList=t.drop (a-1):=by
     rw[extract_drop,HH.out.all];obtain⟨a',rfl⟩:∃a',a=a'+1:=⟨a-1,by omega⟩
     simp
    have hxz:(s.extract a s.size).size≤140737488355328:=by rw[Lib.size_eq,extract_drop,List.length_drop,←Lib.size_eq];omega
    have hnle:a+n≤s.size:=by
     have h1:=size_le d (t.drop (a-1));rw[hn,List.length_drop]at h1;have:=HH.out.len;omega
    have hst:sizes (size d) (m-i) (t.drop (a-1))=if n=0 then none else(sizes (size d) (m-(i+1)) ((t.drop (a-1)).drop n)).map (n + ·):=by
     rw[show m-i=(m-(i+1))+1 by omega];show(if size d (t.drop (a-1))=0 then none else _)=_
     rw[hn]
    have HXD:=zh hxd;have HN:=zh hn;have ha3:(0:Int)≤(a:Int):=by omega
    have ha4:(a:Int)≤(s.size:Int):=by omega
    clear hxd hn;by_cases hn0:n=0
    ·subst hn0
     rw[if_pos rfl]at hst
     have HSZ:Hid (size (d+1) s.data.toList=0):=by
      show _=_
      rw[HH.out.all,size_cons,HBODY.out,HS.out,hst];rfl
     clear hst
     go_wp2_with (first
      | (go_at_call 84;refine(many_any b _).mono ?_;rw[HM.out];rintro e w' ⟨rfl,rfl⟩)
      | (go_at_call 63;refine(IH.out _ _ hxz).mono ?_;rw[HXD.out,HN.out];rintro e w5 ⟨rfl,hb5⟩;have HB5:=zh (HW.out.trans (hb5.mono HW.out.size));clear hb5))
     go_ret;exact⟨ret_i64 (by have h1:=HSZ.out;have h2:=HZ.out;omega),HB5.out⟩
    ·have hnb:((n:Int)==0)=false:=by rw[beq_eq_false_iff_ne];omega
     rw[if_neg hn0]at hst;have HST:=zh hst;clear hst hn0
     go_wp2_with (first
      | (go_at_call 84;refine(many_any b _).mono ?_;rw[HM.out];rintro e w' ⟨rfl,rfl⟩)
      | (go_at_call 63;refine(IH.out _ _ hxz).mono ?_;rw[HXD.out,HN.out];rintro e w5 ⟨rfl,hb5⟩;have HB5:=zh (HW.out.trans (hb5.mono HW.out.size));clear hb5))
     go_roundw
     case rel=>
      refine⟨i+1,a+n,by omega,by omega,hnle,by go_num,by go_num,fun h=>absurd h (by omega),?_,HB5⟩;show _=_
      rw[HS.out,HST.out,List.drop_drop,show a-1+n=a+n-1 by omega];cases sizes (size d) (m-(i+1)) (t.drop (a+n-1))with
      | none=>rfl
      | some z=>
       simp only[Option.map_some];congr 1;omega
     case measure=>simp[intOf];omega
   ·obtain rfl:i=m:=by omega
    have hsz:size (d+1) s.data.toList=a:=by
     have h:=HS.out;rw[Nat.sub_self]at h;have h2:sizes (size d) i t=some (a-1):=by rw[h];rfl
     rw[HH.out.all,size_cons,HBODY.out,h2];show 1+(a-1)=a
     omega
    have HSZ:=zh hsz;clear hsz;go_wp2_with (go_at_call 84;refine(many_any b _).mono ?_;rw[HM.out];rintro e w' ⟨rfl,rfl⟩);go_ret;exact⟨ret_i64 (by have h1:=HSZ.out;have h2:=HZ.out;omega),HW.out⟩
set_option maxRecDepth 1000000 in
theorem size_any:∀(d:Nat) (s:ByteArray) (w:World),d≤40→s.size≤140737488355328 →
 Calls Tryz.prog 63 #[.string s,.int .i64 (d:Int)] w fun e w'=>e = .returned (.int .i64 (size d s.data.toList:Nat))∧Below w.heap.size w w'
 | 0,s,w,_,hs=>by
  by_cases h:s.data.toList = []
  ·exact size_empty s _ w h
  ·exact size_none s w h
 | d+1,s,w,hd,hs=>by
  by_cases h:s.data.toList = []
  ·rw[h,size_nil];exact size_empty s _ w h
  ·have h0:0<s.size:=by
    rw[Lib.size_eq];exact List.length_pos_iff.2 h
   have IH:Hid (∀(s:ByteArray) (w:World),s.size≤140737488355328→Calls Tryz.prog 63 #[.string s,.int .i64 (d:Int)] w fun e w'=>e = .returned (.int .i64 (size d s.data.toList:Nat))∧Below w.heap.size w w'):=fun s w hs=>size_any d s w (by omega) hs
   obtain⟨b,t,hh⟩:=head_of h0;have he:=nonempty_str h;have HH:=zh hh;have hb:=hh.first;have hx0:(0:Int)<(s.size:Int):=by omega
   have hx1:(1:Int)≤(s.size:Int):=by omega
   have hez:(s.extract 1 s.size).size≤140737488355328:=by
    have h1:=hh.len;rw[Lib.size_eq,hh.rest];omega
   have hdd:(((d:Int)+1)==0)=false:=by rw[beq_eq_false_iff_ne];omega
   clear h hh;have hbn:∀c:UInt8,b=c↔(b.toNat:Int)=(c.toNat:Int):=fun c=>⟨fun h=>by rw[h],fun h=>UInt8.toNat_inj.1 (by omega)⟩
   have HBN:=zh hbn;clear hbn;cases ha:arity b with
   | none=>
    have HSZ:Hid (size (d+1) s.data.toList=0):=by
     show _=_
     rw[HH.out.all,size_cons];unfold body;rw[ha];rfl
    have HM:Hid (manyI b = -1):=by show _=_;unfold manyI;rw[ha]
    clear ha;rw[HSZ.out];go_enter Tryz.func63,Tryz.ntmps63;go_wp2_with (go_at_call 84;refine(many_any b _).mono ?_;rw[HM.out];rintro e w' ⟨rfl,rfl⟩);go_ret;exact⟨rfl,Below.refl _ _⟩
   | some m=>
    have HM:Hid (manyI b=(m:Int)):=by show _=_;unfold manyI;rw[ha]
    by_cases hm:m=0
    ·subst hm
     have hc:b=97∨b=116:=by
      unfold arity at ha;split at ha
      ·assumption
      ·split at ha
       ·cases ha
       ·split at ha<;>cases ha
     have hbody:body (size d) b t=leaf b t:=by unfold body;rw[ha]
     clear ha;rcases hc with hc|hc
     ·have c1:((b.toNat:Int)==97)=true:=by rw[hc];rfl
      have c2:((b.toNat:Int)==116)=false:=by rw[hc];rfl
      rcases take_tk (l:=t)with⟨h1,h2⟩|⟨n,r,h1,h2,h3⟩
      ·have HSZ:Hid (size (d+1) s.data.toList=0):=by
        show _=_
        rw[HH.out.all,size_cons,hbody];unfold leaf;rw[if_pos hc,h1];rfl
       have HTK:=zh h2;clear hbody hc h1 h2;rw[HSZ.out];go_enter Tryz.func63,Tryz.ntmps63;go_wp2_with (go_at_call 84;refine(many_any b _).mono ?_;rw[HM.out];rintro e w' ⟨rfl,rfl⟩);refine(refTake_any _ _ hez).mono ?_;rw[HH.out.rest,HTK.out];rintro e w1 ⟨⟨R,hR,rfl⟩,hbl⟩;dsimp only at hR⊢;have HBL:=zh hbl;clear hR hbl;go_wp2;go_ret;exact⟨rfl,HBL.out⟩
      ·have hr:=(Wire.take_len h1).1
       have HSZ:Hid (size (d+1) s.data.toList=1+(t.length-r.length)):=by
        show _=_
        rw[HH.out.all,size_cons,hbody];unfold leaf;rw[if_pos hc,h1];rfl
       have HTK:=zh h2;clear hbody hc h1 h2 h3;rw[HSZ.out];go_enter Tryz.func63,Tryz.ntmps63;go_wp2_with (go_at_call 84;refine(many_any b _).mono ?_;rw[HM.out];rintro e w' ⟨rfl,rfl⟩);refine(refTake_any _ _ hez).mono ?_;rw[HH.out.rest,HTK.out];rintro e w1 ⟨⟨R,hR,rfl⟩,hbl⟩;dsimp only at hR⊢;have HBL:=zh hbl;have hRz:R.size=r.length:=by rw[Lib.size_eq,hR]
       have hRle:R.size≤s.size:=by have:=HH.out.len;omega
       have HRZ:=zh hRz;clear hR hbl hRz;go_wp2;go_ret;exact⟨ret_i64 (by have:=HRZ.out;have:=HH.out.len;omega),HBL.out⟩
     ·have c1:((b.toNat:Int)==97)=false:=by rw[hc];rfl
      have c2:((b.toNat:Int)==116)=true:=by rw[hc];rfl
      obtain⟨x,y,f,htk⟩:∃x y f,tk t=(x,y,f):=⟨_,_,_,rfl⟩
      have HTK:=zh htk;clear htk;rcases text_cases t 4000 with h|h|⟨q,r,h,hl,_⟩
      ·have HSZ:Hid (size (d+1) s.data.toList=0):=by
        show _=_
        rw[HH.out.all,size_cons,hbody];unfold leaf;rw[if_neg (by rw[hc];decide),h];rfl
       have HTX:=zh h;clear hbody hc h;rw[HSZ.out];go_enter Tryz.func63,Tryz.ntmps63;go_wp2_with (go_at_call 84;refine(many_any b _).mono ?_;rw[HM.out];rintro e w' ⟨rfl,rfl⟩);refine(refTake_any _ _ hez).mono ?_;rw[HH.out.rest,HTK.out];rintro e w1 ⟨⟨R0,hR0,rfl⟩,hbl⟩;dsimp only at hR0⊢;have HBL:=zh hbl;clear hR0 hbl;go_wp2_with fail;refine(refText_any _ 4000 _ hez (by omega)).mono ?_;rw[HH.out.rest,HTX.out];rintro e w2 ⟨⟨Q,R,hQ,hR,rfl⟩,hbl⟩;dsimp only at hQ hR⊢;have HBL2:=zh (HBL.out.trans (hbl.mono HBL.out.size));clear hQ hR hbl;go_wp2;go_ret;exact⟨rfl,HBL2.out⟩
      ·have HSZ:Hid (size (d+1) s.data.toList=0):=by
        show _=_
        rw[HH.out.all,size_cons,hbody];unfold leaf;rw[if_neg (by rw[hc];decide),h];rfl
       have HTX:=zh h;clear hbody hc h;rw[HSZ.out];go_enter Tryz.func63,Tryz.ntmps63;go_wp2_with (go_at_call 84;refine(many_any b _).mono ?_;rw[HM.out];rintro e w' ⟨rfl,rfl⟩);refine(refTake_any _ _ hez).mono ?_;rw[HH.out.rest,HTK.out];rintro e w1 ⟨⟨R0,hR0,rfl⟩,hbl⟩;dsimp only at hR0⊢;have HBL:=zh hbl;clear hR0 hbl;go_wp2_with fail;refine(refText_any _ 4000 _ hez (by omega)).mono ?_;rw[HH.out.rest,HTX.out];rintro e w2 ⟨⟨Q,R,hQ,hR,rfl⟩,hbl⟩;dsimp only at hQ hR⊢;have HBL2:=zh (HBL.out.trans (hbl.mono HBL.out.size));clear hQ hR hbl;go_wp2;go_ret;exact⟨rfl,HBL2.out⟩
      ·have hr:=text_len h rfl
       have HSZ:Hid (size (d+1) s.data.toList=1+(t.length-r.length)):=by
        show _=_
        rw[HH.out.all,size_cons,hbody];unfold leaf;rw[if_neg (by rw[hc];decide),h];rfl
       have HTX:=zh h;clear hbody hc h hl;rw[HSZ.out];go_enter Tryz.func63,Tryz.ntmps63;go_wp2_with (go_at_call 84;refine(many_any b _).mono ?_;rw[HM.out];rintro e w' ⟨rfl,rfl⟩);refine(refTake_any _ _ hez).mono ?_;rw[HH.out.rest,HTK.out];rintro e w1 ⟨⟨R0,hR0,rfl⟩,hbl⟩;dsimp only at hR0⊢;have HBL:=zh hbl;clear hR0 hbl;go_wp2_with fail;refine(refText_any _ 4000 _ hez (by omega)).mono ?_;rw[HH.out.rest,HTX.out];rintro e w2 ⟨⟨Q,R,hQ,hR,rfl⟩,hbl⟩;dsimp only at hQ hR⊢;have HBL2:=zh (HBL.out.trans (hbl.mono HBL.out.size));have hRz:R.size=r.length:=by rw[Lib.size_eq,hR]
       have hRle:R.size≤s.size:=by have:=HH.out.len;omega
       have HRZ:=zh hRz;clear hQ hR hbl hRz;go_wp2;go_ret;exact⟨ret_i64 (by have:=HRZ.out;have:=HH.out.len;omega),HBL2.out⟩
    ·exact size_rest d s w h0 b t m hd hs HH.out ha hm IH.out
end Go.Proofs.YtmihiknebelkbaaGreat.Term
namespace Go.Proofs.YtmihiknebelkbaaGreat.Term
open Go.RowKit Wire
def Sr (x:List UInt8×Int) (e:Ending):Prop:=∃T:ByteArray,T.data.toList=x.1∧e = .returned (.tuple #[.string T,.int .i64 x.2])
theorem right_len {l:List UInt8} (h:right l=true):0<l.length∧l.length≤4000:=by
 obtain⟨h1,h2,_⟩:=right_iff.1 h;exact⟨List.length_pos_iff.2 h1,h2⟩
theorem right_sz {s:ByteArray} (h:right s.data.toList=true):0<s.size∧s.size≤4000:=by
 rw[Lib.size_eq];exact right_len h
set_option maxRecDepth 1000000 in
theorem right_any (s:ByteArray) (w:World) (hs:s.size≤140737488355328):
 Calls Tryz.prog 39 #[.string s] w fun e w'=>e = .returned (.bool (right s.data.toList))∧Below w.heap.size w w':=by
 by_cases h:s.data.toList = []
 ·have he:=empty_str h
  have hf:right s.data.toList=false:=by rw[h];rfl
  rw[hf];clear h hf;go_enter Tryz.func39,Tryz.ntmps39;go_wp2_with fail;go_ret;exact⟨rfl,Below.refl _ _⟩
 ·have he:=nonempty_str h
  have hz:=Lib.size_eq s;by_cases hb:(s.size:Int)≤4000
  ·obtain⟨n,hn⟩:∃n,size 40 s.data.toList=n:=⟨_,rfl⟩
   have HN:=zh hn;by_cases hl:n=s.size
   ·have hf:right s.data.toList=true:=right_iff.2 ⟨h,by omega,by rw[hn,hl,hz]⟩
    have hnb:((n:Int)==(s.size:Int))=true:=by rw[hl];exact beq_self_eq_true _
    rw[hf];clear h hf hz hn hl;go_enter Tryz.func39,Tryz.ntmps39;go_wp2_with (go_at_call 63;refine(size_any 40 s _ (by omega) hs).mono ?_;rw[HN.out];rintro e w1 ⟨rfl,hb1⟩;have HB1:=zh hb1;clear hb1);go_ret;exact⟨rfl,HB1.out⟩
   ·have hf:right s.data.toList=false:=by
     rw[←Bool.not_eq_true];intro hr;exact hl (by rw[←hn,(right_iff.1 hr).2.2,hz])
    have hnb:((n:Int)==(s.size:Int))=false:=by rw[beq_eq_false_iff_ne];omega
    rw[hf];clear h hf hz hn hl;go_enter Tryz.func39,Tryz.ntmps39;go_wp2_with (go_at_call 63;refine(size_any 40 s _ (by omega) hs).mono ?_;rw[HN.out];rintro e w1 ⟨rfl,hb1⟩;have HB1:=zh hb1;clear hb1);go_ret;exact⟨rfl,HB1.out⟩
  ·have hf:right s.data.toList=false:=by
    rw[←Bool.not_eq_true];intro hr;have:=(right_iff.1 hr).2.1;omega
   rw[hf];clear h hf hz;go_enter Tryz.func39,Tryz.ntmps39;go_wp2_with fail;go_ret;exact⟨rfl,Below.refl _ _⟩
end Go.Proofs.YtmihiknebelkbaaGreat.Term
namespace Go.Proofs.YtmihiknebelkbaaGreat.Term
open Go.RowKit Wire
theorem right_parts {l:List UInt8} (h:right l=true):∃b t m,l=b::t∧arity b=some m∧body (size 39) b t=some t.length:=by
 obtain⟨h1,_,h3⟩:=right_iff.1 h;obtain⟨b,t,rfl⟩:=List.exists_cons_of_ne_nil h1;rw[size_cons]at h3;cases hb:body (size 39) b t with
 | none=>rw[hb]at h3;simp[up]at h3
 | some n=>
  rw[hb]at h3;simp only[up,List.length_cons]at h3;obtain rfl:n=t.length:=by omega
  cases ha:arity b with
  | none=>unfold body at hb;rw[ha]at hb;cases hb
  | some m=>exact⟨b,t,m,rfl,ha,hb⟩
theorem kind_right {l:List UInt8} (h:right l=true):kind l=(l.headD 0).toNat:=by unfold kind;rw[if_pos h]
theorem kind_wrong {l:List UInt8} (h:right l=false):kind l=0:=by unfold kind;rw[if_neg (by rw[h];decide)]
theorem kind_pos {l:List UInt8} (h:right l=true):kind l≠0:=by
 obtain⟨b,t,m,rfl,ha,_⟩:=right_parts h;rw[kind_right h];intro h0;have:b=0:=u8_zero.2 h0;rw[this]at ha;have:arity 0=none:=rfl;rw[this]at ha;cases ha
end Go.Proofs.YtmihiknebelkbaaGreat.Term
namespace Go.Proofs.YtmihiknebelkbaaGreat.Term
open Go.RowKit Wire
theorem right_head {s:ByteArray} (h:right s.data.toList=true):∃(h0:0<s.size) (b:UInt8) (t:List UInt8),Head s h0 b t∧s.size≤4000:=by
 obtain⟨h0,h1⟩:=right_sz h;obtain⟨b,t,hh⟩:=head_of h0;exact⟨h0,b,t,hh,h1⟩
set_option maxRecDepth 1000000 in
theorem kind_any (s:ByteArray) (w:World) (hs:s.size≤140737488355328):
 Calls Tryz.prog 60 #[.string s] w fun e w'=>e = .returned (.int .u8 (kind s.data.toList:Nat))∧Below w.heap.size w w':=by
 cases hr:right s.data.toList with
 | true=>
  have HR:=zh hr;obtain⟨h0,b,t,hh,hz⟩:=right_head hr;have hm:kind s.data.toList=b.toNat:=by unfold kind;rw[if_pos hr,hh.all];rfl
  have hb:=hh.first;have hz1:(0:Int)<(s.size:Int):=by omega
  rw[hm];clear hr hm hh;go_enter Tryz.func60,Tryz.ntmps60;go_wp2_with (go_at_call 39;refine(right_any s _ hs).mono ?_;rw[HR.out];rintro e w1 ⟨rfl,hb1⟩;have HB1:=zh hb1;clear hb1);go_ret;exact⟨rfl,HB1.out⟩
 | false=>
  have HR:=zh hr;have hm:kind s.data.toList=0:=by unfold kind;rw[if_neg (by rw[hr];decide)]
  rw[hm];clear hr hm;go_enter Tryz.func60,Tryz.ntmps60;go_wp2_with (go_at_call 39;refine(right_any s _ hs).mono ?_;rw[HR.out];rintro e w1 ⟨rfl,hb1⟩;have HB1:=zh hb1;clear hb1);go_ret;exact⟨rfl,HB1.out⟩
def TaF (B:Nat) (x:List (List UInt8)×Int) (e:Ending) (w':World):Prop:=∃(A:Option Addr) (c:Nat) (ys:List ByteArray),bl ys=x.1∧ys.length≤c∧SReads w' A ys∧(∀b off,A=some ⟨b,off,none⟩→B≤b)∧e = .returned (.tuple #[.slice A ys.length c,.int .i64 x.2])
theorem taF_nil (B:Nat) (f:Int) (w':World):TaF B ([],f) (.returned (.tuple #[.slice none 0 0,.int .i64 f])) w':=⟨none,0,[],rfl,Nat.le_refl _,SReads.nil _ _,(fun _ _ h=>by cases h),rfl⟩
theorem own_fresh {w:World} {base:Nat} {e:TypeId} {a:Option Addr} {n c:Nat} {xs:List Value} (h:w.ownsRow base e 1 (.slice a n c) n xs):∀b off,a=some ⟨b,off,none⟩→base≤b:=by
 rintro b off rfl;rcases h.2 with⟨hv,_⟩|⟨g,cap,cur,hv,hg,_⟩
 ·injection hv with h1;cases h1
 ·injection hv with h1
  injection h1 with h1
  injection h1 with h1
  subst h1;exact hg
end Go.Proofs.YtmihiknebelkbaaGreat.Term
namespace Go.Proofs.YtmihiknebelkbaaGreat.Term
open Go.RowKit Wire
end Go.Proofs.YtmihiknebelkbaaGreat.Term
namespace Go.Proofs.YtmihiknebelkbaaGreat.Term
open Go.RowKit Wire
def IReads (w:World) (a:Option Addr) (zs:List Int):Prop:=
 ∀j,j<zs.length→∃b off,a=some ⟨b,off,none⟩∧b<w.heap.size∧w.cell? ⟨b,off+j,none⟩=some (.int .i64 (zs.getD j 0))∧-9223372036854775808≤zs.getD j 0∧zs.getD j 0≤9223372036854775807
theorem IReads.below {w w':World} {B:Nat} {a:Option Addr} {zs:List Int} (h:IReads w a zs) (hb:Below B w w') (hB:w.heap.size≤B):IReads w' a zs:=fun j hj=>by
 obtain⟨b,off,e,hlt,hc,hz⟩:=h j hj;exact⟨b,off,e,Nat.lt_of_lt_of_le hlt hb.size,by rw[hb.cell (p:=⟨b,off+j,none⟩) (Nat.lt_of_lt_of_le hlt hB)];exact hc,hz⟩
theorem own_get {w:World} {base:Nat} {e:TypeId} {g n c:Nat} {ys:List ByteArray} (h:w.ownsRow base e 1 (.slice (some ⟨g,0,none⟩) n c) n (sv ys)) (hy:ys.length=n) {j:Nat} (hj:j<n):w.cell? ⟨g,j,none⟩=some (.string (ys.getD j ByteArray.empty)):=by
 rw[h.cellAt j (by omega)];simp[sv,List.getD,List.getElem?_eq_getElem (show j<ys.length by omega)]
end Go.Proofs.YtmihiknebelkbaaGreat.Term
namespace Go.Proofs.YtmihiknebelkbaaGreat.Term
open Go.RowKit Wire
end Go.Proofs.YtmihiknebelkbaaGreat.Term
