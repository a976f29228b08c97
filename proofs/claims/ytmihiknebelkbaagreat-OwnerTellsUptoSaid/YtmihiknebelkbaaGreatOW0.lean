/-
  W0. By an AI agent.
-/
import Derived.Test.YtmihiknebelkbaaGreatOZ
import Derived.Test.YtmihiknebelkbaaGreatProg
import Derived.WalkKit
import Derived.BigCall
import Derived.BigQuiet
import Derived.Deep.QuietTactic
import Derived.Lib.OthersKept
import Derived.Lib.Hide
import Derived.Lib.Strings
import Derived.Laws.Bits64b
import Derived.Laws.Strings
import Derived.Deep.Draws
import Derived.Maps.AppendAt
import Derived.Deep.AppendLies
import Derived.RegionTactic
import Derived.OwnWalk
import Derived.Lib.Join
import Derived.DataShut
import Derived.Laws.MakeOwn
import Derived.Laws.AppendOwnNone
import Derived.Lib.BufferRead
set_option maxHeartbeats 4000000
namespace Go.Proofs.YtmihiknebelkbaaGreat.Wire
theorem u8_nat (k:Nat) (h:k<256):(k.toUInt8).toNat=k:=by
 simp[Nat.toUInt8,Nat.mod_eq_of_lt h]
theorem nat_u8 (b:UInt8):b.toNat.toUInt8=b:=by simp[Nat.toUInt8]
theorem u8_lt (b:UInt8):b.toNat<256:=b.toNat_lt
theorem u8_zero {b:UInt8}:b=0↔b.toNat=0:=by
 constructor
 ·rintro rfl;rfl
 ·intro h;exact UInt8.toNat_inj.1 h
def dig (n:Nat):List UInt8:=if _h:n=0 then[]else dig (n/256)++[(n%256).toUInt8]
termination_by n
decreasing_by omega
theorem dig_zero:dig 0 = []:=by rw[dig];simp
theorem dig_pos {n:Nat} (h:n≠0):dig n=dig (n/256)++[(n%256).toUInt8]:=by rw[dig];simp[h]
def val (l:List UInt8):Nat:=l.foldl (fun a b=>a*256+b.toNat) 0
theorem val_snoc (l:List UInt8) (b:UInt8):val (l++[b])=val l*256+b.toNat:=by simp[val]
theorem val_take {l:List UInt8} {k:Nat} (hk:k<l.length):val (l.take (k+1))=val (l.take k)*256+l[k].toNat:=by
 rw[List.take_succ_eq_append_getElem hk,val_snoc]
theorem val_lt:∀(k:Nat) (l:List UInt8),l.length=k→val l<256 ^ k
 | 0,l,h=>by
  obtain rfl:=List.eq_nil_of_length_eq_zero h;simp[val]
 | k+1,l,h=>by
  have hne:l≠[]:=by intro e;simp[e]at h
  obtain⟨a,b,rfl⟩:∃a b,l=a++[b]:=⟨l.dropLast,l.getLast hne,(List.dropLast_concat_getLast hne).symm⟩
  have ha:a.length=k:=by simpa using h
  have:=val_lt k a ha;rw[val_snoc,Nat.pow_succ];have:=u8_lt b;omega
theorem val_lt8 {l:List UInt8} (h:l.length≤8):val l<18446744073709551616:=by
 have h1:=val_lt _ l rfl;have h2:256 ^ l.length≤256 ^ 8:=Nat.pow_le_pow_right (by omega) h;have h3:(256:Nat) ^ 8=18446744073709551616:=by decide
 omega
theorem val_lt7 {l:List UInt8} (h:l.length≤7):val l<72057594037927936:=by
 have h1:=val_lt _ l rfl;have h2:256 ^ l.length≤256 ^ 7:=Nat.pow_le_pow_right (by omega) h;have h3:(256:Nat) ^ 7=72057594037927936:=by decide
 omega
theorem val_dig (n:Nat):val (dig n)=n:=by
 induction n using Nat.strongRecOn with
 | _ n ih=>
  by_cases h:n=0
  ·subst h;rw[dig_zero];rfl
  ·rw[dig_pos h,val_snoc,ih (n/256) (by omega),u8_nat _ (by omega)];omega
theorem dig_len:∀(k n:Nat),n<256 ^ k→(dig n).length≤k
 | 0,n,h=>by
  have:n=0:=by simpa using h
  subst this;simp[dig_zero]
 | k+1,n,h=>by
  by_cases h0:n=0
  ·subst h0;simp[dig_zero]
  ·rw[dig_pos h0,List.length_append]
   have:=dig_len k (n/256) (by rw[Nat.pow_succ]at h;omega);simp;omega
theorem dig_len8 {n:Nat} (h:n<18446744073709551616):(dig n).length≤8:=dig_len 8 n (by
 have h3:(256:Nat) ^ 8=18446744073709551616:=by decide
 omega)
theorem dig_head {n:Nat} {b:UInt8} {t:List UInt8} (h:dig n=b::t):b≠0:=by
 induction n using Nat.strongRecOn generalizing b t with
 | _ n ih=>
  by_cases h0:n=0
  ·subst h0;rw[dig_zero]at h;cases h
  ·rw[dig_pos h0]at h
   by_cases h1:n/256=0
   ·rw[h1,dig_zero]at h
    simp at h;intro hb;rw[←h.1]at hb;have:=congrArg UInt8.toNat hb;rw[u8_nat _ (by omega)]at this;have h3:(0:UInt8).toNat=0:=rfl;omega
   ·cases hd:dig (n/256)with
    | nil=>
     have:=val_dig (n/256);rw[hd]at this;exact absurd this.symm h1
    | cons c u=>
     rw[hd]at h;simp at h;rw[←h.1];exact ih (n/256) (by omega) hd
theorem val_cons_pos {b:UInt8} {t:List UInt8} (hb:b≠0):256 ^ t.length≤val (b::t):=by
 have key:∀(m:Nat) (t:List UInt8),t.length=m→256 ^ m≤val (b::t):=by
  intro m;induction m with
  | zero=>
   intro t ht;obtain rfl:=List.eq_nil_of_length_eq_zero ht;have:b.toNat≠0:=fun h=>hb (u8_zero.2 h)
   simp[val];omega
  | succ m ih=>
   intro t ht;have hne:t≠[]:=by intro e;simp[e]at ht
   obtain⟨a,c,rfl⟩:∃a c,t=a++[c]:=⟨t.dropLast,t.getLast hne,(List.dropLast_concat_getLast hne).symm⟩
   have:=ih a (by simpa using ht);rw[←List.cons_append,val_snoc,Nat.pow_succ];omega
 exact key _ t rfl
theorem dig_val:∀(m:Nat) (l:List UInt8),l.length=m→(∀b t,l=b::t→b≠0)→dig (val l)=l
 | 0,l,h,_=>by
  obtain rfl:=List.eq_nil_of_length_eq_zero h;simp[val,dig_zero]
 | m+1,l,h,hb=>by
  have hne:l≠[]:=by intro e;simp[e]at h
  obtain⟨a,c,rfl⟩:∃a c,l=a++[c]:=⟨l.dropLast,l.getLast hne,(List.dropLast_concat_getLast hne).symm⟩
  have hc:=u8_lt c
  have hpos:val (a++[c])≠0:=by
   cases hl:a++[c]with
   | nil=>simp at hl
   | cons b t=>
    have:=val_cons_pos (t:=t) (hb b t hl);have:0<256 ^ t.length:=Nat.pos_of_ne_zero (by simp);omega
  rw[dig_pos hpos,val_snoc];have e1:(val a*256+c.toNat)/256=val a:=by omega
  have e2:(val a*256+c.toNat)%256=c.toNat:=by omega
  rw[e1,e2,nat_u8,dig_val m a (by simpa using h) (fun b t ht=>hb b (t++[c]) (by rw[ht];rfl))]
def put (n:Nat):List UInt8:=(dig n).length.toUInt8::dig n
theorem put_len (n:Nat):(put n).length=1+(dig n).length:=by simp[put];omega
theorem put_le {n:Nat} (h:n<18446744073709551616):1≤(put n).length∧(put n).length≤9:=by
 have:=dig_len8 h;rw[put_len];omega
def take (l:List UInt8):Option (Nat×List UInt8):=match l with
 | []=>none
 | b::t=>if 8<b.toNat∨t.length<b.toNat∨(0<b.toNat∧t.head? = some 0)then none else some (val (t.take b.toNat),t.drop b.toNat)
theorem take_put {n:Nat} (h:n<18446744073709551616) (r:List UInt8):take (put n++r)=some (n,r):=by
 have h8:=dig_len8 h;have hu:((dig n).length.toUInt8).toNat=(dig n).length:=u8_nat _ (by omega);unfold put take;simp only[List.cons_append,hu];rw[if_neg]
 ·rw[List.take_left,List.drop_left,val_dig]
 ·rintro(h1|h1|⟨h1,h2⟩)
  ·omega
  ·rw[List.length_append]at h1;omega
  ·cases hd:dig n with
   | nil=>rw[hd]at h1;simp at h1
   | cons b t=>
    rw[hd]at h2;simp at h2;exact dig_head hd h2
theorem take_some {l:List UInt8} {n:Nat} {r:List UInt8} (h:take l=some (n,r)):l=put n++r∧n<18446744073709551616:=by
 unfold take at h;cases l with
 | nil=>cases h
 | cons b t=>
  simp only at h;split at h
  ·cases h
  ·rename_i hc
   have h:=Option.some.inj h;obtain⟨rfl,rfl⟩:=Prod.mk.inj h;have h8:b.toNat≤8:=by omega
   have hl:b.toNat≤t.length:=by omega
   have hlen:(t.take b.toNat).length=b.toNat:=by rw[List.length_take];omega
   have hd:dig (val (t.take b.toNat))=t.take b.toNat:=dig_val _ _ rfl (by
    intro c u hcu hc0;refine hc (.inr (.inr ⟨?_,?_⟩))
    ·have:=congrArg List.length hcu
     simp[hlen]at this;omega
    ·cases t with
     | nil=>simp at hcu
     | cons x y=>
      cases hb:b.toNat with
      | zero=>rw[hb]at hcu;simp at hcu
      | succ m=>
       rw[hb]at hcu;simp at hcu
       simp[hcu.1,hc0])
   refine⟨?_,val_lt8 (by omega)⟩;unfold put;rw[hd,hlen,nat_u8];simp
theorem take_len {l:List UInt8} {n:Nat} {r:List UInt8} (h:take l=some (n,r)):r.length<l.length∧l.length≤r.length+9:=by
 obtain⟨rfl,hn⟩:=take_some h;have:=put_le hn;rw[List.length_append];omega
def tk (l:List UInt8):Nat×List UInt8×Int:=match take l with
 | none=>(0,[],2)
 | some (n,r)=>(n,r,0)
def upTo (l:List UInt8) (most:Int):Nat×List UInt8×Int:=match take l with
 | none=>(0,[],2)
 | some (n,r)=>if max most 0<(n:Int)then(0,[],10)else(n,r,0)
def text (l:List UInt8) (most:Int):List UInt8×List UInt8×Int:=match take l with
 | none=>([],[],2)
 | some (n,r)=>if max most 0<(n:Int)then([],[],10)else if r.length<n then([],[],2)else(r.take n,r.drop n,0)
def putText (t:List UInt8):List UInt8:=put t.length++t
def putAll (l:List (List UInt8)):List UInt8:=put l.length++l.flatMap putText
theorem tk_none {l:List UInt8} (h:take l=none):tk l=(0,[],2):=by unfold tk;rw[h]
theorem tk_some {l:List UInt8} {n:Nat} {r:List UInt8} (h:take l=some (n,r)):tk l=(n,r,0):=by unfold tk;rw[h]
theorem text_cases (l:List UInt8) (most:Int):(text l most=([],[],2))∨(text l most=([],[],10))∨(∃t r,text l most=(t,r,0)∧l=putText t++r∧t.length<18446744073709551616∧(t.length:Int)≤max most 0):=by
 unfold text;cases h:take l with
 | none=>exact .inl rfl
 | some p=>
  obtain⟨n,r⟩:=p;simp only;by_cases h1:max most 0<(n:Int)
  ·rw[if_pos h1];exact .inr (.inl rfl)
  ·rw[if_neg h1]
   by_cases h2:r.length<n
   ·rw[if_pos h2];exact .inl rfl
   ·rw[if_neg h2]
    obtain⟨rfl,hn⟩:=take_some h;have hl:(r.take n).length=n:=by rw[List.length_take];omega
    refine .inr (.inr ⟨_,_,rfl,?_,by omega,by omega⟩);unfold putText;rw[hl,List.append_assoc,List.take_append_drop]
theorem text_put {t:List UInt8} (ht:t.length<18446744073709551616) (r:List UInt8) (most:Int) (hm:(t.length:Int)≤max most 0):text (putText t++r) most=(t,r,0):=by
 unfold text putText;rw[List.append_assoc,take_put ht];simp only;rw[if_neg (by omega),if_neg (by rw[List.length_append];omega)];simp
theorem text_len {l t r:List UInt8} {most:Int} {e:Int} (h:text l most=(t,r,e)) (he:e=0):r.length+t.length<l.length:=by
 subst he;rcases text_cases l most with h'|h'|⟨t',r',h',hl,ht,_⟩
 ·rw[h']at h;simp at h
 ·rw[h']at h;simp at h
 ·rw[h']at h
  simp only[Prod.mk.injEq]at h;obtain⟨rfl,rfl,_⟩:=h;have:=put_le ht;rw[hl,putText,List.length_append,List.length_append];omega
theorem putText_len (t:List UInt8):(putText t).length=(put t.length).length+t.length:=by simp[putText]
def texts:Nat→List UInt8→Int→List (List UInt8)→List (List UInt8)×List UInt8×Int
 | 0,r,_,acc=>(acc,r,0)
 | k+1,r,m,acc=>if(text r m).2.2=0 then texts k (text r m).2.1 m (acc++[(text r m).1])else([],[],(text r m).2.2)
def all (l:List UInt8) (many most:Int):List (List UInt8)×Int:=match take l with
 | none=>([],2)
 | some (n,r)=>if max many 0<(n:Int)then([],10)else
  if(texts n r most []).2.2=0 then(if(texts n r most []).2.1 = []then((texts n r most []).1,0)else([],2))else([],(texts n r most []).2.2)
theorem texts_zero (r:List UInt8) (m:Int) (acc:List (List UInt8)):texts 0 r m acc=(acc,r,0):=rfl
theorem texts_yes {k:Nat} {r:List UInt8} {m:Int} {acc:List (List UInt8)} {t q:List UInt8} (h:text r m=(t,q,0)):texts (k+1) r m acc=texts k q m (acc++[t]):=by
 simp[texts,h]
theorem texts_no {k:Nat} {r:List UInt8} {m:Int} {acc:List (List UInt8)} {t q:List UInt8} {e:Int} (h:text r m=(t,q,e)) (he:e≠0):texts (k+1) r m acc=([],[],e):=by
 simp[texts,h,he]
theorem texts_some:∀(k:Nat) {r:List UInt8} {m:Int} {acc l:List (List UInt8)} {q:List UInt8},texts k r m acc=(l,q,0) →
 ∃l',l=acc++l'∧l'.length=k∧r=l'.flatMap putText++q
 | 0,r,m,acc,l,q,h=>by
  simp only[texts_zero,Prod.mk.injEq]at h;obtain⟨rfl,rfl,_⟩:=h;exact⟨[],by simp,rfl,by simp⟩
 | k+1,r,m,acc,l,q,h=>by
  rcases text_cases r m with h'|h'|⟨t,r',h',hr,ht,hm⟩
  ·rw[texts_no h' (by decide)]at h;simp at h
  ·rw[texts_no h' (by decide)]at h;simp at h
  ·rw[texts_yes h']at h
   obtain⟨l',rfl,hl,he⟩:=texts_some k h;refine⟨t::l',by simp,by simp[hl],?_⟩;rw[hr,he];simp
theorem texts_put:∀(l:List (List UInt8)) (q:List UInt8) (m:Int) (acc:List (List UInt8)),(∀t∈l,t.length<18446744073709551616∧(t.length:Int)≤max m 0) →
 texts l.length (l.flatMap putText++q) m acc=(acc++l,q,0)
 | [],q,m,acc,_=>by simp[texts]
 | t::l,q,m,acc,h=>by
  have ht:=h t (by simp)
  have h':text ((t::l).flatMap putText++q) m=(t,l.flatMap putText++q,0):=by
   rw[List.flatMap_cons,List.append_assoc,text_put ht.1 _ _ ht.2]
  rw[List.length_cons,texts_yes h',texts_put l q m (acc++[t]) fun x hx=>h x (by simp[hx])];simp
theorem all_none {l:List UInt8} {a b:Int} (h:take l=none):all l a b=([],2):=by unfold all;rw[h]
theorem all_big {l:List UInt8} {a b:Int} {n:Nat} {r:List UInt8} (h:take l=some (n,r)) (hb:max a 0<(n:Int)):all l a b=([],10):=by unfold all;rw[h];simp only;rw[if_pos hb]
theorem all_err {l:List UInt8} {a b:Int} {n:Nat} {r:List UInt8} {x:List (List UInt8)} {q:List UInt8} {e:Int} (h:take l=some (n,r)) (hb:(n:Int)≤max a 0) (ht:texts n r b []=(x,q,e)) (he:e≠0):all l a b=([],e):=by
 unfold all;rw[h];simp only;rw[if_neg (by omega),ht];simp[he]
theorem all_left {l:List UInt8} {a b:Int} {n:Nat} {r:List UInt8} {x:List (List UInt8)} {q:List UInt8} (h:take l=some (n,r)) (hb:(n:Int)≤max a 0) (ht:texts n r b []=(x,q,0)) (hq:q≠[]):all l a b=([],2):=by
 unfold all;rw[h];simp only;rw[if_neg (by omega),ht];simp[hq]
theorem all_ok {l:List UInt8} {a b:Int} {n:Nat} {r:List UInt8} {x:List (List UInt8)} (h:take l=some (n,r)) (hb:(n:Int)≤max a 0) (ht:texts n r b []=(x,[],0)):all l a b=(x,0):=by
 unfold all;rw[h];simp only;rw[if_neg (by omega),ht];simp
theorem all_back {l:List UInt8} {a b:Int} {x:List (List UInt8)} {e:Int} (h:all l a b=(x,e)):(e=0→l=putAll x∧x.length<18446744073709551616)∧(e≠0→x = []):=by
 cases ht:take l with
 | none=>
  rw[all_none ht]at h;simp only[Prod.mk.injEq]at h;obtain⟨rfl,rfl⟩:=h;exact⟨fun h=>absurd h (by decide),fun _=>rfl⟩
 | some p=>
  obtain⟨n,r⟩:=p;by_cases hb:max a 0<(n:Int)
  ·rw[all_big ht hb]at h
   simp only[Prod.mk.injEq]at h;obtain⟨rfl,rfl⟩:=h;exact⟨fun h=>absurd h (by decide),fun _=>rfl⟩
  ·obtain⟨y,q,f,hy⟩:∃y q f,texts n r b []=(y,q,f):=⟨_,_,_,rfl⟩
   by_cases hf:f=0
   ·subst hf
    by_cases hq:q = []
    ·subst hq
     rw[all_ok ht (by omega) hy]at h;simp only[Prod.mk.injEq]at h;obtain⟨rfl,rfl⟩:=h;obtain⟨l',hl',hn,hr⟩:=texts_some n hy;obtain rfl:y=l':=by simpa using hl'
     obtain⟨rfl,hlt⟩:=take_some ht;refine⟨fun _=>⟨?_,by omega⟩,fun h=>absurd rfl h⟩;rw[putAll,hr,hn];simp
    ·rw[all_left ht (by omega) hy hq]at h
     simp only[Prod.mk.injEq]at h;obtain⟨rfl,rfl⟩:=h;exact⟨fun h=>absurd h (by decide),fun _=>rfl⟩
   ·rw[all_err ht (by omega) hy hf]at h
    simp only[Prod.mk.injEq]at h;obtain⟨rfl,rfl⟩:=h;exact⟨fun h=>absurd h hf,fun _=>rfl⟩
end Go.Proofs.YtmihiknebelkbaaGreat.Wire
namespace Go.Proofs.YtmihiknebelkbaaGreat.Wire
open Go.RowKit
theorem extract_drop (s:ByteArray) (pos:Nat):(s.extract pos s.size).data.toList=s.data.toList.drop pos:=by
 rw[Lib.extract_data,List.take_of_length_le (by rw[List.length_drop,←Lib.size_eq];exact Nat.le_refl _)]
theorem extract_take (s:ByteArray) (k:Nat):(s.extract 0 k).data.toList=s.data.toList.take k:=by
 rw[Lib.extract_data,List.drop_zero,Nat.sub_zero]
def Tk (x:Nat×List UInt8×Int) (e:Ending):Prop:=∃R:ByteArray,R.data.toList=x.2.1∧e = .returned (.tuple #[.int .u64 x.1,.string R,.int .i64 x.2.2])
theorem take_hd {s:ByteArray} (h0:0<s.size):s.data.toList=s[0]::(s.extract 1 s.size).data.toList:=by
 rw[extract_drop];have h1:0<s.data.toList.length:=by rw[←Lib.size_eq];exact h0
 have h2:=List.drop_eq_getElem_cons h1;rw[List.drop_zero]at h2;exact h2
theorem head_get {s:ByteArray} (h0:0<s.size):s.data.toList.head? = some s[0]:=by
 rw[take_hd h0];rfl
theorem tk_ok {x:UInt8} {t:List UInt8} {b:Nat} (hb:x.toNat=b) (h1:b≤8) (h2:b≤t.length) (h3:b=0∨t.head?≠some 0):tk (x::t)=(val (t.take b),t.drop b,0):=by
 subst hb;refine tk_some ?_;unfold take;simp only;rw[if_neg];rintro(h|h|⟨h,h'⟩)
 ·omega
 ·omega
 ·rcases h3 with h3|h3
  ·omega
  ·exact h3 h'
theorem tk_no {x:UInt8} {t:List UInt8} {b:Nat} (hb:x.toNat=b) (h:8<b∨t.length<b∨(0<b∧t.head? = some 0)):tk (x::t)=(0,[],2):=by
 subst hb;refine tk_none ?_;unfold take;simp only;rw[if_pos h]
theorem or_add (v c:Nat) (hc:c<256) (hv:v<72057594037927936):bits .or .u64 ((v:Int)*256) (c:Int)=(v:Int)*256+(c:Int):=by
 have h:=bits_or_u64_nat (v*256) c (by omega) (by omega)
 have h2:v*256 ||| c=v*256+c:=by
  have:=Nat.two_pow_add_eq_or_of_lt (i:=8) (b:=c) (by simpa using hc) v;rw[show(2:Nat) ^ 8=256 from rfl,Nat.mul_comm]at this;exact this.symm
 rw[h2]at h;simpa using h
theorem take_tk {l:List UInt8}:(take l=none∧tk l=(0,[],2))∨∃n r,take l=some (n,r)∧tk l=(n,r,0)∧n<18446744073709551616:=by
 cases h:take l with
 | none=>exact .inl ⟨rfl,tk_none h⟩
 | some p=>exact .inr ⟨p.1,p.2,rfl,tk_some h,(take_some h).2⟩
theorem upTo_none {l:List UInt8} {m:Int} (h:take l=none):upTo l m=(0,[],2):=by unfold upTo;rw[h]
theorem upTo_big {l:List UInt8} {m:Int} {n:Nat} {r:List UInt8} (h:take l=some (n,r)) (hb:max m 0<(n:Int)):upTo l m=(0,[],10):=by unfold upTo;rw[h];simp only;rw[if_pos hb]
theorem upTo_ok {l:List UInt8} {m:Int} {n:Nat} {r:List UInt8} (h:take l=some (n,r)) (hb:¬max m 0<(n:Int)):upTo l m=(n,r,0):=by unfold upTo;rw[h];simp only;rw[if_neg hb]
def Tx (x:List UInt8×List UInt8×Int) (e:Ending):Prop:=∃T R:ByteArray,T.data.toList=x.1∧R.data.toList=x.2.1∧e = .returned (.tuple #[.string T,.string R,.int .i64 x.2.2])
theorem text_upTo {l:List UInt8} {m:Int} {n:Nat} {r:List UInt8} {e:Int} (h:upTo l m=(n,r,e)):(e≠0∧text l m=([],[],e))∨(e=0∧text l m=if r.length<n then([],[],2)else(r.take n,r.drop n,0)):=by
 unfold upTo at h;unfold text;cases ht:take l with
 | none=>
  rw[ht]at h;simp only[Prod.mk.injEq]at h;exact .inl ⟨by omega,by simp[h.2.2]⟩
 | some p=>
  obtain⟨a,b⟩:=p;rw[ht]at h;simp only at h⊢;by_cases hb:max m 0<(a:Int)
  ·rw[if_pos hb]at h⊢
   simp only[Prod.mk.injEq]at h;exact .inl ⟨by omega,by simp[h.2.2]⟩
  ·rw[if_neg hb]at h⊢
   simp only[Prod.mk.injEq]at h;obtain⟨rfl,rfl,rfl⟩:=h;exact .inr ⟨rfl,rfl⟩
theorem upTo_err {l:List UInt8} {m:Int} {n:Nat} {r:List UInt8} {e:Int} (h:upTo l m=(n,r,e)):e=0∨e=2∨e=10:=by
 unfold upTo at h;cases ht:take l with
 | none=>rw[ht]at h;simp only[Prod.mk.injEq]at h;omega
 | some p=>
  rw[ht]at h;simp only at h;split at h<;>simp only[Prod.mk.injEq]at h<;>omega
theorem upTo_len {l:List UInt8} {m:Int} {n:Nat} {r:List UInt8} {e:Int} (h:upTo l m=(n,r,e)):r.length≤l.length:=by
 unfold upTo at h;cases ht:take l with
 | none=>rw[ht]at h;simp only[Prod.mk.injEq]at h;rw[←h.2.1];simp
 | some p=>
  obtain⟨a,b⟩:=p;have:=take_len ht;rw[ht]at h;simp only at h;split at h<;>simp only[Prod.mk.injEq]at h<;>rw[←h.2.1]<;>simp
  omega
def SReads (w:World) (a:Option Addr) (ys:List ByteArray):Prop:=
 ∀j,j<ys.length→∃b off,a=some ⟨b,off,none⟩∧b<w.heap.size∧w.cell? ⟨b,off+j,none⟩=some (.string (ys.getD j ByteArray.empty))
theorem SReads.below {w w':World} {B:Nat} {a:Option Addr} {ys:List ByteArray} (h:SReads w a ys) (hb:Below B w w') (hB:w.heap.size≤B):SReads w' a ys:=fun j hj=>by
 obtain⟨b,off,e,hlt,hc⟩:=h j hj;exact⟨b,off,e,Nat.lt_of_lt_of_le hlt hb.size,by rw[hb.cell (p:=⟨b,off+j,none⟩) (Nat.lt_of_lt_of_le hlt hB)];exact hc⟩
theorem SReads.nil (w:World) (a:Option Addr):SReads w a []:=fun j hj=>by simp at hj
theorem sreads_of {w:World} {a:Option Addr} {len cap:Nat} {zs:List ByteArray}
 (h:(a=none∧len=0∧cap=0∧zs = [])∨∃x,a=some x∧len≤cap∧cap≤maxLen∧zs.length=cap∧(∀i,i<zs.length→w.cell? (x.add i)=some (.string (zs.getD i ByteArray.empty)))∧∀s∈zs,s.size≤maxLen):
 ∃ys:List ByteArray,ys.length=len∧len≤cap∧cap≤maxLen∧SReads w a ys∧∀s∈ys,s.size≤maxLen:=by
 rcases h with⟨rfl,rfl,rfl,rfl⟩|⟨x,rfl,h1,h2,h3,h4,h5⟩
 ·exact⟨[],rfl,Nat.le_refl _,Nat.zero_le _,fun j hj=>by simp at hj,fun n hn=>by simp at hn⟩
 ·refine⟨zs.take len,by rw[List.length_take];omega,h1,h2,fun j hj=>?_,fun n hn=>h5 n (List.mem_of_mem_take hn)⟩
  rw[List.length_take]at hj;have c0:=h4 0 (by omega);have cj:=h4 j (by omega);obtain⟨b,off,sp⟩:=x
  have hb:sp=none∧b<w.heap.size:=by
   have e0:(⟨b,off,sp⟩:Addr).add 0=⟨b,off,sp⟩:=by simp[Addr.add]
   rw[e0]at c0;unfold World.cell? at c0;simp only at c0;split at c0
   ·rename_i h0
    refine⟨?_,(Array.getElem?_eq_some_iff.1 h0).1⟩;cases sp with
    | none=>rfl
    | some q=>simp at c0
   ·cases c0
  obtain⟨rfl,hlt⟩:=hb;refine⟨b,off,rfl,hlt,?_⟩
  have e:(⟨b,off,none⟩:Addr).add j=⟨b,off+j,none⟩:=by
   unfold Addr.add;split
   ·rename_i h0;rw[h0];rfl
   ·rfl
  rw[e]at cj;rw[cj];simp only[List.getD,List.getElem?_take_of_lt (show j<len by omega)]
theorem sreads_own {w:World} {base:Nat} {e:TypeId} {a:Option Addr} {n c:Nat} {ys:List ByteArray} (h:w.ownsRow base e 1 (.slice a n c) n (ys.map Value.string)):SReads w a ys∧ys.length=n∧n≤c:=by
 obtain⟨h1,h2⟩:=h;rw[List.length_map,Nat.mul_one]at h1;rcases h2 with⟨hv,rfl⟩|⟨g,cap,cur,hv,hg,hh,hn,hm,hs,ht⟩
 ·injection hv with e1 e2 e3
  subst e1 e3;obtain rfl:=List.eq_nil_of_length_eq_zero h1;exact⟨SReads.nil _ _,rfl,Nat.le_refl _⟩
 ·injection hv with e1 e2 e3
  subst e1 e3;refine⟨fun j hj=>⟨g,0,rfl,(Array.getElem?_eq_some_iff.1 hh).1,?_⟩,h1,hn⟩;have hc:w.cell? ⟨g,0+j,none⟩=cur[0+j]?:=cell_of_row w g (0+j) cur e (0,0) hh;rw[hc,Nat.zero_add,←Array.getElem?_toList];have hjn:j<n:=by omega
  have:(cur.toList.take (n*1))[j]? = cur.toList[j]?:=List.getElem?_take_of_lt (by omega);rw[←this,ht];simp[List.getD,hj]
theorem bdrew {B:Nat} (w:World) (n:Nat):Below B w (w.drewN n):=⟨rfl,rfl,rfl,Nat.le_refl _,fun _ _=>rfl⟩
theorem Below.drewN' {B:Nat} {a w:World} (h:Below B a w) (n:Nat):Below B a (w.drewN n):=⟨h.os,h.tape,h.output,h.size,h.block⟩
def cat (ys:List ByteArray):List UInt8:=ys.flatMap (·.data.toList)
theorem join_cat (ys:List ByteArray):Lib.join (ys.map (·.data.toList)) []=cat ys:=by
 cases ys with
 | nil=>rfl
 | cons y r=>
  rw[List.map_cons,Lib.join_cons];simp[Lib.joinTail,cat,List.flatMap];rfl
def St (l:List UInt8) (e:Ending):Prop:=∃T:ByteArray,T.data.toList=l∧e = .returned (.string T)
def by8 (b:UInt8):Value:=.int .u8 (b.toNat:Int)
theorem add_none (b o j:Nat):(⟨b,o,none⟩:Addr).add j=⟨b,o+j,none⟩:=by
 unfold Addr.add;split
 ·rename_i h0;rw[h0];rfl
 ·rfl
theorem put_size {n:Nat} {T:ByteArray} (h:T.data.toList=put n) (hn:n<18446744073709551616):T.size≤9:=by
 rw[Lib.size_eq,h];exact(put_le hn).2
def sv (ys:List ByteArray):List Value:=ys.map Value.string
theorem sv_one (ys:List ByteArray):∀u∈sv ys,u.oneCell'=true:=fun u hu=>by
 obtain⟨y,_,rfl⟩:=List.mem_map.1 hu;rfl
def bl (ys:List ByteArray):List (List UInt8):=ys.map (·.data.toList)
theorem own_below {w w':World} {base:Nat} {e:TypeId} {size n:Nat} {v:Value} {xs:List Value} {B:Nat} (h:w.ownsRow base e size v n xs) (hb:Below B w w') (hB:w.heap.size≤B):w'.ownsRow base e size v n xs:=
 h.kept (row:=none) ⟨hb.os,hb.tape,hb.output,hb.size,fun k hk _=>hb.block k (by omega)⟩ (by
  cases hv:v.ownBlock with
  | none=>exact .inl rfl
  | some k=>exact .inr (by simp))
theorem lit_cells (W:World) (cs:Array Value) (t:TypeId):∀j u,cs.toList[j]? = some u→(W.alloc (.cells cs t)).cell? ((⟨W.heap.size,0,none⟩:Addr).add j)=some u:=fun j u hu=>by
 rw[add_none,Nat.zero_add];have h:(W.alloc (.cells cs t)).cell? ⟨W.heap.size,j,none⟩=cs[j]?:=cell_of_row _ _ _ _ _ (0,0) (heap_alloc_new W _);rw[h,←Array.getElem?_toList];exact hu
theorem flat_len (ls:List (List UInt8)) (h:∀l∈ls,l.length≤140737488355328):(ls.flatMap putText).length≤9*ls.length+ls.flatten.length:=by
 induction ls with
 | nil=>simp
 | cons l ls ih=>
  have h1:=h l (by simp);have h2:=(put_le (n:=l.length) (by omega)).2;have:=ih fun x hx=>h x (by simp[hx])
  simp only[List.flatMap_cons,List.length_append,List.length_cons,List.flatten_cons,putText_len];omega
theorem bl_at {ys:List ByteArray} {k:Nat} {y:ByteArray} (hk:k<ys.length) (hy:ys.getD k ByteArray.empty=y):y.size≤(bl ys).flatten.length:=by
 have e:ys[k]=y:=by rw[←hy];simp[List.getD,hk]
 rw[Lib.size_eq];have hm:y.data.toList∈bl ys:=List.mem_map.2 ⟨y,by rw[←e];exact List.getElem_mem hk,rfl⟩
 have key:∀(ls:List (List UInt8)) (x:List UInt8),x∈ls→x.length≤ls.flatten.length:=by
  intro ls x hx;induction ls with
  | nil=>cases hx
  | cons l ls ih=>
   rw[List.flatten_cons,List.length_append];rcases List.mem_cons.1 hx with rfl|hx
   ·omega
   ·have:=ih hx;omega
 exact key _ _ hm
theorem bl_each {ys:List ByteArray}:∀l∈bl ys,l.length≤(bl ys).flatten.length:=fun l hl=>by
 obtain⟨y,hy,rfl⟩:=List.mem_map.1 hl;obtain⟨k,hk,rfl⟩:=List.mem_iff_getElem.1 hy;have:=bl_at (y:=ys[k]) hk (by simp[List.getD,hk]);rw[Lib.size_eq]at this;exact this
theorem bl_len (ys:List ByteArray):(bl ys).length=ys.length:=by simp[bl]
def Ta (x:List (List UInt8)×Int) (e:Ending) (w':World):Prop:=∃(A:Option Addr) (c:Nat) (ys:List ByteArray),bl ys=x.1∧ys.length≤c∧SReads w' A ys∧e = .returned (.tuple #[.slice A ys.length c,.int .i64 x.2])
theorem ta_nil (f:Int) (w':World):Ta ([],f) (.returned (.tuple #[.slice none 0 0,.int .i64 f])) w':=⟨none,0,[],rfl,Nat.le_refl _,SReads.nil _ _,rfl⟩
theorem all_upTo {l:List UInt8} {a b:Int} {n:Nat} {r:List UInt8} {f:Int} (h:upTo l a=(n,r,f)):
 (f≠0∧all l a b=([],f))∨(f=0∧take l=some (n,r)∧(n:Int)≤max a 0∧n<18446744073709551616∧r.length<l.length):=by
 rcases take_tk (l:=l)with⟨h1,_⟩|⟨x,y,h1,_,h2⟩
 ·rw[upTo_none h1]at h
  simp only[Prod.mk.injEq]at h;obtain⟨_,_,rfl⟩:=h;exact .inl ⟨by decide,all_none h1⟩
 ·by_cases hb:max a 0<(x:Int)
  ·rw[upTo_big h1 hb]at h
   simp only[Prod.mk.injEq]at h;obtain⟨_,_,rfl⟩:=h;exact .inl ⟨by decide,all_big h1 hb⟩
  ·rw[upTo_ok h1 hb]at h
   simp only[Prod.mk.injEq]at h;obtain⟨rfl,rfl,rfl⟩:=h;exact .inr ⟨rfl,h1,by omega,h2,(take_len h1).1⟩
theorem own_value {w:World} {base:Nat} {e:TypeId} {size n:Nat} {v:Value} {xs:List Value} (h:w.ownsRow base e size v n xs):∃A c,v = .slice A n c:=by
 rcases h.2 with⟨rfl,rfl⟩|⟨g,cap,_,rfl,_⟩
 ·exact⟨none,0,rfl⟩
 ·exact⟨_,cap,rfl⟩
theorem nat_u64 {a:Int} (h:(Lit.int .u64 a).wf=true):∃n:Nat,a=(n:Int)∧n<18446744073709551616:=by
 rw[Lit.wf_int_iff]at h;have e1:IntKind.u64.min=0:=by decide
 have e2:IntKind.u64.max=18446744073709551615:=by decide
 rw[e1,e2]at h;exact⟨a.toNat,by omega,by omega⟩
theorem int_i64 {a:Int} (h:(Lit.int .i64 a).wf=true):-9223372036854775808≤a∧a≤9223372036854775807:=by
 rw[Lit.wf_int_iff]at h;have e1:IntKind.i64.min = -9223372036854775808:=by decide
 have e2:IntKind.i64.max=9223372036854775807:=by decide
 rw[e1,e2]at h;exact h
theorem ret_bool {a b:Bool} (h:a=b):Ending.returned (.bool a) = .returned (.bool b):=by rw[h]
theorem app_data (a b:ByteArray):(a++b).data.toList=a.data.toList++b.data.toList:=by
 show(a.append b).data.toList=_;simp
theorem empty_str {s:ByteArray} (h:s.data.toList = []):s.toList.isEmpty=true:=by rw[Lib.toList_data,h];rfl
theorem nonempty_str {s:ByteArray} (h:s.data.toList≠[]):s.toList.isEmpty=false:=by
 rw[Lib.toList_data];cases h2:s.data.toList with
 | nil=>exact absurd h2 h
 | cons x t=>rfl
theorem by8_one (D:List UInt8):∀u∈D.map by8,u.oneCell'=true:=fun u hu=>by
 obtain⟨y,_,rfl⟩:=List.mem_map.1 hu;rfl
theorem by8_nat (k:Nat):by8 (k%256).toUInt8 = .int .u8 ((k:Int)%256):=by rw[by8,u8_nat _ (by omega)];simp
theorem bl_drop {ys:List ByteArray} {k:Nat} {y:ByteArray} (hk:k<ys.length) (hy:ys.getD k ByteArray.empty=y):bl (ys.drop k)=y.data.toList::bl (ys.drop (k+1)):=by
 have e:ys[k]=y:=by rw[←hy];simp[List.getD,hk]
 rw[List.drop_eq_getElem_cons hk,e];rfl
theorem all_put {ls:List (List UInt8)} {a m:Int} {q:List UInt8} (hn:(ls.length:Int)≤max a 0) (hn2:ls.length<18446744073709551616) (hm:∀t∈ls,t.length<18446744073709551616∧(t.length:Int)≤max m 0):
 all (putAll ls++q) a m=if q = []then(ls,0)else([],2):=by
 have ht:take (putAll ls++q)=some (ls.length,ls.flatMap putText++q):=by
  rw[putAll,List.append_assoc,take_put hn2]
 have hx:=texts_put ls q m [] hm;rw[List.nil_append]at hx;by_cases hq:q = []
 ·rw[if_pos hq]
  subst hq;exact all_ok ht hn hx
 ·rw[if_neg hq]
  exact all_left ht hn hx hq
end Go.Proofs.YtmihiknebelkbaaGreat.Wire
namespace Go.Proofs.YtmihiknebelkbaaGreat.Wire
open Go.RowKit
theorem conv_one (W:World) (a:Addr) (b:Nat) (hb:b<256) (h:W.cell? a=some (.int .u8 (b:Int))):
 (convert 87 9 (.slice (some a) 1 1)).run Tryz.prog W = .ok (.string ⟨#[b.toUInt8]⟩) W:=by
 have:=run_convert_bytes_back (P:=Tryz.prog) W 87 9 5 a 1 [b.toUInt8] Tryz.underlying87 Tryz.underlying5 Tryz.underlying9 (fun j hj=>by
  obtain rfl:j=0:=by simpa using hj
  have e:a.add 0=a:=by simp[Addr.add]
  rw[e,h]
  simp[u8_nat _ hb])
 simpa using this
theorem conv_tail (W:World) (A:Addr) (c:Nat) (D:List UInt8) (h:∀j (hj:j<D.length),W.cell? (A.add j)=some (by8 D[j])):
 (convert 87 9 (.slice (some A) D.length c)).run Tryz.prog W = .ok (.string ⟨D.toArray⟩) W:=
 run_convert_bytes_back (P:=Tryz.prog) W 87 9 5 A c D Tryz.underlying87 Tryz.underlying5 Tryz.underlying9 (fun j hj=>h j hj)
theorem byte_info:(Tryz.prog.info? 5).map (fun i=>(i.zero,i.size,i.bytes))=some (some (.int .u8 0),1,1):=by kernel_rfl
end Go.Proofs.YtmihiknebelkbaaGreat.Wire
namespace Go.Proofs.YtmihiknebelkbaaGreat.Wire
open Go.RowKit
theorem str_info:(Tryz.prog.info? 9).map (fun i=>(i.zero,i.size,i.bytes))=some (some (.string ⟨#[]⟩),1,16):=by kernel_rfl
theorem make_strs (c:Nat) (hc:c≤1000000) (W:World):∃cs:Array Value,cs.size=c ∧
 (Instr.makeSlice 22 (.int .i64 0) (.int .i64 (c:Int))).run Tryz.prog W = .ok (.slice (some ⟨W.heap.size,0,none⟩) 0 c) (W.alloc (.cells cs 9)):=by
 obtain⟨i0,hi0,hz0,hz1,hz2⟩:=info_parts str_info;have h:=run_make (P:=Tryz.prog) W 22 9 i0 _ Tryz.underlying22 hi0 hz0 .i64 .i64 0 c (by omega) (by omega) (by rw[hz2];omega) (by omega);rw[hz1]at h;exact⟨madeCells (Value.string ⟨#[]⟩).cells ((c:Int).toNat*1),by simp[size_madeCells],by simpa using h⟩
theorem pair_reads (W:World) (X Y:ByteArray) (g:Nat) (hg:g=W.heap.size):SReads (W.alloc (.cells #[.string X,.string Y] 9)).drew (some ⟨g,0,none⟩) [X,Y]:=by
 subst hg;intro j hj;refine⟨_,0,rfl,by simp,?_⟩;have h:(W.alloc (.cells #[.string X,.string Y] 9)).cell? ⟨W.heap.size,0+j,none⟩=(#[.string X,.string Y]:Array Value)[0+j]?:=cell_of_row _ _ _ _ _ (0,0) (heap_alloc_new W _);refine Eq.trans h ?_;match j,hj with
 | 0,_=>rfl
 | 1,_=>rfl
def Took (w:World) (s n:Nat) (r:List UInt8) (m:Int) (k:Nat) (R:ByteArray) (v:Value) (wr:World):Prop:=
 ∃ys:List ByteArray,wr.ownsRow w.heap.size 9 1 v k (sv ys)∧ys.length=k∧texts (n-k) R.data.toList m (bl ys)=texts n r m []∧R.size+k≤s∧Below w.heap.size w wr
end Go.Proofs.YtmihiknebelkbaaGreat.Wire
namespace Go.Proofs.YtmihiknebelkbaaGreat.Wire
open Go.RowKit
theorem refTake_bad {s:ByteArray} {t:List UInt8} {x:UInt8} {b:Nat} (hl:s.data.toList=x::t) (hb:x.toNat=b) (h:8<b∨t.length<b∨(0<b∧t.head? = some 0)):tk s.data.toList=(0,[],2):=by
 rw[hl];exact tk_no hb h
set_option maxRecDepth 1000000 in
theorem refTake_any (s:ByteArray) (w:World) (hs:s.size≤140737488355328):
 Calls Tryz.prog 31 #[.string s] w fun e w'=>Tk (tk s.data.toList) e∧Below w.heap.size w w':=by
 by_cases h0:0<s.size
 ·have he:s.toList.isEmpty=false:=by
   rw[Lib.toList_data,take_hd h0];rfl
  have hx0:(0:Int)<(s.size:Int):=by omega
  have hsz:(s.extract 1 s.size).size=s.size-1:=by rw[Lib.size_eq,extract_drop,List.length_drop,←Lib.size_eq]
  obtain⟨t,ht⟩:∃t,(s.extract 1 s.size).data.toList=t:=⟨_,rfl⟩
  have hl:s.data.toList=s[0]::t:=by rw[take_hd h0,ht]
  have htl:t.length=s.size-1:=by rw[←ht,←Lib.size_eq,hsz]
  have hget:∀i (hi:i+1<s.size),t[i]? = some (s[i+1]'hi):=fun i hi=>by
   have h1:(s.data.toList)[i+1]? = some (s[i+1]'hi):=by
    rw[List.getElem?_eq_getElem (by rw[←Lib.size_eq];exact hi)];rfl
   rw[hl,List.getElem?_cons_succ]at h1;exact h1
  have HL:=zh hl;have HT:=zh ht;have HTL:=zh htl;have HG:=zh hget;clear hsz ht hl htl hget;obtain⟨b,hb⟩:∃b:Nat,(s[0]'h0).toNat=b:=⟨_,rfl⟩
  have HB:=zh hb;have hb1:(b:Int)<256:=by have:=u8_lt (s[0]'h0);omega
  by_cases h8:(8:Int)<(b:Int)
  ·have HN:=zh (refTake_bad HL.out HB.out (.inl (by omega)))
   go_enter Tryz.func31,Tryz.ntmps31;go_wp2;go_ret3;exact⟨⟨⟨#[]⟩,by rw[HN.out],by rw[HN.out];rfl⟩,Below.refl _ _⟩
  ·by_cases hsh:(s.size:Int)<1+(b:Int)
   ·have HN:=zh (refTake_bad HL.out HB.out (.inr (.inl (by have:=HTL.out;omega))))
    go_enter Tryz.func31,Tryz.ntmps31;go_wp2;go_ret3;exact⟨⟨⟨#[]⟩,by rw[HN.out],by rw[HN.out];rfl⟩,Below.refl _ _⟩
   ·by_cases hz:∃hb0:0<b,s[1]'(by omega)=0
    ·obtain⟨hb0,hz⟩:=hz
     have hx1:(1:Int)<(s.size:Int):=by omega
     have hz':((s[1]'(by omega)).toNat:Int)=0:=by rw[hz];rfl
     have HN:=zh (refTake_bad HL.out HB.out (.inr (.inr ⟨hb0,by
      have h:=HG.out 0 (by omega);rw[hz]at h
      rw[List.head?_eq_getElem?,h]⟩)))
     clear hz;go_enter Tryz.func31,Tryz.ntmps31;go_wp2;go_ret3;exact⟨⟨⟨#[]⟩,by rw[HN.out],by rw[HN.out];rfl⟩,Below.refl _ _⟩
    ·have HOK:Hid (tk s.data.toList=(val (t.take b),t.drop b,0)):=by
      show _=_
      rw[HL.out];refine tk_ok HB.out (by omega) (by have:=HTL.out;omega) ?_;by_cases hb0:b=0
      ·exact .inl hb0
      ·refine .inr fun h=>hz ⟨by omega,?_⟩
       rw[List.head?_eq_getElem?,HG.out 0 (by omega)]at h;exact Option.some.inj h
     by_cases hb0:0<b
     ·have hx1:(1:Int)<(s.size:Int):=by omega
      have hzz:(((s[1]'(by omega)).toNat:Int)==0)=false:=by
       have:(s[1]'(by omega)).toNat≠0:=fun h=>hz ⟨hb0,u8_zero.2 h⟩
       simp;omega
      clear hz;go_enter Tryz.func31,Tryz.ntmps31;go_wp2;go_loop [5,7] (fun n i=>∃i' v:Nat,1≤i'∧i'≤b+1∧i = .int .i64 i'∧n = .int .u64 v∧Hid (val (t.take (i'-1))=v)) (fun _ i=>b+1-(intOf i).toNat);case atStart=>exact⟨1,0,by omega,by omega,rfl,rfl,rfl⟩
      case round=>
       obtain⟨i,v,hi1,hi2,rfl,rfl,HV⟩:=hrel;by_cases hlt:i<b+1
       ·have his:i<s.size:=by omega
        have hgi:=HG.out (i-1) (by omega);have hit:i-1<t.length:=by have:=HTL.out;omega
        have hval:=val_take hit;have hv7:val (t.take (i-1))<72057594037927936:=val_lt7 (by rw[List.length_take];omega);rw[HV.out]at hval hv7;obtain⟨c,hc⟩:∃c:Nat,(s[i]'his).toNat=c:=⟨_,rfl⟩
        have hc1:c<256:=by have:=u8_lt (s[i]'his);omega
        have hte:(t[i-1]'hit).toNat=c:=by
         rw[List.getElem?_eq_getElem hit]at hgi;have h:=Option.some.inj hgi;rw[h,←hc];first|done|(congr 2<;>omega)
        rw[hte]at hval;have HVV:=zh hval;have hi3:(i:Int)<(s.size:Int):=by omega
        clear hval hgi hte;go_wp2;go_round
        case rel=>
         refine⟨i+1,v*256+c,by omega,by omega,by go_num,by go_num,?_⟩;have h:=HVV.out;rw[show i-1+1=i+1-1 by omega]at h;exact h
        case measure=>simp[intOf];omega
       ·obtain rfl:i=b+1:=by omega
        have hk1:(1:Int)+(b:Int)≤(s.size:Int):=by omega
        have hk0:(0:Int)≤1+(b:Int):=by omega
        go_wp2;go_quiet (fail);go_wp2;go_ret3;rw[HOK.out]
        have hd:(s.extract (1+b) s.size).data.toList=t.drop b:=by
         rw[extract_drop,HL.out,Nat.add_comm,List.drop_succ_cons]
        have hv:v=val (t.take b):=HV.out.symm;subst hv;exact⟨⟨_,hd,rfl⟩,bdrew _ _⟩
     ·clear hz
      go_enter Tryz.func31,Tryz.ntmps31;go_wp2;go_loop [5,7] (fun n i=>∃i' v:Nat,1≤i'∧i'≤b+1∧i = .int .i64 i'∧n = .int .u64 v∧Hid (val (t.take (i'-1))=v)) (fun _ i=>b+1-(intOf i).toNat);case atStart=>exact⟨1,0,by omega,by omega,rfl,rfl,rfl⟩
      case round=>
       obtain⟨i,v,hi1,hi2,rfl,rfl,HV⟩:=hrel;by_cases hlt:i<b+1
       ·exact absurd hlt (by omega)
       ·obtain rfl:i=b+1:=by omega
        have hk1:(1:Int)+(b:Int)≤(s.size:Int):=by omega
        have hk0:(0:Int)≤1+(b:Int):=by omega
        go_wp2;go_quiet (fail);go_wp2;go_ret3;rw[HOK.out]
        have hd:(s.extract (1+b) s.size).data.toList=t.drop b:=by
         rw[extract_drop,HL.out,Nat.add_comm,List.drop_succ_cons]
        have hv:v=val (t.take b):=HV.out.symm;subst hv;exact⟨⟨_,hd,rfl⟩,bdrew _ _⟩
 ·have hn:s.data.toList = []:=by
   rw[Lib.size_eq]at h0;exact List.eq_nil_of_length_eq_zero (by omega)
  have he:s.toList.isEmpty=true:=by rw[Lib.toList_data,hn];rfl
  have HN:=zh hn;clear hn;go_enter Tryz.func31,Tryz.ntmps31;go_wp2;go_ret3;exact⟨⟨⟨#[]⟩,by rw[HN.out];rfl,by rw[HN.out];rfl⟩,Below.refl _ _⟩
set_option maxRecDepth 1000000 in
theorem refText_any (s:ByteArray) (m:Int) (w:World) (hs:s.size≤140737488355328) (hm:-9223372036854775808≤m∧m≤9223372036854775807):
 Calls Tryz.prog 49 #[.string s,.int .i64 m] w fun e w'=>Tx (text s.data.toList m) e∧Below w.heap.size w w':=by
 obtain⟨hm1,hm2⟩:=hm;rcases take_tk (l:=s.data.toList)with⟨h1,h2⟩|⟨n,r,h1,h2,hn⟩
 ·have H1:Hid (text s.data.toList m=([],[],2)):=by show _=_;unfold text;rw[h1]
  have H2:=zh h2;clear h1 h2;go_enter Tryz.func49,Tryz.ntmps49;go_wp2_with fail;refine(refTake_any _ _ hs).mono ?_;rw[H2.out];rintro e w1 ⟨⟨R,hR,rfl⟩,hb⟩;dsimp only at hR⊢;have HB:=zh hb;clear hR hb;go_wp2;go_ret3;rw[H1.out];exact⟨⟨⟨#[]⟩,⟨#[]⟩,rfl,rfl,rfl⟩,HB.out⟩
 ·have hrl:=(take_len h1).1
  rw[←Lib.size_eq]at hrl;have H2:=zh h2;have HN:=zh hn;have hte:text s.data.toList m=if max m 0<(n:Int)then([],[],10)else if r.length<n then([],[],2)else(r.take n,r.drop n,0):=by unfold text;rw[h1]
  clear h1 h2 hn;by_cases hb:max m 0<(n:Int)
  ·rw[if_pos hb]at hte
   have H1:=zh hte;clear hte;by_cases hm0:m<0
   ·have hb':(0:Int)<n:=by omega
    clear hb;go_enter Tryz.func49,Tryz.ntmps49;go_wp2_with fail;refine(refTake_any _ _ hs).mono ?_;rw[H2.out];rintro e w1 ⟨⟨R,hR,rfl⟩,hbl⟩;dsimp only at hR⊢;have HBL:=zh hbl;have hz:R.size=r.length:=by rw[Lib.size_eq,hR]
    have h6:(R.size:Int)≤140737488355328:=by omega
    clear hR hbl hz;go_wp2;go_ret3;rw[H1.out];exact⟨⟨⟨#[]⟩,⟨#[]⟩,rfl,rfl,rfl⟩,HBL.out⟩
   ·have hb':m<(n:Int):=by omega
    clear hb;go_enter Tryz.func49,Tryz.ntmps49;go_wp2_with fail;refine(refTake_any _ _ hs).mono ?_;rw[H2.out];rintro e w1 ⟨⟨R,hR,rfl⟩,hbl⟩;dsimp only at hR⊢;have HBL:=zh hbl;have hz:R.size=r.length:=by rw[Lib.size_eq,hR]
    have h6:(R.size:Int)≤140737488355328:=by omega
    clear hR hbl hz;go_wp2;go_ret3;rw[H1.out];exact⟨⟨⟨#[]⟩,⟨#[]⟩,rfl,rfl,rfl⟩,HBL.out⟩
  ·rw[if_neg hb]at hte
   by_cases hlt:r.length<n
   ·rw[if_pos hlt]at hte
    have H1:=zh hte;clear hte;by_cases hm0:m<0
    ·exact absurd hlt (by omega)
    ·have hb':(n:Int)≤m:=by omega
     clear hb;go_enter Tryz.func49,Tryz.ntmps49;go_wp2_with fail;refine(refTake_any _ _ hs).mono ?_;rw[H2.out];rintro e w1 ⟨⟨R,hR,rfl⟩,hbl⟩;dsimp only at hR⊢;have HBL:=zh hbl;have hz:R.size=r.length:=by rw[Lib.size_eq,hR]
     have h6:(R.size:Int)≤140737488355328:=by omega
     have h5:((R.size:Nat):Int)<(n:Int):=by omega
     clear hR hbl hz;go_wp2;go_ret3;rw[H1.out];exact⟨⟨⟨#[]⟩,⟨#[]⟩,rfl,rfl,rfl⟩,HBL.out⟩
   ·rw[if_neg hlt]at hte
    have H1:=zh hte;clear hte;by_cases hm0:m<0
    ·have hb':(n:Int)≤0:=by omega
     clear hb;go_enter Tryz.func49,Tryz.ntmps49;go_wp2_with fail;refine(refTake_any _ _ hs).mono ?_;rw[H2.out];rintro e w1 ⟨⟨R,hR,rfl⟩,hbl⟩;dsimp only at hR⊢;have HBL:=zh hbl;have hz:R.size=r.length:=by rw[Lib.size_eq,hR]
     have h6:(R.size:Int)≤140737488355328:=by omega
     have h5:(n:Int)≤((R.size:Nat):Int):=by omega
     have h7:(0:Int)≤(n:Int):=by omega
     have HR:=zh hR;clear hR hbl hz;go_wp2;go_quiet (fail);go_wp2;go_ret3;rw[H1.out];refine⟨⟨_,_,?_,?_,rfl⟩,HBL.out.trans (bdrew _ _)⟩
     ·rw[extract_take,HR.out]
     ·rw[extract_drop,HR.out]
    ·have hb':(n:Int)≤m:=by omega
     clear hb;go_enter Tryz.func49,Tryz.ntmps49;go_wp2_with fail;refine(refTake_any _ _ hs).mono ?_;rw[H2.out];rintro e w1 ⟨⟨R,hR,rfl⟩,hbl⟩;dsimp only at hR⊢;have HBL:=zh hbl;have hz:R.size=r.length:=by rw[Lib.size_eq,hR]
     have h6:(R.size:Int)≤140737488355328:=by omega
     have h5:(n:Int)≤((R.size:Nat):Int):=by omega
     have h7:(0:Int)≤(n:Int):=by omega
     have HR:=zh hR;clear hR hbl hz;go_wp2;go_quiet (fail);go_wp2;go_ret3;rw[H1.out];refine⟨⟨_,_,?_,?_,rfl⟩,HBL.out.trans (bdrew _ _)⟩
     ·rw[extract_take,HR.out]
     ·rw[extract_drop,HR.out]
end Go.Proofs.YtmihiknebelkbaaGreat.Wire
namespace Go.Proofs.YtmihiknebelkbaaGreat.Wire
open Go.RowKit
def RPut (w:World) (n k:Nat) (v:Value) (wr:World):Prop:=∃D:List UInt8,wr.ownsRow w.heap.size 5 1 v D.length (D.map by8)∧dig n=dig k++D∧Below w.heap.size w wr
set_option maxRecDepth 1000000 in
theorem refPut_any (n:Nat) (w:World) (hn:n<18446744073709551616):
 Calls Tryz.prog 26 #[.int .u64 n] w fun e w'=>St (put n) e∧Below w.heap.size w w':=by
 have HN:=zh hn;have hn':(n:Int)≤18446744073709551615:=by omega
 obtain⟨i0,hi0,hz0,hz1,hz2⟩:=info_parts byte_info;clear hn;go_enter Tryz.func26,Tryz.ntmps26;go_wp2;go_loopw [0,3] (fun m v wr=>∃k:Nat,k≤n∧m = .int .u64 k∧Hid (RPut w n k v wr)) (fun m _ _=>(intOf m).toNat);case atStart=>exact⟨n,Nat.le_refl _,rfl,[],World.ownsRow_nil _ _ _ _,by simp,Below.refl _ _⟩
 case round=>
  obtain⟨k,hkn,rfl,HP⟩:=hrel;obtain⟨D,ho,hd,hb⟩:=HP.out
  have hD8:D.length≤8:=by
   have:=dig_len8 HN.out;rw[hd,List.length_append]at this;omega
  have HO:=zh ho;have HD:=zh hd;have HB:=zh hb;clear hd hb;by_cases hk:0<k
  ·have hwr:IntKind.u8.wrap ((k:Int)%256)=(k:Int)%256:=by rw[IntKind.wrap_u8];omega
   have hlit:=World.ownsRow_lit (e:=5) (size:=1) (base:=w.heap.size) wr #[.int .u8 ((k:Int)%256)] 1 HB.out.size (by decide) rfl;have HLT:=zh hlit;clear hlit;rcases ho.2 with⟨rfl,h0⟩|⟨g,c,_,rfl,_⟩
   ·clear ho
    obtain rfl:D = []:=List.eq_nil_of_length_eq_zero h0;go_wp2_with (at_builtin;refine wpList_append_own_none rfl _ _ _ rfl w.heap.size 5 i0 1 Tryz.underlying87 hi0 _ 1 _ rfl HLT.out rfl ?_);go_roundw
    case rel=>
     refine⟨k/256,by omega,by go_num,[(k%256).toUInt8],?_,?_,HB.out.alloc HB.out.size _⟩
     ·have h:=HLT.out
      rw[List.map_cons,by8_nat];exact h
     ·rw[HD.out,dig_pos (by omega)];simp
    case measure=>simp[intOf];omega
   ·have hcells:=(HO.out.alloc (.cells #[.int .u8 ((k:Int)%256)] 5)).cells (g:=g) rfl
    have HC:=zh hcells;clear ho hcells
    go_wp2_with (
     at_builtin;refine wpList_append_own _ rfl _ _ _ rfl w.heap.size 5 i0 _ 1 1 Tryz.underlying87 hi0 hz0 hz1 hz2 rfl (by decide) _ 1 [.int .u8 ((k:Int)%256)] rfl ?c1 _ D.length c (D.map by8) rfl ?c0 ?c2 ?c3 ?c4 ?c5 ?c6 ?_;case c0=>simp
     case c1=>exact HLT.out
     case c2=>exact HC.out
     case c3=>exact by8_one D
     case c4=>simp only[maxLen];omega
     case c5=>omega
     case c6=>
      have h:=HB.out.size;simp only[World.alloc,Array.size_push];omega
     intro v6 w6 hown hgrow _;have HO6:=zh hown;have HG6:=zh hgrow
     clear hown hgrow)
    go_roundw
    case rel=>
     refine⟨k/256,by omega,by go_num,(k%256).toUInt8::D,?_,?_,?_⟩
     ·have h:=HO6.out
      rw[List.map_cons,by8_nat,List.length_cons,Nat.add_comm];exact h
     ·rw[HD.out,dig_pos (by omega)];simp
     ·refine(HB.out.alloc HB.out.size (.cells #[.int .u8 ((k:Int)%256)] 5)).grown HG6.out (by
       have:=HB.out.size;simp only[World.alloc,Array.size_push]
       omega) fun g hg=>?_
      exact(HLT.out.lt g hg).1
    case measure=>simp[intOf];omega
  ·obtain rfl:k=0:=by omega
   obtain⟨d,hdl⟩:∃d,D.length=d:=⟨_,rfl⟩
   have hput:put n=d.toUInt8::D:=by rw[put,HD.out,dig_zero,List.nil_append,hdl]
   have HPUT:=zh hput;rw[hdl]at ho hD8;have HDL:=zh hdl;have hw2:IntKind.u8.wrap (d:Int)=(d:Int):=by rw[IntKind.wrap_u8];omega
   have hc1:(convert 87 9 (.slice (some ⟨wr.heap.size,0,none⟩) 1 1)).run Tryz.prog (wr.alloc (Obj.cells #[Value.int IntKind.u8 (d:Int)] 5)) = .ok (.string ⟨#[d.toUInt8]⟩) (wr.alloc (Obj.cells #[Value.int IntKind.u8 (d:Int)] 5)):=conv_one _ _ d (by omega) (by simp);rcases ho.2 with⟨rfl,rfl⟩|⟨g,c,_,rfl,_⟩
   ·obtain rfl:D = []:=List.eq_nil_of_length_eq_zero hdl
    obtain⟨X,hX⟩:∃X:ByteArray,X=⟨#[(0:Nat).toUInt8]⟩:=⟨_,rfl⟩
    obtain⟨Y,hY⟩:∃Y:ByteArray,Y=⟨#[]⟩:=⟨_,rfl⟩
    have hc3:(convert 87 9 (.slice (some ⟨wr.heap.size,0,none⟩) 1 1)).run Tryz.prog (wr.alloc (Obj.cells #[Value.int IntKind.u8 0] 5)) = .ok (.string X) (wr.alloc (Obj.cells #[Value.int IntKind.u8 0] 5)):=by rw[hX];exact hc1
    have hc2:(convert 87 9 (.slice none 0 0)).run Tryz.prog (wr.alloc (Obj.cells #[Value.int IntKind.u8 0] 5)) = .ok (.string Y) (wr.alloc (Obj.cells #[Value.int IntKind.u8 0] 5)):=by
     rw[hY];exact Lib.run_convert_nil_bytes _ 87 9 5 0 Tryz.underlying87 Tryz.underlying5 Tryz.underlying9
    have hz1:Y.size≤8:=by rw[hY];exact Nat.zero_le _
    have hz2:X.size≤1:=by rw[hX];exact Nat.le_refl _
    have HHH:Hid ((X++Y).data.toList=put n):=by
     show _=_
     rw[app_data,hput,hX,hY];rfl
    clear ho hput hdl hD8 hc1 hw2 hX hY;go_wp2;go_ret;exact⟨⟨_,HHH.out,rfl⟩,HB.out.alloc HB.out.size _⟩
   ·have hcells:=(ho.alloc (.cells #[Value.int IntKind.u8 (d:Int)] 5)).cells (g:=g) rfl
    have hc2:=conv_tail (wr.alloc (Obj.cells #[Value.int IntKind.u8 (d:Int)] 5)) ⟨g,0,none⟩ c D (fun j hj=>hcells j _ (by rw[List.getElem?_map,List.getElem?_eq_getElem hj];rfl));rw[hdl]at hc2;obtain⟨X,hX⟩:∃X:ByteArray,X=⟨#[d.toUInt8]⟩:=⟨_,rfl⟩
    obtain⟨Y,hY⟩:∃Y:ByteArray,Y=⟨D.toArray⟩:=⟨_,rfl⟩
    have hz1:Y.size≤8:=by rw[hY,Lib.size_eq];simp[hdl];exact hD8
    have hz2:X.size≤1:=by rw[hX];exact Nat.le_refl _
    have HHH:Hid ((X++Y).data.toList=put n):=by
     show _=_
     rw[app_data,hput,hX,hY];rfl
    rw[←hX]at hc1;rw[←hY]at hc2;clear ho hput hdl hcells hX hY;go_wp2;go_ret;exact⟨⟨_,HHH.out,rfl⟩,HB.out.alloc HB.out.size _⟩
set_option maxRecDepth 1000000 in
theorem refPutText_any (t:ByteArray) (w:World) (ht:t.size≤140737488355000):
 Calls Tryz.prog 44 #[.string t] w fun e w'=>St (putText t.data.toList) e∧Below w.heap.size w w':=by
 have hz:t.data.toList.length=t.size:=(Lib.size_eq t).symm;have HZ:=zh hz;have hwr:IntKind.u64.wrap (t.size:Int)=(t.size:Int):=by rw[IntKind.wrap_u64];omega
 clear hz;go_enter Tryz.func44,Tryz.ntmps44;go_wp2_with (go_at_call 26;refine(refPut_any _ _ (by omega)).mono ?_;rintro e w1 ⟨⟨T,hT,rfl⟩,hb⟩;have HS:=put_size hT (by omega);have HT:=zh hT;have HB:=zh hb;clear hT hb);go_ret;exact⟨⟨T++t,by rw[app_data,HT.out,←HZ.out];rfl,rfl⟩,HB.out⟩
end Go.Proofs.YtmihiknebelkbaaGreat.Wire
