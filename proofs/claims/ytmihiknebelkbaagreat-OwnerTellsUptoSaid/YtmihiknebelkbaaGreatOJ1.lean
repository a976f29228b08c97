/-
  J1. By an AI agent.
-/
import Derived.Test.YtmihiknebelkbaaGreatOZ
import Derived.Test.YtmihiknebelkbaaGreatOMApp
import Derived.Test.YtmihiknebelkbaaGreatON1
import Derived.Test.YtmihiknebelkbaaGreatOT1
set_option linter.unusedSimpArgs false
set_option linter.unusedVariables false
namespace Go.Proofs.YtmihiknebelkbaaGreat.Dta
open Wire Term Draw Reg Clo
abbrev Tm:=List UInt8
end Go.Proofs.YtmihiknebelkbaaGreat.Dta
namespace Go.Proofs.YtmihiknebelkbaaGreat.Dta
open Wire Term Draw Reg Clo
def isPath (p:Tm):Bool:=(Txt.split p).isSome
structure Bb where
 ep:Int
 sl:Tm
 sg:Tm
def bzero:Bb:=⟨0,[],[]⟩
def BR (b:Bb):Prop:=(0≤b.ep∧b.ep≤7)∧kind b.sl=115∧kind b.sg=103
instance (b:Bb):Decidable (BR b):=by unfold BR;infer_instance
def txtT (s:Tm):Tm:=116::putText s
def ArgB (st:Tm) (ep:Int) (sn path:Tm):Prop:=(0≤ep∧ep≤7)∧right st=true∧right sn=true∧isPath path=true
instance (st:Tm) (ep:Int) (sn path:Tm):Decidable (ArgB st ep sn path):=by unfold ArgB;infer_instance
def row (b:Bb):Tm:=putAll [put b.ep.toNat,b.sl,b.sg]
def blobOf (l:List Tm):Bb:=⟨((tk (l.getD 0 [])).1:Int),l.getD 1 [],l.getD 2 []⟩
def rowOK (l:List Tm):Prop:=(tk (l.getD 0 [])).2.2=0∧(tk (l.getD 0 [])).2.1 = []∧(tk (l.getD 0 [])).1≤7
instance (l:List Tm):Decidable (rowOK l):=by unfold rowOK;infer_instance
def takeM (m:Int) (s:Tm):Bb×Int:=
 if(all s 3 m).2≠0∨(all s 3 m).1.length≠3 then(bzero,2)
 else if ¬(rowOK (all s 3 m).1∧BR (blobOf (all s 3 m).1))then(bzero,2)else(blobOf (all s 3 m).1,0)
def takeB (s:Tm):Bb×Int:=takeM 4000 s
def ArgO (b:Bb) (n:Nat) (st:Tm) (ep:Int):Prop:=BR b∧right st=true∧(0≤ep∧ep≤7)∧(n:Int)=ep+1
instance (b:Bb) (n:Nat) (st:Tm) (ep:Int):Decidable (ArgO b n st ep):=by unfold ArgO;infer_instance
theorem kind_is {t:Tm} {k:Nat} (h:kind t=k) (hk:k≠0):right t=true∧(t.headD 0).toNat=k:=by
 cases hr:right t with
 | true=>rw[kind_right hr]at h;exact⟨rfl,h⟩
 | false=>rw[kind_wrong hr]at h;exact absurd h.symm hk
theorem head_u8 {t:Tm} {k:UInt8} (h:(t.headD 0).toNat=k.toNat):t.headD 0=k:=UInt8.toNat_inj.1 h
theorem br_sl {b:Bb} (h:BR b):right b.sl=true∧b.sl.headD 0=115:=by
 obtain⟨h1,h2⟩:=kind_is h.2.1 (by decide);exact⟨h1,head_u8 h2⟩
theorem br_sg {b:Bb} (h:BR b):right b.sg=true∧b.sg.headD 0=103:=by
 obtain⟨h1,h2⟩:=kind_is h.2.2 (by decide);exact⟨h1,head_u8 h2⟩
theorem ep_put {e:Int} (h0:0≤e) (h7:e≤7):(put e.toNat).length≤9∧tk (put e.toNat)=(e.toNat,[],0):=by
 have hn:e.toNat<18446744073709551616:=by omega
 refine⟨(put_le hn).2,?_⟩;have:=take_put hn [];rw[List.append_nil]at this;exact tk_some this
theorem all_three {l:List Tm} {m:Nat} (h3:l.length=3) (hm:m<18446744073709551616) (h:∀t∈l,t.length≤m):all (putAll l) 3 (m:Int)=(l,0):=by
 have e1:take (putAll l)=some (l.length,l.flatMap putText):=take_put (by omega) _;refine all_ok e1 (by rw[h3];omega) ?_;have:=texts_put l [] (m:Int) [] (fun t ht=>⟨Nat.lt_of_le_of_lt (h t ht) hm,by have:=h t ht;omega⟩);rw[List.append_nil]at this;exact this
theorem br_lens {b:Bb} (h:BR b):b.sl.length≤4000∧b.sg.length≤4000:=⟨(right_len (br_sl h).1).2,(right_len (br_sg h).1).2⟩
theorem blobOf_row {b:Bb} (h:BR b):rowOK [put b.ep.toNat,b.sl,b.sg]∧blobOf [put b.ep.toNat,b.sl,b.sg]=b:=by
 obtain⟨h1,h2⟩:=ep_put h.1.1 h.1.2;have e1:([put b.ep.toNat,b.sl,b.sg]:List Tm).getD 0 []=put b.ep.toNat:=rfl;refine⟨?_,?_⟩
 ·unfold rowOK
  rw[e1,h2];exact⟨rfl,rfl,by have:=h.1;show b.ep.toNat≤7;omega⟩
 ·unfold blobOf
  rw[e1,h2];show(⟨(b.ep.toNat:Int),b.sl,b.sg⟩:Bb)=b
  rw[show(b.ep.toNat:Int)=b.ep by have:=h.1;omega]
theorem takeM_put {b:Bb} (h:BR b) {m:Nat} (hm:m<18446744073709551616) (h9:(put b.ep.toNat).length≤m) (hsl:b.sl.length≤m) (hsg:b.sg.length≤m):takeM (m:Int) (row b)=(b,0):=by
 obtain⟨h1,h2⟩:=ep_put h.1.1 h.1.2
 have e1:all (row b) 3 (m:Int)=([put b.ep.toNat,b.sl,b.sg],0):=all_three rfl hm fun t ht=>by
  rcases List.mem_cons.1 ht with rfl|ht
  ·exact h9
  ·rcases List.mem_cons.1 ht with rfl|ht
   ·exact hsl
   ·rw[List.mem_singleton.1 ht];exact hsg
 obtain⟨h3,h4⟩:=blobOf_row h;unfold takeM;rw[e1,if_neg (by rintro(h5|h5);exact h5 rfl;exact h5 rfl),if_neg (by rw[h4];exact fun h5=>h5 ⟨h3,h⟩),h4]
theorem takeB_put {b:Bb} (h:BR b):takeB (row b)=(b,0):=takeM_put (m:=4000) h (by omega) (by have:=(ep_put h.1.1 h.1.2).1;omega) (br_lens h).1 (br_lens h).2
theorem takeM_back {m:Int} {s:Tm} {b:Bb} (h:takeM m s=(b,0)):BR b∧s=row b:=by
 unfold takeM at h;split at h
 ·cases h
 ·rename_i h1
  have h1':(all s 3 m).2=0∧(all s 3 m).1.length=3:=⟨Decidable.not_not.1 fun h=>h1 (.inl h),Decidable.not_not.1 fun h=>h1 (.inr h)⟩
  split at h
  ·cases h
  ·rename_i h2
   obtain⟨h3,h4⟩:=Decidable.not_not.1 h2;have hb:blobOf (all s 3 m).1=b:=(Prod.mk.inj h).1;rw[hb]at h4;refine⟨h4,?_⟩;have h5:s=putAll (all s 3 m).1:=((all_back (l:=s) (a:=3) (b:=m) (x:=(all s 3 m).1) (e:=(all s 3 m).2) rfl).1 h1'.1).1
   obtain⟨x,y,z,hx⟩:∃x y z,(all s 3 m).1 = [x,y,z]:=by
    match hh:(all s 3 m).1,h1'.2 with
    | [x,y,z],_=>exact⟨x,y,z,rfl⟩
   rw[hx]at h3 h5 hb;rw[h5];unfold rowOK at h3;have e1:([x,y,z]:List Tm).getD 0 []=x:=rfl;rw[e1]at h3;cases ht:take x with
   | none=>rw[tk_none ht]at h3;exact absurd h3.1 (by decide)
   | some p=>
    obtain⟨n,r⟩:=p;rw[tk_some ht]at h3;have h6:=take_some ht;have hr:r = []:=h3.2.1;subst hr;rw[List.append_nil]at h6;unfold blobOf at hb;rw[e1,tk_some ht]at hb;subst hb;unfold row;show putAll [x,y,z]=putAll [put ((n:Int)).toNat,y,z]
    rw[show((n:Int)).toNat=n by omega,←h6.1]
theorem takeM_err {m:Int} {s:Tm}:(takeM m s).2=0∨takeM m s=(bzero,2):=by
 unfold takeM;split
 ·exact .inr rfl
 ·split
  ·exact .inr rfl
  ·exact .inl rfl
theorem mem_flat {t:Tm}:∀{l:List Tm},t∈l→(putText t).length≤(l.flatMap putText).length
 | x::l,h=>by
  rw[List.flatMap_cons,List.length_append];rcases List.mem_cons.1 h with rfl|h
  ·omega
  ·have:=mem_flat h;omega
theorem row_mem {b:Bb} {t:Tm} (h:t∈[put b.ep.toNat,b.sl,b.sg]):t.length≤(row b).length:=by
 have h1:=mem_flat h;rw[putText_len]at h1;unfold row putAll;rw[List.length_append];omega
theorem take_same (s:Tm) (hs:s.length<18446744073709551616):takeM (s.length:Int) s=takeB s:=by
 by_cases h:(takeB s).2=0
 ·obtain⟨b,hb⟩:∃b,takeB s=(b,0):=⟨(takeB s).1,by rw[←h]⟩
  obtain⟨h1,h2⟩:=takeM_back hb;rw[hb];conv=>lhs;rw[h2]
  rw[h2]at hs;exact takeM_put h1 hs (row_mem (by simp)) (row_mem (by simp)) (row_mem (by simp))
 ·have hn:takeB s=(bzero,2):=(takeM_err (m:=4000) (s:=s)).resolve_left h
  rw[hn];rcases takeM_err (m:=(s.length:Int)) (s:=s)with h1|h1
  ·exfalso
   obtain⟨b,hb⟩:∃b,takeM (s.length:Int) s=(b,0):=⟨(takeM (s.length:Int) s).1,by rw[←h1]⟩
   obtain⟨h2,h3⟩:=takeM_back hb;have:=takeB_put h2;rw[←h3]at this;rw[this]at hn;exact absurd (congrArg Prod.snd hn) (show ¬(0:Int)=2 by decide)
  ·exact h1
end Go.Proofs.YtmihiknebelkbaaGreat.Dta
namespace Go.Proofs.YtmihiknebelkbaaGreat.Tre
open Wire Term Draw Reg Clo
abbrev Tm:=List UInt8
def isLeaf (t:Tm):Bool:=decide (kind t=112)&&(decide (((pts t).getD 0 []).headD 0=116)&&decide (((pts t).getD 1 []).headD 0=97))
def fst (n:Nat):Nat:=if n≤2 then 1 else if n≤4 then 2 else 4
def over (a b:Tm):Tm×Int:=if(two 112 a b).2≠0 then([],(two 112 a b).2)else one 104 (two 112 a b).1
def treeD:Nat→List Tm→Tm×Int
 | 0,_=>([],0)
 | d+1,l=>if l.length=1 then one 104 (l.headD [])else
  if(treeD d (l.take (fst l.length))).2≠0 then([],(treeD d (l.take (fst l.length))).2)else
  if(treeD d (l.drop (fst l.length))).2≠0 then([],(treeD d (l.drop (fst l.length))).2)else
  over (treeD d (l.take (fst l.length))).1 (treeD d (l.drop (fst l.length))).1
def root (l:List Tm):Tm×Int:=if l.length<1∨8<l.length then([],1)else if ¬(∀t∈l,isLeaf t=true)then([],1)else treeD 4 l
end Go.Proofs.YtmihiknebelkbaaGreat.Tre
namespace Go.Proofs.YtmihiknebelkbaaGreat.Tre
open Wire Term Draw Reg Clo
def lf (f:Tm) (v:Nat):Tm:=112::(116::putText f++ofAtom v)
end Go.Proofs.YtmihiknebelkbaaGreat.Tre
namespace Go.Proofs.YtmihiknebelkbaaGreat.Frs
open Wire Term Draw Reg Clo
abbrev Tm:=List UInt8
structure Sp where
 own:Tm
 time:Nat
 many:Int
 root:Tm
 sig:Tm
def szero:Sp:=⟨[],0,0,[],[]⟩
def SR (s:Sp):Prop:=Txt.right s.own=true∧(0≤s.many∧s.many≤8)∧right s.root=true∧kind s.sig=103
instance (s:Sp):Decidable (SR s):=by unfold SR;infer_instance
def signedT (o:Tm) (t n:Nat) (r:Tm):Tm:=112::(Dta.txtT o++112::(ofAtom t++112::(ofAtom n++r)))
def rowS (s:Sp):Tm:=putAll [s.own,put s.time,put s.many.toNat,s.root,s.sig]
def putS (s:Sp):Tm×Int:=if SR s then(rowS s,0)else([],1)
def stampOf (l:List Tm):Sp:=⟨l.getD 0 [],(tk (l.getD 1 [])).1,((tk (l.getD 2 [])).1:Int),l.getD 3 [],l.getD 4 []⟩
def rowOK (l:List Tm):Prop:=((tk (l.getD 1 [])).2.2=0∧(tk (l.getD 1 [])).2.1 = [])∧((tk (l.getD 2 [])).2.2=0∧(tk (l.getD 2 [])).2.1 = [])∧(tk (l.getD 2 [])).1≤8
instance (l:List Tm):Decidable (rowOK l):=by unfold rowOK;infer_instance
def takeM (m:Int) (b:Tm):Sp×Int:=
 if(all b 5 m).2≠0∨(all b 5 m).1.length≠5 then(szero,2)
 else if ¬(rowOK (all b 5 m).1∧SR (stampOf (all b 5 m).1))then(szero,2)else(stampOf (all b 5 m).1,0)
def takeS (b:Tm):Sp×Int:=takeM 4000 b
theorem own_len {s:Sp} (h:SR s):s.own.length≤128:=(Txt.right_len h.1).2
theorem nat_put {n:Nat} (h:n<18446744073709551616):(put n).length≤9∧tk (put n)=(n,[],0):=by
 refine⟨(put_le h).2,?_⟩;have:=take_put h [];rw[List.append_nil]at this;exact tk_some this
theorem all_five {l:List Tm} {m:Nat} (h3:l.length=5) (hm:m<18446744073709551616) (h:∀t∈l,t.length≤m):all (putAll l) 5 (m:Int)=(l,0):=by
 have e1:take (putAll l)=some (l.length,l.flatMap putText):=take_put (by omega) _;refine all_ok e1 (by rw[h3];omega) ?_;have:=texts_put l [] (m:Int) [] (fun t ht=>⟨Nat.lt_of_le_of_lt (h t ht) hm,by have:=h t ht;omega⟩);rw[List.append_nil]at this;exact this
theorem sig_right {s:Sp} (h:SR s):right s.sig=true∧s.sig.headD 0=103:=by
 obtain⟨h1,h2⟩:=Dta.kind_is h.2.2.2 (by decide);exact⟨h1,Dta.head_u8 h2⟩
theorem stampOf_row {s:Sp} (h:SR s) (ht:s.time<18446744073709551616):rowOK [s.own,put s.time,put s.many.toNat,s.root,s.sig]∧stampOf [s.own,put s.time,put s.many.toNat,s.root,s.sig]=s:=by
 have h1:=(nat_put ht).2;have h2:=(nat_put (n:=s.many.toNat) (by have:=h.2.1;omega)).2;have e1:([s.own,put s.time,put s.many.toNat,s.root,s.sig]:List Tm).getD 1 []=put s.time:=rfl;have e2:([s.own,put s.time,put s.many.toNat,s.root,s.sig]:List Tm).getD 2 []=put s.many.toNat:=rfl;refine⟨?_,?_⟩
 ·unfold rowOK
  rw[e1,e2,h1,h2];exact⟨⟨rfl,rfl⟩,⟨rfl,rfl⟩,by have:=h.2.1;show s.many.toNat≤8;omega⟩
 ·unfold stampOf
  rw[e1,e2,h1,h2];show(⟨s.own,s.time,(s.many.toNat:Int),s.root,s.sig⟩:Sp)=s
  rw[show(s.many.toNat:Int)=s.many by have:=h.2.1;omega]
theorem takeM_put {s:Sp} (h:SR s) (ht:s.time<18446744073709551616) {m:Nat} (hm:m<18446744073709551616) (hl:∀t∈[s.own,put s.time,put s.many.toNat,s.root,s.sig],t.length≤m):takeM (m:Int) (rowS s)=(s,0):=by
 have e1:all (rowS s) 5 (m:Int)=([s.own,put s.time,put s.many.toNat,s.root,s.sig],0):=all_five rfl hm hl;obtain⟨h3,h4⟩:=stampOf_row h ht;unfold takeM;rw[e1,if_neg (by rintro(h5|h5);exact h5 rfl;exact h5 rfl),if_neg (by rw[h4];exact fun h5=>h5 ⟨h3,h⟩),h4]
theorem takeS_put {s:Sp} (h:SR s) (ht:s.time<18446744073709551616):takeS (rowS s)=(s,0):=by
 refine takeM_put (m:=4000) h ht (by omega) fun t ht'=>?_
 have h1:=own_len h;have h2:=(nat_put ht).1;have h3:=(nat_put (n:=s.many.toNat) (by have:=h.2.1;omega)).1;have h4:=(right_len h.2.2.1).2;have h5:=(right_len (sig_right h).1).2;simp only[List.mem_cons,List.not_mem_nil,or_false]at ht';rcases ht' with rfl|rfl|rfl|rfl|rfl<;>omega
theorem takeM_err {m:Int} {b:Tm}:(takeM m b).2=0∨takeM m b=(szero,2):=by
 unfold takeM;split
 ·exact .inr rfl
 ·split
  ·exact .inr rfl
  ·exact .inl rfl
theorem takeM_back {m:Int} {b:Tm} {s:Sp} (h:takeM m b=(s,0)):SR s∧b=rowS s∧s.time<18446744073709551616:=by
 unfold takeM at h;split at h
 ·cases h
 ·rename_i h1
  have h1':(all b 5 m).2=0∧(all b 5 m).1.length=5:=⟨Decidable.not_not.1 fun h=>h1 (.inl h),Decidable.not_not.1 fun h=>h1 (.inr h)⟩
  split at h
  ·cases h
  ·rename_i h2
   obtain⟨h3,h4⟩:=Classical.not_not.1 h2;have hb:stampOf (all b 5 m).1=s:=(Prod.mk.inj h).1;rw[hb]at h4;have h5:b=putAll (all b 5 m).1:=((all_back (l:=b) (a:=5) (b:=m) (x:=(all b 5 m).1) (e:=(all b 5 m).2) rfl).1 h1'.1).1
   obtain⟨x0,x1,x2,x3,x4,hx⟩:∃x0 x1 x2 x3 x4,(all b 5 m).1 = [x0,x1,x2,x3,x4]:=by
    match hh:(all b 5 m).1,h1'.2 with
    | [x0,x1,x2,x3,x4],_=>exact⟨x0,x1,x2,x3,x4,rfl⟩
   rw[hx]at h3 h5 hb;unfold rowOK at h3;have e1:([x0,x1,x2,x3,x4]:List Tm).getD 1 []=x1:=rfl;have e2:([x0,x1,x2,x3,x4]:List Tm).getD 2 []=x2:=rfl;rw[e1,e2]at h3
   have num:∀{x:Tm},(tk x).2.2=0∧(tk x).2.1 = []→x=put (tk x).1∧(tk x).1<18446744073709551616:=fun {x} hh=>by
    cases ht:take x with
    | none=>rw[tk_none ht]at hh;exact absurd hh.1 (by decide)
    | some p=>
     obtain⟨n,r⟩:=p;rw[tk_some ht]at hh⊢;have h6:=take_some ht;have hr:r = []:=hh.2;subst hr;rw[List.append_nil]at h6;exact⟨h6.1,h6.2⟩
   obtain⟨n1,n2⟩:=num h3.1;obtain⟨m1,m2⟩:=num h3.2.1;unfold stampOf at hb;rw[e1,e2]at hb;subst hb;refine⟨h4,?_,n2⟩;rw[h5];unfold rowS;show putAll [x0,x1,x2,x3,x4]=putAll [x0,put (tk x1).1,put (((tk x2).1:Int)).toNat,x3,x4]
   rw[show(((tk x2).1:Int)).toNat=(tk x2).1 by omega,←n1,←m1]
end Go.Proofs.YtmihiknebelkbaaGreat.Frs
namespace Go.Proofs.YtmihiknebelkbaaGreat.Frs
open Wire Term Draw Reg Clo
def userT:Tm:=[117,115,101,114]
def secU (who:Tm):Tm:=sech userT who 1
def pubU (who:Tm):Tm:=117::secU who
def sgT (u o:Tm) (t n:Nat) (r:Tm):Tm:=103::(secU u++signedT o t n r)
end Go.Proofs.YtmihiknebelkbaaGreat.Frs
namespace Go.Proofs.YtmihiknebelkbaaGreat.Frs
open Wire Term Draw Reg Clo
def Near (a b:Tm):Prop:=a.length=b.length∧∃k:Nat,∀i:Nat,i≠k→a[i]? = b[i]?
theorem Near.tail {P a b:Tm} (h:Near (P++a) (P++b)):Near a b:=by
 obtain⟨h1,k,hk⟩:=h;refine⟨by simp only[List.length_append]at h1;omega,k-P.length,fun i hi=>?_⟩;by_cases h2:P.length+i=k
 ·omega
 ·have:=hk (P.length+i) h2
  rw[List.getElem?_append_right (by omega),List.getElem?_append_right (by omega),show P.length+i-P.length=i by omega]at this;exact this
theorem Near.rest {A B a b:Tm} (h:Near (A++a) (B++b)) (hl:A.length=B.length) (hne:A≠B):a=b:=by
 obtain⟨h1,k,hk⟩:=h
 have hkA:k<A.length:=by
  refine Classical.byContradiction fun hc=>hne (List.ext_getElem? fun i=>?_)
  by_cases hi:i<A.length
  ·have:=hk i (by omega)
   rw[List.getElem?_append_left hi,List.getElem?_append_left (by omega)]at this;exact this
  ·rw[List.getElem?_eq_none (by omega),List.getElem?_eq_none (by omega)]
 refine List.ext_getElem? fun i=>?_
 have:=hk (A.length+i) (by omega);rw[List.getElem?_append_right (by omega),List.getElem?_append_right (by omega),show A.length+i-A.length=i by omega,show A.length+i-B.length=i by omega]at this;exact this
def rowE (o:Tm) (t n:Nat) (x:Tm):Tm:=putAll [o,put t,put n,x,sgT o o t n x]
theorem row_mem {s:Sp} {t:Tm} (h:t∈[s.own,put s.time,put s.many.toNat,s.root,s.sig]):t.length≤(rowS s).length:=by
 have h1:=Dta.mem_flat h;rw[putText_len]at h1;unfold rowS putAll;rw[List.length_append];omega
theorem take_same (b:Tm) (hb:b.length<18446744073709551616):takeM (b.length:Int) b=takeS b:=by
 by_cases h:(takeS b).2=0
 ·obtain⟨s,hs⟩:∃s,takeS b=(s,0):=⟨(takeS b).1,by rw[←h]⟩
  obtain⟨h1,h2,h3⟩:=takeM_back hs;rw[hs];conv=>lhs;rw[h2]
  rw[h2]at hb;exact takeM_put h1 h3 hb (fun t ht=>row_mem ht)
 ·have hn:takeS b=(szero,2):=(takeM_err (m:=4000) (b:=b)).resolve_left h
  rw[hn];rcases takeM_err (m:=(b.length:Int)) (b:=b)with h1|h1
  ·exfalso
   obtain⟨s,hs⟩:∃s,takeM (b.length:Int) b=(s,0):=⟨(takeM (b.length:Int) b).1,by rw[←h1]⟩
   obtain⟨h2,h3,h4⟩:=takeM_back hs;have:=takeS_put h2 h4;rw[←h3]at this;rw[this]at hn;exact absurd (Prod.mk.inj hn).2 (by decide)
  ·exact h1
end Go.Proofs.YtmihiknebelkbaaGreat.Frs
namespace Go.Proofs.YtmihiknebelkbaaGreat.Frs
open Go.RowKit Wire Term Reg
theorem Bel.call {w0 w1 w2:World} (h:Below w0.heap.size w0 w1) (h2:Below w1.heap.size w1 w2):Below w0.heap.size w0 w2:=h.trans (h2.mono h.size)
def C5 (g:Nat) (w:World) (a b c d e:Value):Prop:=(g<w.heap.size∧w.cell? ⟨g,0,none⟩=some a∧w.cell? ⟨g,1,none⟩=some b∧w.cell? ⟨g,2,none⟩=some c∧w.cell? ⟨g,3,none⟩=some d∧w.cell? ⟨g,4,none⟩=some e) ∧
 w.frozen? ⟨g,0,none⟩=false∧w.frozen? ⟨g,1,none⟩=false∧w.frozen? ⟨g,2,none⟩=false∧w.frozen? ⟨g,3,none⟩=false∧w.frozen? ⟨g,4,none⟩=false
theorem C5.below {g:Nat} {w w1:World} {a b c d e:Value} (h:C5 g w a b c d e) (hb:Below w.heap.size w w1):C5 g w1 a b c d e:=by
 obtain⟨⟨h0,h1,h2,h3,h4,h5⟩,f0,f1,f2,f3,f4⟩:=h;have ec:=fun j=>hb.cell (p:=⟨g,j,none⟩) h0
 have ef:=fun j=>hb.frozen (p:=⟨g,j,none⟩) h0
 exact⟨⟨Nat.lt_of_lt_of_le h0 hb.size,(ec 0).trans h1,(ec 1).trans h2,(ec 2).trans h3,(ec 3).trans h4,(ec 4).trans h5⟩,(ef 0).trans f0,(ef 1).trans f1,(ef 2).trans f2,(ef 3).trans f3,(ef 4).trans f4⟩
theorem c5_new (w:World) (a b c d e:Value) (t:TypeId):C5 w.heap.size (w.alloc (.cells #[a,b,c,d,e] t)) a b c d e:=by
 have h:∀j,(w.alloc (.cells #[a,b,c,d,e] t)).frozen? ⟨w.heap.size,j,none⟩=false:=fun j=>by
  unfold World.frozen?;rw[heap_alloc_new];simp
 refine⟨⟨by simp,?_,?_,?_,?_,?_⟩,h 0,h 1,h 2,h 3,h 4⟩<;>simp[go_sem]
theorem C5.set {g j:Nat} {w:World} {a b c d e v:Value} (h:C5 g w a b c d e) (hj:j<5):
 C5 g (w.setCell ⟨g,j,none⟩ v) (if j=0 then v else a) (if j=1 then v else b) (if j=2 then v else c) (if j=3 then v else d) (if j=4 then v else e):=by
 obtain⟨⟨h0,h1,h2,h3,h4,h5⟩,f0,f1,f2,f3,f4⟩:=h;have hjj:j=0∨j=1∨j=2∨j=3∨j=4:=by omega
 rcases hjj with rfl|rfl|rfl|rfl|rfl <;>
  exact⟨⟨by simpa using h0,by simp[World.cell?_setCell_other,World.cell?_setCell_same',h0,h1,h2,h3,h4,h5],by simp[World.cell?_setCell_other,World.cell?_setCell_same',h0,h1,h2,h3,h4,h5],by simp[World.cell?_setCell_other,World.cell?_setCell_same',h0,h1,h2,h3,h4,h5],by simp[World.cell?_setCell_other,World.cell?_setCell_same',h0,h1,h2,h3,h4,h5],by simp[World.cell?_setCell_other,World.cell?_setCell_same',h0,h1,h2,h3,h4,h5]⟩,(World.frozen?_setCell ..).trans f0,(World.frozen?_setCell ..).trans f1,(World.frozen?_setCell ..).trans f2,(World.frozen?_setCell ..).trans f3,(World.frozen?_setCell ..).trans f4⟩
theorem C5.set1 {g:Nat} {w:World} {a b c d e v:Value} (h:C5 g w a b c d e):C5 g (w.setCell ⟨g,1,none⟩ v) a v c d e:=h.set (j:=1) (by omega)
theorem C5.set2 {g:Nat} {w:World} {a b c d e v:Value} (h:C5 g w a b c d e):C5 g (w.setCell ⟨g,2,none⟩ v) a b v d e:=h.set (j:=2) (by omega)
theorem C5.set3 {g:Nat} {w:World} {a b c d e v:Value} (h:C5 g w a b c d e):C5 g (w.setCell ⟨g,3,none⟩ v) a b c v e:=h.set (j:=3) (by omega)
theorem C5.set4 {g:Nat} {w:World} {a b c d e v:Value} (h:C5 g w a b c d e):C5 g (w.setCell ⟨g,4,none⟩ v) a b c d v:=h.set (j:=4) (by omega)
def set5 (w:World) (g:Nat) (a b c d e:Value):World:=((((w.setCell ⟨g,0,none⟩ a).setCell ⟨g,1,none⟩ b).setCell ⟨g,2,none⟩ c).setCell ⟨g,3,none⟩ d).setCell ⟨g,4,none⟩ e
theorem bel_set5 {w0 w:World} {g B:Nat} {a b c d e:Value} (h:Below B w0 w) (hg:B≤g):Below B w0 (set5 w g a b c d e):=((((h.setCell hg a).setCell hg b).setCell hg c).setCell hg d).setCell hg e
theorem c5_set5 {g:Nat} {w:World} {a b c d e a' b' c' d' e':Value} (h:C5 g w a b c d e):C5 g (set5 w g a' b' c' d' e') a' b' c' d' e':=by
 have h0:C5 g (w.setCell ⟨g,0,none⟩ a') a' b c d e:=h.set (j:=0) (by omega);exact(((h0.set1).set2).set3).set4
theorem C5.other {g b0 j:Nat} {w:World} {a b c d e v:Value} (h:C5 g w a b c d e) (hne:g≠b0):C5 g (w.setCell ⟨b0,j,none⟩ v) a b c d e:=by
 obtain⟨⟨h0,h1,h2,h3,h4,h5⟩,f0,f1,f2,f3,f4⟩:=h;have hn:∀i,(⟨b0,j,none⟩:Addr)≠⟨g,i,none⟩:=fun i e=>hne (by injection e with e1 _ _;exact e1.symm)
 exact⟨⟨by simpa using h0,by rw[World.cell?_setCell_other _ _ _ _ (hn 0)];exact h1,by rw[World.cell?_setCell_other _ _ _ _ (hn 1)];exact h2,by rw[World.cell?_setCell_other _ _ _ _ (hn 2)];exact h3,by rw[World.cell?_setCell_other _ _ _ _ (hn 3)];exact h4,by rw[World.cell?_setCell_other _ _ _ _ (hn 4)];exact h5⟩,(World.frozen?_setCell ..).trans f0,(World.frozen?_setCell ..).trans f1,(World.frozen?_setCell ..).trans f2,(World.frozen?_setCell ..).trans f3,(World.frozen?_setCell ..).trans f4⟩
def IsS (v:Value) (s:Sp):Prop:=∃O R G:ByteArray,O.data.toList=s.own∧R.data.toList=s.root∧G.data.toList=s.sig∧v = .agg #[.string O,.int .u64 (s.time:Int),.int .i64 s.many,.string R,.string G]
def Zs:Value:=.agg #[.string ⟨#[]⟩,.int .u64 0,.int .i64 0,.string ⟨#[]⟩,.string ⟨#[]⟩]
theorem zs_is:IsS Zs szero:=⟨⟨#[]⟩,⟨#[]⟩,⟨#[]⟩,rfl,rfl,rfl,rfl⟩
def Ss (x:Sp×Int) (e:Ending):Prop:=∃v,IsS v x.1∧e = .returned (.tuple #[v,.int .i64 x.2])
def S1 (x:Sp) (e:Ending):Prop:=∃v,IsS v x∧e = .returned v
theorem ss_open {s:Sp} {f:Int} {e:Ending} (h:Ss (s,f) e):∃O R G:ByteArray,O.data.toList=s.own∧R.data.toList=s.root∧G.data.toList=s.sig∧e = .returned (.tuple #[.agg #[.string O,.int .u64 (s.time:Int),.int .i64 s.many,.string R,.string G],.int .i64 f]):=by
 obtain⟨v,⟨O,R,G,h1,h2,h3,rfl⟩,rfl⟩:=h;exact⟨O,R,G,h1,h2,h3,rfl⟩
theorem s1_open {s:Sp} {e:Ending} (h:S1 s e):∃O R G:ByteArray,O.data.toList=s.own∧R.data.toList=s.root∧G.data.toList=s.sig∧e = .returned (.agg #[.string O,.int .u64 (s.time:Int),.int .i64 s.many,.string R,.string G]):=by
 obtain⟨v,⟨O,R,G,h1,h2,h3,rfl⟩,rfl⟩:=h;exact⟨O,R,G,h1,h2,h3,rfl⟩
theorem str_eq {S H:ByteArray} (h:S.data.toList=H.data.toList):S=H:=by
 cases S with
 | mk d=>cases H with
  | mk d'=>
   have:d=d':=Array.toList_inj.1 h;rw[this]
theorem str_nil {S:ByteArray} (h:S.data.toList = []):S=⟨#[]⟩:=by
 cases S with
 | mk d=>cases d with
  | mk l=>simp at h;rw[h]
theorem s1_zero {e:Ending} (h:S1 szero e):e = .returned (.agg #[.string ⟨#[]⟩,.int .u64 0,.int .i64 0,.string ⟨#[]⟩,.string ⟨#[]⟩]):=by
 obtain⟨O,R,G,h1,h2,h3,rfl⟩:=s1_open h;rw[str_nil h1,str_nil h2,str_nil h3];rfl
theorem st_fix {l:Tm} {e:Ending} (h:St l e):e = .returned (.string ⟨⟨l⟩⟩):=by
 obtain⟨T,hT,rfl⟩:=h
 have:T=⟨⟨l⟩⟩:=by
  cases T with
  | mk d=>cases d with
   | mk x=>simp at hT;rw[hT]
 rw[this]
end Go.Proofs.YtmihiknebelkbaaGreat.Frs
