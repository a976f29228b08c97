/-
  MAll, MBack. By an AI agent.
-/
import Derived.Test.YtmihiknebelkbaaGreatOZ
import Derived.Test.YtmihiknebelkbaaGreatOMRight
import Derived.Test.YtmihiknebelkbaaGreatOT1
import Derived.Test.YtmihiknebelkbaaGreatOMApp
import Derived.Test.YtmihiknebelkbaaGreatOG1
set_option linter.unusedSimpArgs false
namespace Go.Proofs.YtmihiknebelkbaaGreat.Mta
open Go.RowKit Wire Term Rig
theorem pl_at {ks:List (ByteArray×ByteArray)} {k:Nat} (hk:k<ks.length):(pl ks)[k]? = some ((ks.getD k default).1.data.toList,(ks.getD k default).2.data.toList):=by
 unfold pl;rw[List.getElem?_map,List.getElem?_eq_getElem hk];simp[List.getD,hk]
end Go.Proofs.YtmihiknebelkbaaGreat.Mta
namespace Go.Proofs.YtmihiknebelkbaaGreat.Mta
open Wire Term Rig
theorem all_fit {l:List Tm} {a b:Int} (h5:(l.length:Int)≤a) (ha:a≤1000) (hb:b≤400000000) (h:∀t∈l,(t.length:Int)≤b):all (putAll l) a b=(l,0):=by
 have h1:take (putAll l)=some (l.length,l.flatMap putText):=take_put (by omega) _;have h2:=texts_put l [] b [] fun t ht=>⟨by have:=h t ht;omega,by have:=h t ht;omega⟩
 rw[List.append_nil,List.nil_append]at h2;exact all_ok h1 (by omega) h2
theorem flat_most {k:Nat} (hk:k≤400000000):∀(l:List Tm),(∀t∈l,t.length≤k)→(l.flatMap putText).length≤l.length*(k+9)
 | [],_=>by simp
 | t::l,h=>by
  have h1:=h t (by simp);have h2:=(put_le (n:=t.length) (by omega)).2;have h3:=flat_most hk l fun x hx=>h x (by simp[hx])
  rw[List.flatMap_cons,List.length_append,putText_len,List.length_cons,Nat.add_mul];omega
theorem putAll_most {k n:Nat} (hk:k≤400000000) {l:List Tm} (hn:l.length≤n) (hn2:n≤1000) (h:∀t∈l,t.length≤k):(putAll l).length≤n*(k+9)+9:=by
 have h1:=flat_most hk l h;have h2:=(put_le (n:=l.length) (by omega)).2;have h3:=Nat.mul_le_mul_right (k+9) hn;unfold putAll;rw[List.length_append];omega
theorem kd_len {t:Tm} {k:Nat} (h:kind t=k) (hk:k≠0):t.length≤4000:=by
 cases hr:right t with
 | true=>exact(right_len hr).2
 | false=>rw[kind_wrong hr]at h;exact absurd h.symm hk
theorem oth_small {r:Rt} (h:RR r):∀t∈oth r,t.length≤128:=lsd_small (lsd_oth h)
theorem bs_small {m:Mt} (h:MR m):m.bs.length≤5∧∀b∈m.bs,b.1.length≤128∧b.2.length≤4000:=by
 obtain⟨h1,_,_,_,h5,h6⟩:=h;refine⟨?_,fun b hb=>⟨?_,kd_len (h6 _ (List.mem_map.2 ⟨b,hb,rfl⟩)) (by decide)⟩⟩
 ·have e:=congrArg List.length h5
  rw[List.length_map,oth_len]at e;have:=h1.2.2.2.1;omega
 ·exact oth_small h1 _ (by rw[←h5];exact List.mem_map.2 ⟨b,hb,rfl⟩)
theorem vf_small {m:Mt} (h:MR m):m.vf.length≤8∧∀t∈m.vf,t.length≤4000:=by
 obtain⟨h1,h2,_,h4,_,_⟩:=h;have:=h1.2.2.1;exact⟨by omega,fun t ht=>kd_len (h4 t ht) (by decide)⟩
theorem row_small {r:Rt} (h:RR r):(rowR r).length≤3600:=by
 obtain⟨a1,a2,a3,a4,a5,a6,a7⟩:=h
 have:=putAll_most (k:=700) (n:=5) (by omega) (l:=[r.o,r.f,put r.ep.toNat,putAll r.rs,putAll r.ws]) (by simp) (by omega) fun t ht=>by
  have:t=r.o∨t=r.f∨t=put r.ep.toNat∨t=putAll r.rs∨t=putAll r.ws:=by simpa using ht
  rcases this with rfl|rfl|rfl|rfl|rfl
  ·have:=(Txt.right_len a1).2;omega
  ·have:=(Txt.right_len a2).2;omega
  ·have:=(put_le (n:=r.ep.toNat) (by omega)).2;omega
  ·exact putAll_small (by omega) (lsd_small a5)
  ·exact putAll_small (by omega) (lsd_small a6)
 show(putAll [r.o,r.f,put r.ep.toNat,putAll r.rs,putAll r.ws]).length≤3600;omega
theorem pair_small {b:Tm×Tm} (h:b.1.length≤128∧b.2.length≤4000):(putAll [b.1,b.2]).length≤8100:=by
 have:=putAll_most (k:=4000) (n:=2) (by omega) (l:=[b.1,b.2]) (by simp) (by omega) fun t ht=>by
  have:t=b.1∨t=b.2:=by simpa using ht
  rcases this with rfl|rfl<;>omega
 omega
theorem pairs_put:∀(l:List (Tm×Tm)),(∀b∈l,b.1.length≤128∧b.2.length≤4000)→pairs (l.map fun b=>putAll [b.1,b.2])=some l
 | [],_=>rfl
 | b::l,h=>by
  have hb:=h b (by simp)
  have h1:all (putAll [b.1,b.2]) 2 9000=([b.1,b.2],0):=all_fit (by simp) (by omega) (by omega) fun t ht=>by
   have:t=b.1∨t=b.2:=by simpa using ht
   rcases this with rfl|rfl<;>omega
  rw[List.map_cons,pairs,h1,if_pos ⟨rfl,rfl⟩,pairs_put l fun x hx=>h x (by simp[hx])];rfl
theorem two_of {l:List Tm} (h:l.length=2):l = [l.getD 0 [],l.getD 1 []]:=by
 match l,h with
 | [a,b],_=>rfl
theorem four_of {l:List Tm} (h:l.length=4):l = [l.getD 0 [],l.getD 1 [],l.getD 2 [],l.getD 3 []]:=by
 match l,h with
 | [a,b,c,d],_=>rfl
theorem pairs_back:∀(l:List Tm) (b:List (Tm×Tm)),pairs l=some b→l=b.map fun b=>putAll [b.1,b.2]
 | [],b,h=>by
  obtain rfl:[]=b:=by simpa[pairs]using h
  rfl
 | t::l,b,h=>by
  rw[pairs]at h;split at h
  case isTrue hc=>
   cases hp:pairs l with
   | none=>rw[hp]at h;cases h
   | some q=>
    rw[hp]at h;obtain rfl:=Option.some.inj h;rw[List.map_cons,←pairs_back l q hp];have e:=(all_back (x:=(all t 2 9000).1) (e:=(all t 2 9000).2) rfl).1 hc.1;rw[two_of hc.2]at e;exact congrArg (·::l) e.1
  case isFalse=>cases h
theorem blks_put {m:Mt} (h:MR m):blks (putAll (m.bs.map fun b=>putAll [b.1,b.2]))=some m.bs:=by
 obtain⟨h1,h2⟩:=bs_small h
 have h3:all (putAll (m.bs.map fun b=>putAll [b.1,b.2])) 5 9000=(m.bs.map (fun b=>putAll [b.1,b.2]),0):=all_fit (by rw[List.length_map];omega) (by omega) (by omega) fun t ht=>by
  obtain⟨b,hb,rfl⟩:=List.mem_map.1 ht;have:=pair_small (h2 b hb);omega
 unfold blks;rw[h3,if_pos rfl];exact pairs_put _ h2
theorem blks_back {s:Tm} {b:List (Tm×Tm)} (h:blks s=some b):s=putAll (b.map fun b=>putAll [b.1,b.2]):=by
 unfold blks at h;split at h;case isTrue hc=>rw[←pairs_back _ _ h];exact((all_back (x:=(all s 5 9000).1) (e:=(all s 5 9000).2) rfl).1 hc).1
 case isFalse=>cases h
theorem rows_small {m:Mt} (h:MR m) (hv:m.ver<18446744073709551616):(rowR m.r).length≤3600∧(put m.ver).length≤9∧(putAll m.vf).length≤32100∧(putAll (m.bs.map fun b=>putAll [b.1,b.2])).length≤41000:=by
 obtain⟨v1,v2⟩:=vf_small h;obtain⟨b1,b2⟩:=bs_small h;refine⟨row_small h.1,(put_le hv).2,?_,?_⟩
 ·have:=putAll_most (k:=4000) (n:=8) (by omega) v1 (by omega) v2
  omega
 ·have:=putAll_most (k:=8100) (n:=5) (by omega) (l:=m.bs.map fun b=>putAll [b.1,b.2]) (by rw[List.length_map];exact b1) (by omega) fun t ht=>by
   obtain⟨b,hb,rfl⟩:=List.mem_map.1 ht;exact pair_small (b2 b hb)
  omega
theorem body_small {m:Mt} (h:MR m) (hv:m.ver<18446744073709551616):(bodyB m).length≤80000:=by
 obtain⟨h1,h2,h3,h4⟩:=rows_small h hv;unfold bodyB;generalize putAll (m.bs.map fun b=>putAll [b.1,b.2])=y at h4⊢;generalize putAll m.vf=z at h3⊢;generalize put m.ver=u at h2⊢;have p1:=(put_le (n:=(rowR m.r).length) (by omega)).2;have p2:=(put_le (n:=u.length) (by omega)).2;have p3:=(put_le (n:=z.length) (by omega)).2;have p4:=(put_le (n:=y.length) (by omega)).2;have p5:=(put_le (n:=0+1+1+1+1) (by omega)).2;simp only[putAll,List.length_append,List.flatMap_cons,List.flatMap_nil,putText_len,List.length_cons,List.length_nil];omega
theorem takeM_put {m:Mt} (h:MR m) (hv:m.ver<18446744073709551616):takeM (putAll [bodyB m,m.sig])=(m,0):=by
 have hb:=body_small h hv;obtain⟨r1,r2,r3,r4⟩:=rows_small h hv;obtain⟨v1,v2⟩:=vf_small h;have hs:=kd_len h.2.2.1 (by decide)
 have H1:all (putAll [bodyB m,m.sig]) 2 90000=([bodyB m,m.sig],0):=all_fit (by simp) (by omega) (by omega) fun t ht=>by
  have:t=bodyB m∨t=m.sig:=by simpa using ht
  rcases this with rfl|rfl<;>omega
 have H2:all (bodyB m) 4 90000=([rowR m.r,put m.ver,putAll m.vf,putAll (m.bs.map fun b=>putAll [b.1,b.2])],0):=all_fit (by simp) (by omega) (by omega) fun t ht=>by
  have:t=rowR m.r∨t=put m.ver∨t=putAll m.vf∨t=putAll (m.bs.map fun b=>putAll [b.1,b.2]):=by simpa using ht
  rcases this with rfl|rfl|rfl|rfl<;>omega
 have H3:=blks_put h;have H4:all (putAll m.vf) 8 9000=(m.vf,0):=all_fit (by omega) (by omega) (by omega) fun t ht=>by have:=v2 t ht;omega
 have HM:metaOf [rowR m.r,put m.ver,putAll m.vf,putAll (m.bs.map fun b=>putAll [b.1,b.2])] m.sig m.bs=m:=by
  unfold metaOf;simp only[List.getD_cons_zero,List.getD_cons_succ];rw[takeR_row h.1,tk_put hv,H4]
 unfold takeM;rw[H1];simp only[List.getD_cons_zero,List.getD_cons_succ,List.length_cons,List.length_nil];rw[H2,if_neg (by simp)];simp only[List.getD_cons_zero,List.getD_cons_succ,List.length_cons,List.length_nil];rw[H3,if_neg (by simp)];simp only;rw[takeR_row h.1,tk_put hv,H4,HM,if_neg (by simp[h])]
theorem takeM_cases (s:Tm):takeM s=(mzero,2)∨∃m,takeM s=(m,0)∧MR m∧m.ver<18446744073709551616∧s=putAll [bodyB m,m.sig]:=by
 by_cases c1:(all s 2 90000).2≠0∨(all s 2 90000).1.length≠2
 ·left;unfold takeM;rw[if_pos c1]
 have d1:(all s 2 90000).2=0∧(all s 2 90000).1.length=2:=⟨Decidable.not_not.1 fun h=>c1 (Or.inl h),Decidable.not_not.1 fun h=>c1 (Or.inr h)⟩
 by_cases c2:(all ((all s 2 90000).1.getD 0 []) 4 90000).2≠0∨(all ((all s 2 90000).1.getD 0 []) 4 90000).1.length≠4
 ·left;unfold takeM;rw[if_neg c1,if_pos c2]
 have d2:(all ((all s 2 90000).1.getD 0 []) 4 90000).2=0∧(all ((all s 2 90000).1.getD 0 []) 4 90000).1.length=4:=⟨Decidable.not_not.1 fun h=>c2 (Or.inl h),Decidable.not_not.1 fun h=>c2 (Or.inr h)⟩
 have e1:=((all_back (x:=(all s 2 90000).1) (e:=(all s 2 90000).2) rfl).1 d1.1).1;have e2:=((all_back (x:=(all ((all s 2 90000).1.getD 0 []) 4 90000).1) (e:=(all ((all s 2 90000).1.getD 0 []) 4 90000).2) rfl).1 d2.1).1;cases hb:blks ((all ((all s 2 90000).1.getD 0 []) 4 90000).1.getD 3 [])with
 | none=>left;unfold takeM;rw[if_neg c1,if_neg c2,hb]
 | some b=>
  have e3:=blks_back hb;unfold takeM;rw[if_neg c1,if_neg c2,hb];simp only;split;case isTrue=>exact Or.inl rfl
  case isFalse hc=>
   refine Or.inr ⟨_,rfl,?_⟩;rw[two_of d1.2]at e1;rw[four_of d2.2]at e2;generalize (all s 2 90000).1=l at *;generalize (all (l.getD 0 []) 4 90000).1=p at *;simp only[not_or,Decidable.not_not]at hc;obtain⟨g1,g2,g3,g4,g5⟩:=hc
   have hr:p.getD 0 []=rowR (takeR (p.getD 0 [])).1:=by
    rcases takeR_cases (p.getD 0 [])with h|⟨r,h,_,h2⟩
    ·rw[h]at g1;cases g1
    ·rw[h];exact h2
   have hn:p.getD 1 []=put (tk (p.getD 1 [])).1∧(tk (p.getD 1 [])).1<18446744073709551616:=by
    cases ht:take (p.getD 1 [])with
    | none=>rw[tk_none ht]at g2;cases g2
    | some q=>
     obtain⟨n,r⟩:=q;rw[tk_some ht]at g3⊢;obtain⟨h1,h2⟩:=take_some ht;simp only at g3;rw[g3,List.append_nil]at h1;exact⟨h1,h2⟩
   have hv:=((all_back (x:=(all (p.getD 2 []) 8 9000).1) (e:=(all (p.getD 2 []) 8 9000).2) rfl).1 g4).1;refine⟨g5,hn.2,?_⟩;rw[e1];show putAll [l.getD 0 [],l.getD 1 []]=putAll [putAll [rowR (takeR (p.getD 0 [])).1,put (tk (p.getD 1 [])).1,putAll (all (p.getD 2 []) 8 9000).1,putAll (b.map fun b=>putAll [b.1,b.2])],l.getD 1 []]
   rw[←hr,←hn.1,←hv,←e3,←e2]
theorem takeM_err (s:Tm):(takeM s).2=0∨(takeM s).2=2:=by
 rcases takeM_cases s with h|⟨m,h,_⟩<;>rw[h]
 ·exact Or.inr rfl
 ·exact Or.inl rfl
end Go.Proofs.YtmihiknebelkbaaGreat.Mta
