/-
  MCPure. By an AI agent.
-/
import Derived.Test.YtmihiknebelkbaaGreatOZ
import Derived.Test.YtmihiknebelkbaaGreatOMBack
namespace Go.Proofs.YtmihiknebelkbaaGreat.Mta
open Wire Term Rig
def rowK (s:Tm) (k:Nat):Option (List Tm):=if(all s k s.length).2=0∧(all s k s.length).1.length=k then some (all s k s.length).1 else none
def pairsK:List Tm→Option (List (Tm×Tm))
 | []=>some []
 | t::l=>match rowK t 2 with
  | none=>none
  | some b=>(pairsK l).map fun q=>(b.getD 0 [],b.getD 1 [])::q
def blksK (s:Tm) (k:Nat):Option (List (Tm×Tm)):=match rowK s k with
 | none=>none
 | some l=>pairsK l
def readP (p:List Tm) (sig:Tm):Option Mt:=
 if(takeR (p.getD 0 [])).2≠0 then none
 else if(tk (p.getD 1 [])).2.2≠0∨(tk (p.getD 1 [])).2.1≠[]then none
 else match rowK (p.getD 2 []) ((takeR (p.getD 0 [])).1.ep.toNat+1)with
  | none=>none
  | some v=>match blksK (p.getD 3 []) ((takeR (p.getD 0 [])).1.rs.length+(takeR (p.getD 0 [])).1.ws.length)with
   | none=>none
   | some b=>some ⟨(takeR (p.getD 0 [])).1,(tk (p.getD 1 [])).1,v,b,sig⟩
def readM (s:Tm):Option Mt:=match rowK s 2 with
 | none=>none
 | some l=>match rowK (l.getD 0 []) 4 with
  | none=>none
  | some p=>readP p (l.getD 1 [])
theorem rowK_back {s:Tm} {k:Nat} {l:List Tm} (h:rowK s k=some l):s=putAll l∧l.length=k:=by
 unfold rowK at h;split at h
 case isTrue hc=>
  obtain rfl:=Option.some.inj h;exact⟨((all_back (x:=(all s k s.length).1) (e:=(all s k s.length).2) rfl).1 hc.1).1,hc.2⟩
 case isFalse=>cases h
theorem part_le {l:List Tm} {t:Tm} (h:t∈l):t.length≤(putAll l).length:=by
 have:∀l:List Tm,t∈l→t.length≤(l.flatMap putText).length:=by
  intro l;induction l with
  | nil=>intro h;cases h
  | cons y ys ih=>
   intro h;rw[List.flatMap_cons,List.length_append,putText_len];rcases List.mem_cons.1 h with rfl|h
   ·omega
   ·have:=ih h;omega
 unfold putAll;rw[List.length_append];have:=this l h;omega
theorem rowK_put {l:List Tm} (hl:l.length≤1000) (hs:(putAll l).length≤2000000):rowK (putAll l) l.length=some l:=by
 have h:all (putAll l) l.length (putAll l).length=(l,0):=all_fit (Int.le_refl _) (by omega) (by omega) fun t ht=>by have:=part_le ht;omega
 unfold rowK;rw[h,if_pos ⟨rfl,rfl⟩]
theorem rowK_puts {l:List Tm} {k:Nat} (hk:k=l.length) (hl:l.length≤1000) (hs:(putAll l).length≤2000000):rowK (putAll l) k=some l:=by
 subst hk;exact rowK_put hl hs
theorem pairsK_put:∀(l:List (Tm×Tm)),(∀b∈l,b.1.length≤128∧b.2.length≤4000)→pairsK (l.map fun b=>putAll [b.1,b.2])=some l
 | [],_=>rfl
 | b::l,h=>by
  have h1:=pair_small (h b (by simp));rw[List.map_cons,pairsK,rowK_puts (k:=2) rfl (by simp) (by omega),pairsK_put l fun x hx=>h x (by simp[hx])];rfl
theorem pairsK_back:∀(l:List Tm) (b:List (Tm×Tm)),pairsK l=some b→l=b.map fun b=>putAll [b.1,b.2]
 | [],b,h=>by
  obtain rfl:[]=b:=by simpa[pairsK]using h
  rfl
 | t::l,b,h=>by
  rw[pairsK]at h;cases hr:rowK t 2 with
  | none=>rw[hr]at h;cases h
  | some r=>
   rw[hr]at h;simp only at h;cases hp:pairsK l with
   | none=>rw[hp]at h;cases h
   | some q=>
    rw[hp]at h;obtain rfl:=Option.some.inj h;obtain⟨h1,h2⟩:=rowK_back hr;rw[two_of h2]at h1;rw[List.map_cons,←pairsK_back l q hp,h1]
theorem readM_put {m:Mt} (h:MR m) (hv:m.ver<18446744073709551616):readM (putAll [bodyB m,m.sig])=some m:=by
 have hb:=body_small h hv;obtain⟨r1,r2,r3,r4⟩:=rows_small h hv;obtain⟨v1,v2⟩:=vf_small h;obtain⟨b1,b2⟩:=bs_small h;have hs:=kd_len h.2.2.1 (by decide)
 have hw:(putAll [bodyB m,m.sig]).length≤2000000:=by
  have:=putAll_most (k:=80000) (n:=2) (l:=[bodyB m,m.sig]) (by omega) (by simp) (by omega) fun t ht=>by
   have:t=bodyB m∨t=m.sig:=by simpa using ht
   rcases this with rfl|rfl<;>omega
  omega
 have hl:m.bs.length=m.r.rs.length+m.r.ws.length:=by
  have:=congrArg List.length h.2.2.2.2.1;rw[List.length_map,oth_len]at this;exact this
 have he:=h.1.2.2.1;unfold readM;rw[rowK_puts (k:=2) rfl (by simp) hw];simp only[List.getD_cons_zero,List.getD_cons_succ]
 rw[show bodyB m=putAll [rowR m.r,put m.ver,putAll m.vf,putAll (m.bs.map fun b=>putAll [b.1,b.2])]from rfl,rowK_puts (k:=4) rfl (by simp) (by
  show(bodyB m).length≤_;omega)]
 simp only;unfold readP;simp only[List.getD_cons_zero,List.getD_cons_succ];rw[takeR_row h.1,tk_put hv,if_neg (by simp),if_neg (by simp),rowK_puts (l:=m.vf) (by have:=h.2.1;simp only;omega) (by omega) (by omega)];simp only;unfold blksK;rw[rowK_puts (l:=m.bs.map fun b=>putAll [b.1,b.2]) (by rw[List.length_map];omega) (by rw[List.length_map];omega) (by omega)];simp only;rw[pairsK_put _ b2]
theorem readM_back {s:Tm} {m:Mt} (h:readM s=some m):s=putAll [bodyB m,m.sig]∧m.ver<18446744073709551616:=by
 unfold readM at h;cases h1:rowK s 2 with
 | none=>rw[h1]at h;cases h
 | some l=>
  rw[h1]at h;simp only at h;cases h2:rowK (l.getD 0 []) 4 with
  | none=>rw[h2]at h;cases h
  | some p=>
   rw[h2]at h;simp only at h;obtain⟨e1,e2⟩:=rowK_back h1;obtain⟨e3,e4⟩:=rowK_back h2;rw[two_of e2]at e1;rw[four_of e4]at e3;unfold readP at h;split at h;case isTrue=>cases h
   case isFalse c1=>
    split at h;case isTrue=>cases h
    case isFalse c2=>
     have g1:(takeR (p.getD 0 [])).2=0:=Decidable.not_not.1 c1;have g2:(tk (p.getD 1 [])).2.2=0:=Decidable.not_not.1 fun e=>c2 (.inl e)
     have g3:(tk (p.getD 1 [])).2.1 = []:=Decidable.not_not.1 fun e=>c2 (.inr e)
     cases h3:rowK (p.getD 2 []) ((takeR (p.getD 0 [])).1.ep.toNat+1)with
     | none=>rw[h3]at h;cases h
     | some v=>
      rw[h3]at h;simp only at h;cases h4:blksK (p.getD 3 []) ((takeR (p.getD 0 [])).1.rs.length+(takeR (p.getD 0 [])).1.ws.length)with
      | none=>rw[h4]at h;cases h
      | some b=>
       rw[h4]at h;obtain rfl:=Option.some.inj h
       have hr:p.getD 0 []=rowR (takeR (p.getD 0 [])).1:=by
        rcases takeR_cases (p.getD 0 [])with h|⟨r,h,_,h2⟩
        ·rw[h]at g1;cases g1
        ·rw[h];exact h2
       have hn:p.getD 1 []=put (tk (p.getD 1 [])).1∧(tk (p.getD 1 [])).1<18446744073709551616:=by
        cases ht:take (p.getD 1 [])with
        | none=>rw[tk_none ht]at g2;cases g2
        | some q=>
         obtain⟨n,r⟩:=q;rw[tk_some ht]at g3⊢;obtain⟨h1,h2⟩:=take_some ht;simp only at g3;rw[g3,List.append_nil]at h1;exact⟨h1,h2⟩
       have hv:=(rowK_back h3).1
       have hb:p.getD 3 []=putAll (b.map fun b=>putAll [b.1,b.2]):=by
        unfold blksK at h4;cases h5:rowK (p.getD 3 []) ((takeR (p.getD 0 [])).1.rs.length+(takeR (p.getD 0 [])).1.ws.length)with
        | none=>rw[h5]at h4;cases h4
        | some q=>
         rw[h5]at h4;rw[←pairsK_back q b h4];exact(rowK_back h5).1
       refine⟨?_,hn.2⟩;rw[e1];show putAll [l.getD 0 [],l.getD 1 []]=putAll [putAll [rowR (takeR (p.getD 0 [])).1,put (tk (p.getD 1 [])).1,putAll v,putAll (b.map fun b=>putAll [b.1,b.2])],l.getD 1 []]
       rw[←hr,←hn.1,←hv,←hb,←e3]
theorem readM_take (s:Tm):takeM s=match readM s with
 | none=>(mzero,2)
 | some m=>if MR m then(m,0)else(mzero,2):=by
 cases h:readM s with
 | none=>
  simp only;rcases takeM_cases s with h2|⟨m,_,h3,h4,h5⟩
  ·exact h2
  ·rw[h5,readM_put h3 h4]at h;cases h
 | some m=>
  simp only;obtain⟨h1,h2⟩:=readM_back h;by_cases hm:MR m
  ·rw[if_pos hm,h1];exact takeM_put hm h2
  ·rw[if_neg hm]
   rcases takeM_cases s with h3|⟨y,_,h4,h5,h6⟩
   ·exact h3
   ·rw[h6,readM_put h4 h5]at h
    obtain rfl:=Option.some.inj h;exact absurd h4 hm
end Go.Proofs.YtmihiknebelkbaaGreat.Mta
