/-
  UPure, Frm. By an AI agent.
-/
import Derived.Test.YtmihiknebelkbaaGreatOZ
import Derived.Test.YtmihiknebelkbaaGreatOH1
import Derived.Test.YtmihiknebelkbaaGreatOMApp
import Derived.Test.YtmihiknebelkbaaGreatOW0
set_option linter.unusedVariables false
namespace Go.Proofs.YtmihiknebelkbaaGreat.Usr
open Wire Rig Draw
structure Ow where
 r:Rt
 ver:Nat
 root:Tm
 sg:List Tm
 gone:Bool
def ow0:Ow:=⟨zero,0,[],[],false⟩
structure Us where
 nm:Tm
 sd:Nat
 dr:Nat
 ns:List Tm
 of:Tm→Ow
def Us.live (u:Us) (f:Tm):Bool:=decide (f∈u.ns)&&!(u.of f).gone
def Us.lives (u:Us):List Tm:=u.ns.filter u.live
def Us.path (u:Us) (f:Tm):Tm:=u.nm++47::f
def updO (of:Tm→Ow) (f:Tm) (o:Ow):Tm→Ow:=fun x=>if x=f then o else of x
def Us.set (u:Us) (f:Tm) (o:Ow):Us:={ u with of:=updO u.of f o }
def own (u:Us) (f:Tm):Ow×Int:=if u.live f=false then(ow0,4)else(u.of f,0)
structure Fine (n:Nat) (u:Us):Prop where
 nm:nm u.nm=true
 sd:u.sd<18446744073709551616
 dr:1≤u.dr∧u.dr≤1+2*n
 few:u.ns.length≤n
 one:u.ns.Nodup
 each:∀f∈u.ns,RR (u.of f).r∧(u.of f).r.o=u.nm∧(u.of f).r.f=f∧1≤(u.of f).ver∧(u.of f).ver≤n∧((u.of f).sg.length:Int)=(u.of f).r.ep+1
 none:∀f,f∉u.ns→u.of f=ow0
 eight:u.lives.length≤8
theorem Fine.up {n:Nat} {u:Us} (h:Fine n u):Fine (n+1) u:=
 ⟨h.nm,h.sd,⟨h.dr.1,by have:=h.dr.2;omega⟩,by have:=h.few;omega,h.one,fun f hf=>by obtain⟨a,b,c,d,e,g⟩:=h.each f hf;exact⟨a,b,c,d,by omega,g⟩,h.none,h.eight⟩
theorem Fine.le {n m : Nat} {u : Us} (h : Fine n u) (hm : n ≤ m) : Fine m u := by
  induction m with
  | zero => obtain rfl : n = 0 := by omega
            exact h
  | succ m ih =>
    by_cases e : n = m + 1
    · subst e; exact h
    · exact (ih (by omega)).up
end Go.Proofs.YtmihiknebelkbaaGreat.Usr
namespace Go.Proofs.YtmihiknebelkbaaGreat.Frm
open Go Go.RowKit
structure Fr (X:Nat→Prop) (w w':World):Prop where
 os:w'.os=w.os
 tape:w'.tape=w.tape
 output:w'.output=w.output
 size:w.heap.size≤w'.heap.size
 block:∀b,b<w.heap.size→¬X b→w'.heap[b]? = w.heap[b]?
theorem Fr.none {X:Nat→Prop} {w w':World} (h:Below w.heap.size w w'):Fr X w w':=⟨h.os,h.tape,h.output,h.size,fun b hb _=>h.block b hb⟩
theorem Fr.trans {X Y:Nat→Prop} {w w1 w2:World} (h:Fr X w w1) (h2:Fr Y w1 w2) (hY:∀b,Y b→X b∨w.heap.size≤b):Fr X w w2:=
 ⟨h2.os.trans h.os,h2.tape.trans h.tape,h2.output.trans h.output,Nat.le_trans h.size h2.size,fun b hb hx=>(h2.block b (Nat.lt_of_lt_of_le hb h.size) fun hy=>by
  rcases hY b hy with h3|h3
  ·exact hx h3
  ·omega).trans (h.block b hb hx)⟩
structure Part where
 P:World→Prop
 S:Nat→Prop
 M:Nat→Prop
 dep:∀{w w':World},w.heap.size≤w'.heap.size→P w→(∀b,S b→w'.heap[b]? = w.heap[b]?)→P w'
 old:∀{w:World},P w→∀b,S b→b<w.heap.size
 sub:∀b,M b→S b
def Apart (p q:Part):Prop:=∀b,¬(p.M b∧q.S b)∧¬(p.S b∧q.M b)
theorem Apart.symm {p q:Part} (h:Apart p q):Apart q p:=fun b=>⟨fun h2=>(h b).2 ⟨h2.2,h2.1⟩,fun h2=>(h b).1 ⟨h2.2,h2.1⟩⟩
structure Fm (w0 w:World) (l:List Part):Prop where
 bel:Below w0.heap.size w0 w
 all:∀p∈l,p.P w∧∀b,p.M b→w0.heap.size≤b
 dis:l.Pairwise Apart
section
variable {w0 w w':World} {l:List Part} {p q:Part}
theorem fm_nil (h:Below w0.heap.size w0 w):Fm w0 w []:=⟨h,fun _ h=>(List.not_mem_nil h).elim,List.Pairwise.nil⟩
theorem fm_refl (w:World):Fm w w []:=fm_nil (Below.refl _ _)
theorem Fm.go (h:Fm w0 w l) (hb:Below w.heap.size w w'):Fm w0 w' l:=
 ⟨h.bel.trans (hb.mono h.bel.size),fun p hp=>⟨p.dep hb.size (h.all p hp).1 fun b hs=>hb.block b (p.old (h.all p hp).1 b hs),(h.all p hp).2⟩,h.dis⟩
theorem Fm.add (h:Fm w0 w l) (hp:p.P w) (hm:∀b,p.M b→w0.heap.size≤b) (ha:∀q∈l,Apart p q):Fm w0 w (p::l):=
 ⟨h.bel,fun q hq=>by
  rcases List.mem_cons.1 hq with rfl|hq
  ·exact⟨hp,hm⟩
  ·exact h.all q hq,List.pairwise_cons.2 ⟨ha,h.dis⟩⟩
theorem Fm.new (h:Fm w0 w l) (hb:Below w.heap.size w w') (hp:p.P w') (hS:∀b,p.S b→w.heap.size≤b) (hM:∀b,p.M b→w.heap.size≤b):Fm w0 w' (p::l):=
 (h.go hb).add hp (fun b hb2=>Nat.le_trans h.bel.size (hM b hb2)) fun q hq b=>by
   have ho:=q.old (h.all q hq).1 b;refine⟨fun h2=>?_,fun h2=>?_⟩
   ·have h3:=hM b h2.1;have h4:=ho h2.2;omega
   ·have h3:=hS b h2.1;have h4:=p.old hp b h2.1
    by_cases h5:q.S b
    ·have:=ho h5;omega
    ·have h6:=(h.all q hq).2 b h2.2
     exact h5 (q.sub b h2.2)
theorem Fm.tail (h:Fm w0 w (p::l)):Fm w0 w l:=⟨h.bel,fun q hq=>h.all q (List.mem_cons_of_mem _ hq),(List.pairwise_cons.1 h.dis).2⟩
theorem Fm.sub {m:List Part} (h:Fm w0 w l) (hs:m.Sublist l):Fm w0 w m:=⟨h.bel,fun q hq=>h.all q (hs.subset hq),h.dis.sublist hs⟩
theorem Fm.hide (h:Fm w0 w l) (i:Nat):Fm w0 w (l.eraseIdx i):=h.sub (List.eraseIdx_sublist l i)
theorem Fm.at (h:Fm w0 w l) (i:Nat) {p:Part} (hi:l[i]? = some p):p.P w:=(h.all p (List.mem_of_getElem? hi)).1
theorem Fm.lo (h:Fm w0 w l) (i:Nat) {p:Part} (hi:l[i]? = some p):∀b,p.M b→w0.heap.size≤b:=(h.all p (List.mem_of_getElem? hi)).2
theorem pair_lt {R:Part→Part→Prop}:∀{l:List Part},l.Pairwise R→∀(i j:Nat),i<j→∀{p q:Part},l[i]? = some p→l[j]? = some q→R p q
 | [],_,i,j,_,_,_,h1,_=>by simp at h1
 | x::l,h,0,j+1,_,p,q,h1,h2=>by
  rw[List.getElem?_cons_zero]at h1;obtain rfl:=Option.some.inj h1;rw[List.getElem?_cons_succ]at h2;exact(List.pairwise_cons.1 h).1 _ (List.mem_of_getElem? h2)
 | x::l,h,i+1,j+1,hij,p,q,h1,h2=>by
  rw[List.getElem?_cons_succ]at h1 h2;exact pair_lt (List.pairwise_cons.1 h).2 i j (by omega) h1 h2
 | _::_,_,_,0,hij,_,_,_,_=>absurd hij (Nat.not_lt_zero _)
theorem Fm.apart (h:Fm w0 w l) (i j:Nat) (hij:i≠j) {p q:Part} (h1:l[i]? = some p) (h2:l[j]? = some q):Apart p q:=by
 rcases Nat.lt_or_gt_of_ne hij with h3|h3
 ·exact pair_lt h.dis i j h3 h1 h2
 ·exact(pair_lt h.dis j i h3 h2 h1).symm
theorem Fm.turn (h:Fm w0 w l) (i:Nat) (hi:l[i]? = some p) (hf:Fr p.M w w') (hq:q.P w') (hS:∀b,q.S b→p.S b∨w.heap.size≤b) (hM:∀b,q.M b→p.M b∨w.heap.size≤b):Fm w0 w' (l.set i q):=by
 have hil:=(List.getElem?_eq_some_iff.1 hi).1
 have hold:∀j,j≠i→∀{r:Part},l[j]? = some r→r.P w'∧(∀b,r.M b→w0.heap.size≤b)∧Apart r q:=fun j hj r hr=>by
  have hm:=List.mem_of_getElem? hr;have ha:=h.apart j i hj hr hi;have ho:=r.old (h.all r hm).1;refine⟨r.dep hf.size (h.all r hm).1 fun b hs=>hf.block b (ho b hs) fun h2=>(ha b).2 ⟨hs,h2⟩,(h.all r hm).2,fun b=>⟨fun h2=>?_,fun h2=>?_⟩⟩
  ·rcases hS b h2.2 with h3|h3
   ·exact(ha b).1 ⟨h2.1,h3⟩
   ·have:=ho b (r.sub b h2.1);omega
  ·rcases hM b h2.2 with h3|h3
   ·exact(ha b).2 ⟨h2.1,h3⟩
   ·have:=ho b h2.1;omega
 refine⟨⟨hf.os.trans h.bel.os,hf.tape.trans h.bel.tape,hf.output.trans h.bel.output,Nat.le_trans h.bel.size hf.size,fun b hlt=>(hf.block b (Nat.lt_of_lt_of_le hlt h.bel.size) fun hx=>by have:=h.lo i hi b hx;omega).trans (h.bel.block b hlt)⟩,fun r hr=>?_,?_⟩
 ·obtain⟨j,hj⟩:=List.mem_iff_getElem?.1 hr
  by_cases e:j=i
  ·subst e
   rw[List.getElem?_set_self hil]at hj;obtain rfl:=Option.some.inj hj;refine⟨hq,fun b hs=>?_⟩;rcases hM b hs with h3|h3
   ·exact h.lo j hi b h3
   ·exact Nat.le_trans h.bel.size h3
  ·rw[List.getElem?_set_ne (fun e2=>e e2.symm)]at hj
   exact⟨(hold j e hj).1,(hold j e hj).2.1⟩
 ·rw[List.pairwise_iff_getElem]
  intro j k hj hk hjk;have hj2:j<l.length:=by rw[List.length_set]at hj;exact hj
  have hk2:k<l.length:=by rw[List.length_set]at hk;exact hk
  by_cases e1:j=i
  ·subst e1
   rw[List.getElem_set_self,List.getElem_set_ne (by omega)];exact(hold k (by omega) (List.getElem?_eq_getElem hk2)).2.2.symm
  ·rw[List.getElem_set_ne (fun e2=>e1 e2.symm)]
   by_cases e2:k=i
   ·subst e2
    rw[List.getElem_set_self];exact(hold j e1 (List.getElem?_eq_getElem hj2)).2.2
   ·rw[List.getElem_set_ne (fun e3=>e2 e3.symm)]
    exact h.apart j k (by omega) (List.getElem?_eq_getElem hj2) (List.getElem?_eq_getElem hk2)
end
def box (g:Nat) (V:Array Value) (t:TypeId):Part where
 P w:=w.heap[g]? = some (.cells V t);S b:=b=g;M b:=b=g;sub _ h:=h;dep _ h hs:=(hs g rfl).trans h;old h b e:=by subst e;exact(Array.getElem?_eq_some_iff.1 h).1
theorem Fm.box {w0 w:World} {l:List Part} (h:Fm w0 w l) (V:Array Value) (t:TypeId):Fm w0 (w.alloc (.cells V t)) (box w.heap.size V t::l):=
 h.new ((Below.refl _ _).alloc zl _) (heap_alloc_new w _) (fun b e=>by rw[show b=w.heap.size from e];exact Nat.le_refl _) (fun b e=>by rw[show b=w.heap.size from e];exact Nat.le_refl _)
theorem box_at {w:World} {g:Nat} {V:Array Value} {t:TypeId} (h:(box g V t).P w):∀j,w.cell? ⟨g,j,none⟩=V[j]?:=fun j=>cell_of_row _ _ _ _ _ _ h
theorem box_sf {w:World} {g:Nat} {V:Array Value} {t:TypeId} (h:(box g V t).P w):∀j,w.frozen? ⟨g,j,none⟩=false:=fun j=>by
 have h2:w.heap[g]? = some (.cells V t):=h;unfold World.frozen?;rw[h2];simp
theorem box_lt {w:World} {g:Nat} {V:Array Value} {t:TypeId} (h:(box g V t).P w):g<w.heap.size:=(Array.getElem?_eq_some_iff.1 h).1
theorem Fm.put {w0 w:World} {l:List Part} {g:Nat} {V:Array Value} {t:TypeId} (h:Fm w0 w l) (i:Nat) (hi:l[i]? = some (Frm.box g V t)) (j:Nat) (v:Value) (U:Array Value) (hU:V.setIfInBounds j v=U):Fm w0 (w.setCell ⟨g,j,none⟩ v) (l.set i (Frm.box g U t)):=by
 have hb:w.heap[g]? = some (.cells V t):=h.at i hi;have hlt:=(Array.getElem?_eq_some_iff.1 hb).1;refine h.turn i hi ⟨rfl,rfl,rfl,by simp[World.setCell],fun b _ hn=>Below.heap_setCell w ⟨g,j,none⟩ v b (fun e=>hn e)⟩ ?_ (fun b e=>.inl e) (fun b e=>.inl e);show(w.setCell ⟨g,j,none⟩ v).heap[g]? = some (.cells U t);have h':w.heap[g] = .cells V t:=by simpa[Array.getElem?_eq_getElem hlt]using hb
 show(w.heap.modify g _)[g]? = _
 rw[Array.getElem?_eq_getElem (by simpa using hlt),Array.getElem_modify_self,h',←hU];simp
end Go.Proofs.YtmihiknebelkbaaGreat.Frm
