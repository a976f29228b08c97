/-
  O1. By an AI agent.
-/
import Derived.Test.YtmihiknebelkbaaGreatOZ
import Derived.Deep.RegionHeld
import Derived.Still
import Derived.WalkKit
import Derived.Below
import Derived.Deep.Slices
import Derived.Deep.Fields
import Derived.ChangeSame
import Derived.Test.YtmihiknebelkbaaGreatOW0
namespace Go.Proofs.YtmihiknebelkbaaGreat.Ord
section
variable {P:Program} {ops:Array Oper} {Q:Exit→Act→World→Prop} {md:Region.Mode} {S:World→Prop}
def Comes (P:Program) (S:World→Prop) (v:Value):Result Next→Prop
 | .ok (.value u) w'=>u=v∧S w'
 | .ok (.enter f args) w'=>Calls P f args w' fun e w''=>e = .returned v∧S w''
 | _=>False
def Gives (P:Program) (ops:Array Oper) (S:World→Prop) (o:Oper) (v:Value) (a:Act):Prop:=
 (Region.wanted o (yielded ops a.tmps)=true∧∀w,S w→Comes P S v ((execOp a.eval o).run P w))∨(Region.wanted o (yielded ops a.tmps)=false∧v=undef)
theorem Gives.same {o:Oper} {v:Value} {a a':Act} (hy:Gives P ops S o v a) (he:execOp a'.eval o=execOp a.eval o)
 (hw:Region.wanted o (yielded ops a'.tmps)=Region.wanted o (yielded ops a.tmps)):Gives P ops S o v a':=by
 unfold Gives at *;rw[he,hw];exact hy
theorem Gives.step {i:Nat} {o:Oper} {v:Value} {a:Act} (hi:ops[i]? = some o) (hy:Gives P ops S o v a) {K:Act→World→Prop} {w:World} (hS:S w) (h:∀w',S w'→K (a.put o.dst v) w'):wpOp P ops Q i K a w:=by
 unfold Go.wpOp;simp only[hi];rcases hy with⟨hw,hv⟩|⟨hw,rfl⟩
 ·simp only[hw,if_true,Oper.wp]
  have h2:=hv w hS;generalize (execOp a.eval o).run P w=r at h2;refine .inl ?_;cases r with
  | ok n w'=>
   cases n<;>simp only[Comes]at h2
   case value u=>
    obtain⟨rfl,h3⟩:=h2;exact h _ h3
   case enter f args=>
    simp only[Oper.upon];refine Calls.mono h2 fun e w'' he=>?_
    obtain⟨rfl,h3⟩:=he;exact h _ h3
  | halt x w'=>cases h2
 ·simp only[hw,Bool.false_eq_true,if_false];exact h _ hS
def wpAnyS (P:Program) (md:Region.Mode) (ops:Array Oper) (Q:Exit→Act→World→Prop) (S:World→Prop):Nat→Array Bool→Act→Prop
 | 0,listed,a=>Region.ready md ops listed = []∧∀w,S w→Q .normal a w
 | fuel+1,listed,a=>(Region.ready md ops listed = []→∀w,S w→Q .normal a w) ∧
  ∀i∈Region.ready md ops listed,∃o v,ops[i]? = some o∧Gives P ops S o v a∧wpAnyS P md ops Q S fuel (listed.setIfInBounds i true) (a.put o.dst v)
theorem any_of_given:∀(fuel:Nat) (listed:Array Bool) (a:Act),wpAnyS P md ops Q S fuel listed a→∀w,S w→wpAny P md ops Q fuel listed a w
 | 0,_,_,h,w,hS=>⟨h.1,h.2 w hS⟩
 | fuel+1,_,_,h,w,hS=>⟨fun h0=>h.1 h0 w hS,fun i hi=>by
  obtain⟨o,v,ho,hg,hr⟩:=h.2 i hi
  exact hg.step ho hS fun w' hS'=>any_of_given fuel _ _ hr w' hS'⟩
theorem given_first {i:Nat} {oi:Oper} {v:Value} (hi:ops[i]? = some oi) (hsel:∀(j:Nat) (o:Oper) cs b,ops[j]? = some o→o.op≠.select cs b):
 ∀(fuel:Nat) (listed:Array Bool) (a:Act),
  (∀j oj,ops[j]? = some oj→j≠i→listed.getD j true=false→(∀e∈oj.after,Region.binds md e=true→e.on≠i)→oi.apart ops oj=true) →
  i∈Region.ready md ops listed→Gives P ops S oi v a →
  wpAnyS P md ops Q S fuel (listed.setIfInBounds i true) (a.put oi.dst v)→wpAnyS P md ops Q S (fuel+1) listed a:=by
 intro fuel
 induction fuel with
 | zero=>
  intro listed a _ hr hy H
  refine⟨fun h=>(by rw[h]at hr;cases hr),fun j hj=>?_⟩
  by_cases hji:j=i
  ·subst hji;exact⟨oi,v,hi,hy,H⟩
  ·have:=ready_mono hj hji
   rw[H.1]at this
   cases this
 | succ fuel ih=>
  intro listed a hfree hr hy H
  refine⟨fun h=>(by rw[h]at hr;cases hr),fun j hj=>?_⟩
  by_cases hji:j=i
  ·subst hji;exact⟨oi,v,hi,hy,H⟩
  ·obtain⟨oj,u,hoj,hgj,hrest⟩:=H.2 j (ready_mono hj hji)
   obtain⟨hjun,oj',hoj',hall⟩:=mem_ready.1 hj
   obtain rfl:oj=oj':=Option.some.inj (hoj.symm.trans hoj')
   have hnot:∀e∈oj.after,Region.binds md e=true→e.on≠i:=fun e he hb heq=>by
    have h1:=hall e he hb
    have h0:=(mem_ready.1 hr).1
    rw[heq]at h1
    rcases Nat.lt_or_ge i listed.size with h'|h'
    ·simp[h']at h0 h1;rw[h0]at h1;cases h1
    ·simp[Array.getElem?_eq_none h']at h1
   obtain⟨h1,h2,h3⟩:=Oper.apart_spec (hfree j oj hoj hji hjun hnot)
   have hfree':∀k ok,ops[k]? = some ok→k≠i→(listed.setIfInBounds j true).getD k true=false →
    (∀e∈ok.after,Region.binds md e=true→e.on≠i)→oi.apart ops ok=true:=fun k ok hk hki hun hno=>by
    refine hfree k ok hk hki ?_ hno
    by_cases hjk:j=k
    ·subst hjk;exact hjun
    ·rw[getD_set_ne true hjk]at hun;exact hun
   refine⟨oj,u,hoj,hgj.same (execOp_put oj (fun cs b=>hsel j oj cs b hoj) a oi.dst v h1).symm (wanted_put oj a oi.dst v h1).symm,?_⟩
   refine ih (listed.setIfInBounds j true) (a.put oj.dst u) hfree' (ready_mono hr (Ne.symm hji)) (hy.same (execOp_put oi (fun cs b=>hsel i oi cs b hi) a oj.dst u h3) (wanted_put oi a oj.dst u h3)) ?_
   rw[Array.setIfInBounds_comm _ _ hji,←Act.put_comm a v u h2]
   exact hrest
theorem takeR {i:Nat} {oi:Oper} {v:Value} {fuel:Nat} {listed:Array Bool} {a:Act} (hi:ops[i]? = some oi)
 (hs:Region.noSelect ops=true) (hf:Region.free md ops listed i=true) (hr:(Region.ready md ops listed).contains i=true)
 (hw:Region.wanted oi (yielded ops a.tmps)=true) (hy:∀w,S w→(execOp a.eval oi).run P w = .ok (.value v) w)
 (h:wpAnyS P md ops Q S fuel (listed.setIfInBounds i true) (a.put oi.dst v)):wpAnyS P md ops Q S (fuel+1) listed a:=
 given_first hi (Region.noSelect_spec hs) fuel listed a (Region.free_spec hi hf) (by simpa using hr) (.inl ⟨hw,fun w hS=>by rw[hy w hS];exact⟨rfl,hS⟩⟩) h
theorem takeC {i:Nat} {oi:Oper} {v:Value} {f:FuncId} {args:Array Value} {fuel:Nat} {listed:Array Bool} {a:Act} (hi:ops[i]? = some oi)
 (hs:Region.noSelect ops=true) (hf:Region.free md ops listed i=true) (hr:(Region.ready md ops listed).contains i=true)
 (hw:Region.wanted oi (yielded ops a.tmps)=true) (he:∀w,S w→(execOp a.eval oi).run P w = .ok (.enter f args) w)
 (hc:∀w,S w→Calls P f args w fun e w'=>e = .returned v∧S w')
 (h:wpAnyS P md ops Q S fuel (listed.setIfInBounds i true) (a.put oi.dst v)):wpAnyS P md ops Q S (fuel+1) listed a:=
 given_first hi (Region.noSelect_spec hs) fuel listed a (Region.free_spec hi hf) (by simpa using hr) (.inl ⟨hw,fun w hS=>by rw[he w hS];exact hc w hS⟩) h
theorem skip {i:Nat} {oi:Oper} {fuel:Nat} {listed:Array Bool} {a:Act} (hi:ops[i]? = some oi)
 (hs:Region.noSelect ops=true) (hf:Region.free md ops listed i=true) (hr:(Region.ready md ops listed).contains i=true)
 (hw:Region.wanted oi (yielded ops a.tmps)=false)
 (h:wpAnyS P md ops Q S fuel (listed.setIfInBounds i true) (a.put oi.dst undef)):wpAnyS P md ops Q S (fuel+1) listed a:=
 given_first hi (Region.noSelect_spec hs) fuel listed a (Region.free_spec hi hf) (by simpa using hr) (.inr ⟨hw,rfl⟩) h
theorem region {id:Nat} {a:Act} {w:World} (hm:P.follows .mixedOrders=true) (hS:S w.drew)
 (h:wpAnyS P .any ops Q S ops.size (Array.replicate ops.size false) a):(Code.region id ops true).wp P Q a w:=
 wp_region_any hm (any_of_given _ _ _ h _ hS)
def wpG (P:Program) (ops:Array Oper) (Q:Exit→Act→World→Prop) (S:World→Prop):List Oper→Act→Prop
 | [],a=>∀w,S w→Q .normal a w
 | o::l,a=>∃v,Gives P ops S o v a∧wpG P ops Q S l (a.put o.dst v)
theorem given_lex (hs:Region.noSelect ops=true):∀(l:List Oper) (k:Nat) (listed:Array Bool) (a:Act),(∀j,l[j]? = ops[k+j]?) →
 Region.lexFrom md ops l.length k listed=true→wpG P ops Q S l a→wpAnyS P md ops Q S l.length listed a
 | [],_,_,_,_,hB,h=>⟨by simpa[Region.lexFrom]using hB,h⟩
 | o::l,k,listed,a,hl,hB,h=>by
  have h0:ops[k]? = some o:=by simpa using(hl 0).symm
  simp only[List.length_cons,Region.lexFrom,Bool.and_eq_true]at hB;obtain⟨⟨hr,hf⟩,hB'⟩:=hB;obtain⟨v,hy,hK⟩:=h
  exact given_first h0 (Region.noSelect_spec hs) l.length listed a (Region.free_spec h0 hf) (by simpa using hr) hy
   (given_lex hs l (k+1) _ _ (fun j=>by have:=hl (j+1);simpa[Nat.add_assoc,Nat.add_comm 1 j]using this) hB' hK)
theorem region_lit {id:Nat} {l:List Oper} {a:Act} {w:World} (hm:P.follows .mixedOrders=true) (hB:Region.lexB .any l.toArray=true) (hS:S w.drew) (h:wpG P l.toArray Q S l a):(Code.region id l.toArray true).wp P Q a w:=by
 simp only[Region.lexB,Bool.and_eq_true]at hB;refine region hm hS ?_;have:=given_lex (md:=.any) hB.1 l 0 (Array.replicate l.toArray.size false) a (by simp) (by simpa using hB.2) h;simpa using this
theorem stepR {o:Oper} {l:List Oper} {v:Value} {a:Act} (hw:Region.wanted o (yielded ops a.tmps)=true) (hy:∀w,S w→(execOp a.eval o).run P w = .ok (.value v) w) (h:wpG P ops Q S l (a.put o.dst v)):wpG P ops Q S (o::l) a:=
 ⟨v,.inl ⟨hw,fun w hS=>by rw[hy w hS];exact⟨rfl,hS⟩⟩,h⟩
theorem stepC {o:Oper} {l:List Oper} {v:Value} {f:FuncId} {args:Array Value} {a:Act} (hw:Region.wanted o (yielded ops a.tmps)=true) (he:∀w,S w→(execOp a.eval o).run P w = .ok (.enter f args) w)
 (hc:∀w,S w→Calls P f args w fun e w'=>e = .returned v∧S w') (h:wpG P ops Q S l (a.put o.dst v)):wpG P ops Q S (o::l) a:=
 ⟨v,.inl ⟨hw,fun w hS=>by rw[he w hS];exact hc w hS⟩,h⟩
theorem stepS {o:Oper} {l:List Oper} {a:Act} (hw:Region.wanted o (yielded ops a.tmps)=false) (h:wpG P ops Q S l (a.put o.dst undef)):wpG P ops Q S (o::l) a:=⟨undef,.inr ⟨hw,rfl⟩,h⟩
theorem stepD {a:Act} (h:∀w,S w→Q .normal a w):wpG P ops Q S [] a:=h
end
end Go.Proofs.YtmihiknebelkbaaGreat.Ord
namespace Go.Proofs.YtmihiknebelkbaaGreat.Acts
open Go.RowKit
section
variable {H:Type} {enc:TypeId×Value→H} {P:Program} {w:World} {base:Nat} {spare:Nat→Bool} {held:Bool}
end
def AReads (nf:Nat) (w:World) (a:Option Addr) (n:Nat) (Z:Nat→Nat→Int):Prop:=
 ∀i,i<n→∃b off,a=some ⟨b,off,none⟩∧b<w.heap.size∧∀j,j<nf→w.cell? ⟨b,off+i*nf+j,none⟩=some (.int .i64 (Z i j))∧(-9223372036854775808≤Z i j∧Z i j≤9223372036854775807)
theorem AReads.below {nf:Nat} {w w':World} {B:Nat} {a:Option Addr} {n:Nat} {Z:Nat→Nat→Int} (h:AReads nf w a n Z) (hb:Below B w w') (hB:w.heap.size≤B):AReads nf w' a n Z:=fun i hi=>by
 obtain⟨b,off,e,hlt,hc⟩:=h i hi;exact⟨b,off,e,Nat.lt_of_lt_of_le hlt hb.size,fun j hj=>by rw[hb.cell (p:=⟨b,off+i*nf+j,none⟩) (Nat.lt_of_lt_of_le hlt hB)];exact hc j hj⟩
end Go.Proofs.YtmihiknebelkbaaGreat.Acts
