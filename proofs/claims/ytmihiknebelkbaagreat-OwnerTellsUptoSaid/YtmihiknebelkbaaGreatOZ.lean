/-
  SHORT NAMES FOR WHAT THE GENERATED TEXTS SAY OFTEN. By an AI agent; no person has read it.
-/
import Derived.Lib.Hide
import Derived.OrdersHeld
import Derived.Deep.RegionHeld3
import Derived.Test.YtmihiknebelkbaaGreatProg
namespace Go.Proofs.YtmihiknebelkbaaGreat
open Go.RowKit
theorem zh {p:Prop} (h:p):Hid p:=Lib.hid h
theorem zl {n:Nat}:n≤n:=Nat.le_refl n
theorem zq1 {α:Type} (l:List α) (i:Nat) (a:α):l.toArray.setIfInBounds i a=(l.set i a).toArray:=List.setIfInBounds_toArray ..
theorem zq2 {α:Type} {x:α} {xs:List α} {b:α}:(x::xs).set 0 b=b::xs:=List.set_cons_zero
theorem zq3 {α:Type} {x:α} {xs:List α} {n:Nat} {b:α}:(x::xs).set (n+1) b=x::xs.set n b:=List.set_cons_succ
theorem zqT {P:Program} {ops:Array Oper} {Q:Exit→Act→World→Prop} {md:Region.Mode} {S:World→Prop} (i:Nat) {oi:Oper} (v:Value) {fuel:Nat} {listed:Array Bool} {a:Act} {w:World} (hy:∀w,S w→(execOp a.eval oi).run P w = .ok (.value v) w)
 (h:wpAnyH P md ops Q S fuel (listed.setIfInBounds i true) (a.put oi.dst v) w) (h1:ops[i]? = some oi:=by rw[List.getElem?_toArray];rfl) (hw:Region.wanted oi (yielded ops a.tmps)=true:=by rfl) (hS:S w:=by assumption) (h2:Region.noSelect ops=true:=by kernel_rfl) (h3:Region.free md ops listed i=true:=by kernel_rfl) (h4:(Region.ready md ops listed).contains i=true:=by kernel_rfl)
 (h5:∀c a w,Q (.panic c) (a.put oi.dst v) w→Q (.panic c) a w:=by exact fun _ _ _ h=>h):wpAnyH P md ops Q S (fuel+1) listed a w:=wpAnyH_take h1 h2 h3 h4 h5 (.inl ⟨hw,hy⟩) hS h
theorem zqU {P:Program} {ops:Array Oper} {Q:Exit→Act→World→Prop} {md:Region.Mode} {S:World→Prop} (i:Nat) {oi:Oper} (v:Value) {fuel:Nat} {listed:Array Bool} {a:Act} {w:World} (hy:∀w,S w→(execOp a.eval oi).run P w = .ok (.value v) w)
 (h:wpAnyH P md ops Q S fuel (listed.setIfInBounds i true) (a.put oi.dst v) w) (h1:ops[i]? = some oi:=by rw[List.getElem?_toArray];rfl) (hw:Region.wanted oi (yielded ops a.tmps)=true:=by rfl) (hS:S w:=by assumption) (h2:Region.noSelect ops=true:=by kernel_rfl) (h3:Region.free md ops listed i=true:=by kernel_rfl) (h4:(Region.ready md ops listed).contains i=true:=by kernel_rfl)
 (h5:∀c a w,Q (.panic c) (a.put oi.dst v) w→Q (.panic c) a w:=by intro _ _ _ h;exact absurd h.1 (by simp)):wpAnyH P md ops Q S (fuel+1) listed a w:=wpAnyH_take h1 h2 h3 h4 h5 (.inl ⟨hw,hy⟩) hS h
theorem zqR {P:Program} {ops:Array Oper} {Q:Exit→Act→World→Prop} {md:Region.Mode} {S:World→Prop} (rs:List Nat) {fuel:Nat} {listed:Array Bool} {a:Act} {w:World} (h:AllReadyH P md ops Q S fuel listed a w rs) (h1:Region.ready md ops listed=rs:=by kernel_rfl) (h2:rs≠[]:=by simp):wpAnyH P md ops Q S (fuel+1) listed a w:=wpAnyH_ready h1 h2 h
theorem zqN {P:Program} {ops:Array Oper} {Q:Exit→Act→World→Prop} {md:Region.Mode} {S:World→Prop} {fuel:Nat} {listed:Array Bool} {a:Act} {w:World} {i:Nat} {o:Oper}
 (hK:∀(K':Act→World→Prop),Shut (∀(a:Act) (w:World),S w→(S w→wpAnyH P md ops Q S fuel (listed.setIfInBounds i true) a w)→K' a w)→if Region.wanted o (yielded ops a.tmps)=true then Oper.wp P o a w K' Q else K' (a.put o.dst undef) w)
 (ho:ops[i]? = some o:=by rw[List.getElem?_toArray];rfl):AllReadyH P md ops Q S fuel listed a w [i]:=AllReadyH.cons ho hK AllReadyH.nil
theorem zqC {P:Program} {ops:Array Oper} {Q:Exit→Act→World→Prop} {md:Region.Mode} {S:World→Prop} {fuel:Nat} {listed:Array Bool} {a:Act} {w:World} {i:Nat} {o:Oper} {rs:List Nat}
 (hK:∀(K':Act→World→Prop),Shut (∀(a:Act) (w:World),S w→(S w→wpAnyH P md ops Q S fuel (listed.setIfInBounds i true) a w)→K' a w)→if Region.wanted o (yielded ops a.tmps)=true then Oper.wp P o a w K' Q else K' (a.put o.dst undef) w)
 (hs:AllReadyH P md ops Q S fuel listed a w rs) (ho:ops[i]? = some o:=by rw[List.getElem?_toArray];rfl):AllReadyH P md ops Q S fuel listed a w (i::rs):=AllReadyH.cons ho hK hs
end Go.Proofs.YtmihiknebelkbaaGreat
