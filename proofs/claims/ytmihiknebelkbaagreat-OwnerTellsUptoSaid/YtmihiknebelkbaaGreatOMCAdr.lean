/-
  MCSmall, GShown, MConst, MLawQ, MKnown, MCAdr. By an AI agent.
-/
import Derived.Test.YtmihiknebelkbaaGreatOZ
import Derived.Test.YtmihiknebelkbaaGreatOT2
import Derived.Test.YtmihiknebelkbaaGreatOG1
import Derived.Test.YtmihiknebelkbaaGreatOH1
import Derived.Test.YtmihiknebelkbaaGreatOMBack
import Derived.Test.YtmihiknebelkbaaGreatOMApp
import Derived.Test.YtmihiknebelkbaaGreatOO1
import Derived.Laws.AppendOwnNone
set_option linter.unusedSimpArgs false
set_option linter.unusedVariables false
set_option maxHeartbeats 4000000
namespace Go.Proofs.YtmihiknebelkbaaGreat.Mta
open Go.RowKit Wire Term Rig
set_option maxRecDepth 1000000 in
theorem isPublic_any (s:ByteArray) (w:World) (hs:s.size≤140737488355328):
 Calls Tryz.prog 77 #[.string s] w fun e w'=>e = .returned (.bool (decide (kind s.data.toList=117)))∧Below w.heap.size w w':=by
 obtain⟨k,hk⟩:∃k,kind s.data.toList=k:=⟨_,rfl⟩
 have HK:=zh fun w=>t_Kind s w hs
 rw[hk]at HK⊢;clear hk;by_cases h:k=117
 ·subst h
  go_enter Tryz.func77,Tryz.ntmps77;go_wp2_with fail;with_reducible refine(HK.out _).mono ?_
  rintro e w1 ⟨rfl,hb1⟩;dsimp only;go_wp2;go_ret;exact⟨rfl,hb1⟩
 ·rw[decide_eq_false h]
  have q:((k:Int) != 117)=true:=by simpa using(show ¬(k:Int)=117 by omega)
  have q':((k:Int)==117)=false:=by simpa using(show ¬(k:Int)=117 by omega)
  go_enter Tryz.func77,Tryz.ntmps77;go_wp2_with fail;with_reducible refine(HK.out _).mono ?_
  rintro e w1 ⟨rfl,hb1⟩;dsimp only;go_wp2;go_ret;exact⟨rfl,hb1⟩
theorem all_take {p:Tm→Bool} {ys:List ByteArray} {j:Nat} (hj:j<ys.length):((bl ys).take (j+1)).all p=(((bl ys).take j).all p&&p (ys.getD j ByteArray.empty).data.toList):=by
 rw[bl_get hj,List.all_append];simp
set_option maxRecDepth 1000000 in
theorem all_fn (g:Nat) (eg:∀args w,(callFunc g args).run Tryz.prog w = .ok (.enter g args) w) (p:Tm→Bool) (A:Option Addr) (c:Nat) (ys:List ByteArray) (w:World) (hA:SReads w A ys) (hl:ys.length≤2000000)
 (hp:∀y∈ys,∀W,Calls Tryz.prog g #[.string y] W fun e w'=>e = .returned (.bool (p y.data.toList))∧Below W.heap.size W w'):
 Calls Tryz.prog 76 #[.slice A ys.length c,.func (.func g) #[] #[]] w fun e w'=>e = .returned (.bool ((bl ys).all p))∧Below w.heap.size w w':=by
 have HA:=zh hA;have HP:=zh hp;clear hA hp;obtain⟨bb,hbb⟩:∃b,(bl ys).all p=b:=⟨_,rfl⟩
 have HBB:=zh hbb;rw[hbb];clear hbb;go_enter Tryz.func76,Tryz.ntmps76;go_wp2_with fail;go_loopw [9] (fun i wr=>∃k:Nat,k≤ys.length∧i = .int .i64 (k:Int)∧Hid (((bl ys).take k).all p=true)∧Hid (Below w.heap.size w wr)) (fun i _=>ys.length-(intOf i).toNat);case atStart=>exact⟨0,Nat.zero_le _,rfl,zh (by simp),zh (Below.refl _ _)⟩
 case round=>
  obtain⟨k,hk,rfl,HT,HB⟩:=hrel;by_cases hlt:(k:Int)<(ys.length:Int)
  ·obtain⟨b,off,rfl,hbl,hcl⟩:=(HA.out.below HB.out zl) k (by omega)
   obtain⟨y,hy⟩:∃y,ys.getD k ByteArray.empty=y:=⟨_,rfl⟩
   have hin:y∈ys:=by rw[←hy];simp[List.getD,show k<ys.length by omega]
   have hat:=all_take (p:=p) (ys:=ys) (j:=k) (by omega);rw[hy]at hcl hat;rw[HT.out,Bool.true_and]at hat;have HY:=zh (HP.out y hin);obtain⟨pb,hpb⟩:∃v,p y.data.toList=v:=⟨_,rfl⟩
   rw[hpb]at HY hat;have HAT:=zh hat;clear hy hin hat hpb hbl;cases pb with
   | false=>
    obtain rfl:bb=false:=by
     rw[←HBB.out];cases h:(bl ys).all p with
     | false=>rfl
     | true=>
      have h2:((bl ys).take (k+1)).all p=true:=List.all_eq_true.2 fun x hx=>List.all_eq_true.1 h x (List.mem_of_mem_take hx)
      rw[HAT.out]at h2;cases h2
    go_wp2_with (go_at_fn g;refine(HY.out _).mono ?_;rintro e w' ⟨rfl,hb'⟩);go_ret;exact⟨rfl,Bel.call HB.out hb'⟩
   | true=>
    go_wp2_with (go_at_fn g;refine(HY.out _).mono ?_;rintro e w' ⟨rfl,hb'⟩;have HB2:=zh (Bel.call HB.out hb');clear hb');go_roundw;case rel=>exact⟨k+1,by omega,by go_num,HAT,HB2⟩
    case measure=>simp[intOf];omega
  ·obtain rfl:bb=true:=by
    rw[←HBB.out];have h:=HT.out;rw[show k=ys.length by omega,bl_take_all]at h;exact h
   go_wp2;go_ret;exact⟨rfl,HB.out⟩
end Go.Proofs.YtmihiknebelkbaaGreat.Mta
namespace Go.Proofs.YtmihiknebelkbaaGreat.Rig
open Go.RowKit Wire
def annaB:ByteArray:=⟨#[97,110,110,97]⟩
def notesB:ByteArray:=⟨#[110,111,116,101,115]⟩
def benB:ByteArray:=⟨#[98,101,110]⟩
def r0:Rt:=⟨annaB.data.toList,notesB.data.toList,0,[],[]⟩
def r1:Rt:=⟨annaB.data.toList,notesB.data.toList,0,[benB.data.toList],[]⟩
end Go.Proofs.YtmihiknebelkbaaGreat.Rig
namespace Go.Proofs.YtmihiknebelkbaaGreat.Mta
open Wire Term Rig Draw Reg
def userT:Tm:=[117,115,101,114]
def secU (who:Tm):Tm:=sech userT who 1
def pubU (who:Tm):Tm:=117::secU who
end Go.Proofs.YtmihiknebelkbaaGreat.Mta
namespace Go.Proofs.YtmihiknebelkbaaGreat.Mta
open Wire Term Rig Draw Reg
def kn (i:Nat):Tm×Tm:=((whoN i).data.toList,pubU (whoN i).data.toList)
end Go.Proofs.YtmihiknebelkbaaGreat.Mta
namespace Go.Proofs.YtmihiknebelkbaaGreat.Mta
open Go.RowKit Wire Term Rig Draw
def pcs (ks:List (ByteArray×ByteArray)):List Value:=ks.flatMap fun k=>[.string k.1,.string k.2]
theorem pcs_len (ks:List (ByteArray×ByteArray)):(pcs ks).length=ks.length*2:=by
 induction ks with
 | nil=>rfl
 | cons k ks ih=>show(Value.string k.1::Value.string k.2::pcs ks).length=_;rw[List.length_cons,List.length_cons,ih,List.length_cons];omega
theorem pcs_app (a b:List (ByteArray×ByteArray)):pcs (a++b)=pcs a++pcs b:=by simp[pcs]
theorem pcs_one (ks:List (ByteArray×ByteArray)):∀u∈pcs ks,u.oneCell'=true:=fun u hu=>by
 obtain⟨k,_,hk⟩:=List.mem_flatMap.1 hu;have:u = .string k.1∨u = .string k.2:=by simpa using hk
 rcases this with rfl|rfl<;>rfl
theorem pcs_get:∀(ks:List (ByteArray×ByteArray)) (j:Nat),j<ks.length→(pcs ks)[j*2]? = some (.string (ks.getD j default).1)∧(pcs ks)[j*2+1]? = some (.string (ks.getD j default).2)
 | [],j,h=>absurd h (Nat.not_lt_zero _)
 | k::ks,0,_=>⟨rfl,rfl⟩
 | k::ks,j+1,h=>by
  have:=pcs_get ks j (by simpa using h);show(Value.string k.1::Value.string k.2::pcs ks)[(j+1)*2]? = _∧(Value.string k.1::Value.string k.2::pcs ks)[(j+1)*2+1]? = _
  rw[show(j+1)*2=j*2+1+1 by omega,show j*2+1+1+1=(j*2+1)+1+1 by omega,List.getElem?_cons_succ,List.getElem?_cons_succ,List.getElem?_cons_succ,List.getElem?_cons_succ];simpa using this
theorem preads_own {w:World} {base:Nat} {e:TypeId} {a:Option Addr} {n c:Nat} {ks:List (ByteArray×ByteArray)} (h:w.ownsRow base e 2 (.slice a n c) n (pcs ks)):PReads w a ks∧n=ks.length∧(n≤c∧(a=none→c=0))∧(∀b off,a=some ⟨b,off,none⟩→base≤b):=by
 have hl:n=ks.length:=by
  have:=h.1;rw[pcs_len]at this;omega
 rcases h.2 with⟨hv,h0⟩|⟨g,cap,cur,hv,hg,hgg,hnc,hcm,hcs,htake⟩
 ·injection hv with e1 e2 e3
  subst e1;subst e2;subst e3;have:ks = []:=List.eq_nil_of_length_eq_zero hl.symm;subst this;exact⟨PReads.nil _ _,rfl,⟨Nat.le_refl _,fun _=>rfl⟩,fun _ _ h=>by cases h⟩
 ·injection hv with e1 e2 e3
  subst e1;subst e3;refine⟨fun j hj=>?_,hl,⟨hnc,fun h=>by cases h⟩,fun b off h=>by injection h with h;injection h with h1 _ _;omega⟩;obtain⟨p1,p2⟩:=pcs_get ks j hj
  have hcell:∀i u,(pcs ks)[i]? = some u→w.cell? ⟨g,0+i,none⟩=some u:=fun i u hu=>by
   rw[Nat.zero_add,cell_of_row w g i cur e (0,0) hgg];rw[←htake,List.getElem?_take]at hu;split at hu
   ·simpa using hu
   ·cases hu
  exact⟨g,0,rfl,(Array.getElem?_eq_some_iff.1 hgg).1,hcell _ _ p1,by have:=hcell _ _ p2;rw[←Nat.add_assoc]at this;exact this⟩
def Plst (B:Nat) (x:List (Tm×Tm)) (e:Ending) (w':World):Prop:=∃(A:Option Addr) (c:Nat) (ks:List (ByteArray×ByteArray)),pl ks=x∧(ks.length≤c∧(A=none→c=0))∧PReads w' A ks∧(∀b off,A=some ⟨b,off,none⟩→B≤b)∧e = .returned (.slice A ks.length c)
def OwnsP (t:TypeId) (w0:World) (x:List (Tm×Tm)) (v:Value) (wr:World):Prop:=∃ks:List (ByteArray×ByteArray),pl ks=x∧wr.ownsRow w0.heap.size t 2 v ks.length (pcs ks)∧Below w0.heap.size w0 wr
theorem ownsP_nil (t:TypeId) (w:World) {wr:World} (h:Below w.heap.size w wr):OwnsP t w [] (.slice none 0 0) wr:=⟨[],rfl,World.ownsRow_nil _ _ _ _,h⟩
theorem ownsP_lst {t:TypeId} {w0 wr:World} {x:List (Tm×Tm)} {v:Value} (h:OwnsP t w0 x v wr):Plst w0.heap.size x (.returned v) wr:=by
 obtain⟨ks,h1,h2,_⟩:=h;obtain⟨A,c,rfl⟩:=own_value h2;obtain⟨h3,h4,h5,h6⟩:=preads_own h2;exact⟨A,c,ks,h1,h5,h3,h6,rfl⟩
end Go.Proofs.YtmihiknebelkbaaGreat.Mta
namespace Go.Proofs.YtmihiknebelkbaaGreat.Mta
open Go.RowKit Wire Term Rig
def Own1 (B:Nat) (w:World) (A:Option Addr):Prop:=∀b off,A=some ⟨b,off,none⟩→B≤b∧b<w.heap.size∧∀j,w.frozen? ⟨b,j,none⟩=false
theorem Own1.below {B:Nat} {w w':World} {A:Option Addr} (h:Own1 B w A) (hb:Below w.heap.size w w'):Own1 B w' A:=fun b off e=>by
 obtain⟨h1,h2,h3⟩:=h b off e;exact⟨h1,Nat.lt_of_lt_of_le h2 hb.size,fun j=>(hb.frozen (p:=⟨b,j,none⟩) h2).trans (h3 j)⟩
theorem drop_at {ys:List ByteArray} {k:Nat} {y:ByteArray} (hk:k<ys.length) (hy:ys.getD k ByteArray.empty=y):(bl ys).drop k=y.data.toList::(bl ys).drop (k+1):=by
 have h:(bl ys)[k]? = some y.data.toList:=by
  unfold bl;rw[List.getElem?_map,List.getElem?_eq_getElem hk,←hy];simp[List.getD,hk]
 obtain⟨h1,h2⟩:=List.getElem?_eq_some_iff.1 h;rw[List.drop_eq_getElem_cons h1,h2]
end Go.Proofs.YtmihiknebelkbaaGreat.Mta
