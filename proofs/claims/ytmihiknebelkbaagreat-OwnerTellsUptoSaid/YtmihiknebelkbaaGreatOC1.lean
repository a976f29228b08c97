/-
  C1. By an AI agent.
-/
import Derived.Test.YtmihiknebelkbaaGreatOZ
import Derived.Lib.AppendZeros
import Derived.Laws.AppendOwnNone
import Derived.Test.YtmihiknebelkbaaGreatOG1
import Derived.Test.YtmihiknebelkbaaGreatOG2
import Derived.Test.YtmihiknebelkbaaGreatOH1
import Derived.Test.YtmihiknebelkbaaGreatOW1
set_option linter.unusedSimpArgs false
set_option linter.unusedVariables false
set_option maxHeartbeats 16000000
namespace Go.Proofs.YtmihiknebelkbaaGreat.Rig
open Go.RowKit Wire
def plc (u:Tm):List Tm→Nat×Bool
 | []=>(0,false)
 | y::l=>if lt y u=true then((plc u l).1+1,(plc u l).2)else(0,!lt u y)
theorem plc_stop {u y:Tm} {l:List Tm} (h:lt y u=false):plc u (y::l)=(0,!lt u y):=by
 unfold plc;rw[if_neg (by simp[h])]
theorem plc_step {u y:Tm} {l:List Tm} (h:lt y u=true):plc u (y::l)=((plc u l).1+1,(plc u l).2):=by
 rw[plc,if_pos h]
theorem plc_mem (u:Tm):∀{l:List Tm},l.Pairwise (fun a b=>lt a b=true)→(plc u l).2=decide (u∈l)
 | [],_=>by simp[plc]
 | y::l,h=>by
  obtain⟨h1,h2⟩:=List.pairwise_cons.1 h;by_cases hy:lt y u=true
  ·rw[plc_step hy]
   show(plc u l).2=_;rw[plc_mem u h2];have hne:u≠y:=fun e=>by rw[e,lt_irrefl]at hy;cases hy
   simp[hne]
  ·rw[plc_stop (by simpa using hy)]
   show(!lt u y)=_
   by_cases hu:lt u y=true
   ·have hne:u≠y:=fun e=>by rw[e,lt_irrefl]at hu;cases hu
    have hn:u∉l:=fun hm=>by
     have:=lt_trans hu (h1 u hm);rw[lt_irrefl]at this;cases this
    simp[hu,hne,hn]
   ·have e:u=y:=by
     rcases lt_tri u y with h|h|h
     ·exact absurd h hu
     ·exact h
     ·exact absurd h hy
    simp[e,lt_irrefl]
theorem plc_more (u y:Tm):∀{a b:List Tm},(∀x∈a,lt x u=true)→plc u (a++b)=(a.length+(plc u b).1,(plc u b).2)
 | [],b,_=>by simp
 | x::a,b,h=>by
  rw[List.cons_append,plc_step (h x (by simp)),plc_more u y (a:=a) fun z hz=>h z (List.mem_cons_of_mem _ hz)];simp only[List.length_cons];rw[show a.length+(plc u b).1+1=a.length+1+(plc u b).1 by omega]
theorem plc_at {u:Tm} {ys:List ByteArray} {k:Nat} {y:ByteArray} (hk:k<ys.length) (hy:ys.getD k ByteArray.empty=y) (ha:∀x∈(bl ys).take k,lt x u=true) (h:lt y.data.toList u=false):plc u (bl ys)=(k,!lt u y.data.toList):=by
 have e:=bl_drop (ys:=ys) hk;rw[hy]at e;have e2:bl ys=(bl ys).take k++y.data.toList::(bl ys).drop (k+1):=by rw[←e,List.take_append_drop]
 have hl:((bl ys).take k).length=k:=by rw[List.length_take,bl_len];omega
 rw[e2,plc_more u y.data.toList ha,plc_stop h,hl];rfl
theorem plc_end {u:Tm} {ys:List ByteArray} (ha:∀x∈(bl ys).take ys.length,lt x u=true):plc u (bl ys)=(ys.length,false):=by
 rw[bl_take_all]at ha;have:=plc_more u u (b:=[]) ha;rw[List.append_nil,bl_len]at this;exact this
set_option maxRecDepth 1000000 in
theorem place_any (a:Option Addr) (c:Nat) (ys:List ByteArray) (u:ByteArray) (w:World) (hr:SReads w a ys) (hn:ys.length≤2000000):
 Calls Tryz.prog 107 #[.slice a ys.length c,.string u,.func (.func 94) #[] #[]] w fun e w'=>e = .returned (.tuple #[.int .i64 ((plc u.data.toList (bl ys)).1:Int),.bool (plc u.data.toList (bl ys)).2])∧Below w.heap.size w w':=by
 obtain⟨P,B,hp⟩:∃P B,plc u.data.toList (bl ys)=(P,B):=⟨_,_,rfl⟩
 rw[hp];have HP:=zh hp;have HR:=zh hr;clear hr hp;dsimp only;go_enter Tryz.func107,Tryz.ntmps107;go_wp2_with fail;go_loopw [12] (fun i wr=>∃k:Nat,k≤ys.length∧i = .int .i64 (k:Int)∧Hid (∀x∈(bl ys).take k,lt x u.data.toList=true)∧wr=w) (fun i _=>ys.length-(intOf i).toNat);case atStart=>exact⟨0,Nat.zero_le _,rfl,zh (by simp),rfl⟩
 case round=>
  obtain⟨k,hk,rfl,HA,rfl⟩:=hrel;by_cases hlt:k<ys.length
  ·obtain⟨bk,off,rfl,hbl,hcl⟩:=HR.out k hlt
   obtain⟨y,hy⟩:∃y,ys.getD k ByteArray.empty=y:=⟨_,rfl⟩
   rw[hy]at hcl;have HY:=zh hy;clear hy hbl;obtain⟨b1,hb1⟩:∃b,lt y.data.toList u.data.toList=b:=⟨_,rfl⟩
   have HB1:=zh hb1;cases b1 with
   | true=>
    clear hb1;go_wp2_with (go_at_call 94;refine(less_any _ _ _).mono ?_;rintro e w1 ⟨rfl,rfl⟩;rw[show Op.bytesLess y.data.toList u.data.toList=true from HB1.out]);go_roundw
    case rel=>
     refine⟨k+1,by omega,by go_num,zh ?_,trivial⟩;have hg:=bl_get (ys:=ys) hlt;rw[HY.out]at hg;rw[hg];intro x hx;rcases List.mem_append.1 hx with hx|hx
     ·exact HA.out x hx
     ·rw[List.mem_singleton.1 hx];exact HB1.out
    case measure=>simp[intOf];omega
   | false=>
    have hpl:=plc_at hlt HY.out HA.out hb1;rw[HP.out]at hpl;obtain⟨rfl,hB⟩:=Prod.mk.inj hpl;have HBB:=zh hB;clear hb1 hpl hB;go_wp2_with (go_at_call 94;refine(less_any _ _ _).mono ?_;rintro e w1 ⟨rfl,rfl⟩;first|rw[show Op.bytesLess y.data.toList u.data.toList=false from HB1.out]|skip);go_ret2;exact⟨by rw[HBB.out];rfl,Below.refl _ _⟩
  ·have hk2:k=ys.length:=by omega
   have hpl:=plc_end (u:=u.data.toList) (ys:=ys) (by have:=HA.out;rw[hk2]at this;exact this);rw[HP.out]at hpl;obtain⟨rfl,rfl⟩:=Prod.mk.inj hpl;clear hpl;subst hk2;go_wp2;go_ret2;exact⟨rfl,Below.refl _ _⟩
set_option maxRecDepth 1000000 in
theorem among_any (a:Option Addr) (c:Nat) (ys:List ByteArray) (u:ByteArray) (w:World) (hr:SReads w a ys) (hn:ys.length≤2000000) (hp:(bl ys).Pairwise (fun a b=>lt a b=true)):
 Calls Tryz.prog 95 #[.slice a ys.length c,.string u] w fun e w'=>e = .returned (.bool (decide (u.data.toList∈bl ys)))∧Below w.heap.size w w':=by
 rw[←plc_mem u.data.toList hp];have HR:=zh hr;clear hr hp;have hmf:∀(fn:Fn) (first cap:Array Value) (w:World),(Instr.makeFunc fn first cap).run Tryz.prog w = .ok (.func fn first cap) w:=fun _ _ _ _=>rfl
 go_enter Tryz.func95,Tryz.ntmps95;go_wp2_with (go_at_call 107;refine(place_any _ _ _ _ _ HR.out hn).mono ?_;rintro e w1 ⟨rfl,hb⟩;have HB:=zh hb;clear hb;dsimp only);go_ret;exact⟨rfl,HB.out⟩
end Go.Proofs.YtmihiknebelkbaaGreat.Rig
namespace Go.Proofs.YtmihiknebelkbaaGreat.Rig
open Go.RowKit Wire
set_option maxRecDepth 1000000 in
theorem grow_nil (n:Nat) (w:World) (hn:n≤2000000):
 Calls Tryz.prog 108 #[.slice none 0 0,.int .i64 (n:Int)] w fun e w'=>∃(A:Option Addr) (c:Nat),e = .returned (.slice A 0 c)∧w'.ownsRow w.heap.size 9 1 (.slice A 0 c) 0 (sv [])∧Below w.heap.size w w':=by
 by_cases h0:n=0
 ·subst h0
  go_enter Tryz.func108,Tryz.ntmps108;go_wp2;go_ret;exact⟨none,0,rfl,World.ownsRow_nil _ _ _ _,Below.refl _ _⟩
 ·obtain⟨i0,hi0,hz0,hz1,hz2⟩:=info_parts str_info
  have hr:∀ty,(Builtin.append_ #[22,3] ty #[.slice none 0 0,.int .i64 (n:Int)]).run Tryz.prog w = .ok (.slice (some ⟨w.heap.size,0,none⟩) n (grownCap w n 0 9)) (w.drew.alloc (.cells (Builtin.zeroCells #[.string ⟨#[]⟩] n++Builtin.zeroCells #[.string ⟨#[]⟩] (grownCap w n 0 9-n)) 9)):=fun ty=>by
   have:=Lib.run_append_nil_zeros (P:=Tryz.prog) w 22 3 ty 9 i0 _ .i64 .i64 Tryz.underlying22 Tryz.underlying3 hi0 hz0 n (by omega) (by omega) (by omega) (by rw[hz2];omega);exact this
  have hg1:n≤grownCap w n 0 9:=grownCap_ge w _ _ _;have hg2:grownCap w n 0 9≤maxLen:=grownCap_le_maxLen w n 0 9 (by unfold maxLen;omega);obtain⟨G,hG⟩:∃G,grownCap w n 0 9=G:=⟨_,rfl⟩
  rw[hG]at hr hg1 hg2;obtain⟨cur,hcur⟩:∃cur,(Builtin.zeroCells #[.string ⟨#[]⟩] n++Builtin.zeroCells #[.string ⟨#[]⟩] (G-n))=cur:=⟨_,rfl⟩
  have hcs:cur.size=G*1:=by
   rw[←hcur];simp[Builtin.zeroCells];omega
  rw[hcur]at hr;have HCS:=zh hcs;have HG2:=zh hg2;have hg3:G≤9223372036854775807:=hg2;have hn0:0<n:=by omega
  have hn1:(0:Int)<(n:Int):=by omega
  clear hG hcur hcs hg2;go_enter Tryz.func108,Tryz.ntmps108;go_wp2_with (at_builtin;refine Lib.wpList_append_run _ rfl _ _ _ _ rfl _ _ rfl rfl _ _ (hr _) ?_);all_goals (go_ret;exact⟨_,_,rfl,World.ownsRow_made w.drew cur G zl HG2.out HCS.out,(Below.drewN' (Below.refl _ w) 1).alloc zl _⟩)
theorem append_txts {w:World} {ops:Array Oper} {rest:List Oper} {o:Oper} {a:Act} {Q:Exit→Act→World→Prop} (hgd:o.guard=none) (s x:Operand)
 (ho:o.op = .call { callee:=.builtin .append,args:=#[s,x],argTypes:=#[22,22] }) (base:Nat)
 (v:Value) (k:Nat) (xs zs:List ByteArray) (hs:a.eval s=v) (hown:w.ownsRow base 9 1 v k (sv xs)) (hk:k=xs.length)
 (b:Option Addr) (n c:Nat) (hx:a.eval x = .slice b n c) (hn:n=zs.length) (hnil:b=none→c=0) (hr:SReads w b zs)
 (hlen:k+zs.length≤1000) (hbase:base≤w.heap.size)
 (h:∀v' w',w'.ownsRow base 9 1 v' (k+n) (sv (xs++zs))→Below base w w'→wpList Tryz.prog ops Q rest (a.put o.dst v') w'):wpList Tryz.prog ops Q (o::rest) a w:=by
 obtain⟨i0,hi0,hz0,hz1,hz2⟩:=info_parts str_info;subst hn;cases b with
 | none=>
  have hz:zs = []:=by
   cases zs with
   | nil=>rfl
   | cons z t=>obtain⟨_,_,he,_⟩:=hr 0 (by simp);cases he
  subst hz;rw[hnil rfl]at hx;refine wpList_append_own_none hgd s x 22 ho base 9 i0 1 Tryz.underlying22 hi0 v k (sv xs) hs hown hx ?_;exact h v w (by simpa[sv]using hown) (Below.refl _ _)
 | some ad=>
  refine wpList_append_own _ hgd s x 22 ho base 9 i0 _ 1 16 Tryz.underlying22 hi0 hz0 hz1 hz2 rfl (by decide) v k (sv xs) hs hown ad zs.length c (sv zs) hx (by simp[sv]) ?_ (sv_one zs) (by simp only[maxLen];omega) (by omega) hbase ?_
  ·intro j u hj
   have hjl:j<zs.length:=by have:=(List.getElem?_eq_some_iff.1 hj).1;simpa[sv]using this
   obtain⟨b',o',he,_,hc⟩:=hr j hjl;obtain rfl:=Option.some.inj he
   have hu:u = .string (zs.getD j ByteArray.empty):=by
    simp[sv,hjl]at hj;rw[←hj];simp[List.getD,hjl]
   rw[hu,show((⟨b',o',none⟩:Addr).add j)=⟨b',o'+j,none⟩from by unfold Addr.add;split<;>simp_all];exact hc
  ·intro v' w' hown' hgrow _
   exact h v' w' (by simpa[sv]using hown') (Below.grown (Below.refl _ _) hgrow hbase fun q hq=>(hown.lt q hq).1)
abbrev Piece:=Option Addr×Nat×List ByteArray
def Pieces (w:World) (g:Nat) (ps:List Piece):Prop:=g<w.heap.size∧∀j A c ys,ps[j]? = some (A,c,ys)→w.cell? ⟨g,j,none⟩=some (.slice A ys.length c)∧SReads w A ys∧(A=none→c=0)
def whole (ps:List Piece):List ByteArray:=ps.flatMap fun p=>p.2.2
theorem whole_more {ps:List Piece} {k:Nat} {A:Option Addr} {c:Nat} {ys:List ByteArray} (h:ps[k]? = some (A,c,ys)):whole (ps.take (k+1))=whole (ps.take k)++ys:=by
 rw[List.take_add_one,h];simp[whole]
theorem whole_le {ps:List Piece} (k:Nat):(whole (ps.take k)).length≤(whole ps).length:=by
 have e:whole ps=whole (ps.take k)++whole (ps.drop k):=by
  unfold whole;rw[←List.flatMap_append,List.take_append_drop]
 rw[e,List.length_append];omega
theorem Pieces.below {w w':World} {g:Nat} {ps:List Piece} {B:Nat} (h:Pieces w g ps) (hb:Below B w w') (hB:w.heap.size≤B):Pieces w' g ps:=
 ⟨Nat.lt_of_lt_of_le h.1 hb.size,fun j A c ys hj=>by
  obtain⟨h1,h2,h3⟩:=h.2 j A c ys hj
  exact⟨(hb.cell (p:=⟨g,j,none⟩) (Nat.lt_of_lt_of_le h.1 hB)).trans h1,h2.below hb hB,h3⟩⟩
set_option maxRecDepth 1000000 in
theorem concat_own (g:Nat) (ps:List Piece) (w:World) (hp:Pieces w g ps) (hm:ps.length≤100) (hl:(whole ps).length≤900):
 Calls Tryz.prog 96 #[.slice (some ⟨g,0,none⟩) ps.length ps.length] w fun e w'=>(∃v,e = .returned v∧Owns w (bl (whole ps)) v w')∧Below w.heap.size w w':=by
 have HP:=zh hp;clear hp;go_enter Tryz.func96,Tryz.ntmps96;go_wp2_with fail;go_loopw [3,11] (fun z i wr=>∃k:Nat,k≤ps.length∧z = .int .i64 ((whole (ps.take k)).length:Int)∧i = .int .i64 (k:Int)∧w=wr) (fun _ i _=>ps.length-(intOf i).toNat);case atStart=>exact⟨0,Nat.zero_le _,rfl,rfl,rfl⟩
 case round=>
  obtain⟨k,hk,rfl,rfl,rfl⟩:=hrel;by_cases hlt:k<ps.length
  ·obtain⟨⟨A,c,ys⟩,hpk⟩:∃p,ps[k]? = some p:=⟨_,List.getElem?_eq_getElem hlt⟩
   obtain⟨hcl,_,_⟩:=HP.out.2 k A c ys hpk;obtain⟨L,hL⟩:∃L,(whole (ps.take k)).length=L:=⟨_,rfl⟩
   have hL2:(whole (ps.take (k+1))).length=L+ys.length:=by rw[whole_more hpk,List.length_append,hL]
   have hle:=whole_le (ps:=ps) (k+1);rw[hL2]at hle;rw[hL];have HL2:=zh hL2;clear hpk hL hL2;go_wp2;go_roundw;case rel=>exact⟨k+1,by omega,by rw[HL2.out];go_num,by go_num,trivial⟩
   case measure=>simp[intOf];omega
  ·obtain rfl:k=ps.length:=by omega
   rw[List.take_length];obtain⟨L,hL⟩:∃L,(whole ps).length=L:=⟨_,rfl⟩
   have HL:=zh hL;rw[hL]at hl⊢;clear hL;go_wp2_with (go_at_call 108;refine(grow_nil L _ (by omega)).mono ?_;rintro e w1 ⟨A1,c1,rfl,ho,hb⟩;have HO:=zh ho;have HB:=zh hb;clear ho hb);go_loopw [6,27] (fun v i wr=>∃(k:Nat) (V:Value),k≤ps.length∧V=v∧i = .int .i64 (k:Int)∧Hid (wr.ownsRow w.heap.size 9 1 V (whole (ps.take k)).length (sv (whole (ps.take k)))∧Below w.heap.size w wr)) (fun _ i _=>ps.length-(intOf i).toNat);case atStart=>exact⟨0,_,Nat.zero_le _,rfl,rfl,zh ⟨HO.out,HB.out⟩⟩
   case round=>
    obtain⟨k,v,hk,rfl,rfl,HR⟩:=hrel;by_cases hlt:k<ps.length
    ·obtain⟨⟨A,c,ys⟩,hpk⟩:∃p,ps[k]? = some p:=⟨_,List.getElem?_eq_getElem hlt⟩
     obtain⟨hcl,hsr,hnil⟩:=(HP.out.below HR.out.2 zl).2 k A c ys hpk;have HPK:=zh hpk;have HSR:=zh hsr;have HN:=zh hnil;clear hpk hsr hnil;have hle:=whole_le (ps:=ps) (k+1);have hL2:(whole (ps.take (k+1))).length=(whole (ps.take k)).length+ys.length:=by rw[whole_more HPK.out,List.length_append]
     have hbd:(whole (ps.take k)).length+ys.length≤1000:=by have:=HL.out;omega
     clear hle hL2;go_wp2_with (at_builtin;refine append_txts rfl _ _ rfl w.heap.size v _ _ ys rfl HR.out.1 rfl A ys.length c rfl rfl HN.out HSR.out hbd HR.out.2.size ?_;intro v2 w2 ho2 hb2;have HO2:=zh ho2;have HB2:=zh hb2;clear ho2 hb2);go_roundw
     case rel=>
      refine⟨k+1,_,by omega,rfl,by go_num,zh ⟨?_,HR.out.2.trans HB2.out⟩⟩;rw[whole_more HPK.out,List.length_append];exact HO2.out
     case measure=>simp[intOf];omega
    ·obtain rfl:k=ps.length:=by omega
     rw[List.take_length]at HR;have HE:Hid (Owns w (bl (whole ps)) v wr):=zh ⟨whole ps,rfl,HR.out.1,HR.out.2⟩;go_wp2;go_ret;exact⟨⟨_,rfl,HE.out⟩,HR.out.2⟩
end Go.Proofs.YtmihiknebelkbaaGreat.Rig
namespace Go.Proofs.YtmihiknebelkbaaGreat.Rig
open Go.RowKit Wire
theorem bl_app (xs ys:List ByteArray):bl (xs++ys)=bl xs++bl ys:=by simp[bl]
theorem two_pieces (w:World) (g:Nat) (t:TypeId) {A1 A2:Option Addr} {c1 c2:Nat} {m1 m2:Nat} {x1 x2:List ByteArray} (hg:g=w.heap.size)
 (e1:m1=x1.length) (e2:m2=x2.length) (h1:SReads w A1 x1) (h2:SReads w A2 x2) (n1:A1=none→c1=0) (n2:A2=none→c2=0):
 Pieces (w.alloc (.cells #[.slice A1 m1 c1,.slice A2 m2 c2] t)) g [(A1,c1,x1),(A2,c2,x2)]:=by
 subst hg e1 e2;refine⟨by simp,fun j A c ys hj=>?_⟩;have hb:=(Below.refl w.heap.size w).alloc zl (.cells #[.slice A1 x1.length c1,.slice A2 x2.length c2] t);have hc:∀j,(w.alloc (.cells #[.slice A1 x1.length c1,.slice A2 x2.length c2] t)).cell? ⟨w.heap.size,j,none⟩=(#[.slice A1 x1.length c1,.slice A2 x2.length c2]:Array Value)[j]?:=fun j=>cell_of_row _ _ _ _ _ (0,0) (heap_alloc_new w _)
 match j,hj with
 | 0,hj=>simp at hj;obtain⟨rfl,rfl,rfl⟩:=hj;exact⟨hc 0,h1.below hb zl,n1⟩
 | 1,hj=>simp at hj;obtain⟨rfl,rfl,rfl⟩:=hj;exact⟨hc 1,h2.below hb zl,n2⟩
 | k+2,hj=>simp at hj
theorem lst_mono {B B':Nat} {x:List Tm} {e:Ending} {w:World} (h:Lst B x e w) (hB:B'≤B):Lst B' x e w:=by
 obtain⟨A,c,ys,h1,h2,h3,h4,h5⟩:=h;exact⟨A,c,ys,h1,h2,h3,fun b off e=>Nat.le_trans hB (h4 b off e),h5⟩
end Go.Proofs.YtmihiknebelkbaaGreat.Rig
namespace Go.Proofs.YtmihiknebelkbaaGreat.Rig
open Go.RowKit Wire
theorem nm_ne {x:Tm} (h:nm x=true):x≠[]:=fun e=>by rw[e]at h;exact absurd h (by decide)
theorem lsd_iff {o:Tm} {l:List Tm}:Lsd o l↔Lsd [] l∧o∉l:=by
 constructor
 ·intro h
  exact⟨⟨fun x hx=>⟨(h.1 x hx).1,nm_ne (h.1 x hx).1⟩,h.2⟩,fun hm=>(h.1 o hm).2 rfl⟩
 ·rintro⟨h1,h2⟩
  exact⟨fun x hx=>⟨(h1.1 x hx).1,fun e=>h2 (by rw[←e];exact hx)⟩,h1.2⟩
set_option maxRecDepth 1000000 in
theorem rising_any (a:Option Addr) (c:Nat) (ys:List ByteArray) (w:World) (hr:SReads w a ys) (hn:ys.length≤2000000):
 Calls Tryz.prog 74 #[.slice a ys.length c] w fun e w'=>e = .returned (.bool (decide (Lsd [] (bl ys))))∧Below w.heap.size w w':=by
 have HR:=zh hr;obtain⟨bb,hb⟩:∃b,decide (Lsd [] (bl ys))=b:=⟨_,rfl⟩
 have HB:=zh hb;rw[hb];clear hr hb;go_enter Tryz.func74,Tryz.ntmps74;go_wp2_with fail;go_loopw [7] (fun i wr=>∃k:Nat,k≤ys.length∧i = .int .i64 (k:Int)∧Hid (Lsd [] ((bl ys).take k))∧Hid (Below w.heap.size w wr)) (fun i _=>ys.length-(intOf i).toNat);case atStart=>exact⟨0,Nat.zero_le _,rfl,zh (lsd_nil _),zh (Below.refl _ _)⟩
 case round=>
  obtain⟨k,hk,rfl,HL,HBW⟩:=hrel;by_cases hlt:k<ys.length
  ·obtain⟨b,off,rfl,hbl,hcl0⟩:=HR.out k hlt
   obtain⟨y,hy⟩:∃y,ys.getD k ByteArray.empty=y:=⟨_,rfl⟩
   have hst:=lsd_step (ys:=ys) (k:=k) hlt HL.out;rw[hy]at hcl0 hst;rw[←HBW.out.cell (p:=⟨b,off+k,none⟩) hbl]at hcl0;obtain⟨nb,hnm⟩:∃z,nm y.data.toList=z:=⟨_,rfl⟩
   have HNM:=zh hnm;have HST:=zh hst;have HY:=zh hy;have HBL:=zh hbl;clear hst hnm hy hbl;cases nb with
   | false=>
    go_wp2_with (go_at_call 54;refine(right_any _ _).mono ?_;rintro e w2 ⟨rfl,hb2⟩;rw[show Txt.right y.data.toList=false from HNM.out];have HB2:=zh hb2;clear hb2)
    have HT:Hid (bb=false):=by
     show bb=false
     rw[←HB.out];refine decide_eq_false fun h=>?_
     have h2:=(HST.out.1 (lsd_part (k+1) h)).1;rw[HNM.out]at h2;cases h2
    go_ret;exact⟨by rw[HT.out];rfl,HBW.out.trans (HB2.out.mono HBW.out.size)⟩
   | true=>
    by_cases h0:k=0
    ·have j0:¬((k:Int) > 0):=by omega
     have j1:¬((0:Int)<(k:Int)):=by omega
     have H0:Hid (¬0<k):=zh (by omega);clear h0;go_wp2_with (go_at_call 54;refine(right_any _ _).mono ?_;rintro e w2 ⟨rfl,hb2⟩;rw[show Txt.right y.data.toList=true from HNM.out];have HB2:=zh hb2;clear hb2);have HL2:Hid (Lsd [] ((bl ys).take (k+1))):=zh (HST.out.2 ⟨HNM.out,nm_ne HNM.out,fun h=>absurd h H0.out⟩);go_roundw;case rel=>exact⟨k+1,by omega,by go_num,HL2,zh (HBW.out.trans (HB2.out.mono HBW.out.size))⟩
     case measure=>simp[intOf];omega
    ·have hclx0:w.cell? ⟨b,off+(k-1),none⟩=some (.string (ys.getD (k-1) ByteArray.empty)):=by
      obtain⟨b2,off2,e,_,hc⟩:=HR.out (k-1) (by omega);injection e with e
      injection e with e1 e2 _
      rw[e1,e2];exact hc
     obtain⟨x,hx⟩:∃x,ys.getD (k-1) ByteArray.empty=x:=⟨_,rfl⟩
     rw[hx]at hclx0 HST;have HCX:=zh hclx0;clear hclx0 hx;obtain⟨lb,hlb⟩:∃z,lt x.data.toList y.data.toList=z:=⟨_,rfl⟩
     have HLT:=zh hlb;have i1:(1:Int)≤(k:Int):=by omega
     have i2:IntKind.i64.wrap ((k:Int)-1)=(k:Int)-1:=by rw[IntKind.wrap_i64];omega
     have i3:((k:Int)-1).toNat=k-1:=by omega
     have i4:(0:Int)≤(k:Int)-1:=by omega
     have i5:(k:Int)-1<(ys.length:Int):=by omega
     clear hlb;cases lb with
     | true=>
      go_wp2_with (first
       | (go_at_call 54;refine(right_any _ _).mono ?_;rintro e w2 ⟨rfl,hb2⟩;rw[show Txt.right y.data.toList=true from HNM.out];have hcx:=((HBW.out.trans (hb2.mono HBW.out.size)).cell (p:=⟨b,off+(k-1),none⟩) HBL.out).trans HCX.out;have HB2:=zh hb2;clear hb2)
       | (go_at_call 94;refine(less_any _ _ _).mono ?_;rintro e w3 ⟨rfl,h3⟩;obtain rfl:w2=w3:=h3;rw[show Op.bytesLess x.data.toList y.data.toList=true from HLT.out]))
      have HL2:Hid (Lsd [] ((bl ys).take (k+1))):=zh (HST.out.2 ⟨HNM.out,nm_ne HNM.out,fun _=>HLT.out⟩);go_roundw;case rel=>exact⟨k+1,by omega,by go_num,HL2,zh (HBW.out.trans (HB2.out.mono HBW.out.size))⟩
      case measure=>simp[intOf];omega
     | false=>
      go_wp2_with (first
       | (go_at_call 54;refine(right_any _ _).mono ?_;rintro e w2 ⟨rfl,hb2⟩;rw[show Txt.right y.data.toList=true from HNM.out];have hcx:=((HBW.out.trans (hb2.mono HBW.out.size)).cell (p:=⟨b,off+(k-1),none⟩) HBL.out).trans HCX.out;have HB2:=zh hb2;clear hb2)
       | (go_at_call 94;refine(less_any _ _ _).mono ?_;rintro e w3 ⟨rfl,h3⟩;obtain rfl:w2=w3:=h3;rw[show Op.bytesLess x.data.toList y.data.toList=false from HLT.out]))
      have HT:Hid (bb=false):=by
       show bb=false
       rw[←HB.out];refine decide_eq_false fun h=>?_
       have h2:=(HST.out.1 (lsd_part (k+1) h)).2.2 (by omega);rw[HLT.out]at h2;cases h2
      go_ret;exact⟨by rw[HT.out];rfl,HBW.out.trans (HB2.out.mono HBW.out.size)⟩
  ·have HT:Hid (bb=true):=by
    show bb=true
    rw[←HB.out];refine decide_eq_true ?_;have:=HL.out;rw[show k=ys.length by omega,bl_take_all]at this;exact this
   go_wp2;go_ret;exact⟨by rw[HT.out];rfl,HBW.out⟩
end Go.Proofs.YtmihiknebelkbaaGreat.Rig
namespace Go.Proofs.YtmihiknebelkbaaGreat.Rig
open Go.RowKit Wire
set_option maxRecDepth 1000000 in
theorem apart_any (o f:ByteArray) (ep:Int) (A:Option Addr) (c:Nat) (rs:List ByteArray) (B:Option Addr) (d:Nat) (ws:List ByteArray) (w:World) (hA:SReads w A rs) (hB:SReads w B ws) (hn1:rs.length≤1000) (hn2:ws.length≤1000)
 (p1:(bl rs).Pairwise (fun a b=>lt a b=true)) (p2:(bl ws).Pairwise (fun a b=>lt a b=true)):
 Calls Tryz.prog 75 #[RV o f ep A rs.length c B ws.length d] w fun e w'=>e = .returned (.bool (decide (o.data.toList∉bl rs∧o.data.toList∉bl ws∧∀x∈bl rs,x∉bl ws)))∧Below w.heap.size w w':=by
 have HA:=zh hA;have HBB:=zh hB;have HM1:=zh fun w h=>among_any A c rs o w h (by omega) p1
 have HM2:=zh fun w h=>among_any B d ws o w h (by omega) p2
 have HM3:=zh fun(u:ByteArray) w h=>among_any B d ws u w h (by omega) p2
 obtain⟨bb,hbb⟩:∃b,decide (o.data.toList∉bl rs∧o.data.toList∉bl ws∧∀x∈bl rs,x∉bl ws)=b:=⟨_,rfl⟩
 have HNO:Hid (¬(o.data.toList∉bl rs∧o.data.toList∉bl ws∧∀x∈bl rs,x∉bl ws)→bb=false):=fun h=>by rw[←hbb];exact decide_eq_false h
 have HYES:Hid ((o.data.toList∉bl rs∧o.data.toList∉bl ws∧∀x∈bl rs,x∉bl ws)→bb=true):=fun h=>by rw[←hbb];exact decide_eq_true h
 rw[hbb];clear hA hB p1 p2 hbb;unfold RV;by_cases h1:o.data.toList∈bl rs
 ·have hbf:bb=false:=HNO.out fun h=>h.1 h1
  subst hbf;rw[decide_eq_true h1]at HM1;clear HNO HYES h1;go_enter Tryz.func75,Tryz.ntmps75;go_wp2_with fail;have HX0:=zh (bx_alloc w o f ep A rs.length c B ws.length d 24);have HB0:=zh (al w (.cells #[.string o,.string f,.int .i64 ep,.slice A rs.length c,.slice B ws.length d] 24));generalize w.alloc (.cells #[.string o,.string f,.int .i64 ep,.slice A rs.length c,.slice B ws.length d] 24)=w0 at HX0 HB0⊢;obtain⟨c0,c1,c2,c3,c4,_⟩:=HX0.out;with_reducible refine(HM1.out _ (HA.out.below HB0.out zl)).mono ?_
  rintro e w1 ⟨rfl,hb1⟩;have HB1:=zh (Bel.call HB0.out hb1);have HX1:=zh (HX0.out.below hb1 HX0.out.2.2.2.2.2);clear hb1 c0 c1 c2 c3 c4;obtain⟨c0,c1,c2,c3,c4,_⟩:=HX1.out;dsimp only;go_wp2;go_ret;exact⟨rfl,HB1.out⟩
 ·rw[decide_eq_false h1]at HM1
  by_cases h2:o.data.toList∈bl ws
  ·have hbf:bb=false:=HNO.out fun h=>h.2.1 h2
   subst hbf;rw[decide_eq_true h2]at HM2;clear HNO HYES h1 h2;go_enter Tryz.func75,Tryz.ntmps75;go_wp2_with fail;have HX0:=zh (bx_alloc w o f ep A rs.length c B ws.length d 24);have HB0:=zh (al w (.cells #[.string o,.string f,.int .i64 ep,.slice A rs.length c,.slice B ws.length d] 24));generalize w.alloc (.cells #[.string o,.string f,.int .i64 ep,.slice A rs.length c,.slice B ws.length d] 24)=w0 at HX0 HB0⊢;obtain⟨c0,c1,c2,c3,c4,_⟩:=HX0.out;with_reducible refine(HM1.out _ (HA.out.below HB0.out zl)).mono ?_
   rintro e w1 ⟨rfl,hb1⟩;have HB1:=zh (Bel.call HB0.out hb1);have HX1:=zh (HX0.out.below hb1 HX0.out.2.2.2.2.2);clear hb1 c0 c1 c2 c3 c4;obtain⟨c0,c1,c2,c3,c4,_⟩:=HX1.out;dsimp only;go_wp2_with fail;with_reducible refine(HM2.out _ (HBB.out.below HB1.out zl)).mono ?_
   rintro e w2 ⟨rfl,hb2⟩;have HB2:=zh (Bel.call HB1.out hb2);have HX2:=zh (HX1.out.below hb2 HX1.out.2.2.2.2.2);clear hb2 c0 c1 c2 c3 c4;obtain⟨c0,c1,c2,c3,c4,_⟩:=HX2.out;dsimp only;go_wp2;go_ret;exact⟨rfl,HB2.out⟩
  ·rw[decide_eq_false h2]at HM2
   have H1:=zh h1;have H2:=zh h2;clear h1 h2;go_enter Tryz.func75,Tryz.ntmps75;go_wp2_with fail;have HX0:=zh (bx_alloc w o f ep A rs.length c B ws.length d 24);have HB0:=zh (al w (.cells #[.string o,.string f,.int .i64 ep,.slice A rs.length c,.slice B ws.length d] 24));generalize w.alloc (.cells #[.string o,.string f,.int .i64 ep,.slice A rs.length c,.slice B ws.length d] 24)=w0 at HX0 HB0⊢;obtain⟨c0,c1,c2,c3,c4,_⟩:=HX0.out;with_reducible refine(HM1.out _ (HA.out.below HB0.out zl)).mono ?_
   rintro e w1 ⟨rfl,hb1⟩;have HB1:=zh (Bel.call HB0.out hb1);have HX1:=zh (HX0.out.below hb1 HX0.out.2.2.2.2.2);clear hb1 c0 c1 c2 c3 c4;obtain⟨c0,c1,c2,c3,c4,_⟩:=HX1.out;dsimp only;go_wp2_with fail;with_reducible refine(HM2.out _ (HBB.out.below HB1.out zl)).mono ?_
   rintro e w2 ⟨rfl,hb2⟩;have HB2:=zh (Bel.call HB1.out hb2);have HX2:=zh (HX1.out.below hb2 HX1.out.2.2.2.2.2);clear hb2 c0 c1 c2 c3 c4;obtain⟨c0,c1,c2,c3,c4,_⟩:=HX2.out;dsimp only;go_wp2_with fail;go_loopw [20] (fun i wr=>∃k:Nat,k≤rs.length∧i = .int .i64 (k:Int)∧Hid (∀x∈(bl rs).take k,x∉bl ws)∧Hid (Below w.heap.size w wr)∧Hid (Bx w.heap.size wr o f ep A rs.length c B ws.length d)) (fun i _=>rs.length-(intOf i).toNat);case atStart=>exact⟨0,Nat.zero_le _,rfl,zh (by simp),HB2,HX2⟩
   case round=>
    obtain⟨k,hk,rfl,HN,HBW,HXW⟩:=hrel;clear c0 c1 c2 c3 c4;obtain⟨c0,c1,c2,c3,c4,_⟩:=HXW.out;by_cases hlt:k<rs.length
    ·obtain⟨b,off,rfl,hbl,hcl0⟩:=HA.out k hlt
     obtain⟨y,hy⟩:∃y,rs.getD k ByteArray.empty=y:=⟨_,rfl⟩
     rw[hy,←HBW.out.cell (p:=⟨b,off+k,none⟩) hbl]at hcl0;have hg:=bl_get hlt;rw[hy]at hg;have HG:=zh hg;clear hg hy hbl;by_cases hm:y.data.toList∈bl ws
     ·have hbf:bb=false:=HNO.out fun h=>h.2.2 y.data.toList (List.mem_of_mem_take (by rw[HG.out];simp)) hm
      subst hbf;have HM:=HM3.out y;rw[decide_eq_true hm]at HM;have HM:=zh HM;clear HNO HYES hm;go_wp2_with fail;with_reducible refine(HM.out _ (HBB.out.below HBW.out zl)).mono ?_
      rintro e w4 ⟨rfl,hb4⟩;have HB4:=zh (Bel.call HBW.out hb4);clear hb4 c0 c1 c2 c3 c4;dsimp only;go_wp2;go_ret;exact⟨rfl,HB4.out⟩
     ·have HM:=HM3.out y
      rw[decide_eq_false hm]at HM;have HM:=zh HM;have HNM:=zh hm;clear hm;go_wp2_with fail;with_reducible refine(HM.out _ (HBB.out.below HBW.out zl)).mono ?_
      rintro e w4 ⟨rfl,hb4⟩;have HB4:=zh (Bel.call HBW.out hb4);have HX4:=zh (HXW.out.below hb4 HXW.out.2.2.2.2.2);clear hb4 c0 c1 c2 c3 c4;dsimp only;go_wp2;go_roundw
      case rel=>
       refine⟨k+1,by omega,by go_num,zh ?_,HB4,HX4⟩;rw[HG.out];intro x hx;rcases List.mem_append.1 hx with hx|hx
       ·exact HN.out x hx
       ·rw[List.mem_singleton.1 hx];exact HNM.out
      case measure=>simp[intOf];omega
    ·have hbt:bb=true:=HYES.out ⟨H1.out,H2.out,by
      have:=HN.out;rw[show k=rs.length by omega,bl_take_all]at this
      exact this⟩
     subst hbt;go_wp2;go_ret;exact⟨rfl,HBW.out⟩
theorem nright_is (s:ByteArray) (v:Bool) (h:nm s.data.toList=v) (w:World):Calls Tryz.prog 54 #[.string s] w fun e w'=>e = .returned (.bool v)∧Below w.heap.size w w':=by
 have h2:=right_any s w;rw[show Txt.right s.data.toList=v from h]at h2;exact h2
set_option maxRecDepth 1000000 in
theorem right_code (o f:ByteArray) (ep:Int) (A:Option Addr) (c:Nat) (rs:List ByteArray) (B:Option Addr) (d:Nat) (ws:List ByteArray) (w:World) (hA:SReads w A rs) (hB:SReads w B ws) (hf:Few ⟨o.data.toList,f.data.toList,ep,bl rs,bl ws⟩):
 Calls Tryz.prog 56 #[RV o f ep A rs.length c B ws.length d] w fun e w'=>e = .returned (.bool (decide (RR ⟨o.data.toList,f.data.toList,ep,bl rs,bl ws⟩)))∧Below w.heap.size w w':=by
 obtain⟨_,_,f3,f4,_,_,f7,f8⟩:=hf;simp only at f3 f4 f7 f8;rw[bl_len]at f3 f4;have HA:=zh hA;have HBB:=zh hB;obtain⟨bb,hbb⟩:∃b,decide (RR ⟨o.data.toList,f.data.toList,ep,bl rs,bl ws⟩)=b:=⟨_,rfl⟩
 have HNO:Hid (¬RR ⟨o.data.toList,f.data.toList,ep,bl rs,bl ws⟩→bb=false):=fun h=>by rw[←hbb];exact decide_eq_false h
 have HBBE:=zh hbb;rw[hbb];have HR1:=zh fun v h w=>nright_is o v h w
 have HR2:=zh fun v h w=>nright_is f v h w
 have HL1:=zh fun w h=>rising_any A c rs w h (by omega)
 have HL2:=zh fun w h=>rising_any B d ws w h (by omega)
 have HAP:=zh fun w h1 h2 p1 p2=>apart_any o f ep A c rs B d ws w h1 h2 (by omega) (by omega) p1 p2
 have hlen:(bl rs).length+(bl ws).length=rs.length+ws.length:=by rw[bl_len,bl_len]
 clear hA hB hbb;unfold RV at HAP⊢;cases h1:nm o.data.toList with
 | false=>
  have hbf:bb=false:=HNO.out fun h=>by rw[h.1]at h1;cases h1
  subst hbf;clear HNO HBBE HAP;go_enter Tryz.func56,Tryz.ntmps56;go_wp2_with fail;have HX0:=zh (bx_alloc w o f ep A rs.length c B ws.length d 24);have HB0:=zh (al w (.cells #[.string o,.string f,.int .i64 ep,.slice A rs.length c,.slice B ws.length d] 24));generalize w.alloc (.cells #[.string o,.string f,.int .i64 ep,.slice A rs.length c,.slice B ws.length d] 24)=w0 at HX0 HB0⊢;obtain⟨c0,c1,c2,c3,c4,_⟩:=HX0.out;with_reducible refine(HR1.out false h1 _).mono ?_
  rintro e w1 ⟨rfl,hb1⟩;have HB1:=zh (Bel.call HB0.out hb1);have HX1:=zh (HX0.out.below hb1 HX0.out.2.2.2.2.2);clear hb1 c0 c1 c2 c3 c4;obtain⟨c0,c1,c2,c3,c4,_⟩:=HX1.out;dsimp only;go_wp2;go_ret;exact⟨rfl,HB1.out⟩
 | true=>
  cases h2:nm f.data.toList with
  | false=>
   have hbf:bb=false:=HNO.out fun h=>by rw[h.2.1]at h2;cases h2
   subst hbf;clear HNO HBBE HAP;go_enter Tryz.func56,Tryz.ntmps56;go_wp2_with fail;have HX0:=zh (bx_alloc w o f ep A rs.length c B ws.length d 24);have HB0:=zh (al w (.cells #[.string o,.string f,.int .i64 ep,.slice A rs.length c,.slice B ws.length d] 24));generalize w.alloc (.cells #[.string o,.string f,.int .i64 ep,.slice A rs.length c,.slice B ws.length d] 24)=w0 at HX0 HB0⊢;obtain⟨c0,c1,c2,c3,c4,_⟩:=HX0.out;with_reducible refine(HR1.out true h1 _).mono ?_
   rintro e w1 ⟨rfl,hb1⟩;have HB1:=zh (Bel.call HB0.out hb1);have HX1:=zh (HX0.out.below hb1 HX0.out.2.2.2.2.2);clear hb1 c0 c1 c2 c3 c4;obtain⟨c0,c1,c2,c3,c4,_⟩:=HX1.out;dsimp only;go_wp2_with fail;with_reducible refine(HR2.out false h2 _).mono ?_
   rintro e w2 ⟨rfl,hb2⟩;have HB2:=zh (Bel.call HB1.out hb2);have HX2:=zh (HX1.out.below hb2 HX1.out.2.2.2.2.2);clear hb2 c0 c1 c2 c3 c4;obtain⟨c0,c1,c2,c3,c4,_⟩:=HX2.out;dsimp only;go_wp2;go_ret;exact⟨rfl,HB2.out⟩
  | true=>
   by_cases h3:ep<0
   ·have hbf:bb=false:=HNO.out fun h=>by have:=h.2.2.1.1;simp only at this;omega
    subst hbf;clear HNO HBBE HAP;go_enter Tryz.func56,Tryz.ntmps56;go_wp2_with fail;have HX0:=zh (bx_alloc w o f ep A rs.length c B ws.length d 24);have HB0:=zh (al w (.cells #[.string o,.string f,.int .i64 ep,.slice A rs.length c,.slice B ws.length d] 24));generalize w.alloc (.cells #[.string o,.string f,.int .i64 ep,.slice A rs.length c,.slice B ws.length d] 24)=w0 at HX0 HB0⊢;obtain⟨c0,c1,c2,c3,c4,_⟩:=HX0.out;with_reducible refine(HR1.out true h1 _).mono ?_
    rintro e w1 ⟨rfl,hb1⟩;have HB1:=zh (Bel.call HB0.out hb1);have HX1:=zh (HX0.out.below hb1 HX0.out.2.2.2.2.2);clear hb1 c0 c1 c2 c3 c4;obtain⟨c0,c1,c2,c3,c4,_⟩:=HX1.out;dsimp only;go_wp2_with fail;with_reducible refine(HR2.out true h2 _).mono ?_
    rintro e w2 ⟨rfl,hb2⟩;have HB2:=zh (Bel.call HB1.out hb2);have HX2:=zh (HX1.out.below hb2 HX1.out.2.2.2.2.2);clear hb2 c0 c1 c2 c3 c4;obtain⟨c0,c1,c2,c3,c4,_⟩:=HX2.out;dsimp only;go_wp2;go_ret;exact⟨rfl,HB2.out⟩
   by_cases h4:7<ep
   ·have hbf:bb=false:=HNO.out fun h=>by have:=h.2.2.1.2;simp only at this;omega
    subst hbf;clear HNO HBBE HAP;go_enter Tryz.func56,Tryz.ntmps56;go_wp2_with fail;have HX0:=zh (bx_alloc w o f ep A rs.length c B ws.length d 24);have HB0:=zh (al w (.cells #[.string o,.string f,.int .i64 ep,.slice A rs.length c,.slice B ws.length d] 24));generalize w.alloc (.cells #[.string o,.string f,.int .i64 ep,.slice A rs.length c,.slice B ws.length d] 24)=w0 at HX0 HB0⊢;obtain⟨c0,c1,c2,c3,c4,_⟩:=HX0.out;with_reducible refine(HR1.out true h1 _).mono ?_
    rintro e w1 ⟨rfl,hb1⟩;have HB1:=zh (Bel.call HB0.out hb1);have HX1:=zh (HX0.out.below hb1 HX0.out.2.2.2.2.2);clear hb1 c0 c1 c2 c3 c4;obtain⟨c0,c1,c2,c3,c4,_⟩:=HX1.out;dsimp only;go_wp2_with fail;with_reducible refine(HR2.out true h2 _).mono ?_
    rintro e w2 ⟨rfl,hb2⟩;have HB2:=zh (Bel.call HB1.out hb2);have HX2:=zh (HX1.out.below hb2 HX1.out.2.2.2.2.2);clear hb2 c0 c1 c2 c3 c4;obtain⟨c0,c1,c2,c3,c4,_⟩:=HX2.out;dsimp only;go_wp2;go_ret;exact⟨rfl,HB2.out⟩
   have hw:IntKind.i64.wrap ((rs.length:Int)+(ws.length:Int))=(rs.length:Int)+(ws.length:Int):=by rw[IntKind.wrap_i64];omega
   by_cases h5:5<rs.length+ws.length
   ·have h5':(5:Int)<(rs.length:Int)+(ws.length:Int):=by omega
    have hbf:bb=false:=HNO.out fun h=>by have:=h.2.2.2.1;simp only at this;omega
    subst hbf;clear HNO HBBE HAP;go_enter Tryz.func56,Tryz.ntmps56;go_wp2_with fail;have HX0:=zh (bx_alloc w o f ep A rs.length c B ws.length d 24);have HB0:=zh (al w (.cells #[.string o,.string f,.int .i64 ep,.slice A rs.length c,.slice B ws.length d] 24));generalize w.alloc (.cells #[.string o,.string f,.int .i64 ep,.slice A rs.length c,.slice B ws.length d] 24)=w0 at HX0 HB0⊢;obtain⟨c0,c1,c2,c3,c4,_⟩:=HX0.out;with_reducible refine(HR1.out true h1 _).mono ?_
    rintro e w1 ⟨rfl,hb1⟩;have HB1:=zh (Bel.call HB0.out hb1);have HX1:=zh (HX0.out.below hb1 HX0.out.2.2.2.2.2);clear hb1 c0 c1 c2 c3 c4;obtain⟨c0,c1,c2,c3,c4,_⟩:=HX1.out;dsimp only;go_wp2_with fail;with_reducible refine(HR2.out true h2 _).mono ?_
    rintro e w2 ⟨rfl,hb2⟩;have HB2:=zh (Bel.call HB1.out hb2);have HX2:=zh (HX1.out.below hb2 HX1.out.2.2.2.2.2);clear hb2 c0 c1 c2 c3 c4;obtain⟨c0,c1,c2,c3,c4,_⟩:=HX2.out;dsimp only;go_wp2;go_ret;exact⟨rfl,HB2.out⟩
   have h5':¬((5:Int)<(rs.length:Int)+(ws.length:Int)):=by omega
   by_cases h6:Lsd [] (bl rs)
   case neg=>
    have hbf:bb=false:=HNO.out fun h=>by exact h6 (lsd_iff.1 h.2.2.2.2.1).1
    subst hbf;clear HNO HBBE HAP;rw[decide_eq_false h6]at HL1;go_enter Tryz.func56,Tryz.ntmps56;go_wp2_with fail;have HX0:=zh (bx_alloc w o f ep A rs.length c B ws.length d 24);have HB0:=zh (al w (.cells #[.string o,.string f,.int .i64 ep,.slice A rs.length c,.slice B ws.length d] 24));generalize w.alloc (.cells #[.string o,.string f,.int .i64 ep,.slice A rs.length c,.slice B ws.length d] 24)=w0 at HX0 HB0⊢;obtain⟨c0,c1,c2,c3,c4,_⟩:=HX0.out;with_reducible refine(HR1.out true h1 _).mono ?_
    rintro e w1 ⟨rfl,hb1⟩;have HB1:=zh (Bel.call HB0.out hb1);have HX1:=zh (HX0.out.below hb1 HX0.out.2.2.2.2.2);clear hb1 c0 c1 c2 c3 c4;obtain⟨c0,c1,c2,c3,c4,_⟩:=HX1.out;dsimp only;go_wp2_with fail;with_reducible refine(HR2.out true h2 _).mono ?_
    rintro e w2 ⟨rfl,hb2⟩;have HB2:=zh (Bel.call HB1.out hb2);have HX2:=zh (HX1.out.below hb2 HX1.out.2.2.2.2.2);clear hb2 c0 c1 c2 c3 c4;obtain⟨c0,c1,c2,c3,c4,_⟩:=HX2.out;dsimp only;go_wp2_with fail;with_reducible refine(HL1.out _ (HA.out.below HB2.out zl)).mono ?_
    rintro e w3 ⟨rfl,hb3⟩;have HB3:=zh (Bel.call HB2.out hb3);have HX3:=zh (HX2.out.below hb3 HX2.out.2.2.2.2.2);clear hb3 c0 c1 c2 c3 c4;obtain⟨c0,c1,c2,c3,c4,_⟩:=HX3.out;dsimp only;go_wp2;go_ret;exact⟨rfl,HB3.out⟩
   by_cases h7:Lsd [] (bl ws)
   case neg=>
    have hbf:bb=false:=HNO.out fun h=>by exact h7 (lsd_iff.1 h.2.2.2.2.2.1).1
    subst hbf;clear HNO HBBE HAP;rw[decide_eq_true h6]at HL1;rw[decide_eq_false h7]at HL2;go_enter Tryz.func56,Tryz.ntmps56;go_wp2_with fail;have HX0:=zh (bx_alloc w o f ep A rs.length c B ws.length d 24);have HB0:=zh (al w (.cells #[.string o,.string f,.int .i64 ep,.slice A rs.length c,.slice B ws.length d] 24));generalize w.alloc (.cells #[.string o,.string f,.int .i64 ep,.slice A rs.length c,.slice B ws.length d] 24)=w0 at HX0 HB0⊢;obtain⟨c0,c1,c2,c3,c4,_⟩:=HX0.out;with_reducible refine(HR1.out true h1 _).mono ?_
    rintro e w1 ⟨rfl,hb1⟩;have HB1:=zh (Bel.call HB0.out hb1);have HX1:=zh (HX0.out.below hb1 HX0.out.2.2.2.2.2);clear hb1 c0 c1 c2 c3 c4;obtain⟨c0,c1,c2,c3,c4,_⟩:=HX1.out;dsimp only;go_wp2_with fail;with_reducible refine(HR2.out true h2 _).mono ?_
    rintro e w2 ⟨rfl,hb2⟩;have HB2:=zh (Bel.call HB1.out hb2);have HX2:=zh (HX1.out.below hb2 HX1.out.2.2.2.2.2);clear hb2 c0 c1 c2 c3 c4;obtain⟨c0,c1,c2,c3,c4,_⟩:=HX2.out;dsimp only;go_wp2_with fail;with_reducible refine(HL1.out _ (HA.out.below HB2.out zl)).mono ?_
    rintro e w3 ⟨rfl,hb3⟩;have HB3:=zh (Bel.call HB2.out hb3);have HX3:=zh (HX2.out.below hb3 HX2.out.2.2.2.2.2);clear hb3 c0 c1 c2 c3 c4;obtain⟨c0,c1,c2,c3,c4,_⟩:=HX3.out;dsimp only;go_wp2_with fail;with_reducible refine(HL2.out _ (HBB.out.below HB3.out zl)).mono ?_
    rintro e w4 ⟨rfl,hb4⟩;have HB4:=zh (Bel.call HB3.out hb4);have HX4:=zh (HX3.out.below hb4 HX3.out.2.2.2.2.2);clear hb4 c0 c1 c2 c3 c4;obtain⟨c0,c1,c2,c3,c4,_⟩:=HX4.out;dsimp only;go_wp2;go_ret;exact⟨rfl,HB4.out⟩
   have hfin:bb=decide (o.data.toList∉bl rs∧o.data.toList∉bl ws∧∀x∈bl rs,x∉bl ws):=by
    rw[←HBBE.out];refine decide_eq_decide.2 ⟨fun h=>⟨(lsd_iff.1 h.2.2.2.2.1).2,(lsd_iff.1 h.2.2.2.2.2.1).2,h.2.2.2.2.2.2⟩,fun h=>?_⟩;exact⟨h1,h2,⟨by simp only;omega,by simp only;omega⟩,by simp only;omega,lsd_iff.2 ⟨h6,h.1⟩,lsd_iff.2 ⟨h7,h.2.1⟩,h.2.2⟩
   have HFIN:=zh hfin;have H6:=zh h6.2;have H7:=zh h7.2;rw[decide_eq_true h6]at HL1;rw[decide_eq_true h7]at HL2;clear hfin h6 h7 HNO HBBE;go_enter Tryz.func56,Tryz.ntmps56;go_wp2_with fail;have HX0:=zh (bx_alloc w o f ep A rs.length c B ws.length d 24);have HB0:=zh (al w (.cells #[.string o,.string f,.int .i64 ep,.slice A rs.length c,.slice B ws.length d] 24));generalize w.alloc (.cells #[.string o,.string f,.int .i64 ep,.slice A rs.length c,.slice B ws.length d] 24)=w0 at HX0 HB0⊢;obtain⟨c0,c1,c2,c3,c4,_⟩:=HX0.out;with_reducible refine(HR1.out true h1 _).mono ?_
   rintro e w1 ⟨rfl,hb1⟩;have HB1:=zh (Bel.call HB0.out hb1);have HX1:=zh (HX0.out.below hb1 HX0.out.2.2.2.2.2);clear hb1 c0 c1 c2 c3 c4;obtain⟨c0,c1,c2,c3,c4,_⟩:=HX1.out;dsimp only;go_wp2_with fail;with_reducible refine(HR2.out true h2 _).mono ?_
   rintro e w2 ⟨rfl,hb2⟩;have HB2:=zh (Bel.call HB1.out hb2);have HX2:=zh (HX1.out.below hb2 HX1.out.2.2.2.2.2);clear hb2 c0 c1 c2 c3 c4;obtain⟨c0,c1,c2,c3,c4,_⟩:=HX2.out;dsimp only;go_wp2_with fail;with_reducible refine(HL1.out _ (HA.out.below HB2.out zl)).mono ?_
   rintro e w3 ⟨rfl,hb3⟩;have HB3:=zh (Bel.call HB2.out hb3);have HX3:=zh (HX2.out.below hb3 HX2.out.2.2.2.2.2);clear hb3 c0 c1 c2 c3 c4;obtain⟨c0,c1,c2,c3,c4,_⟩:=HX3.out;dsimp only;go_wp2_with fail;with_reducible refine(HL2.out _ (HBB.out.below HB3.out zl)).mono ?_
   rintro e w4 ⟨rfl,hb4⟩;have HB4:=zh (Bel.call HB3.out hb4);have HX4:=zh (HX3.out.below hb4 HX3.out.2.2.2.2.2);clear hb4 c0 c1 c2 c3 c4;obtain⟨c0,c1,c2,c3,c4,_⟩:=HX4.out;dsimp only;go_wp2_with fail;with_reducible refine(HAP.out _ (HA.out.below HB4.out zl) (HBB.out.below HB4.out zl) H6.out H7.out).mono ?_
   rw[←HFIN.out];rintro e w5 ⟨rfl,hb5⟩;have HB5:=zh (Bel.call HB4.out hb5);clear hb5 c0 c1 c2 c3 c4;dsimp only;go_wp2;go_ret;exact⟨rfl,HB5.out⟩
theorem right_at (v:Value) (r:Rt) (w:World) (h:IsR w v r) (hf:Few r):Calls Tryz.prog 56 #[v] w fun e w'=>e = .returned (.bool (decide (RR r)))∧Below w.heap.size w w':=by
 obtain⟨o,f,A,c,rs,B,d,ws,rfl,h2,h3,h4,_,_⟩:=h;obtain⟨ep,hep⟩:∃ep,r.ep=ep:=⟨_,rfl⟩
 rw[hep]at h2⊢;subst h2;exact right_code o f ep A c rs B d ws w h3 h4 hf
end Go.Proofs.YtmihiknebelkbaaGreat.Rig
namespace Go.Proofs.YtmihiknebelkbaaGreat.Rig
open Go.RowKit Wire
def ck (r:Rt) (u:Tm):Int:=if ¬RR r then 1 else if ¬nm u=true then 3 else 0
end Go.Proofs.YtmihiknebelkbaaGreat.Rig
namespace Go.Proofs.YtmihiknebelkbaaGreat.Rig
open Go.RowKit Wire
set_option maxRecDepth 1000000 in
theorem takeAllF_any (s:ByteArray) (a m:Int) (w:World) (hs:s.size≤1000000000000) (ha:-9223372036854775808≤a∧a≤9223372036854775807) (hm:-9223372036854775808≤m∧m≤9223372036854775807):
    Calls Tryz.prog 68 #[.string s,.int .i64 a,.int .i64 m] w fun e w'=>TaF w.heap.size (all s.data.toList a m) e w'∧Below w.heap.size w w':=by
  obtain⟨n,r,f,hu⟩:∃n r f,upTo s.data.toList a=(n,r,f):=⟨_,_,_,rfl⟩
  have HU:=zh hu
  rcases all_upTo (b:=m) hu with⟨h0,h1⟩|⟨rfl,h1,h2,h3,h4⟩
  · have H1:=zh h1
    have hne:(f != 0)=true:=by simpa using h0
    clear h1 hu h0
    go_enter Tryz.func68,Tryz.ntmps68
    go_wp2_with (go_at_call 88;refine(upTo_any _ _ _ (by omega) ha).mono ?_;rw[HU.out];rintro e w' ⟨⟨R,hR,rfl⟩,k,rfl⟩;clear hR;dsimp only)
    go_ret2
    rw[H1.out]
    exact⟨taF_nil _ _ _,bdrew _ _⟩
  · clear hu
    have hn63:n≤9223372036854775807:=by omega
    rw[←Lib.size_eq]at h4
    have H1:=zh h1
    have H2:=zh h2
    obtain⟨i0,hi0,hz0,hz1,hz2⟩:=info_parts str_info
    clear h1 h2 h3
    go_enter Tryz.func68,Tryz.ntmps68
    go_wp2_with (go_at_call 88;refine(upTo_any _ _ _ (by omega) ha).mono ?_;rw[HU.out];rintro e w' ⟨⟨R0,hR0,rfl⟩,k0,rfl⟩;have HR0:=zh hR0;clear hR0;dsimp only)
    have hstart:Took w s.size n r m 0 R0 (.slice none 0 0) (w.drewN k0):=
      ⟨[],World.ownsRow_nil _ _ _ _,rfl,by rw[HR0.out];rfl,by rw[Lib.size_eq,HR0.out];omega,bdrew _ _⟩
    have HST:=zh hstart
    clear hstart
    go_loopw [9,11,26] (fun q v i wr=>∃(k:Nat) (R:ByteArray),k≤n∧q = .string R∧i = .int .u64 k∧Hid (Took w s.size n r m k R v wr)) (fun _ _ i _=>n-(intOf i).toNat)
    case atStart=>exact⟨0,R0,Nat.zero_le _,rfl,rfl,HST⟩
    case round=>
      obtain⟨k,R,hk,rfl,rfl,HT⟩:=hrel
      clear HST
      obtain⟨ys,ho,hyl,hte,hsz,hbel⟩:=HT.out
      have hRs:R.size≤140737488355328:=by omega
      have HO:=zh ho
      have HYL:=zh hyl
      have HTE:=zh hte
      have HBL:=zh hbel
      by_cases hlt:k<n
      · obtain⟨t,q,f,htx⟩:∃t q f,text R.data.toList m=(t,q,f):=⟨_,_,_,rfl⟩
        have HTX:=zh htx
        obtain⟨j,hj⟩:∃j,n-k=j+1:=⟨n-k-1,by omega⟩
        rw[hj]at hte
        by_cases hf:f=0
        · subst hf
          have hlen:=text_len htx rfl
          rw[texts_yes htx]at hte
          rw[←Lib.size_eq]at hlen
          have HTE2:=zh hte
          have HJ:=zh hj
          have hks:k+1≤s.size:=by omega
          have hq:q.length+(k+1)≤s.size:=by omega
          clear ho hyl hte hbel htx hj hlen hsz
          go_wp2_with (first
            | (go_at_call 89;refine(text_any _ _ _ hRs hm).mono ?_;rw[HTX.out];rintro e w' ⟨⟨T,Q,hT,hQ,rfl⟩,kd,rfl⟩;have HTT:=zh hT;have HQ:=zh hQ;clear hT hQ;dsimp only)
            | (at_builtin
               refine wpList_append_own _ rfl _ _ _ rfl w.heap.size 9 i0 _ 1 16 Tryz.underlying22 hi0 hz0 hz1 hz2 rfl (by decide) _ k (sv ys) rfl ?c1 _ 1 1 [.string T] rfl rfl ?c2 ?c3 ?c4 ?c5 ?c6 ?_
               case c1=>exact(own_below HO.out (bdrew _ kd) zl).alloc _
               case c2=>exact lit_cells _ _ _
               case c3=>exact sv_one [T]
               case c4=>simp only[maxLen];omega
               case c5=>omega
               case c6=>
                 have h:=HBL.out.size
                 simp only[World.alloc,Array.size_push]
                 exact Nat.le_succ_of_le h
               intro v6 w6 hown hgrow _
               have HO6:=zh hown
               have HG6:=zh hgrow
               clear hown hgrow))
          go_roundw
          case rel=>
            refine⟨k+1,Q,by omega,rfl,by go_num,ys++[T],by simpa[sv]using HO6.out,by simp[HYL.out],?_,?_,?_⟩
            · have e:n-(k+1)=j:=by have:=HJ.out;omega
              have e2:bl (ys++[T])=bl ys++[t]:=by simp[bl,HTT.out]
              rw[e,HQ.out,e2]
              exact HTE2.out
            · rw[Lib.size_eq,HQ.out];exact hq
            · have h1:=HBL.out.trans (bdrew (B:=w.heap.size) _ kd)
              refine(h1.alloc h1.size (.cells #[.string T] 9)).grown HG6.out (by
                have:=h1.size
                simp only[World.alloc,Array.size_push]
                omega) fun g hg=>?_
              exact(HO.out.lt g hg).1
          case measure=>simp[intOf];omega
        · have hal:all s.data.toList a m=([],f):=by
            rw[texts_no htx hf]at hte
            exact all_err H1.out H2.out hte.symm hf
          have HAL:=zh hal
          have hne:(f != 0)=true:=by simpa using hf
          clear ho hyl hte hbel htx hj hsz hf hal
          go_wp2_with (go_at_call 89;refine(text_any _ _ _ hRs hm).mono ?_;rw[HTX.out];rintro e w' ⟨⟨T,Q,hT,hQ,rfl⟩,kd,rfl⟩;clear hT hQ;dsimp only)
          go_ret2
          rw[HAL.out]
          exact⟨taF_nil _ _ _,HBL.out.trans (bdrew _ kd)⟩
      · obtain rfl:k=n:=by omega
        rw[Nat.sub_self,texts_zero]at hte
        obtain⟨A,c,rfl⟩:=own_value ho
        by_cases hR:R.data.toList = []
        · have hal:all s.data.toList a m=(bl ys,0):=by
            rw[hR]at hte
            exact all_ok H1.out H2.out hte.symm
          have HAL:=zh hal
          have hem:R.toList.isEmpty=true:=by rw[Lib.toList_data,hR];rfl
          obtain⟨h6,_,h7⟩:=sreads_own ho
          have H6:=zh h6
          have h8:TaF w.heap.size (bl ys,0) (.returned (.tuple #[.slice A k c,.int .i64 0])) wr:=by
            subst hyl
            exact⟨A,c,ys,rfl,⟨h7,own_none ho⟩,h6,own_fresh ho,rfl⟩
          have H8:=zh h8
          clear ho hyl hte hbel hsz hR hal h6 h8
          go_wp2
          go_ret2
          rw[HAL.out]
          exact⟨H8.out,HBL.out⟩
        · have hal:all s.data.toList a m=([],2):=all_left H1.out H2.out hte.symm hR
          have HAL:=zh hal
          have hem:R.toList.isEmpty=false:=by
            rw[Lib.toList_data]
            cases h:R.data.toList with
            | nil=>exact absurd h hR
            | cons x t=>rfl
          clear ho hyl hte hbel hsz hR hal
          go_wp2
          go_ret2
          rw[HAL.out]
          exact⟨taF_nil _ _ _,HBL.out⟩
theorem takeB_any (s:ByteArray) (w:World) (hs:s.size≤2000000):Calls Tryz.prog 48 #[.string s] w fun e w'=>Tk (tk s.data.toList) e∧Below w.heap.size w w':=
 (take_any s w (by omega)).mono fun _ _ h=>⟨h.1,by obtain⟨k,hk⟩:=h.2;rw[hk];exact bdrew _ k⟩
def rdR (s:Tm):Rt×Bool:=
 if(all s 5 (s.length:Int)).2≠0∨(all s 5 (s.length:Int)).1.length≠5 then(zero,false)
 else if(tk ((all s 5 (s.length:Int)).1.getD 2 [])).2.2≠0∨(tk ((all s 5 (s.length:Int)).1.getD 2 [])).2.1≠[]∨7<(tk ((all s 5 (s.length:Int)).1.getD 2 [])).1 then(zero,false)
 else if(all ((all s 5 (s.length:Int)).1.getD 3 []) 5 (s.length:Int)).2≠0∨(all ((all s 5 (s.length:Int)).1.getD 4 []) 5 (s.length:Int)).2≠0 then(zero,false)
 else(⟨(all s 5 (s.length:Int)).1.getD 0 [],(all s 5 (s.length:Int)).1.getD 1 [],((tk ((all s 5 (s.length:Int)).1.getD 2 [])).1:Int),(all ((all s 5 (s.length:Int)).1.getD 3 []) 5 (s.length:Int)).1,(all ((all s 5 (s.length:Int)).1.getD 4 []) 5 (s.length:Int)).1⟩,true)
theorem all_putB {l:List Tm} {m:Nat} (h5:l.length≤5) (hm:m<18446744073709551616) (h:∀t∈l,t.length≤m):all (putAll l) 5 (m:Int)=(l,0):=by
 have h2:=Wire.all_put (ls:=l) (a:=5) (m:=(m:Int)) (q:=[]) (by omega) (by omega) fun t ht=>⟨by have:=h t ht;omega,by have:=h t ht;omega⟩
 rw[List.append_nil,if_pos rfl]at h2;exact h2
theorem putAll_mem {l:List Tm} {t:Tm} (h:t∈l):t.length≤(putAll l).length:=by
 have:=mem_flat h;unfold putAll;rw[List.length_append];omega
theorem flat_le' {l:List Tm} (h:∀t∈l,t.length≤4000):(l.flatMap putText).length≤l.length*4009:=by
 induction l with
 | nil=>simp
 | cons x l ih=>
  rw[List.flatMap_cons,List.length_append,List.length_cons,putText_len];have h1:=h x (by simp);have h2:=ih fun y hy=>h y (by simp[hy])
  have h3:=(put_le (n:=x.length) (by omega)).2;omega
theorem rdR_row {r:Rt} (h:RR r):rdR (rowR r)=(r,true):=by
 obtain⟨l5,l4⟩:=row_list h
 have hl:(rowR r).length<18446744073709551616:=by
  have h1:=flat_le' l4;have h2:=(put_le (n:=5) (by omega)).2;have e:rowR r=put 5++[r.o,r.f,put r.ep.toNat,putAll r.rs,putAll r.ws].flatMap putText:=rfl;rw[e,List.length_append];simp only[List.length_cons,List.length_nil]at h1;omega
 have hm:∀t∈[r.o,r.f,put r.ep.toNat,putAll r.rs,putAll r.ws],t.length≤(rowR r).length:=fun t ht=>putAll_mem ht
 have hall:all (rowR r) 5 ((rowR r).length:Int)=([r.o,r.f,put r.ep.toNat,putAll r.rs,putAll r.ws],0):=all_putB l5 hl hm;have g1:=hm (putAll r.rs) (by simp);have g2:=hm (putAll r.ws) (by simp);obtain⟨L,hL⟩:∃L,(rowR r).length=L:=⟨_,rfl⟩
 rw[hL]at hall hl g1 g2;obtain⟨a1,a2,a3,a4,a5,a6,a7⟩:=h;have h1:all (putAll r.rs) 5 (L:Int)=(r.rs,0):=all_putB (by omega) hl fun t ht=>Nat.le_trans (putAll_mem ht) g1
 have h2:all (putAll r.ws) 5 (L:Int)=(r.ws,0):=all_putB (by omega) hl fun t ht=>Nat.le_trans (putAll_mem ht) g2
 have h3:tk (put r.ep.toNat)=(r.ep.toNat,[],0):=tk_put (by omega);have h4:((r.ep.toNat:Nat):Int)=r.ep:=by omega
 unfold rdR;rw[hL,hall];simp only[List.getD_cons_zero,List.getD_cons_succ,List.length_cons,List.length_nil];rw[h1,h2,h3];simp only[h4];rw[if_neg (by simp),if_neg (by simp;omega),if_neg (by simp)]
theorem rdR_back {s:Tm} {r:Rt} (h:rdR s=(r,true)):s=rowR r:=by
 unfold rdR at h;obtain⟨L,hL⟩:∃L:Int,(s.length:Int)=L:=⟨_,rfl⟩
 rw[hL]at h;obtain⟨l,fl,hl⟩:∃l fl,all s 5 L=(l,fl):=⟨_,_,rfl⟩
 rw[hl]at h;simp only at h;by_cases h1:fl≠0∨l.length≠5
 ·rw[if_pos h1]at h;cases h
 rw[if_neg h1]at h;have e1:fl=0:=Decidable.byContradiction fun h=>h1 (.inl h)
 have e2:l.length=5:=Decidable.byContradiction fun h=>h1 (.inr h)
 subst e1;obtain⟨n,q,f,hn⟩:∃n q f,tk (l.getD 2 [])=(n,q,f):=⟨_,_,_,rfl⟩
 obtain⟨a,fa,ha⟩:∃a fa,all (l.getD 3 []) 5 L=(a,fa):=⟨_,_,rfl⟩
 obtain⟨b,fb,hb⟩:∃b fb,all (l.getD 4 []) 5 L=(b,fb):=⟨_,_,rfl⟩
 rw[hn,ha,hb]at h;simp only at h;by_cases h2:f≠0∨q≠[]∨7<n
 ·rw[if_pos h2]at h;cases h
 rw[if_neg h2]at h;by_cases h3:fa≠0∨fb≠0
 ·rw[if_pos h3]at h;cases h
 rw[if_neg h3]at h;obtain⟨hr,_⟩:=Prod.mk.inj h;have hf:f=0:=Decidable.byContradiction fun h=>h2 (.inl h)
 have hq:q = []:=Decidable.byContradiction fun h=>h2 (.inr (.inl h))
 have hfa:fa=0:=Decidable.byContradiction fun h=>h3 (.inl h)
 have hfb:fb=0:=Decidable.byContradiction fun h=>h3 (.inr h)
 subst hf;subst hq;subst hfa;subst hfb;have hs:s=putAll l:=((all_back hl).1 rfl).1
 have e3:l.getD 2 []=put n:=by
  cases ht:take (l.getD 2 [])with
  | none=>rw[tk_none ht]at hn;simp only[Prod.mk.injEq]at hn;exact absurd hn.2.2 (by decide)
  | some p=>
   obtain⟨m,r⟩:=p;rw[tk_some ht]at hn;simp only[Prod.mk.injEq]at hn;obtain⟨rfl,rfl,_⟩:=hn;have:=(take_some ht).1;rw[List.append_nil]at this;exact this
 have e4:l.getD 3 []=putAll a:=((all_back ha).1 rfl).1;have e5:l.getD 4 []=putAll b:=((all_back hb).1 rfl).1;rw[←hr];unfold rowR;rw[hs];conv=>lhs;rw[five e2]
 rw[e3,e4,e5];have h0:((n:Int)).toNat=n:=by omega
 simp only[h0]
theorem rd_take (s:Tm):takeR s=if(rdR s).2=true∧RR (rdR s).1 then((rdR s).1,0)else(zero,2):=by
 split
 ·rename_i h
  obtain⟨h1,h2⟩:=h;have e:rdR s=((rdR s).1,true):=by rw[←h1]
  have h3:=rdR_back e;rw[←takeR_row h2,←h3]
 ·rename_i h
  rcases takeR_cases s with h1|⟨r,h1,h2,h3⟩
  ·exact h1
  ·refine absurd ?_ h
   rw[h3,rdR_row h2];exact⟨rfl,h2⟩
def Rd (ok:Nat→Prop) (x:Rt×Bool) (e:Ending) (w':World):Prop:=∃v,IsX ok w' v x.1∧e = .returned (.tuple #[v,.bool x.2])
set_option maxRecDepth 1000000 in
theorem read_code (s:ByteArray) (w:World) (hs:s.size≤1100000):
 Calls Tryz.prog 102 #[.string s] w fun e w'=>Rd (fun b=>w.heap.size≤b) (rdR s.data.toList) e w'∧Below w.heap.size w w':=by
 have hsz:(s.data.toList.length:Int)=(s.size:Int):=by rw[←Lib.size_eq]
 obtain⟨x,fx,hx⟩:∃x fx,all s.data.toList 5 (s.size:Int)=(x,fx):=⟨_,_,rfl⟩
 have HX:=zh hx;have HA0:=zh fun w=>takeAllF_any s 5 (s.size:Int) w (by omega) (by decide) ⟨by omega,by omega⟩
 by_cases hfx:fx=0
 case neg=>
  rw[show rdR s.data.toList=(zero,false)by unfold rdR;rw[hsz,hx,if_pos (.inl hfx)]];have q:(fx != 0)=true:=by simpa using hfx
  clear hx hfx hsz;go_enter Tryz.func102,Tryz.ntmps102;go_wp2_with fail;with_reducible refine(HA0.out _).mono ?_
  rw[HX.out];rintro e w1 ⟨⟨A0,k0,y0,hy0,hk0,hs0,_,rfl⟩,hb1⟩;have HB1:=zh (after_alloc (Below.refl _ w) hb1);have HR1:=zh (bx_first hb1);have HF1:=zh (sf_first hb1);clear hb1;dsimp only at hy0⊢;obtain⟨r0,r1,r2,r3,r4,_⟩:=HR1.out;obtain⟨f0,f1,f2,f3,f4⟩:=HF1.out;go_wp2;refine bodyPost_ret (v:=.tuple #[RV ⟨#[]⟩ ⟨#[]⟩ 0 none 0 0 none 0 0,.bool false]) (by simp[results,Tryz.results102,go_sem,RV,r0,r1,r2,r3,r4]) rfl ?_;exact⟨⟨_,isX_zero _ _,rfl⟩,set5 HB1.out zl⟩
 subst hfx;by_cases h5:x.length=5
 case neg=>
  rw[show rdR s.data.toList=(zero,false)by unfold rdR;rw[hsz,hx,if_pos (.inr h5)]];clear hsz;go_enter Tryz.func102,Tryz.ntmps102;go_wp2_with fail;with_reducible refine(HA0.out _).mono ?_
  rw[HX.out];rintro e w1 ⟨⟨A0,k0,y0,hy0,hk0,hs0,_,rfl⟩,hb1⟩;have HB1:=zh (after_alloc (Below.refl _ w) hb1);have HR1:=zh (bx_first hb1);have HF1:=zh (sf_first hb1);clear hb1;dsimp only at hy0⊢
  have hl:¬(y0.length:Int)=5:=by
   have:=bl_len y0;rw[hy0]at this;omega
  have q:((y0.length:Int) != 5)=true:=by simpa using hl
  obtain⟨r0,r1,r2,r3,r4,_⟩:=HR1.out;obtain⟨f0,f1,f2,f3,f4⟩:=HF1.out;go_wp2;refine bodyPost_ret (v:=.tuple #[RV ⟨#[]⟩ ⟨#[]⟩ 0 none 0 0 none 0 0,.bool false]) (by simp[results,Tryz.results102,go_sem,RV,r0,r1,r2,r3,r4]) rfl ?_;exact⟨⟨_,isX_zero _ _,rfl⟩,set5 HB1.out zl⟩
 obtain⟨zl,zs⟩:=all_few hx;obtain⟨a,b,c,d,e,rfl⟩:∃a b c d e,x = [a,b,c,d,e]:=⟨_,_,_,_,_,five h5⟩
 have ZS:Hid (∀t∈[a,b,c,d,e],t.length≤2000000):=fun t ht=>by
  have:=zs t ht;rw[←Lib.size_eq]at this;omega
 obtain⟨n,r,fc,htc⟩:∃n r fc,tk c=(n,r,fc):=⟨_,_,_,rfl⟩
 obtain⟨xd,fd,htd⟩:∃xd fd,all d 5 (s.size:Int)=(xd,fd):=⟨_,_,rfl⟩
 obtain⟨xe,fe,hte⟩:∃xe fe,all e 5 (s.size:Int)=(xe,fe):=⟨_,_,rfl⟩
 have HTC:=zh htc;have HTD:=zh htd;have HTE:=zh hte
 have hrd:rdR s.data.toList=if fc≠0∨r≠[]∨7<n then(zero,false)else if fd≠0∨fe≠0 then(zero,false)else(⟨a,b,(n:Int),xd,xe⟩,true):=by
  unfold rdR;rw[hsz,hx,if_neg (by simp)];show(if(tk c).2.2≠0∨(tk c).2.1≠[]∨7<(tk c).1 then((zero,false):Rt×Bool)else if(all d 5 (s.size:Int)).2≠0∨(all e 5 (s.size:Int)).2≠0 then(zero,false)else((⟨a,b,((tk c).1:Int),(all d 5 (s.size:Int)).1,(all e 5 (s.size:Int)).1⟩:Rt),true))=_
  rw[htc,htd,hte]
 clear hx htc htd hte zl zs h5 hsz;by_cases h1:fc=0
 case neg=>
  rw[hrd,if_pos (.inl h1)];have q1:(fc != 0)=true:=by simpa using h1
  clear hrd;go_enter Tryz.func102,Tryz.ntmps102;go_wp2_with fail;with_reducible refine(HA0.out _).mono ?_
  rw[HX.out];rintro e w1 ⟨⟨A0,k0,y0,hy0,hk0,hs0,_,rfl⟩,hb1⟩;have HB1:=zh (after_alloc (Below.refl _ w) hb1);have HR1:=zh (bx_first hb1);have HF1:=zh (sf_first hb1);clear hb1;dsimp only at hy0⊢;obtain⟨FA,FB,FC,FD,FE,rfl,hfa,hfb,hfc,hfd,hfe⟩:=bl_five hy0;obtain⟨g,off,rfl,hg1,l0,l1,l2,l3,l4⟩:=five_reads hs0;clear hs0 hy0 hk0;have zc:FC.size≤2000000:=by rw[Lib.size_eq,hfc];exact ZS.out c (by simp)
  have zd:FD.size≤2000000:=by rw[Lib.size_eq,hfd];exact ZS.out d (by simp)
  have ze:FE.size≤2000000:=by rw[Lib.size_eq,hfe];exact ZS.out e (by simp)
  have HFA:=zh hfa;have HFB:=zh hfb;have HFC:=zh hfc;have HFD:=zh hfd;have HFE:=zh hfe;clear hfa hfb hfc hfd hfe;have HC:=zh fun w=>takeB_any FC w (by omega)
  have HD:=zh fun w=>takeAllF_any FD 5 (s.size:Int) w (by omega) (by decide) ⟨by omega,by omega⟩
  have HE:=zh fun w=>takeAllF_any FE 5 (s.size:Int) w (by omega) (by decide) ⟨by omega,by omega⟩
  rw[HFC.out,HTC.out]at HC;rw[HFD.out,HTD.out]at HD;rw[HFE.out,HTE.out]at HE;go_wp2_with fail;with_reducible refine(HC.out _).mono ?_
  rintro e2 w2 ⟨⟨R,hR,rfl⟩,hb2⟩;have HB2:=zh (Bel.call HB1.out hb2);have HR2:=zh (HR1.out.below hb2 HR1.out.2.2.2.2.2);have HF2:=zh (HF1.out.below hb2 HR1.out.2.2.2.2.2);have hg2:g<w2.heap.size:=Nat.lt_of_lt_of_le hg1 hb2.size;replace l0:=(hb2.cell (p:=⟨g,off,none⟩) hg1).trans l0;replace l1:=(hb2.cell (p:=⟨g,off+1,none⟩) hg1).trans l1;replace l2:=(hb2.cell (p:=⟨g,off+2,none⟩) hg1).trans l2;replace l3:=(hb2.cell (p:=⟨g,off+3,none⟩) hg1).trans l3;replace l4:=(hb2.cell (p:=⟨g,off+4,none⟩) hg1).trans l4;have HRR:=zh hR;clear hR hb2;dsimp only at HRR⊢;obtain⟨r0,r1,r2,r3,r4,_⟩:=HR2.out;obtain⟨f0,f1,f2,f3,f4⟩:=HF2.out;go_wp2;refine bodyPost_ret (v:=.tuple #[RV ⟨#[]⟩ ⟨#[]⟩ 0 none 0 0 none 0 0,.bool false]) (by simp[results,Tryz.results102,go_sem,RV,r0,r1,r2,r3,r4]) rfl ?_;exact⟨⟨_,isX_zero _ _,rfl⟩,set5 HB2.out zl⟩
 subst h1;by_cases h2:r = []
 case neg=>
  rw[hrd,if_pos (.inr (.inl h2))];have H2:=zh h2;clear hrd h2;go_enter Tryz.func102,Tryz.ntmps102;go_wp2_with fail;with_reducible refine(HA0.out _).mono ?_
  rw[HX.out];rintro e w1 ⟨⟨A0,k0,y0,hy0,hk0,hs0,_,rfl⟩,hb1⟩;have HB1:=zh (after_alloc (Below.refl _ w) hb1);have HR1:=zh (bx_first hb1);have HF1:=zh (sf_first hb1);clear hb1;dsimp only at hy0⊢;obtain⟨FA,FB,FC,FD,FE,rfl,hfa,hfb,hfc,hfd,hfe⟩:=bl_five hy0;obtain⟨g,off,rfl,hg1,l0,l1,l2,l3,l4⟩:=five_reads hs0;clear hs0 hy0 hk0;have zc:FC.size≤2000000:=by rw[Lib.size_eq,hfc];exact ZS.out c (by simp)
  have zd:FD.size≤2000000:=by rw[Lib.size_eq,hfd];exact ZS.out d (by simp)
  have ze:FE.size≤2000000:=by rw[Lib.size_eq,hfe];exact ZS.out e (by simp)
  have HFA:=zh hfa;have HFB:=zh hfb;have HFC:=zh hfc;have HFD:=zh hfd;have HFE:=zh hfe;clear hfa hfb hfc hfd hfe;have HC:=zh fun w=>takeB_any FC w (by omega)
  have HD:=zh fun w=>takeAllF_any FD 5 (s.size:Int) w (by omega) (by decide) ⟨by omega,by omega⟩
  have HE:=zh fun w=>takeAllF_any FE 5 (s.size:Int) w (by omega) (by decide) ⟨by omega,by omega⟩
  rw[HFC.out,HTC.out]at HC;rw[HFD.out,HTD.out]at HD;rw[HFE.out,HTE.out]at HE;go_wp2_with fail;with_reducible refine(HC.out _).mono ?_
  rintro e2 w2 ⟨⟨R,hR,rfl⟩,hb2⟩;have HB2:=zh (Bel.call HB1.out hb2);have HR2:=zh (HR1.out.below hb2 HR1.out.2.2.2.2.2);have HF2:=zh (HF1.out.below hb2 HR1.out.2.2.2.2.2);have hg2:g<w2.heap.size:=Nat.lt_of_lt_of_le hg1 hb2.size;replace l0:=(hb2.cell (p:=⟨g,off,none⟩) hg1).trans l0;replace l1:=(hb2.cell (p:=⟨g,off+1,none⟩) hg1).trans l1;replace l2:=(hb2.cell (p:=⟨g,off+2,none⟩) hg1).trans l2;replace l3:=(hb2.cell (p:=⟨g,off+3,none⟩) hg1).trans l3;replace l4:=(hb2.cell (p:=⟨g,off+4,none⟩) hg1).trans l4;have HRR:=zh hR;clear hR hb2;dsimp only at HRR⊢;have q2:R.toList.isEmpty=false:=nonempty_str (by rw[HRR.out];exact H2.out)
  have q3:(R.toList==[])=false:=by cases h:R.toList with
   | nil=>rw[h]at q2;cases q2
   | cons x t=>rfl
  obtain⟨r0,r1,r2,r3,r4,_⟩:=HR2.out;obtain⟨f0,f1,f2,f3,f4⟩:=HF2.out;go_wp2;refine bodyPost_ret (v:=.tuple #[RV ⟨#[]⟩ ⟨#[]⟩ 0 none 0 0 none 0 0,.bool false]) (by simp[results,Tryz.results102,go_sem,RV,r0,r1,r2,r3,r4]) rfl ?_;exact⟨⟨_,isX_zero _ _,rfl⟩,set5 HB2.out zl⟩
 subst h2;by_cases h3:7<n
 case pos=>
  rw[hrd,if_pos (.inr (.inr h3))];have h3':(7:Int)<(n:Int):=by omega
  clear hrd;go_enter Tryz.func102,Tryz.ntmps102;go_wp2_with fail;with_reducible refine(HA0.out _).mono ?_
  rw[HX.out];rintro e w1 ⟨⟨A0,k0,y0,hy0,hk0,hs0,_,rfl⟩,hb1⟩;have HB1:=zh (after_alloc (Below.refl _ w) hb1);have HR1:=zh (bx_first hb1);have HF1:=zh (sf_first hb1);clear hb1;dsimp only at hy0⊢;obtain⟨FA,FB,FC,FD,FE,rfl,hfa,hfb,hfc,hfd,hfe⟩:=bl_five hy0;obtain⟨g,off,rfl,hg1,l0,l1,l2,l3,l4⟩:=five_reads hs0;clear hs0 hy0 hk0;have zc:FC.size≤2000000:=by rw[Lib.size_eq,hfc];exact ZS.out c (by simp)
  have zd:FD.size≤2000000:=by rw[Lib.size_eq,hfd];exact ZS.out d (by simp)
  have ze:FE.size≤2000000:=by rw[Lib.size_eq,hfe];exact ZS.out e (by simp)
  have HFA:=zh hfa;have HFB:=zh hfb;have HFC:=zh hfc;have HFD:=zh hfd;have HFE:=zh hfe;clear hfa hfb hfc hfd hfe;have HC:=zh fun w=>takeB_any FC w (by omega)
  have HD:=zh fun w=>takeAllF_any FD 5 (s.size:Int) w (by omega) (by decide) ⟨by omega,by omega⟩
  have HE:=zh fun w=>takeAllF_any FE 5 (s.size:Int) w (by omega) (by decide) ⟨by omega,by omega⟩
  rw[HFC.out,HTC.out]at HC;rw[HFD.out,HTD.out]at HD;rw[HFE.out,HTE.out]at HE;go_wp2_with fail;with_reducible refine(HC.out _).mono ?_
  rintro e2 w2 ⟨⟨R,hR,rfl⟩,hb2⟩;have HB2:=zh (Bel.call HB1.out hb2);have HR2:=zh (HR1.out.below hb2 HR1.out.2.2.2.2.2);have HF2:=zh (HF1.out.below hb2 HR1.out.2.2.2.2.2);have hg2:g<w2.heap.size:=Nat.lt_of_lt_of_le hg1 hb2.size;replace l0:=(hb2.cell (p:=⟨g,off,none⟩) hg1).trans l0;replace l1:=(hb2.cell (p:=⟨g,off+1,none⟩) hg1).trans l1;replace l2:=(hb2.cell (p:=⟨g,off+2,none⟩) hg1).trans l2;replace l3:=(hb2.cell (p:=⟨g,off+3,none⟩) hg1).trans l3;replace l4:=(hb2.cell (p:=⟨g,off+4,none⟩) hg1).trans l4;have HRR:=zh hR;clear hR hb2;dsimp only at HRR⊢;have q2:R.toList.isEmpty=true:=empty_str HRR.out;obtain⟨r0,r1,r2,r3,r4,_⟩:=HR2.out;obtain⟨f0,f1,f2,f3,f4⟩:=HF2.out;go_wp2;refine bodyPost_ret (v:=.tuple #[RV ⟨#[]⟩ ⟨#[]⟩ 0 none 0 0 none 0 0,.bool false]) (by simp[results,Tryz.results102,go_sem,RV,r0,r1,r2,r3,r4]) rfl ?_;exact⟨⟨_,isX_zero _ _,rfl⟩,set5 HB2.out zl⟩
 rw[if_neg (by simp;omega)]at hrd;have h3':¬(7:Int)<(n:Int):=by omega
 by_cases h4:fd=0
 case neg=>
  rw[hrd,if_pos (.inl h4)];have q4:(fd != 0)=true:=by simpa using h4
  clear hrd;go_enter Tryz.func102,Tryz.ntmps102;go_wp2_with fail;with_reducible refine(HA0.out _).mono ?_
  rw[HX.out];rintro e w1 ⟨⟨A0,k0,y0,hy0,hk0,hs0,_,rfl⟩,hb1⟩;have HB1:=zh (after_alloc (Below.refl _ w) hb1);have HR1:=zh (bx_first hb1);have HF1:=zh (sf_first hb1);clear hb1;dsimp only at hy0⊢;obtain⟨FA,FB,FC,FD,FE,rfl,hfa,hfb,hfc,hfd,hfe⟩:=bl_five hy0;obtain⟨g,off,rfl,hg1,l0,l1,l2,l3,l4⟩:=five_reads hs0;clear hs0 hy0 hk0;have zc:FC.size≤2000000:=by rw[Lib.size_eq,hfc];exact ZS.out c (by simp)
  have zd:FD.size≤2000000:=by rw[Lib.size_eq,hfd];exact ZS.out d (by simp)
  have ze:FE.size≤2000000:=by rw[Lib.size_eq,hfe];exact ZS.out e (by simp)
  have HFA:=zh hfa;have HFB:=zh hfb;have HFC:=zh hfc;have HFD:=zh hfd;have HFE:=zh hfe;clear hfa hfb hfc hfd hfe;have HC:=zh fun w=>takeB_any FC w (by omega)
  have HD:=zh fun w=>takeAllF_any FD 5 (s.size:Int) w (by omega) (by decide) ⟨by omega,by omega⟩
  have HE:=zh fun w=>takeAllF_any FE 5 (s.size:Int) w (by omega) (by decide) ⟨by omega,by omega⟩
  rw[HFC.out,HTC.out]at HC;rw[HFD.out,HTD.out]at HD;rw[HFE.out,HTE.out]at HE;go_wp2_with fail;with_reducible refine(HC.out _).mono ?_
  rintro e2 w2 ⟨⟨R,hR,rfl⟩,hb2⟩;have HB2:=zh (Bel.call HB1.out hb2);have HR2:=zh (HR1.out.below hb2 HR1.out.2.2.2.2.2);have HF2:=zh (HF1.out.below hb2 HR1.out.2.2.2.2.2);have hg2:g<w2.heap.size:=Nat.lt_of_lt_of_le hg1 hb2.size;replace l0:=(hb2.cell (p:=⟨g,off,none⟩) hg1).trans l0;replace l1:=(hb2.cell (p:=⟨g,off+1,none⟩) hg1).trans l1;replace l2:=(hb2.cell (p:=⟨g,off+2,none⟩) hg1).trans l2;replace l3:=(hb2.cell (p:=⟨g,off+3,none⟩) hg1).trans l3;replace l4:=(hb2.cell (p:=⟨g,off+4,none⟩) hg1).trans l4;have HRR:=zh hR;clear hR hb2;dsimp only at HRR⊢;have q2:R.toList.isEmpty=true:=empty_str HRR.out;go_wp2_with fail;with_reducible refine(HD.out _).mono ?_
  rintro e3 w3 ⟨⟨A1,c1,y1,hy1,hc1,hs1,hn1,rfl⟩,hb3⟩;have HB3:=zh (Bel.call HB2.out hb3);have HR3:=zh (HR2.out.below hb3 HR2.out.2.2.2.2.2);have HF3:=zh (HF2.out.below hb3 HR2.out.2.2.2.2.2);have hg3:g<w3.heap.size:=Nat.lt_of_lt_of_le hg2 hb3.size;replace l0:=(hb3.cell (p:=⟨g,off,none⟩) hg2).trans l0;replace l1:=(hb3.cell (p:=⟨g,off+1,none⟩) hg2).trans l1;replace l2:=(hb3.cell (p:=⟨g,off+2,none⟩) hg2).trans l2;replace l3:=(hb3.cell (p:=⟨g,off+3,none⟩) hg2).trans l3;replace l4:=(hb3.cell (p:=⟨g,off+4,none⟩) hg2).trans l4;have HS1:=zh hs1;have HY1:=zh hy1
  have HN1:Hid (∀b off,A1=some ⟨b,off,none⟩→0<y1.length→w.heap.size≤b∧b≠w.heap.size):=fun b off h _=>by
   have h1:=hn1 b off h;have h2:=HR2.out.2.2.2.2.2;exact⟨by omega,by omega⟩
  clear hs1 hy1 hn1 hb3;dsimp only;obtain⟨r0,r1,r2,r3,r4,_⟩:=HR3.out;obtain⟨f0,f1,f2,f3,f4⟩:=HF3.out;go_wp2;refine bodyPost_ret (v:=.tuple #[RV ⟨#[]⟩ ⟨#[]⟩ 0 none 0 0 none 0 0,.bool false]) (by simp[results,Tryz.results102,go_sem,RV,r0,r1,r2,r3,r4]) rfl ?_;exact⟨⟨_,isX_zero _ _,rfl⟩,set5 HB3.out zl⟩
 subst h4;by_cases h6:fe=0
 case neg=>
  rw[hrd,if_pos (.inr h6)];have q4:(fe != 0)=true:=by simpa using h6
  clear hrd;go_enter Tryz.func102,Tryz.ntmps102;go_wp2_with fail;with_reducible refine(HA0.out _).mono ?_
  rw[HX.out];rintro e w1 ⟨⟨A0,k0,y0,hy0,hk0,hs0,_,rfl⟩,hb1⟩;have HB1:=zh (after_alloc (Below.refl _ w) hb1);have HR1:=zh (bx_first hb1);have HF1:=zh (sf_first hb1);clear hb1;dsimp only at hy0⊢;obtain⟨FA,FB,FC,FD,FE,rfl,hfa,hfb,hfc,hfd,hfe⟩:=bl_five hy0;obtain⟨g,off,rfl,hg1,l0,l1,l2,l3,l4⟩:=five_reads hs0;clear hs0 hy0 hk0;have zc:FC.size≤2000000:=by rw[Lib.size_eq,hfc];exact ZS.out c (by simp)
  have zd:FD.size≤2000000:=by rw[Lib.size_eq,hfd];exact ZS.out d (by simp)
  have ze:FE.size≤2000000:=by rw[Lib.size_eq,hfe];exact ZS.out e (by simp)
  have HFA:=zh hfa;have HFB:=zh hfb;have HFC:=zh hfc;have HFD:=zh hfd;have HFE:=zh hfe;clear hfa hfb hfc hfd hfe;have HC:=zh fun w=>takeB_any FC w (by omega)
  have HD:=zh fun w=>takeAllF_any FD 5 (s.size:Int) w (by omega) (by decide) ⟨by omega,by omega⟩
  have HE:=zh fun w=>takeAllF_any FE 5 (s.size:Int) w (by omega) (by decide) ⟨by omega,by omega⟩
  rw[HFC.out,HTC.out]at HC;rw[HFD.out,HTD.out]at HD;rw[HFE.out,HTE.out]at HE;go_wp2_with fail;with_reducible refine(HC.out _).mono ?_
  rintro e2 w2 ⟨⟨R,hR,rfl⟩,hb2⟩;have HB2:=zh (Bel.call HB1.out hb2);have HR2:=zh (HR1.out.below hb2 HR1.out.2.2.2.2.2);have HF2:=zh (HF1.out.below hb2 HR1.out.2.2.2.2.2);have hg2:g<w2.heap.size:=Nat.lt_of_lt_of_le hg1 hb2.size;replace l0:=(hb2.cell (p:=⟨g,off,none⟩) hg1).trans l0;replace l1:=(hb2.cell (p:=⟨g,off+1,none⟩) hg1).trans l1;replace l2:=(hb2.cell (p:=⟨g,off+2,none⟩) hg1).trans l2;replace l3:=(hb2.cell (p:=⟨g,off+3,none⟩) hg1).trans l3;replace l4:=(hb2.cell (p:=⟨g,off+4,none⟩) hg1).trans l4;have HRR:=zh hR;clear hR hb2;dsimp only at HRR⊢;have q2:R.toList.isEmpty=true:=empty_str HRR.out;go_wp2_with fail;with_reducible refine(HD.out _).mono ?_
  rintro e3 w3 ⟨⟨A1,c1,y1,hy1,hc1,hs1,hn1,rfl⟩,hb3⟩;have HB3:=zh (Bel.call HB2.out hb3);have HR3:=zh (HR2.out.below hb3 HR2.out.2.2.2.2.2);have HF3:=zh (HF2.out.below hb3 HR2.out.2.2.2.2.2);have hg3:g<w3.heap.size:=Nat.lt_of_lt_of_le hg2 hb3.size;replace l0:=(hb3.cell (p:=⟨g,off,none⟩) hg2).trans l0;replace l1:=(hb3.cell (p:=⟨g,off+1,none⟩) hg2).trans l1;replace l2:=(hb3.cell (p:=⟨g,off+2,none⟩) hg2).trans l2;replace l3:=(hb3.cell (p:=⟨g,off+3,none⟩) hg2).trans l3;replace l4:=(hb3.cell (p:=⟨g,off+4,none⟩) hg2).trans l4;have HS1:=zh hs1;have HY1:=zh hy1
  have HN1:Hid (∀b off,A1=some ⟨b,off,none⟩→0<y1.length→w.heap.size≤b∧b≠w.heap.size):=fun b off h _=>by
   have h1:=hn1 b off h;have h2:=HR2.out.2.2.2.2.2;exact⟨by omega,by omega⟩
  clear hs1 hy1 hn1 hb3;dsimp only;go_wp2_with fail;with_reducible refine(HE.out _).mono ?_
  rintro e4 w4 ⟨⟨A2,c2,y2,hy2,hc2,hs2,hn2,rfl⟩,hb4⟩;have HB4:=zh (Bel.call HB3.out hb4);have HR4:=zh (HR3.out.below hb4 HR3.out.2.2.2.2.2);have HF4:=zh (HF3.out.below hb4 HR3.out.2.2.2.2.2);have hg4:g<w4.heap.size:=Nat.lt_of_lt_of_le hg3 hb4.size;replace l0:=(hb4.cell (p:=⟨g,off,none⟩) hg3).trans l0;replace l1:=(hb4.cell (p:=⟨g,off+1,none⟩) hg3).trans l1;replace l2:=(hb4.cell (p:=⟨g,off+2,none⟩) hg3).trans l2;replace l3:=(hb4.cell (p:=⟨g,off+3,none⟩) hg3).trans l3;replace l4:=(hb4.cell (p:=⟨g,off+4,none⟩) hg3).trans l4;have HS2:=zh hs2;have HY2:=zh hy2
  have HN2:Hid (∀b off,A2=some ⟨b,off,none⟩→0<y2.length→w.heap.size≤b∧b≠w.heap.size):=fun b off h _=>by
   have h1:=hn2 b off h;have h2:=HR3.out.2.2.2.2.2;exact⟨by omega,by omega⟩
  replace HS1:=zh (HS1.out.below hb4 zl);clear hs2 hy2 hn2 hb4;dsimp only;obtain⟨r0,r1,r2,r3,r4,_⟩:=HR4.out;obtain⟨f0,f1,f2,f3,f4⟩:=HF4.out;go_wp2;refine bodyPost_ret (v:=.tuple #[RV ⟨#[]⟩ ⟨#[]⟩ 0 none 0 0 none 0 0,.bool false]) (by simp[results,Tryz.results102,go_sem,RV,r0,r1,r2,r3,r4]) rfl ?_;exact⟨⟨_,isX_zero _ _,rfl⟩,set5 HB4.out zl⟩
 subst h6;rw[if_neg (by simp)]at hrd;rw[hrd];have hcn:IntKind.i64.wrap (n:Int)=(n:Int):=by rw[IntKind.wrap_i64];omega
 clear hrd;go_enter Tryz.func102,Tryz.ntmps102;go_wp2_with fail;with_reducible refine(HA0.out _).mono ?_
 rw[HX.out];rintro e w1 ⟨⟨A0,k0,y0,hy0,hk0,hs0,hn0,rfl⟩,hb1⟩;have HB1:=zh (after_alloc (Below.refl _ w) hb1);have HR1:=zh (bx_first hb1);have HF1:=zh (sf_first hb1);clear hb1;dsimp only at hy0⊢;obtain⟨FA,FB,FC,FD,FE,rfl,hfa,hfb,hfc,hfd,hfe⟩:=bl_five hy0;obtain⟨g,off,rfl,hg1,l0,l1,l2,l3,l4⟩:=five_reads hs0
 have hne:g≠w.heap.size:=fun e=>by
  have h1:=hn0 g off rfl;rw[e]at h1;simp at h1;exact absurd h1 (by omega)
 have HNE:=zh hne;clear hs0 hy0 hk0 hn0 hne;have zc:FC.size≤2000000:=by rw[Lib.size_eq,hfc];exact ZS.out c (by simp)
 have zd:FD.size≤2000000:=by rw[Lib.size_eq,hfd];exact ZS.out d (by simp)
 have ze:FE.size≤2000000:=by rw[Lib.size_eq,hfe];exact ZS.out e (by simp)
 have HFA:=zh hfa;have HFB:=zh hfb;have HFC:=zh hfc;have HFD:=zh hfd;have HFE:=zh hfe;clear hfa hfb hfc hfd hfe;have HC:=zh fun w=>takeB_any FC w (by omega)
 have HD:=zh fun w=>takeAllF_any FD 5 (s.size:Int) w (by omega) (by decide) ⟨by omega,by omega⟩
 have HE:=zh fun w=>takeAllF_any FE 5 (s.size:Int) w (by omega) (by decide) ⟨by omega,by omega⟩
 rw[HFC.out,HTC.out]at HC;rw[HFD.out,HTD.out]at HD;rw[HFE.out,HTE.out]at HE;go_wp2_with fail;with_reducible refine(HC.out _).mono ?_
 rintro e2 w2 ⟨⟨R,hR,rfl⟩,hb2⟩;have HB2:=zh (Bel.call HB1.out hb2);have HR2:=zh (HR1.out.below hb2 HR1.out.2.2.2.2.2);have HF2:=zh (HF1.out.below hb2 HR1.out.2.2.2.2.2);have hg2:g<w2.heap.size:=Nat.lt_of_lt_of_le hg1 hb2.size;replace l0:=(hb2.cell (p:=⟨g,off,none⟩) hg1).trans l0;replace l1:=(hb2.cell (p:=⟨g,off+1,none⟩) hg1).trans l1;replace l2:=(hb2.cell (p:=⟨g,off+2,none⟩) hg1).trans l2;replace l3:=(hb2.cell (p:=⟨g,off+3,none⟩) hg1).trans l3;replace l4:=(hb2.cell (p:=⟨g,off+4,none⟩) hg1).trans l4;have HRR:=zh hR;clear hR hb2;dsimp only at HRR⊢;have q2:R.toList.isEmpty=true:=empty_str HRR.out;go_wp2_with fail;with_reducible refine(HD.out _).mono ?_
 rintro e3 w3 ⟨⟨A1,c1,y1,hy1,hc1,hs1,hn1,rfl⟩,hb3⟩;have HB3:=zh (Bel.call HB2.out hb3);have HR3:=zh (HR2.out.below hb3 HR2.out.2.2.2.2.2);have HF3:=zh (HF2.out.below hb3 HR2.out.2.2.2.2.2);have hg3:g<w3.heap.size:=Nat.lt_of_lt_of_le hg2 hb3.size;replace l0:=(hb3.cell (p:=⟨g,off,none⟩) hg2).trans l0;replace l1:=(hb3.cell (p:=⟨g,off+1,none⟩) hg2).trans l1;replace l2:=(hb3.cell (p:=⟨g,off+2,none⟩) hg2).trans l2;replace l3:=(hb3.cell (p:=⟨g,off+3,none⟩) hg2).trans l3;replace l4:=(hb3.cell (p:=⟨g,off+4,none⟩) hg2).trans l4;have HS1:=zh hs1;have HY1:=zh hy1
 have HN1:Hid (∀b off,A1=some ⟨b,off,none⟩→0<y1.length→w.heap.size≤b∧b≠w.heap.size):=fun b off h _=>by
  have h1:=hn1 b off h;have h2:=HR2.out.2.2.2.2.2;exact⟨by omega,by omega⟩
 clear hs1 hy1 hn1 hb3;dsimp only;go_wp2_with fail;with_reducible refine(HE.out _).mono ?_
 rintro e4 w4 ⟨⟨A2,c2,y2,hy2,hc2,hs2,hn2,rfl⟩,hb4⟩;have HB4:=zh (Bel.call HB3.out hb4);have HR4:=zh (HR3.out.below hb4 HR3.out.2.2.2.2.2);have HF4:=zh (HF3.out.below hb4 HR3.out.2.2.2.2.2);have hg4:g<w4.heap.size:=Nat.lt_of_lt_of_le hg3 hb4.size;replace l0:=(hb4.cell (p:=⟨g,off,none⟩) hg3).trans l0;replace l1:=(hb4.cell (p:=⟨g,off+1,none⟩) hg3).trans l1;replace l2:=(hb4.cell (p:=⟨g,off+2,none⟩) hg3).trans l2;replace l3:=(hb4.cell (p:=⟨g,off+3,none⟩) hg3).trans l3;replace l4:=(hb4.cell (p:=⟨g,off+4,none⟩) hg3).trans l4;have HS2:=zh hs2;have HY2:=zh hy2
 have HN2:Hid (∀b off,A2=some ⟨b,off,none⟩→0<y2.length→w.heap.size≤b∧b≠w.heap.size):=fun b off h _=>by
  have h1:=hn2 b off h;have h2:=HR3.out.2.2.2.2.2;exact⟨by omega,by omega⟩
 replace HS1:=zh (HS1.out.below hb4 zl);clear hs2 hy2 hn2 hb4;dsimp only;go_wp2_with fail;clear l2 l3 l4;have hd4:Below w4.heap.size w4 w4.drew:=Below.drewN' (Below.refl w4.heap.size w4) 1;have HB5:Hid (Below w.heap.size w w4.drew):=zh (Bel.call HB4.out hd4);have HR5:=zh (HR4.out.below hd4 HR4.out.2.2.2.2.2);have HF5:=zh (HF4.out.below hd4 HR4.out.2.2.2.2.2);replace HS1:=zh (HS1.out.below hd4 zl);replace HS2:=zh (HS2.out.below hd4 zl);refine wp_region_held_drew (S:=fun w'=>w'.cell? ⟨g,off,none⟩=some (.string FA)∧w'.cell? ⟨g,off+1,none⟩=some (.string FB)∧True) (by kernel_rfl) ⟨(hd4.cell (p:=⟨g,off,none⟩) hg4).trans l0,(hd4.cell (p:=⟨g,off+1,none⟩) hg4).trans l1,trivial⟩ (fun hHeld=>?_);clear l0 l1 hd4;generalize w4.drew=w5 at HB5 HR5 HF5 HS1 HS2 hHeld⊢;refine zqT 0 ?_ ?_ ?_;rotate_left
 ·intro w' hSw;obtain⟨l0,l1,_⟩:=hSw;go_simp;try with_reducible rfl
 try simp only[Act.put,zq1,zq2,zq3]
 refine zqT 1 ?_ ?_ ?_;rotate_left
 ·intro w' hSw;obtain⟨l0,l1,_⟩:=hSw;go_simp;try with_reducible rfl
 try simp only[Act.put,zq1,zq2,zq3]
 refine zqT 2 ?_ ?_ ?_;rotate_left
 ·intro w' hSw;obtain⟨l0,l1,_⟩:=hSw;go_simp;try with_reducible rfl
 try simp only[Act.put,zq1,zq2,zq3]
 refine zqT 3 ?_ ?_ ?_;rotate_left
 ·intro w' hSw;obtain⟨l0,l1,_⟩:=hSw;go_simp;try with_reducible rfl
 try simp only[Act.put,zq1,zq2,zq3]
 refine zqT 4 ?_ ?_ ?_;rotate_left
 ·intro w' hSw;obtain⟨l0,l1,_⟩:=hSw;go_simp;try with_reducible rfl
 try simp only[Act.put,zq1,zq2,zq3]
 refine zqT 5 ?_ ?_ ?_;rotate_left
 ·intro w' hSw;obtain⟨l0,l1,_⟩:=hSw;go_simp;try with_reducible rfl
 try simp only[Act.put,zq1,zq2,zq3]
 refine zqT 6 ?_ ?_ ?_;rotate_left
 ·intro w' hSw;obtain⟨l0,l1,_⟩:=hSw;go_simp;try with_reducible rfl
 try simp only[Act.put,zq1,zq2,zq3]
 refine zqT 7 ?_ ?_ ?_;rotate_left
 ·intro w' hSw;obtain⟨l0,l1,_⟩:=hSw;go_simp;try with_reducible rfl
 try simp only[Act.put,zq1,zq2,zq3]
 refine zqT 8 ?_ ?_ ?_;rotate_left
 ·intro w' hSw;obtain⟨l0,l1,_⟩:=hSw;go_simp;try with_reducible rfl
 try simp only[Act.put,zq1,zq2,zq3]
 refine zqT 9 ?_ ?_ ?_;rotate_left
 ·intro w' hSw;obtain⟨l0,l1,_⟩:=hSw;go_simp;try with_reducible rfl
 try simp only[Act.put,zq1,zq2,zq3]
 refine zqT 10 ?_ ?_ ?_;rotate_left
 ·intro w' hSw;obtain⟨l0,l1,_⟩:=hSw;go_simp;try with_reducible rfl
 try simp only[Act.put,zq1,zq2,zq3]
 obtain⟨m0,m1,_⟩:=hHeld;refine zqR [11] ?_;refine zqC (fun K hK=>?_) AllReadyH.nil;obtain⟨r0,r1,r2,r3,r4,_⟩:=HR5.out;obtain⟨f0,f1,f2,f3,f4⟩:=HF5.out;go_simp;refine hK.out _ _ ⟨(cell_set5 HNE.out).trans m0,(cell_set5 HNE.out).trans m1,trivial⟩ (fun hHeld=>?_);try simp only[Act.put,zq1,zq2,zq3]
 refine zqT 12 ?_ ?_ ?_;rotate_left
 ·intro w' hSw;obtain⟨l0,l1,_⟩:=hSw;go_simp;try with_reducible rfl
 try simp only[Act.put,zq1,zq2,zq3]
 refine wpAnyH_done (by kernel_rfl) ?_ _;go_wp2;refine bodyPost_ret (v:=.tuple #[RV FA FB (n:Int) A1 y1.length c1 A2 y2.length c2,.bool true]) (by simp[results,Tryz.results102,go_sem,RV,r0,r1,r2,r3,r4]) rfl ?_;have n1:∀b off,A1=some ⟨b,off,none⟩→0<y1.length→b≠w.heap.size:=fun b off h h0=>(HN1.out b off h h0).2
 have n2:∀b off,A2=some ⟨b,off,none⟩→0<y2.length→b≠w.heap.size:=fun b off h h0=>(HN2.out b off h h0).2
 exact⟨⟨_,⟨FA,FB,A1,c1,y1,A2,c2,y2,rfl,by simp only[HFA.out,HFB.out,HY1.out,HY2.out],sreads_setL5 HS1.out n1,sreads_setL5 HS2.out n2,hc1,hc2,fun b off h h0=>(HN1.out b off h h0).1,fun b off h h0=>(HN2.out b off h h0).1⟩,rfl⟩,set5 HB5.out zl⟩
end Go.Proofs.YtmihiknebelkbaaGreat.Rig
namespace Go.Proofs.YtmihiknebelkbaaGreat.Rig
open Go.RowKit Wire
theorem few_rd {s:Tm} (hs:s.length≤1100000):Few (rdR s).1:=by
 unfold rdR;obtain⟨L,hL⟩:∃L:Int,(s.length:Int)=L:=⟨_,rfl⟩
 rw[hL];obtain⟨l,fl,hl⟩:∃l fl,all s 5 L=(l,fl):=⟨_,_,rfl⟩
 rw[hl];simp only;split
 ·exact few_zero
 obtain⟨n,q,f,hn⟩:∃n q f,tk (l.getD 2 [])=(n,q,f):=⟨_,_,_,rfl⟩
 obtain⟨a,fa,ha⟩:∃a fa,all (l.getD 3 []) 5 L=(a,fa):=⟨_,_,rfl⟩
 obtain⟨b,fb,hb⟩:∃b fb,all (l.getD 4 []) 5 L=(b,fb):=⟨_,_,rfl⟩
 rw[hn,ha,hb];simp only;split
 ·exact few_zero
 rename_i h2;split
 ·exact few_zero
 obtain⟨_,z1⟩:=all_few hl;obtain⟨z2,z3⟩:=all_few ha;obtain⟨z4,z5⟩:=all_few hb
 have hg:∀i,(l.getD i []).length≤1100000:=fun i=>by
  by_cases h:i<l.length
  ·have e:l.getD i []=l[i]:=by simp[List.getD,h]
   rw[e];have:=z1 l[i] (List.getElem_mem h);omega
  ·have e:l.getD i [] = []:=by simp[List.getD,h]
   rw[e];simp
 have h7:¬7<n:=fun h=>h2 (.inr (.inr h))
 exact⟨hg 0,hg 1,by simp only;omega,by simp only;omega,fun x hx=>Nat.le_trans (z3 x hx) (hg 3),fun x hx=>Nat.le_trans (z5 x hx) (hg 4),by simp only;omega,by simp only;omega⟩
set_option maxRecDepth 1000000 in
theorem take_code (gs:List Nat) (s:ByteArray) (w:World) (hg:∀g∈gs,g<w.heap.size) (hs:s.size≤1100000):
 Calls Tryz.prog 91 #[.string s] w fun e w'=>Re (Off gs) (takeR s.data.toList) e w'∧Below w.heap.size w w':=by
 have hf:Few (rdR s.data.toList).1:=few_rd (by rw[←Lib.size_eq];exact hs);obtain⟨x,bt,hx⟩:∃x b,rdR s.data.toList=(x,b):=⟨_,_,rfl⟩
 have htk:=rd_take s.data.toList;rw[hx]at htk hf;simp only at htk hf;have HRD:=zh fun w=>read_code s w hs
 rw[hx]at HRD;have HF:=zh hf;clear hf hx;cases bt with
 | false=>
  rw[htk,if_neg (by simp)];clear htk;go_enter Tryz.func91,Tryz.ntmps91;go_wp2_with fail;with_reducible refine(HRD.out _).mono ?_
  rintro e w1 ⟨⟨v1,hx1,rfl⟩,hb1⟩;obtain⟨o1,f1,p1,A1,n1,c1,B1,m1,d1,rfl,hpe,hpn,hpm,hpo,hpf,hx1⟩:=isX_lit hx1;clear hpe hpn hpm hpo hpf;have HB1:=zh (after_alloc (Below.refl _ w) hb1);have HR1:=zh (bx_first hb1);have HF1:=zh (sf_first hb1)
  have HX1:Hid (IsX (Off (w.heap.size::gs)) w1 (.agg #[.string o1,.string f1,.int .i64 p1,.slice A1 n1 c1,.slice B1 m1 d1]) x):=zh (hx1.mono fun b _ hb hm=>by
   have hb2:w.heap.size+1≤b:=by simpa using hb
   rcases List.mem_cons.1 hm with e|e
   ·omega
   ·have:=hg b e;omega)
  clear hb1 hx1;dsimp only at HX1⊢;obtain⟨r0,r1,r2,r3,r4,_⟩:=HR1.out.below (al w1 (.cells #[.string o1,.string f1,.int .i64 p1,.slice A1 n1 c1,.slice B1 m1 d1] 24)) HR1.out.2.2.2.2.2;obtain⟨f0,f1',f2,f3,f4⟩:=HF1.out.below (al w1 (.cells #[.string o1,.string f1,.int .i64 p1,.slice A1 n1 c1,.slice B1 m1 d1] 24)) HR1.out.2.2.2.2.2;go_wp2;refine bodyPost_ret (v:=.tuple #[RV ⟨#[]⟩ ⟨#[]⟩ 0 none 0 0 none 0 0,.int .i64 2]) (by simp[results,Tryz.results91,go_sem,RV,r0,r1,r2,r3,r4]) rfl ?_;exact⟨⟨_,isX_zero _ _,rfl⟩,set5 (HB1.out.alloc HB1.out.size _) zl⟩
 | true=>
  by_cases hr:RR x
  case neg=>
   rw[htk,if_neg (fun h=>hr h.2)];have hrr:decide (RR x)=false:=decide_eq_false hr;clear htk hr;go_enter Tryz.func91,Tryz.ntmps91;go_wp2_with fail;with_reducible refine(HRD.out _).mono ?_
   rintro e w1 ⟨⟨v1,hx1,rfl⟩,hb1⟩;obtain⟨o1,f1,p1,A1,n1,c1,B1,m1,d1,rfl,hpe,hpn,hpm,hpo,hpf,hx1⟩:=isX_lit hx1;clear hpe hpn hpm hpo hpf;have HB1:=zh (after_alloc (Below.refl _ w) hb1);have HR1:=zh (bx_first hb1);have HF1:=zh (sf_first hb1)
   have HX1:Hid (IsX (Off (w.heap.size::gs)) w1 (.agg #[.string o1,.string f1,.int .i64 p1,.slice A1 n1 c1,.slice B1 m1 d1]) x):=zh (hx1.mono fun b _ hb hm=>by
    have hb2:w.heap.size+1≤b:=by simpa using hb
    rcases List.mem_cons.1 hm with e|e
    ·omega
    ·have:=hg b e;omega)
   clear hb1 hx1;dsimp only at HX1⊢;go_wp2_with fail;have hbS:=al w1 (.cells #[.string o1,.string f1,.int .i64 p1,.slice A1 n1 c1,.slice B1 m1 d1] 24);have hxS:=bx_alloc w1 o1 f1 p1 A1 n1 c1 B1 m1 d1 24;generalize w1.alloc (.cells #[.string o1,.string f1,.int .i64 p1,.slice A1 n1 c1,.slice B1 m1 d1] 24)=wS at hbS hxS⊢;have HBS:=zh (Bel.call HB1.out hbS);have HRS:=zh (HR1.out.below hbS HR1.out.2.2.2.2.2);have HFS:=zh (HF1.out.below hbS HR1.out.2.2.2.2.2);have HXS:=zh hxS;have HXR:=zh (HX1.out.below hbS zl);clear hbS hxS;with_reducible refine(right_at _ x _ HXR.out.isR HF.out).mono ?_
   rw[hrr];rintro e w2 ⟨rfl,hb2⟩;have HB2:=zh (Bel.call HBS.out hb2);have HR2:=zh (HRS.out.below hb2 HRS.out.2.2.2.2.2);have HF2:=zh (HFS.out.below hb2 HRS.out.2.2.2.2.2);have HX2:=zh (HXS.out.below hb2 HXS.out.2.2.2.2.2);have HXQ:=zh (HXR.out.below hb2 zl);clear hb2;dsimp only;obtain⟨r0,r1,r2,r3,r4,_⟩:=HR2.out;obtain⟨f0,f1',f2,f3,f4⟩:=HF2.out;obtain⟨b0,b1,b2,b3,b4,_⟩:=HX2.out;go_wp2;refine bodyPost_ret (v:=.tuple #[RV ⟨#[]⟩ ⟨#[]⟩ 0 none 0 0 none 0 0,.int .i64 2]) (by simp[results,Tryz.results91,go_sem,RV,r0,r1,r2,r3,r4]) rfl ?_;exact⟨⟨_,isX_zero _ _,rfl⟩,set5 HB2.out zl⟩
  rw[htk,if_pos ⟨rfl,hr⟩];have hrr:decide (RR x)=true:=decide_eq_true hr;clear htk hr;go_enter Tryz.func91,Tryz.ntmps91;go_wp2_with fail;with_reducible refine(HRD.out _).mono ?_
  rintro e w1 ⟨⟨v1,hx1,rfl⟩,hb1⟩;obtain⟨o1,f1,p1,A1,n1,c1,B1,m1,d1,rfl,hpe,hpn,hpm,hpo,hpf,hx1⟩:=isX_lit hx1;clear hpe hpn hpm hpo hpf;have HB1:=zh (after_alloc (Below.refl _ w) hb1);have HR1:=zh (bx_first hb1);have HF1:=zh (sf_first hb1)
  have HX1:Hid (IsX (Off (w.heap.size::gs)) w1 (.agg #[.string o1,.string f1,.int .i64 p1,.slice A1 n1 c1,.slice B1 m1 d1]) x):=zh (hx1.mono fun b _ hb hm=>by
   have hb2:w.heap.size+1≤b:=by simpa using hb
   rcases List.mem_cons.1 hm with e|e
   ·omega
   ·have:=hg b e;omega)
  clear hb1 hx1;dsimp only at HX1⊢;go_wp2_with fail;have hbS:=al w1 (.cells #[.string o1,.string f1,.int .i64 p1,.slice A1 n1 c1,.slice B1 m1 d1] 24);have hxS:=bx_alloc w1 o1 f1 p1 A1 n1 c1 B1 m1 d1 24;generalize w1.alloc (.cells #[.string o1,.string f1,.int .i64 p1,.slice A1 n1 c1,.slice B1 m1 d1] 24)=wS at hbS hxS⊢;have HBS:=zh (Bel.call HB1.out hbS);have HRS:=zh (HR1.out.below hbS HR1.out.2.2.2.2.2);have HFS:=zh (HF1.out.below hbS HR1.out.2.2.2.2.2);have HXS:=zh hxS;have HXR:=zh (HX1.out.below hbS zl);clear hbS hxS;with_reducible refine(right_at _ x _ HXR.out.isR HF.out).mono ?_
  rw[hrr];rintro e w2 ⟨rfl,hb2⟩;have HB2:=zh (Bel.call HBS.out hb2);have HR2:=zh (HRS.out.below hb2 HRS.out.2.2.2.2.2);have HF2:=zh (HFS.out.below hb2 HRS.out.2.2.2.2.2);have HX2:=zh (HXS.out.below hb2 HXS.out.2.2.2.2.2);have HXQ:=zh (HXR.out.below hb2 zl);clear hb2;dsimp only;obtain⟨r0,r1,r2,r3,r4,_⟩:=HR2.out;obtain⟨f0,f1',f2,f3,f4⟩:=HF2.out;obtain⟨b0,b1,b2,b3,b4,_⟩:=HX2.out;go_wp2;refine bodyPost_ret (v:=.tuple #[.agg #[.string o1,.string f1,.int .i64 p1,.slice A1 n1 c1,.slice B1 m1 d1],.int .i64 0]) (by simp[results,Tryz.results91,go_sem,RV,r0,r1,r2,r3,r4]) rfl ?_;exact⟨⟨_,(isX_set5 (List.mem_cons_self ..) HXQ.out).mono (fun b _ hb hm=>hb (List.mem_cons_of_mem _ hm)),rfl⟩,set5 HB2.out zl⟩
end Go.Proofs.YtmihiknebelkbaaGreat.Rig
namespace Go.Proofs.YtmihiknebelkbaaGreat.Rig
open Go.RowKit Wire
set_option maxRecDepth 1000000 in
theorem put_code (o f:ByteArray) (ep:Int) (A:Option Addr) (c:Nat) (rs:List ByteArray) (B:Option Addr) (d:Nat) (ws:List ByteArray) (w:World) (hA:SReads w A rs) (hB:SReads w B ws) (hf:Few ⟨o.data.toList,f.data.toList,ep,bl rs,bl ws⟩):
 Calls Tryz.prog 65 #[RV o f ep A rs.length c B ws.length d] w fun e w'=>Srt (putR ⟨o.data.toList,f.data.toList,ep,bl rs,bl ws⟩) e∧Below w.heap.size w w':=by
 have HA:=zh hA;have HBB:=zh hB;have HRR:=zh fun w h1 h2=>right_code o f ep A c rs B d ws w h1 h2 hf
 by_cases hr:RR ⟨o.data.toList,f.data.toList,ep,bl rs,bl ws⟩
 case neg=>
  rw[show putR ⟨o.data.toList,f.data.toList,ep,bl rs,bl ws⟩=([],1)by unfold putR;rw[if_neg hr]];clear hA hB hf;unfold RV at HRR⊢;go_enter Tryz.func65,Tryz.ntmps65;go_wp2_with fail;with_reducible refine(HRR.out _ (HA.out.below (al _ _) zl) (HBB.out.below (al _ _) zl)).mono ?_
  rw[decide_eq_false hr];rintro e w1 ⟨rfl,hb1⟩;have HB1:=zh (after_alloc (Below.refl _ w) hb1);obtain⟨c0,c1,c2,c3,c4,_⟩:=bx_first hb1;have HA1:=zh (HA.out.below HB1.out zl);have HBB1:=zh (HBB.out.below HB1.out zl);clear hb1;dsimp only;go_wp2;go_ret2;exact⟨⟨⟨#[]⟩,rfl,rfl⟩,HB1.out⟩
 ·rw[show putR ⟨o.data.toList,f.data.toList,ep,bl rs,bl ws⟩=(rowR ⟨o.data.toList,f.data.toList,ep,bl rs,bl ws⟩,0)by unfold putR;rw[if_pos hr]]
  obtain⟨l5,l4⟩:=row_list hr;obtain⟨a1,a2,⟨a3,a3'⟩,a4,a5,a6,a7⟩:=id hr;simp only[bl_len]at a3 a3' a4;have hs5:=flat_small _ fun t ht=>Nat.le_trans (lsd_small a5 t ht) (show 128≤4000 by decide)
  have hs6:=flat_small _ fun t ht=>Nat.le_trans (lsd_small a6 t ht) (show 128≤4000 by decide)
  rw[bl_len]at hs5 hs6;simp only at hs5 hs6;obtain⟨k,hk⟩:∃k:Nat,ep.toNat=k:=⟨_,rfl⟩
  have hck:IntKind.u64.wrap ep=(k:Int):=by rw[IntKind.wrap_u64];omega
  have HP:=zh fun w=>put_any k w (by omega)
  have HL1:=zh fun w h=>putAll_any A c rs w h (by omega) (by omega)
  have HL2:=zh fun w h=>putAll_any B d ws w h (by omega) (by omega)
  have HL5:Hid (∀(a b c' d' e':ByteArray) (g:Nat) (w:World),a.data.toList=o.data.toList→b.data.toList=f.data.toList→c'.data.toList=put k→d'.data.toList=putAll (bl rs)→e'.data.toList=putAll (bl ws)→SReads w (some ⟨g,0,none⟩) [a,b,c',d',e'] →
   Calls Tryz.prog 21 #[.slice (some ⟨g,0,none⟩) 5 5] w fun e w'=>St (rowR ⟨o.data.toList,f.data.toList,ep,bl rs,bl ws⟩) e∧Below w.heap.size w w'):=fun a b c' d' e' g w h1 h2 h3 h4 h5 hr=>by
   have eb:bl [a,b,c',d',e'] = [o.data.toList,f.data.toList,put ep.toNat,putAll (bl rs),putAll (bl ws)]:=by
    show[a.data.toList,b.data.toList,c'.data.toList,d'.data.toList,e'.data.toList]=_
    rw[h1,h2,h3,h4,h5,hk]
   have h:=putAll_any (some ⟨g,0,none⟩) 5 [a,b,c',d',e'] w hr (by simp) (by rw[eb];have:=flat_small _ l4;simp only[List.length_cons,List.length_nil]at this;omega);rw[eb]at h;exact h
  clear hA hB hf l5 l4 a1 a2 a4 a5 a6 a7 hs5 hs6 hk;unfold RV at HRR⊢;go_enter Tryz.func65,Tryz.ntmps65;go_wp2_with fail;with_reducible refine(HRR.out _ (HA.out.below (al _ _) zl) (HBB.out.below (al _ _) zl)).mono ?_
  rw[decide_eq_true hr];rintro e w1 ⟨rfl,hb1⟩;have HB1:=zh (after_alloc (Below.refl _ w) hb1);have hx1:=bx_first hb1;clear hb1;dsimp only;obtain⟨c0,c1,c2,c3,c4,_⟩:=id hx1;go_wp2_with fail;with_reducible refine(HP.out _).mono ?_
  rintro e w2 ⟨⟨P,hP,rfl⟩,hb2⟩;have HB2:=zh (Bel.call HB1.out hb2);have hx2:=hx1.below hb2 hx1.2.2.2.2.2;clear hb2 c0 c1 c2 c3 c4;dsimp only;go_wp2_with fail;refine wp_region_held_drew (S:=fun w'=>Bx w.heap.size w' o f ep A rs.length c B ws.length d) (by kernel_rfl) (hx2.below (Below.drewN' (Below.refl w2.heap.size w2) 1) hx2.2.2.2.2.2) (fun hHeld=>?_);refine zqT 0 ?_ ?_ ?_;rotate_left
  ·intro w' hSw;obtain⟨c0,c1,c2,c3,c4,_⟩:=hSw;go_simp;try with_reducible rfl
  try simp only[Act.put,zq1,zq2,zq3]
  refine zqT 1 ?_ ?_ ?_;rotate_left
  ·intro w' hSw;obtain⟨c0,c1,c2,c3,c4,_⟩:=hSw;go_simp;try with_reducible rfl
  try simp only[Act.put,zq1,zq2,zq3]
  refine zqT 2 ?_ ?_ ?_;rotate_left
  ·intro w' hSw;obtain⟨c0,c1,c2,c3,c4,_⟩:=hSw;go_simp;try with_reducible rfl
  try simp only[Act.put,zq1,zq2,zq3]
  refine zqT 3 ?_ ?_ ?_;rotate_left
  ·intro w' hSw;obtain⟨c0,c1,c2,c3,c4,_⟩:=hSw;go_simp;try with_reducible rfl
  try simp only[Act.put,zq1,zq2,zq3]
  refine zqT 4 ?_ ?_ ?_;rotate_left
  ·intro w' hSw;obtain⟨c0,c1,c2,c3,c4,_⟩:=hSw;go_simp;try with_reducible rfl
  try simp only[Act.put,zq1,zq2,zq3]
  refine zqT 5 ?_ ?_ ?_;rotate_left
  ·intro w' hSw;obtain⟨c0,c1,c2,c3,c4,_⟩:=hSw;go_simp;try with_reducible rfl
  try simp only[Act.put,zq1,zq2,zq3]
  refine zqT 6 ?_ ?_ ?_;rotate_left
  ·intro w' hSw;obtain⟨c0,c1,c2,c3,c4,_⟩:=hSw;go_simp;try with_reducible rfl
  try simp only[Act.put,zq1,zq2,zq3]
  refine zqT 8 ?_ ?_ ?_;rotate_left
  ·intro w' hSw;obtain⟨c0,c1,c2,c3,c4,_⟩:=hSw;go_simp;try with_reducible rfl
  try simp only[Act.put,zq1,zq2,zq3]
  refine zqT 9 ?_ ?_ ?_;rotate_left
  ·intro w' hSw;obtain⟨c0,c1,c2,c3,c4,_⟩:=hSw;go_simp;try with_reducible rfl
  try simp only[Act.put,zq1,zq2,zq3]
  have HB0:Hid (Below w.heap.size w w2.drew):=zh (Below.drewN' HB2.out 1);have hx0:=hHeld;clear hHeld;refine zqR [7] ?_;refine zqC (fun K hK=>?_) AllReadyH.nil;go_simp;go_at_call 21;with_reducible refine(HL1.out _ (HA.out.below HB0.out zl)).mono ?_
  rintro e w3 ⟨⟨P1,hP1,rfl⟩,hb3⟩;have HB3:=zh (Bel.call HB0.out hb3);have hx3:=hx0.below hb3 hx0.2.2.2.2.2;clear hb3;dsimp only;refine hK.out _ _ hx3 (fun hHeld=>?_);try simp only[Act.put,zq1,zq2,zq3]
  clear hHeld;refine zqR [10] ?_;refine zqC (fun K hK=>?_) AllReadyH.nil;go_simp;go_at_call 21;with_reducible refine(HL2.out _ (HBB.out.below HB3.out zl)).mono ?_
  rintro e w4 ⟨⟨P2,hP2,rfl⟩,hb4⟩;have HB4:=zh (Bel.call HB3.out hb4);have hx4:=hx3.below hb4 hx3.2.2.2.2.2;clear hb4;dsimp only;refine hK.out _ _ hx4 (fun hHeld=>?_);try simp only[Act.put,zq1,zq2,zq3]
  clear hHeld;refine zqR [11] ?_;refine zqC (fun K hK=>?_) AllReadyH.nil;go_simp;have HB5:=zh (HB4.out.alloc HB4.out.size (.cells #[.string o,.string f,.string P,.string P1,.string P2] 9));have hx5:=hx4.below ((Below.refl w4.heap.size w4).alloc zl (.cells #[.string o,.string f,.string P,.string P1,.string P2] 9)) hx4.2.2.2.2.2;refine hK.out _ _ hx5 (fun hHeld=>?_);try simp only[Act.put,zq1,zq2,zq3]
  clear hHeld;refine zqR [12] ?_;refine zqC (fun K hK=>?_) AllReadyH.nil;go_simp;go_at_call 21;with_reducible refine(HL5.out o f P P1 P2 _ _ rfl rfl hP hP1 hP2 (lit5_reads w4 o f P P1 P2 _ rfl)).mono ?_
  rintro e w6 ⟨⟨Q,hQ,rfl⟩,hb6⟩;have HB6:=zh (Bel.call HB5.out hb6);have hx6:=hx5.below hb6 hx5.2.2.2.2.2;clear hb6;dsimp only;refine hK.out _ _ hx6 (fun hHeld=>?_);try simp only[Act.put,zq1,zq2,zq3]
  refine zqT 13 ?_ ?_ ?_;rotate_left
  ·intro w' hSw;obtain⟨c0,c1,c2,c3,c4,_⟩:=hSw;go_simp;try with_reducible rfl
  try simp only[Act.put,zq1,zq2,zq3]
  refine zqT 14 ?_ ?_ ?_;rotate_left
  ·intro w' hSw;obtain⟨c0,c1,c2,c3,c4,_⟩:=hSw;go_simp;try with_reducible rfl
  try simp only[Act.put,zq1,zq2,zq3]
  refine wpAnyH_done (by kernel_rfl) ?_ _;go_wp2;go_ret2;exact⟨⟨Q,hQ,rfl⟩,HB6.out⟩
end Go.Proofs.YtmihiknebelkbaaGreat.Rig
