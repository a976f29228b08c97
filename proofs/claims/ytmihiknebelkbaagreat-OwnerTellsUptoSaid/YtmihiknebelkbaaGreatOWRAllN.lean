/-
  OPure, WNew, WRAllN. By an AI agent.
-/
import Derived.Test.YtmihiknebelkbaaGreatOZ
import Derived.Test.YtmihiknebelkbaaGreatOMBack
import Derived.Test.YtmihiknebelkbaaGreatOJ1
import Derived.Test.YtmihiknebelkbaaGreatOW0
set_option linter.unusedVariables false
set_option maxHeartbeats 4000000
namespace Go.Proofs.YtmihiknebelkbaaGreat.Own
open Wire Term Rig Mta
structure Env where
 m:Mt
 s:Frs.Sp
 i:Int
 pf:List Tm
def ezero:Env:=⟨mzero,Frs.szero,0,[]⟩
def ER (e:Env):Prop:=MR e.m∧Frs.SR e.s∧(0≤e.i∧e.i≤7)∧e.pf.length≤3∧∀t∈e.pf,right t=true
instance (e:Env):Decidable (ER e):=by unfold ER;infer_instance
def NE (e:Env):Prop:=e.m.ver<18446744073709551616∧e.s.time<18446744073709551616
def partsE (e:Env):List Tm:=[putAll [bodyB e.m,e.m.sig],Frs.rowS e.s,put e.i.toNat,putAll e.pf]
def rowE (e:Env):Tm:=putAll (partsE e)
def putE (e:Env):Tm×Int:=if ER e then(rowE e,0)else([],1)
def envOf (b:Int) (l:List Tm):Env:=⟨(takeM (l.getD 0 [])).1,(Frs.takeS (l.getD 1 [])).1,((tk (l.getD 2 [])).1:Int),(all (l.getD 3 []) 3 b).1⟩
def rowOKE (b:Int) (l:List Tm):Prop:=(takeM (l.getD 0 [])).2=0∧(Frs.takeS (l.getD 1 [])).2=0∧((tk (l.getD 2 [])).2.2=0∧(tk (l.getD 2 [])).2.1 = [])∧(tk (l.getD 2 [])).1≤7∧(all (l.getD 3 []) 3 b).2=0
instance (b:Int) (l:List Tm):Decidable (rowOKE b l):=by unfold rowOKE;infer_instance
def takeEb (a b:Int) (s:Tm):Env×Int:=
 if(all s 4 a).2≠0∨(all s 4 a).1.length≠4 then(ezero,2)
 else if ¬(rowOKE b (all s 4 a).1∧ER (envOf b (all s 4 a).1))then(ezero,2)else(envOf b (all s 4 a).1,0)
def takeE (s:Tm):Env×Int:=takeEb 90000 4000 s
theorem takeEb_err {a b:Int} {s:Tm}:(takeEb a b s).2=0∨takeEb a b s=(ezero,2):=by
 unfold takeEb;split
 ·exact .inr rfl
 ·split
  ·exact .inr rfl
  ·exact .inl rfl
theorem four_is {l:List Tm} (h:l.length=4):l = [l.getD 0 [],l.getD 1 [],l.getD 2 [],l.getD 3 []]:=by
 match l,h with
 | [x0,x1,x2,x3],_=>rfl
theorem num_back {x:Tm} (h:(tk x).2.2=0∧(tk x).2.1 = []):x=put (tk x).1∧(tk x).1<18446744073709551616:=by
 cases ht:take x with
 | none=>rw[tk_none ht]at h;exact absurd h.1 (by decide)
 | some p=>
  obtain⟨n,r⟩:=p;rw[tk_some ht]at h⊢;have h6:=take_some ht;have hr:r = []:=h.2;subst hr;rw[List.append_nil]at h6;exact⟨h6.1,h6.2⟩
theorem takeEb_back {a b:Int} {s:Tm} {e:Env} (h:takeEb a b s=(e,0)):ER e∧NE e∧s=rowE e:=by
 unfold takeEb at h;split at h
 ·cases h
 ·rename_i h1
  have h1':(all s 4 a).2=0∧(all s 4 a).1.length=4:=⟨Decidable.not_not.1 fun h=>h1 (.inl h),Decidable.not_not.1 fun h=>h1 (.inr h)⟩
  split at h
  ·cases h
  ·rename_i h2
   obtain⟨⟨k1,k2,k3,k4,k5⟩,h4⟩:=Classical.not_not.1 h2;have hb:envOf b (all s 4 a).1=e:=(Prod.mk.inj h).1;have h5:s=putAll (all s 4 a).1:=((all_back (l:=s) (a:=4) (b:=a) (x:=(all s 4 a).1) (e:=(all s 4 a).2) rfl).1 h1'.1).1;have hx:=four_is h1'.2;generalize (all s 4 a).1=l at *;rw[hb]at h4;have e0:e.m=(takeM (l.getD 0 [])).1:=by rw[←hb];rfl
   have e1:e.s=(Frs.takeS (l.getD 1 [])).1:=by rw[←hb];rfl
   have e2:e.i=((tk (l.getD 2 [])).1:Int):=by rw[←hb];rfl
   have e3:e.pf=(all (l.getD 3 []) 3 b).1:=by rw[←hb];rfl
   have m1:e.m.ver<18446744073709551616∧l.getD 0 []=putAll [bodyB e.m,e.m.sig]:=by
    rcases takeM_cases (l.getD 0 [])with hm|⟨m,hm,_,hv,hs⟩
    ·rw[hm]at k1;cases k1
    ·rw[hm]at e0;rw[e0];exact⟨hv,hs⟩
   have s1:e.s.time<18446744073709551616∧l.getD 1 []=Frs.rowS e.s:=by
    have hs:Frs.takeS (l.getD 1 [])=(e.s,0):=by rw[e1,←k2]
    have:=Frs.takeM_back hs;exact⟨this.2.2,this.2.1⟩
   have n1:=num_back k3;have p1:=((all_back (x:=(all (l.getD 3 []) 3 b).1) (e:=(all (l.getD 3 []) 3 b).2) rfl).1 k5).1;refine⟨h4,⟨m1.1,s1.1⟩,?_⟩;rw[h5,hx];unfold rowE partsE;rw[←m1.2,←s1.2,e2,e3,←p1,show(((tk (l.getD 2 [])).1:Int)).toNat=(tk (l.getD 2 [])).1 by omega,←n1.1]
theorem all_many {l:List Tm} {k:Int} {m:Nat} (h3:(l.length:Int)≤k) (hk:k≤1000) (hm:m<18446744073709551616) (h:∀t∈l,t.length≤m):all (putAll l) k (m:Int)=(l,0):=by
 have e1:take (putAll l)=some (l.length,l.flatMap putText):=take_put (by omega) _;refine all_ok e1 (by omega) ?_;have:=texts_put l [] (m:Int) [] (fun t ht=>⟨Nat.lt_of_le_of_lt (h t ht) hm,by have:=h t ht;omega⟩);rw[List.append_nil]at this;exact this
theorem takeEb_put {e:Env} (h:ER e) (hn:NE e) {a b:Nat} (ha:a<18446744073709551616) (hb:b<18446744073709551616) (hl:∀t∈partsE e,t.length≤a) (hp:∀t∈e.pf,t.length≤b):takeEb a b (rowE e)=(e,0):=by
 have e1:all (rowE e) 4 (a:Int)=(partsE e,0):=all_many (by simp[partsE]) (by decide) ha hl;have m1:=takeM_put h.1 hn.1;have s1:=Frs.takeS_put h.2.1 hn.2;have n1:tk (put e.i.toNat)=(e.i.toNat,[],0):=(Frs.nat_put (by have:=h.2.2.1;omega)).2;have p1:all (putAll e.pf) 3 (b:Int)=(e.pf,0):=all_many (by have:=h.2.2.2.1;omega) (by decide) hb hp
 have he:envOf b (partsE e)=e:=by
  unfold envOf partsE;simp only[List.getD_cons_zero,List.getD_cons_succ];rw[m1,s1,n1,p1];show(⟨e.m,e.s,((e.i.toNat:Nat):Int),e.pf⟩:Env)=e
  rw[show((e.i.toNat:Nat):Int)=e.i by have:=h.2.2.1.1;omega]
 have hr:rowOKE b (partsE e):=by
  unfold rowOKE partsE;simp only[List.getD_cons_zero,List.getD_cons_succ];rw[m1,s1,n1,p1];exact⟨rfl,rfl,⟨rfl,rfl⟩,by show e.i.toNat≤7;have:=h.2.2.1;omega,rfl⟩
 unfold takeEb;rw[e1,if_neg (by rintro(h5|h5);exact h5 rfl;exact h5 rfl),if_neg (by rw[he];exact fun h5=>h5 ⟨hr,h⟩),he]
theorem part_len {l:List Tm} {t:Tm} (h:t∈l):t.length≤(putAll l).length:=by
 have h1:(putText t).length≤(l.flatMap putText).length:=by
  induction l with
  | nil=>cases h
  | cons x l ih=>
   rw[List.flatMap_cons,List.length_append];rcases List.mem_cons.1 h with rfl|h
   ·omega
   ·have:=ih h;omega
 unfold putAll putText at *;rw[List.length_append]at h1;rw[List.length_append];omega
theorem takeE_same {a b c d:Nat} {s:Tm} (ha:a<18446744073709551616) (hb:b<18446744073709551616) (hs:s.length≤a) (hc:4000≤b) {e:Env} (h:takeEb c d s=(e,0)):takeEb a b s=(e,0):=by
 obtain⟨h1,h2,h3⟩:=takeEb_back h;rw[h3]at hs⊢;exact takeEb_put h1 h2 ha hb (fun t ht=>Nat.le_trans (part_len ht) hs) fun t ht=>Nat.le_trans (right_len (h1.2.2.2.2 t ht)).2 hc
end Go.Proofs.YtmihiknebelkbaaGreat.Own
namespace Go.Proofs.YtmihiknebelkbaaGreat.Wire
open Go.RowKit
def Tn (B:Nat) (x:List (List UInt8)×Int) (e:Ending) (w':World):Prop:=∃(A:Option Addr) (c:Nat) (ys:List ByteArray),bl ys=x.1∧ys.length≤c∧SReads w' A ys∧e = .returned (.tuple #[.slice A ys.length c,.int .i64 x.2])∧(∀b off,A=some ⟨b,off,none⟩→B≤b)∧(A=none→c=0)
theorem tn_nil (B:Nat) (f:Int) (w':World):Tn B ([],f) (.returned (.tuple #[.slice none 0 0,.int .i64 f])) w':=⟨none,0,[],rfl,Nat.le_refl _,SReads.nil _ _,rfl,fun _ _ e=>(by cases e),fun _=>rfl⟩
theorem own_new {w:World} {B:Nat} {T:TypeId} {A:Option Addr} {k c z:Nat} {zs:List Value} (h:w.ownsRow B T z (.slice A k c) k zs):(∀b off,A=some ⟨b,off,none⟩→B≤b)∧(A=none→c=0):=by
 rcases h.2 with⟨h1,h2⟩|⟨g,cap,cur,hv,hb,_⟩
 ·injection h1 with q1 q2 q3
  subst q1 q3;exact⟨fun b off e=>(by cases e),fun _=>rfl⟩
 ·injection hv with q1 q2 q3
  subst q1;refine⟨fun b off e=>?_,fun e=>(by cases e)⟩;injection Option.some.inj e with q4 _ _
  rw[←q4];exact hb
end Go.Proofs.YtmihiknebelkbaaGreat.Wire
namespace Go.Proofs.YtmihiknebelkbaaGreat.Wire
open Go.RowKit
set_option maxRecDepth 1000000 in
theorem refAll_new (s:ByteArray) (a m:Int) (w:World) (hs:s.size≤1000000000000) (ha:-9223372036854775808≤a∧a≤9223372036854775807) (hm:-9223372036854775808≤m∧m≤9223372036854775807):
    Calls Tryz.prog 28 #[.string s,.int .i64 a,.int .i64 m] w fun e w'=>Tn w.heap.size (all s.data.toList a m) e w'∧Below w.heap.size w w':=by
  obtain⟨ha1,ha2⟩:=ha
  rcases take_tk (l:=s.data.toList)with⟨h1,h2⟩|⟨n,r,h1,h2,hn⟩
  · have H1:=zh (all_none (a:=a) (b:=m) h1)
    have H2:=zh h2
    clear h1 h2
    go_enter Tryz.func28,Tryz.ntmps28
    go_wp2_with fail
    refine(refTake_any _ _ (by omega)).mono ?_
    rw[H2.out]
    rintro e w1 ⟨⟨R,hR,rfl⟩,hb⟩
    dsimp only at hR⊢
    have HB:=zh hb
    clear hR hb
    go_wp2
    go_ret2
    rw[H1.out]
    exact⟨tn_nil _ _ _,HB.out⟩
  · have h4:=(take_len h1).1
    rw[←Lib.size_eq]at h4
    have HT2:=zh h2
    have HT1:=zh h1
    have HN:=zh hn
    clear h1 h2 hn
    by_cases hb:max a 0<(n:Int)
    · have H1:=zh (all_big (b:=m) HT1.out hb)
      by_cases hm0:a<0
      · have hb':(0:Int)<n:=by omega
        clear hb
        go_enter Tryz.func28,Tryz.ntmps28
        go_wp2_with fail
        refine(refTake_any _ _ (by omega)).mono ?_
        rw[HT2.out]
        rintro e w0 ⟨⟨R0,hR0,rfl⟩,hb0⟩
        dsimp only at hR0⊢
        have HR0:=zh hR0
        have HB0:=zh hb0
        clear hR0 hb0
        go_wp2
        go_ret2
        rw[H1.out]
        exact⟨tn_nil _ _ _,HB0.out⟩
      · have hb':a<(n:Int):=by omega
        clear hb
        go_enter Tryz.func28,Tryz.ntmps28
        go_wp2_with fail
        refine(refTake_any _ _ (by omega)).mono ?_
        rw[HT2.out]
        rintro e w0 ⟨⟨R0,hR0,rfl⟩,hb0⟩
        dsimp only at hR0⊢
        have HR0:=zh hR0
        have HB0:=zh hb0
        clear hR0 hb0
        go_wp2
        go_ret2
        rw[H1.out]
        exact⟨tn_nil _ _ _,HB0.out⟩
    · have H2:Hid ((n:Int)≤max a 0):=by show _≤_;omega
      have H1:=HT1
      have hn63:n≤9223372036854775807:=by omega
      obtain⟨i0,hi0,hz0,hz1,hz2⟩:=info_parts str_info
      by_cases hm0:a<0
      · have hb':(n:Int)≤0:=by omega
        clear hb
        go_enter Tryz.func28,Tryz.ntmps28
        go_wp2_with fail
        refine(refTake_any _ _ (by omega)).mono ?_
        rw[HT2.out]
        rintro e w0 ⟨⟨R0,hR0,rfl⟩,hb0⟩
        dsimp only at hR0⊢
        have HR0:=zh hR0
        have HB0:=zh hb0
        clear hR0 hb0
        go_wp2
        have hstart:Took w s.size n r m 0 R0 (.slice none 0 0) w0:=
          ⟨[],World.ownsRow_nil _ _ _ _,rfl,by rw[HR0.out];rfl,by rw[Lib.size_eq,HR0.out];omega,HB0.out⟩
        have HST:=zh hstart
        clear hstart
        go_loopw [9,11,12] (fun q v i wr=>∃(k:Nat) (R:ByteArray),k≤n∧q = .string R∧i = .int .u64 k∧Hid (Took w s.size n r m k R v wr)) (fun _ _ i _=>n-(intOf i).toNat)
        case atStart=>exact⟨0,R0,Nat.zero_le _,rfl,rfl,HST⟩
        case round=>
          obtain⟨k,R,hk,rfl,rfl,HT⟩:=hrel
          clear HST
          obtain⟨ys,ho,hyl,hte,hsz,hbel⟩:=HT.out
          have hRs:R.size≤140737488355328:=by omega
          have HO:=zh ho
          have HYL:=zh hyl
          have HTE:=zh hte
          have HBL:=zh hbel
          by_cases hlt:k<n
          · exact absurd hlt (by omega)
          · obtain rfl:k=n:=by omega
            rw[Nat.sub_self,texts_zero]at hte
            obtain⟨A,c,rfl⟩:=own_value ho
            by_cases hR:R.data.toList = []
            · have hal:all s.data.toList a m=(bl ys,0):=by
                rw[hR]at hte
                exact all_ok H1.out H2.out hte.symm
              have HAL:=zh hal
              have hem:R.toList.isEmpty=true:=by rw[Lib.toList_data,hR];rfl
              obtain⟨h6,_,h7⟩:=sreads_own ho
              have H6:=zh h6
              have h8:Tn w.heap.size (bl ys,0) (.returned (.tuple #[.slice A k c,.int .i64 0])) wr:=by
                subst hyl
                exact⟨A,c,ys,rfl,h7,h6,rfl,own_new ho⟩
              have H8:=zh h8
              clear ho hyl hte hbel hsz hR hal h6 h8
              go_wp2
              go_ret2
              rw[HAL.out]
              exact⟨H8.out,HBL.out⟩
            · have hal:all s.data.toList a m=([],2):=all_left H1.out H2.out hte.symm hR
              have HAL:=zh hal
              have hem:R.toList.isEmpty=false:=by
                rw[Lib.toList_data]
                cases h:R.data.toList with
                | nil=>exact absurd h hR
                | cons x t=>rfl
              clear ho hyl hte hbel hsz hR hal
              go_wp2
              go_ret2
              rw[HAL.out]
              exact⟨tn_nil _ _ _,HBL.out⟩
      · have hb':(n:Int)≤a:=by omega
        clear hb
        go_enter Tryz.func28,Tryz.ntmps28
        go_wp2_with fail
        refine(refTake_any _ _ (by omega)).mono ?_
        rw[HT2.out]
        rintro e w0 ⟨⟨R0,hR0,rfl⟩,hb0⟩
        dsimp only at hR0⊢
        have HR0:=zh hR0
        have HB0:=zh hb0
        clear hR0 hb0
        go_wp2
        have hstart:Took w s.size n r m 0 R0 (.slice none 0 0) w0:=
          ⟨[],World.ownsRow_nil _ _ _ _,rfl,by rw[HR0.out];rfl,by rw[Lib.size_eq,HR0.out];omega,HB0.out⟩
        have HST:=zh hstart
        clear hstart
        go_loopw [9,11,12] (fun q v i wr=>∃(k:Nat) (R:ByteArray),k≤n∧q = .string R∧i = .int .u64 k∧Hid (Took w s.size n r m k R v wr)) (fun _ _ i _=>n-(intOf i).toNat)
        case atStart=>exact⟨0,R0,Nat.zero_le _,rfl,rfl,HST⟩
        case round=>
          obtain⟨k,R,hk,rfl,rfl,HT⟩:=hrel
          clear HST
          obtain⟨ys,ho,hyl,hte,hsz,hbel⟩:=HT.out
          have hRs:R.size≤140737488355328:=by omega
          have HO:=zh ho
          have HYL:=zh hyl
          have HTE:=zh hte
          have HBL:=zh hbel
          by_cases hlt:k<n
          · obtain⟨t,q,f,htx⟩:∃t q f,text R.data.toList m=(t,q,f):=⟨_,_,_,rfl⟩
            have HTX:=zh htx
            obtain⟨j,hj⟩:∃j,n-k=j+1:=⟨n-k-1,by omega⟩
            rw[hj]at hte
            by_cases hf:f=0
            · subst hf
              have hlen:=text_len htx rfl
              rw[texts_yes htx]at hte
              rw[←Lib.size_eq]at hlen
              have HTE2:=zh hte
              have HJ:=zh hj
              have hks:k+1≤s.size:=by omega
              have hq:q.length+(k+1)≤s.size:=by omega
              clear ho hyl hte hbel htx hj hlen hsz
              go_wp2_with (first
                | (go_at_call 49;refine(refText_any _ _ _ hRs hm).mono ?_;rw[HTX.out];rintro e w5 ⟨⟨T,Q,hT,hQ,rfl⟩,hb5⟩;have HB5:=zh (HBL.out.trans (hb5.mono HBL.out.size));have HB5':=zh hb5;clear hb5;have HTT:=zh hT;have HQ:=zh hQ;clear hT hQ;dsimp only)
                | (at_builtin
                   refine wpList_append_own _ rfl _ _ _ rfl w.heap.size 9 i0 _ 1 16 Tryz.underlying22 hi0 hz0 hz1 hz2 rfl (by decide) _ k (sv ys) rfl ?c1 _ 1 1 [.string T] rfl rfl ?c2 ?c3 ?c4 ?c5 ?c6 ?_
                   case c1=>exact(own_below HO.out HB5'.out zl).alloc _
                   case c2=>exact lit_cells _ _ _
                   case c3=>exact sv_one [T]
                   case c4=>simp only[maxLen];omega
                   case c5=>omega
                   case c6=>
                     have h:=HB5.out.size
                     simp only[World.alloc,Array.size_push]
                     exact Nat.le_succ_of_le h
                   intro v6 w6 hown hgrow _
                   have HO6:=zh hown
                   have HG6:=zh hgrow
                   clear hown hgrow))
              go_roundw
              case rel=>
                refine⟨k+1,Q,by omega,rfl,by go_num,ys++[T],by simpa[sv]using HO6.out,by simp[HYL.out],?_,?_,?_⟩
                · have e:n-(k+1)=j:=by have:=HJ.out;omega
                  have e2:bl (ys++[T])=bl ys++[t]:=by simp[bl,HTT.out]
                  rw[e,HQ.out,e2]
                  exact HTE2.out
                · rw[Lib.size_eq,HQ.out];exact hq
                · have h1:=HB5.out
                  refine(h1.alloc h1.size (.cells #[.string T] 9)).grown HG6.out (by
                    have:=h1.size
                    simp only[World.alloc,Array.size_push]
                    omega) fun g hg=>?_
                  exact(HO.out.lt g hg).1
              case measure=>simp[intOf];omega
            · have hal:all s.data.toList a m=([],f):=by
                rw[texts_no htx hf]at hte
                exact all_err H1.out H2.out hte.symm hf
              have HAL:=zh hal
              have hne:(f != 0)=true:=by simpa using hf
              clear ho hyl hte hbel htx hj hsz hf hal
              go_wp2_with (go_at_call 49;refine(refText_any _ _ _ hRs hm).mono ?_;rw[HTX.out];rintro e w5 ⟨⟨T,Q,hT,hQ,rfl⟩,hb5⟩;have HB5:=zh (HBL.out.trans (hb5.mono HBL.out.size));have HB5':=zh hb5;clear hb5;clear hT hQ;dsimp only)
              go_ret2
              rw[HAL.out]
              exact⟨tn_nil _ _ _,HB5.out⟩
          · obtain rfl:k=n:=by omega
            rw[Nat.sub_self,texts_zero]at hte
            obtain⟨A,c,rfl⟩:=own_value ho
            by_cases hR:R.data.toList = []
            · have hal:all s.data.toList a m=(bl ys,0):=by
                rw[hR]at hte
                exact all_ok H1.out H2.out hte.symm
              have HAL:=zh hal
              have hem:R.toList.isEmpty=true:=by rw[Lib.toList_data,hR];rfl
              obtain⟨h6,_,h7⟩:=sreads_own ho
              have H6:=zh h6
              have h8:Tn w.heap.size (bl ys,0) (.returned (.tuple #[.slice A k c,.int .i64 0])) wr:=by
                subst hyl
                exact⟨A,c,ys,rfl,h7,h6,rfl,own_new ho⟩
              have H8:=zh h8
              clear ho hyl hte hbel hsz hR hal h6 h8
              go_wp2
              go_ret2
              rw[HAL.out]
              exact⟨H8.out,HBL.out⟩
            · have hal:all s.data.toList a m=([],2):=all_left H1.out H2.out hte.symm hR
              have HAL:=zh hal
              have hem:R.toList.isEmpty=false:=by
                rw[Lib.toList_data]
                cases h:R.data.toList with
                | nil=>exact absurd h hR
                | cons x t=>rfl
              clear ho hyl hte hbel hsz hR hal
              go_wp2
              go_ret2
              rw[HAL.out]
              exact⟨tn_nil _ _ _,HBL.out⟩
end Go.Proofs.YtmihiknebelkbaaGreat.Wire
