/-
  ORight. By an AI agent.
-/
import Derived.Test.YtmihiknebelkbaaGreatOZ
import Derived.Test.YtmihiknebelkbaaGreatOJ4
import Derived.Test.YtmihiknebelkbaaGreatOFRRight
import Derived.Test.YtmihiknebelkbaaGreatOFPut
import Derived.Test.YtmihiknebelkbaaGreatOT1
import Derived.Test.YtmihiknebelkbaaGreatOT2
set_option linter.unusedSimpArgs false
set_option linter.unusedVariables false
set_option maxHeartbeats 8000000
namespace Go.Proofs.YtmihiknebelkbaaGreat.Own
open Go Go.RowKit Wire Term Rig Mta Frm Usr
theorem row_facts {ps:List ByteArray} {N:Nat} (hz:∀y∈ps,y.size≤N) {j:Nat} (hj:j<ps.length):(ps.getD j ByteArray.empty).size≤N∧(ps.getD j ByteArray.empty).data.toList∈bl ps∧(bl ps).take (j+1)=(bl ps).take j++[(ps.getD j ByteArray.empty).data.toList]:=by
 have e:ps.getD j ByteArray.empty=ps[j]:=by rw[List.getD_eq_getElem?_getD,List.getElem?_eq_getElem hj];rfl
 refine⟨by rw[e];exact hz _ (List.getElem_mem hj),by rw[e];exact List.mem_map.2 ⟨ps[j],List.getElem_mem hj,rfl⟩,?_⟩;rw[List.take_add_one,show(bl ps)[j]? = some (ps.getD j ByteArray.empty).data.toList by simp[bl,List.getD,hj]];rfl
theorem kind_zero {t:Tm}:kind t≠0↔right t=true:=by
 constructor
 ·intro h
  cases hr:right t with
  | true=>rfl
  | false=>exact absurd (kind_wrong hr) h
 ·intro h e
  exact absurd e (kind_pos h)
set_option maxRecDepth 1000000 in
theorem oright_ref (v:Value) (e:Env) (w:World) (h:IsE w v e) (hf:FewE e):Calls Tryz.prog 16 #[v] w fun z w'=>z = .returned (.bool (decide (ER e)))∧Below w.heap.size w w':=by
 obtain⟨o,f,sig,ep,A,n,c,B,m,d,ver,V,k,cv,K,q,ck,O,R,G,P,cp,ps,rfl,hm,hs,hp,hpe⟩:=isE_lit h;obtain⟨f1,f2,f3,f4,f5,f6,f7,f8⟩:=hf;obtain⟨M,S,I,pf⟩:=e;simp only at hm hs hpe f1 f2 f3 f4 f5 f6 f7 f8⊢;subst hpe;have hnp:ps.length≤40:=by rw[←bl_len];exact f6
 have HM:=zh hm;have HS:=zh hs;have HP:=zh hp
 have HPZ:Hid (∀j<ps.length,(ps.getD j ByteArray.empty).size≤2000000∧(ps.getD j ByteArray.empty).data.toList∈bl ps∧(bl ps).take (j+1)=(bl ps).take j++[(ps.getD j ByteArray.empty).data.toList]):=zh fun j hj=>by
  have h1:(ps.getD j ByteArray.empty).data.toList∈bl ps:=by
   rw[List.getD_eq_getElem?_getD,List.getElem?_eq_getElem hj];exact List.mem_map.2 ⟨ps[j],List.getElem_mem hj,rfl⟩
  refine⟨by rw[Lib.size_eq];exact f7 _ h1,h1,?_⟩;rw[List.take_add_one,show(bl ps)[j]? = some (ps.getD j ByteArray.empty).data.toList by simp[bl,List.getD,hj]];rfl
 have HF1:=zh f1;have HER:Hid (ER ⟨M,S,I,bl ps⟩↔MR M∧Frs.SR S∧(0≤I∧I≤7)∧ps.length≤3∧∀t∈bl ps,right t=true):=zh (by unfold ER;rw[bl_len]);have HFS:=zh fun w=>Frs.rfright_is hs f2 (by omega) (by omega) w
 generalize hT:S.time=T at HFS⊢;generalize hY:S.many=Y at HFS⊢;clear hm hs hp f1 f2 f3 f4 f5 f6 f7 hT hY h;have HF:=zh (fm_refl w);go_enter Tryz.func16,Tryz.ntmps16;go_wp2_with fail;have hF:=HF.out.box #[.string o,.string f,.int .i64 ep,.slice A n c,.slice B m d,.int .u64 (ver:Int),.slice V k cv,.slice K q ck,.string sig,.string O,.int .u64 (T:Int),.int .i64 Y,.string R,.string G,.int .i64 I,.slice P ps.length cp] 40;obtain⟨ge,hg⟩:∃g,w.heap.size=g:=⟨_,rfl⟩
 rw[hg]at hF⊢;clear hg;generalize w.alloc (.cells #[.string o,.string f,.int .i64 ep,.slice A n c,.slice B m d,.int .u64 (ver:Int),.slice V k cv,.slice K q ck,.string sig,.string O,.int .u64 (T:Int),.int .i64 Y,.string R,.string G,.int .i64 I,.slice P ps.length cp] 40)=w1 at hF⊢;replace HF:=zh hF;clear hF;obtain⟨bm,hbm⟩:∃b,decide (MR M)=b:=⟨_,rfl⟩
 obtain⟨c0,c1,c2,c3,c4,c5,c6,c7,c8,c9,c10,c11,c12,c13,c14,c15,c16⟩:=bxn16 (HF.out.at 0 rfl);go_wp2_with fail;clear c0 c1 c2 c3 c4 c5 c6 c7 c8 c9 c10 c11 c12 c13 c14 c15 c16;with_reducible refine(mright_w _ _ _ (HM.out.below HF.out.bel zl) HF1.out).mono ?_
 rintro e w1 ⟨rfl,hb⟩;replace HF:=zh (HF.out.go hb);clear hb;try dsimp only
 rw[hbm];cases bm
 ·have HX:Hid (decide (ER ⟨M,S,I,bl ps⟩)=false):=zh (decide_eq_false fun hh=>of_decide_eq_false hbm (HER.out.1 hh).1)
  clear hbm;go_wp2_with fail;go_ret;exact⟨by rw[HX.out];rfl,HF.out.bel⟩
 ·have HBM:=zh (of_decide_eq_true hbm)
  clear hbm;obtain⟨bs,hbs⟩:∃b,decide (Frs.SR S)=b:=⟨_,rfl⟩
  obtain⟨c0,c1,c2,c3,c4,c5,c6,c7,c8,c9,c10,c11,c12,c13,c14,c15,c16⟩:=bxn16 (HF.out.at 0 rfl);go_wp2_with fail;clear c0 c1 c2 c3 c4 c5 c6 c7 c8 c9 c10 c11 c12 c13 c14 c15 c16;with_reducible refine(HFS.out _).mono ?_
  rintro e w1 ⟨rfl,hb⟩;replace HF:=zh (HF.out.go hb);clear hb;try dsimp only
  rw[hbs];cases bs
  ·have HX:Hid (decide (ER ⟨M,S,I,bl ps⟩)=false):=zh (decide_eq_false fun hh=>of_decide_eq_false hbs (HER.out.1 hh).2.1)
   clear hbs;go_wp2_with fail;go_ret;exact⟨by rw[HX.out];rfl,HF.out.bel⟩
  ·have HBS:=zh (of_decide_eq_true hbs)
   clear hbs;obtain⟨c0,c1,c2,c3,c4,c5,c6,c7,c8,c9,c10,c11,c12,c13,c14,c15,c16⟩:=bxn16 (HF.out.at 0 rfl);by_cases k1:I<0
   ·have HX:Hid (decide (ER ⟨M,S,I,bl ps⟩)=false):=zh (decide_eq_false fun hh=>absurd (HER.out.1 hh).2.2.1.1 (by omega))
    go_wp2_with fail;go_ret;exact⟨by rw[HX.out];rfl,HF.out.bel⟩
   by_cases k2:7<I
   ·have HX:Hid (decide (ER ⟨M,S,I,bl ps⟩)=false):=zh (decide_eq_false fun hh=>absurd (HER.out.1 hh).2.2.1.2 (by omega))
    go_wp2_with fail;go_ret;exact⟨by rw[HX.out];rfl,HF.out.bel⟩
   by_cases k3:(3:Int)<(ps.length:Int)
   ·have HX:Hid (decide (ER ⟨M,S,I,bl ps⟩)=false):=zh (decide_eq_false fun hh=>absurd (HER.out.1 hh).2.2.2.1 (by omega))
    go_wp2_with fail;go_ret;exact⟨by rw[HX.out];rfl,HF.out.bel⟩
   have hyes:∀hh:(∀t∈bl ps,right t=true),decide (ER ⟨M,S,I,bl ps⟩)=true:=fun hh=>decide_eq_true (HER.out.2 ⟨HBM.out,HBS.out,⟨by omega,by omega⟩,by omega,hh⟩)
   have HY:=zh hyes;clear hyes;go_wp2_with fail;clear c0 c1 c2 c3 c4 c5 c6 c7 c8 c9 c10 c11 c12 c13 c14 c15 c16;go_loopw [3] (fun vi wr=>∃j:Nat,j≤ps.length∧vi = .int .i64 (j:Int)∧Hid (∀t∈(bl ps).take j,right t=true)∧Hid (Fm w wr [box ge #[.string o,.string f,.int .i64 ep,.slice A n c,.slice B m d,.int .u64 (ver:Int),.slice V k cv,.slice K q ck,.string sig,.string O,.int .u64 (T:Int),.int .i64 Y,.string R,.string G,.int .i64 I,.slice P ps.length cp] 40])) (fun i _=>ps.length-(intOf i).toNat);case atStart=>exact⟨0,Nat.zero_le _,rfl,zh (fun t ht=>by cases ht),HF⟩
   case round=>
    obtain⟨j,hj,rfl,HA,HF⟩:=hrel;have hj0:(0:Int)≤(j:Int):=Int.natCast_nonneg j;obtain⟨c0,c1,c2,c3,c4,c5,c6,c7,c8,c9,c10,c11,c12,c13,c14,c15,c16⟩:=bxn16 (HF.out.at 0 rfl);by_cases hlt:(j:Int)<(ps.length:Int)
    ·obtain⟨z1,z2,z3⟩:=HPZ.out j (by omega)
     obtain⟨b,off,rfl,hbl,hcell⟩:=(HP.out.below HF.out.bel zl) j (by omega);generalize ps.getD j ByteArray.empty=Q at z1 z2 z3 hcell;have hRQ:=zh fun w=>Term.right_any Q w (by omega)
     obtain⟨bq,hbq⟩:∃b,right Q.data.toList=b:=⟨_,rfl⟩
     rw[hbq]at hRQ;have HZ:=zh (And.intro z2 z3);clear z1 z2 z3;go_wp2_with fail;clear c0 c1 c2 c3 c4 c5 c6 c7 c8 c9 c10 c11 c12 c13 c14 c15 c16;clear hcell hbl;with_reducible refine(hRQ.out _).mono ?_
     rintro e w1 ⟨rfl,hb⟩;replace HF:=zh (HF.out.go hb);clear hb;try dsimp only
     cases bq
     ·have HX:Hid (decide (ER ⟨M,S,I,bl ps⟩)=false):=zh (decide_eq_false fun hh=>by have:=(HER.out.1 hh).2.2.2.2 _ HZ.out.1;rw[hbq]at this;cases this)
      clear hbq;go_wp2_with fail;go_ret;exact⟨by rw[HX.out];rfl,HF.out.bel⟩
     ·have HBQ:=zh hbq
      clear hbq;go_wp2_with fail;go_roundw
      case rel=>exact⟨j+1,by omega,by go_num,zh (by
       intro t ht;rw[HZ.out.2]at ht;rcases List.mem_append.1 ht with ht|ht
       ·exact HA.out t ht
       ·rw[List.mem_singleton.1 ht];exact HBQ.out),HF⟩
      case measure=>simp[intOf];omega
    have HX:=zh (HY.out (by have h:=HA.out;rw[List.take_of_length_le (by rw[bl_len];omega)]at h;exact h));go_wp2_with fail;go_ret;exact⟨by rw[HX.out];rfl,HF.out.bel⟩
set_option maxRecDepth 1000000 in
theorem isproof_any (P:Option Addr) (cp:Nat) (ps:List ByteArray) (w:World) (hp:SReads w P ps) (hz:∀y∈ps,y.size≤2000000) (hnp:ps.length≤40):Calls Tryz.prog 34 #[.slice P ps.length cp] w fun z w'=>z = .returned (.bool (decide (ps.length≤3∧∀t∈bl ps,right t=true)))∧Below w.heap.size w w':=by
 have HP:=zh hp;have HPZ:Hid (∀j<ps.length,(ps.getD j ByteArray.empty).size≤2000000∧(ps.getD j ByteArray.empty).data.toList∈bl ps∧(bl ps).take (j+1)=(bl ps).take j++[(ps.getD j ByteArray.empty).data.toList]):=zh fun j hj=>row_facts hz hj
 obtain⟨X,hX⟩:∃X,decide (ps.length≤3∧∀t∈bl ps,right t=true)=X:=⟨_,rfl⟩
 rw[hX];have HNO:Hid (¬(ps.length≤3∧∀t∈bl ps,right t=true)→X=false):=zh fun h=>by rw[←hX];exact decide_eq_false h
 have HYES:Hid ((ps.length≤3∧∀t∈bl ps,right t=true)→X=true):=zh fun h=>by rw[←hX];exact decide_eq_true h
 clear hX hp hz;have HF:=zh (fm_refl w);go_enter Tryz.func34,Tryz.ntmps34;by_cases k3:(3:Int)<(ps.length:Int)
 ·obtain rfl:=HNO.out (fun h=>absurd h.1 (by omega))
  go_wp2_with fail;go_ret;exact⟨rfl,HF.out.bel⟩
 ·go_wp2_with fail
  go_loopw [10] (fun vi wr=>∃j:Nat,j≤ps.length∧vi = .int .i64 (j:Int)∧Hid (∀t∈(bl ps).take j,right t=true)∧Hid (Fm w wr [])) (fun i _=>ps.length-(intOf i).toNat);case atStart=>exact⟨0,Nat.zero_le _,rfl,zh (fun t ht=>by cases ht),HF⟩
  case round=>
   obtain⟨j,hj,rfl,HA,HF⟩:=hrel;have hj0:(0:Int)≤(j:Int):=Int.natCast_nonneg j;by_cases hlt:(j:Int)<(ps.length:Int)
   ·obtain⟨z1,z2,z3⟩:=HPZ.out j (by omega)
    obtain⟨b,off,rfl,hbl,hcell⟩:=(HP.out.below HF.out.bel zl) j (by omega);generalize ps.getD j ByteArray.empty=Q at z1 z2 z3 hcell;have hRQ:=zh fun w=>t_Kind Q w (by omega)
    obtain⟨bq,hbq⟩:∃b,kind Q.data.toList=b:=⟨_,rfl⟩
    rw[hbq]at hRQ;have HZ:=zh (And.intro z2 z3);clear z1 z2 z3;go_wp2_with fail;clear hcell hbl;with_reducible refine(hRQ.out _).mono ?_
    rintro e w1 ⟨rfl,hb⟩;replace HF:=zh (HF.out.go hb);clear hb;try dsimp only
    by_cases k0:bq=0
    ·subst k0
     obtain rfl:=HNO.out (fun h=>by have:=h.2 _ HZ.out.1;rw[←kind_zero]at this;exact this hbq);clear hbq;go_wp2_with fail;go_ret;exact⟨rfl,HF.out.bel⟩
    ·have HBQ:Hid (right Q.data.toList=true):=zh (kind_zero.1 (by rw[hbq];exact k0))
     have hb0:((bq:Int)==0)=false:=by rw[beq_eq_false_iff_ne];omega
     clear hbq;go_wp2_with fail;go_roundw
     case rel=>exact⟨j+1,by omega,by go_num,zh (by
      intro t ht;rw[HZ.out.2]at ht;rcases List.mem_append.1 ht with ht|ht
      ·exact HA.out t ht
      ·rw[List.mem_singleton.1 ht];exact HBQ.out),HF⟩
     case measure=>simp[intOf];omega
   obtain rfl:=HYES.out ⟨by omega,by have h:=HA.out;rw[List.take_of_length_le (by rw[bl_len];omega)]at h;exact h⟩;go_wp2_with fail;go_ret;exact⟨rfl,HF.out.bel⟩
set_option maxRecDepth 1000000 in
theorem oright_code (v:Value) (e:Env) (w:World) (h:IsE w v e) (hf:FewE e):Calls Tryz.prog 15 #[v] w fun z w'=>z = .returned (.bool (decide (ER e)))∧Below w.heap.size w w':=by
 obtain⟨o,f,sig,ep,A,n,c,B,m,d,ver,V,k,cv,K,q,ck,O,R,G,P,cp,ps,rfl,hm,hs,hp,hpe⟩:=isE_lit h;obtain⟨f1,f2,f3,f4,f5,f6,f7,f8⟩:=hf;obtain⟨M,S,I,pf⟩:=e;simp only at hm hs hpe f1 f2 f3 f4 f5 f6 f7 f8⊢;subst hpe;have hnp:ps.length≤40:=by rw[←bl_len];exact f6
 have HM:=zh hm;have HS:=zh hs;have HP:=zh hp
 have HPZ:Hid (∀j<ps.length,(ps.getD j ByteArray.empty).size≤2000000∧(ps.getD j ByteArray.empty).data.toList∈bl ps∧(bl ps).take (j+1)=(bl ps).take j++[(ps.getD j ByteArray.empty).data.toList]):=zh fun j hj=>by
  have h1:(ps.getD j ByteArray.empty).data.toList∈bl ps:=by
   rw[List.getD_eq_getElem?_getD,List.getElem?_eq_getElem hj];exact List.mem_map.2 ⟨ps[j],List.getElem_mem hj,rfl⟩
  refine⟨by rw[Lib.size_eq];exact f7 _ h1,h1,?_⟩;rw[List.take_add_one,show(bl ps)[j]? = some (ps.getD j ByteArray.empty).data.toList by simp[bl,List.getD,hj]];rfl
 have HF1:=zh f1;have HER:Hid (ER ⟨M,S,I,bl ps⟩↔MR M∧Frs.SR S∧(0≤I∧I≤7)∧ps.length≤3∧∀t∈bl ps,right t=true):=zh (by unfold ER;rw[bl_len]);have HFS:=zh fun w=>Frs.fright_is hs (by omega) (by omega) (by omega) w
 have HIP:=zh fun w h=>isproof_any P cp ps w h (fun y hy=>by rw[Lib.size_eq];exact f7 _ (List.mem_map.2 ⟨y,hy,rfl⟩)) hnp
 generalize hT:S.time=T at HFS⊢;generalize hY:S.many=Y at HFS⊢;clear hm hs hp f1 f2 f3 f4 f5 f6 f7 hT hY h HPZ;have HF:=zh (fm_refl w);by_cases k1:0≤I
 case neg=>
  have HX:Hid (decide (ER ⟨M,S,I,bl ps⟩)=false):=zh (decide_eq_false fun hh=>absurd (HER.out.1 hh).2.2.1.1 k1);go_enter Tryz.func15,Tryz.ntmps15;go_wp2_with fail;go_ret;exact⟨by rw[HX.out];rfl,(HF.out.box _ _).bel⟩
 case pos=>
  by_cases k2:I<8
  case neg=>
   have HX:Hid (decide (ER ⟨M,S,I,bl ps⟩)=false):=zh (decide_eq_false fun hh=>absurd (HER.out.1 hh).2.2.1.2 (by omega));go_enter Tryz.func15,Tryz.ntmps15;go_wp2_with fail;go_ret;exact⟨by rw[HX.out];rfl,(HF.out.box _ _).bel⟩
  case pos=>
   obtain⟨bp,hbp⟩:∃b,decide (ps.length≤3∧∀t∈bl ps,right t=true)=b:=⟨_,rfl⟩
   go_enter Tryz.func15,Tryz.ntmps15;go_wp2_with fail;have hF:=HF.out.box #[.string o,.string f,.int .i64 ep,.slice A n c,.slice B m d,.int .u64 (ver:Int),.slice V k cv,.slice K q ck,.string sig,.string O,.int .u64 (T:Int),.int .i64 Y,.string R,.string G,.int .i64 I,.slice P ps.length cp] 32;obtain⟨ge,hg⟩:∃g,w.heap.size=g:=⟨_,rfl⟩
   rw[hg]at hF⊢;clear hg;generalize w.alloc (.cells #[.string o,.string f,.int .i64 ep,.slice A n c,.slice B m d,.int .u64 (ver:Int),.slice V k cv,.slice K q ck,.string sig,.string O,.int .u64 (T:Int),.int .i64 Y,.string R,.string G,.int .i64 I,.slice P ps.length cp] 32)=w1 at hF⊢;replace HF:=zh hF;clear hF;with_reducible refine(HIP.out _ (HP.out.below HF.out.bel zl)).mono ?_
   rintro e w1 ⟨rfl,hb⟩;replace HF:=zh (HF.out.go hb);clear hb;try dsimp only
   rw[hbp];cases bp
   ·have HX:Hid (decide (ER ⟨M,S,I,bl ps⟩)=false):=zh (decide_eq_false fun hh=>of_decide_eq_false hbp (HER.out.1 hh).2.2.2)
    clear hbp;go_wp2_with fail;go_ret;exact⟨by rw[HX.out];rfl,HF.out.bel⟩
   ·have HBP:=zh (of_decide_eq_true hbp)
    clear hbp;obtain⟨bs,hbs⟩:∃b,decide (Frs.SR S)=b:=⟨_,rfl⟩
    obtain⟨c0,c1,c2,c3,c4,c5,c6,c7,c8,c9,c10,c11,c12,c13,c14,c15,c16⟩:=bxn16 (HF.out.at 0 rfl);go_wp2_with fail;clear c0 c1 c2 c3 c4 c5 c6 c7 c8 c9 c10 c11 c12 c13 c14 c15 c16;with_reducible refine(HFS.out _).mono ?_
    rintro e w1 ⟨rfl,hb⟩;replace HF:=zh (HF.out.go hb);clear hb;try dsimp only
    rw[hbs];cases bs
    ·have HX:Hid (decide (ER ⟨M,S,I,bl ps⟩)=false):=zh (decide_eq_false fun hh=>of_decide_eq_false hbs (HER.out.1 hh).2.1)
     clear hbs;go_wp2_with fail;go_ret;exact⟨by rw[HX.out];rfl,HF.out.bel⟩
    ·have HBS:=zh (of_decide_eq_true hbs)
     clear hbs;obtain⟨c0,c1,c2,c3,c4,c5,c6,c7,c8,c9,c10,c11,c12,c13,c14,c15,c16⟩:=bxn16 (HF.out.at 0 rfl);go_wp2_with fail;clear c0 c1 c2 c3 c4 c5 c6 c7 c8 c9 c10 c11 c12 c13 c14 c15 c16;have hX:decide (ER ⟨M,S,I,bl ps⟩)=decide (MR M):=decide_eq_decide.2 ⟨fun h=>(HER.out.1 h).1,fun h=>HER.out.2 ⟨h,HBS.out,⟨k1,by omega⟩,HBP.out⟩⟩;have HX:=zh hX;clear hX;with_reducible refine(cright_w _ _ _ (HM.out.below HF.out.bel zl) HF1.out).mono ?_
     rintro e w1 ⟨rfl,hb⟩;replace HF:=zh (HF.out.go hb);clear hb;try dsimp only
     go_wp2_with fail;go_ret;exact⟨by rw[HX.out];rfl,HF.out.bel⟩
end Go.Proofs.YtmihiknebelkbaaGreat.Own
