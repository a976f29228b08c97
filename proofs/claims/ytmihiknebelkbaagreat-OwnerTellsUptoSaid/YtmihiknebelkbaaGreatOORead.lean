/-
  ORead. By an AI agent.
-/
import Derived.Test.YtmihiknebelkbaaGreatOZ
import Derived.Test.YtmihiknebelkbaaGreatOOPureC
import Derived.Test.YtmihiknebelkbaaGreatOFRead
import Derived.Test.YtmihiknebelkbaaGreatOWTakeAllN
import Derived.Test.YtmihiknebelkbaaGreatOC1
set_option linter.unusedSimpArgs false
set_option linter.unusedVariables false
set_option maxHeartbeats 16000000
namespace Go.Proofs.YtmihiknebelkbaaGreat.Own
open Go Go.RowKit Wire Term Rig Mta Frm Usr
theorem readC_none {s:Tm} {l:List Tm} {e:Int} (h:all s 4 (s.length:Int)=(l,e)) (hw:e≠0∨l.length≠4):readC s=none:=by
 unfold readC;rw[h];exact if_pos hw
theorem readC_is {s a0 a1 a2 a3:Tm} {M:Mt} {e3 e4 e5 e6:Int} {S:Frs.Sp} {n:Nat} {rest:Tm} {pf:List Tm} (h1:all s 4 (s.length:Int)=([a0,a1,a2,a3],0)) (h3:takeM a0=(M,e3)) (h4:Frs.takeS a1=(S,e4)) (h5:tk a2=(n,rest,e5)) (h6:all a3 3 (a3.length:Int)=(pf,e6)):
 ((e3≠0∨e4≠0∨e5≠0∨rest≠[]∨e6≠0)→readC s=none)∧(e3=0→e4=0→e5=0→rest = []→e6=0→readC s=some ⟨M,S,IntKind.i64.wrap (n:Int),pf⟩):=by
 have hr:readC s=if e3≠0 then none else if e4≠0 then none else if e5≠0∨rest≠[]then none else if e6≠0 then none else some ⟨M,S,IntKind.i64.wrap (n:Int),pf⟩:=by
  unfold readC;rw[h1];simp only[List.getD_cons_zero,List.getD_cons_succ];rw[h3,h4,h5,h6];exact if_neg (by rintro(h|h);exact h rfl;exact h rfl)
 rw[hr];refine⟨fun hw=>?_,fun k1 k2 k3 k4 k5=>?_⟩
 ·by_cases k1:e3≠0
  ·exact if_pos k1
  rw[if_neg k1];by_cases k2:e4≠0
  ·exact if_pos k2
  rw[if_neg k2];by_cases k3:e5≠0∨rest≠[]
  ·exact if_pos k3
  rw[if_neg k3];refine if_pos ?_;rcases hw with k|k|k|k|k
  ·exact absurd k k1
  ·exact absurd k k2
  ·exact absurd (.inl k) k3
  ·exact absurd (.inr k) k3
  ·exact k
 ·rw[if_neg (fun h=>h k1),if_neg (fun h=>h k2),if_neg (fun h=>h.elim (fun h=>h k3) fun h=>h k4),if_neg (fun h=>h k5)]
set_option maxRecDepth 1000000 in
theorem upto_any (s:ByteArray) (k:Int) (w:World) (hs:s.size≤1000000) (hk:0≤k∧k≤100):Calls Tryz.prog 45 #[.string s,.int .i64 k] w fun e w'=>Tn w.heap.size (all s.data.toList k (s.size:Int)) e w'∧Below w.heap.size w w':=by
 have HT:=zh fun w=>takeAll_new s k (s.size:Int) w (by omega) (by omega) (by omega)
 have HF:=zh (fm_refl w);go_enter Tryz.func45,Tryz.ntmps45;go_wp2_with fail;with_reducible refine(HT.out _).mono ?_
 rintro e w1 ⟨⟨A,c,ys,hy,hc,hr,rfl,hn⟩,hb⟩;have HR:Hid (Tn w.heap.size (all s.data.toList k (s.size:Int)) (.returned (.tuple #[.slice A ys.length c,.int .i64 (all s.data.toList k (s.size:Int)).2])) w1):=zh ⟨A,c,ys,hy,hc,hr,rfl,hn⟩;have HB:=zh hb;clear hy hc hr hn hb;dsimp only;go_wp2_with fail;go_ret2;exact⟨HR.out,HB.out⟩
set_option maxRecDepth 1000000 in
theorem oread_any (s:ByteArray) (w:World) (hs:s.size≤1000000):Calls Tryz.prog 27 #[.string s] w fun e w'=>(∃v,IsEn w.heap.size w' v ((readC s.data.toList).getD ezero)∧e = .returned (.tuple #[v,.bool (readC s.data.toList).isSome]))∧Below w.heap.size w w':=by
 have hss:s.data.toList.length≤1000000:=by rw[←Lib.size_eq];exact hs
 have HT1:=zh fun w=>upto_any s 4 w (by omega) (by decide)
 rw[show(s.size:Int)=(s.data.toList.length:Int)by rw[Lib.size_eq]]at HT1;obtain⟨l,e1,h1⟩:∃l e,all s.data.toList 4 (s.data.toList.length:Int)=(l,e):=⟨_,_,rfl⟩
 have hl1:=(Rig.all_few h1).2;rw[h1]at HT1;obtain⟨X,hX⟩:∃X,readC s.data.toList=X:=⟨_,rfl⟩
 rw[hX];have hno:=fun hw=>hX.symm.trans (readC_none h1 hw)
 clear hs;have HF:=zh (fm_refl w);go_enter Tryz.func27,Tryz.ntmps27;go_wp2_with fail;have hF:=HF.out.box #[.string ⟨#[]⟩,.string ⟨#[]⟩,.int .i64 0,.slice none 0 0,.slice none 0 0,.int .u64 0,.slice none 0 0,.slice none 0 0,.string ⟨#[]⟩,.string ⟨#[]⟩,.int .u64 0,.int .i64 0,.string ⟨#[]⟩,.string ⟨#[]⟩,.int .i64 0,.slice none 0 0] 32;obtain⟨gz,hg⟩:∃g,w.heap.size=g:=⟨_,rfl⟩
 rw[hg]at hF⊢;clear hg;generalize w.alloc (.cells #[.string ⟨#[]⟩,.string ⟨#[]⟩,.int .i64 0,.slice none 0 0,.slice none 0 0,.int .u64 0,.slice none 0 0,.slice none 0 0,.string ⟨#[]⟩,.string ⟨#[]⟩,.int .u64 0,.int .i64 0,.string ⟨#[]⟩,.string ⟨#[]⟩,.int .i64 0,.slice none 0 0] 32)=w1 at hF⊢;replace HF:=zh hF;clear hF;with_reducible refine(HT1.out _).mono ?_
 rintro e w1 hT;obtain⟨Al,cl,ysl,hyl,hcl,hF,rfl⟩:=tn_fm HF.out hT;replace HF:=zh hF;clear hF hT;dsimp only at hyl⊢;have hzl:ysl.length=l.length:=by rw[←hyl,bl_len]
 by_cases c1:e1≠0∨l.length≠4
 ·have HX:=zh (hno c1)
  clear hno;by_cases he:e1=0
  case' pos=>
   subst he
   have hb1:((ysl.length:Int) != 4)=true:=by
    have:l.length≠4:=by rcases c1 with h|h;exact absurd rfl h;exact h
    simp[bne];omega
   have hb2:((ysl.length:Int)==4)=false:=by simpa[bne]using hb1
  case' neg=>
   have hb1:(e1==0)=false:=by simpa using he
   have hb2:(e1 != 0)=true:=by simpa using he
  all_goals
   clear c1 hX;have hZ:=HF.out.at 1 rfl;go_wp2_with (refine wpList_store_row (by rfl) _ _ _ (by rfl) gz #[.string ⟨#[]⟩,.string ⟨#[]⟩,.int .i64 0,.slice none 0 0,.slice none 0 0,.int .u64 0,.slice none 0 0,.slice none 0 0,.string ⟨#[]⟩,.string ⟨#[]⟩,.int .u64 0,.int .i64 0,.string ⟨#[]⟩,.string ⟨#[]⟩,.int .i64 0,.slice none 0 0] (by rfl) (by rfl) _ _ hZ (by kernel_rfl) (by rfl) (by kernel_rfl) ?_);clear hZ;have hF:=fm_row HF.out 1 rfl #[.string ⟨#[]⟩,.string ⟨#[]⟩,.int .i64 0,.slice none 0 0,.slice none 0 0,.int .u64 0,.slice none 0 0,.slice none 0 0,.string ⟨#[]⟩,.string ⟨#[]⟩,.int .u64 0,.int .i64 0,.string ⟨#[]⟩,.string ⟨#[]⟩,.int .i64 0,.slice none 0 0];simp only[List.set_cons_zero,List.set_cons_succ]at hF;generalize w1.setRow gz #[.string ⟨#[]⟩,.string ⟨#[]⟩,.int .i64 0,.slice none 0 0,.slice none 0 0,.int .u64 0,.slice none 0 0,.slice none 0 0,.string ⟨#[]⟩,.string ⟨#[]⟩,.int .u64 0,.int .i64 0,.string ⟨#[]⟩,.string ⟨#[]⟩,.int .i64 0,.slice none 0 0]=w2 at hF⊢;replace HF:=zh hF;clear hF;generalize w2=w1 at HF⊢;have hh:=HF.out.at 1 rfl;refine bodyPost_ret (results_row_tmp (g:=gz) rfl _ _ _ _ _ _ rfl hh Tryz.underlying32 rfl (by kernel_rfl)) rfl ?_;exact⟨⟨_,by rw[HX.out];exact isEn_zero _ w1,by rw[HX.out];rfl⟩,HF.out.bel⟩
 clear hno;obtain⟨rfl,h2⟩:e1=0∧l.length=4:=⟨Decidable.not_not.1 fun h=>c1 (.inl h),Decidable.not_not.1 fun h=>c1 (.inr h)⟩
 clear c1
 obtain⟨a0,a1,a2,a3,rfl⟩:∃a0 a1 a2 a3,l = [a0,a1,a2,a3]:=by
  match l,h2 with
  | [a0,a1,a2,a3],_=>exact⟨a0,a1,a2,a3,rfl⟩
 obtain⟨b2,o2,P0,P1,P2,P3,rfl,_,rfl,hP0,hP1,hP2,hP3⟩:=four_read (HF.out.at 0 rfl) hyl;have hz0:=hl1 a0 (by simp);have hz1:=hl1 a1 (by simp);have hz2:=hl1 a2 (by simp);have hz3:=hl1 a3 (by simp);have HT3:=zh fun w=>ctake_new P0 w (by rw[Lib.size_eq,hP0];omega)
 have HT4:=zh fun w=>Frs.ftake_any P1 w (by rw[Lib.size_eq,hP1];omega)
 have HT5:=zh fun w=>takeB_any P2 w (by rw[Lib.size_eq,hP2];omega)
 have HT6:=zh fun w=>upto_any P3 3 w (by rw[Lib.size_eq,hP3];omega) (by decide)
 rw[show(P3.size:Int)=(a3.length:Int)by rw[Lib.size_eq,hP3]]at HT6;rw[hP0]at HT3;rw[hP1]at HT4;rw[hP2]at HT5;rw[hP3]at HT6;obtain⟨M,e3,h3⟩:∃r e,takeM a0=(r,e):=⟨_,_,rfl⟩
 obtain⟨S,e4,h4⟩:∃r e,Frs.takeS a1=(r,e):=⟨_,_,rfl⟩
 obtain⟨n,rest,e5,h5⟩:∃n q e,tk a2=(n,q,e):=⟨_,_,_,rfl⟩
 obtain⟨pf,e6,h6⟩:∃l e,all a3 3 (a3.length:Int)=(l,e):=⟨_,_,rfl⟩
 obtain⟨HXB,HXG⟩:=readC_is h1 h3 h4 h5 h6;rw[hX]at HXB HXG;have HXB:=zh HXB;have HXG:=zh HXG;rw[h3]at HT3;rw[h4]at HT4;rw[h5]at HT5;rw[h6]at HT6;have hn:=tk_small h5;clear h1 h2 h3 h4 h5 h6 hP0 hP1 hP2 hP3 hz0 hz1 hz2 hz3 hl1 hX hyl hzl hss;have hcp4:([P0,P1,P2,P3]:List ByteArray).length=4:=rfl;rw[hcp4]at hcl⊢;clear hcp4;obtain⟨q0,q1,q2,q3,q4⟩:=four_cells (HF.out.at 0 rfl);go_wp2_with fail;clear q0 q1 q2 q3 q4;with_reducible refine(HT3.out _).mono ?_
 rintro e w1 hT;obtain⟨o,f,sig,ep,A,na,c,B,m,d,ver,V,k,cv,K,q,ck,hF,rfl⟩:=me_fm HF.out hT;replace HF:=zh hF;clear hF hT;dsimp only;by_cases k0:e3=0
 case neg=>
  have HX:=zh (HXB.out (.inl k0));have hb1:(e3==0)=false:=by simpa using k0
  have hb2:(e3 != 0)=true:=by simpa using k0
  clear k0;have hZ:=(HF.out.box #[.string o,.string f,.int .i64 ep,.slice A na c,.slice B m d,.int .u64 (ver:Int),.slice V k cv,.slice K q ck,.string sig] 28).at 3 rfl;go_wp2_with (refine wpList_store_row (by rfl) _ _ _ (by rfl) gz #[.string ⟨#[]⟩,.string ⟨#[]⟩,.int .i64 0,.slice none 0 0,.slice none 0 0,.int .u64 0,.slice none 0 0,.slice none 0 0,.string ⟨#[]⟩,.string ⟨#[]⟩,.int .u64 0,.int .i64 0,.string ⟨#[]⟩,.string ⟨#[]⟩,.int .i64 0,.slice none 0 0] (by rfl) (by rfl) _ _ hZ (by kernel_rfl) (by rfl) (by kernel_rfl) ?_);clear hZ;have hF:=fm_row (HF.out.box #[.string o,.string f,.int .i64 ep,.slice A na c,.slice B m d,.int .u64 (ver:Int),.slice V k cv,.slice K q ck,.string sig] 28) 3 rfl #[.string ⟨#[]⟩,.string ⟨#[]⟩,.int .i64 0,.slice none 0 0,.slice none 0 0,.int .u64 0,.slice none 0 0,.slice none 0 0,.string ⟨#[]⟩,.string ⟨#[]⟩,.int .u64 0,.int .i64 0,.string ⟨#[]⟩,.string ⟨#[]⟩,.int .i64 0,.slice none 0 0];simp only[List.set_cons_zero,List.set_cons_succ]at hF;generalize (w1.alloc (.cells #[.string o,.string f,.int .i64 ep,.slice A na c,.slice B m d,.int .u64 (ver:Int),.slice V k cv,.slice K q ck,.string sig] 28)).setRow gz #[.string ⟨#[]⟩,.string ⟨#[]⟩,.int .i64 0,.slice none 0 0,.slice none 0 0,.int .u64 0,.slice none 0 0,.slice none 0 0,.string ⟨#[]⟩,.string ⟨#[]⟩,.int .u64 0,.int .i64 0,.string ⟨#[]⟩,.string ⟨#[]⟩,.int .i64 0,.slice none 0 0]=w2 at hF⊢;replace HF:=zh hF;clear hF;generalize w2=w1 at HF⊢;have hh:=HF.out.at 3 rfl;refine bodyPost_ret (results_row_tmp (g:=gz) rfl _ _ _ _ _ _ rfl hh Tryz.underlying32 rfl (by kernel_rfl)) rfl ?_;exact⟨⟨_,by rw[HX.out];exact isEn_zero _ w1,by rw[HX.out];rfl⟩,HF.out.bel⟩
 subst k0;obtain⟨q0,q1,q2,q3,q4⟩:=four_cells (HF.out.at 1 rfl);go_wp2_with fail;clear q0 q1 q2 q3 q4;have hF:=HF.out.box #[.string o,.string f,.int .i64 ep,.slice A na c,.slice B m d,.int .u64 (ver:Int),.slice V k cv,.slice K q ck,.string sig] 28;obtain⟨gm,hg⟩:∃g,w1.heap.size=g:=⟨_,rfl⟩
 rw[hg]at hF⊢;clear hg;generalize w1.alloc (.cells #[.string o,.string f,.int .i64 ep,.slice A na c,.slice B m d,.int .u64 (ver:Int),.slice V k cv,.slice K q ck,.string sig] 28)=w1 at hF⊢;replace HF:=zh hF;clear hF;with_reducible refine(HT4.out _).mono ?_
 rintro e w1 ⟨hT,hb⟩;obtain⟨O,R,G,hO,hR,hG,rfl⟩:=Frs.ss_open hT;replace HF:=zh (HF.out.go hb);have HS:=zh (And.intro hO (And.intro hR hG));clear hb hT hO hR hG;dsimp only;by_cases k0:e4=0
 case neg=>
  have HX:=zh (HXB.out (.inr (.inl k0)));have hb1:(e4==0)=false:=by simpa using k0
  have hb2:(e4 != 0)=true:=by simpa using k0
  clear k0;have hZ:=(HF.out.box #[.string O,.int .u64 (S.time:Int),.int .i64 S.many,.string R,.string G] 30).at 4 rfl;go_wp2_with (refine wpList_store_row (by rfl) _ _ _ (by rfl) gz #[.string ⟨#[]⟩,.string ⟨#[]⟩,.int .i64 0,.slice none 0 0,.slice none 0 0,.int .u64 0,.slice none 0 0,.slice none 0 0,.string ⟨#[]⟩,.string ⟨#[]⟩,.int .u64 0,.int .i64 0,.string ⟨#[]⟩,.string ⟨#[]⟩,.int .i64 0,.slice none 0 0] (by rfl) (by rfl) _ _ hZ (by kernel_rfl) (by rfl) (by kernel_rfl) ?_);clear hZ;have hF:=fm_row (HF.out.box #[.string O,.int .u64 (S.time:Int),.int .i64 S.many,.string R,.string G] 30) 4 rfl #[.string ⟨#[]⟩,.string ⟨#[]⟩,.int .i64 0,.slice none 0 0,.slice none 0 0,.int .u64 0,.slice none 0 0,.slice none 0 0,.string ⟨#[]⟩,.string ⟨#[]⟩,.int .u64 0,.int .i64 0,.string ⟨#[]⟩,.string ⟨#[]⟩,.int .i64 0,.slice none 0 0];simp only[List.set_cons_zero,List.set_cons_succ]at hF;generalize (w1.alloc (.cells #[.string O,.int .u64 (S.time:Int),.int .i64 S.many,.string R,.string G] 30)).setRow gz #[.string ⟨#[]⟩,.string ⟨#[]⟩,.int .i64 0,.slice none 0 0,.slice none 0 0,.int .u64 0,.slice none 0 0,.slice none 0 0,.string ⟨#[]⟩,.string ⟨#[]⟩,.int .u64 0,.int .i64 0,.string ⟨#[]⟩,.string ⟨#[]⟩,.int .i64 0,.slice none 0 0]=w2 at hF⊢;replace HF:=zh hF;clear hF;generalize w2=w1 at HF⊢;have hh:=HF.out.at 4 rfl;refine bodyPost_ret (results_row_tmp (g:=gz) rfl _ _ _ _ _ _ rfl hh Tryz.underlying32 rfl (by kernel_rfl)) rfl ?_;exact⟨⟨_,by rw[HX.out];exact isEn_zero _ w1,by rw[HX.out];rfl⟩,HF.out.bel⟩
 subst k0;obtain⟨q0,q1,q2,q3,q4⟩:=four_cells (HF.out.at 2 rfl);go_wp2_with fail;clear q0 q1 q2 q3 q4;have hF:=HF.out.box #[.string O,.int .u64 (S.time:Int),.int .i64 S.many,.string R,.string G] 30;obtain⟨gs,hg⟩:∃g,w1.heap.size=g:=⟨_,rfl⟩
 rw[hg]at hF⊢;clear hg;generalize w1.alloc (.cells #[.string O,.int .u64 (S.time:Int),.int .i64 S.many,.string R,.string G] 30)=w1 at hF⊢;replace HF:=zh hF;clear hF;with_reducible refine(HT5.out _).mono ?_
 rintro e w1 ⟨⟨Q,hQ,rfl⟩,hb⟩;replace HF:=zh (HF.out.go hb);have HQ:=zh hQ;clear hb hQ;dsimp only;by_cases k0:e5=0
 case neg=>
  have HX:=zh (HXB.out (.inr (.inr (.inl k0))));have hb1:(e5==0)=false:=by simpa using k0
  have hb2:(e5 != 0)=true:=by simpa using k0
  clear k0;have hZ:=HF.out.at 4 rfl;go_wp2_with (refine wpList_store_row (by rfl) _ _ _ (by rfl) gz #[.string ⟨#[]⟩,.string ⟨#[]⟩,.int .i64 0,.slice none 0 0,.slice none 0 0,.int .u64 0,.slice none 0 0,.slice none 0 0,.string ⟨#[]⟩,.string ⟨#[]⟩,.int .u64 0,.int .i64 0,.string ⟨#[]⟩,.string ⟨#[]⟩,.int .i64 0,.slice none 0 0] (by rfl) (by rfl) _ _ hZ (by kernel_rfl) (by rfl) (by kernel_rfl) ?_);clear hZ;have hF:=fm_row HF.out 4 rfl #[.string ⟨#[]⟩,.string ⟨#[]⟩,.int .i64 0,.slice none 0 0,.slice none 0 0,.int .u64 0,.slice none 0 0,.slice none 0 0,.string ⟨#[]⟩,.string ⟨#[]⟩,.int .u64 0,.int .i64 0,.string ⟨#[]⟩,.string ⟨#[]⟩,.int .i64 0,.slice none 0 0];simp only[List.set_cons_zero,List.set_cons_succ]at hF;generalize w1.setRow gz #[.string ⟨#[]⟩,.string ⟨#[]⟩,.int .i64 0,.slice none 0 0,.slice none 0 0,.int .u64 0,.slice none 0 0,.slice none 0 0,.string ⟨#[]⟩,.string ⟨#[]⟩,.int .u64 0,.int .i64 0,.string ⟨#[]⟩,.string ⟨#[]⟩,.int .i64 0,.slice none 0 0]=w2 at hF⊢;replace HF:=zh hF;clear hF;generalize w2=w1 at HF⊢;have hh:=HF.out.at 4 rfl;refine bodyPost_ret (results_row_tmp (g:=gz) rfl _ _ _ _ _ _ rfl hh Tryz.underlying32 rfl (by kernel_rfl)) rfl ?_;exact⟨⟨_,by rw[HX.out];exact isEn_zero _ w1,by rw[HX.out];rfl⟩,HF.out.bel⟩
 subst k0;by_cases k0:rest = []
 case neg=>
  have HX:=zh (HXB.out (.inr (.inr (.inr (.inl k0)))))
  have hb1:Q.toList.isEmpty=false:=by
   rw[Lib.toList_data,HQ.out];cases rest with
   | nil=>exact absurd rfl k0
   | cons x y=>rfl
  have hb2:(Q.toList==[])=false:=by
   rw[Lib.toList_data,HQ.out];exact beq_eq_false_iff_ne.2 k0
  clear k0;have hZ:=HF.out.at 4 rfl;go_wp2_with (refine wpList_store_row (by rfl) _ _ _ (by rfl) gz #[.string ⟨#[]⟩,.string ⟨#[]⟩,.int .i64 0,.slice none 0 0,.slice none 0 0,.int .u64 0,.slice none 0 0,.slice none 0 0,.string ⟨#[]⟩,.string ⟨#[]⟩,.int .u64 0,.int .i64 0,.string ⟨#[]⟩,.string ⟨#[]⟩,.int .i64 0,.slice none 0 0] (by rfl) (by rfl) _ _ hZ (by kernel_rfl) (by rfl) (by kernel_rfl) ?_);clear hZ;have hF:=fm_row HF.out 4 rfl #[.string ⟨#[]⟩,.string ⟨#[]⟩,.int .i64 0,.slice none 0 0,.slice none 0 0,.int .u64 0,.slice none 0 0,.slice none 0 0,.string ⟨#[]⟩,.string ⟨#[]⟩,.int .u64 0,.int .i64 0,.string ⟨#[]⟩,.string ⟨#[]⟩,.int .i64 0,.slice none 0 0];simp only[List.set_cons_zero,List.set_cons_succ]at hF;generalize w1.setRow gz #[.string ⟨#[]⟩,.string ⟨#[]⟩,.int .i64 0,.slice none 0 0,.slice none 0 0,.int .u64 0,.slice none 0 0,.slice none 0 0,.string ⟨#[]⟩,.string ⟨#[]⟩,.int .u64 0,.int .i64 0,.string ⟨#[]⟩,.string ⟨#[]⟩,.int .i64 0,.slice none 0 0]=w2 at hF⊢;replace HF:=zh hF;clear hF;generalize w2=w1 at HF⊢;have hh:=HF.out.at 4 rfl;refine bodyPost_ret (results_row_tmp (g:=gz) rfl _ _ _ _ _ _ rfl hh Tryz.underlying32 rfl (by kernel_rfl)) rfl ?_;exact⟨⟨_,by rw[HX.out];exact isEn_zero _ w1,by rw[HX.out];rfl⟩,HF.out.bel⟩
 subst k0;obtain rfl:Q=⟨#[]⟩:=str_eq HQ.out;obtain⟨q0,q1,q2,q3,q4⟩:=four_cells (HF.out.at 3 rfl);go_wp2_with fail;clear q0 q1 q2 q3 q4;with_reducible refine(HT6.out _).mono ?_
 rintro e w1 hT;obtain⟨Ap,cp,ysp,hyp,hcp,hF,rfl⟩:=tn_fm HF.out hT;replace HF:=zh hF;clear hF hT;dsimp only at hyp⊢;have HYP:=zh hyp;clear hyp;by_cases k0:e6=0
 case neg=>
  have HX:=zh (HXB.out (.inr (.inr (.inr (.inr k0)))));have hb1:(e6==0)=false:=by simpa using k0
  have hb2:(e6 != 0)=true:=by simpa using k0
  clear k0;have hZ:=HF.out.at 5 rfl;go_wp2_with (refine wpList_store_row (by rfl) _ _ _ (by rfl) gz #[.string ⟨#[]⟩,.string ⟨#[]⟩,.int .i64 0,.slice none 0 0,.slice none 0 0,.int .u64 0,.slice none 0 0,.slice none 0 0,.string ⟨#[]⟩,.string ⟨#[]⟩,.int .u64 0,.int .i64 0,.string ⟨#[]⟩,.string ⟨#[]⟩,.int .i64 0,.slice none 0 0] (by rfl) (by rfl) _ _ hZ (by kernel_rfl) (by rfl) (by kernel_rfl) ?_);clear hZ;have hF:=fm_row HF.out 5 rfl #[.string ⟨#[]⟩,.string ⟨#[]⟩,.int .i64 0,.slice none 0 0,.slice none 0 0,.int .u64 0,.slice none 0 0,.slice none 0 0,.string ⟨#[]⟩,.string ⟨#[]⟩,.int .u64 0,.int .i64 0,.string ⟨#[]⟩,.string ⟨#[]⟩,.int .i64 0,.slice none 0 0];simp only[List.set_cons_zero,List.set_cons_succ]at hF;generalize w1.setRow gz #[.string ⟨#[]⟩,.string ⟨#[]⟩,.int .i64 0,.slice none 0 0,.slice none 0 0,.int .u64 0,.slice none 0 0,.slice none 0 0,.string ⟨#[]⟩,.string ⟨#[]⟩,.int .u64 0,.int .i64 0,.string ⟨#[]⟩,.string ⟨#[]⟩,.int .i64 0,.slice none 0 0]=w2 at hF⊢;replace HF:=zh hF;clear hF;generalize w2=w1 at HF⊢;have hh:=HF.out.at 5 rfl;refine bodyPost_ret (results_row_tmp (g:=gz) rfl _ _ _ _ _ _ rfl hh Tryz.underlying32 rfl (by kernel_rfl)) rfl ?_;exact⟨⟨_,by rw[HX.out];exact isEn_zero _ w1,by rw[HX.out];rfl⟩,HF.out.bel⟩
 subst k0;have HX:=zh (HXG.out (by first|rfl|trivial) (by first|rfl|trivial) (by first|rfl|trivial) (by first|rfl|trivial) (by first|rfl|trivial));obtain⟨E,cw⟩:∃E,IntKind.i64.wrap (n:Int)=E:=⟨_,rfl⟩
 rw[cw]at HX;obtain⟨m0,m1,m2,m3,m4,m5,m6,m7,m8,m9⟩:=bxn9 (HF.out.at 2 rfl);obtain⟨s0,s1,s2,s3,s4,s5⟩:=bxn5 (HF.out.at 1 rfl);have hZ:=HF.out.at 5 rfl;go_wp2_with (refine wpList_store_row (by rfl) _ _ _ (by rfl) gz #[.string o,.string f,.int .i64 ep,.slice A na c,.slice B m d,.int .u64 (ver:Int),.slice V k cv,.slice K q ck,.string sig,.string O,.int .u64 (S.time:Int),.int .i64 S.many,.string R,.string G,.int .i64 E,.slice Ap ysp.length cp] (by rfl) (by rfl) _ _ hZ (by kernel_rfl) (by rfl) (by kernel_rfl) ?_);clear hZ;have hF:=fm_row HF.out 5 rfl #[.string o,.string f,.int .i64 ep,.slice A na c,.slice B m d,.int .u64 (ver:Int),.slice V k cv,.slice K q ck,.string sig,.string O,.int .u64 (S.time:Int),.int .i64 S.many,.string R,.string G,.int .i64 E,.slice Ap ysp.length cp];simp only[List.set_cons_zero,List.set_cons_succ]at hF;generalize w1.setRow gz #[.string o,.string f,.int .i64 ep,.slice A na c,.slice B m d,.int .u64 (ver:Int),.slice V k cv,.slice K q ck,.string sig,.string O,.int .u64 (S.time:Int),.int .i64 S.many,.string R,.string G,.int .i64 E,.slice Ap ysp.length cp]=w2 at hF⊢;replace HF:=zh hF;clear hF;generalize w2=w1 at HF⊢;clear m0 m1 m2 m3 m4 m5 m6 m7 m8 m9 s0 s1 s2 s3 s4 s5;have hh:=HF.out.at 5 rfl;refine bodyPost_ret (results_row_tmp (g:=gz) rfl _ _ _ _ _ _ rfl hh Tryz.underlying32 rfl (by kernel_rfl)) rfl ?_;refine⟨⟨_,?_,by first|rfl|(rw[HX.out];rfl)⟩,HF.out.bel⟩;try rw[HX.out]
 have h1:=isEn_mk (i:=E) (cp:=cp) (HF.out.at 3 rfl) ⟨HS.out.1,rfl,rfl,HS.out.2.1,HS.out.2.2⟩ (HF.out.at 0 rfl) hcp.2.2;rw[HYP.out]at h1;exact h1
end Go.Proofs.YtmihiknebelkbaaGreat.Own
