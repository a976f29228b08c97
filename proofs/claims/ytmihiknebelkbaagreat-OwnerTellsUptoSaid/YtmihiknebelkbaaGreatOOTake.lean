/-
  OTake. By an AI agent.
-/
import Derived.Test.YtmihiknebelkbaaGreatOZ
import Derived.Test.YtmihiknebelkbaaGreatOOPureC
import Derived.Test.YtmihiknebelkbaaGreatOFRTake
set_option linter.unusedSimpArgs false
set_option linter.unusedVariables false
set_option maxHeartbeats 16000000
namespace Go.Proofs.YtmihiknebelkbaaGreat.Own
open Go Go.RowKit Wire Term Rig Mta Frm Usr
set_option maxRecDepth 1000000 in
theorem otake_ref (s:ByteArray) (w:World) (hs:s.size≤1000000):Calls Tryz.prog 10 #[.string s] w fun e w'=>Ewn w.heap.size (takeE s.data.toList) e w'∧Below w.heap.size w w':=by
 obtain⟨X,hX⟩:∃X,takeE s.data.toList=X:=⟨_,rfl⟩
 rw[hX];unfold takeE takeEb at hX;obtain⟨l,e1,h1⟩:∃l e,all s.data.toList 4 90000=(l,e):=⟨_,_,rfl⟩
 have hl1:=(Rig.all_few h1).2;have HT1:=zh fun w=>refAll_new s 4 90000 w (by omega) (by decide) (by decide)
 rw[h1]at hX HT1;dsimp only at hX;have hss:s.data.toList.length≤1000000:=by rw[←Lib.size_eq];exact hs
 clear h1 hs;have HF:=zh (fm_refl w);go_enter Tryz.func10,Tryz.ntmps10;go_wp2_with fail;have hF:=HF.out.box #[.string ⟨#[]⟩,.string ⟨#[]⟩,.int .i64 0,.slice none 0 0,.slice none 0 0,.int .u64 0,.slice none 0 0,.slice none 0 0,.string ⟨#[]⟩,.string ⟨#[]⟩,.int .u64 0,.int .i64 0,.string ⟨#[]⟩,.string ⟨#[]⟩,.int .i64 0,.slice none 0 0] 40;obtain⟨gz,hg⟩:∃g,w.heap.size=g:=⟨_,rfl⟩
 rw[hg]at hF⊢;clear hg;generalize w.alloc (.cells #[.string ⟨#[]⟩,.string ⟨#[]⟩,.int .i64 0,.slice none 0 0,.slice none 0 0,.int .u64 0,.slice none 0 0,.slice none 0 0,.string ⟨#[]⟩,.string ⟨#[]⟩,.int .u64 0,.int .i64 0,.string ⟨#[]⟩,.string ⟨#[]⟩,.int .i64 0,.slice none 0 0] 40)=w1 at hF⊢;replace HF:=zh hF;clear hF;with_reducible refine(HT1.out _).mono ?_
 rintro e w1 hT;obtain⟨Al,cl,ysl,hyl,hcl,hF,rfl⟩:=tn_fm HF.out hT;replace HF:=zh hF;clear hF hT;dsimp only at hyl⊢;have hzl:ysl.length=l.length:=by rw[←hyl,bl_len]
 by_cases c1:e1≠0∨l.length≠4
 ·rw[if_pos c1]at hX
  have HX:=zh hX.symm;by_cases he:e1=0
  case' pos=>
   subst he
   have hb1:((ysl.length:Int) != 4)=true:=by
    have:l.length≠4:=by rcases c1 with h|h;exact absurd rfl h;exact h
    simp[bne];omega
   have hb2:((ysl.length:Int)==4)=false:=by simpa[bne]using hb1
  case' neg=>
   have hb1:(e1==0)=false:=by simpa using he
   have hb2:(e1 != 0)=true:=by simpa using he
  all_goals
   clear c1 hX;have hZ:=HF.out.at 1 rfl;go_wp2_with (refine wpList_store_row (by rfl) _ _ _ (by rfl) gz #[.string ⟨#[]⟩,.string ⟨#[]⟩,.int .i64 0,.slice none 0 0,.slice none 0 0,.int .u64 0,.slice none 0 0,.slice none 0 0,.string ⟨#[]⟩,.string ⟨#[]⟩,.int .u64 0,.int .i64 0,.string ⟨#[]⟩,.string ⟨#[]⟩,.int .i64 0,.slice none 0 0] (by rfl) (by rfl) _ _ hZ (by kernel_rfl) (by rfl) (by kernel_rfl) ?_);clear hZ;have hF:=fm_row HF.out 1 rfl #[.string ⟨#[]⟩,.string ⟨#[]⟩,.int .i64 0,.slice none 0 0,.slice none 0 0,.int .u64 0,.slice none 0 0,.slice none 0 0,.string ⟨#[]⟩,.string ⟨#[]⟩,.int .u64 0,.int .i64 0,.string ⟨#[]⟩,.string ⟨#[]⟩,.int .i64 0,.slice none 0 0];simp only[List.set_cons_zero,List.set_cons_succ]at hF;generalize w1.setRow gz #[.string ⟨#[]⟩,.string ⟨#[]⟩,.int .i64 0,.slice none 0 0,.slice none 0 0,.int .u64 0,.slice none 0 0,.slice none 0 0,.string ⟨#[]⟩,.string ⟨#[]⟩,.int .u64 0,.int .i64 0,.string ⟨#[]⟩,.string ⟨#[]⟩,.int .i64 0,.slice none 0 0]=w2 at hF⊢;replace HF:=zh hF;clear hF;generalize w2=w1 at HF⊢;have hh:=HF.out.at 1 rfl;refine bodyPost_ret (results_row_tmp (g:=gz) rfl _ _ _ _ _ _ rfl hh Tryz.underlying40 rfl (by kernel_rfl)) rfl ?_;exact⟨⟨_,by rw[HX.out];exact isEn_zero _ w1,by rw[HX.out];rfl⟩,HF.out.bel⟩
 rw[if_neg c1]at hX;obtain⟨rfl,h2⟩:e1=0∧l.length=4:=⟨Decidable.not_not.1 fun h=>c1 (.inl h),Decidable.not_not.1 fun h=>c1 (.inr h)⟩
 clear c1
 obtain⟨a0,a1,a2,a3,rfl⟩:∃a0 a1 a2 a3,l = [a0,a1,a2,a3]:=by
  match l,h2 with
  | [a0,a1,a2,a3],_=>exact⟨a0,a1,a2,a3,rfl⟩
 obtain⟨b2,o2,P0,P1,P2,P3,rfl,_,rfl,hP0,hP1,hP2,hP3⟩:=four_read (HF.out.at 0 rfl) hyl;have hz0:=hl1 a0 (by simp);have hz1:=hl1 a1 (by simp);have hz2:=hl1 a2 (by simp);have hz3:=hl1 a3 (by simp);have HT3:=zh fun w=>mtake_w P0 w (by rw[Lib.size_eq,hP0];omega)
 have HT4:=zh fun w=>Frs.rftake_any P1 w (by rw[Lib.size_eq,hP1];omega)
 have HT5:=zh fun w=>refTake_any P2 w (by rw[Lib.size_eq,hP2];omega)
 have HT6:=zh fun w=>refAll_new P3 3 4000 w (by rw[Lib.size_eq,hP3];omega) (by decide) (by decide)
 rw[hP0]at HT3;rw[hP1]at HT4;rw[hP2]at HT5;rw[hP3]at HT6;obtain⟨M,e3,h3⟩:∃r e,takeM a0=(r,e):=⟨_,_,rfl⟩
 obtain⟨S,e4,h4⟩:∃r e,Frs.takeS a1=(r,e):=⟨_,_,rfl⟩
 obtain⟨n,rest,e5,h5⟩:∃n q e,tk a2=(n,q,e):=⟨_,_,_,rfl⟩
 obtain⟨pf,e6,h6⟩:∃l e,all a3 3 4000=(l,e):=⟨_,_,rfl⟩
 have hpf:=Rig.all_few h6;have hfe:=few_parts (n:=n) h3 h4 (pf:=pf) (by omega) (fun t ht=>by have:=hpf.2 t ht;omega);obtain⟨HXB,HXG⟩:=oTaken_is (X:=X) h3 h4 h5 h6 hX;have HXB:=zh HXB;have HXG:=zh HXG;have HFE:=zh hfe;rw[h3]at HT3;rw[h4]at HT4;rw[h5]at HT5;rw[h6]at HT6;have hn:=tk_small h5;clear h2 h3 h4 h5 h6 hP0 hP1 hP2 hP3 hz0 hz1 hz2 hz3 hl1 hpf hfe hX hyl hzl hss;have hcp4:([P0,P1,P2,P3]:List ByteArray).length=4:=rfl;rw[hcp4]at hcl⊢;clear hcp4;obtain⟨q0,q1,q2,q3,q4⟩:=four_cells (HF.out.at 0 rfl);go_wp2_with fail;clear q0 q1 q2 q3 q4;with_reducible refine(HT3.out _).mono ?_
 rintro e w1 hT;obtain⟨o,f,sig,ep,A,na,c,B,m,d,ver,V,k,cv,K,q,ck,hF,rfl⟩:=me_fm HF.out hT;replace HF:=zh hF;clear hF hT;dsimp only;obtain⟨q0,q1,q2,q3,q4⟩:=four_cells (HF.out.at 1 rfl);go_wp2_with fail;clear q0 q1 q2 q3 q4;have hF:=HF.out.box #[.string o,.string f,.int .i64 ep,.slice A na c,.slice B m d,.int .u64 (ver:Int),.slice V k cv,.slice K q ck,.string sig] 37;obtain⟨gm,hg⟩:∃g,w1.heap.size=g:=⟨_,rfl⟩
 rw[hg]at hF⊢;clear hg;generalize w1.alloc (.cells #[.string o,.string f,.int .i64 ep,.slice A na c,.slice B m d,.int .u64 (ver:Int),.slice V k cv,.slice K q ck,.string sig] 37)=w1 at hF⊢;replace HF:=zh hF;clear hF;with_reducible refine(HT4.out _).mono ?_
 rintro e w1 ⟨hT,hb⟩;obtain⟨O,R,G,hO,hR,hG,rfl⟩:=Frs.ss_open hT;replace HF:=zh (HF.out.go hb);have HS:=zh (And.intro hO (And.intro hR hG));clear hb hT hO hR hG;dsimp only;obtain⟨q0,q1,q2,q3,q4⟩:=four_cells (HF.out.at 2 rfl);go_wp2_with fail;clear q0 q1 q2 q3 q4;have hF:=HF.out.box #[.string O,.int .u64 (S.time:Int),.int .i64 S.many,.string R,.string G] 38;obtain⟨gs,hg⟩:∃g,w1.heap.size=g:=⟨_,rfl⟩
 rw[hg]at hF⊢;clear hg;generalize w1.alloc (.cells #[.string O,.int .u64 (S.time:Int),.int .i64 S.many,.string R,.string G] 38)=w1 at hF⊢;replace HF:=zh hF;clear hF;with_reducible refine(HT5.out _).mono ?_
 rintro e w1 ⟨⟨Q,hQ,rfl⟩,hb⟩;replace HF:=zh (HF.out.go hb);have HQ:=zh hQ;clear hb hQ;dsimp only;obtain⟨q0,q1,q2,q3,q4⟩:=four_cells (HF.out.at 3 rfl);go_wp2_with fail;clear q0 q1 q2 q3 q4;with_reducible refine(HT6.out _).mono ?_
 rintro e w1 hT;obtain⟨Ap,cp,ysp,hyp,hcp,hF,rfl⟩:=tn_fm HF.out hT;replace HF:=zh hF;clear hF hT;dsimp only at hyp⊢;have HYP:=zh hyp;clear hyp;obtain⟨E,cw⟩:∃E,IntKind.i64.wrap (n:Int)=E:=⟨_,rfl⟩
 have hE:n≤7→E=(n:Int):=fun h=>by rw[IntKind.wrap_i64]at cw;omega
 have hway:e3≠0∨(e3=0∧(e4≠0∨(e4=0∧(e5≠0∨(e5=0∧(rest≠[]∨(rest = []∧(¬n≤7∨(n≤7∧(e6≠0∨e6=0)))))))))):=by
  by_cases k3:e3=0
  ·refine .inr ⟨k3,?_⟩
   by_cases k4:e4=0
   ·refine .inr ⟨k4,?_⟩
    by_cases k5:e5=0
    ·refine .inr ⟨k5,?_⟩
     by_cases k:rest = []
     ·refine .inr ⟨k,?_⟩
      by_cases kn:n≤7
      ·exact .inr ⟨kn,(Decidable.em (e6=0)).symm⟩
      ·exact .inl kn
     ·exact .inl k
    ·exact .inl k5
   ·exact .inl k4
  ·exact .inl k3
 rcases hway with k|⟨rfl,k|⟨rfl,k|⟨rfl,k|⟨rfl,k|⟨kn,k|rfl⟩⟩⟩⟩⟩
 have HX:=zh (HXB.out (.inl k));have hb1:(e3==0)=false:=by simpa using k
 have hb2:(e3 != 0)=true:=by simpa using k
 clear k;rotate_left;have HX:=zh (HXB.out (.inr (.inl k)));have hb1:(e4==0)=false:=by simpa using k
 have hb2:(e4 != 0)=true:=by simpa using k
 clear k;rotate_left;have HX:=zh (HXB.out (.inr (.inr (.inl k))));have hb1:(e5==0)=false:=by simpa using k
 have hb2:(e5 != 0)=true:=by simpa using k
 clear k;rotate_left;have HX:=zh (HXB.out (.inr (.inr (.inr (.inl k)))))
 have hb1:Q.toList.isEmpty=false:=by
  rw[Lib.toList_data,HQ.out];cases rest with
  | nil=>exact absurd rfl k
  | cons x y=>rfl
 have hb2:(Q.toList==[])=false:=by
  rw[Lib.toList_data,HQ.out];exact beq_eq_false_iff_ne.2 k
 clear k;rotate_left;obtain rfl:Q=⟨#[]⟩:=str_eq HQ.out;have HX:=zh (HXB.out (.inr (.inr (.inr (.inr (.inl k))))));have hb1:(7:Int)<(n:Int):=by omega
 clear k;rotate_left;obtain rfl:Q=⟨#[]⟩:=str_eq HQ.out;have HX:=zh (HXB.out (.inr (.inr (.inr (.inr (.inr (.inl k)))))));have hb0:¬(7:Int)<(n:Int):=by omega
 have hb1:(e6==0)=false:=by simpa using k
 have hb2:(e6 != 0)=true:=by simpa using k
 clear k kn;rotate_left
 ·obtain rfl:Q=⟨#[]⟩:=str_eq HQ.out
  have hb0:¬(7:Int)<(n:Int):=by omega
  obtain rfl:=hE kn;have HKN:=zh kn;have hne:-9223372036854775808≤(n:Int)∧(n:Int)≤9223372036854775807:=by omega
  have HN9:=zh hne;clear hE kn hne;have HCP:=zh hcp.2.2
  have HE:Hid (∀w',(mwP (fun b=>w.heap.size≤b) [.string o,.string f,.int .i64 ep,.slice A na c,.slice B m d,.int .u64 (ver:Int),.slice V k cv,.slice K q ck,.string sig] M).P w'→(rowP Ap ysp).P w'→IsEn w.heap.size w' (.agg #[.string o,.string f,.int .i64 ep,.slice A na c,.slice B m d,.int .u64 (ver:Int),.slice V k cv,.slice K q ck,.string sig,.string O,.int .u64 (S.time:Int),.int .i64 S.many,.string R,.string G,.int .i64 (n:Int),.slice Ap ysp.length cp]) ⟨M,S,(n:Int),pf⟩):=zh fun w' k1 k2=>by
   have h1:=isEn_mk (i:=(n:Int)) (cp:=cp) k1 ⟨HS.out.1,rfl,rfl,HS.out.2.1,HS.out.2.2⟩ k2 HCP.out;rw[HYP.out]at h1;exact h1
  obtain⟨m0,m1,m2,m3,m4,m5,m6,m7,m8,m9⟩:=bxn9 (HF.out.at 2 rfl);obtain⟨s0,s1,s2,s3,s4,s5⟩:=bxn5 (HF.out.at 1 rfl);go_wp2_with fail;have hF:=HF.out.box #[.string o,.string f,.int .i64 ep,.slice A na c,.slice B m d,.int .u64 (ver:Int),.slice V k cv,.slice K q ck,.string sig,.string O,.int .u64 (S.time:Int),.int .i64 S.many,.string R,.string G,.int .i64 (n:Int),.slice Ap ysp.length cp] 40;obtain⟨gx,hg⟩:∃g,w1.heap.size=g:=⟨_,rfl⟩
  rw[hg]at hF⊢;clear hg;generalize w1.alloc (.cells #[.string o,.string f,.int .i64 ep,.slice A na c,.slice B m d,.int .u64 (ver:Int),.slice V k cv,.slice K q ck,.string sig,.string O,.int .u64 (S.time:Int),.int .i64 S.many,.string R,.string G,.int .i64 (n:Int),.slice Ap ysp.length cp] 40)=w1 at hF⊢;replace HF:=zh hF;clear hF;clear m0 m1 m2 m3 m4 m5 m6 m7 m8 m9 s0 s1 s2 s3 s4 s5;obtain⟨bb,hbb⟩:∃b,decide (ER ⟨M,S,(n:Int),pf⟩)=b:=⟨_,rfl⟩
  obtain⟨c0,c1,c2,c3,c4,c5,c6,c7,c8,c9,c10,c11,c12,c13,c14,c15,c16⟩:=bxn16 (HF.out.at 0 rfl);go_wp2_with fail;with_reducible refine(oright_ref _ _ _ (HE.out _ (HF.out.at 4 rfl) (HF.out.at 1 rfl)).isE (HFE.out _ HN9.out)).mono ?_
  rintro e w1 ⟨rfl,hb⟩;replace HF:=zh (HF.out.go hb);clear hb;try dsimp only
  clear c0 c1 c2 c3 c4 c5 c6 c7 c8 c9 c10 c11 c12 c13 c14 c15 c16;rw[hbb];cases bb
  ·have HX:=zh (HXB.out (.inr (.inr (.inr (.inr (.inr (.inr (of_decide_eq_false hbb))))))))
   clear hbb;have hZ:=HF.out.at 6 rfl;go_wp2_with (refine wpList_store_row (by rfl) _ _ _ (by rfl) gz #[.string ⟨#[]⟩,.string ⟨#[]⟩,.int .i64 0,.slice none 0 0,.slice none 0 0,.int .u64 0,.slice none 0 0,.slice none 0 0,.string ⟨#[]⟩,.string ⟨#[]⟩,.int .u64 0,.int .i64 0,.string ⟨#[]⟩,.string ⟨#[]⟩,.int .i64 0,.slice none 0 0] (by rfl) (by rfl) _ _ hZ (by kernel_rfl) (by rfl) (by kernel_rfl) ?_);clear hZ;have hF:=fm_row HF.out 6 rfl #[.string ⟨#[]⟩,.string ⟨#[]⟩,.int .i64 0,.slice none 0 0,.slice none 0 0,.int .u64 0,.slice none 0 0,.slice none 0 0,.string ⟨#[]⟩,.string ⟨#[]⟩,.int .u64 0,.int .i64 0,.string ⟨#[]⟩,.string ⟨#[]⟩,.int .i64 0,.slice none 0 0];simp only[List.set_cons_zero,List.set_cons_succ]at hF;generalize w1.setRow gz #[.string ⟨#[]⟩,.string ⟨#[]⟩,.int .i64 0,.slice none 0 0,.slice none 0 0,.int .u64 0,.slice none 0 0,.slice none 0 0,.string ⟨#[]⟩,.string ⟨#[]⟩,.int .u64 0,.int .i64 0,.string ⟨#[]⟩,.string ⟨#[]⟩,.int .i64 0,.slice none 0 0]=w2 at hF⊢;replace HF:=zh hF;clear hF;generalize w2=w1 at HF⊢;have hh:=HF.out.at 6 rfl;refine bodyPost_ret (results_row_tmp (g:=gz) rfl _ _ _ _ _ _ rfl hh Tryz.underlying40 rfl (by kernel_rfl)) rfl ?_;exact⟨⟨_,by rw[HX.out];exact isEn_zero _ w1,by rw[HX.out];rfl⟩,HF.out.bel⟩
  ·have HX:=zh (HXG.out (by first|rfl|trivial) (by first|rfl|trivial) (by first|rfl|trivial) (by first|rfl|trivial) HKN.out (by first|rfl|trivial) (of_decide_eq_true hbb))
   clear hbb;obtain⟨c0,c1,c2,c3,c4,c5,c6,c7,c8,c9,c10,c11,c12,c13,c14,c15,c16⟩:=bxn16 (HF.out.at 0 rfl);have hZ:=HF.out.at 6 rfl;go_wp2_with (refine wpList_store_row (by rfl) _ _ _ (by rfl) gz #[.string o,.string f,.int .i64 ep,.slice A na c,.slice B m d,.int .u64 (ver:Int),.slice V k cv,.slice K q ck,.string sig,.string O,.int .u64 (S.time:Int),.int .i64 S.many,.string R,.string G,.int .i64 (n:Int),.slice Ap ysp.length cp] (by rfl) (by rfl) _ _ hZ (by kernel_rfl) (by rfl) (by kernel_rfl) ?_);clear hZ;have hF:=fm_row HF.out 6 rfl #[.string o,.string f,.int .i64 ep,.slice A na c,.slice B m d,.int .u64 (ver:Int),.slice V k cv,.slice K q ck,.string sig,.string O,.int .u64 (S.time:Int),.int .i64 S.many,.string R,.string G,.int .i64 (n:Int),.slice Ap ysp.length cp];simp only[List.set_cons_zero,List.set_cons_succ]at hF;generalize w1.setRow gz #[.string o,.string f,.int .i64 ep,.slice A na c,.slice B m d,.int .u64 (ver:Int),.slice V k cv,.slice K q ck,.string sig,.string O,.int .u64 (S.time:Int),.int .i64 S.many,.string R,.string G,.int .i64 (n:Int),.slice Ap ysp.length cp]=w2 at hF⊢;replace HF:=zh hF;clear hF;generalize w2=w1 at HF⊢;clear c0 c1 c2 c3 c4 c5 c6 c7 c8 c9 c10 c11 c12 c13 c14 c15 c16;have hh:=HF.out.at 6 rfl;refine bodyPost_ret (results_row_tmp (g:=gz) rfl _ _ _ _ _ _ rfl hh Tryz.underlying40 rfl (by kernel_rfl)) rfl ?_;exact⟨⟨_,by rw[HX.out];exact HE.out _ (HF.out.at 4 rfl) (HF.out.at 1 rfl),by rw[HX.out];rfl⟩,HF.out.bel⟩
 all_goals
  obtain⟨m0,m1,m2,m3,m4,m5,m6,m7,m8,m9⟩:=bxn9 (HF.out.at 2 rfl);obtain⟨s0,s1,s2,s3,s4,s5⟩:=bxn5 (HF.out.at 1 rfl);have hZ:=(HF.out.box #[.string o,.string f,.int .i64 ep,.slice A na c,.slice B m d,.int .u64 (ver:Int),.slice V k cv,.slice K q ck,.string sig,.string O,.int .u64 (S.time:Int),.int .i64 S.many,.string R,.string G,.int .i64 E,.slice Ap ysp.length cp] 40).at 6 rfl;go_wp2_with (refine wpList_store_row (by rfl) _ _ _ (by rfl) gz #[.string ⟨#[]⟩,.string ⟨#[]⟩,.int .i64 0,.slice none 0 0,.slice none 0 0,.int .u64 0,.slice none 0 0,.slice none 0 0,.string ⟨#[]⟩,.string ⟨#[]⟩,.int .u64 0,.int .i64 0,.string ⟨#[]⟩,.string ⟨#[]⟩,.int .i64 0,.slice none 0 0] (by rfl) (by rfl) _ _ hZ (by kernel_rfl) (by rfl) (by kernel_rfl) ?_);clear hZ;have hF:=fm_row (HF.out.box #[.string o,.string f,.int .i64 ep,.slice A na c,.slice B m d,.int .u64 (ver:Int),.slice V k cv,.slice K q ck,.string sig,.string O,.int .u64 (S.time:Int),.int .i64 S.many,.string R,.string G,.int .i64 E,.slice Ap ysp.length cp] 40) 6 rfl #[.string ⟨#[]⟩,.string ⟨#[]⟩,.int .i64 0,.slice none 0 0,.slice none 0 0,.int .u64 0,.slice none 0 0,.slice none 0 0,.string ⟨#[]⟩,.string ⟨#[]⟩,.int .u64 0,.int .i64 0,.string ⟨#[]⟩,.string ⟨#[]⟩,.int .i64 0,.slice none 0 0];simp only[List.set_cons_zero,List.set_cons_succ]at hF;generalize (w1.alloc (.cells #[.string o,.string f,.int .i64 ep,.slice A na c,.slice B m d,.int .u64 (ver:Int),.slice V k cv,.slice K q ck,.string sig,.string O,.int .u64 (S.time:Int),.int .i64 S.many,.string R,.string G,.int .i64 E,.slice Ap ysp.length cp] 40)).setRow gz #[.string ⟨#[]⟩,.string ⟨#[]⟩,.int .i64 0,.slice none 0 0,.slice none 0 0,.int .u64 0,.slice none 0 0,.slice none 0 0,.string ⟨#[]⟩,.string ⟨#[]⟩,.int .u64 0,.int .i64 0,.string ⟨#[]⟩,.string ⟨#[]⟩,.int .i64 0,.slice none 0 0]=w2 at hF⊢;replace HF:=zh hF;clear hF;generalize w2=w1 at HF⊢;clear m0 m1 m2 m3 m4 m5 m6 m7 m8 m9 s0 s1 s2 s3 s4 s5;have hh:=HF.out.at 6 rfl;refine bodyPost_ret (results_row_tmp (g:=gz) rfl _ _ _ _ _ _ rfl hh Tryz.underlying40 rfl (by kernel_rfl)) rfl ?_;exact⟨⟨_,by rw[HX.out];exact isEn_zero _ w1,by rw[HX.out];rfl⟩,HF.out.bel⟩
end Go.Proofs.YtmihiknebelkbaaGreat.Own
