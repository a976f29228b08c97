/-
  OPutC. By an AI agent.
-/
import Derived.Test.YtmihiknebelkbaaGreatOZ
import Derived.Test.YtmihiknebelkbaaGreatOOPut
set_option linter.unusedSimpArgs false
set_option linter.unusedVariables false
set_option maxHeartbeats 8000000
namespace Go.Proofs.YtmihiknebelkbaaGreat.Own
open Go Go.RowKit Wire Term Rig Mta Frm Usr
set_option maxRecDepth 1000000 in
theorem oput_code (v:Value) (e:Env) (w:World) (h:IsE w v e) (hf:FewE e):Calls Tryz.prog 7 #[v] w fun z w'=>Sr (putE e) z∧Below w.heap.size w w':=by
 have HRI:=zh fun w (h:IsE w v e)=>oright_code v e w h hf
 have h0:=h
 obtain⟨o,f,sig,ep,A,n,c,B,m,d,ver,V,k,cv,K,q,ck,O,R,G,P,cp,ps,rfl,hm,hs,hp,hpe⟩:=isE_lit h
 have HMP:=zh fun v w (h:IsW w v e.m)=>cput_w v e.m w h hf.m
 have HSP:Hid (∀w,Calls Tryz.prog 20 #[.agg #[.string O,.int .u64 (e.s.time:Int),.int .i64 e.s.many,.string R,.string G]] w fun z w'=>Sr (Frs.putS e.s) z∧Below w.heap.size w w'):=zh fun w=>by
  obtain⟨O',R',G',a1,a2,a3,a4⟩:=hs
  injection a4 with a4
  simp only[Array.mk.injEq,List.cons.injEq,Value.string.injEq,and_true,true_and]at a4
  obtain⟨rfl,rfl,rfl⟩:=a4
  have:=Frs.fput_any O e.s.time e.s.many R G w (by rw[Lib.size_eq,a1];have:=hf.own;omega) (by rw[Lib.size_eq,a2];have:=hf.root;omega) (by rw[Lib.size_eq,a3];have:=hf.sig;omega) hf.time
  rw[a1,a2,a3]at this
  exact this
 obtain⟨M,S,I,pf⟩:=e
 simp only at hm hs hpe HMP HSP HRI h0⊢
 subst hpe
 have hnp:ps.length≤40:=by rw[←bl_len];exact hf.few
 have hfl:(bl ps).flatten.length≤1000000000000:=flat_few hf.few hf.pf
 have HM:=zh hm
 have HP:=zh hp
 have H0:=zh h0
 have HPP:=zh fun w h=>putAll_any P cp ps w h (by omega) hfl
 have HTV:Hid (S.time<18446744073709551616∧M.ver<18446744073709551616):=zh ⟨hf.time,hf.m.2.2.2.2.2.2⟩
 generalize hT:S.time=T at HSP HRI H0⊢
 generalize hY:S.many=Y at HSP HRI H0⊢
 clear hm hs hp h h0 hf hT hY hfl
 obtain⟨bb,hbb⟩:∃b,decide (ER ⟨M,S,I,bl ps⟩)=b:=⟨_,rfl⟩
 rw[hbb]at HRI
 have HF:=zh (fm_refl w)
 go_enter Tryz.func7,Tryz.ntmps7
 go_wp2_with fail
 have hF:=HF.out.box #[.string o,.string f,.int .i64 ep,.slice A n c,.slice B m d,.int .u64 (ver:Int),.slice V k cv,.slice K q ck,.string sig,.string O,.int .u64 (T:Int),.int .i64 Y,.string R,.string G,.int .i64 I,.slice P ps.length cp] 32
 obtain⟨ge,hg⟩:∃g,w.heap.size=g:=⟨_,rfl⟩
 rw[hg]at hF⊢
 clear hg
 generalize w.alloc (.cells #[.string o,.string f,.int .i64 ep,.slice A n c,.slice B m d,.int .u64 (ver:Int),.slice V k cv,.slice K q ck,.string sig,.string O,.int .u64 (T:Int),.int .i64 Y,.string R,.string G,.int .i64 I,.slice P ps.length cp] 32)=w1 at hF⊢
 replace HF:=zh hF
 clear hF
 obtain⟨c0,c1,c2,c3,c4,c5,c6,c7,c8,c9,c10,c11,c12,c13,c14,c15,c16⟩:=bxn16 (HF.out.at 0 rfl)
 go_wp2_with fail
 clear c0 c1 c2 c3 c4 c5 c6 c7 c8 c9 c10 c11 c12 c13 c14 c15 c16
 with_reducible refine(HRI.out _ (H0.out.below HF.out.bel)).mono ?_
 rintro e w1 ⟨rfl,hb⟩
 replace HF:=zh (HF.out.go hb)
 clear hb
 try dsimp only
 cases bb
 ·have HX:Hid (putE ⟨M,S,I,bl ps⟩=([],1)):=zh (if_neg (of_decide_eq_false hbb))
  clear hbb
  go_wp2_with fail
  go_ret2
  exact⟨⟨⟨#[]⟩,by rw[HX.out],by rw[HX.out];rfl⟩,HF.out.bel⟩
 ·have hER:=of_decide_eq_true hbb
  have HX:Hid (putE ⟨M,S,I,bl ps⟩=(rowE ⟨M,S,I,bl ps⟩,0)):=zh (if_pos hER)
  have hpm:putM M=(putAll [bodyB M,M.sig],0):=if_pos hER.1
  have hps:Frs.putS S=(Frs.rowS S,0):=if_pos hER.2.1
  have HZ:=zh (env_small hER HTV.out.2 HTV.out.1)
  have hI:=hER.2.2.1
  simp only at hI
  obtain⟨N,hN⟩:∃N:Nat,I=(N:Int):=⟨I.toNat,by omega⟩
  subst hN
  rw[hpm]at HMP
  rw[hps]at HSP
  have hwr:IntKind.u64.wrap (N:Int)=(N:Int):=by rw[IntKind.wrap_u64];omega
  have HPN:=zh fun w=>put_any N w (by omega)
  clear hER hbb hpm hps hI
  obtain⟨c0,c1,c2,c3,c4,c5,c6,c7,c8,c9,c10,c11,c12,c13,c14,c15,c16⟩:=bxn16 (HF.out.at 0 rfl)
  go_wp2_with fail
  clear c0 c1 c2 c3 c4 c5 c6 c7 c8 c9 c10 c11 c12 c13 c14 c15 c16
  with_reducible refine(HMP.out _ _ (HM.out.below HF.out.bel zl)).mono ?_
  rintro z w1 ⟨⟨T1,h1,rfl⟩,hb⟩
  replace HF:=zh (HF.out.go hb)
  have H1:=zh h1
  clear hb h1
  dsimp only
  obtain⟨c0,c1,c2,c3,c4,c5,c6,c7,c8,c9,c10,c11,c12,c13,c14,c15,c16⟩:=bxn16 (HF.out.at 0 rfl)
  go_wp2_with fail
  clear c0 c1 c2 c3 c4 c5 c6 c7 c8 c9 c10 c11 c12 c13 c14 c15 c16
  with_reducible refine(HSP.out _).mono ?_
  rintro z w1 ⟨⟨T2,h2,rfl⟩,hb⟩
  replace HF:=zh (HF.out.go hb)
  have H2:=zh h2
  clear hb h2
  dsimp only
  go_wp2_with fail
  have hdr:=HF.out.go (Below.drewN' (Below.refl w1.heap.size w1) 1)
  have hfull:=HF.out.go (Below.drewN' (Below.refl w1.heap.size w1) 1)
  refine wp_region_held_drew (S:=fun w'=>Fm w w' _) (by kernel_rfl) hdr (fun hHeld=>?_)
  clear hHeld
  replace hdr:Fm w w1.drew _:=hdr
  replace hfull:Fm w w1.drew _:=hfull
  generalize w1.drew=w1 at hdr hfull⊢
  replace HF:=zh hfull
  have hHeld:=hdr
  clear hdr hfull
  refine zqT 0 ?_ ?_ ?_;rotate_left;· (intro w' hSw;go_simp;try with_reducible rfl)
  refine zqT 1 ?_ ?_ ?_;rotate_left;· (intro w' hSw;go_simp;try with_reducible rfl)
  refine zqT 2 ?_ ?_ ?_;rotate_left;· (intro w' hSw;go_simp;try with_reducible rfl)
  try simp only[Act.put,zq1,zq2,zq3]
  refine zqT 3 ?_ ?_ ?_;rotate_left;· (intro w' hSw;obtain⟨c0,c1,c2,c3,c4,c5,c6,c7,c8,c9,c10,c11,c12,c13,c14,c15,c16⟩:=bxn16 (hSw.at 0 rfl);go_simp;try with_reducible rfl)
  refine zqT 4 ?_ ?_ ?_;rotate_left;· (intro w' hSw;obtain⟨c0,c1,c2,c3,c4,c5,c6,c7,c8,c9,c10,c11,c12,c13,c14,c15,c16⟩:=bxn16 (hSw.at 0 rfl);go_simp;try with_reducible rfl)
  refine zqT 6 ?_ ?_ ?_;rotate_left;· (intro w' hSw;go_simp;try with_reducible rfl)
  try simp only[Act.put,zq1,zq2,zq3]
  refine zqT 7 ?_ ?_ ?_;rotate_left;· (intro w' hSw;obtain⟨c0,c1,c2,c3,c4,c5,c6,c7,c8,c9,c10,c11,c12,c13,c14,c15,c16⟩:=bxn16 (hSw.at 0 rfl);go_simp;try with_reducible rfl)
  try simp only[Act.put,zq1,zq2,zq3]
  clear hHeld
  refine zqR [5] ?_
  refine zqC (fun Kn hK=>?_) AllReadyH.nil
  go_simp
  with_reducible refine(HPN.out _).mono ?_
  rintro z w1 ⟨⟨T3,h3,rfl⟩,hb⟩
  replace HF:=zh (HF.out.go hb)
  have H3:=zh h3
  clear hb h3
  dsimp only
  refine hK.out _ _ (HF.out) (fun hHeld=>?_)
  try simp only[Act.put,zq1,zq2,zq3]
  clear hHeld
  refine zqR [8] ?_
  refine zqC (fun Kn hK=>?_) AllReadyH.nil
  go_simp
  with_reducible refine(HPP.out _ (HP.out.below HF.out.bel zl)).mono ?_
  rintro z w1 ⟨⟨T4,h4,rfl⟩,hb⟩
  replace HF:=zh (HF.out.go hb)
  have H4:=zh h4
  clear hb h4
  dsimp only
  refine hK.out _ _ (HF.out) (fun hHeld=>?_)
  try simp only[Act.put,zq1,zq2,zq3]
  clear hHeld
  refine zqR [9] ?_
  refine zqC (fun Kn hK=>?_) AllReadyH.nil
  go_simp
  have hF:=HF.out.box #[.string T1,.string T2,.string T3,.string T4] 9
  obtain⟨gl,hg⟩:∃g,w1.heap.size=g:=⟨_,rfl⟩
  rw[hg]at hF⊢
  clear hg
  generalize w1.alloc (.cells #[.string T1,.string T2,.string T3,.string T4] 9)=w1 at hF⊢
  replace HF:=zh hF
  clear hF
  refine hK.out _ _ (HF.out.tail) (fun hHeld=>?_)
  try simp only[Act.put,zq1,zq2,zq3]
  clear hHeld
  refine zqR [10] ?_
  refine zqC (fun Kn hK=>?_) AllReadyH.nil
  go_simp
  have hsum:=HZ.out T1 T2 T3 T4 H1.out H2.out H3.out H4.out
  have HPA:=putAll_any (some ⟨gl,0,none⟩) 4 [T1,T2,T3,T4] w1 (four_lit (HF.out.at 0 rfl)) (by simp) hsum.1
  rw[show([T1,T2,T3,T4]:List ByteArray).length=4 from rfl]at HPA
  with_reducible refine(HPA).mono ?_
  rintro z w1 ⟨⟨T5,h5,rfl⟩,hb⟩
  replace HF:=zh (HF.out.go hb)
  have H5:Hid (T5.data.toList=rowE ⟨M,S,(N:Int),bl ps⟩):=zh (h5.trans hsum.2)
  clear hb h5 hsum HPA
  dsimp only
  refine hK.out _ _ (HF.out.tail) (fun hHeld=>?_)
  refine zqT 11 ?_ ?_ ?_;rotate_left;· (intro w' hSw;go_simp;try with_reducible rfl)
  refine zqT 12 ?_ ?_ ?_;rotate_left;· (intro w' hSw;go_simp;try with_reducible rfl)
  try simp only[Act.put,zq1,zq2,zq3]
  refine wpAnyH_done (by kernel_rfl) ?_ _
  clear hHeld
  go_wp2_with fail
  go_ret2
  exact⟨⟨T5,by rw[HX.out];exact H5.out,by rw[HX.out];rfl⟩,HF.out.bel⟩
end Go.Proofs.YtmihiknebelkbaaGreat.Own
