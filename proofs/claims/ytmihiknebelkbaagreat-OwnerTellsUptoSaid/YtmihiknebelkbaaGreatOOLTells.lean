/-
  OLTells. By an AI agent.
-/
import Derived.Test.YtmihiknebelkbaaGreatOZ
import Derived.Test.YtmihiknebelkbaaGreatOOSame
import Derived.Test.YtmihiknebelkbaaGreatOOAs
import Derived.Test.YtmihiknebelkbaaGreatOOFew
import Derived.Test.YtmihiknebelkbaaGreatOOTake
import Derived.Test.YtmihiknebelkbaaGreatOOPutC
set_option linter.unusedSimpArgs false
set_option linter.unusedVariables false
set_option maxHeartbeats 16000000
namespace Go.Proofs.YtmihiknebelkbaaGreat.Own
open Go Go.RowKit Wire Term Rig Mta Frm Usr
theorem few_ezero:FewE ezero:=⟨fewM_zero,Nat.zero_le _,Nat.zero_le _,Nat.zero_le _,show 0<18446744073709551616 by decide,Nat.zero_le _,fun _ h=>(List.not_mem_nil h).elim,by decide,by decide⟩
theorem few_bs {e:Env} (h:FewE e):e.m.bs.length≤1000:=by
 obtain⟨_,_,h1,_⟩:=h.m;omega
theorem isE_parts {ok:Nat→Prop} {w:World} {o f sig:ByteArray} {ep:Int} {A:Option Addr} {n c:Nat} {B:Option Addr} {m d:Nat} {ver:Int} {V:Option Addr} {k cv:Nat} {K:Option Addr} {q ck:Nat} {O R G:ByteArray} {P:Option Addr} {cp:Nat} {ps:List ByteArray} {X:Env}
 (h:(mwP ok [.string o,.string f,.int .i64 ep,.slice A n c,.slice B m d,.int .u64 ver,.slice V k cv,.slice K q ck,.string sig] X.m).P w) (h2:(rowP P ps).P w) (h3:O.data.toList=X.s.own∧R.data.toList=X.s.root∧G.data.toList=X.s.sig) (h4:bl ps=X.pf):
 IsE w (.agg #[.string o,.string f,.int .i64 ep,.slice A n c,.slice B m d,.int .u64 ver,.slice V k cv,.slice K q ck,.string sig,.string O,.int .u64 (X.s.time:Int),.int .i64 X.s.many,.string R,.string G,.int .i64 X.i,.slice P ps.length cp]) X:=by
 have h1:=isE_mk (i:=X.i) (cp:=cp) (IsM.isW h) ⟨h3.1,rfl,rfl,h3.2.1,h3.2.2⟩ h2;rw[h4]at h1;exact h1
theorem take_few {s:Tm} (h:s.length≤20000):FewE (takeE s).1:=by
 rw[←takeC_is (by omega)];unfold takeC;cases hr:readC s with
 | none=>exact few_ezero
 | some e=>
  show FewE (if ER e then(e,(0:Int))else(ezero,2)).1
  by_cases h1:ER e
  ·rw[if_pos h1];exact readC_few (by omega) hr
  ·rw[if_neg h1];exact few_ezero
set_option maxRecDepth 1000000 in
theorem tells_walk (vs:List Value) (e:Env) (S a b:ByteArray) (w:World) (h:IsE w (.agg vs.toArray) e) (hu:(e.m.r.rs.length≤140737488351232∧e.m.r.ws.length≤140737488351232∧e.m.vf.length≤140737488351232∧e.m.bs.length≤140737488351232∧e.pf.length≤140737488351232)∧a.size≤1048576∧b.size≤1048576∧(e.m.vf.length≤20∧e.m.bs.length≤20∧e.m.r.rs.length+e.m.r.ws.length≤20∧e.pf.length≤20→FewE e)) (hS:S.size≤1048576):Calls Tryz.prog 3 #[.agg vs.toArray,.string S,.string a,.string b] w fun z w'=>z = .returned (.bool true)∧Below w.heap.size w w':=by
 obtain⟨o,f,sig,ep,A,n,c,B,m,d,ver,V,k,cv,K,q,ck,O,R,G,P,cp,ps,he,-,-,-,-⟩:=isE_lit h
 injection he with he
 obtain rfl:=Array.mk.inj he
 clear he
 obtain⟨u1,u2,u3,u4⟩:=hu
 have HE:=zh h
 have hold:=(eP [.string o,.string f,.int .i64 ep,.slice A n c,.slice B m d,.int .u64 (ver:Int),.slice V k cv,.slice K q ck,.string sig,.string O,.int .u64 (e.s.time:Int),.int .i64 e.s.many,.string R,.string G,.int .i64 e.i,.slice P ps.length cp] e).old (w:=w) h
 have HOLD:=zh hold
 have q1:((a.size:Nat):Int)+(b.size:Int)≤2097152:=by omega
 have w1x:IntKind.i64.wrap ((a.size:Int)+(b.size:Int))=(a.size:Int)+(b.size:Int):=by rw[IntKind.wrap_i64];omega
 have HTC:=zh fun(w:World) (hS2:S.size≤20000)=>otake_code S w (by omega)
 have HTR:=zh fun(w:World) (hS2:S.size≤20000)=>otake_ref S w (by omega)
 have hft:=take_few (s:=S.data.toList)
 obtain⟨X,r,hX⟩:∃X r,takeE S.data.toList=(X,r):=⟨_,_,rfl⟩
 rw[hX]at HTC HTR hft
 have HFT:=zh hft
 have HFU:=zh u4
 have HB:=zh u1
 clear hX hft u4 h hold hS
 have HF:=zh (fm_refl w)
 go_enter Tryz.func3,Tryz.ntmps3
 go_wp2_with fail
 have hF:=HF.out.box #[.string o,.string f,.int .i64 ep,.slice A n c,.slice B m d,.int .u64 (ver:Int),.slice V k cv,.slice K q ck,.string sig,.string O,.int .u64 (e.s.time:Int),.int .i64 e.s.many,.string R,.string G,.int .i64 e.i,.slice P ps.length cp] 32
 obtain⟨ge,hg⟩:∃g,w.heap.size=g:=⟨_,rfl⟩
 rw[hg]at hF⊢
 clear hg
 generalize w.alloc (.cells #[.string o,.string f,.int .i64 ep,.slice A n c,.slice B m d,.int .u64 (ver:Int),.slice V k cv,.slice K q ck,.string sig,.string O,.int .u64 (e.s.time:Int),.int .i64 e.s.many,.string R,.string G,.int .i64 e.i,.slice P ps.length cp] 32)=w1 at hF⊢
 replace HF:=zh hF
 clear hF
 with_reducible refine(shown15_any _).mono ?_
 rintro e w1 ⟨rfl,hb⟩
 replace HF:=zh (HF.out.go hb)
 clear hb
 try dsimp only
 have hL:=HF.out.at 0 rfl
 go_wp2_with (refine wpList_load_row (by rfl) _ _ (by rfl) ge (by rfl) _ _ _ _ hL Tryz.underlying32 rfl (by kernel_rfl) ?_)
 clear hL
 with_reducible refine(few15_any _ e _ (HE.out.below HF.out.bel) HB.out).mono ?_
 rintro z w1 ⟨⟨bf,rfl,hfew2⟩,hb⟩
 replace HF:=zh (HF.out.go hb)
 clear hb
 dsimp only
 cases bf
 ·go_wp2_with fail
  go_ret
  exact⟨rfl,HF.out.bel⟩
 have HFE:=zh (HFU.out (hfew2 rfl))
 clear hfew2
 by_cases k1:(20000:Int)<(S.size:Int)
 ·go_wp2_with fail
  go_ret
  exact⟨rfl,HF.out.bel⟩
 by_cases k2:(1000:Int)<(a.size:Int)+(b.size:Int)
 ·go_wp2_with fail
  go_ret
  exact⟨rfl,HF.out.bel⟩
 have hFX:=HFT.out (by rw[←Lib.size_eq];omega)
 have HFX:=zh hFX
 have HSZ:Hid (S.size≤20000):=zh (by omega)
 clear hFX
 have hL:=HF.out.at 0 rfl
 go_wp2_with (refine wpList_load_row (by rfl) _ _ (by rfl) ge (by rfl) _ _ _ _ hL Tryz.underlying32 rfl (by kernel_rfl) ?_)
 clear hL
 with_reducible refine(as15_any [.string o,.string f,.int .i64 ep,.slice A n c,.slice B m d,.int .u64 (ver:Int),.slice V k cv,.slice K q ck,.string sig,.string O,.int .u64 (e.s.time:Int),.int .i64 e.s.many,.string R,.string G,.int .i64 e.i,.slice P ps.length cp] e _ (HE.out.below HF.out.bel) (few_bs HFE.out)).mono ?_
 rintro z w1 ⟨⟨us,h1,hbk,-,rfl⟩,hb⟩
 obtain⟨ox,fx,sigx,epx,Ax,nx,cx,Bx,mx,dx,verx,Vx,kx,cvx,Kx,qx,ckx,Ox,Rx,Gx,Px,cpx,psx,he,-,-,-,-⟩:=isE_lit h1
 injection he with he
 obtain rfl:=Array.mk.inj he
 clear he
 replace HF:=zh (Fm.far (q:=eP [.string ox,.string fx,.int .i64 epx,.slice Ax nx cx,.slice Bx mx dx,.int .u64 (verx:Int),.slice Vx kx cvx,.slice Kx qx ckx,.string sigx,.string Ox,.int .u64 (e.s.time:Int),.int .i64 e.s.many,.string Rx,.string Gx,.int .i64 e.i,.slice Px psx.length cpx] e) HF.out hb h1 (fun _ h=>h) (fun b hb=>(hbk b hb).imp (HOLD.out b) id))
 clear h1 hbk hb
 dsimp only
 have hL:=(HF.out.box #[.string ox,.string fx,.int .i64 epx,.slice Ax nx cx,.slice Bx mx dx,.int .u64 (verx:Int),.slice Vx kx cvx,.slice Kx qx ckx,.string sigx,.string Ox,.int .u64 (e.s.time:Int),.int .i64 e.s.many,.string Rx,.string Gx,.int .i64 e.i,.slice Px psx.length cpx] 40).at 2 rfl
 go_wp2_with (refine wpList_load_row (by rfl) _ _ (by rfl) ge (by rfl) _ _ _ _ hL Tryz.underlying32 rfl (by kernel_rfl) ?_)
 clear hL
 have hF:=HF.out.box #[.string ox,.string fx,.int .i64 epx,.slice Ax nx cx,.slice Bx mx dx,.int .u64 (verx:Int),.slice Vx kx cvx,.slice Kx qx ckx,.string sigx,.string Ox,.int .u64 (e.s.time:Int),.int .i64 e.s.many,.string Rx,.string Gx,.int .i64 e.i,.slice Px psx.length cpx] 40
 obtain⟨gx,hg⟩:∃g,w1.heap.size=g:=⟨_,rfl⟩
 rw[hg]at hF⊢
 clear hg
 generalize w1.alloc (.cells #[.string ox,.string fx,.int .i64 epx,.slice Ax nx cx,.slice Bx mx dx,.int .u64 (verx:Int),.slice Vx kx cvx,.slice Kx qx ckx,.string sigx,.string Ox,.int .u64 (e.s.time:Int),.int .i64 e.s.many,.string Rx,.string Gx,.int .i64 e.i,.slice Px psx.length cpx] 40)=w1 at hF⊢
 replace HF:=zh hF
 clear hF
 with_reducible refine(oput_code _ e _ (HE.out.below HF.out.bel) HFE.out).mono ?_
 rintro e w1 ⟨⟨C,hC,rfl⟩,hb⟩
 replace HF:=zh (HF.out.go hb)
 clear hb
 have HC:=zh hC
 clear hC
 try dsimp only
 have hL:=HF.out.at 0 rfl
 go_wp2_with (refine wpList_load_row (by rfl) _ _ (by rfl) gx (by rfl) _ _ _ _ hL Tryz.underlying40 rfl (by kernel_rfl) ?_)
 clear hL
 with_reducible refine(oput_ref _ e _ (HF.out.at 1 rfl) HFE.out).mono ?_
 rintro e w1 ⟨⟨D,hD,rfl⟩,hb⟩
 replace HF:=zh (HF.out.go hb)
 clear hb
 obtain rfl:C=D:=str_eq (HC.out.trans hD.symm)
 clear hD
 try dsimp only
 generalize (putE e).2=pe
 go_wp2_with fail
 with_reducible refine(HTC.out _ HSZ.out).mono ?_
 rintro e w1 ⟨⟨v,hv,rfl⟩,hb⟩
 obtain⟨oy,fy,sigy,epy,Ay,ny,cy,By,my,dy,very,Vy,ky,cvy,Ky,qy,cky,Oy,Ry,Gy,Py,cpy,psy,rfl,hF,hs3,hpf,-⟩:=ee_fm HF.out hv hb
 replace HF:=zh hF
 have HSy:=zh hs3
 have HPFy:=zh hpf
 clear hv hb hF hs3 hpf
 dsimp only
 go_wp2_with fail
 have hF:=HF.out.box #[.string oy,.string fy,.int .i64 epy,.slice Ay ny cy,.slice By my dy,.int .u64 (very:Int),.slice Vy ky cvy,.slice Ky qy cky,.string sigy,.string Oy,.int .u64 (X.s.time:Int),.int .i64 X.s.many,.string Ry,.string Gy,.int .i64 X.i,.slice Py psy.length cpy] 32
 obtain⟨gy,hg⟩:∃g,w1.heap.size=g:=⟨_,rfl⟩
 rw[hg]at hF⊢
 clear hg
 generalize w1.alloc (.cells #[.string oy,.string fy,.int .i64 epy,.slice Ay ny cy,.slice By my dy,.int .u64 (very:Int),.slice Vy ky cvy,.slice Ky qy cky,.string sigy,.string Oy,.int .u64 (X.s.time:Int),.int .i64 X.s.many,.string Ry,.string Gy,.int .i64 X.i,.slice Py psy.length cpy] 32)=w1 at hF⊢
 replace HF:=zh hF
 clear hF
 with_reducible refine(HTR.out _ HSZ.out).mono ?_
 rintro e w1 ⟨⟨v,hv,rfl⟩,hb⟩
 obtain⟨oz,fz,sigz,epz,Az,nz,cz,Bz,mz,dz,verz,Vz,kz,cvz,Kz,qz,ckz,Oz,Rz,Gz,Pz,cpz,psz,rfl,hF,hs3,hpf,-⟩:=ee_fm HF.out hv hb
 replace HF:=zh hF
 have HSz:=zh hs3
 have HPFz:=zh hpf
 clear hv hb hF hs3 hpf
 dsimp only
 go_wp2_with fail
 have hF:=HF.out.box #[.string oz,.string fz,.int .i64 epz,.slice Az nz cz,.slice Bz mz dz,.int .u64 (verz:Int),.slice Vz kz cvz,.slice Kz qz ckz,.string sigz,.string Oz,.int .u64 (X.s.time:Int),.int .i64 X.s.many,.string Rz,.string Gz,.int .i64 X.i,.slice Pz psz.length cpz] 40
 obtain⟨gz,hg⟩:∃g,w1.heap.size=g:=⟨_,rfl⟩
 rw[hg]at hF⊢
 clear hg
 generalize w1.alloc (.cells #[.string oz,.string fz,.int .i64 epz,.slice Az nz cz,.slice Bz mz dz,.int .u64 (verz:Int),.slice Vz kz cvz,.slice Kz qz ckz,.string sigz,.string Oz,.int .u64 (X.s.time:Int),.int .i64 X.s.many,.string Rz,.string Gz,.int .i64 X.i,.slice Pz psz.length cpz] 40)=w1 at hF⊢
 replace HF:=zh hF
 clear hF
 have HRC:=zh fun(w:World) (h:IsE w (.agg #[.string o,.string f,.int .i64 ep,.slice A n c,.slice B m d,.int .u64 (ver:Int),.slice V k cv,.slice K q ck,.string sig,.string O,.int .u64 (e.s.time:Int),.int .i64 e.s.many,.string R,.string G,.int .i64 e.i,.slice P ps.length cp]) e)=>oright_code _ e w h HFE.out
 have HRR:=zh fun(w:World) (h:IsE w (.agg #[.string ox,.string fx,.int .i64 epx,.slice Ax nx cx,.slice Bx mx dx,.int .u64 (verx:Int),.slice Vx kx cvx,.slice Kx qx ckx,.string sigx,.string Ox,.int .u64 (e.s.time:Int),.int .i64 e.s.many,.string Rx,.string Gx,.int .i64 e.i,.slice Px psx.length cpx]) e)=>oright_ref _ e w h HFE.out
 generalize decide (ER e)=br at HRC HRR
 have HM1:=zh fun w=>metakey_any a b w (by omega)
 have HM2:=zh fun w=>rmetakey_any a b w (by omega)
 have HM3:=zh fun w=>datakey_any a b w (by omega)
 have HM4:=zh fun w=>rdatakey_any a b w (by omega)
 generalize key 102 a b=K1 at HM1 HM2
 generalize key 100 a b=K2 at HM3 HM4
 have HEY:Hid (∀w',(mwP (fun b=>w.heap.size≤b) [.string oy,.string fy,.int .i64 epy,.slice Ay ny cy,.slice By my dy,.int .u64 (very:Int),.slice Vy ky cvy,.slice Ky qy cky,.string sigy] X.m).P w'→(rowP Py psy).P w'→IsE w' (.agg #[.string oy,.string fy,.int .i64 epy,.slice Ay ny cy,.slice By my dy,.int .u64 (very:Int),.slice Vy ky cvy,.slice Ky qy cky,.string sigy,.string Oy,.int .u64 (X.s.time:Int),.int .i64 X.s.many,.string Ry,.string Gy,.int .i64 X.i,.slice Py psy.length cpy]) X):=zh fun w' k1 k2=>isE_parts k1 k2 HSy.out HPFy.out
 have HEZ:Hid (∀w',(mwP (fun b=>w.heap.size≤b) [.string oz,.string fz,.int .i64 epz,.slice Az nz cz,.slice Bz mz dz,.int .u64 (verz:Int),.slice Vz kz cvz,.slice Kz qz ckz,.string sigz] X.m).P w'→(rowP Pz psz).P w'→IsE w' (.agg #[.string oz,.string fz,.int .i64 epz,.slice Az nz cz,.slice Bz mz dz,.int .u64 (verz:Int),.slice Vz kz cvz,.slice Kz qz ckz,.string sigz,.string Oz,.int .u64 (X.s.time:Int),.int .i64 X.s.many,.string Rz,.string Gz,.int .i64 X.i,.slice Pz psz.length cpz]) X):=zh fun w' k1 k2=>isE_parts k1 k2 HSz.out HPFz.out
 go_wp2_with fail
 generalize Value.agg #[.string o,.string f,.int .i64 ep,.slice A n c,.slice B m d,.int .u64 (ver:Int),.slice V k cv,.slice K q ck,.string sig,.string O,.int .u64 (e.s.time:Int),.int .i64 e.s.many,.string R,.string G,.int .i64 e.i,.slice P ps.length cp]=a0
 generalize Value.agg #[.string ox,.string fx,.int .i64 epx,.slice Ax nx cx,.slice Bx mx dx,.int .u64 (verx:Int),.slice Vx kx cvx,.slice Kx qx ckx,.string sigx,.string Ox,.int .u64 (e.s.time:Int),.int .i64 e.s.many,.string Rx,.string Gx,.int .i64 e.i,.slice Px psx.length cpx]=a1
 generalize Value.agg #[.string oy,.string fy,.int .i64 epy,.slice Ay ny cy,.slice By my dy,.int .u64 (very:Int),.slice Vy ky cvy,.slice Ky qy cky,.string sigy,.string Oy,.int .u64 (X.s.time:Int),.int .i64 X.s.many,.string Ry,.string Gy,.int .i64 X.i,.slice Py psy.length cpy]=a2
 generalize Value.agg #[.string oz,.string fz,.int .i64 epz,.slice Az nz cz,.slice Bz mz dz,.int .u64 (verz:Int),.slice Vz kz cvz,.slice Kz qz ckz,.string sigz,.string Oz,.int .u64 (X.s.time:Int),.int .i64 X.s.many,.string Rz,.string Gz,.int .i64 X.i,.slice Pz psz.length cpz]=a3
 have hdr:=HF.out.go (Below.drewN' (Below.refl w1.heap.size w1) 1)
 have hfull:=HF.out.go (Below.drewN' (Below.refl w1.heap.size w1) 1)
 refine wp_region_held_drew (S:=fun w'=>Fm w w' _) (by kernel_rfl) hdr (fun hHeld=>?_)
 clear hHeld
 replace hdr:Fm w w1.drew _:=hdr
 replace hfull:Fm w w1.drew _:=hfull
 generalize w1.drew=w1 at hdr hfull⊢
 replace HF:=zh hfull
 have hHeld:=hdr
 clear hdr hfull
 refine zqT 0 ?_ ?_ ?_;rotate_left;· (intro w' hSw;go_simp;try with_reducible rfl)
 refine zqT 1 ?_ ?_ ?_;rotate_left;· (intro w' hSw;go_simp;try with_reducible rfl)
 refine zqT 3 ?_ ?_ ?_;rotate_left;· (intro w' hSw;go_simp;try with_reducible rfl)
 try simp only[Act.put,zq1,zq2,zq3]
 refine zqT 4 ?_ ?_ ?_;rotate_left;· (intro w' hSw;go_simp;try with_reducible rfl)
 try simp only[Act.put,zq1,zq2,zq3]
 clear hHeld
 refine zqR [2] ?_
 refine zqC (fun Kn hK=>?_) AllReadyH.nil
 go_simp
 with_reducible refine(HM1.out _).mono ?_
 rintro en w2 ⟨rfl,hb⟩
 replace HF:=zh (HF.out.go hb)
 clear hb
 generalize w2=w1 at HF⊢
 try dsimp only
 refine hK.out _ _ (HF.out) (fun hHeld=>?_)
 try simp only[Act.put,zq1,zq2,zq3]
 clear hHeld
 refine zqR [5] ?_
 refine zqC (fun Kn hK=>?_) AllReadyH.nil
 go_simp
 with_reducible refine(HM2.out _).mono ?_
 rintro en w2 ⟨rfl,hb⟩
 replace HF:=zh (HF.out.go hb)
 clear hb
 generalize w2=w1 at HF⊢
 try dsimp only
 refine hK.out _ _ (HF.out) (fun hHeld=>?_)
 refine zqT 6 ?_ ?_ ?_;rotate_left;· (intro w' hSw;go_simp;try with_reducible rfl)
 refine zqT 7 ?_ ?_ ?_;rotate_left;· (intro w' hSw;go_simp;try with_reducible rfl)
 refine zqT 8 ?_ ?_ ?_;rotate_left;· (intro w' hSw;go_simp;try with_reducible rfl)
 try simp only[Act.put,zq1,zq2,zq3]
 refine zqT 9 ?_ ?_ ?_;rotate_left;· (intro w' hSw;go_simp;try with_reducible rfl)
 refine zqT 11 ?_ ?_ ?_;rotate_left;· (intro w' hSw;go_simp;try with_reducible rfl)
 refine zqT 12 ?_ ?_ ?_;rotate_left;· (intro w' hSw;go_simp;try with_reducible rfl)
 try simp only[Act.put,zq1,zq2,zq3]
 try simp only[Act.put,zq1,zq2,zq3]
 clear hHeld
 refine zqR [10] ?_
 refine zqC (fun Kn hK=>?_) AllReadyH.nil
 go_simp
 with_reducible refine(HM3.out _).mono ?_
 rintro en w2 ⟨rfl,hb⟩
 replace HF:=zh (HF.out.go hb)
 clear hb
 generalize w2=w1 at HF⊢
 try dsimp only
 refine hK.out _ _ (HF.out) (fun hHeld=>?_)
 try simp only[Act.put,zq1,zq2,zq3]
 clear hHeld
 refine zqR [13] ?_
 refine zqC (fun Kn hK=>?_) AllReadyH.nil
 go_simp
 with_reducible refine(HM4.out _).mono ?_
 rintro en w2 ⟨rfl,hb⟩
 replace HF:=zh (HF.out.go hb)
 clear hb
 generalize w2=w1 at HF⊢
 try dsimp only
 refine hK.out _ _ (HF.out) (fun hHeld=>?_)
 refine zqT 14 ?_ ?_ ?_;rotate_left;· (intro w' hSw;go_simp;try with_reducible rfl)
 refine zqT 15 ?_ ?_ ?_;rotate_left;· (intro w' hSw;go_simp;try with_reducible rfl)
 refine zqT 16 ?_ ?_ ?_;rotate_left;· (intro w' hSw;go_simp;try with_reducible rfl)
 try simp only[Act.put,zq1,zq2,zq3]
 refine zqT 17 ?_ ?_ ?_;rotate_left;· (intro w' hSw;refine(exec_load_row _ (.tmp 4) ?_ ge ?_ _ _ _ _ (hSw.at 8 rfl) Tryz.underlying32 ?_ ?_).trans ?_;rfl;rfl;rfl;kernel_rfl;with_reducible rfl)
 refine zqT 19 ?_ ?_ ?_;rotate_left;· (intro w' hSw;refine(exec_load_row _ (.tmp 11) ?_ gx ?_ _ _ _ _ (hSw.at 6 rfl) Tryz.underlying40 ?_ ?_).trans ?_;rfl;rfl;rfl;kernel_rfl;with_reducible rfl)
 try simp only[Act.put,zq1,zq2,zq3]
 clear hHeld
 refine zqR [18] ?_
 refine zqC (fun Kn hK=>?_) AllReadyH.nil
 go_simp
 with_reducible refine(HRC.out _ (HE.out.below HF.out.bel)).mono ?_
 rintro en w2 ⟨rfl,hb⟩
 replace HF:=zh (HF.out.go hb)
 clear hb
 generalize w2=w1 at HF⊢
 try dsimp only
 refine hK.out _ _ (HF.out) (fun hHeld=>?_)
 try simp only[Act.put,zq1,zq2,zq3]
 clear hHeld
 refine zqR [20] ?_
 refine zqC (fun Kn hK=>?_) AllReadyH.nil
 go_simp
 with_reducible refine(HRR.out _ (HF.out.at 7 rfl)).mono ?_
 rintro en w2 ⟨rfl,hb⟩
 replace HF:=zh (HF.out.go hb)
 clear hb
 generalize w2=w1 at HF⊢
 try dsimp only
 refine hK.out _ _ (HF.out) (fun hHeld=>?_)
 refine zqT 21 ?_ ?_ ?_;rotate_left;· (intro w' hSw;go_simp;try with_reducible rfl)
 refine zqT 22 ?_ ?_ ?_;rotate_left;· (intro w' hSw;go_simp;try with_reducible rfl)
 refine zqT 23 ?_ ?_ ?_;rotate_left;· (intro w' hSw;go_simp;try with_reducible rfl)
 try simp only[Act.put,zq1,zq2,zq3]
 refine zqT 24 ?_ ?_ ?_;rotate_left;· (intro w' hSw;go_simp;try with_reducible rfl)
 refine zqT 25 ?_ ?_ ?_;rotate_left;· (intro w' hSw;go_simp;try with_reducible rfl)
 refine zqT 26 ?_ ?_ ?_;rotate_left;· (intro w' hSw;go_simp;try with_reducible rfl)
 try simp only[Act.put,zq1,zq2,zq3]
 refine zqT 27 ?_ ?_ ?_;rotate_left;· (intro w' hSw;go_simp;try with_reducible rfl)
 refine zqT 28 ?_ ?_ ?_;rotate_left;· (intro w' hSw;go_simp;try with_reducible rfl)
 refine zqT 29 ?_ ?_ ?_;rotate_left;· (intro w' hSw;go_simp;try with_reducible rfl)
 try simp only[Act.put,zq1,zq2,zq3]
 refine zqT 30 ?_ ?_ ?_;rotate_left;· (intro w' hSw;go_simp;try with_reducible rfl)
 refine zqT 31 ?_ ?_ ?_;rotate_left;· (intro w' hSw;go_simp;try with_reducible rfl)
 refine zqT 32 ?_ ?_ ?_;rotate_left;· (intro w' hSw;go_simp;try with_reducible rfl)
 try simp only[Act.put,zq1,zq2,zq3]
 refine zqT 33 ?_ ?_ ?_;rotate_left;· (intro w' hSw;go_simp;try with_reducible rfl)
 refine zqT 34 ?_ ?_ ?_;rotate_left;· (intro w' hSw;refine(exec_load_row _ (.tmp 16) ?_ gy ?_ _ _ _ _ (hSw.at 3 rfl) Tryz.underlying32 ?_ ?_).trans ?_;rfl;rfl;rfl;kernel_rfl;with_reducible rfl)
 refine zqT 36 ?_ ?_ ?_;rotate_left;· (intro w' hSw;refine(exec_load_row _ (.tmp 18) ?_ gz ?_ _ _ _ _ (hSw.at 0 rfl) Tryz.underlying40 ?_ ?_).trans ?_;rfl;rfl;rfl;kernel_rfl;with_reducible rfl)
 try simp only[Act.put,zq1,zq2,zq3]
 try simp only[Act.put,zq1,zq2,zq3]
 clear hHeld
 refine zqR [35] ?_
 refine zqC (fun Kn hK=>?_) AllReadyH.nil
 go_simp
 with_reducible refine(as15_any [.string oy,.string fy,.int .i64 epy,.slice Ay ny cy,.slice By my dy,.int .u64 (very:Int),.slice Vy ky cvy,.slice Ky qy cky,.string sigy,.string Oy,.int .u64 (X.s.time:Int),.int .i64 X.s.many,.string Ry,.string Gy,.int .i64 X.i,.slice Py psy.length cpy] X _ (HEY.out _ (HF.out.at 5 rfl) (HF.out.at 4 rfl)) (few_bs HFX.out)).mono ?_
 rintro en w2 ⟨⟨us,h1,-,-,rfl⟩,hb⟩
 replace HF:=zh (HF.out.go hb)
 have HU:=zh h1
 clear hb h1
 generalize w2=w1 at HF HU⊢
 try dsimp only
 refine hK.out _ _ (HF.out) (fun hHeld=>?_)
 try simp only[Act.put,zq1,zq2,zq3]
 clear hHeld
 refine zqR [37] ?_
 refine zqC (fun Kn hK=>?_) AllReadyH.nil
 go_simp
 with_reducible refine(osame_any _ _ X _ HU.out (HEZ.out _ (HF.out.at 2 rfl) (HF.out.at 1 rfl)) HFX.out).mono ?_
 rintro en w2 ⟨rfl,hb⟩
 replace HF:=zh (HF.out.go hb)
 clear hb
 generalize w2=w1 at HF⊢
 try dsimp only
 refine hK.out _ _ (HF.out) (fun hHeld=>?_)
 refine zqT 38 ?_ ?_ ?_;rotate_left;· (intro w' hSw;go_simp;try with_reducible rfl)
 refine zqT 39 ?_ ?_ ?_;rotate_left;· (intro w' hSw;go_simp;try with_reducible rfl)
 refine zqT 40 ?_ ?_ ?_;rotate_left;· (intro w' hSw;go_simp;try with_reducible rfl)
 try simp only[Act.put,zq1,zq2,zq3]
 refine zqT 41 ?_ ?_ ?_;rotate_left;· (intro w' hSw;go_simp;try with_reducible rfl)
 refine zqT 42 ?_ ?_ ?_;rotate_left;· (intro w' hSw;go_simp;try with_reducible rfl)
 refine zqT 43 ?_ ?_ ?_;rotate_left;· (intro w' hSw;go_simp;try with_reducible rfl)
 try simp only[Act.put,zq1,zq2,zq3]
 refine zqT 44 ?_ ?_ ?_;rotate_left;· (intro w' hSw;go_simp;try with_reducible rfl)
 try simp only[Act.put,zq1,zq2,zq3]
 refine wpAnyH_done (by kernel_rfl) ?_ _
 clear hHeld
 go_wp2_with fail
 go_ret
 exact⟨rfl,HF.out.bel⟩
end Go.Proofs.YtmihiknebelkbaaGreat.Own
