/-
  MPut, MSpec, MSame. By an AI agent.
-/
import Derived.Test.YtmihiknebelkbaaGreatOZ
import Derived.Test.YtmihiknebelkbaaGreatOMBody
import Derived.Test.YtmihiknebelkbaaGreatOMApp
import Derived.Test.YtmihiknebelkbaaGreatOT1
import Derived.Test.YtmihiknebelkbaaGreatOO1
import Derived.Deep.QuietTactic
import Derived.BigQuiet
import Derived.Test.YtmihiknebelkbaaGreatOMRight
import Derived.Test.YtmihiknebelkbaaGreatOG3
set_option linter.unusedSimpArgs false
set_option linter.unusedVariables false
set_option maxHeartbeats 8000000
namespace Go.Proofs.YtmihiknebelkbaaGreat.Mta
open Go.RowKit Wire Term Rig
set_option maxRecDepth 1000000 in
theorem mput_any (o f sig:ByteArray) (ep:Int) (A:Option Addr) (c:Nat) (rs:List ByteArray) (B:Option Addr) (d:Nat) (ws:List ByteArray) (ver:Nat) (V:Option Addr) (cv:Nat) (vs:List ByteArray) (K:Option Addr) (ck:Nat) (ks:List (ByteArray×ByteArray)) (w:World) (hA:SReads w A rs) (hB:SReads w B ws) (hV:SReads w V vs) (hK:PReads w K ks) (hna:A=none→c=0) (hnb:B=none→d=0) (hf:FewM ⟨⟨o.data.toList,f.data.toList,ep,bl rs,bl ws⟩,ver,bl vs,pl ks,sig.data.toList⟩):
 Calls Tryz.prog 23 #[.agg #[.string o,.string f,.int .i64 ep,.slice A rs.length c,.slice B ws.length d,.int .u64 (ver:Int),.slice V vs.length cv,.slice K ks.length ck,.string sig]] w fun e w'=>Srt (putM ⟨⟨o.data.toList,f.data.toList,ep,bl rs,bl ws⟩,ver,bl vs,pl ks,sig.data.toList⟩) e∧Below w.heap.size w w':=by
 have HA:=zh hA;have HBB:=zh hB;have HV:=zh hV;have HK:=zh hK;have HRT:=zh fun w h1 h2 h3 h4=>mright_any o f sig ep A c rs B d ws ver V cv vs K ck ks w h1 h2 h3 h4 hna hnb hf
 by_cases hr:MR ⟨⟨o.data.toList,f.data.toList,ep,bl rs,bl ws⟩,ver,bl vs,pl ks,sig.data.toList⟩
 case neg=>
  rw[show putM ⟨⟨o.data.toList,f.data.toList,ep,bl rs,bl ws⟩,ver,bl vs,pl ks,sig.data.toList⟩=([],1)by unfold putM;rw[if_neg hr]];rw[decide_eq_false hr]at HRT;clear hA hB hV hK hna hnb hf hr;go_enter Tryz.func23,Tryz.ntmps23;go_wp2_with fail;with_reducible refine(HRT.out _ (HA.out.below (al _ _) zl) (HBB.out.below (al _ _) zl) (HV.out.below (al _ _) zl) (HK.out.below (al _ _) zl)).mono ?_
  rintro e w1 ⟨rfl,hb1⟩;have HB1:=zh (after_alloc (Below.refl _ w) hb1);clear hb1;dsimp only;go_wp2;go_ret2;exact⟨⟨⟨#[]⟩,rfl,rfl⟩,HB1.out⟩
 rw[decide_eq_true hr]at HRT;have HBY:=zh fun w h1 h2 h3 h4=>body_any o f sig ep A c rs B d ws ver V cv vs K ck ks w h1 h2 h3 h4 hf hr.1
 rw[show putM ⟨⟨o.data.toList,f.data.toList,ep,bl rs,bl ws⟩,ver,bl vs,pl ks,sig.data.toList⟩=(putAll [bodyB ⟨⟨o.data.toList,f.data.toList,ep,bl rs,bl ws⟩,ver,bl vs,pl ks,sig.data.toList⟩,sig.data.toList],0)by unfold putM;rw[if_pos hr]];have hbs:=body_small hr hf.2.2.2.2.2.2;have hss:=kd_len hr.2.2.1 (by decide);simp only at hss
 have HPP:Hid (∀(T:ByteArray) (g:Nat) (w:World),T.data.toList=bodyB ⟨⟨o.data.toList,f.data.toList,ep,bl rs,bl ws⟩,ver,bl vs,pl ks,sig.data.toList⟩→SReads w (some ⟨g,0,none⟩) [T,sig]→Calls Tryz.prog 25 #[.slice (some ⟨g,0,none⟩) 2 2] w fun e w'=>St (putAll [bodyB ⟨⟨o.data.toList,f.data.toList,ep,bl rs,bl ws⟩,ver,bl vs,pl ks,sig.data.toList⟩,sig.data.toList]) e∧Below w.heap.size w w'):=fun T g w hT hr=>by
  have h:=refPutAll_any (some ⟨g,0,none⟩) 2 [T,sig] w hr (by simp) (by
   show([T.data.toList,sig.data.toList]:List Tm).flatten.length≤_;rw[hT];simp only[List.flatten_cons,List.flatten_nil,List.length_append,List.length_nil]
   omega)
  rw[show bl [T,sig] = [bodyB ⟨⟨o.data.toList,f.data.toList,ep,bl rs,bl ws⟩,ver,bl vs,pl ks,sig.data.toList⟩,sig.data.toList]by show[T.data.toList,sig.data.toList]=_;rw[hT]]at h;exact h
 clear hbs hss;clear hA hB hV hK hna hnb hf hr;go_enter Tryz.func23,Tryz.ntmps23;go_wp2_with fail;have hmx:=mx_alloc w o f ep A rs.length c B ws.length d ver V vs.length cv K ks.length ck sig 37;have hb0:=al w (.cells #[.string o,.string f,.int .i64 ep,.slice A rs.length c,.slice B ws.length d,.int .u64 (ver:Int),.slice V vs.length cv,.slice K ks.length ck,.string sig] 37);have HB:=zh hb0;have HMX:=zh hmx;clear hmx hb0;obtain⟨g,hg⟩:∃g,w.heap.size=g:=⟨_,rfl⟩
 generalize w.alloc (.cells #[.string o,.string f,.int .i64 ep,.slice A rs.length c,.slice B ws.length d,.int .u64 (ver:Int),.slice V vs.length cv,.slice K ks.length ck,.string sig] 37)=w1 at HB HMX⊢;rw[hg]at HMX⊢;clear hg;with_reducible refine(HRT.out _ (HA.out.below HB.out zl) (HBB.out.below HB.out zl) (HV.out.below HB.out zl) (HK.out.below HB.out zl)).mono ?_
 rintro e w2 ⟨rfl,hb2⟩;have HB2:=zh (Bel.call HB.out hb2);replace HMX:=zh (HMX.out.call hb2);clear hb2 HB;dsimp only;obtain⟨⟨m0,m1,m2,m3,m4,m5,m6,m7,m8⟩,_⟩:=HMX.out;have HBJ:=zh (Below.refl w2.heap.size w2);go_wp2_with fail;have ha0:Below w2.heap.size w2 w2.drew:=Below.drewN' (Below.refl _ _) 1;have hs0:=Bel.call HBJ.out ha0;obtain⟨wd,hwd⟩:∃W,w2.drew=W:=⟨_,rfl⟩
 refine wp_region_held_drew (S:=fun w'=>Below w2.heap.size w2 w') (by kernel_rfl) hs0 (fun hHeld=>?_);rw[hwd]at hHeld ha0 hs0⊢;clear hwd;clear m0 m1 m2 m3 m4 m5 m6 m7 m8;refine zqT 0 ?_ ?_ ?_;rotate_left
 ·intro w' hSw;obtain⟨⟨m0,m1,m2,m3,m4,m5,m6,m7,m8⟩,_⟩:=HMX.out.call hSw;go_simp;try with_reducible rfl
 try simp only[Act.put,zq1,zq2,zq3]
 refine zqT 2 ?_ ?_ ?_;rotate_left
 ·intro w' hSw;obtain⟨⟨m0,m1,m2,m3,m4,m5,m6,m7,m8⟩,_⟩:=HMX.out.call hSw;go_simp;try with_reducible rfl
 try simp only[Act.put,zq1,zq2,zq3]
 refine zqT 3 ?_ ?_ ?_;rotate_left
 ·intro w' hSw;obtain⟨⟨m0,m1,m2,m3,m4,m5,m6,m7,m8⟩,_⟩:=HMX.out.call hSw;go_simp;try with_reducible rfl
 try simp only[Act.put,zq1,zq2,zq3]
 clear hHeld;refine zqR [1] ?_;refine zqC (fun K hK=>?_) AllReadyH.nil;go_simp;go_at_call 43;with_reducible refine(HBY.out _ (HA.out.below (Bel.call HB2.out hs0) zl) (HBB.out.below (Bel.call HB2.out hs0) zl) (HV.out.below (Bel.call HB2.out hs0) zl) (HK.out.below (Bel.call HB2.out hs0) zl)).mono ?_
 rintro e w3 ⟨⟨T,hT,rfl⟩,hb3⟩;have ha3:=Bel.call ha0 hb3;have hs3:=Bel.call HBJ.out ha3;clear hb3;dsimp only;refine hK.out _ _ hs3 (fun hHeld=>?_);try simp only[Act.put,zq1,zq2,zq3]
 clear hHeld;refine zqR [4] ?_;refine zqC (fun K hK=>?_) AllReadyH.nil;go_simp;have ha4:=ha3.alloc ha3.size (.cells #[.string T,.string sig] 9);have hs4:=Bel.call HBJ.out ha4;refine hK.out _ _ hs4 (fun hHeld=>?_);try simp only[Act.put,zq1,zq2,zq3]
 clear hHeld;refine zqR [5] ?_;refine zqC (fun K hK=>?_) AllReadyH.nil;go_simp;go_at_call 25;with_reducible refine(HPP.out T _ _ hT (lit2_reads8 w3 T sig _ rfl)).mono ?_
 rintro e w5 ⟨⟨Q,hQ,rfl⟩,hb5⟩;have ha5:=Bel.call ha4 hb5;have hs5:=Bel.call HBJ.out ha5;clear hb5;dsimp only;refine hK.out _ _ hs5 (fun hHeld=>?_);try simp only[Act.put,zq1,zq2,zq3]
 refine zqT 6 ?_ ?_ ?_;rotate_left
 ·intro w' hSw;obtain⟨⟨m0,m1,m2,m3,m4,m5,m6,m7,m8⟩,_⟩:=HMX.out.call hSw;go_simp;try with_reducible rfl
 try simp only[Act.put,zq1,zq2,zq3]
 refine zqT 7 ?_ ?_ ?_;rotate_left
 ·intro w' hSw;obtain⟨⟨m0,m1,m2,m3,m4,m5,m6,m7,m8⟩,_⟩:=HMX.out.call hSw;go_simp;try with_reducible rfl
 try simp only[Act.put,zq1,zq2,zq3]
 clear hHeld;refine wpAnyH_done (by kernel_rfl) ?_ _;have HS7:=zh (Bel.call HB2.out hs5);have HQ:=zh hQ;go_wp2;go_ret2;exact⟨⟨Q,HQ.out,rfl⟩,HS7.out⟩
end Go.Proofs.YtmihiknebelkbaaGreat.Mta
namespace Go.Proofs.YtmihiknebelkbaaGreat.Mta
open Go.RowKit Wire Term Rig
def Apt (w:World) (V:Option Addr) (nv:Nat) (A:Option Addr) (B:Option Addr) (K:Option Addr):Prop:=∀b off,V=some ⟨b,off,none⟩→0<nv →
 b<w.heap.size∧(∀j,w.frozen? ⟨b,j,none⟩=false)∧(∀b' off',A=some ⟨b',off',none⟩→b'≠b)∧(∀b' off',B=some ⟨b',off',none⟩→b'≠b)∧(∀b' off',K=some ⟨b',off',none⟩→b'≠b)
def SepM (w:World) (v:Value):Prop:=∀(o f sig:ByteArray) (ep ver:Int) (A:Option Addr) (n c:Nat) (B:Option Addr) (m d:Nat) (V:Option Addr) (nv cv:Nat) (K:Option Addr) (nk ck:Nat),
 v = .agg #[.string o,.string f,.int .i64 ep,.slice A n c,.slice B m d,.int .u64 ver,.slice V nv cv,.slice K nk ck,.string sig]→Apt w V nv A B K∧Apt w K nk A B V
end Go.Proofs.YtmihiknebelkbaaGreat.Mta
namespace Go.Proofs.YtmihiknebelkbaaGreat.Mta
open Go.RowKit Wire Term Rig
theorem two_metas (w:World) (o f sig:ByteArray) (ep:Int) (rs ws:List ByteArray) (ver:Nat) (vs:List ByteArray) (ks:List (ByteArray×ByteArray)) (A:Option Addr) (c:Nat) (B:Option Addr) (d:Nat) (V:Option Addr) (cv:Nat) (K:Option Addr) (ck:Nat) (A':Option Addr) (c':Nat) (B':Option Addr) (d':Nat) (V':Option Addr) (cv':Nat) (K':Option Addr) (ck':Nat) (t:TypeId):
 Mx w.heap.size ((w.alloc (.cells #[.string o,.string f,.int .i64 ep,.slice A rs.length c,.slice B ws.length d,.int .u64 (ver:Int),.slice V vs.length cv,.slice K ks.length ck,.string sig] t)).alloc (.cells #[.string o,.string f,.int .i64 ep,.slice A' rs.length c',.slice B' ws.length d',.int .u64 (ver:Int),.slice V' vs.length cv',.slice K' ks.length ck',.string sig] t)) o f ep A rs.length c B ws.length d ver V vs.length cv K ks.length ck sig∧Mx (w.heap.size+1) ((w.alloc (.cells #[.string o,.string f,.int .i64 ep,.slice A rs.length c,.slice B ws.length d,.int .u64 (ver:Int),.slice V vs.length cv,.slice K ks.length ck,.string sig] t)).alloc (.cells #[.string o,.string f,.int .i64 ep,.slice A' rs.length c',.slice B' ws.length d',.int .u64 (ver:Int),.slice V' vs.length cv',.slice K' ks.length ck',.string sig] t)) o f ep A' rs.length c' B' ws.length d' ver V' vs.length cv' K' ks.length ck' sig∧Below w.heap.size w ((w.alloc (.cells #[.string o,.string f,.int .i64 ep,.slice A rs.length c,.slice B ws.length d,.int .u64 (ver:Int),.slice V vs.length cv,.slice K ks.length ck,.string sig] t)).alloc (.cells #[.string o,.string f,.int .i64 ep,.slice A' rs.length c',.slice B' ws.length d',.int .u64 (ver:Int),.slice V' vs.length cv',.slice K' ks.length ck',.string sig] t)):=by
 have e:(w.alloc (.cells #[.string o,.string f,.int .i64 ep,.slice A rs.length c,.slice B ws.length d,.int .u64 (ver:Int),.slice V vs.length cv,.slice K ks.length ck,.string sig] t)).heap.size=w.heap.size+1:=by simp
 have h1:=mx_alloc w o f ep A rs.length c B ws.length d ver V vs.length cv K ks.length ck sig t;have hw1:Below w.heap.size w (w.alloc (.cells #[.string o,.string f,.int .i64 ep,.slice A rs.length c,.slice B ws.length d,.int .u64 (ver:Int),.slice V vs.length cv,.slice K ks.length ck,.string sig] t)):=(Below.refl _ w).alloc zl _;generalize w.alloc (.cells #[.string o,.string f,.int .i64 ep,.slice A rs.length c,.slice B ws.length d,.int .u64 (ver:Int),.slice V vs.length cv,.slice K ks.length ck,.string sig] t)=wa at e h1 hw1⊢;have h2:=mx_alloc wa o f ep A' rs.length c' B' ws.length d' ver V' vs.length cv' K' ks.length ck' sig t;have h3:Below wa.heap.size wa (wa.alloc (.cells #[.string o,.string f,.int .i64 ep,.slice A' rs.length c',.slice B' ws.length d',.int .u64 (ver:Int),.slice V' vs.length cv',.slice K' ks.length ck',.string sig] t)):=(Below.refl _ wa).alloc zl _;rw[e]at h2;exact⟨h1.call h3,h2,hw1.trans (h3.mono hw1.size)⟩
set_option maxRecDepth 1000000 in
theorem msame_any (o f sig:ByteArray) (ep:Int) (rs ws:List ByteArray) (ver:Nat) (vs:List ByteArray) (ks:List (ByteArray×ByteArray)) (A:Option Addr) (c:Nat) (B:Option Addr) (d:Nat) (V:Option Addr) (cv:Nat) (K:Option Addr) (ck:Nat) (A':Option Addr) (c':Nat) (B':Option Addr) (d':Nat) (V':Option Addr) (cv':Nat) (K':Option Addr) (ck':Nat) (w:World) (hA:SReads w A rs) (hB:SReads w B ws) (hV:SReads w V vs) (hK:PReads w K ks) (hA':SReads w A' rs) (hB':SReads w B' ws) (hV':SReads w V' vs) (hK':PReads w K' ks) (hr:rs.length≤2000000) (hw:ws.length≤2000000) (hvl:vs.length≤2000000) (hkl:ks.length≤2000000):
 Calls Tryz.prog 40 #[.agg #[.string o,.string f,.int .i64 ep,.slice A rs.length c,.slice B ws.length d,.int .u64 (ver:Int),.slice V vs.length cv,.slice K ks.length ck,.string sig],.agg #[.string o,.string f,.int .i64 ep,.slice A' rs.length c',.slice B' ws.length d',.int .u64 (ver:Int),.slice V' vs.length cv',.slice K' ks.length ck',.string sig]] w fun e w'=>e = .returned (.bool true)∧Below w.heap.size w w':=by
 have HA:=zh hA;have HA':=zh hA';have HBB:=zh hB;have HBB':=zh hB';have HV:=zh hV;have HV':=zh hV';have HK:=zh hK;have HK':=zh hK';clear hA hB hV hK hA' hB' hV' hK';have HRS:Hid (∀w1,Below w.heap.size w w1→Calls Tryz.prog 64 #[.agg #[.string o,.string f,.int .i64 ep,.slice A rs.length c,.slice B ws.length d],.agg #[.string o,.string f,.int .i64 ep,.slice A' rs.length c',.slice B' ws.length d']] w1 fun e w'=>e = .returned (.bool true)∧Below w1.heap.size w1 w'):=zh fun w1 h1=>rsame_any o f ep A c rs B d ws A' c' B' d' w1 (HA.out.below h1 zl) (HBB.out.below h1 zl) (HA'.out.below h1 zl) (HBB'.out.below h1 zl) hr hw
 go_enter Tryz.func40,Tryz.ntmps40;go_wp2_with fail;obtain⟨hx,hy,hbw⟩:=two_metas w o f sig ep rs ws ver vs ks A c B d V cv K ck A' c' B' d' V' cv' K' ck' 37;generalize (w.alloc (.cells #[.string o,.string f,.int .i64 ep,.slice A rs.length c,.slice B ws.length d,.int .u64 (ver:Int),.slice V vs.length cv,.slice K ks.length ck,.string sig] 37)).alloc (.cells #[.string o,.string f,.int .i64 ep,.slice A' rs.length c',.slice B' ws.length d',.int .u64 (ver:Int),.slice V' vs.length cv',.slice K' ks.length ck',.string sig] 37)=w1 at hx hy hbw⊢;have HX:=zh hx;have HY:=zh hy;have HBW:=zh hbw;obtain⟨⟨c0,c1,c2,c3,c4,c5,c6,c7,c8⟩,_⟩:=hx;obtain⟨⟨d0,d1,d2,d3,d4,d5,d6,d7,d8⟩,_⟩:=hy;clear hbw;go_wp2_with fail;with_reducible refine(HRS.out _ HBW.out).mono ?_
 rintro e w2 ⟨rfl,hb2⟩;have HX:=zh (HX.out.call hb2);have HY:=zh (HY.out.call hb2);have HBW:=zh (Bel.call HBW.out hb2);clear hb2 c0 c1 c2 c3 c4 c5 c6 c7 c8 d0 d1 d2 d3 d4 d5 d6 d7 d8;obtain⟨⟨c0,c1,c2,c3,c4,c5,c6,c7,c8⟩,_⟩:=HX.out;obtain⟨⟨d0,d1,d2,d3,d4,d5,d6,d7,d8⟩,_⟩:=HY.out;dsimp only;go_wp2_with fail;clear c0 c1 c2 c3 c4 c5 c6 c7 c8 d0 d1 d2 d3 d4 d5 d6 d7 d8;go_loopw [5] (fun i wr=>∃k:Nat,k≤vs.length∧i = .int .i64 (k:Int)∧Hid (Below w2.heap.size w2 wr)) (fun i _=>vs.length-(intOf i).toNat);case atStart=>exact⟨0,Nat.zero_le _,rfl,zh (Below.refl _ _)⟩
 case round=>
  obtain⟨k,hk,rfl,HW⟩:=hrel;obtain⟨⟨c0,c1,c2,c3,c4,c5,c6,c7,c8⟩,_⟩:=HX.out.call HW.out;obtain⟨⟨d0,d1,d2,d3,d4,d5,d6,d7,d8⟩,_⟩:=HY.out.call HW.out;have HBR:=zh (Bel.call HBW.out HW.out);by_cases hlt:(k:Int)<(vs.length:Int)
  ·obtain⟨b,off,rfl,hbl,hcl⟩:=(HV.out.below HBR.out zl) k (by omega)
   obtain⟨b',off',rfl,hbl',hcl'⟩:=(HV'.out.below HBR.out zl) k (by omega);obtain⟨y,hy⟩:∃y,vs.getD k ByteArray.empty=y:=⟨_,rfl⟩
   rw[hy]at hcl hcl';have hk0:(0:Int)≤(k:Int):=by omega
   clear hy hbl hbl';go_wp2;go_quiet (fail);go_wp2;go_roundw;case rel=>exact⟨k+1,by omega,by go_num,zh (Below.drewN' HW.out _)⟩
   case measure=>simp[intOf];omega
  ·go_wp2_with fail
   clear c0 c1 c2 c3 c4 c5 c6 c7 c8 d0 d1 d2 d3 d4 d5 d6 d7 d8;go_loopw [6] (fun i wr2=>∃j:Nat,j≤ks.length∧i = .int .i64 (j:Int)∧Hid (Below wr.heap.size wr wr2)) (fun i _=>ks.length-(intOf i).toNat);case atStart=>exact⟨0,Nat.zero_le _,rfl,zh (Below.refl _ _)⟩
   case round=>
    obtain⟨j,hj,rfl,HW2⟩:=hrel;have HX2:=zh (HX.out.call HW.out);have HY2:=zh (HY.out.call HW.out);obtain⟨⟨c0,c1,c2,c3,c4,c5,c6,c7,c8⟩,_⟩:=HX2.out.call HW2.out;obtain⟨⟨d0,d1,d2,d3,d4,d5,d6,d7,d8⟩,_⟩:=HY2.out.call HW2.out;have HBR2:=zh (Bel.call HBR.out HW2.out);by_cases hlt2:(j:Int)<(ks.length:Int)
    ·obtain⟨b,off,rfl,hbl,hcl,hcl2⟩:=(HK.out.below HBR2.out zl) j (by omega)
     obtain⟨b',off',rfl,hbl',hcl',hcl2'⟩:=(HK'.out.below HBR2.out zl) j (by omega);obtain⟨y,z,hy⟩:∃y z,ks.getD j default=(y,z):=⟨_,_,rfl⟩
     rw[hy]at hcl hcl' hcl2 hcl2';simp only at hcl hcl' hcl2 hcl2';have hj0:(0:Int)≤(j:Int):=by omega
     clear hy hbl hbl';go_wp2;go_quiet (fail);go_wp2;go_roundw;case rel=>exact⟨j+1,by omega,by go_num,zh (Below.drewN' HW2.out _)⟩
     case measure=>simp[intOf];omega
    ·go_wp2
     go_ret;exact⟨rfl,HBR2.out⟩
end Go.Proofs.YtmihiknebelkbaaGreat.Mta
