/-
  FRTake. By an AI agent.
-/
import Derived.Test.YtmihiknebelkbaaGreatOZ
import Derived.Test.YtmihiknebelkbaaGreatOFRRight
import Derived.Test.YtmihiknebelkbaaGreatOFRead
import Derived.Test.YtmihiknebelkbaaGreatOW1
import Derived.Test.YtmihiknebelkbaaGreatOW0
set_option linter.unusedSimpArgs false
set_option linter.unusedVariables false
set_option maxHeartbeats 8000000
namespace Go.Proofs.YtmihiknebelkbaaGreat.Frs
open Go Go.RowKit Wire Term Draw Reg Clo
set_option maxRecDepth 1000000 in
theorem rftake_any (s:ByteArray) (w:World) (hs:s.size≤2000000):
 Calls Tryz.prog 30 #[.string s] w fun e w'=>Ss (takeS s.data.toList) e∧Below w.heap.size w w':=by
 have HT:=zh fun w=>refAll_any s 5 4000 w (by omega) (by decide) (by decide)
 obtain⟨l,f,hl⟩:∃l f,all s.data.toList 5 4000=(l,f):=⟨_,_,rfl⟩
 have hmem:∀t∈l,t.length≤2000000:=fun t ht=>by
  by_cases hf:f=0
  ·have h1:s.data.toList=putAll l:=((all_back hl).1 hf).1
   have h2:=Dta.mem_flat ht;have h3:=Lib.size_eq s;rw[h1]at h3;unfold putAll at h3;rw[List.length_append]at h3;rw[putText_len]at h2;omega
  ·rw[(all_back hl).2 hf]at ht;cases ht
 generalize hx:takeS s.data.toList=x;unfold takeS takeM at hx;rw[hl]at HT hx;simp only at hx;clear hl;by_cases hf:f=0
 case neg=>
  rw[if_pos (.inl hf)]at hx;have HX:=zh hx;have hfb:(f==0)=false:=by simpa using hf
  have hfb2:(f != 0)=true:=by simpa using hf
  clear hf hmem hx;go_enter Tryz.func30,Tryz.ntmps30;go_wp2_with fail;have hbS:Below w.heap.size w (w.alloc (.cells #[.string ⟨#[]⟩,.int .u64 0,.int .i64 0,.string ⟨#[]⟩,.string ⟨#[]⟩] 38)):=(Below.refl w.heap.size w).alloc zl _;have hxS:=c5_new w (.string ⟨#[]⟩) (.int .u64 0) (.int .i64 0) (.string ⟨#[]⟩) (.string ⟨#[]⟩) 38;generalize w.alloc (.cells #[.string ⟨#[]⟩,.int .u64 0,.int .i64 0,.string ⟨#[]⟩,.string ⟨#[]⟩] 38)=wSZ at hbS hxS⊢;have HB1:=zh hbS;have HXZ:=zh hxS;clear hbS hxS;with_reducible refine(HT.out _).mono ?_
  rintro e w2 ⟨⟨A,cc,ys,hys,hlc,hsr,rfl⟩,hb2⟩;have HB2:=zh (Bel.call HB1.out hb2);replace HXZ:=zh (HXZ.out.below hb2);clear hb2;try dsimp only
  clear hys hlc hsr;obtain⟨⟨nZ,dZ0,dZ1,dZ2,dZ3,dZ4⟩,kZ0,kZ1,kZ2,kZ3,kZ4⟩:=HXZ.out;go_wp2;refine bodyPost_ret (v:=.tuple #[Zs,.int .i64 2]) (by simp[results,Tryz.results30,go_sem,Zs,dZ0,dZ1,dZ2,dZ3,dZ4]) rfl ?_;exact⟨⟨_,by rw[←HX.out];exact zs_is,by rw[←HX.out]⟩,bel_set5 HB2.out zl⟩
 subst hf;by_cases h5:l.length=5
 case neg=>
  rw[if_pos (.inr h5)]at hx;have HX:=zh hx;go_enter Tryz.func30,Tryz.ntmps30;go_wp2_with fail;have hbS:Below w.heap.size w (w.alloc (.cells #[.string ⟨#[]⟩,.int .u64 0,.int .i64 0,.string ⟨#[]⟩,.string ⟨#[]⟩] 38)):=(Below.refl w.heap.size w).alloc zl _;have hxS:=c5_new w (.string ⟨#[]⟩) (.int .u64 0) (.int .i64 0) (.string ⟨#[]⟩) (.string ⟨#[]⟩) 38;generalize w.alloc (.cells #[.string ⟨#[]⟩,.int .u64 0,.int .i64 0,.string ⟨#[]⟩,.string ⟨#[]⟩] 38)=wSZ at hbS hxS⊢;have HB1:=zh hbS;have HXZ:=zh hxS;clear hbS hxS;with_reducible refine(HT.out _).mono ?_
  rintro e w2 ⟨⟨A,cc,ys,hys,hlc,hsr,rfl⟩,hb2⟩;have HB2:=zh (Bel.call HB1.out hb2);replace HXZ:=zh (HXZ.out.below hb2);clear hb2;try dsimp only
  have h3':¬ys.length=5:=by rw[bl_len hys];exact h5
  have h3b:((ys.length:Int)==5)=false:=by rw[beq_eq_false_iff_ne];omega
  have h3c:((ys.length:Int) != 5)=true:=by simp[bne,h3b]
  clear hys hlc hsr h5 hmem hx;obtain⟨⟨nZ,dZ0,dZ1,dZ2,dZ3,dZ4⟩,kZ0,kZ1,kZ2,kZ3,kZ4⟩:=HXZ.out;go_wp2;refine bodyPost_ret (v:=.tuple #[Zs,.int .i64 2]) (by simp[results,Tryz.results30,go_sem,Zs,dZ0,dZ1,dZ2,dZ3,dZ4]) rfl ?_;exact⟨⟨_,by rw[←HX.out];exact zs_is,by rw[←HX.out]⟩,bel_set5 HB2.out zl⟩
 obtain⟨x0,x1,x2,x3,x4,rfl⟩:∃x0 x1 x2 x3 x4,l = [x0,x1,x2,x3,x4]:=by
  match l,h5 with
  | [x0,x1,x2,x3,x4],_=>exact⟨x0,x1,x2,x3,x4,rfl⟩
 clear h5;rw[if_neg (by rintro(h|h);exact h rfl;exact h rfl)]at hx;have h0:=hmem x0 (by simp);have h1:=hmem x1 (by simp);have h2:=hmem x2 (by simp);have h3:=hmem x3 (by simp);have h4:=hmem x4 (by simp)
 have HTK1:Hid (∀(A:ByteArray) (w:World),A.data.toList=x1→Calls Tryz.prog 31 #[.string A] w fun e w'=>Tk (tk x1) e∧Below w.heap.size w w'):=zh fun A w hA=>by
  have:=refTake_any A w (by rw[Lib.size_eq,hA];omega);rw[hA]at this;exact this
 obtain⟨n1,r1,g1,ht1⟩:∃n r g,tk x1=(n,r,g):=⟨_,_,_,rfl⟩
 have hlt1:n1<18446744073709551616:=tk_lt ht1
 have HTK2:Hid (∀(A:ByteArray) (w:World),A.data.toList=x2→Calls Tryz.prog 31 #[.string A] w fun e w'=>Tk (tk x2) e∧Below w.heap.size w w'):=zh fun A w hA=>by
  have:=refTake_any A w (by rw[Lib.size_eq,hA];omega);rw[hA]at this;exact this
 obtain⟨n2,r2,g2,ht2⟩:∃n r g,tk x2=(n,r,g):=⟨_,_,_,rfl⟩
 have hlt2:n2<18446744073709551616:=tk_lt ht2
 have hro:rowOK [x0,x1,x2,x3,x4]↔(g1=0∧r1 = [])∧(g2=0∧r2 = [])∧n2≤8:=by
  unfold rowOK;rw[show([x0,x1,x2,x3,x4]:List Tm).getD 1 []=x1 from rfl,show([x0,x1,x2,x3,x4]:List Tm).getD 2 []=x2 from rfl,ht1,ht2]
 have hso:stampOf [x0,x1,x2,x3,x4]=⟨x0,n1,(n2:Int),x3,x4⟩:=by
  unfold stampOf;rw[show([x0,x1,x2,x3,x4]:List Tm).getD 1 []=x1 from rfl,show([x0,x1,x2,x3,x4]:List Tm).getD 2 []=x2 from rfl,ht1,ht2];rfl
 rw[hso]at hx;rw[ht1]at HTK1;rw[ht2]at HTK2;clear ht1 ht2 hso hmem;obtain⟨E,cw⟩:∃E,IntKind.i64.wrap (n2:Int)=E:=⟨_,rfl⟩
 have hE9:n2≤8→E=(n2:Int):=fun h=>by rw[IntKind.wrap_i64]at cw;omega
 have HR:=zh fun v (h:IsS v ⟨x0,n1,E,x3,x4⟩) w=>rfright_is h (by show x0.length≤_;omega) (by show x3.length≤_;omega) (by show x4.length≤_;omega) w
 by_cases hg:g1=0
 case neg=>
  rw[if_pos (fun h=>hg (hro.1 h.1).1.1)]at hx;have HX:=zh hx;have hgb:(g1==0)=false:=by simpa using hg
  have hgb2:(g1 != 0)=true:=by simpa using hg
  clear hx hro hg hE9;go_enter Tryz.func30,Tryz.ntmps30;go_wp2_with fail;have hbS:Below w.heap.size w (w.alloc (.cells #[.string ⟨#[]⟩,.int .u64 0,.int .i64 0,.string ⟨#[]⟩,.string ⟨#[]⟩] 38)):=(Below.refl w.heap.size w).alloc zl _;have hxS:=c5_new w (.string ⟨#[]⟩) (.int .u64 0) (.int .i64 0) (.string ⟨#[]⟩) (.string ⟨#[]⟩) 38;generalize w.alloc (.cells #[.string ⟨#[]⟩,.int .u64 0,.int .i64 0,.string ⟨#[]⟩,.string ⟨#[]⟩] 38)=wSZ at hbS hxS⊢;have HB1:=zh hbS;have HXZ:=zh hxS;clear hbS hxS;with_reducible refine(HT.out _).mono ?_
  rintro e w2 ⟨⟨A,cc,ys,hys,hlc,hsr,rfl⟩,hb2⟩;have HB2:=zh (Bel.call HB1.out hb2);replace HXZ:=zh (HXZ.out.below hb2);clear hb2;try dsimp only
  obtain⟨P0,P1,P2,P3,P4,rfl,hP0,hP1,hP2,hP3,hP4⟩:=bl_five hys;obtain⟨g,off,rfl,hrow⟩:=five_reads hsr;have HRW:=zh hrow;have HP0:=zh hP0;have HP1:=zh hP1;have HP2:=zh hP2;have HP3:=zh hP3;have HP4:=zh hP4;clear hys hlc hsr hrow hP0 hP1 hP2 hP3 hP4;try dsimp only
  obtain⟨_,l0,l1,l2,l3,l4⟩:=HRW.out;go_wp2_with fail;with_reducible refine(HTK1.out P1 _ HP1.out).mono ?_
  rintro e w3 ⟨⟨R1,hR1,rfl⟩,hb3⟩;have HB3:=zh (Bel.call HB2.out hb3);replace HXZ:=zh (HXZ.out.below hb3);replace HRW:=zh (HRW.out.below hb3);clear hb3;dsimp only at hR1⊢;clear l0 l1 l2 l3 l4;try dsimp only
  clear hR1;obtain⟨_,l0,l1,l2,l3,l4⟩:=HRW.out;go_wp2_with fail;with_reducible refine(HTK2.out P2 _ HP2.out).mono ?_
  rintro e w4 ⟨⟨R2,hR2,rfl⟩,hb4⟩;have HB4:=zh (Bel.call HB3.out hb4);replace HXZ:=zh (HXZ.out.below hb4);replace HRW:=zh (HRW.out.below hb4);clear hb4;dsimp only at hR2⊢;clear l0 l1 l2 l3 l4;try dsimp only
  clear hR2;go_wp2_with fail;refine wp_region_held_drew (S:=fun w'=>Row5 g off w' P0 P1 P2 P3 P4) (by kernel_rfl) (HRW.out.below (Below.drewN' (Below.refl w4.heap.size w4) 1)) (fun hHeld=>?_);have hdr:Below w4.heap.size w4 w4.drew:=Below.drewN' (Below.refl w4.heap.size w4) 1;clear hHeld;generalize w4.drew=wd at hdr⊢;have HB5:=zh (Bel.call HB4.out hdr);replace HXZ:=zh (HXZ.out.below hdr);replace HRW:=zh (HRW.out.below hdr);clear hdr;have hHeld:=HRW.out;refine zqT 0 ?_ ?_ ?_;rotate_left
  ·intro w' hSw;obtain⟨_,c0,c1,c2,c3,c4⟩:=hSw;go_simp;try with_reducible rfl
  try simp only[Act.put,zq1,zq2,zq3]
  refine zqT 1 ?_ ?_ ?_;rotate_left
  ·intro w' hSw;obtain⟨_,c0,c1,c2,c3,c4⟩:=hSw;go_simp;try with_reducible rfl
  try simp only[Act.put,zq1,zq2,zq3]
  refine zqT 2 ?_ ?_ ?_;rotate_left
  ·intro w' hSw;obtain⟨_,c0,c1,c2,c3,c4⟩:=hSw;go_simp;try with_reducible rfl
  try simp only[Act.put,zq1,zq2,zq3]
  refine zqT 3 ?_ ?_ ?_;rotate_left
  ·intro w' hSw;obtain⟨_,c0,c1,c2,c3,c4⟩:=hSw;go_simp;try with_reducible rfl
  try simp only[Act.put,zq1,zq2,zq3]
  refine zqT 4 ?_ ?_ ?_;rotate_left
  ·intro w' hSw;obtain⟨_,c0,c1,c2,c3,c4⟩:=hSw;go_simp;try with_reducible rfl
  try simp only[Act.put,zq1,zq2,zq3]
  refine zqT 5 ?_ ?_ ?_;rotate_left
  ·intro w' hSw;obtain⟨_,c0,c1,c2,c3,c4⟩:=hSw;go_simp;try with_reducible rfl
  try simp only[Act.put,zq1,zq2,zq3]
  refine zqT 6 ?_ ?_ ?_;rotate_left
  ·intro w' hSw;obtain⟨_,c0,c1,c2,c3,c4⟩:=hSw;go_simp;try with_reducible rfl
  try simp only[Act.put,zq1,zq2,zq3]
  refine zqT 7 ?_ ?_ ?_;rotate_left
  ·intro w' hSw;obtain⟨_,c0,c1,c2,c3,c4⟩:=hSw;go_simp;try with_reducible rfl
  try simp only[Act.put,zq1,zq2,zq3]
  refine zqT 8 ?_ ?_ ?_;rotate_left
  ·intro w' hSw;obtain⟨_,c0,c1,c2,c3,c4⟩:=hSw;go_simp;try with_reducible rfl
  try simp only[Act.put,zq1,zq2,zq3]
  refine zqT 9 ?_ ?_ ?_;rotate_left
  ·intro w' hSw;obtain⟨_,c0,c1,c2,c3,c4⟩:=hSw;go_simp;try with_reducible rfl
  try simp only[Act.put,zq1,zq2,zq3]
  refine zqT 10 ?_ ?_ ?_;rotate_left
  ·intro w' hSw;obtain⟨_,c0,c1,c2,c3,c4⟩:=hSw;go_simp;try with_reducible rfl
  try simp only[Act.put,zq1,zq2,zq3]
  refine zqT 11 ?_ ?_ ?_;rotate_left
  ·intro w' hSw;obtain⟨_,c0,c1,c2,c3,c4⟩:=hSw;go_simp;try with_reducible rfl
  try simp only[Act.put,zq1,zq2,zq3]
  refine zqT 12 ?_ ?_ ?_;rotate_left
  ·intro w' hSw;obtain⟨_,c0,c1,c2,c3,c4⟩:=hSw;go_simp;try with_reducible rfl
  try simp only[Act.put,zq1,zq2,zq3]
  clear hHeld;refine zqR [13] ?_;refine zqC (fun Kn hK=>?_) AllReadyH.nil;go_simp;have hne:g≠wd.heap.size:=Nat.ne_of_lt HRW.out.1;have hne2:w.heap.size≠wd.heap.size:=Nat.ne_of_lt HXZ.out.1.1;have hge:w.heap.size≤wd.heap.size:=Nat.le_of_lt HXZ.out.1.1;have hbS:Below wd.heap.size wd (wd.alloc (.cells #[.string ⟨#[]⟩,.int .u64 0,.int .i64 0,.string ⟨#[]⟩,.string ⟨#[]⟩] 38)):=(Below.refl wd.heap.size wd).alloc zl _;have hxS:=c5_new wd (.string ⟨#[]⟩) (.int .u64 0) (.int .i64 0) (.string ⟨#[]⟩) (.string ⟨#[]⟩) 38;generalize wd.alloc (.cells #[.string ⟨#[]⟩,.int .u64 0,.int .i64 0,.string ⟨#[]⟩,.string ⟨#[]⟩] 38)=wSA at hbS hxS⊢;have HB6:=zh (Bel.call HB5.out hbS);replace HXZ:=zh (HXZ.out.below hbS);replace HRW:=zh (HRW.out.below hbS);have HXA:=zh hxS;clear hbS hxS;refine hK.out _ _ HRW.out (fun hHeld=>?_);try simp only[Act.put,zq1,zq2,zq3]
  clear hHeld;obtain⟨⟨p0,b0,b1,b2,b3,b4⟩,u0,u1,u2,u3,u4⟩:=HXA.out;refine zqR [14] ?_;refine zqC (fun Kn hK=>?_) AllReadyH.nil;go_simp;refine hK.out _ _ (HRW.out.set5 hne) (fun hHeld=>?_);try simp only[Act.put,zq1,zq2,zq3]
  clear hHeld b0 b1 b2 b3 b4 u0 u1 u2 u3 u4 p0;refine wpAnyH_done (by kernel_rfl) ?_ _;rw[set5_eq];replace HXA:=zh (c5_set5 (a':=.string P0) (b':=.int .u64 (n1:Int)) (c':=.int .i64 E) (d':=.string P3) (e':=.string P4) HXA.out);replace HXZ:=zh (HXZ.out.other5 (x0:=.string P0) (x1:=.int .u64 (n1:Int)) (x2:=.int .i64 E) (x3:=.string P3) (x4:=.string P4) hne2);have HB7:=zh (bel_set5 (a:=.string P0) (b:=.int .u64 (n1:Int)) (c:=.int .i64 E) (d:=.string P3) (e:=.string P4) HB6.out hge);clear HRW;generalize set5 wSA wd.heap.size (.string P0) (.int .u64 (n1:Int)) (.int .i64 E) (.string P3) (.string P4)=wc at HXA HXZ HB7⊢;obtain⟨⟨nA,dA0,dA1,dA2,dA3,dA4⟩,kA0,kA1,kA2,kA3,kA4⟩:=HXA.out;obtain⟨⟨nZ,dZ0,dZ1,dZ2,dZ3,dZ4⟩,kZ0,kZ1,kZ2,kZ3,kZ4⟩:=HXZ.out;go_wp2;refine bodyPost_ret (v:=.tuple #[Zs,.int .i64 2]) (by simp[results,Tryz.results30,go_sem,Zs,dZ0,dZ1,dZ2,dZ3,dZ4]) rfl ?_;exact⟨⟨_,by rw[←HX.out];exact zs_is,by rw[←HX.out]⟩,bel_set5 HB7.out zl⟩
 subst hg;by_cases hr1:r1 = []
 case neg=>
  rw[if_pos (fun h=>hr1 (hro.1 h.1).1.2)]at hx;have HX:=zh hx;clear hx hro hE9;go_enter Tryz.func30,Tryz.ntmps30;go_wp2_with fail;have hbS:Below w.heap.size w (w.alloc (.cells #[.string ⟨#[]⟩,.int .u64 0,.int .i64 0,.string ⟨#[]⟩,.string ⟨#[]⟩] 38)):=(Below.refl w.heap.size w).alloc zl _;have hxS:=c5_new w (.string ⟨#[]⟩) (.int .u64 0) (.int .i64 0) (.string ⟨#[]⟩) (.string ⟨#[]⟩) 38;generalize w.alloc (.cells #[.string ⟨#[]⟩,.int .u64 0,.int .i64 0,.string ⟨#[]⟩,.string ⟨#[]⟩] 38)=wSZ at hbS hxS⊢;have HB1:=zh hbS;have HXZ:=zh hxS;clear hbS hxS;with_reducible refine(HT.out _).mono ?_
  rintro e w2 ⟨⟨A,cc,ys,hys,hlc,hsr,rfl⟩,hb2⟩;have HB2:=zh (Bel.call HB1.out hb2);replace HXZ:=zh (HXZ.out.below hb2);clear hb2;try dsimp only
  obtain⟨P0,P1,P2,P3,P4,rfl,hP0,hP1,hP2,hP3,hP4⟩:=bl_five hys;obtain⟨g,off,rfl,hrow⟩:=five_reads hsr;have HRW:=zh hrow;have HP0:=zh hP0;have HP1:=zh hP1;have HP2:=zh hP2;have HP3:=zh hP3;have HP4:=zh hP4;clear hys hlc hsr hrow hP0 hP1 hP2 hP3 hP4;try dsimp only
  obtain⟨_,l0,l1,l2,l3,l4⟩:=HRW.out;go_wp2_with fail;with_reducible refine(HTK1.out P1 _ HP1.out).mono ?_
  rintro e w3 ⟨⟨R1,hR1,rfl⟩,hb3⟩;have HB3:=zh (Bel.call HB2.out hb3);replace HXZ:=zh (HXZ.out.below hb3);replace HRW:=zh (HRW.out.below hb3);clear hb3;dsimp only at hR1⊢;clear l0 l1 l2 l3 l4;try dsimp only
  have hre1:R1.toList.isEmpty=false:=by
   rw[Lib.toList_data,hR1];cases r1 with
   | nil=>exact absurd rfl hr1
   | cons x y=>rfl
  have hrf1:(R1.toList==[])=false:=by
   rw[Lib.toList_data,hR1];cases r1 with
   | nil=>exact absurd rfl hr1
   | cons x y=>rfl
  obtain⟨_,l0,l1,l2,l3,l4⟩:=HRW.out;go_wp2_with fail;with_reducible refine(HTK2.out P2 _ HP2.out).mono ?_
  rintro e w4 ⟨⟨R2,hR2,rfl⟩,hb4⟩;have HB4:=zh (Bel.call HB3.out hb4);replace HXZ:=zh (HXZ.out.below hb4);replace HRW:=zh (HRW.out.below hb4);clear hb4;dsimp only at hR2⊢;clear l0 l1 l2 l3 l4;try dsimp only
  clear hR2;go_wp2_with fail;refine wp_region_held_drew (S:=fun w'=>Row5 g off w' P0 P1 P2 P3 P4) (by kernel_rfl) (HRW.out.below (Below.drewN' (Below.refl w4.heap.size w4) 1)) (fun hHeld=>?_);have hdr:Below w4.heap.size w4 w4.drew:=Below.drewN' (Below.refl w4.heap.size w4) 1;clear hHeld;generalize w4.drew=wd at hdr⊢;have HB5:=zh (Bel.call HB4.out hdr);replace HXZ:=zh (HXZ.out.below hdr);replace HRW:=zh (HRW.out.below hdr);clear hdr;have hHeld:=HRW.out;refine zqT 0 ?_ ?_ ?_;rotate_left
  ·intro w' hSw;obtain⟨_,c0,c1,c2,c3,c4⟩:=hSw;go_simp;try with_reducible rfl
  try simp only[Act.put,zq1,zq2,zq3]
  refine zqT 1 ?_ ?_ ?_;rotate_left
  ·intro w' hSw;obtain⟨_,c0,c1,c2,c3,c4⟩:=hSw;go_simp;try with_reducible rfl
  try simp only[Act.put,zq1,zq2,zq3]
  refine zqT 2 ?_ ?_ ?_;rotate_left
  ·intro w' hSw;obtain⟨_,c0,c1,c2,c3,c4⟩:=hSw;go_simp;try with_reducible rfl
  try simp only[Act.put,zq1,zq2,zq3]
  refine zqT 3 ?_ ?_ ?_;rotate_left
  ·intro w' hSw;obtain⟨_,c0,c1,c2,c3,c4⟩:=hSw;go_simp;try with_reducible rfl
  try simp only[Act.put,zq1,zq2,zq3]
  refine zqT 4 ?_ ?_ ?_;rotate_left
  ·intro w' hSw;obtain⟨_,c0,c1,c2,c3,c4⟩:=hSw;go_simp;try with_reducible rfl
  try simp only[Act.put,zq1,zq2,zq3]
  refine zqT 5 ?_ ?_ ?_;rotate_left
  ·intro w' hSw;obtain⟨_,c0,c1,c2,c3,c4⟩:=hSw;go_simp;try with_reducible rfl
  try simp only[Act.put,zq1,zq2,zq3]
  refine zqT 6 ?_ ?_ ?_;rotate_left
  ·intro w' hSw;obtain⟨_,c0,c1,c2,c3,c4⟩:=hSw;go_simp;try with_reducible rfl
  try simp only[Act.put,zq1,zq2,zq3]
  refine zqT 7 ?_ ?_ ?_;rotate_left
  ·intro w' hSw;obtain⟨_,c0,c1,c2,c3,c4⟩:=hSw;go_simp;try with_reducible rfl
  try simp only[Act.put,zq1,zq2,zq3]
  refine zqT 8 ?_ ?_ ?_;rotate_left
  ·intro w' hSw;obtain⟨_,c0,c1,c2,c3,c4⟩:=hSw;go_simp;try with_reducible rfl
  try simp only[Act.put,zq1,zq2,zq3]
  refine zqT 9 ?_ ?_ ?_;rotate_left
  ·intro w' hSw;obtain⟨_,c0,c1,c2,c3,c4⟩:=hSw;go_simp;try with_reducible rfl
  try simp only[Act.put,zq1,zq2,zq3]
  refine zqT 10 ?_ ?_ ?_;rotate_left
  ·intro w' hSw;obtain⟨_,c0,c1,c2,c3,c4⟩:=hSw;go_simp;try with_reducible rfl
  try simp only[Act.put,zq1,zq2,zq3]
  refine zqT 11 ?_ ?_ ?_;rotate_left
  ·intro w' hSw;obtain⟨_,c0,c1,c2,c3,c4⟩:=hSw;go_simp;try with_reducible rfl
  try simp only[Act.put,zq1,zq2,zq3]
  refine zqT 12 ?_ ?_ ?_;rotate_left
  ·intro w' hSw;obtain⟨_,c0,c1,c2,c3,c4⟩:=hSw;go_simp;try with_reducible rfl
  try simp only[Act.put,zq1,zq2,zq3]
  clear hHeld;refine zqR [13] ?_;refine zqC (fun Kn hK=>?_) AllReadyH.nil;go_simp;have hne:g≠wd.heap.size:=Nat.ne_of_lt HRW.out.1;have hne2:w.heap.size≠wd.heap.size:=Nat.ne_of_lt HXZ.out.1.1;have hge:w.heap.size≤wd.heap.size:=Nat.le_of_lt HXZ.out.1.1;have hbS:Below wd.heap.size wd (wd.alloc (.cells #[.string ⟨#[]⟩,.int .u64 0,.int .i64 0,.string ⟨#[]⟩,.string ⟨#[]⟩] 38)):=(Below.refl wd.heap.size wd).alloc zl _;have hxS:=c5_new wd (.string ⟨#[]⟩) (.int .u64 0) (.int .i64 0) (.string ⟨#[]⟩) (.string ⟨#[]⟩) 38;generalize wd.alloc (.cells #[.string ⟨#[]⟩,.int .u64 0,.int .i64 0,.string ⟨#[]⟩,.string ⟨#[]⟩] 38)=wSA at hbS hxS⊢;have HB6:=zh (Bel.call HB5.out hbS);replace HXZ:=zh (HXZ.out.below hbS);replace HRW:=zh (HRW.out.below hbS);have HXA:=zh hxS;clear hbS hxS;refine hK.out _ _ HRW.out (fun hHeld=>?_);try simp only[Act.put,zq1,zq2,zq3]
  clear hHeld;obtain⟨⟨p0,b0,b1,b2,b3,b4⟩,u0,u1,u2,u3,u4⟩:=HXA.out;refine zqR [14] ?_;refine zqC (fun Kn hK=>?_) AllReadyH.nil;go_simp;refine hK.out _ _ (HRW.out.set5 hne) (fun hHeld=>?_);try simp only[Act.put,zq1,zq2,zq3]
  clear hHeld b0 b1 b2 b3 b4 u0 u1 u2 u3 u4 p0;refine wpAnyH_done (by kernel_rfl) ?_ _;rw[set5_eq];replace HXA:=zh (c5_set5 (a':=.string P0) (b':=.int .u64 (n1:Int)) (c':=.int .i64 E) (d':=.string P3) (e':=.string P4) HXA.out);replace HXZ:=zh (HXZ.out.other5 (x0:=.string P0) (x1:=.int .u64 (n1:Int)) (x2:=.int .i64 E) (x3:=.string P3) (x4:=.string P4) hne2);have HB7:=zh (bel_set5 (a:=.string P0) (b:=.int .u64 (n1:Int)) (c:=.int .i64 E) (d:=.string P3) (e:=.string P4) HB6.out hge);clear HRW;generalize set5 wSA wd.heap.size (.string P0) (.int .u64 (n1:Int)) (.int .i64 E) (.string P3) (.string P4)=wc at HXA HXZ HB7⊢;obtain⟨⟨nA,dA0,dA1,dA2,dA3,dA4⟩,kA0,kA1,kA2,kA3,kA4⟩:=HXA.out;obtain⟨⟨nZ,dZ0,dZ1,dZ2,dZ3,dZ4⟩,kZ0,kZ1,kZ2,kZ3,kZ4⟩:=HXZ.out;go_wp2;refine bodyPost_ret (v:=.tuple #[Zs,.int .i64 2]) (by simp[results,Tryz.results30,go_sem,Zs,dZ0,dZ1,dZ2,dZ3,dZ4]) rfl ?_;exact⟨⟨_,by rw[←HX.out];exact zs_is,by rw[←HX.out]⟩,bel_set5 HB7.out zl⟩
 subst hr1;by_cases hg:g2=0
 case neg=>
  rw[if_pos (fun h=>hg (hro.1 h.1).2.1.1)]at hx;have HX:=zh hx;have hgb:(g2==0)=false:=by simpa using hg
  have hgb2:(g2 != 0)=true:=by simpa using hg
  clear hx hro hg hE9;go_enter Tryz.func30,Tryz.ntmps30;go_wp2_with fail;have hbS:Below w.heap.size w (w.alloc (.cells #[.string ⟨#[]⟩,.int .u64 0,.int .i64 0,.string ⟨#[]⟩,.string ⟨#[]⟩] 38)):=(Below.refl w.heap.size w).alloc zl _;have hxS:=c5_new w (.string ⟨#[]⟩) (.int .u64 0) (.int .i64 0) (.string ⟨#[]⟩) (.string ⟨#[]⟩) 38;generalize w.alloc (.cells #[.string ⟨#[]⟩,.int .u64 0,.int .i64 0,.string ⟨#[]⟩,.string ⟨#[]⟩] 38)=wSZ at hbS hxS⊢;have HB1:=zh hbS;have HXZ:=zh hxS;clear hbS hxS;with_reducible refine(HT.out _).mono ?_
  rintro e w2 ⟨⟨A,cc,ys,hys,hlc,hsr,rfl⟩,hb2⟩;have HB2:=zh (Bel.call HB1.out hb2);replace HXZ:=zh (HXZ.out.below hb2);clear hb2;try dsimp only
  obtain⟨P0,P1,P2,P3,P4,rfl,hP0,hP1,hP2,hP3,hP4⟩:=bl_five hys;obtain⟨g,off,rfl,hrow⟩:=five_reads hsr;have HRW:=zh hrow;have HP0:=zh hP0;have HP1:=zh hP1;have HP2:=zh hP2;have HP3:=zh hP3;have HP4:=zh hP4;clear hys hlc hsr hrow hP0 hP1 hP2 hP3 hP4;try dsimp only
  obtain⟨_,l0,l1,l2,l3,l4⟩:=HRW.out;go_wp2_with fail;with_reducible refine(HTK1.out P1 _ HP1.out).mono ?_
  rintro e w3 ⟨⟨R1,hR1,rfl⟩,hb3⟩;have HB3:=zh (Bel.call HB2.out hb3);replace HXZ:=zh (HXZ.out.below hb3);replace HRW:=zh (HRW.out.below hb3);clear hb3;dsimp only at hR1⊢;clear l0 l1 l2 l3 l4;try dsimp only
  obtain rfl:R1=⟨#[]⟩:=str_eq hR1;obtain⟨_,l0,l1,l2,l3,l4⟩:=HRW.out;go_wp2_with fail;with_reducible refine(HTK2.out P2 _ HP2.out).mono ?_
  rintro e w4 ⟨⟨R2,hR2,rfl⟩,hb4⟩;have HB4:=zh (Bel.call HB3.out hb4);replace HXZ:=zh (HXZ.out.below hb4);replace HRW:=zh (HRW.out.below hb4);clear hb4;dsimp only at hR2⊢;clear l0 l1 l2 l3 l4;try dsimp only
  clear hR2;go_wp2_with fail;refine wp_region_held_drew (S:=fun w'=>Row5 g off w' P0 P1 P2 P3 P4) (by kernel_rfl) (HRW.out.below (Below.drewN' (Below.refl w4.heap.size w4) 1)) (fun hHeld=>?_);have hdr:Below w4.heap.size w4 w4.drew:=Below.drewN' (Below.refl w4.heap.size w4) 1;clear hHeld;generalize w4.drew=wd at hdr⊢;have HB5:=zh (Bel.call HB4.out hdr);replace HXZ:=zh (HXZ.out.below hdr);replace HRW:=zh (HRW.out.below hdr);clear hdr;have hHeld:=HRW.out;refine zqT 0 ?_ ?_ ?_;rotate_left
  ·intro w' hSw;obtain⟨_,c0,c1,c2,c3,c4⟩:=hSw;go_simp;try with_reducible rfl
  try simp only[Act.put,zq1,zq2,zq3]
  refine zqT 1 ?_ ?_ ?_;rotate_left
  ·intro w' hSw;obtain⟨_,c0,c1,c2,c3,c4⟩:=hSw;go_simp;try with_reducible rfl
  try simp only[Act.put,zq1,zq2,zq3]
  refine zqT 2 ?_ ?_ ?_;rotate_left
  ·intro w' hSw;obtain⟨_,c0,c1,c2,c3,c4⟩:=hSw;go_simp;try with_reducible rfl
  try simp only[Act.put,zq1,zq2,zq3]
  refine zqT 3 ?_ ?_ ?_;rotate_left
  ·intro w' hSw;obtain⟨_,c0,c1,c2,c3,c4⟩:=hSw;go_simp;try with_reducible rfl
  try simp only[Act.put,zq1,zq2,zq3]
  refine zqT 4 ?_ ?_ ?_;rotate_left
  ·intro w' hSw;obtain⟨_,c0,c1,c2,c3,c4⟩:=hSw;go_simp;try with_reducible rfl
  try simp only[Act.put,zq1,zq2,zq3]
  refine zqT 5 ?_ ?_ ?_;rotate_left
  ·intro w' hSw;obtain⟨_,c0,c1,c2,c3,c4⟩:=hSw;go_simp;try with_reducible rfl
  try simp only[Act.put,zq1,zq2,zq3]
  refine zqT 6 ?_ ?_ ?_;rotate_left
  ·intro w' hSw;obtain⟨_,c0,c1,c2,c3,c4⟩:=hSw;go_simp;try with_reducible rfl
  try simp only[Act.put,zq1,zq2,zq3]
  refine zqT 7 ?_ ?_ ?_;rotate_left
  ·intro w' hSw;obtain⟨_,c0,c1,c2,c3,c4⟩:=hSw;go_simp;try with_reducible rfl
  try simp only[Act.put,zq1,zq2,zq3]
  refine zqT 8 ?_ ?_ ?_;rotate_left
  ·intro w' hSw;obtain⟨_,c0,c1,c2,c3,c4⟩:=hSw;go_simp;try with_reducible rfl
  try simp only[Act.put,zq1,zq2,zq3]
  refine zqT 9 ?_ ?_ ?_;rotate_left
  ·intro w' hSw;obtain⟨_,c0,c1,c2,c3,c4⟩:=hSw;go_simp;try with_reducible rfl
  try simp only[Act.put,zq1,zq2,zq3]
  refine zqT 10 ?_ ?_ ?_;rotate_left
  ·intro w' hSw;obtain⟨_,c0,c1,c2,c3,c4⟩:=hSw;go_simp;try with_reducible rfl
  try simp only[Act.put,zq1,zq2,zq3]
  refine zqT 11 ?_ ?_ ?_;rotate_left
  ·intro w' hSw;obtain⟨_,c0,c1,c2,c3,c4⟩:=hSw;go_simp;try with_reducible rfl
  try simp only[Act.put,zq1,zq2,zq3]
  refine zqT 12 ?_ ?_ ?_;rotate_left
  ·intro w' hSw;obtain⟨_,c0,c1,c2,c3,c4⟩:=hSw;go_simp;try with_reducible rfl
  try simp only[Act.put,zq1,zq2,zq3]
  clear hHeld;refine zqR [13] ?_;refine zqC (fun Kn hK=>?_) AllReadyH.nil;go_simp;have hne:g≠wd.heap.size:=Nat.ne_of_lt HRW.out.1;have hne2:w.heap.size≠wd.heap.size:=Nat.ne_of_lt HXZ.out.1.1;have hge:w.heap.size≤wd.heap.size:=Nat.le_of_lt HXZ.out.1.1;have hbS:Below wd.heap.size wd (wd.alloc (.cells #[.string ⟨#[]⟩,.int .u64 0,.int .i64 0,.string ⟨#[]⟩,.string ⟨#[]⟩] 38)):=(Below.refl wd.heap.size wd).alloc zl _;have hxS:=c5_new wd (.string ⟨#[]⟩) (.int .u64 0) (.int .i64 0) (.string ⟨#[]⟩) (.string ⟨#[]⟩) 38;generalize wd.alloc (.cells #[.string ⟨#[]⟩,.int .u64 0,.int .i64 0,.string ⟨#[]⟩,.string ⟨#[]⟩] 38)=wSA at hbS hxS⊢;have HB6:=zh (Bel.call HB5.out hbS);replace HXZ:=zh (HXZ.out.below hbS);replace HRW:=zh (HRW.out.below hbS);have HXA:=zh hxS;clear hbS hxS;refine hK.out _ _ HRW.out (fun hHeld=>?_);try simp only[Act.put,zq1,zq2,zq3]
  clear hHeld;obtain⟨⟨p0,b0,b1,b2,b3,b4⟩,u0,u1,u2,u3,u4⟩:=HXA.out;refine zqR [14] ?_;refine zqC (fun Kn hK=>?_) AllReadyH.nil;go_simp;refine hK.out _ _ (HRW.out.set5 hne) (fun hHeld=>?_);try simp only[Act.put,zq1,zq2,zq3]
  clear hHeld b0 b1 b2 b3 b4 u0 u1 u2 u3 u4 p0;refine wpAnyH_done (by kernel_rfl) ?_ _;rw[set5_eq];replace HXA:=zh (c5_set5 (a':=.string P0) (b':=.int .u64 (n1:Int)) (c':=.int .i64 E) (d':=.string P3) (e':=.string P4) HXA.out);replace HXZ:=zh (HXZ.out.other5 (x0:=.string P0) (x1:=.int .u64 (n1:Int)) (x2:=.int .i64 E) (x3:=.string P3) (x4:=.string P4) hne2);have HB7:=zh (bel_set5 (a:=.string P0) (b:=.int .u64 (n1:Int)) (c:=.int .i64 E) (d:=.string P3) (e:=.string P4) HB6.out hge);clear HRW;generalize set5 wSA wd.heap.size (.string P0) (.int .u64 (n1:Int)) (.int .i64 E) (.string P3) (.string P4)=wc at HXA HXZ HB7⊢;obtain⟨⟨nA,dA0,dA1,dA2,dA3,dA4⟩,kA0,kA1,kA2,kA3,kA4⟩:=HXA.out;obtain⟨⟨nZ,dZ0,dZ1,dZ2,dZ3,dZ4⟩,kZ0,kZ1,kZ2,kZ3,kZ4⟩:=HXZ.out;go_wp2;refine bodyPost_ret (v:=.tuple #[Zs,.int .i64 2]) (by simp[results,Tryz.results30,go_sem,Zs,dZ0,dZ1,dZ2,dZ3,dZ4]) rfl ?_;exact⟨⟨_,by rw[←HX.out];exact zs_is,by rw[←HX.out]⟩,bel_set5 HB7.out zl⟩
 subst hg;by_cases hr2:r2 = []
 case neg=>
  rw[if_pos (fun h=>hr2 (hro.1 h.1).2.1.2)]at hx;have HX:=zh hx;clear hx hro hE9;go_enter Tryz.func30,Tryz.ntmps30;go_wp2_with fail;have hbS:Below w.heap.size w (w.alloc (.cells #[.string ⟨#[]⟩,.int .u64 0,.int .i64 0,.string ⟨#[]⟩,.string ⟨#[]⟩] 38)):=(Below.refl w.heap.size w).alloc zl _;have hxS:=c5_new w (.string ⟨#[]⟩) (.int .u64 0) (.int .i64 0) (.string ⟨#[]⟩) (.string ⟨#[]⟩) 38;generalize w.alloc (.cells #[.string ⟨#[]⟩,.int .u64 0,.int .i64 0,.string ⟨#[]⟩,.string ⟨#[]⟩] 38)=wSZ at hbS hxS⊢;have HB1:=zh hbS;have HXZ:=zh hxS;clear hbS hxS;with_reducible refine(HT.out _).mono ?_
  rintro e w2 ⟨⟨A,cc,ys,hys,hlc,hsr,rfl⟩,hb2⟩;have HB2:=zh (Bel.call HB1.out hb2);replace HXZ:=zh (HXZ.out.below hb2);clear hb2;try dsimp only
  obtain⟨P0,P1,P2,P3,P4,rfl,hP0,hP1,hP2,hP3,hP4⟩:=bl_five hys;obtain⟨g,off,rfl,hrow⟩:=five_reads hsr;have HRW:=zh hrow;have HP0:=zh hP0;have HP1:=zh hP1;have HP2:=zh hP2;have HP3:=zh hP3;have HP4:=zh hP4;clear hys hlc hsr hrow hP0 hP1 hP2 hP3 hP4;try dsimp only
  obtain⟨_,l0,l1,l2,l3,l4⟩:=HRW.out;go_wp2_with fail;with_reducible refine(HTK1.out P1 _ HP1.out).mono ?_
  rintro e w3 ⟨⟨R1,hR1,rfl⟩,hb3⟩;have HB3:=zh (Bel.call HB2.out hb3);replace HXZ:=zh (HXZ.out.below hb3);replace HRW:=zh (HRW.out.below hb3);clear hb3;dsimp only at hR1⊢;clear l0 l1 l2 l3 l4;try dsimp only
  obtain rfl:R1=⟨#[]⟩:=str_eq hR1;obtain⟨_,l0,l1,l2,l3,l4⟩:=HRW.out;go_wp2_with fail;with_reducible refine(HTK2.out P2 _ HP2.out).mono ?_
  rintro e w4 ⟨⟨R2,hR2,rfl⟩,hb4⟩;have HB4:=zh (Bel.call HB3.out hb4);replace HXZ:=zh (HXZ.out.below hb4);replace HRW:=zh (HRW.out.below hb4);clear hb4;dsimp only at hR2⊢;clear l0 l1 l2 l3 l4;try dsimp only
  have hre2:R2.toList.isEmpty=false:=by
   rw[Lib.toList_data,hR2];cases r2 with
   | nil=>exact absurd rfl hr2
   | cons x y=>rfl
  have hrf2:(R2.toList==[])=false:=by
   rw[Lib.toList_data,hR2];cases r2 with
   | nil=>exact absurd rfl hr2
   | cons x y=>rfl
  go_wp2_with fail;refine wp_region_held_drew (S:=fun w'=>Row5 g off w' P0 P1 P2 P3 P4) (by kernel_rfl) (HRW.out.below (Below.drewN' (Below.refl w4.heap.size w4) 1)) (fun hHeld=>?_);have hdr:Below w4.heap.size w4 w4.drew:=Below.drewN' (Below.refl w4.heap.size w4) 1;clear hHeld;generalize w4.drew=wd at hdr⊢;have HB5:=zh (Bel.call HB4.out hdr);replace HXZ:=zh (HXZ.out.below hdr);replace HRW:=zh (HRW.out.below hdr);clear hdr;have hHeld:=HRW.out;refine zqT 0 ?_ ?_ ?_;rotate_left
  ·intro w' hSw;obtain⟨_,c0,c1,c2,c3,c4⟩:=hSw;go_simp;try with_reducible rfl
  try simp only[Act.put,zq1,zq2,zq3]
  refine zqT 1 ?_ ?_ ?_;rotate_left
  ·intro w' hSw;obtain⟨_,c0,c1,c2,c3,c4⟩:=hSw;go_simp;try with_reducible rfl
  try simp only[Act.put,zq1,zq2,zq3]
  refine zqT 2 ?_ ?_ ?_;rotate_left
  ·intro w' hSw;obtain⟨_,c0,c1,c2,c3,c4⟩:=hSw;go_simp;try with_reducible rfl
  try simp only[Act.put,zq1,zq2,zq3]
  refine zqT 3 ?_ ?_ ?_;rotate_left
  ·intro w' hSw;obtain⟨_,c0,c1,c2,c3,c4⟩:=hSw;go_simp;try with_reducible rfl
  try simp only[Act.put,zq1,zq2,zq3]
  refine zqT 4 ?_ ?_ ?_;rotate_left
  ·intro w' hSw;obtain⟨_,c0,c1,c2,c3,c4⟩:=hSw;go_simp;try with_reducible rfl
  try simp only[Act.put,zq1,zq2,zq3]
  refine zqT 5 ?_ ?_ ?_;rotate_left
  ·intro w' hSw;obtain⟨_,c0,c1,c2,c3,c4⟩:=hSw;go_simp;try with_reducible rfl
  try simp only[Act.put,zq1,zq2,zq3]
  refine zqT 6 ?_ ?_ ?_;rotate_left
  ·intro w' hSw;obtain⟨_,c0,c1,c2,c3,c4⟩:=hSw;go_simp;try with_reducible rfl
  try simp only[Act.put,zq1,zq2,zq3]
  refine zqT 7 ?_ ?_ ?_;rotate_left
  ·intro w' hSw;obtain⟨_,c0,c1,c2,c3,c4⟩:=hSw;go_simp;try with_reducible rfl
  try simp only[Act.put,zq1,zq2,zq3]
  refine zqT 8 ?_ ?_ ?_;rotate_left
  ·intro w' hSw;obtain⟨_,c0,c1,c2,c3,c4⟩:=hSw;go_simp;try with_reducible rfl
  try simp only[Act.put,zq1,zq2,zq3]
  refine zqT 9 ?_ ?_ ?_;rotate_left
  ·intro w' hSw;obtain⟨_,c0,c1,c2,c3,c4⟩:=hSw;go_simp;try with_reducible rfl
  try simp only[Act.put,zq1,zq2,zq3]
  refine zqT 10 ?_ ?_ ?_;rotate_left
  ·intro w' hSw;obtain⟨_,c0,c1,c2,c3,c4⟩:=hSw;go_simp;try with_reducible rfl
  try simp only[Act.put,zq1,zq2,zq3]
  refine zqT 11 ?_ ?_ ?_;rotate_left
  ·intro w' hSw;obtain⟨_,c0,c1,c2,c3,c4⟩:=hSw;go_simp;try with_reducible rfl
  try simp only[Act.put,zq1,zq2,zq3]
  refine zqT 12 ?_ ?_ ?_;rotate_left
  ·intro w' hSw;obtain⟨_,c0,c1,c2,c3,c4⟩:=hSw;go_simp;try with_reducible rfl
  try simp only[Act.put,zq1,zq2,zq3]
  clear hHeld;refine zqR [13] ?_;refine zqC (fun Kn hK=>?_) AllReadyH.nil;go_simp;have hne:g≠wd.heap.size:=Nat.ne_of_lt HRW.out.1;have hne2:w.heap.size≠wd.heap.size:=Nat.ne_of_lt HXZ.out.1.1;have hge:w.heap.size≤wd.heap.size:=Nat.le_of_lt HXZ.out.1.1;have hbS:Below wd.heap.size wd (wd.alloc (.cells #[.string ⟨#[]⟩,.int .u64 0,.int .i64 0,.string ⟨#[]⟩,.string ⟨#[]⟩] 38)):=(Below.refl wd.heap.size wd).alloc zl _;have hxS:=c5_new wd (.string ⟨#[]⟩) (.int .u64 0) (.int .i64 0) (.string ⟨#[]⟩) (.string ⟨#[]⟩) 38;generalize wd.alloc (.cells #[.string ⟨#[]⟩,.int .u64 0,.int .i64 0,.string ⟨#[]⟩,.string ⟨#[]⟩] 38)=wSA at hbS hxS⊢;have HB6:=zh (Bel.call HB5.out hbS);replace HXZ:=zh (HXZ.out.below hbS);replace HRW:=zh (HRW.out.below hbS);have HXA:=zh hxS;clear hbS hxS;refine hK.out _ _ HRW.out (fun hHeld=>?_);try simp only[Act.put,zq1,zq2,zq3]
  clear hHeld;obtain⟨⟨p0,b0,b1,b2,b3,b4⟩,u0,u1,u2,u3,u4⟩:=HXA.out;refine zqR [14] ?_;refine zqC (fun Kn hK=>?_) AllReadyH.nil;go_simp;refine hK.out _ _ (HRW.out.set5 hne) (fun hHeld=>?_);try simp only[Act.put,zq1,zq2,zq3]
  clear hHeld b0 b1 b2 b3 b4 u0 u1 u2 u3 u4 p0;refine wpAnyH_done (by kernel_rfl) ?_ _;rw[set5_eq];replace HXA:=zh (c5_set5 (a':=.string P0) (b':=.int .u64 (n1:Int)) (c':=.int .i64 E) (d':=.string P3) (e':=.string P4) HXA.out);replace HXZ:=zh (HXZ.out.other5 (x0:=.string P0) (x1:=.int .u64 (n1:Int)) (x2:=.int .i64 E) (x3:=.string P3) (x4:=.string P4) hne2);have HB7:=zh (bel_set5 (a:=.string P0) (b:=.int .u64 (n1:Int)) (c:=.int .i64 E) (d:=.string P3) (e:=.string P4) HB6.out hge);clear HRW;generalize set5 wSA wd.heap.size (.string P0) (.int .u64 (n1:Int)) (.int .i64 E) (.string P3) (.string P4)=wc at HXA HXZ HB7⊢;obtain⟨⟨nA,dA0,dA1,dA2,dA3,dA4⟩,kA0,kA1,kA2,kA3,kA4⟩:=HXA.out;obtain⟨⟨nZ,dZ0,dZ1,dZ2,dZ3,dZ4⟩,kZ0,kZ1,kZ2,kZ3,kZ4⟩:=HXZ.out;go_wp2;refine bodyPost_ret (v:=.tuple #[Zs,.int .i64 2]) (by simp[results,Tryz.results30,go_sem,Zs,dZ0,dZ1,dZ2,dZ3,dZ4]) rfl ?_;exact⟨⟨_,by rw[←HX.out];exact zs_is,by rw[←HX.out]⟩,bel_set5 HB7.out zl⟩
 subst hr2;by_cases hn8:n2≤8
 case neg=>
  rw[if_pos (fun h=>hn8 (hro.1 h.1).2.2)]at hx;have HX:=zh hx;have hn9:(8:Int)<(n2:Int):=by omega
  clear hx hro hE9 hn8;go_enter Tryz.func30,Tryz.ntmps30;go_wp2_with fail;have hbS:Below w.heap.size w (w.alloc (.cells #[.string ⟨#[]⟩,.int .u64 0,.int .i64 0,.string ⟨#[]⟩,.string ⟨#[]⟩] 38)):=(Below.refl w.heap.size w).alloc zl _;have hxS:=c5_new w (.string ⟨#[]⟩) (.int .u64 0) (.int .i64 0) (.string ⟨#[]⟩) (.string ⟨#[]⟩) 38;generalize w.alloc (.cells #[.string ⟨#[]⟩,.int .u64 0,.int .i64 0,.string ⟨#[]⟩,.string ⟨#[]⟩] 38)=wSZ at hbS hxS⊢;have HB1:=zh hbS;have HXZ:=zh hxS;clear hbS hxS;with_reducible refine(HT.out _).mono ?_
  rintro e w2 ⟨⟨A,cc,ys,hys,hlc,hsr,rfl⟩,hb2⟩;have HB2:=zh (Bel.call HB1.out hb2);replace HXZ:=zh (HXZ.out.below hb2);clear hb2;try dsimp only
  obtain⟨P0,P1,P2,P3,P4,rfl,hP0,hP1,hP2,hP3,hP4⟩:=bl_five hys;obtain⟨g,off,rfl,hrow⟩:=five_reads hsr;have HRW:=zh hrow;have HP0:=zh hP0;have HP1:=zh hP1;have HP2:=zh hP2;have HP3:=zh hP3;have HP4:=zh hP4;clear hys hlc hsr hrow hP0 hP1 hP2 hP3 hP4;try dsimp only
  obtain⟨_,l0,l1,l2,l3,l4⟩:=HRW.out;go_wp2_with fail;with_reducible refine(HTK1.out P1 _ HP1.out).mono ?_
  rintro e w3 ⟨⟨R1,hR1,rfl⟩,hb3⟩;have HB3:=zh (Bel.call HB2.out hb3);replace HXZ:=zh (HXZ.out.below hb3);replace HRW:=zh (HRW.out.below hb3);clear hb3;dsimp only at hR1⊢;clear l0 l1 l2 l3 l4;try dsimp only
  obtain rfl:R1=⟨#[]⟩:=str_eq hR1;obtain⟨_,l0,l1,l2,l3,l4⟩:=HRW.out;go_wp2_with fail;with_reducible refine(HTK2.out P2 _ HP2.out).mono ?_
  rintro e w4 ⟨⟨R2,hR2,rfl⟩,hb4⟩;have HB4:=zh (Bel.call HB3.out hb4);replace HXZ:=zh (HXZ.out.below hb4);replace HRW:=zh (HRW.out.below hb4);clear hb4;dsimp only at hR2⊢;clear l0 l1 l2 l3 l4;try dsimp only
  obtain rfl:R2=⟨#[]⟩:=str_eq hR2;go_wp2_with fail;refine wp_region_held_drew (S:=fun w'=>Row5 g off w' P0 P1 P2 P3 P4) (by kernel_rfl) (HRW.out.below (Below.drewN' (Below.refl w4.heap.size w4) 1)) (fun hHeld=>?_);have hdr:Below w4.heap.size w4 w4.drew:=Below.drewN' (Below.refl w4.heap.size w4) 1;clear hHeld;generalize w4.drew=wd at hdr⊢;have HB5:=zh (Bel.call HB4.out hdr);replace HXZ:=zh (HXZ.out.below hdr);replace HRW:=zh (HRW.out.below hdr);clear hdr;have hHeld:=HRW.out;refine zqT 0 ?_ ?_ ?_;rotate_left
  ·intro w' hSw;obtain⟨_,c0,c1,c2,c3,c4⟩:=hSw;go_simp;try with_reducible rfl
  try simp only[Act.put,zq1,zq2,zq3]
  refine zqT 1 ?_ ?_ ?_;rotate_left
  ·intro w' hSw;obtain⟨_,c0,c1,c2,c3,c4⟩:=hSw;go_simp;try with_reducible rfl
  try simp only[Act.put,zq1,zq2,zq3]
  refine zqT 2 ?_ ?_ ?_;rotate_left
  ·intro w' hSw;obtain⟨_,c0,c1,c2,c3,c4⟩:=hSw;go_simp;try with_reducible rfl
  try simp only[Act.put,zq1,zq2,zq3]
  refine zqT 3 ?_ ?_ ?_;rotate_left
  ·intro w' hSw;obtain⟨_,c0,c1,c2,c3,c4⟩:=hSw;go_simp;try with_reducible rfl
  try simp only[Act.put,zq1,zq2,zq3]
  refine zqT 4 ?_ ?_ ?_;rotate_left
  ·intro w' hSw;obtain⟨_,c0,c1,c2,c3,c4⟩:=hSw;go_simp;try with_reducible rfl
  try simp only[Act.put,zq1,zq2,zq3]
  refine zqT 5 ?_ ?_ ?_;rotate_left
  ·intro w' hSw;obtain⟨_,c0,c1,c2,c3,c4⟩:=hSw;go_simp;try with_reducible rfl
  try simp only[Act.put,zq1,zq2,zq3]
  refine zqT 6 ?_ ?_ ?_;rotate_left
  ·intro w' hSw;obtain⟨_,c0,c1,c2,c3,c4⟩:=hSw;go_simp;try with_reducible rfl
  try simp only[Act.put,zq1,zq2,zq3]
  refine zqT 7 ?_ ?_ ?_;rotate_left
  ·intro w' hSw;obtain⟨_,c0,c1,c2,c3,c4⟩:=hSw;go_simp;try with_reducible rfl
  try simp only[Act.put,zq1,zq2,zq3]
  refine zqT 8 ?_ ?_ ?_;rotate_left
  ·intro w' hSw;obtain⟨_,c0,c1,c2,c3,c4⟩:=hSw;go_simp;try with_reducible rfl
  try simp only[Act.put,zq1,zq2,zq3]
  refine zqT 9 ?_ ?_ ?_;rotate_left
  ·intro w' hSw;obtain⟨_,c0,c1,c2,c3,c4⟩:=hSw;go_simp;try with_reducible rfl
  try simp only[Act.put,zq1,zq2,zq3]
  refine zqT 10 ?_ ?_ ?_;rotate_left
  ·intro w' hSw;obtain⟨_,c0,c1,c2,c3,c4⟩:=hSw;go_simp;try with_reducible rfl
  try simp only[Act.put,zq1,zq2,zq3]
  refine zqT 11 ?_ ?_ ?_;rotate_left
  ·intro w' hSw;obtain⟨_,c0,c1,c2,c3,c4⟩:=hSw;go_simp;try with_reducible rfl
  try simp only[Act.put,zq1,zq2,zq3]
  refine zqT 12 ?_ ?_ ?_;rotate_left
  ·intro w' hSw;obtain⟨_,c0,c1,c2,c3,c4⟩:=hSw;go_simp;try with_reducible rfl
  try simp only[Act.put,zq1,zq2,zq3]
  clear hHeld;refine zqR [13] ?_;refine zqC (fun Kn hK=>?_) AllReadyH.nil;go_simp;have hne:g≠wd.heap.size:=Nat.ne_of_lt HRW.out.1;have hne2:w.heap.size≠wd.heap.size:=Nat.ne_of_lt HXZ.out.1.1;have hge:w.heap.size≤wd.heap.size:=Nat.le_of_lt HXZ.out.1.1;have hbS:Below wd.heap.size wd (wd.alloc (.cells #[.string ⟨#[]⟩,.int .u64 0,.int .i64 0,.string ⟨#[]⟩,.string ⟨#[]⟩] 38)):=(Below.refl wd.heap.size wd).alloc zl _;have hxS:=c5_new wd (.string ⟨#[]⟩) (.int .u64 0) (.int .i64 0) (.string ⟨#[]⟩) (.string ⟨#[]⟩) 38;generalize wd.alloc (.cells #[.string ⟨#[]⟩,.int .u64 0,.int .i64 0,.string ⟨#[]⟩,.string ⟨#[]⟩] 38)=wSA at hbS hxS⊢;have HB6:=zh (Bel.call HB5.out hbS);replace HXZ:=zh (HXZ.out.below hbS);replace HRW:=zh (HRW.out.below hbS);have HXA:=zh hxS;clear hbS hxS;refine hK.out _ _ HRW.out (fun hHeld=>?_);try simp only[Act.put,zq1,zq2,zq3]
  clear hHeld;obtain⟨⟨p0,b0,b1,b2,b3,b4⟩,u0,u1,u2,u3,u4⟩:=HXA.out;refine zqR [14] ?_;refine zqC (fun Kn hK=>?_) AllReadyH.nil;go_simp;refine hK.out _ _ (HRW.out.set5 hne) (fun hHeld=>?_);try simp only[Act.put,zq1,zq2,zq3]
  clear hHeld b0 b1 b2 b3 b4 u0 u1 u2 u3 u4 p0;refine wpAnyH_done (by kernel_rfl) ?_ _;rw[set5_eq];replace HXA:=zh (c5_set5 (a':=.string P0) (b':=.int .u64 (n1:Int)) (c':=.int .i64 E) (d':=.string P3) (e':=.string P4) HXA.out);replace HXZ:=zh (HXZ.out.other5 (x0:=.string P0) (x1:=.int .u64 (n1:Int)) (x2:=.int .i64 E) (x3:=.string P3) (x4:=.string P4) hne2);have HB7:=zh (bel_set5 (a:=.string P0) (b:=.int .u64 (n1:Int)) (c:=.int .i64 E) (d:=.string P3) (e:=.string P4) HB6.out hge);clear HRW;generalize set5 wSA wd.heap.size (.string P0) (.int .u64 (n1:Int)) (.int .i64 E) (.string P3) (.string P4)=wc at HXA HXZ HB7⊢;obtain⟨⟨nA,dA0,dA1,dA2,dA3,dA4⟩,kA0,kA1,kA2,kA3,kA4⟩:=HXA.out;obtain⟨⟨nZ,dZ0,dZ1,dZ2,dZ3,dZ4⟩,kZ0,kZ1,kZ2,kZ3,kZ4⟩:=HXZ.out;go_wp2;refine bodyPost_ret (v:=.tuple #[Zs,.int .i64 2]) (by simp[results,Tryz.results30,go_sem,Zs,dZ0,dZ1,dZ2,dZ3,dZ4]) rfl ?_;exact⟨⟨_,by rw[←HX.out];exact zs_is,by rw[←HX.out]⟩,bel_set5 HB7.out zl⟩
 obtain rfl:E=(n2:Int):=hE9 hn8;have hn9:¬(8:Int)<(n2:Int):=by omega
 by_cases hS:SR ⟨x0,n1,(n2:Int),x3,x4⟩
 case neg=>
  rw[decide_eq_false hS]at HR;rw[if_pos (fun h=>hS h.2)]at hx;have HX:=zh hx;clear hx hS hro hE9 hn8;go_enter Tryz.func30,Tryz.ntmps30;go_wp2_with fail;have hbS:Below w.heap.size w (w.alloc (.cells #[.string ⟨#[]⟩,.int .u64 0,.int .i64 0,.string ⟨#[]⟩,.string ⟨#[]⟩] 38)):=(Below.refl w.heap.size w).alloc zl _;have hxS:=c5_new w (.string ⟨#[]⟩) (.int .u64 0) (.int .i64 0) (.string ⟨#[]⟩) (.string ⟨#[]⟩) 38;generalize w.alloc (.cells #[.string ⟨#[]⟩,.int .u64 0,.int .i64 0,.string ⟨#[]⟩,.string ⟨#[]⟩] 38)=wSZ at hbS hxS⊢;have HB1:=zh hbS;have HXZ:=zh hxS;clear hbS hxS;with_reducible refine(HT.out _).mono ?_
  rintro e w2 ⟨⟨A,cc,ys,hys,hlc,hsr,rfl⟩,hb2⟩;have HB2:=zh (Bel.call HB1.out hb2);replace HXZ:=zh (HXZ.out.below hb2);clear hb2;try dsimp only
  obtain⟨P0,P1,P2,P3,P4,rfl,hP0,hP1,hP2,hP3,hP4⟩:=bl_five hys;obtain⟨g,off,rfl,hrow⟩:=five_reads hsr;have HRW:=zh hrow;have HP0:=zh hP0;have HP1:=zh hP1;have HP2:=zh hP2;have HP3:=zh hP3;have HP4:=zh hP4;clear hys hlc hsr hrow hP0 hP1 hP2 hP3 hP4;try dsimp only
  obtain⟨_,l0,l1,l2,l3,l4⟩:=HRW.out;go_wp2_with fail;with_reducible refine(HTK1.out P1 _ HP1.out).mono ?_
  rintro e w3 ⟨⟨R1,hR1,rfl⟩,hb3⟩;have HB3:=zh (Bel.call HB2.out hb3);replace HXZ:=zh (HXZ.out.below hb3);replace HRW:=zh (HRW.out.below hb3);clear hb3;dsimp only at hR1⊢;clear l0 l1 l2 l3 l4;try dsimp only
  obtain rfl:R1=⟨#[]⟩:=str_eq hR1;obtain⟨_,l0,l1,l2,l3,l4⟩:=HRW.out;go_wp2_with fail;with_reducible refine(HTK2.out P2 _ HP2.out).mono ?_
  rintro e w4 ⟨⟨R2,hR2,rfl⟩,hb4⟩;have HB4:=zh (Bel.call HB3.out hb4);replace HXZ:=zh (HXZ.out.below hb4);replace HRW:=zh (HRW.out.below hb4);clear hb4;dsimp only at hR2⊢;clear l0 l1 l2 l3 l4;try dsimp only
  obtain rfl:R2=⟨#[]⟩:=str_eq hR2;go_wp2_with fail;refine wp_region_held_drew (S:=fun w'=>Row5 g off w' P0 P1 P2 P3 P4) (by kernel_rfl) (HRW.out.below (Below.drewN' (Below.refl w4.heap.size w4) 1)) (fun hHeld=>?_);have hdr:Below w4.heap.size w4 w4.drew:=Below.drewN' (Below.refl w4.heap.size w4) 1;clear hHeld;generalize w4.drew=wd at hdr⊢;have HB5:=zh (Bel.call HB4.out hdr);replace HXZ:=zh (HXZ.out.below hdr);replace HRW:=zh (HRW.out.below hdr);clear hdr;have hHeld:=HRW.out;refine zqT 0 ?_ ?_ ?_;rotate_left
  ·intro w' hSw;obtain⟨_,c0,c1,c2,c3,c4⟩:=hSw;go_simp;try with_reducible rfl
  try simp only[Act.put,zq1,zq2,zq3]
  refine zqT 1 ?_ ?_ ?_;rotate_left
  ·intro w' hSw;obtain⟨_,c0,c1,c2,c3,c4⟩:=hSw;go_simp;try with_reducible rfl
  try simp only[Act.put,zq1,zq2,zq3]
  refine zqT 2 ?_ ?_ ?_;rotate_left
  ·intro w' hSw;obtain⟨_,c0,c1,c2,c3,c4⟩:=hSw;go_simp;try with_reducible rfl
  try simp only[Act.put,zq1,zq2,zq3]
  refine zqT 3 ?_ ?_ ?_;rotate_left
  ·intro w' hSw;obtain⟨_,c0,c1,c2,c3,c4⟩:=hSw;go_simp;try with_reducible rfl
  try simp only[Act.put,zq1,zq2,zq3]
  refine zqT 4 ?_ ?_ ?_;rotate_left
  ·intro w' hSw;obtain⟨_,c0,c1,c2,c3,c4⟩:=hSw;go_simp;try with_reducible rfl
  try simp only[Act.put,zq1,zq2,zq3]
  refine zqT 5 ?_ ?_ ?_;rotate_left
  ·intro w' hSw;obtain⟨_,c0,c1,c2,c3,c4⟩:=hSw;go_simp;try with_reducible rfl
  try simp only[Act.put,zq1,zq2,zq3]
  refine zqT 6 ?_ ?_ ?_;rotate_left
  ·intro w' hSw;obtain⟨_,c0,c1,c2,c3,c4⟩:=hSw;go_simp;try with_reducible rfl
  try simp only[Act.put,zq1,zq2,zq3]
  refine zqT 7 ?_ ?_ ?_;rotate_left
  ·intro w' hSw;obtain⟨_,c0,c1,c2,c3,c4⟩:=hSw;go_simp;try with_reducible rfl
  try simp only[Act.put,zq1,zq2,zq3]
  refine zqT 8 ?_ ?_ ?_;rotate_left
  ·intro w' hSw;obtain⟨_,c0,c1,c2,c3,c4⟩:=hSw;go_simp;try with_reducible rfl
  try simp only[Act.put,zq1,zq2,zq3]
  refine zqT 9 ?_ ?_ ?_;rotate_left
  ·intro w' hSw;obtain⟨_,c0,c1,c2,c3,c4⟩:=hSw;go_simp;try with_reducible rfl
  try simp only[Act.put,zq1,zq2,zq3]
  refine zqT 10 ?_ ?_ ?_;rotate_left
  ·intro w' hSw;obtain⟨_,c0,c1,c2,c3,c4⟩:=hSw;go_simp;try with_reducible rfl
  try simp only[Act.put,zq1,zq2,zq3]
  refine zqT 11 ?_ ?_ ?_;rotate_left
  ·intro w' hSw;obtain⟨_,c0,c1,c2,c3,c4⟩:=hSw;go_simp;try with_reducible rfl
  try simp only[Act.put,zq1,zq2,zq3]
  refine zqT 12 ?_ ?_ ?_;rotate_left
  ·intro w' hSw;obtain⟨_,c0,c1,c2,c3,c4⟩:=hSw;go_simp;try with_reducible rfl
  try simp only[Act.put,zq1,zq2,zq3]
  clear hHeld;refine zqR [13] ?_;refine zqC (fun Kn hK=>?_) AllReadyH.nil;go_simp;have hne:g≠wd.heap.size:=Nat.ne_of_lt HRW.out.1;have hne2:w.heap.size≠wd.heap.size:=Nat.ne_of_lt HXZ.out.1.1;have hge:w.heap.size≤wd.heap.size:=Nat.le_of_lt HXZ.out.1.1;have hbS:Below wd.heap.size wd (wd.alloc (.cells #[.string ⟨#[]⟩,.int .u64 0,.int .i64 0,.string ⟨#[]⟩,.string ⟨#[]⟩] 38)):=(Below.refl wd.heap.size wd).alloc zl _;have hxS:=c5_new wd (.string ⟨#[]⟩) (.int .u64 0) (.int .i64 0) (.string ⟨#[]⟩) (.string ⟨#[]⟩) 38;generalize wd.alloc (.cells #[.string ⟨#[]⟩,.int .u64 0,.int .i64 0,.string ⟨#[]⟩,.string ⟨#[]⟩] 38)=wSA at hbS hxS⊢;have HB6:=zh (Bel.call HB5.out hbS);replace HXZ:=zh (HXZ.out.below hbS);replace HRW:=zh (HRW.out.below hbS);have HXA:=zh hxS;clear hbS hxS;refine hK.out _ _ HRW.out (fun hHeld=>?_);try simp only[Act.put,zq1,zq2,zq3]
  clear hHeld;obtain⟨⟨p0,b0,b1,b2,b3,b4⟩,u0,u1,u2,u3,u4⟩:=HXA.out;refine zqR [14] ?_;refine zqC (fun Kn hK=>?_) AllReadyH.nil;go_simp;refine hK.out _ _ (HRW.out.set5 hne) (fun hHeld=>?_);try simp only[Act.put,zq1,zq2,zq3]
  clear hHeld b0 b1 b2 b3 b4 u0 u1 u2 u3 u4 p0;refine wpAnyH_done (by kernel_rfl) ?_ _;rw[set5_eq];replace HXA:=zh (c5_set5 (a':=.string P0) (b':=.int .u64 (n1:Int)) (c':=.int .i64 (n2:Int)) (d':=.string P3) (e':=.string P4) HXA.out);replace HXZ:=zh (HXZ.out.other5 (x0:=.string P0) (x1:=.int .u64 (n1:Int)) (x2:=.int .i64 (n2:Int)) (x3:=.string P3) (x4:=.string P4) hne2);have HB7:=zh (bel_set5 (a:=.string P0) (b:=.int .u64 (n1:Int)) (c:=.int .i64 (n2:Int)) (d:=.string P3) (e:=.string P4) HB6.out hge);clear HRW;generalize set5 wSA wd.heap.size (.string P0) (.int .u64 (n1:Int)) (.int .i64 (n2:Int)) (.string P3) (.string P4)=wc at HXA HXZ HB7⊢;have HIS:Hid (IsS (.agg #[.string P0,.int .u64 (n1:Int),.int .i64 (n2:Int),.string P3,.string P4]) ⟨x0,n1,(n2:Int),x3,x4⟩):=zh ⟨P0,P3,P4,HP0.out,HP3.out,HP4.out,rfl⟩;obtain⟨⟨nA,dA0,dA1,dA2,dA3,dA4⟩,kA0,kA1,kA2,kA3,kA4⟩:=HXA.out;go_wp2_with fail;with_reducible refine(HR.out _ HIS.out _).mono ?_
  rintro e w8 ⟨rfl,hb8⟩;clear nA dA0 dA1 dA2 dA3 dA4 kA0 kA1 kA2 kA3 kA4;have HB8:=zh (Bel.call HB7.out hb8);replace HXZ:=zh (HXZ.out.below hb8);replace HXA:=zh (HXA.out.below hb8);clear hb8;try dsimp only
  obtain⟨⟨nZ,dZ0,dZ1,dZ2,dZ3,dZ4⟩,kZ0,kZ1,kZ2,kZ3,kZ4⟩:=HXZ.out;go_wp2;refine bodyPost_ret (v:=.tuple #[Zs,.int .i64 2]) (by simp[results,Tryz.results30,go_sem,Zs,dZ0,dZ1,dZ2,dZ3,dZ4]) rfl ?_;exact⟨⟨_,by rw[←HX.out];exact zs_is,by rw[←HX.out]⟩,bel_set5 HB8.out zl⟩
 rw[decide_eq_true hS]at HR;rw[if_neg (fun h=>h ⟨hro.2 ⟨⟨rfl,rfl⟩,⟨rfl,rfl⟩,hn8⟩,hS⟩)]at hx;have HX:=zh hx;clear hx hS hro hE9 hn8;go_enter Tryz.func30,Tryz.ntmps30;go_wp2_with fail;have hbS:Below w.heap.size w (w.alloc (.cells #[.string ⟨#[]⟩,.int .u64 0,.int .i64 0,.string ⟨#[]⟩,.string ⟨#[]⟩] 38)):=(Below.refl w.heap.size w).alloc zl _;have hxS:=c5_new w (.string ⟨#[]⟩) (.int .u64 0) (.int .i64 0) (.string ⟨#[]⟩) (.string ⟨#[]⟩) 38;generalize w.alloc (.cells #[.string ⟨#[]⟩,.int .u64 0,.int .i64 0,.string ⟨#[]⟩,.string ⟨#[]⟩] 38)=wSZ at hbS hxS⊢;have HB1:=zh hbS;have HXZ:=zh hxS;clear hbS hxS;with_reducible refine(HT.out _).mono ?_
 rintro e w2 ⟨⟨A,cc,ys,hys,hlc,hsr,rfl⟩,hb2⟩;have HB2:=zh (Bel.call HB1.out hb2);replace HXZ:=zh (HXZ.out.below hb2);clear hb2;try dsimp only
 obtain⟨P0,P1,P2,P3,P4,rfl,hP0,hP1,hP2,hP3,hP4⟩:=bl_five hys;obtain⟨g,off,rfl,hrow⟩:=five_reads hsr;have HRW:=zh hrow;have HP0:=zh hP0;have HP1:=zh hP1;have HP2:=zh hP2;have HP3:=zh hP3;have HP4:=zh hP4;clear hys hlc hsr hrow hP0 hP1 hP2 hP3 hP4;try dsimp only
 obtain⟨_,l0,l1,l2,l3,l4⟩:=HRW.out;go_wp2_with fail;with_reducible refine(HTK1.out P1 _ HP1.out).mono ?_
 rintro e w3 ⟨⟨R1,hR1,rfl⟩,hb3⟩;have HB3:=zh (Bel.call HB2.out hb3);replace HXZ:=zh (HXZ.out.below hb3);replace HRW:=zh (HRW.out.below hb3);clear hb3;dsimp only at hR1⊢;clear l0 l1 l2 l3 l4;try dsimp only
 obtain rfl:R1=⟨#[]⟩:=str_eq hR1;obtain⟨_,l0,l1,l2,l3,l4⟩:=HRW.out;go_wp2_with fail;with_reducible refine(HTK2.out P2 _ HP2.out).mono ?_
 rintro e w4 ⟨⟨R2,hR2,rfl⟩,hb4⟩;have HB4:=zh (Bel.call HB3.out hb4);replace HXZ:=zh (HXZ.out.below hb4);replace HRW:=zh (HRW.out.below hb4);clear hb4;dsimp only at hR2⊢;clear l0 l1 l2 l3 l4;try dsimp only
 obtain rfl:R2=⟨#[]⟩:=str_eq hR2;go_wp2_with fail;refine wp_region_held_drew (S:=fun w'=>Row5 g off w' P0 P1 P2 P3 P4) (by kernel_rfl) (HRW.out.below (Below.drewN' (Below.refl w4.heap.size w4) 1)) (fun hHeld=>?_);have hdr:Below w4.heap.size w4 w4.drew:=Below.drewN' (Below.refl w4.heap.size w4) 1;clear hHeld;generalize w4.drew=wd at hdr⊢;have HB5:=zh (Bel.call HB4.out hdr);replace HXZ:=zh (HXZ.out.below hdr);replace HRW:=zh (HRW.out.below hdr);clear hdr;have hHeld:=HRW.out;refine zqT 0 ?_ ?_ ?_;rotate_left
 ·intro w' hSw;obtain⟨_,c0,c1,c2,c3,c4⟩:=hSw;go_simp;try with_reducible rfl
 try simp only[Act.put,zq1,zq2,zq3]
 refine zqT 1 ?_ ?_ ?_;rotate_left
 ·intro w' hSw;obtain⟨_,c0,c1,c2,c3,c4⟩:=hSw;go_simp;try with_reducible rfl
 try simp only[Act.put,zq1,zq2,zq3]
 refine zqT 2 ?_ ?_ ?_;rotate_left
 ·intro w' hSw;obtain⟨_,c0,c1,c2,c3,c4⟩:=hSw;go_simp;try with_reducible rfl
 try simp only[Act.put,zq1,zq2,zq3]
 refine zqT 3 ?_ ?_ ?_;rotate_left
 ·intro w' hSw;obtain⟨_,c0,c1,c2,c3,c4⟩:=hSw;go_simp;try with_reducible rfl
 try simp only[Act.put,zq1,zq2,zq3]
 refine zqT 4 ?_ ?_ ?_;rotate_left
 ·intro w' hSw;obtain⟨_,c0,c1,c2,c3,c4⟩:=hSw;go_simp;try with_reducible rfl
 try simp only[Act.put,zq1,zq2,zq3]
 refine zqT 5 ?_ ?_ ?_;rotate_left
 ·intro w' hSw;obtain⟨_,c0,c1,c2,c3,c4⟩:=hSw;go_simp;try with_reducible rfl
 try simp only[Act.put,zq1,zq2,zq3]
 refine zqT 6 ?_ ?_ ?_;rotate_left
 ·intro w' hSw;obtain⟨_,c0,c1,c2,c3,c4⟩:=hSw;go_simp;try with_reducible rfl
 try simp only[Act.put,zq1,zq2,zq3]
 refine zqT 7 ?_ ?_ ?_;rotate_left
 ·intro w' hSw;obtain⟨_,c0,c1,c2,c3,c4⟩:=hSw;go_simp;try with_reducible rfl
 try simp only[Act.put,zq1,zq2,zq3]
 refine zqT 8 ?_ ?_ ?_;rotate_left
 ·intro w' hSw;obtain⟨_,c0,c1,c2,c3,c4⟩:=hSw;go_simp;try with_reducible rfl
 try simp only[Act.put,zq1,zq2,zq3]
 refine zqT 9 ?_ ?_ ?_;rotate_left
 ·intro w' hSw;obtain⟨_,c0,c1,c2,c3,c4⟩:=hSw;go_simp;try with_reducible rfl
 try simp only[Act.put,zq1,zq2,zq3]
 refine zqT 10 ?_ ?_ ?_;rotate_left
 ·intro w' hSw;obtain⟨_,c0,c1,c2,c3,c4⟩:=hSw;go_simp;try with_reducible rfl
 try simp only[Act.put,zq1,zq2,zq3]
 refine zqT 11 ?_ ?_ ?_;rotate_left
 ·intro w' hSw;obtain⟨_,c0,c1,c2,c3,c4⟩:=hSw;go_simp;try with_reducible rfl
 try simp only[Act.put,zq1,zq2,zq3]
 refine zqT 12 ?_ ?_ ?_;rotate_left
 ·intro w' hSw;obtain⟨_,c0,c1,c2,c3,c4⟩:=hSw;go_simp;try with_reducible rfl
 try simp only[Act.put,zq1,zq2,zq3]
 clear hHeld;refine zqR [13] ?_;refine zqC (fun Kn hK=>?_) AllReadyH.nil;go_simp;have hne:g≠wd.heap.size:=Nat.ne_of_lt HRW.out.1;have hne2:w.heap.size≠wd.heap.size:=Nat.ne_of_lt HXZ.out.1.1;have hge:w.heap.size≤wd.heap.size:=Nat.le_of_lt HXZ.out.1.1;have hbS:Below wd.heap.size wd (wd.alloc (.cells #[.string ⟨#[]⟩,.int .u64 0,.int .i64 0,.string ⟨#[]⟩,.string ⟨#[]⟩] 38)):=(Below.refl wd.heap.size wd).alloc zl _;have hxS:=c5_new wd (.string ⟨#[]⟩) (.int .u64 0) (.int .i64 0) (.string ⟨#[]⟩) (.string ⟨#[]⟩) 38;generalize wd.alloc (.cells #[.string ⟨#[]⟩,.int .u64 0,.int .i64 0,.string ⟨#[]⟩,.string ⟨#[]⟩] 38)=wSA at hbS hxS⊢;have HB6:=zh (Bel.call HB5.out hbS);replace HXZ:=zh (HXZ.out.below hbS);replace HRW:=zh (HRW.out.below hbS);have HXA:=zh hxS;clear hbS hxS;refine hK.out _ _ HRW.out (fun hHeld=>?_);try simp only[Act.put,zq1,zq2,zq3]
 clear hHeld;obtain⟨⟨p0,b0,b1,b2,b3,b4⟩,u0,u1,u2,u3,u4⟩:=HXA.out;refine zqR [14] ?_;refine zqC (fun Kn hK=>?_) AllReadyH.nil;go_simp;refine hK.out _ _ (HRW.out.set5 hne) (fun hHeld=>?_);try simp only[Act.put,zq1,zq2,zq3]
 clear hHeld b0 b1 b2 b3 b4 u0 u1 u2 u3 u4 p0;refine wpAnyH_done (by kernel_rfl) ?_ _;rw[set5_eq];replace HXA:=zh (c5_set5 (a':=.string P0) (b':=.int .u64 (n1:Int)) (c':=.int .i64 (n2:Int)) (d':=.string P3) (e':=.string P4) HXA.out);replace HXZ:=zh (HXZ.out.other5 (x0:=.string P0) (x1:=.int .u64 (n1:Int)) (x2:=.int .i64 (n2:Int)) (x3:=.string P3) (x4:=.string P4) hne2);have HB7:=zh (bel_set5 (a:=.string P0) (b:=.int .u64 (n1:Int)) (c:=.int .i64 (n2:Int)) (d:=.string P3) (e:=.string P4) HB6.out hge);clear HRW;generalize set5 wSA wd.heap.size (.string P0) (.int .u64 (n1:Int)) (.int .i64 (n2:Int)) (.string P3) (.string P4)=wc at HXA HXZ HB7⊢;have HIS:Hid (IsS (.agg #[.string P0,.int .u64 (n1:Int),.int .i64 (n2:Int),.string P3,.string P4]) ⟨x0,n1,(n2:Int),x3,x4⟩):=zh ⟨P0,P3,P4,HP0.out,HP3.out,HP4.out,rfl⟩;obtain⟨⟨nA,dA0,dA1,dA2,dA3,dA4⟩,kA0,kA1,kA2,kA3,kA4⟩:=HXA.out;go_wp2_with fail;with_reducible refine(HR.out _ HIS.out _).mono ?_
 rintro e w8 ⟨rfl,hb8⟩;clear nA dA0 dA1 dA2 dA3 dA4 kA0 kA1 kA2 kA3 kA4;have HB8:=zh (Bel.call HB7.out hb8);replace HXZ:=zh (HXZ.out.below hb8);replace HXA:=zh (HXA.out.below hb8);clear hb8;try dsimp only
 obtain⟨⟨nA,dA0,dA1,dA2,dA3,dA4⟩,kA0,kA1,kA2,kA3,kA4⟩:=HXA.out;obtain⟨⟨nZ,dZ0,dZ1,dZ2,dZ3,dZ4⟩,kZ0,kZ1,kZ2,kZ3,kZ4⟩:=HXZ.out;go_wp2;refine bodyPost_ret (v:=.tuple #[.agg #[.string P0,.int .u64 (n1:Int),.int .i64 (n2:Int),.string P3,.string P4],.int .i64 0]) (by simp[results,Tryz.results30,go_sem,dZ0,dZ1,dZ2,dZ3,dZ4]) rfl ?_;exact⟨⟨_,by rw[←HX.out];exact HIS.out,by rw[←HX.out]⟩,bel_set5 HB8.out zl⟩
end Go.Proofs.YtmihiknebelkbaaGreat.Frs
