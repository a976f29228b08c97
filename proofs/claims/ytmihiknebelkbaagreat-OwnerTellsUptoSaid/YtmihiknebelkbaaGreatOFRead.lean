/-
  FRead. By an AI agent.
-/
import Derived.Test.YtmihiknebelkbaaGreatOZ
import Derived.Test.YtmihiknebelkbaaGreatOFPut
import Derived.Test.YtmihiknebelkbaaGreatOW1
set_option linter.unusedSimpArgs false
set_option linter.unusedVariables false
set_option maxHeartbeats 8000000
namespace Go.Proofs.YtmihiknebelkbaaGreat.Frs
open Go Go.RowKit Wire Term Draw Reg Clo
def Row5 (g o:Nat) (w:World) (a b c d e:ByteArray):Prop:=g<w.heap.size∧w.cell? ⟨g,o,none⟩=some (.string a)∧w.cell? ⟨g,o+1,none⟩=some (.string b)∧w.cell? ⟨g,o+2,none⟩=some (.string c)∧w.cell? ⟨g,o+3,none⟩=some (.string d)∧w.cell? ⟨g,o+4,none⟩=some (.string e)
theorem Row5.below {g o:Nat} {w w1:World} {a b c d e:ByteArray} (h:Row5 g o w a b c d e) (hb:Below w.heap.size w w1):Row5 g o w1 a b c d e:=by
 obtain⟨h0,h1,h2,h3,h4,h5⟩:=h;have ec:=fun j=>hb.cell (p:=⟨g,j,none⟩) h0
 exact⟨Nat.lt_of_lt_of_le h0 hb.size,(ec o).trans h1,(ec (o+1)).trans h2,(ec (o+2)).trans h3,(ec (o+3)).trans h4,(ec (o+4)).trans h5⟩
theorem Row5.other {g o b0 j:Nat} {w:World} {a b c d e:ByteArray} {v:Value} (h:Row5 g o w a b c d e) (hne:g≠b0):Row5 g o (w.setCell ⟨b0,j,none⟩ v) a b c d e:=by
 obtain⟨h0,h1,h2,h3,h4,h5⟩:=h;have hn:∀i,(⟨b0,j,none⟩:Addr)≠⟨g,i,none⟩:=fun i e=>hne (by injection e with e1 _ _;exact e1.symm)
 exact⟨by simpa using h0,by rw[World.cell?_setCell_other _ _ _ _ (hn _)];exact h1,by rw[World.cell?_setCell_other _ _ _ _ (hn _)];exact h2,by rw[World.cell?_setCell_other _ _ _ _ (hn _)];exact h3,by rw[World.cell?_setCell_other _ _ _ _ (hn _)];exact h4,by rw[World.cell?_setCell_other _ _ _ _ (hn _)];exact h5⟩
theorem Row5.set5 {g o b0:Nat} {w:World} {a b c d e:ByteArray} {x0 x1 x2 x3 x4:Value} (h:Row5 g o w a b c d e) (hne:g≠b0):Row5 g o (set5 w b0 x0 x1 x2 x3 x4) a b c d e:=((((h.other hne).other hne).other hne).other hne).other hne
theorem C5.other5 {g b0:Nat} {w:World} {a b c d e x0 x1 x2 x3 x4:Value} (h:C5 g w a b c d e) (hne:g≠b0):C5 g (set5 w b0 x0 x1 x2 x3 x4) a b c d e:=((((h.other hne).other hne).other hne).other hne).other hne
theorem set5_eq (w:World) (g:Nat) (a b c d e:Value):((((w.setCell ⟨g,0,none⟩ a).setCell ⟨g,1,none⟩ b).setCell ⟨g,2,none⟩ c).setCell ⟨g,3,none⟩ d).setCell ⟨g,4,none⟩ e=set5 w g a b c d e:=rfl
theorem bl_five {ys:List ByteArray} {a b c d e:Tm} (h:bl ys = [a,b,c,d,e]):∃A B C D E:ByteArray,ys = [A,B,C,D,E]∧A.data.toList=a∧B.data.toList=b∧C.data.toList=c∧D.data.toList=d∧E.data.toList=e:=by
 match ys,h with
 | [A,B,C,D,E],h=>simp only[bl,List.map_cons,List.map_nil,List.cons.injEq,and_true]at h;exact⟨A,B,C,D,E,rfl,h⟩
theorem five_reads {w:World} {A:Option Addr} {a b c d e:ByteArray} (h:SReads w A [a,b,c,d,e]):∃(g off:Nat),A=some ⟨g,off,none⟩∧Row5 g off w a b c d e:=by
 obtain⟨g,off,rfl,hg,h0⟩:=h 0 (by simp);have hc:=fun j hj=>Tre.cell_at (j:=j) h hj
 exact⟨g,off,rfl,hg,h0,hc 1 (by simp),hc 2 (by simp),hc 3 (by simp),hc 4 (by simp)⟩
theorem tk_lt {l r:Tm} {n:Nat} {g:Int} (h:tk l=(n,r,g)):n<18446744073709551616:=by
 cases ht:take l with
 | none=>rw[tk_none ht]at h;obtain⟨rfl,_⟩:=Prod.mk.inj h;decide
 | some p=>
  obtain⟨m,q⟩:=p;rw[tk_some ht]at h;obtain⟨rfl,_⟩:=Prod.mk.inj h;exact(take_some ht).2
theorem bl_len {ys:List ByteArray} {l:List Tm} (h:bl ys=l):ys.length=l.length:=by rw[←h];simp[bl]
set_option maxRecDepth 1000000 in
theorem read_any (s:ByteArray) (w:World) (hs:s.size≤2000000):
 Calls Tryz.prog 70 #[.string s] w fun e w'=>S1 (takeM ((s.size:Int)) s.data.toList).1 e∧Below w.heap.size w w':=by
 have HT:=zh fun w=>takeAll_any s 5 ((s.size:Int)) w (by omega) (by decide) (by omega)
 obtain⟨l,f,hl⟩:∃l f,all s.data.toList 5 ((s.size:Int))=(l,f):=⟨_,_,rfl⟩
 have hmem:∀t∈l,t.length≤2000000:=fun t ht=>by
  by_cases hf:f=0
  ·have h1:s.data.toList=putAll l:=((all_back hl).1 hf).1
   have h2:=Dta.mem_flat ht;have h3:=Lib.size_eq s;rw[h1]at h3;unfold putAll at h3;rw[List.length_append]at h3;rw[putText_len]at h2;omega
  ·rw[(all_back hl).2 hf]at ht;cases ht
 generalize hx:takeM ((s.size:Int)) s.data.toList=x;unfold takeM at hx;rw[hl]at HT hx;simp only at hx;clear hl;by_cases hf:f=0
 case neg=>
  rw[if_pos (.inl hf)]at hx;have HX:=zh hx;have hfb:(f==0)=false:=by simpa using hf
  have hfb2:(f != 0)=true:=by simpa using hf
  clear hf hmem hx;go_enter Tryz.func70,Tryz.ntmps70;go_wp2_with fail;have hbS:Below w.heap.size w (w.alloc (.cells #[.string ⟨#[]⟩,.int .u64 0,.int .i64 0,.string ⟨#[]⟩,.string ⟨#[]⟩] 30)):=(Below.refl w.heap.size w).alloc zl _;have hxS:=c5_new w (.string ⟨#[]⟩) (.int .u64 0) (.int .i64 0) (.string ⟨#[]⟩) (.string ⟨#[]⟩) 30;generalize w.alloc (.cells #[.string ⟨#[]⟩,.int .u64 0,.int .i64 0,.string ⟨#[]⟩,.string ⟨#[]⟩] 30)=wSZ at hbS hxS⊢;have HB1:=zh hbS;have HXZ:=zh hxS;clear hbS hxS;with_reducible refine(HT.out _).mono ?_
  rintro e w2 ⟨⟨A,cc,ys,hys,hlc,hsr,rfl⟩,hb2⟩;have HB2:=zh (Bel.call HB1.out hb2);replace HXZ:=zh (HXZ.out.below hb2);clear hb2;try dsimp only
  clear hys hlc hsr;obtain⟨⟨nZ,dZ0,dZ1,dZ2,dZ3,dZ4⟩,kZ0,kZ1,kZ2,kZ3,kZ4⟩:=HXZ.out;go_wp2;refine bodyPost_ret (v:=Zs) (by simp[results,Tryz.results70,go_sem,Zs,dZ0,dZ1,dZ2,dZ3,dZ4]) rfl ?_;exact⟨⟨_,by rw[←HX.out];exact zs_is,rfl⟩,bel_set5 HB2.out zl⟩
 subst hf;by_cases h5:l.length=5
 case neg=>
  rw[if_pos (.inr h5)]at hx;have HX:=zh hx;go_enter Tryz.func70,Tryz.ntmps70;go_wp2_with fail;have hbS:Below w.heap.size w (w.alloc (.cells #[.string ⟨#[]⟩,.int .u64 0,.int .i64 0,.string ⟨#[]⟩,.string ⟨#[]⟩] 30)):=(Below.refl w.heap.size w).alloc zl _;have hxS:=c5_new w (.string ⟨#[]⟩) (.int .u64 0) (.int .i64 0) (.string ⟨#[]⟩) (.string ⟨#[]⟩) 30;generalize w.alloc (.cells #[.string ⟨#[]⟩,.int .u64 0,.int .i64 0,.string ⟨#[]⟩,.string ⟨#[]⟩] 30)=wSZ at hbS hxS⊢;have HB1:=zh hbS;have HXZ:=zh hxS;clear hbS hxS;with_reducible refine(HT.out _).mono ?_
  rintro e w2 ⟨⟨A,cc,ys,hys,hlc,hsr,rfl⟩,hb2⟩;have HB2:=zh (Bel.call HB1.out hb2);replace HXZ:=zh (HXZ.out.below hb2);clear hb2;try dsimp only
  have h3':¬ys.length=5:=by rw[bl_len hys];exact h5
  have h3b:((ys.length:Int)==5)=false:=by rw[beq_eq_false_iff_ne];omega
  have h3c:((ys.length:Int) != 5)=true:=by simp[bne,h3b]
  clear hys hlc hsr h5 hmem hx;obtain⟨⟨nZ,dZ0,dZ1,dZ2,dZ3,dZ4⟩,kZ0,kZ1,kZ2,kZ3,kZ4⟩:=HXZ.out;go_wp2;refine bodyPost_ret (v:=Zs) (by simp[results,Tryz.results70,go_sem,Zs,dZ0,dZ1,dZ2,dZ3,dZ4]) rfl ?_;exact⟨⟨_,by rw[←HX.out];exact zs_is,rfl⟩,bel_set5 HB2.out zl⟩
 obtain⟨x0,x1,x2,x3,x4,rfl⟩:∃x0 x1 x2 x3 x4,l = [x0,x1,x2,x3,x4]:=by
  match l,h5 with
  | [x0,x1,x2,x3,x4],_=>exact⟨x0,x1,x2,x3,x4,rfl⟩
 clear h5;rw[if_neg (by rintro(h|h);exact h rfl;exact h rfl)]at hx;have h0:=hmem x0 (by simp);have h1:=hmem x1 (by simp);have h2:=hmem x2 (by simp);have h3:=hmem x3 (by simp);have h4:=hmem x4 (by simp)
 have HTK1:Hid (∀(A:ByteArray) (w:World),A.data.toList=x1→Calls Tryz.prog 48 #[.string A] w fun e w'=>Tk (tk x1) e∧Below w.heap.size w w'):=zh fun A w hA=>by
  have:=take_bel A w (by rw[Lib.size_eq,hA];omega);rw[hA]at this;exact this
 obtain⟨n1,r1,g1,ht1⟩:∃n r g,tk x1=(n,r,g):=⟨_,_,_,rfl⟩
 have hlt1:n1<18446744073709551616:=tk_lt ht1
 have HTK2:Hid (∀(A:ByteArray) (w:World),A.data.toList=x2→Calls Tryz.prog 48 #[.string A] w fun e w'=>Tk (tk x2) e∧Below w.heap.size w w'):=zh fun A w hA=>by
  have:=take_bel A w (by rw[Lib.size_eq,hA];omega);rw[hA]at this;exact this
 obtain⟨n2,r2,g2,ht2⟩:∃n r g,tk x2=(n,r,g):=⟨_,_,_,rfl⟩
 have hlt2:n2<18446744073709551616:=tk_lt ht2
 have hro:rowOK [x0,x1,x2,x3,x4]↔(g1=0∧r1 = [])∧(g2=0∧r2 = [])∧n2≤8:=by
  unfold rowOK;rw[show([x0,x1,x2,x3,x4]:List Tm).getD 1 []=x1 from rfl,show([x0,x1,x2,x3,x4]:List Tm).getD 2 []=x2 from rfl,ht1,ht2]
 have hso:stampOf [x0,x1,x2,x3,x4]=⟨x0,n1,(n2:Int),x3,x4⟩:=by
  unfold stampOf;rw[show([x0,x1,x2,x3,x4]:List Tm).getD 1 []=x1 from rfl,show([x0,x1,x2,x3,x4]:List Tm).getD 2 []=x2 from rfl,ht1,ht2];rfl
 rw[hso]at hx;rw[ht1]at HTK1;rw[ht2]at HTK2;clear ht1 ht2 hso hmem;by_cases hg:g1=0
 case neg=>
  rw[if_pos (fun h=>hg (hro.1 h.1).1.1)]at hx;have HX:=zh hx;have hgb:(g1==0)=false:=by simpa using hg
  have hgb2:(g1 != 0)=true:=by simpa using hg
  clear hx hro hg;go_enter Tryz.func70,Tryz.ntmps70;go_wp2_with fail;have hbS:Below w.heap.size w (w.alloc (.cells #[.string ⟨#[]⟩,.int .u64 0,.int .i64 0,.string ⟨#[]⟩,.string ⟨#[]⟩] 30)):=(Below.refl w.heap.size w).alloc zl _;have hxS:=c5_new w (.string ⟨#[]⟩) (.int .u64 0) (.int .i64 0) (.string ⟨#[]⟩) (.string ⟨#[]⟩) 30;generalize w.alloc (.cells #[.string ⟨#[]⟩,.int .u64 0,.int .i64 0,.string ⟨#[]⟩,.string ⟨#[]⟩] 30)=wSZ at hbS hxS⊢;have HB1:=zh hbS;have HXZ:=zh hxS;clear hbS hxS;with_reducible refine(HT.out _).mono ?_
  rintro e w2 ⟨⟨A,cc,ys,hys,hlc,hsr,rfl⟩,hb2⟩;have HB2:=zh (Bel.call HB1.out hb2);replace HXZ:=zh (HXZ.out.below hb2);clear hb2;try dsimp only
  obtain⟨P0,P1,P2,P3,P4,rfl,hP0,hP1,hP2,hP3,hP4⟩:=bl_five hys;obtain⟨g,off,rfl,hrow⟩:=five_reads hsr;have HRW:=zh hrow;have HP0:=zh hP0;have HP1:=zh hP1;have HP2:=zh hP2;have HP3:=zh hP3;have HP4:=zh hP4;clear hys hlc hsr hrow hP0 hP1 hP2 hP3 hP4;try dsimp only
  obtain⟨_,l0,l1,l2,l3,l4⟩:=HRW.out;go_wp2_with fail;with_reducible refine(HTK1.out P1 _ HP1.out).mono ?_
  rintro e w3 ⟨⟨R1,hR1,rfl⟩,hb3⟩;have HB3:=zh (Bel.call HB2.out hb3);replace HXZ:=zh (HXZ.out.below hb3);replace HRW:=zh (HRW.out.below hb3);clear hb3;dsimp only at hR1⊢;clear l0 l1 l2 l3 l4;try dsimp only
  clear hR1;obtain⟨⟨nZ,dZ0,dZ1,dZ2,dZ3,dZ4⟩,kZ0,kZ1,kZ2,kZ3,kZ4⟩:=HXZ.out;go_wp2;refine bodyPost_ret (v:=Zs) (by simp[results,Tryz.results70,go_sem,Zs,dZ0,dZ1,dZ2,dZ3,dZ4]) rfl ?_;exact⟨⟨_,by rw[←HX.out];exact zs_is,rfl⟩,bel_set5 HB3.out zl⟩
 subst hg;by_cases hr1:r1 = []
 case neg=>
  rw[if_pos (fun h=>hr1 (hro.1 h.1).1.2)]at hx;have HX:=zh hx;clear hx hro;go_enter Tryz.func70,Tryz.ntmps70;go_wp2_with fail;have hbS:Below w.heap.size w (w.alloc (.cells #[.string ⟨#[]⟩,.int .u64 0,.int .i64 0,.string ⟨#[]⟩,.string ⟨#[]⟩] 30)):=(Below.refl w.heap.size w).alloc zl _;have hxS:=c5_new w (.string ⟨#[]⟩) (.int .u64 0) (.int .i64 0) (.string ⟨#[]⟩) (.string ⟨#[]⟩) 30;generalize w.alloc (.cells #[.string ⟨#[]⟩,.int .u64 0,.int .i64 0,.string ⟨#[]⟩,.string ⟨#[]⟩] 30)=wSZ at hbS hxS⊢;have HB1:=zh hbS;have HXZ:=zh hxS;clear hbS hxS;with_reducible refine(HT.out _).mono ?_
  rintro e w2 ⟨⟨A,cc,ys,hys,hlc,hsr,rfl⟩,hb2⟩;have HB2:=zh (Bel.call HB1.out hb2);replace HXZ:=zh (HXZ.out.below hb2);clear hb2;try dsimp only
  obtain⟨P0,P1,P2,P3,P4,rfl,hP0,hP1,hP2,hP3,hP4⟩:=bl_five hys;obtain⟨g,off,rfl,hrow⟩:=five_reads hsr;have HRW:=zh hrow;have HP0:=zh hP0;have HP1:=zh hP1;have HP2:=zh hP2;have HP3:=zh hP3;have HP4:=zh hP4;clear hys hlc hsr hrow hP0 hP1 hP2 hP3 hP4;try dsimp only
  obtain⟨_,l0,l1,l2,l3,l4⟩:=HRW.out;go_wp2_with fail;with_reducible refine(HTK1.out P1 _ HP1.out).mono ?_
  rintro e w3 ⟨⟨R1,hR1,rfl⟩,hb3⟩;have HB3:=zh (Bel.call HB2.out hb3);replace HXZ:=zh (HXZ.out.below hb3);replace HRW:=zh (HRW.out.below hb3);clear hb3;dsimp only at hR1⊢;clear l0 l1 l2 l3 l4;try dsimp only
  have hre:R1.toList.isEmpty=false:=by
   rw[Lib.toList_data,hR1];cases r1 with
   | nil=>exact absurd rfl hr1
   | cons x y=>rfl
  have hre2:(R1.toList==[])=false:=by
   rw[Lib.toList_data,hR1];cases r1 with
   | nil=>exact absurd rfl hr1
   | cons x y=>rfl
  obtain⟨⟨nZ,dZ0,dZ1,dZ2,dZ3,dZ4⟩,kZ0,kZ1,kZ2,kZ3,kZ4⟩:=HXZ.out;go_wp2;refine bodyPost_ret (v:=Zs) (by simp[results,Tryz.results70,go_sem,Zs,dZ0,dZ1,dZ2,dZ3,dZ4]) rfl ?_;exact⟨⟨_,by rw[←HX.out];exact zs_is,rfl⟩,bel_set5 HB3.out zl⟩
 subst hr1;by_cases hg:g2=0
 case neg=>
  rw[if_pos (fun h=>hg (hro.1 h.1).2.1.1)]at hx;have HX:=zh hx;have hgb:(g2==0)=false:=by simpa using hg
  have hgb2:(g2 != 0)=true:=by simpa using hg
  clear hx hro hg;go_enter Tryz.func70,Tryz.ntmps70;go_wp2_with fail;have hbS:Below w.heap.size w (w.alloc (.cells #[.string ⟨#[]⟩,.int .u64 0,.int .i64 0,.string ⟨#[]⟩,.string ⟨#[]⟩] 30)):=(Below.refl w.heap.size w).alloc zl _;have hxS:=c5_new w (.string ⟨#[]⟩) (.int .u64 0) (.int .i64 0) (.string ⟨#[]⟩) (.string ⟨#[]⟩) 30;generalize w.alloc (.cells #[.string ⟨#[]⟩,.int .u64 0,.int .i64 0,.string ⟨#[]⟩,.string ⟨#[]⟩] 30)=wSZ at hbS hxS⊢;have HB1:=zh hbS;have HXZ:=zh hxS;clear hbS hxS;with_reducible refine(HT.out _).mono ?_
  rintro e w2 ⟨⟨A,cc,ys,hys,hlc,hsr,rfl⟩,hb2⟩;have HB2:=zh (Bel.call HB1.out hb2);replace HXZ:=zh (HXZ.out.below hb2);clear hb2;try dsimp only
  obtain⟨P0,P1,P2,P3,P4,rfl,hP0,hP1,hP2,hP3,hP4⟩:=bl_five hys;obtain⟨g,off,rfl,hrow⟩:=five_reads hsr;have HRW:=zh hrow;have HP0:=zh hP0;have HP1:=zh hP1;have HP2:=zh hP2;have HP3:=zh hP3;have HP4:=zh hP4;clear hys hlc hsr hrow hP0 hP1 hP2 hP3 hP4;try dsimp only
  obtain⟨_,l0,l1,l2,l3,l4⟩:=HRW.out;go_wp2_with fail;with_reducible refine(HTK1.out P1 _ HP1.out).mono ?_
  rintro e w3 ⟨⟨R1,hR1,rfl⟩,hb3⟩;have HB3:=zh (Bel.call HB2.out hb3);replace HXZ:=zh (HXZ.out.below hb3);replace HRW:=zh (HRW.out.below hb3);clear hb3;dsimp only at hR1⊢;clear l0 l1 l2 l3 l4;try dsimp only
  obtain rfl:R1=⟨#[]⟩:=str_eq hR1;obtain⟨_,l0,l1,l2,l3,l4⟩:=HRW.out;go_wp2_with fail;with_reducible refine(HTK2.out P2 _ HP2.out).mono ?_
  rintro e w4 ⟨⟨R2,hR2,rfl⟩,hb4⟩;have HB4:=zh (Bel.call HB3.out hb4);replace HXZ:=zh (HXZ.out.below hb4);replace HRW:=zh (HRW.out.below hb4);clear hb4;dsimp only at hR2⊢;clear l0 l1 l2 l3 l4;try dsimp only
  clear hR2;obtain⟨⟨nZ,dZ0,dZ1,dZ2,dZ3,dZ4⟩,kZ0,kZ1,kZ2,kZ3,kZ4⟩:=HXZ.out;go_wp2;refine bodyPost_ret (v:=Zs) (by simp[results,Tryz.results70,go_sem,Zs,dZ0,dZ1,dZ2,dZ3,dZ4]) rfl ?_;exact⟨⟨_,by rw[←HX.out];exact zs_is,rfl⟩,bel_set5 HB4.out zl⟩
 subst hg;by_cases hr2:r2 = []
 case neg=>
  rw[if_pos (fun h=>hr2 (hro.1 h.1).2.1.2)]at hx;have HX:=zh hx;clear hx hro;go_enter Tryz.func70,Tryz.ntmps70;go_wp2_with fail;have hbS:Below w.heap.size w (w.alloc (.cells #[.string ⟨#[]⟩,.int .u64 0,.int .i64 0,.string ⟨#[]⟩,.string ⟨#[]⟩] 30)):=(Below.refl w.heap.size w).alloc zl _;have hxS:=c5_new w (.string ⟨#[]⟩) (.int .u64 0) (.int .i64 0) (.string ⟨#[]⟩) (.string ⟨#[]⟩) 30;generalize w.alloc (.cells #[.string ⟨#[]⟩,.int .u64 0,.int .i64 0,.string ⟨#[]⟩,.string ⟨#[]⟩] 30)=wSZ at hbS hxS⊢;have HB1:=zh hbS;have HXZ:=zh hxS;clear hbS hxS;with_reducible refine(HT.out _).mono ?_
  rintro e w2 ⟨⟨A,cc,ys,hys,hlc,hsr,rfl⟩,hb2⟩;have HB2:=zh (Bel.call HB1.out hb2);replace HXZ:=zh (HXZ.out.below hb2);clear hb2;try dsimp only
  obtain⟨P0,P1,P2,P3,P4,rfl,hP0,hP1,hP2,hP3,hP4⟩:=bl_five hys;obtain⟨g,off,rfl,hrow⟩:=five_reads hsr;have HRW:=zh hrow;have HP0:=zh hP0;have HP1:=zh hP1;have HP2:=zh hP2;have HP3:=zh hP3;have HP4:=zh hP4;clear hys hlc hsr hrow hP0 hP1 hP2 hP3 hP4;try dsimp only
  obtain⟨_,l0,l1,l2,l3,l4⟩:=HRW.out;go_wp2_with fail;with_reducible refine(HTK1.out P1 _ HP1.out).mono ?_
  rintro e w3 ⟨⟨R1,hR1,rfl⟩,hb3⟩;have HB3:=zh (Bel.call HB2.out hb3);replace HXZ:=zh (HXZ.out.below hb3);replace HRW:=zh (HRW.out.below hb3);clear hb3;dsimp only at hR1⊢;clear l0 l1 l2 l3 l4;try dsimp only
  obtain rfl:R1=⟨#[]⟩:=str_eq hR1;obtain⟨_,l0,l1,l2,l3,l4⟩:=HRW.out;go_wp2_with fail;with_reducible refine(HTK2.out P2 _ HP2.out).mono ?_
  rintro e w4 ⟨⟨R2,hR2,rfl⟩,hb4⟩;have HB4:=zh (Bel.call HB3.out hb4);replace HXZ:=zh (HXZ.out.below hb4);replace HRW:=zh (HRW.out.below hb4);clear hb4;dsimp only at hR2⊢;clear l0 l1 l2 l3 l4;try dsimp only
  have hre:R2.toList.isEmpty=false:=by
   rw[Lib.toList_data,hR2];cases r2 with
   | nil=>exact absurd rfl hr2
   | cons x y=>rfl
  have hre2:(R2.toList==[])=false:=by
   rw[Lib.toList_data,hR2];cases r2 with
   | nil=>exact absurd rfl hr2
   | cons x y=>rfl
  obtain⟨⟨nZ,dZ0,dZ1,dZ2,dZ3,dZ4⟩,kZ0,kZ1,kZ2,kZ3,kZ4⟩:=HXZ.out;go_wp2;refine bodyPost_ret (v:=Zs) (by simp[results,Tryz.results70,go_sem,Zs,dZ0,dZ1,dZ2,dZ3,dZ4]) rfl ?_;exact⟨⟨_,by rw[←HX.out];exact zs_is,rfl⟩,bel_set5 HB4.out zl⟩
 subst hr2;obtain⟨E,cw⟩:∃E,IntKind.i64.wrap (n2:Int)=E:=⟨_,rfl⟩
 have hE8:0≤E∧E≤8→n2≤8∧E=(n2:Int):=fun h=>by rw[IntKind.wrap_i64]at cw;omega
 have hE9:n2≤8→E=(n2:Int):=fun h=>by rw[IntKind.wrap_i64]at cw;omega
 have HR:=zh fun v (h:IsS v ⟨x0,n1,E,x3,x4⟩) w=>fright_is h (by show x0.length≤_;omega) (by show x3.length≤_;omega) (by show x4.length≤_;omega) w
 by_cases hS:SR ⟨x0,n1,E,x3,x4⟩
 case neg=>
  rw[decide_eq_false hS]at HR;have hS':¬(rowOK [x0,x1,x2,x3,x4]∧SR ⟨x0,n1,(n2:Int),x3,x4⟩):=fun h=>hS (by rw[hE9 (hro.1 h.1).2.2];exact h.2)
  rw[if_pos hS']at hx;have HX:=zh hx;clear hx hS hS' hro hE8 hE9;go_enter Tryz.func70,Tryz.ntmps70;go_wp2_with fail;have hbS:Below w.heap.size w (w.alloc (.cells #[.string ⟨#[]⟩,.int .u64 0,.int .i64 0,.string ⟨#[]⟩,.string ⟨#[]⟩] 30)):=(Below.refl w.heap.size w).alloc zl _;have hxS:=c5_new w (.string ⟨#[]⟩) (.int .u64 0) (.int .i64 0) (.string ⟨#[]⟩) (.string ⟨#[]⟩) 30;generalize w.alloc (.cells #[.string ⟨#[]⟩,.int .u64 0,.int .i64 0,.string ⟨#[]⟩,.string ⟨#[]⟩] 30)=wSZ at hbS hxS⊢;have HB1:=zh hbS;have HXZ:=zh hxS;clear hbS hxS;with_reducible refine(HT.out _).mono ?_
  rintro e w2 ⟨⟨A,cc,ys,hys,hlc,hsr,rfl⟩,hb2⟩;have HB2:=zh (Bel.call HB1.out hb2);replace HXZ:=zh (HXZ.out.below hb2);clear hb2;try dsimp only
  obtain⟨P0,P1,P2,P3,P4,rfl,hP0,hP1,hP2,hP3,hP4⟩:=bl_five hys;obtain⟨g,off,rfl,hrow⟩:=five_reads hsr;have HRW:=zh hrow;have HP0:=zh hP0;have HP1:=zh hP1;have HP2:=zh hP2;have HP3:=zh hP3;have HP4:=zh hP4;clear hys hlc hsr hrow hP0 hP1 hP2 hP3 hP4;try dsimp only
  obtain⟨_,l0,l1,l2,l3,l4⟩:=HRW.out;go_wp2_with fail;with_reducible refine(HTK1.out P1 _ HP1.out).mono ?_
  rintro e w3 ⟨⟨R1,hR1,rfl⟩,hb3⟩;have HB3:=zh (Bel.call HB2.out hb3);replace HXZ:=zh (HXZ.out.below hb3);replace HRW:=zh (HRW.out.below hb3);clear hb3;dsimp only at hR1⊢;clear l0 l1 l2 l3 l4;try dsimp only
  obtain rfl:R1=⟨#[]⟩:=str_eq hR1;obtain⟨_,l0,l1,l2,l3,l4⟩:=HRW.out;go_wp2_with fail;with_reducible refine(HTK2.out P2 _ HP2.out).mono ?_
  rintro e w4 ⟨⟨R2,hR2,rfl⟩,hb4⟩;have HB4:=zh (Bel.call HB3.out hb4);replace HXZ:=zh (HXZ.out.below hb4);replace HRW:=zh (HRW.out.below hb4);clear hb4;dsimp only at hR2⊢;clear l0 l1 l2 l3 l4;try dsimp only
  obtain rfl:R2=⟨#[]⟩:=str_eq hR2;go_wp2_with fail;refine wp_region_held_drew (S:=fun w'=>Row5 g off w' P0 P1 P2 P3 P4) (by kernel_rfl) (HRW.out.below (Below.drewN' (Below.refl w4.heap.size w4) 1)) (fun hHeld=>?_);have hdr:Below w4.heap.size w4 w4.drew:=Below.drewN' (Below.refl w4.heap.size w4) 1;clear hHeld;generalize w4.drew=wd at hdr⊢;have HB5:=zh (Bel.call HB4.out hdr);replace HXZ:=zh (HXZ.out.below hdr);replace HRW:=zh (HRW.out.below hdr);clear hdr;have hHeld:=HRW.out;refine zqT 0 ?_ ?_ ?_;rotate_left
  ·intro w' hSw;obtain⟨_,c0,c1,c2,c3,c4⟩:=hSw;go_simp;try with_reducible rfl
  try simp only[Act.put,zq1,zq2,zq3]
  refine zqT 1 ?_ ?_ ?_;rotate_left
  ·intro w' hSw;obtain⟨_,c0,c1,c2,c3,c4⟩:=hSw;go_simp;try with_reducible rfl
  try simp only[Act.put,zq1,zq2,zq3]
  refine zqT 2 ?_ ?_ ?_;rotate_left
  ·intro w' hSw;obtain⟨_,c0,c1,c2,c3,c4⟩:=hSw;go_simp;try with_reducible rfl
  try simp only[Act.put,zq1,zq2,zq3]
  refine zqT 3 ?_ ?_ ?_;rotate_left
  ·intro w' hSw;obtain⟨_,c0,c1,c2,c3,c4⟩:=hSw;go_simp;try with_reducible rfl
  try simp only[Act.put,zq1,zq2,zq3]
  refine zqT 4 ?_ ?_ ?_;rotate_left
  ·intro w' hSw;obtain⟨_,c0,c1,c2,c3,c4⟩:=hSw;go_simp;try with_reducible rfl
  try simp only[Act.put,zq1,zq2,zq3]
  refine zqT 5 ?_ ?_ ?_;rotate_left
  ·intro w' hSw;obtain⟨_,c0,c1,c2,c3,c4⟩:=hSw;go_simp;try with_reducible rfl
  try simp only[Act.put,zq1,zq2,zq3]
  refine zqT 6 ?_ ?_ ?_;rotate_left
  ·intro w' hSw;obtain⟨_,c0,c1,c2,c3,c4⟩:=hSw;go_simp;try with_reducible rfl
  try simp only[Act.put,zq1,zq2,zq3]
  refine zqT 7 ?_ ?_ ?_;rotate_left
  ·intro w' hSw;obtain⟨_,c0,c1,c2,c3,c4⟩:=hSw;go_simp;try with_reducible rfl
  try simp only[Act.put,zq1,zq2,zq3]
  refine zqT 8 ?_ ?_ ?_;rotate_left
  ·intro w' hSw;obtain⟨_,c0,c1,c2,c3,c4⟩:=hSw;go_simp;try with_reducible rfl
  try simp only[Act.put,zq1,zq2,zq3]
  refine zqT 9 ?_ ?_ ?_;rotate_left
  ·intro w' hSw;obtain⟨_,c0,c1,c2,c3,c4⟩:=hSw;go_simp;try with_reducible rfl
  try simp only[Act.put,zq1,zq2,zq3]
  refine zqT 10 ?_ ?_ ?_;rotate_left
  ·intro w' hSw;obtain⟨_,c0,c1,c2,c3,c4⟩:=hSw;go_simp;try with_reducible rfl
  try simp only[Act.put,zq1,zq2,zq3]
  refine zqT 11 ?_ ?_ ?_;rotate_left
  ·intro w' hSw;obtain⟨_,c0,c1,c2,c3,c4⟩:=hSw;go_simp;try with_reducible rfl
  try simp only[Act.put,zq1,zq2,zq3]
  refine zqT 12 ?_ ?_ ?_;rotate_left
  ·intro w' hSw;obtain⟨_,c0,c1,c2,c3,c4⟩:=hSw;go_simp;try with_reducible rfl
  try simp only[Act.put,zq1,zq2,zq3]
  clear hHeld;refine zqR [13] ?_;refine zqC (fun Kn hK=>?_) AllReadyH.nil;go_simp;have hne:g≠wd.heap.size:=Nat.ne_of_lt HRW.out.1;have hne2:w.heap.size≠wd.heap.size:=Nat.ne_of_lt HXZ.out.1.1;have hge:w.heap.size≤wd.heap.size:=Nat.le_of_lt HXZ.out.1.1;have hbS:Below wd.heap.size wd (wd.alloc (.cells #[.string ⟨#[]⟩,.int .u64 0,.int .i64 0,.string ⟨#[]⟩,.string ⟨#[]⟩] 30)):=(Below.refl wd.heap.size wd).alloc zl _;have hxS:=c5_new wd (.string ⟨#[]⟩) (.int .u64 0) (.int .i64 0) (.string ⟨#[]⟩) (.string ⟨#[]⟩) 30;generalize wd.alloc (.cells #[.string ⟨#[]⟩,.int .u64 0,.int .i64 0,.string ⟨#[]⟩,.string ⟨#[]⟩] 30)=wSA at hbS hxS⊢;have HB6:=zh (Bel.call HB5.out hbS);replace HXZ:=zh (HXZ.out.below hbS);replace HRW:=zh (HRW.out.below hbS);have HXA:=zh hxS;clear hbS hxS;refine hK.out _ _ HRW.out (fun hHeld=>?_);try simp only[Act.put,zq1,zq2,zq3]
  clear hHeld;obtain⟨⟨p0,b0,b1,b2,b3,b4⟩,u0,u1,u2,u3,u4⟩:=HXA.out;refine zqR [14] ?_;refine zqC (fun Kn hK=>?_) AllReadyH.nil;go_simp;refine hK.out _ _ (HRW.out.set5 hne) (fun hHeld=>?_);try simp only[Act.put,zq1,zq2,zq3]
  clear hHeld b0 b1 b2 b3 b4 u0 u1 u2 u3 u4 p0;refine wpAnyH_done (by kernel_rfl) ?_ _;rw[set5_eq];replace HXA:=zh (c5_set5 (a':=.string P0) (b':=.int .u64 (n1:Int)) (c':=.int .i64 E) (d':=.string P3) (e':=.string P4) HXA.out);replace HXZ:=zh (HXZ.out.other5 (x0:=.string P0) (x1:=.int .u64 (n1:Int)) (x2:=.int .i64 E) (x3:=.string P3) (x4:=.string P4) hne2);have HB7:=zh (bel_set5 (a:=.string P0) (b:=.int .u64 (n1:Int)) (c:=.int .i64 E) (d:=.string P3) (e:=.string P4) HB6.out hge);clear HRW;generalize set5 wSA wd.heap.size (.string P0) (.int .u64 (n1:Int)) (.int .i64 E) (.string P3) (.string P4)=wc at HXA HXZ HB7⊢;have HIS:Hid (IsS (.agg #[.string P0,.int .u64 (n1:Int),.int .i64 E,.string P3,.string P4]) ⟨x0,n1,E,x3,x4⟩):=zh ⟨P0,P3,P4,HP0.out,HP3.out,HP4.out,rfl⟩;obtain⟨⟨nA,dA0,dA1,dA2,dA3,dA4⟩,kA0,kA1,kA2,kA3,kA4⟩:=HXA.out;go_wp2_with fail;with_reducible refine(HR.out _ HIS.out _).mono ?_
  rintro e w8 ⟨rfl,hb8⟩;clear nA dA0 dA1 dA2 dA3 dA4 kA0 kA1 kA2 kA3 kA4;have HB8:=zh (Bel.call HB7.out hb8);replace HXZ:=zh (HXZ.out.below hb8);replace HXA:=zh (HXA.out.below hb8);clear hb8;try dsimp only
  obtain⟨⟨nZ,dZ0,dZ1,dZ2,dZ3,dZ4⟩,kZ0,kZ1,kZ2,kZ3,kZ4⟩:=HXZ.out;go_wp2;refine bodyPost_ret (v:=Zs) (by simp[results,Tryz.results70,go_sem,Zs,dZ0,dZ1,dZ2,dZ3,dZ4]) rfl ?_;exact⟨⟨_,by rw[←HX.out];exact zs_is,rfl⟩,bel_set5 HB8.out zl⟩
 obtain⟨hn8,rfl⟩:=hE8 hS.2.1;rw[decide_eq_true hS]at HR;rw[if_neg (fun h=>h ⟨hro.2 ⟨⟨rfl,rfl⟩,⟨rfl,rfl⟩,hn8⟩,hS⟩)]at hx;have HX:=zh hx;clear hx hS hro hE8 hE9;go_enter Tryz.func70,Tryz.ntmps70;go_wp2_with fail;have hbS:Below w.heap.size w (w.alloc (.cells #[.string ⟨#[]⟩,.int .u64 0,.int .i64 0,.string ⟨#[]⟩,.string ⟨#[]⟩] 30)):=(Below.refl w.heap.size w).alloc zl _;have hxS:=c5_new w (.string ⟨#[]⟩) (.int .u64 0) (.int .i64 0) (.string ⟨#[]⟩) (.string ⟨#[]⟩) 30;generalize w.alloc (.cells #[.string ⟨#[]⟩,.int .u64 0,.int .i64 0,.string ⟨#[]⟩,.string ⟨#[]⟩] 30)=wSZ at hbS hxS⊢;have HB1:=zh hbS;have HXZ:=zh hxS;clear hbS hxS;with_reducible refine(HT.out _).mono ?_
 rintro e w2 ⟨⟨A,cc,ys,hys,hlc,hsr,rfl⟩,hb2⟩;have HB2:=zh (Bel.call HB1.out hb2);replace HXZ:=zh (HXZ.out.below hb2);clear hb2;try dsimp only
 obtain⟨P0,P1,P2,P3,P4,rfl,hP0,hP1,hP2,hP3,hP4⟩:=bl_five hys;obtain⟨g,off,rfl,hrow⟩:=five_reads hsr;have HRW:=zh hrow;have HP0:=zh hP0;have HP1:=zh hP1;have HP2:=zh hP2;have HP3:=zh hP3;have HP4:=zh hP4;clear hys hlc hsr hrow hP0 hP1 hP2 hP3 hP4;try dsimp only
 obtain⟨_,l0,l1,l2,l3,l4⟩:=HRW.out;go_wp2_with fail;with_reducible refine(HTK1.out P1 _ HP1.out).mono ?_
 rintro e w3 ⟨⟨R1,hR1,rfl⟩,hb3⟩;have HB3:=zh (Bel.call HB2.out hb3);replace HXZ:=zh (HXZ.out.below hb3);replace HRW:=zh (HRW.out.below hb3);clear hb3;dsimp only at hR1⊢;clear l0 l1 l2 l3 l4;try dsimp only
 obtain rfl:R1=⟨#[]⟩:=str_eq hR1;obtain⟨_,l0,l1,l2,l3,l4⟩:=HRW.out;go_wp2_with fail;with_reducible refine(HTK2.out P2 _ HP2.out).mono ?_
 rintro e w4 ⟨⟨R2,hR2,rfl⟩,hb4⟩;have HB4:=zh (Bel.call HB3.out hb4);replace HXZ:=zh (HXZ.out.below hb4);replace HRW:=zh (HRW.out.below hb4);clear hb4;dsimp only at hR2⊢;clear l0 l1 l2 l3 l4;try dsimp only
 obtain rfl:R2=⟨#[]⟩:=str_eq hR2;go_wp2_with fail;refine wp_region_held_drew (S:=fun w'=>Row5 g off w' P0 P1 P2 P3 P4) (by kernel_rfl) (HRW.out.below (Below.drewN' (Below.refl w4.heap.size w4) 1)) (fun hHeld=>?_);have hdr:Below w4.heap.size w4 w4.drew:=Below.drewN' (Below.refl w4.heap.size w4) 1;clear hHeld;generalize w4.drew=wd at hdr⊢;have HB5:=zh (Bel.call HB4.out hdr);replace HXZ:=zh (HXZ.out.below hdr);replace HRW:=zh (HRW.out.below hdr);clear hdr;have hHeld:=HRW.out;refine zqT 0 ?_ ?_ ?_;rotate_left
 ·intro w' hSw;obtain⟨_,c0,c1,c2,c3,c4⟩:=hSw;go_simp;try with_reducible rfl
 try simp only[Act.put,zq1,zq2,zq3]
 refine zqT 1 ?_ ?_ ?_;rotate_left
 ·intro w' hSw;obtain⟨_,c0,c1,c2,c3,c4⟩:=hSw;go_simp;try with_reducible rfl
 try simp only[Act.put,zq1,zq2,zq3]
 refine zqT 2 ?_ ?_ ?_;rotate_left
 ·intro w' hSw;obtain⟨_,c0,c1,c2,c3,c4⟩:=hSw;go_simp;try with_reducible rfl
 try simp only[Act.put,zq1,zq2,zq3]
 refine zqT 3 ?_ ?_ ?_;rotate_left
 ·intro w' hSw;obtain⟨_,c0,c1,c2,c3,c4⟩:=hSw;go_simp;try with_reducible rfl
 try simp only[Act.put,zq1,zq2,zq3]
 refine zqT 4 ?_ ?_ ?_;rotate_left
 ·intro w' hSw;obtain⟨_,c0,c1,c2,c3,c4⟩:=hSw;go_simp;try with_reducible rfl
 try simp only[Act.put,zq1,zq2,zq3]
 refine zqT 5 ?_ ?_ ?_;rotate_left
 ·intro w' hSw;obtain⟨_,c0,c1,c2,c3,c4⟩:=hSw;go_simp;try with_reducible rfl
 try simp only[Act.put,zq1,zq2,zq3]
 refine zqT 6 ?_ ?_ ?_;rotate_left
 ·intro w' hSw;obtain⟨_,c0,c1,c2,c3,c4⟩:=hSw;go_simp;try with_reducible rfl
 try simp only[Act.put,zq1,zq2,zq3]
 refine zqT 7 ?_ ?_ ?_;rotate_left
 ·intro w' hSw;obtain⟨_,c0,c1,c2,c3,c4⟩:=hSw;go_simp;try with_reducible rfl
 try simp only[Act.put,zq1,zq2,zq3]
 refine zqT 8 ?_ ?_ ?_;rotate_left
 ·intro w' hSw;obtain⟨_,c0,c1,c2,c3,c4⟩:=hSw;go_simp;try with_reducible rfl
 try simp only[Act.put,zq1,zq2,zq3]
 refine zqT 9 ?_ ?_ ?_;rotate_left
 ·intro w' hSw;obtain⟨_,c0,c1,c2,c3,c4⟩:=hSw;go_simp;try with_reducible rfl
 try simp only[Act.put,zq1,zq2,zq3]
 refine zqT 10 ?_ ?_ ?_;rotate_left
 ·intro w' hSw;obtain⟨_,c0,c1,c2,c3,c4⟩:=hSw;go_simp;try with_reducible rfl
 try simp only[Act.put,zq1,zq2,zq3]
 refine zqT 11 ?_ ?_ ?_;rotate_left
 ·intro w' hSw;obtain⟨_,c0,c1,c2,c3,c4⟩:=hSw;go_simp;try with_reducible rfl
 try simp only[Act.put,zq1,zq2,zq3]
 refine zqT 12 ?_ ?_ ?_;rotate_left
 ·intro w' hSw;obtain⟨_,c0,c1,c2,c3,c4⟩:=hSw;go_simp;try with_reducible rfl
 try simp only[Act.put,zq1,zq2,zq3]
 clear hHeld;refine zqR [13] ?_;refine zqC (fun Kn hK=>?_) AllReadyH.nil;go_simp;have hne:g≠wd.heap.size:=Nat.ne_of_lt HRW.out.1;have hne2:w.heap.size≠wd.heap.size:=Nat.ne_of_lt HXZ.out.1.1;have hge:w.heap.size≤wd.heap.size:=Nat.le_of_lt HXZ.out.1.1;have hbS:Below wd.heap.size wd (wd.alloc (.cells #[.string ⟨#[]⟩,.int .u64 0,.int .i64 0,.string ⟨#[]⟩,.string ⟨#[]⟩] 30)):=(Below.refl wd.heap.size wd).alloc zl _;have hxS:=c5_new wd (.string ⟨#[]⟩) (.int .u64 0) (.int .i64 0) (.string ⟨#[]⟩) (.string ⟨#[]⟩) 30;generalize wd.alloc (.cells #[.string ⟨#[]⟩,.int .u64 0,.int .i64 0,.string ⟨#[]⟩,.string ⟨#[]⟩] 30)=wSA at hbS hxS⊢;have HB6:=zh (Bel.call HB5.out hbS);replace HXZ:=zh (HXZ.out.below hbS);replace HRW:=zh (HRW.out.below hbS);have HXA:=zh hxS;clear hbS hxS;refine hK.out _ _ HRW.out (fun hHeld=>?_);try simp only[Act.put,zq1,zq2,zq3]
 clear hHeld;obtain⟨⟨p0,b0,b1,b2,b3,b4⟩,u0,u1,u2,u3,u4⟩:=HXA.out;refine zqR [14] ?_;refine zqC (fun Kn hK=>?_) AllReadyH.nil;go_simp;refine hK.out _ _ (HRW.out.set5 hne) (fun hHeld=>?_);try simp only[Act.put,zq1,zq2,zq3]
 clear hHeld b0 b1 b2 b3 b4 u0 u1 u2 u3 u4 p0;refine wpAnyH_done (by kernel_rfl) ?_ _;rw[set5_eq];replace HXA:=zh (c5_set5 (a':=.string P0) (b':=.int .u64 (n1:Int)) (c':=.int .i64 (n2:Int)) (d':=.string P3) (e':=.string P4) HXA.out);replace HXZ:=zh (HXZ.out.other5 (x0:=.string P0) (x1:=.int .u64 (n1:Int)) (x2:=.int .i64 (n2:Int)) (x3:=.string P3) (x4:=.string P4) hne2);have HB7:=zh (bel_set5 (a:=.string P0) (b:=.int .u64 (n1:Int)) (c:=.int .i64 (n2:Int)) (d:=.string P3) (e:=.string P4) HB6.out hge);clear HRW;generalize set5 wSA wd.heap.size (.string P0) (.int .u64 (n1:Int)) (.int .i64 (n2:Int)) (.string P3) (.string P4)=wc at HXA HXZ HB7⊢;have HIS:Hid (IsS (.agg #[.string P0,.int .u64 (n1:Int),.int .i64 (n2:Int),.string P3,.string P4]) ⟨x0,n1,(n2:Int),x3,x4⟩):=zh ⟨P0,P3,P4,HP0.out,HP3.out,HP4.out,rfl⟩;obtain⟨⟨nA,dA0,dA1,dA2,dA3,dA4⟩,kA0,kA1,kA2,kA3,kA4⟩:=HXA.out;go_wp2_with fail;with_reducible refine(HR.out _ HIS.out _).mono ?_
 rintro e w8 ⟨rfl,hb8⟩;clear nA dA0 dA1 dA2 dA3 dA4 kA0 kA1 kA2 kA3 kA4;have HB8:=zh (Bel.call HB7.out hb8);replace HXZ:=zh (HXZ.out.below hb8);replace HXA:=zh (HXA.out.below hb8);clear hb8;try dsimp only
 obtain⟨⟨nA,dA0,dA1,dA2,dA3,dA4⟩,kA0,kA1,kA2,kA3,kA4⟩:=HXA.out;obtain⟨⟨nZ,dZ0,dZ1,dZ2,dZ3,dZ4⟩,kZ0,kZ1,kZ2,kZ3,kZ4⟩:=HXZ.out;go_wp2;refine bodyPost_ret (v:=.agg #[.string P0,.int .u64 (n1:Int),.int .i64 (n2:Int),.string P3,.string P4]) (by simp[results,Tryz.results70,go_sem,dZ0,dZ1,dZ2,dZ3,dZ4]) rfl ?_;exact⟨⟨_,by rw[←HX.out];exact HIS.out,rfl⟩,bel_set5 HB8.out zl⟩
set_option maxRecDepth 1000000 in
theorem ftake_any (s:ByteArray) (w:World) (hs:s.size≤2000000):
 Calls Tryz.prog 47 #[.string s] w fun e w'=>Ss (takeS s.data.toList) e∧Below w.heap.size w w':=by
 have HR:=zh fun w=>read_any s w hs
 have hsm:=take_same s.data.toList (by rw[←Lib.size_eq];omega);rw[←Lib.size_eq]at hsm;rw[hsm]at HR;clear hsm;have herr:=takeM_err (m:=4000) (b:=s.data.toList);have hback:=fun x=>takeM_back (m:=4000) (b:=s.data.toList) (s:=x)
 obtain⟨x,f,hx⟩:∃x f,takeS s.data.toList=(x,f):=⟨_,_,rfl⟩
 have hx':takeM 4000 s.data.toList=(x,f):=hx;rw[hx];rw[hx]at HR;rw[hx']at herr hback;simp only at HR herr;clear hx hx';rcases herr with herr|herr
 case inr=>
  obtain⟨rfl,rfl⟩:=Prod.mk.inj herr;clear herr hback;go_enter Tryz.func47,Tryz.ntmps47;go_wp2_with fail;have hbS:Below w.heap.size w (w.alloc (.cells #[.string ⟨#[]⟩,.int .u64 0,.int .i64 0,.string ⟨#[]⟩,.string ⟨#[]⟩] 30)):=(Below.refl w.heap.size w).alloc zl _;have hxS:=c5_new w (.string ⟨#[]⟩) (.int .u64 0) (.int .i64 0) (.string ⟨#[]⟩) (.string ⟨#[]⟩) 30;generalize w.alloc (.cells #[.string ⟨#[]⟩,.int .u64 0,.int .i64 0,.string ⟨#[]⟩,.string ⟨#[]⟩] 30)=wSZ at hbS hxS⊢;have HB1:=zh hbS;have HXZ:=zh hxS;clear hbS hxS;with_reducible refine(HR.out _).mono ?_
  rintro e w2 ⟨hx,hb2⟩;have HB2:=zh (Bel.call HB1.out hb2);replace HXZ:=zh (HXZ.out.below hb2);clear hb2;obtain rfl:=s1_zero hx;clear hx;try dsimp only
  go_wp2_with fail;have hbS:Below w2.heap.size w2 (w2.alloc (.cells #[.string ⟨#[]⟩,.int .u64 0,.int .i64 0,.string ⟨#[]⟩,.string ⟨#[]⟩] 30)):=(Below.refl w2.heap.size w2).alloc zl _;have hxS:=c5_new w2 (.string ⟨#[]⟩) (.int .u64 0) (.int .i64 0) (.string ⟨#[]⟩) (.string ⟨#[]⟩) 30;generalize w2.alloc (.cells #[.string ⟨#[]⟩,.int .u64 0,.int .i64 0,.string ⟨#[]⟩,.string ⟨#[]⟩] 30)=wSS at hbS hxS⊢;have HB3:=zh (Bel.call HB2.out hbS);replace HXZ:=zh (HXZ.out.below hbS);have HXS:=zh hxS;clear hbS hxS;with_reducible refine(isNothing_zero _).mono ?_
  rintro e w4 ⟨rfl,hb4⟩;have HB4:=zh (Bel.call HB3.out hb4);replace HXZ:=zh (HXZ.out.below hb4);replace HXS:=zh (HXS.out.below hb4);clear hb4;try dsimp only
  obtain⟨⟨nZ,dZ0,dZ1,dZ2,dZ3,dZ4⟩,kZ0,kZ1,kZ2,kZ3,kZ4⟩:=HXZ.out;go_wp2;refine bodyPost_ret (v:=.tuple #[Zs,.int .i64 2]) (by simp[results,Tryz.results47,go_sem,Zs,dZ0,dZ1,dZ2,dZ3,dZ4]) rfl ?_;exact⟨⟨_,zs_is,rfl⟩,bel_set5 HB4.out zl⟩
 have hf:f=0:=herr;subst hf
 have hown:x.own≠[]:=fun e=>by
  have h1:=(hback x rfl).1.1;rw[e]at h1;revert h1;decide
 have HO:=zh hown;clear herr hback hown;go_enter Tryz.func47,Tryz.ntmps47;go_wp2_with fail;have hbS:Below w.heap.size w (w.alloc (.cells #[.string ⟨#[]⟩,.int .u64 0,.int .i64 0,.string ⟨#[]⟩,.string ⟨#[]⟩] 30)):=(Below.refl w.heap.size w).alloc zl _;have hxS:=c5_new w (.string ⟨#[]⟩) (.int .u64 0) (.int .i64 0) (.string ⟨#[]⟩) (.string ⟨#[]⟩) 30;generalize w.alloc (.cells #[.string ⟨#[]⟩,.int .u64 0,.int .i64 0,.string ⟨#[]⟩,.string ⟨#[]⟩] 30)=wSZ at hbS hxS⊢;have HB1:=zh hbS;have HXZ:=zh hxS;clear hbS hxS;with_reducible refine(HR.out _).mono ?_
 rintro e w2 ⟨hx,hb2⟩;have HB2:=zh (Bel.call HB1.out hb2);replace HXZ:=zh (HXZ.out.below hb2);clear hb2;obtain⟨PO,PR,PG,hPO,hPR,hPG,rfl⟩:=s1_open hx;have HPO:=zh hPO;have HPR:=zh hPR;have HPG:=zh hPG;clear hx hPO hPR hPG;try dsimp only
 go_wp2_with fail;have hbS:Below w2.heap.size w2 (w2.alloc (.cells #[.string PO,.int .u64 (x.time:Int),.int .i64 x.many,.string PR,.string PG] 30)):=(Below.refl w2.heap.size w2).alloc zl _;have hxS:=c5_new w2 (.string PO) (.int .u64 (x.time:Int)) (.int .i64 x.many) (.string PR) (.string PG) 30;generalize w2.alloc (.cells #[.string PO,.int .u64 (x.time:Int),.int .i64 x.many,.string PR,.string PG] 30)=wSS at hbS hxS⊢;have HB3:=zh (Bel.call HB2.out hbS);replace HXZ:=zh (HXZ.out.below hbS);have HXS:=zh hxS;clear hbS hxS;with_reducible refine(isNothing_own PO PR PG x.time x.many _ (by rw[HPO.out];exact HO.out)).mono ?_
 rintro e w4 ⟨rfl,hb4⟩;have HB4:=zh (Bel.call HB3.out hb4);replace HXZ:=zh (HXZ.out.below hb4);replace HXS:=zh (HXS.out.below hb4);clear hb4;try dsimp only
 obtain⟨⟨nS,dS0,dS1,dS2,dS3,dS4⟩,kS0,kS1,kS2,kS3,kS4⟩:=HXS.out;obtain⟨⟨nZ,dZ0,dZ1,dZ2,dZ3,dZ4⟩,kZ0,kZ1,kZ2,kZ3,kZ4⟩:=HXZ.out;go_wp2;refine bodyPost_ret (v:=.tuple #[.agg #[.string PO,.int .u64 (x.time:Int),.int .i64 x.many,.string PR,.string PG],.int .i64 0]) (by simp[results,Tryz.results47,go_sem,dZ0,dZ1,dZ2,dZ3,dZ4]) rfl ?_;exact⟨⟨_,⟨PO,PR,PG,HPO.out,HPR.out,HPG.out,rfl⟩,rfl⟩,bel_set5 HB4.out zl⟩
end Go.Proofs.YtmihiknebelkbaaGreat.Frs
