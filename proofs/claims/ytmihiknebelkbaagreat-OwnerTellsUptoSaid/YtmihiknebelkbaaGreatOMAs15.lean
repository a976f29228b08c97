/-
  MAs15. By an AI agent.
-/
import Derived.Test.YtmihiknebelkbaaGreatOZ
import Derived.Laws.AppendOwnNone
import Derived.Test.YtmihiknebelkbaaGreatOMCAdr
import Derived.Test.YtmihiknebelkbaaGreatOMSame
import Derived.Test.YtmihiknebelkbaaGreatOJ4
import Derived.Test.YtmihiknebelkbaaGreatOMCRead
import Derived.Test.YtmihiknebelkbaaGreatOWRAllN
set_option linter.unusedSimpArgs false
set_option linter.unusedVariables false
set_option maxHeartbeats 8000000
namespace Go.Proofs.YtmihiknebelkbaaGreat.Mta
open Go.RowKit Wire Term Rig
theorem dblock_info:(Tryz.prog.info? 82).map (fun i=>(i.zero,i.size,i.bytes))=some (some (.agg #[.string ⟨#[]⟩,.string ⟨#[]⟩]),2,32):=by kernel_rfl
set_option maxRecDepth 1000000 in
theorem asmeta_any (o f sig:ByteArray) (ep:Int) (A:Option Addr) (c:Nat) (rs:List ByteArray) (B:Option Addr) (d:Nat) (ws:List ByteArray) (ver:Nat) (V:Option Addr) (cv:Nat) (vs:List ByteArray) (K:Option Addr) (ck:Nat) (ks:List (ByteArray×ByteArray)) (w:World) (hK:PReads w K ks) (hl:ks.length≤1000):
 Calls Tryz.prog 18 #[.agg #[.string o,.string f,.int .i64 ep,.slice A rs.length c,.slice B ws.length d,.int .u64 (ver:Int),.slice V vs.length cv,.slice K ks.length ck,.string sig]] w fun e w'=>(∃K' ck',PReads w' K' ks∧(∀b off,K'=some ⟨b,off,none⟩→w.heap.size≤b)∧e = .returned (.agg #[.string o,.string f,.int .i64 ep,.slice A rs.length c,.slice B ws.length d,.int .u64 (ver:Int),.slice V vs.length cv,.slice K' ks.length ck',.string sig]))∧Below w.heap.size w w':=by
 obtain⟨i0,hi0,hz0,hz1,hz2⟩:=info_parts dblock_info;have HK:=zh hK;clear hK;go_enter Tryz.func18,Tryz.ntmps18;go_wp2_with fail;have hb1:=al w (.cells #[.string o,.string f,.int .i64 ep,.slice A rs.length c,.slice B ws.length d,.int .u64 (ver:Int),.slice V vs.length cv,.slice K ks.length ck,.string sig] 28);have hm1:=mx_alloc w o f ep A rs.length c B ws.length d ver V vs.length cv K ks.length ck sig 28;have hz1':(w.alloc (.cells #[.string o,.string f,.int .i64 ep,.slice A rs.length c,.slice B ws.length d,.int .u64 (ver:Int),.slice V vs.length cv,.slice K ks.length ck,.string sig] 28)).heap.size=w.heap.size+1:=by simp
 generalize hg:w.heap.size=g at hm1 hz1' hb1⊢;generalize w.alloc (.cells #[.string o,.string f,.int .i64 ep,.slice A rs.length c,.slice B ws.length d,.int .u64 (ver:Int),.slice V vs.length cv,.slice K ks.length ck,.string sig] 28)=wa at hb1 hm1 hz1'⊢;have hb2:=al wa (.cells #[.string ⟨#[]⟩,.string ⟨#[]⟩,.int .i64 0,.slice none 0 0,.slice none 0 0,.int .u64 0,.slice none 0 0,.slice none 0 0,.string ⟨#[]⟩] 37);have hz2':(wa.alloc (.cells #[.string ⟨#[]⟩,.string ⟨#[]⟩,.int .i64 0,.slice none 0 0,.slice none 0 0,.int .u64 0,.slice none 0 0,.slice none 0 0,.string ⟨#[]⟩] 37)).heap.size=g+1+1:=by simp[hz1']
 have hm2:=hm1.call hb2;have hr2:=rs_alloc wa 37;rw[hz1']at hr2;generalize wa.alloc (.cells #[.string ⟨#[]⟩,.string ⟨#[]⟩,.int .i64 0,.slice none 0 0,.slice none 0 0,.int .u64 0,.slice none 0 0,.slice none 0 0,.string ⟨#[]⟩] 37)=wb at hb2 hm2 hr2 hz2'⊢;have hb3:=al wb (.cells #[.string o,.string f,.int .i64 ep,.slice A rs.length c,.slice B ws.length d,.int .u64 (ver:Int),.slice V vs.length cv,.slice none 0 0,.string sig] 37);have hz3':(wb.alloc (.cells #[.string o,.string f,.int .i64 ep,.slice A rs.length c,.slice B ws.length d,.int .u64 (ver:Int),.slice V vs.length cv,.slice none 0 0,.string sig] 37)).heap.size=g+1+1+1:=by simp[hz2']
 have hx3:=mx_alloc wb o f ep A rs.length c B ws.length d ver V vs.length cv none 0 0 sig 37;have hf3:=sf9_alloc wb #[.string o,.string f,.int .i64 ep,.slice A rs.length c,.slice B ws.length d,.int .u64 (ver:Int),.slice V vs.length cv,.slice none 0 0,.string sig] 37;rw[hz2']at hx3 hf3;have hr3:=hr2.call hb3;have hm3:=hm2.call hb3;generalize wb.alloc (.cells #[.string o,.string f,.int .i64 ep,.slice A rs.length c,.slice B ws.length d,.int .u64 (ver:Int),.slice V vs.length cv,.slice none 0 0,.string sig] 37)=wc at hb3 hm3 hx3 hf3 hr3 hz3'⊢;have HBW:Hid (Below w.heap.size w wc):=zh (Bel.call (Bel.call (hg▸hb1) hb2) hb3);have HM:=zh hm3;have HZ3:=zh hz3';have HG:=zh hg;have HX0:=zh hx3;have HF0:=zh hf3;have HRS:Hid (∀w',Below (g+1+1) wc w'→Rs (g+1) w'):=zh fun w' h=>⟨hr3.1.below h (by omega),hr3.2.below h (by omega)⟩
 clear hb1 hm1 hb2 hm2 hb3 hm3 hx3 hf3 hr2 hr3 hz1' hz2' hz3';have HPK:Hid (∀w',Below (g+1+1) wc w'→PReads w' K ks):=zh fun w' h=>HK.out.below (HBW.out.trans (h.mono (by have:=HG.out;omega))) zl
 have HMM:Hid (∀w',Below (g+1+1) wc w'→Mx g w' o f ep A rs.length c B ws.length d ver V vs.length cv K ks.length ck sig):=zh fun w' h=>HM.out.below h (by omega)
 clear hg;go_loopw [4] (fun i wr=>∃(k:Nat) (K':Option Addr) (ck':Nat) (zs:List (ByteArray×ByteArray)),k≤ks.length∧i = .int .i64 (k:Int)∧Hid (zs=ks.take k)∧Hid (Below (g+1+1) wc wr)∧Hid (Mx (g+1+1) wr o f ep A rs.length c B ws.length d ver V vs.length cv K' k ck' sig)∧Hid (Sf9 (g+1+1) wr)∧Hid (wr.ownsRow (g+1+1+1) 82 2 (.slice K' k ck') k (pcs zs))) (fun i _=>ks.length-(intOf i).toNat);case atStart=>exact⟨0,none,0,[],Nat.zero_le _,rfl,zh (by simp),zh (Below.refl _ _),HX0,HF0,zh (World.ownsRow_nil _ _ _ _)⟩
 case round=>
  obtain⟨k,K',ck',zs,hk,rfl,HZ,HB,HX,HF,HO⟩:=hrel;have hzl:zs.length=k:=by rw[HZ.out,List.length_take];omega
  have HSZ:Hid (g+1+1+1≤wr.heap.size):=zh (by have h:=HB.out.size;rw[HZ3.out]at h;exact h);by_cases hlt:(k:Int)<(ks.length:Int)
  ·have hkl:k<ks.length:=by omega
   obtain⟨b,off,rfl,hbl,hcl,hcl2⟩:=HPK.out wr HB.out k hkl;obtain⟨u,x,hux⟩:∃u x,ks.getD k default=(u,x):=⟨_,_,rfl⟩
   have HUX:Hid (ks.take (k+1)=ks.take k++[(u,x)]):=by
    show ks.take (k+1)=_
    rw[List.take_add_one,List.getElem?_eq_getElem hkl,←hux];simp[List.getD,hkl]
   have HUE:=zh hux;clear hux hbl hcl hcl2;obtain⟨⟨c0,c1,c2,c3,c4,c5,c6,c7,c8⟩,_⟩:=HMM.out wr HB.out;go_wp2_with fail;clear c0 c1 c2 c3 c4 c5 c6 c7 c8;have hdr:Below wr.heap.size wr wr.drew:=Below.drewN' (Below.refl wr.heap.size wr) 1;have hS0:Below (g+1+1) wc wr.drew:=Below.drewN' HB.out 1;refine wp_region_held_drew (S:=fun w'=>Below (g+1+1) wc w') (by kernel_rfl) hS0 (fun hHeld=>?_);have HO1:=zh (own_below HO.out hdr zl);have HX1:=zh (HX.out.call hdr);have HB1:=zh hS0;have HF1:=zh (HF.out.below hdr HX.out.2);have HSZ1:Hid (g+1+1+1≤wr.drew.heap.size):=zh HSZ.out;clear hHeld hdr hS0;generalize wr.drew=wd at HO1 HB1 HX1 HF1 HSZ1⊢;have hHeld:Below (g+1+1) wc _:=HB1.out;refine zqT 0 ?_ ?_ ?_;rotate_left
   ·intro w' hSw;obtain⟨⟨c0,c1,c2,c3,c4,c5,c6,c7,c8⟩,_⟩:=HMM.out w' hSw;obtain⟨b',off',he,hbl,hcl,hcl2⟩:=HPK.out w' hSw k hkl;injection he with he;injection he with e1 e2 _;subst e1;subst e2;rw[HUE.out]at hcl hcl2;simp only at hcl hcl2;go_simp;try with_reducible rfl
   try simp only[Act.put,zq1,zq2,zq3]
   clear hHeld;have hHeld:Below (g+1+1) wc _:=HB1.out;refine zqT 2 ?_ ?_ ?_;rotate_left
   ·intro w' hSw;obtain⟨⟨c0,c1,c2,c3,c4,c5,c6,c7,c8⟩,_⟩:=HMM.out w' hSw;obtain⟨b',off',he,hbl,hcl,hcl2⟩:=HPK.out w' hSw k hkl;injection he with he;injection he with e1 e2 _;subst e1;subst e2;rw[HUE.out]at hcl hcl2;simp only at hcl hcl2;go_simp;try with_reducible rfl
   try simp only[Act.put,zq1,zq2,zq3]
   clear hHeld;have hHeld:Below (g+1+1) wc _:=HB1.out;refine zqT 3 ?_ ?_ ?_;rotate_left
   ·intro w' hSw;obtain⟨⟨c0,c1,c2,c3,c4,c5,c6,c7,c8⟩,_⟩:=HMM.out w' hSw;obtain⟨b',off',he,hbl,hcl,hcl2⟩:=HPK.out w' hSw k hkl;injection he with he;injection he with e1 e2 _;subst e1;subst e2;rw[HUE.out]at hcl hcl2;simp only at hcl hcl2;go_simp;try with_reducible rfl
   try simp only[Act.put,zq1,zq2,zq3]
   clear hHeld;have hHeld:Below (g+1+1) wc _:=HB1.out;refine zqT 4 ?_ ?_ ?_;rotate_left
   ·intro w' hSw;obtain⟨⟨c0,c1,c2,c3,c4,c5,c6,c7,c8⟩,_⟩:=HMM.out w' hSw;obtain⟨b',off',he,hbl,hcl,hcl2⟩:=HPK.out w' hSw k hkl;injection he with he;injection he with e1 e2 _;subst e1;subst e2;rw[HUE.out]at hcl hcl2;simp only at hcl hcl2;go_simp;try with_reducible rfl
   try simp only[Act.put,zq1,zq2,zq3]
   clear hHeld;have hHeld:Below (g+1+1) wc _:=HB1.out;refine zqT 5 ?_ ?_ ?_;rotate_left
   ·intro w' hSw;obtain⟨⟨c0,c1,c2,c3,c4,c5,c6,c7,c8⟩,_⟩:=HMM.out w' hSw;obtain⟨b',off',he,hbl,hcl,hcl2⟩:=HPK.out w' hSw k hkl;injection he with he;injection he with e1 e2 _;subst e1;subst e2;rw[HUE.out]at hcl hcl2;simp only at hcl hcl2;go_simp;try with_reducible rfl
   try simp only[Act.put,zq1,zq2,zq3]
   clear hHeld;have hHeld:Below (g+1+1) wc _:=HB1.out;refine zqT 6 ?_ ?_ ?_;rotate_left
   ·intro w' hSw;obtain⟨⟨c0,c1,c2,c3,c4,c5,c6,c7,c8⟩,_⟩:=HMM.out w' hSw;obtain⟨b',off',he,hbl,hcl,hcl2⟩:=HPK.out w' hSw k hkl;injection he with he;injection he with e1 e2 _;subst e1;subst e2;rw[HUE.out]at hcl hcl2;simp only at hcl hcl2;go_simp;try with_reducible rfl
   try simp only[Act.put,zq1,zq2,zq3]
   clear hHeld;have hHeld:Below (g+1+1) wc _:=HB1.out;refine zqT 7 ?_ ?_ ?_;rotate_left
   ·intro w' hSw;obtain⟨⟨c0,c1,c2,c3,c4,c5,c6,c7,c8⟩,_⟩:=HMM.out w' hSw;obtain⟨b',off',he,hbl,hcl,hcl2⟩:=HPK.out w' hSw k hkl;injection he with he;injection he with e1 e2 _;subst e1;subst e2;rw[HUE.out]at hcl hcl2;simp only at hcl hcl2;go_simp;try with_reducible rfl
   try simp only[Act.put,zq1,zq2,zq3]
   clear hHeld;have hHeld:Below (g+1+1) wc _:=HB1.out;refine zqT 8 ?_ ?_ ?_;rotate_left
   ·intro w' hSw;obtain⟨⟨c0,c1,c2,c3,c4,c5,c6,c7,c8⟩,_⟩:=HMM.out w' hSw;obtain⟨b',off',he,hbl,hcl,hcl2⟩:=HPK.out w' hSw k hkl;injection he with he;injection he with e1 e2 _;subst e1;subst e2;rw[HUE.out]at hcl hcl2;simp only at hcl hcl2;go_simp;try with_reducible rfl
   try simp only[Act.put,zq1,zq2,zq3]
   clear hHeld;have hHeld:Below (g+1+1) wc _:=HB1.out;refine zqT 9 ?_ ?_ ?_;rotate_left
   ·intro w' hSw;obtain⟨⟨c0,c1,c2,c3,c4,c5,c6,c7,c8⟩,_⟩:=HMM.out w' hSw;obtain⟨b',off',he,hbl,hcl,hcl2⟩:=HPK.out w' hSw k hkl;injection he with he;injection he with e1 e2 _;subst e1;subst e2;rw[HUE.out]at hcl hcl2;simp only at hcl hcl2;go_simp;try with_reducible rfl
   try simp only[Act.put,zq1,zq2,zq3]
   clear hHeld;have hHeld:Below (g+1+1) wc _:=HB1.out;refine zqT 10 ?_ ?_ ?_;rotate_left
   ·intro w' hSw;obtain⟨⟨c0,c1,c2,c3,c4,c5,c6,c7,c8⟩,_⟩:=HMM.out w' hSw;obtain⟨b',off',he,hbl,hcl,hcl2⟩:=HPK.out w' hSw k hkl;injection he with he;injection he with e1 e2 _;subst e1;subst e2;rw[HUE.out]at hcl hcl2;simp only at hcl hcl2;go_simp;try with_reducible rfl
   try simp only[Act.put,zq1,zq2,zq3]
   clear hHeld;have hHeld:Below (g+1+1) wc _:=HB1.out;refine zqT 11 ?_ ?_ ?_;rotate_left
   ·intro w' hSw;obtain⟨⟨c0,c1,c2,c3,c4,c5,c6,c7,c8⟩,_⟩:=HMM.out w' hSw;obtain⟨b',off',he,hbl,hcl,hcl2⟩:=HPK.out w' hSw k hkl;injection he with he;injection he with e1 e2 _;subst e1;subst e2;rw[HUE.out]at hcl hcl2;simp only at hcl hcl2;go_simp;try with_reducible rfl
   try simp only[Act.put,zq1,zq2,zq3]
   clear hHeld;have hHeld:Below (g+1+1) wc _:=HB1.out;refine zqT 12 ?_ ?_ ?_;rotate_left
   ·intro w' hSw;obtain⟨⟨c0,c1,c2,c3,c4,c5,c6,c7,c8⟩,_⟩:=HMM.out w' hSw;obtain⟨b',off',he,hbl,hcl,hcl2⟩:=HPK.out w' hSw k hkl;injection he with he;injection he with e1 e2 _;subst e1;subst e2;rw[HUE.out]at hcl hcl2;simp only at hcl hcl2;go_simp;try with_reducible rfl
   try simp only[Act.put,zq1,zq2,zq3]
   clear hHeld;have hHeld:Below (g+1+1) wc _:=HB1.out;refine zqT 13 ?_ ?_ ?_;rotate_left
   ·intro w' hSw;obtain⟨⟨c0,c1,c2,c3,c4,c5,c6,c7,c8⟩,_⟩:=HMM.out w' hSw;obtain⟨b',off',he,hbl,hcl,hcl2⟩:=HPK.out w' hSw k hkl;injection he with he;injection he with e1 e2 _;subst e1;subst e2;rw[HUE.out]at hcl hcl2;simp only at hcl hcl2;go_simp;try with_reducible rfl
   try simp only[Act.put,zq1,zq2,zq3]
   clear hHeld;have hHeld:Below (g+1+1) wc _:=HB1.out;refine zqT 14 ?_ ?_ ?_;rotate_left
   ·intro w' hSw;obtain⟨⟨c0,c1,c2,c3,c4,c5,c6,c7,c8⟩,_⟩:=HMM.out w' hSw;obtain⟨b',off',he,hbl,hcl,hcl2⟩:=HPK.out w' hSw k hkl;injection he with he;injection he with e1 e2 _;subst e1;subst e2;rw[HUE.out]at hcl hcl2;simp only at hcl hcl2;go_simp;try with_reducible rfl
   try simp only[Act.put,zq1,zq2,zq3]
   clear hHeld;have hal:=al wd (.cells #[.string u,.string x] 82);have HB2:Hid (Below (g+1+1) wc (wd.alloc (.cells #[.string u,.string x] 82))):=zh (HB1.out.alloc (by have h:=HSZ1.out;omega) _);have HX2:=zh (HX1.out.call hal);have HF2:=zh (HF1.out.below hal HX1.out.2);clear hal;refine zqR [1,15] ?_;refine zqC (fun K1 hK1=>?_) (zqC (fun K1 hK1=>?_) AllReadyH.nil)
   ·obtain⟨⟨c0,c1,c2,c3,c4,c5,c6,c7,c8⟩,_⟩:=HX1.out
    go_simp;refine hK1.out _ _ HB1.out (fun hHeld=>?_);clear hHeld c0 c1 c2 c3 c4 c5 c6 c7 c8;try simp only[Act.put,zq1,zq2,zq3]
    refine zqR [15] ?_;refine zqC (fun K1 hK1=>?_) AllReadyH.nil;go_simp;refine hK1.out _ _ HB2.out (fun hHeld=>?_);clear hHeld;try simp only[Act.put,zq1,zq2,zq3]
    refine zqR [16] ?_;refine zqC (fun K1 hK1=>?_) AllReadyH.nil;try rw[if_pos (by rfl)]
    refine wp_append_own _ _ _ _ rfl (g+1+1+1) 82 i0 _ 2 32 Tryz.underlying35 hi0 hz0 hz1 hz2 rfl (by decide) _ k (pcs zs) rfl ?c1 _ 1 1 [.string u,.string x] rfl rfl ?c2 ?c3 ?c4 ?c5 ?c6 ?_;case c1=>exact HO1.out.alloc _
    case c2=>exact lit_cells _ _ _
    case c3=>exact pcs_one [(u,x)]
    case c4=>simp only[maxLen];omega
    case c5=>omega
    case c6=>
     have h:=HSZ1.out;simp only[World.alloc,Array.size_push];omega
    intro v6 w6 hown hgrow _
    have hB6:Below (g+1+1) wc w6:=HB2.out.grown hgrow (by
     have h:=HSZ1.out;simp only[World.alloc,Array.size_push]
     omega) fun g' hg'=>by
     have h:=(HO1.out.lt g' hg').1;omega
    have he6:w6.heap[g+1+1]? = (wd.alloc (.cells #[.string u,.string x] 82)).heap[g+1+1]?:=hgrow.block (g+1+1) (by have h:=HSZ1.out;simp only[World.alloc,Array.size_push];omega) fun e=>by
     have h:=(HO1.out.lt (g+1+1) e.symm).1;omega
    have HX6:Hid (Mx (g+1+1) w6 o f ep A rs.length c B ws.length d ver V vs.length cv K' k ck' sig):=by
     obtain⟨⟨c0,c1,c2,c3,c4,c5,c6,c7,c8⟩,c9⟩:=HX2.out;have q:=fun j=>World.cell?_of_block (a:=⟨g+1+1,j,none⟩) he6
     exact⟨⟨(q 0).trans c0,(q 1).trans c1,(q 2).trans c2,(q 3).trans c3,(q 4).trans c4,(q 5).trans c5,(q 6).trans c6,(q 7).trans c7,(q 8).trans c8⟩,Nat.lt_of_lt_of_le c9 hgrow.size⟩
    have HF6:Hid (Sf9 (g+1+1) w6):=by
     obtain⟨f0,f1,f2,f3,f4,f5,f6,f7,f8⟩:=HF2.out;have q:=fun j=>World.frozen?_of_block (a:=⟨g+1+1,j,none⟩) he6
     exact⟨(q 0).trans f0,(q 1).trans f1,(q 2).trans f2,(q 3).trans f3,(q 4).trans f4,(q 5).trans f5,(q 6).trans f6,(q 7).trans f7,(q 8).trans f8⟩
    have hown':w6.ownsRow (g+1+1+1) 82 2 v6 (k+1) (pcs (zs++[(u,x)])):=by rw[pcs_app];simpa[pcs]using hown
    obtain⟨K6,c6,rfl⟩:=own_value hown';have HO6:=zh hown';have HB6:=zh hB6;refine hK1.out _ _ hB6 (fun hHeld=>?_);clear hown hown' hgrow hB6 hHeld he6;try simp only[Act.put,zq1,zq2,zq3]
    have hHeld:Below (g+1+1) wc _:=HB6.out;refine zqT 17 ?_ ?_ ?_;rotate_left
    ·intro w' hSw;obtain⟨⟨c0,c1,c2,c3,c4,c5,c6,c7,c8⟩,_⟩:=HMM.out w' hSw;obtain⟨b',off',he,hbl,hcl,hcl2⟩:=HPK.out w' hSw k hkl;injection he with he;injection he with e1 e2 _;subst e1;subst e2;rw[HUE.out]at hcl hcl2;simp only at hcl hcl2;go_simp;try with_reducible rfl
    try simp only[Act.put,zq1,zq2,zq3]
    clear hHeld;refine zqR [18] ?_;refine zqC (fun K1 hK1=>?_) AllReadyH.nil;obtain⟨⟨c0,c1,c2,c3,c4,c5,c6',c7,c8⟩,_⟩:=HX6.out;obtain⟨f0,f1,f2,f3,f4,f5,f6,f7,f8⟩:=HF6.out;go_simp;refine hK1.out _ _ (HB6.out.setCell (p:=⟨g+1+1,7,none⟩) zl _) (fun hHeld=>?_);clear hHeld c0 c1 c2 c3 c4 c5 c6' c7 c8 f0 f1 f2 f3 f4 f5 f6 f7 f8;try simp only[Act.put,zq1,zq2,zq3]
    refine wpAnyH_done (by kernel_rfl) ?_ _;go_wp2_with fail;go_roundw;case rel=>exact⟨k+1,K6,c6,zs++[(u,x)],by omega,by go_num,zh (by rw[HUX.out,HZ.out]),zh (HB6.out.setCell (p:=⟨g+1+1,7,none⟩) zl _),zh (mx_set7 HX6.out K6 (k+1) c6),zh (sf9_set HF6.out),zh (ownsRow_setCell_below HO6.out (Nat.lt_succ_self _) _)⟩
    case measure=>show ks.length-((k:Int)+1).toNat<ks.length-(k:Int).toNat;omega
   ·go_simp
    refine hK1.out _ _ HB2.out (fun hHeld=>?_);clear hHeld;try simp only[Act.put,zq1,zq2,zq3]
    refine zqR [1] ?_;refine zqC (fun K1 hK1=>?_) AllReadyH.nil;obtain⟨⟨c0,c1,c2,c3,c4,c5,c6,c7,c8⟩,_⟩:=HX2.out;go_simp;refine hK1.out _ _ HB2.out (fun hHeld=>?_);clear hHeld c0 c1 c2 c3 c4 c5 c6 c7 c8;try simp only[Act.put,zq1,zq2,zq3]
    refine zqR [16] ?_;refine zqC (fun K1 hK1=>?_) AllReadyH.nil;try rw[if_pos (by rfl)]
    refine wp_append_own _ _ _ _ rfl (g+1+1+1) 82 i0 _ 2 32 Tryz.underlying35 hi0 hz0 hz1 hz2 rfl (by decide) _ k (pcs zs) rfl ?c1 _ 1 1 [.string u,.string x] rfl rfl ?c2 ?c3 ?c4 ?c5 ?c6 ?_;case c1=>exact HO1.out.alloc _
    case c2=>exact lit_cells _ _ _
    case c3=>exact pcs_one [(u,x)]
    case c4=>simp only[maxLen];omega
    case c5=>omega
    case c6=>
     have h:=HSZ1.out;simp only[World.alloc,Array.size_push];omega
    intro v6 w6 hown hgrow _
    have hB6:Below (g+1+1) wc w6:=HB2.out.grown hgrow (by
     have h:=HSZ1.out;simp only[World.alloc,Array.size_push]
     omega) fun g' hg'=>by
     have h:=(HO1.out.lt g' hg').1;omega
    have he6:w6.heap[g+1+1]? = (wd.alloc (.cells #[.string u,.string x] 82)).heap[g+1+1]?:=hgrow.block (g+1+1) (by have h:=HSZ1.out;simp only[World.alloc,Array.size_push];omega) fun e=>by
     have h:=(HO1.out.lt (g+1+1) e.symm).1;omega
    have HX6:Hid (Mx (g+1+1) w6 o f ep A rs.length c B ws.length d ver V vs.length cv K' k ck' sig):=by
     obtain⟨⟨c0,c1,c2,c3,c4,c5,c6,c7,c8⟩,c9⟩:=HX2.out;have q:=fun j=>World.cell?_of_block (a:=⟨g+1+1,j,none⟩) he6
     exact⟨⟨(q 0).trans c0,(q 1).trans c1,(q 2).trans c2,(q 3).trans c3,(q 4).trans c4,(q 5).trans c5,(q 6).trans c6,(q 7).trans c7,(q 8).trans c8⟩,Nat.lt_of_lt_of_le c9 hgrow.size⟩
    have HF6:Hid (Sf9 (g+1+1) w6):=by
     obtain⟨f0,f1,f2,f3,f4,f5,f6,f7,f8⟩:=HF2.out;have q:=fun j=>World.frozen?_of_block (a:=⟨g+1+1,j,none⟩) he6
     exact⟨(q 0).trans f0,(q 1).trans f1,(q 2).trans f2,(q 3).trans f3,(q 4).trans f4,(q 5).trans f5,(q 6).trans f6,(q 7).trans f7,(q 8).trans f8⟩
    have hown':w6.ownsRow (g+1+1+1) 82 2 v6 (k+1) (pcs (zs++[(u,x)])):=by rw[pcs_app];simpa[pcs]using hown
    obtain⟨K6,c6,rfl⟩:=own_value hown';have HO6:=zh hown';have HB6:=zh hB6;refine hK1.out _ _ hB6 (fun hHeld=>?_);clear hown hown' hgrow hB6 hHeld he6;try simp only[Act.put,zq1,zq2,zq3]
    have hHeld:Below (g+1+1) wc _:=HB6.out;refine zqT 17 ?_ ?_ ?_;rotate_left
    ·intro w' hSw;obtain⟨⟨c0,c1,c2,c3,c4,c5,c6,c7,c8⟩,_⟩:=HMM.out w' hSw;obtain⟨b',off',he,hbl,hcl,hcl2⟩:=HPK.out w' hSw k hkl;injection he with he;injection he with e1 e2 _;subst e1;subst e2;rw[HUE.out]at hcl hcl2;simp only at hcl hcl2;go_simp;try with_reducible rfl
    try simp only[Act.put,zq1,zq2,zq3]
    clear hHeld;refine zqR [18] ?_;refine zqC (fun K1 hK1=>?_) AllReadyH.nil;obtain⟨⟨c0,c1,c2,c3,c4,c5,c6',c7,c8⟩,_⟩:=HX6.out;obtain⟨f0,f1,f2,f3,f4,f5,f6,f7,f8⟩:=HF6.out;go_simp;refine hK1.out _ _ (HB6.out.setCell (p:=⟨g+1+1,7,none⟩) zl _) (fun hHeld=>?_);clear hHeld c0 c1 c2 c3 c4 c5 c6' c7 c8 f0 f1 f2 f3 f4 f5 f6 f7 f8;try simp only[Act.put,zq1,zq2,zq3]
    refine wpAnyH_done (by kernel_rfl) ?_ _;go_wp2_with fail;go_roundw;case rel=>exact⟨k+1,K6,c6,zs++[(u,x)],by omega,by go_num,zh (by rw[HUX.out,HZ.out]),zh (HB6.out.setCell (p:=⟨g+1+1,7,none⟩) zl _),zh (mx_set7 HX6.out K6 (k+1) c6),zh (sf9_set HF6.out),zh (ownsRow_setCell_below HO6.out (Nat.lt_succ_self _) _)⟩
    case measure=>show ks.length-((k:Int)+1).toNat<ks.length-(k:Int).toNat;omega
  ·have hke:k=ks.length:=by omega
   have hzk:zs=ks:=by rw[HZ.out,hke,List.take_length]
   have HR:Hid (PReads wr K' ks):=zh (by rw[←hzk];exact(preads_own HO.out).1);have hkx:¬(ks.length:Int)<(ks.length:Int):=by omega
   clear hlt;subst hke
   have HPR:∀W:World,W.ownsRow (g+1+1+1) 82 2 (.slice K' ks.length ck') ks.length (pcs zs)→PReads W K' ks:=fun W h=>by
    have h:=(preads_own h).1;rw[hzk]at h;exact h
   obtain⟨⟨c0,c1,c2,c3,c4,c5,c6,c7,c8⟩,_⟩:=HMM.out wr HB.out;obtain⟨⟨d0,d1,d2,d3,d4,d5,d6,d7,d8⟩,_⟩:=HX.out;obtain⟨⟨⟨r0,r1,r2,r3,r4,r5,r6,r7,r8⟩,_⟩,⟨f0,f1,f2,f3,f4,f5,f6,f7,f8⟩⟩:=HRS.out wr HB.out;go_wp2;refine bodyPost_ret (v:=.agg #[.string o,.string f,.int .i64 ep,.slice A rs.length c,.slice B ws.length d,.int .u64 (ver:Int),.slice V vs.length cv,.slice K' ks.length ck',.string sig]) (by simp[results,Tryz.results18,go_sem,d0,d1,d2,d3,d4,d5,d6,d7,d8,r0,r1,r2,r3,r4,r5,r6,r7,r8]) rfl ?_;exact⟨⟨K',HPR _ (ownsRow_setCell_below (ownsRow_setCell_below (ownsRow_setCell_below (ownsRow_setCell_below (ownsRow_setCell_below (ownsRow_setCell_below (ownsRow_setCell_below (ownsRow_setCell_below (ownsRow_setCell_below HO.out (Nat.lt_succ_of_lt (Nat.lt_succ_self _)) _) (Nat.lt_succ_of_lt (Nat.lt_succ_self _)) _) (Nat.lt_succ_of_lt (Nat.lt_succ_self _)) _) (Nat.lt_succ_of_lt (Nat.lt_succ_self _)) _) (Nat.lt_succ_of_lt (Nat.lt_succ_self _)) _) (Nat.lt_succ_of_lt (Nat.lt_succ_self _)) _) (Nat.lt_succ_of_lt (Nat.lt_succ_self _)) _) (Nat.lt_succ_of_lt (Nat.lt_succ_self _)) _) (Nat.lt_succ_of_lt (Nat.lt_succ_self _)) _),fun b off e=>by have h1:=(Wire.own_new HO.out).1 b off e;have h2:=HG.out;omega,ck',rfl⟩,set9 (HBW.out.trans (HB.out.mono (by have:=HG.out;omega))) (by have:=HG.out;omega)⟩
end Go.Proofs.YtmihiknebelkbaaGreat.Mta
