/-
  MCTake. By an AI agent.
-/
import Derived.Test.YtmihiknebelkbaaGreatOZ
import Derived.Test.YtmihiknebelkbaaGreatOMCAdr
import Derived.Test.YtmihiknebelkbaaGreatOMCPure
import Derived.Test.YtmihiknebelkbaaGreatOC1
set_option linter.unusedSimpArgs false
set_option linter.unusedVariables false
set_option maxHeartbeats 8000000
namespace Go.Proofs.YtmihiknebelkbaaGreat.Mta
open Go.RowKit Wire Term Rig
def Rk (B:Nat) (x:Option (List Tm)) (e:Ending) (w':World):Prop:=match x with
 | none=>e = .returned (.tuple #[.slice none 0 0,.bool false])
 | some l=>∃(A:Option Addr) (c:Nat) (ys:List ByteArray),bl ys=l∧(ys.length≤c∧(A=none→c=0))∧SReads w' A ys∧(∀b off,A=some ⟨b,off,none⟩→B≤b)∧e = .returned (.tuple #[.slice A ys.length c,.bool true])
set_option maxRecDepth 1000000 in
theorem takeRow_any (s:ByteArray) (k:Nat) (w:World) (hs:s.size≤2000000) (hk:k≤1000):
 Calls Tryz.prog 90 #[.string s,.int .i64 (k:Int)] w fun e w'=>Rk w.heap.size (rowK s.data.toList k) e w'∧Below w.heap.size w w':=by
 have hsz:(s.data.toList.length:Int)=(s.size:Int):=by rw[←Lib.size_eq]
 obtain⟨x,fx,hx⟩:∃x fx,all s.data.toList (k:Int) (s.size:Int)=(x,fx):=⟨_,_,rfl⟩
 have HA0:=zh fun w=>takeAllF_any s (k:Int) (s.size:Int) w (by omega) ⟨by omega,by omega⟩ ⟨by omega,by omega⟩
 rw[hx]at HA0;have hrow:rowK s.data.toList k=if fx=0∧x.length=k then some x else none:=by unfold rowK;rw[hsz,hx]
 rw[hrow];clear hrow hx hsz;by_cases hfx:fx=0
 case neg=>
  rw[if_neg fun h=>hfx h.1];have q:(fx != 0)=true:=by simpa using hfx
  go_enter Tryz.func90,Tryz.ntmps90;go_wp2_with fail;with_reducible refine(HA0.out _).mono ?_
  rintro e w1 ⟨⟨A0,c0,y0,hy0,hk0,hs0,hf0,rfl⟩,hb1⟩;have HB1:=zh hb1;clear hb1 hy0 hk0 hs0 hf0;dsimp only;go_wp2;go_ret2;exact⟨rfl,HB1.out⟩
 subst hfx;by_cases hl:x.length=k
 case neg=>
  rw[if_neg fun h=>hl h.2];go_enter Tryz.func90,Tryz.ntmps90;go_wp2_with fail;with_reducible refine(HA0.out _).mono ?_
  rintro e w1 ⟨⟨A0,c0,y0,hy0,hk0,hs0,hf0,rfl⟩,hb1⟩;have HB1:=zh hb1;dsimp only at hy0;have hn:¬(y0.length:Int)=(k:Int):=fun h=>hl (by rw[←hy0,bl_len];omega)
  have q:((y0.length:Int) != (k:Int))=true:=by simpa using hn
  clear hb1 hy0 hk0 hs0 hf0;dsimp only;go_wp2;go_ret2;exact⟨rfl,HB1.out⟩
 rw[if_pos ⟨rfl,hl⟩];go_enter Tryz.func90,Tryz.ntmps90;go_wp2_with fail;with_reducible refine(HA0.out _).mono ?_
 rintro e w1 ⟨⟨A0,c0,y0,hy0,hk0,hs0,hf0,rfl⟩,hb1⟩;have HB1:=zh hb1;dsimp only at hy0;have hn:(y0.length:Int)=(k:Int):=by rw[←hl,←hy0,bl_len]
 have q:((y0.length:Int) != (k:Int))=false:=by simpa using hn
 have HR:Hid (Rk w.heap.size (some x) (.returned (.tuple #[.slice A0 y0.length c0,.bool true])) w1):=zh ⟨A0,c0,y0,hy0,hk0,hs0,hf0,rfl⟩;clear hb1 hy0 hk0 hs0 hf0;dsimp only;go_wp2;go_ret2;exact⟨HR.out,HB1.out⟩
def R2 (B:Nat) (x:Option (List Tm)) (e:Ending) (w':World):Prop:=match x with
 | none=>e = .returned (.tuple #[.slice none 0 0,.bool false])
 | some l=>∃(b off c:Nat) (p q:ByteArray),l = [p.data.toList,q.data.toList]∧B≤b∧b<w'.heap.size∧w'.cell? ⟨b,off,none⟩=some (.string p)∧w'.cell? ⟨b,off+1,none⟩=some (.string q)∧e = .returned (.tuple #[.slice (some ⟨b,off,none⟩) 2 c,.bool true])
theorem rk_two {B:Nat} {x:Option (List Tm)} {e:Ending} {w:World} (h:Rk B x e w) (hl:∀l,x=some l→l.length=2):R2 B x e w:=by
 cases x with
 | none=>exact h
 | some l=>
  obtain⟨A,c,ys,h1,h2,h3,h4,rfl⟩:=h;have hy:ys.length=2:=by have:=hl l rfl;rw[←h1,bl_len]at this;exact this
  match ys,hy with
  | [p,q],_=>
   obtain⟨b,off,rfl,hb,c0⟩:=h3 0 (by simp);obtain⟨b',off',e',_,c1⟩:=h3 1 (by simp);injection e' with e'
   injection e' with e1 e2 _
   subst e1;subst e2;exact⟨b,off,c,p,q,h1.symm,h4 b off rfl,hb,c0,c1,rfl⟩
def R4 (B:Nat) (x:Option (List Tm)) (e:Ending) (w':World):Prop:=match x with
 | none=>e = .returned (.tuple #[.slice none 0 0,.bool false])
 | some l=>∃(b off c:Nat) (p q r s:ByteArray),l = [p.data.toList,q.data.toList,r.data.toList,s.data.toList]∧B≤b∧b<w'.heap.size∧w'.cell? ⟨b,off,none⟩=some (.string p)∧w'.cell? ⟨b,off+1,none⟩=some (.string q)∧w'.cell? ⟨b,off+2,none⟩=some (.string r)∧w'.cell? ⟨b,off+3,none⟩=some (.string s)∧e = .returned (.tuple #[.slice (some ⟨b,off,none⟩) 4 c,.bool true])
theorem rk_four {B:Nat} {x:Option (List Tm)} {e:Ending} {w:World} (h:Rk B x e w) (hl:∀l,x=some l→l.length=4):R4 B x e w:=by
 cases x with
 | none=>exact h
 | some l=>
  obtain⟨A,c,ys,h1,h2,h3,h4,rfl⟩:=h;have hy:ys.length=4:=by have:=hl l rfl;rw[←h1,bl_len]at this;exact this
  match ys,hy with
  | [p,q,r,s],_=>
   obtain⟨b,off,rfl,hb,c0⟩:=h3 0 (by simp);obtain⟨b',off',e',_,c1⟩:=h3 1 (by simp);injection e' with e'
   injection e' with e1 e2 _
   subst e1;subst e2;obtain⟨b',off',e',_,c2⟩:=h3 2 (by simp);injection e' with e'
   injection e' with e1 e2 _
   subst e1;subst e2;obtain⟨b',off',e',_,c3⟩:=h3 3 (by simp);injection e' with e'
   injection e' with e1 e2 _
   subst e1;subst e2;exact⟨b,off,c,p,q,r,s,h1.symm,h4 b off rfl,hb,c0,c1,c2,c3,rfl⟩
theorem pairsK_cons (t:Tm) (l:List Tm):pairsK (t::l)=match rowK t 2 with
 | none=>none
 | some b=>(pairsK l).map fun q=>(b.getD 0 [],b.getD 1 [])::q:=rfl
def Rb (B:Nat) (x:Option (List (Tm×Tm))) (e:Ending) (w':World):Prop:=match x with
 | none=>e = .returned (.tuple #[.slice none 0 0,.bool false])
 | some l=>∃(A:Option Addr) (c:Nat) (ks:List (ByteArray×ByteArray)),pl ks=l∧(ks.length≤c∧(A=none→c=0))∧PReads w' A ks∧(∀b off,A=some ⟨b,off,none⟩→B≤b)∧e = .returned (.tuple #[.slice A ks.length c,.bool true])
theorem block_info:(Tryz.prog.info? 55).map (fun i=>(i.zero,i.size,i.bytes))=some (some (.agg #[.string ⟨#[]⟩,.string ⟨#[]⟩]),2,32):=by kernel_rfl
set_option maxRecDepth 1000000 in
theorem readBlocks_any (s:ByteArray) (k:Nat) (w:World) (hs:s.size≤2000000) (hk:k≤1000):
 Calls Tryz.prog 92 #[.string s,.int .i64 (k:Int)] w fun e w'=>Rb w.heap.size (blksK s.data.toList k) e w'∧Below w.heap.size w w':=by
 obtain⟨i0,hi0,hz0,hz1,hz2⟩:=info_parts block_info;have HTR:=zh fun w=>takeRow_any s k w hs hk
 cases hrk:rowK s.data.toList k with
 | none=>
  rw[hrk]at HTR;rw[show blksK s.data.toList k=none by unfold blksK;rw[hrk]];clear hrk;go_enter Tryz.func92,Tryz.ntmps92;go_wp2_with fail;with_reducible refine(HTR.out _).mono ?_
  rintro e w1 ⟨hr,hb1⟩;obtain rfl:e = .returned (.tuple #[.slice none 0 0,.bool false]):=hr;have HB1:=zh hb1;clear hb1;dsimp only;go_wp2;go_ret2;exact⟨rfl,HB1.out⟩
 | some l=>
  have hsl:=(rowK_back hrk)
  have HSL:=zh hsl
  have hpm:∀t∈l,t.length≤2000000:=fun t ht=>by
   have h1:=part_le ht;rw[←hsl.1,←Lib.size_eq]at h1;omega
  have HPM:=zh hpm;rw[hrk]at HTR;rw[show blksK s.data.toList k=pairsK l by unfold blksK;rw[hrk]];clear hrk hsl hpm;go_enter Tryz.func92,Tryz.ntmps92;go_wp2_with fail;with_reducible refine(HTR.out _).mono ?_
  rintro e w1 ⟨⟨A0,c0,us,hus,hk0,hs0,hf0,rfl⟩,hb1⟩;have HB1:=zh hb1;have HUS:=zh hus;have HU:=zh hs0
  have hul:us.length≤1000:=by
   have:=HSL.out.2;rw[←hus,bl_len]at this;omega
  clear hb1 hus hk0 hs0 hf0;dsimp only;go_wp2_with fail;go_loopw [8,23] (fun v i wr=>∃(k:Nat) (V:Value),k≤us.length∧i = .int .i64 (k:Int)∧V=v∧Hid (∃acc,pairsK l=(pairsK (l.drop k)).map (fun q=>acc++q)∧acc.length=k∧OwnsP 55 w1 acc V wr)) (fun _ i _=>us.length-(intOf i).toNat);case atStart=>exact⟨0,_,Nat.zero_le _,rfl,rfl,zh ⟨[],by simp,rfl,ownsP_nil _ w1 (Below.refl _ _)⟩⟩
  case round=>
   obtain⟨k2,v,hk2,rfl,rfl,HO⟩:=hrel;obtain⟨acc,hadr,hal,zs,hz,hown,hbel⟩:=HO.out;have HAD:=zh hadr;have HOW:=zh hown;have HBL:=zh hbel;have HZS:=zh hz;have hzl:zs.length=k2:=by rw[←hal,←hz,pl_len]
   clear hadr hal hown hbel hz;by_cases hlt:(k2:Int)<(us.length:Int)
   ·obtain⟨b,off,rfl,hbl,hcl⟩:=(HU.out.below HBL.out zl) k2 (by omega)
    obtain⟨y,hy⟩:∃y,us.getD k2 ByteArray.empty=y:=⟨_,rfl⟩
    rw[hy]at hcl;have hdr:=drop_at (by omega) hy;rw[HUS.out]at hdr
    have hyz:y.size≤2000000:=by
     rw[Lib.size_eq];exact HPM.out _ (List.mem_of_mem_drop (i:=k2) (by rw[hdr];simp))
    have HDR:=zh hdr;have HTW:Hid (∀w,Calls Tryz.prog 90 #[.string y,.int .i64 2] w fun e w'=>Rk w.heap.size (rowK y.data.toList 2) e w'∧Below w.heap.size w w'):=zh fun w=>takeRow_any y 2 w hyz (by omega)
    clear hy hdr hyz hbl;go_wp2_with fail;have HNG:Hid (∀g,v.ownBlock=some g→g<wr.heap.size):=zh fun g hg=>(HOW.out.lt g hg).2
    cases hrk:rowK y.data.toList 2 with
    | none=>
     have HR:Hid (pairsK l=none):=zh (by rw[HAD.out,HDR.out,pairsK_cons,hrk];rfl);rw[hrk]at HTW;with_reducible refine(HTW.out _).mono ?_
     rintro e w2 ⟨hr,hb2⟩;obtain rfl:e = .returned (.tuple #[.slice none 0 0,.bool false]):=hr;have HB2:=zh (Bel.call HBL.out hb2);clear hb2 hrk;dsimp only;go_wp2;go_ret2;rw[HR.out];exact⟨rfl,Bel.call HB1.out HB2.out⟩
    | some l2=>
     have hl2:=(rowK_back hrk).2;rw[hrk]at HTW
     have hst:pairsK l=(pairsK (l.drop (k2+1))).map fun z=>(acc++[(l2.getD 0 [],l2.getD 1 [])])++z:=by
      rw[HAD.out,HDR.out,pairsK_cons,hrk];simp only[Option.map_map];congr 1;funext z;simp
     have HT0:=zh hst;with_reducible refine(HTW.out _).mono ?_
     rintro e w2 ⟨hr,hb2⟩;obtain⟨b4,off4,c4,p,q,hlp,hb4,hlt4,hc0,hc1,rfl⟩:=rk_two hr fun l' h=>by injection h with h;rw[←h];exact hl2
     rw[hlp]at hst;have HST:Hid (pairsK l=(pairsK (l.drop (k2+1))).map fun z=>(acc++[(p.data.toList,q.data.toList)])++z):=zh hst;have HB2:=zh (Bel.call HBL.out hb2);have HO2:=zh (own_below HOW.out hb2 zl);have HL4:=zh hlt4;have HC0:=zh hc0;have HC1:=zh hc1;have HNE:Hid (∀g,v.ownBlock=some g→g≠b4):=zh fun g hg e=>by have:=HNG.out g hg;omega
     clear hb2 hst hrk hl2 hlp hb4 hlt4 hc0 hc1 hr HT0 HTW hcl;dsimp only;go_wp2_with fail;have hdr:Below w2.heap.size w2 w2.drew:=Below.drewN' (Below.refl _ _) 1;have HO3:=zh (own_below HO2.out hdr zl);have hS1:Below w1.heap.size w1 w2.drew∧w2.drew.cell? ⟨b4,off4,none⟩=some (.string p)∧w2.drew.cell? ⟨b4,off4+1,none⟩=some (.string q):=⟨Bel.call HB2.out hdr,(hdr.cell (p:=⟨b4,off4,none⟩) HL4.out).trans HC0.out,(hdr.cell (p:=⟨b4,off4+1,none⟩) HL4.out).trans HC1.out⟩
     have HL5:=zh (Nat.lt_of_lt_of_le HL4.out hdr.size);refine wp_region_held_drew (S:=fun w'=>Below w1.heap.size w1 w'∧w'.cell? ⟨b4,off4,none⟩=some (.string p)∧w'.cell? ⟨b4,off4+1,none⟩=some (.string q)) (by kernel_rfl) hS1 (fun hHeld=>?_);clear hHeld hdr;have HS1:=zh hS1;clear hS1;obtain⟨wd,hwd⟩:∃W,w2.drew=W:=⟨_,rfl⟩
     rw[hwd]at HO3 HS1 HL5⊢;clear hwd;have hHeld:=HS1.out;refine zqT 0 ?_ ?_ ?_;rotate_left
     ·intro w' hSw;obtain⟨_,k0,k1⟩:=hSw;go_simp;try with_reducible rfl
     try simp only[Act.put,zq1,zq2,zq3]
     clear hHeld;have hHeld:=HS1.out;refine zqT 1 ?_ ?_ ?_;rotate_left
     ·intro w' hSw;obtain⟨_,k0,k1⟩:=hSw;go_simp;try with_reducible rfl
     try simp only[Act.put,zq1,zq2,zq3]
     clear hHeld;have hHeld:=HS1.out;refine zqT 2 ?_ ?_ ?_;rotate_left
     ·intro w' hSw;obtain⟨_,k0,k1⟩:=hSw;go_simp;try with_reducible rfl
     try simp only[Act.put,zq1,zq2,zq3]
     clear hHeld;have hHeld:=HS1.out;refine zqT 3 ?_ ?_ ?_;rotate_left
     ·intro w' hSw;obtain⟨_,k0,k1⟩:=hSw;go_simp;try with_reducible rfl
     try simp only[Act.put,zq1,zq2,zq3]
     clear hHeld;have hHeld:=HS1.out;refine zqT 4 ?_ ?_ ?_;rotate_left
     ·intro w' hSw;obtain⟨_,k0,k1⟩:=hSw;go_simp;try with_reducible rfl
     try simp only[Act.put,zq1,zq2,zq3]
     clear hHeld;have hHeld:=HS1.out;refine zqT 5 ?_ ?_ ?_;rotate_left
     ·intro w' hSw;obtain⟨_,k0,k1⟩:=hSw;go_simp;try with_reducible rfl
     try simp only[Act.put,zq1,zq2,zq3]
     clear hHeld;have hHeld:=HS1.out;refine zqT 6 ?_ ?_ ?_;rotate_left
     ·intro w' hSw;obtain⟨_,k0,k1⟩:=hSw;go_simp;try with_reducible rfl
     try simp only[Act.put,zq1,zq2,zq3]
     clear hHeld;have hHeld:=HS1.out;refine zqT 7 ?_ ?_ ?_;rotate_left
     ·intro w' hSw;obtain⟨_,k0,k1⟩:=hSw;go_simp;try with_reducible rfl
     try simp only[Act.put,zq1,zq2,zq3]
     clear hHeld;have hal:=al wd (.cells #[.string p,.string q] 55);have hS2:Below w1.heap.size w1 (wd.alloc (.cells #[.string p,.string q] 55))∧(wd.alloc (.cells #[.string p,.string q] 55)).cell? ⟨b4,off4,none⟩=some (.string p)∧(wd.alloc (.cells #[.string p,.string q] 55)).cell? ⟨b4,off4+1,none⟩=some (.string q):=⟨HS1.out.1.alloc HS1.out.1.size _,(hal.cell (p:=⟨b4,off4,none⟩) HL5.out).trans HS1.out.2.1,(hal.cell (p:=⟨b4,off4+1,none⟩) HL5.out).trans HS1.out.2.2⟩
     have HS2:=zh hS2;have HL6:=zh (Nat.lt_of_lt_of_le HL5.out hal.size);refine zqR [8] ?_;refine zqC (fun K hK=>?_) AllReadyH.nil;go_simp;refine hK.out _ _ hS2 (fun hHeld=>?_);clear hHeld hS2 hal;try simp only[Act.put,zq1,zq2,zq3]
     refine zqR [9] ?_;refine zqC (fun K hK=>?_) AllReadyH.nil;try rw[if_pos (by rfl)]
     refine wp_append_own _ _ _ _ rfl w1.heap.size 55 i0 _ 2 32 Tryz.underlying26 hi0 hz0 hz1 hz2 rfl (by decide) _ zs.length (pcs zs) rfl ?c1 _ 1 1 [.string p,.string q] rfl rfl ?c2 ?c3 ?c4 ?c5 ?c6 ?_;case c1=>exact HO3.out.alloc _
     case c2=>exact lit_cells _ _ _
     case c3=>exact pcs_one [(p,q)]
     case c4=>simp only[maxLen];omega
     case c5=>omega
     case c6=>
      have h:=HS1.out.1.size;simp only[World.alloc,Array.size_push];omega
     intro v6 w6 hown hgrow _
     have hB6:Below w1.heap.size w1 w6:=by
      have h1:=HS1.out.1
      refine(h1.alloc h1.size (.cells #[.string p,.string q] 55)).grown hgrow (by
       have:=h1.size;simp only[World.alloc,Array.size_push]
       omega) fun g hg=>?_
      exact(HO3.out.lt g hg).1
     have he6:w6.heap[b4]? = (wd.alloc (.cells #[.string p,.string q] 55)).heap[b4]?:=hgrow.block b4 HL6.out fun e=>HNE.out b4 e.symm rfl
     have hS6:Below w1.heap.size w1 w6∧w6.cell? ⟨b4,off4,none⟩=some (.string p)∧w6.cell? ⟨b4,off4+1,none⟩=some (.string q):=by
      exact⟨hB6,(World.cell?_of_block (a:=⟨b4,off4,none⟩) he6).trans HS2.out.2.1,(World.cell?_of_block (a:=⟨b4,off4+1,none⟩) he6).trans HS2.out.2.2⟩
     have HO6:=zh hown;have HB6:=zh hB6;refine hK.out _ _ hS6 (fun hHeld=>?_);clear hown hgrow hB6 hHeld he6;try simp only[Act.put,zq1,zq2,zq3]
     have hHeld:=hS6;clear hS6;refine zqT 10 ?_ ?_ ?_;rotate_left
     ·intro w' hSw;obtain⟨_,k0,k1⟩:=hSw;go_simp;try with_reducible rfl
     try simp only[Act.put,zq1,zq2,zq3]
     clear hHeld;refine wpAnyH_done (by kernel_rfl) ?_ _;go_wp2_with fail;go_roundw
     case rel=>
      refine⟨k2+1,_,by omega,by go_num,rfl,zh ⟨acc++[(p.data.toList,q.data.toList)],HST.out,by rw[List.length_append,←HZS.out,pl_len,hzl];rfl,zs++[(p,q)],?_,?_,HB6.out⟩⟩
      ·rw[←HZS.out];simp[pl]
      ·rw[pcs_app,List.length_append];exact HO6.out
     case measure=>show us.length-((k2:Int)+1).toNat<us.length-(k2:Int).toNat;omega
   ·have hke:k2=us.length:=by omega
    have HR:Hid (pairsK l=some acc):=zh (by
     rw[HAD.out,←HUS.out,hke,List.drop_of_length_le (by rw[bl_len];exact Nat.le_refl _)]
     simp[pairsK])
    have HF:Hid (Plst w1.heap.size acc (.returned v) wr):=zh (ownsP_lst ⟨zs,HZS.out,HOW.out,HBL.out⟩);obtain⟨A5,c5,k5,hk5,hn5,hr5,hf5,he5⟩:=HF.out;obtain rfl:v = .slice A5 k5.length c5:=by injection he5
    have HFF:Hid (Rb w.heap.size (some acc) (.returned (.tuple #[.slice A5 k5.length c5,.bool true])) wr):=zh ⟨A5,c5,k5,hk5,hn5,hr5,fun b off e=>Nat.le_trans HB1.out.size (hf5 b off e),rfl⟩;clear hk5 hn5 hr5 hf5 he5;go_wp2;go_ret2;rw[HR.out];exact⟨HFF.out,Bel.call HB1.out HBL.out⟩
end Go.Proofs.YtmihiknebelkbaaGreat.Mta
