/-
  FRRight. By an AI agent.
-/
import Derived.Test.YtmihiknebelkbaaGreatOZ
import Derived.Test.YtmihiknebelkbaaGreatOFPut
import Derived.Test.YtmihiknebelkbaaGreatON5
import Derived.Test.YtmihiknebelkbaaGreatOT1
import Derived.Test.YtmihiknebelkbaaGreatOW0
import Derived.Test.YtmihiknebelkbaaGreatOW1
set_option linter.unusedSimpArgs false
set_option linter.unusedVariables false
set_option maxHeartbeats 8000000
namespace Go.Proofs.YtmihiknebelkbaaGreat.Frs
open Go Go.RowKit Wire Term Draw Reg Clo
set_option maxRecDepth 1000000 in
theorem rfright_any (O:ByteArray) (t:Nat) (m:Int) (R G:ByteArray) (w:World) (hO:O.size≤2000000) (hR:R.size≤140737488355328) (hG:G.size≤140737488355328):
 Calls Tryz.prog 38 #[.agg #[.string O,.int .u64 (t:Int),.int .i64 m,.string R,.string G]] w fun e w'=>e = .returned (.bool (decide (SR ⟨O.data.toList,t,m,R.data.toList,G.data.toList⟩)))∧Below w.heap.size w w':=by
 have HN:=zh fun w=>refright_any O w hO
 have HT:=zh fun w=>Term.right_any R w hR
 have HK:=zh fun w=>kind_any G w hG
 generalize hb:decide (SR ⟨O.data.toList,t,m,R.data.toList,G.data.toList⟩)=bb;obtain⟨k,hk⟩:∃k,kind G.data.toList=k:=⟨_,rfl⟩
 have hbb:bb=(Txt.right O.data.toList&&(decide (0≤m∧m≤8)&&(right R.data.toList&&decide (k=103)))):=by
  rw[←hb,←hk,Bool.eq_iff_iff];simp only[decide_eq_true_eq,Bool.and_eq_true];exact Iff.rfl
 rw[hk]at HK;clear hb hk;generalize Txt.right O.data.toList=v1 at HN hbb;generalize right R.data.toList=v2 at HT hbb;cases v1 with
 | false=>
  obtain rfl:bb=false:=hbb;go_enter Tryz.func38,Tryz.ntmps38;go_wp2_with fail;have hbS:Below w.heap.size w (w.alloc (.cells #[.string O,.int .u64 (t:Int),.int .i64 m,.string R,.string G] 38)):=(Below.refl w.heap.size w).alloc zl _;have hxS:=c5_new w (.string O) (.int .u64 (t:Int)) (.int .i64 m) (.string R) (.string G) 38;generalize w.alloc (.cells #[.string O,.int .u64 (t:Int),.int .i64 m,.string R,.string G] 38)=wSS at hbS hxS⊢;have HB1:=zh hbS;have HXS:=zh hxS;clear hbS hxS;with_reducible refine(HN.out _).mono ?_
  rintro e w2 ⟨rfl,hb2⟩;have HB2:=zh (Bel.call HB1.out hb2);replace HXS:=zh (HXS.out.below hb2);clear hb2;try dsimp only
  obtain⟨⟨nS,dS0,dS1,dS2,dS3,dS4⟩,kS0,kS1,kS2,kS3,kS4⟩:=HXS.out;go_wp2;go_ret;exact⟨rfl,HB2.out⟩
 | true=>
  by_cases h0:0≤m
  case neg=>
   have h0':m<0:=by omega
   obtain rfl:bb=false:=by rw[hbb,decide_eq_false (fun h=>h0 h.1)];rfl
   clear hbb h0;go_enter Tryz.func38,Tryz.ntmps38;go_wp2_with fail;have hbS:Below w.heap.size w (w.alloc (.cells #[.string O,.int .u64 (t:Int),.int .i64 m,.string R,.string G] 38)):=(Below.refl w.heap.size w).alloc zl _;have hxS:=c5_new w (.string O) (.int .u64 (t:Int)) (.int .i64 m) (.string R) (.string G) 38;generalize w.alloc (.cells #[.string O,.int .u64 (t:Int),.int .i64 m,.string R,.string G] 38)=wSS at hbS hxS⊢;have HB1:=zh hbS;have HXS:=zh hxS;clear hbS hxS;with_reducible refine(HN.out _).mono ?_
   rintro e w2 ⟨rfl,hb2⟩;have HB2:=zh (Bel.call HB1.out hb2);replace HXS:=zh (HXS.out.below hb2);clear hb2;try dsimp only
   obtain⟨⟨nS,dS0,dS1,dS2,dS3,dS4⟩,kS0,kS1,kS2,kS3,kS4⟩:=HXS.out;go_wp2;go_ret;exact⟨rfl,HB2.out⟩
  by_cases h8:m≤8
  case neg=>
   have h8':8<m:=by omega
   obtain rfl:bb=false:=by rw[hbb,decide_eq_false (fun h=>h8 h.2)];rfl
   clear hbb h8;go_enter Tryz.func38,Tryz.ntmps38;go_wp2_with fail;have hbS:Below w.heap.size w (w.alloc (.cells #[.string O,.int .u64 (t:Int),.int .i64 m,.string R,.string G] 38)):=(Below.refl w.heap.size w).alloc zl _;have hxS:=c5_new w (.string O) (.int .u64 (t:Int)) (.int .i64 m) (.string R) (.string G) 38;generalize w.alloc (.cells #[.string O,.int .u64 (t:Int),.int .i64 m,.string R,.string G] 38)=wSS at hbS hxS⊢;have HB1:=zh hbS;have HXS:=zh hxS;clear hbS hxS;with_reducible refine(HN.out _).mono ?_
   rintro e w2 ⟨rfl,hb2⟩;have HB2:=zh (Bel.call HB1.out hb2);replace HXS:=zh (HXS.out.below hb2);clear hb2;try dsimp only
   obtain⟨⟨nS,dS0,dS1,dS2,dS3,dS4⟩,kS0,kS1,kS2,kS3,kS4⟩:=HXS.out;go_wp2;go_ret;exact⟨rfl,HB2.out⟩
  rw[decide_eq_true (show 0≤m∧m≤8 from⟨h0,h8⟩),Bool.true_and,Bool.true_and]at hbb;cases v2 with
  | false=>
   obtain rfl:bb=false:=hbb;go_enter Tryz.func38,Tryz.ntmps38;go_wp2_with fail;have hbS:Below w.heap.size w (w.alloc (.cells #[.string O,.int .u64 (t:Int),.int .i64 m,.string R,.string G] 38)):=(Below.refl w.heap.size w).alloc zl _;have hxS:=c5_new w (.string O) (.int .u64 (t:Int)) (.int .i64 m) (.string R) (.string G) 38;generalize w.alloc (.cells #[.string O,.int .u64 (t:Int),.int .i64 m,.string R,.string G] 38)=wSS at hbS hxS⊢;have HB1:=zh hbS;have HXS:=zh hxS;clear hbS hxS;with_reducible refine(HN.out _).mono ?_
   rintro e w2 ⟨rfl,hb2⟩;have HB2:=zh (Bel.call HB1.out hb2);replace HXS:=zh (HXS.out.below hb2);clear hb2;try dsimp only
   obtain⟨⟨nS,dS0,dS1,dS2,dS3,dS4⟩,kS0,kS1,kS2,kS3,kS4⟩:=HXS.out;go_wp2_with fail;with_reducible refine(HT.out _).mono ?_
   rintro e w3 ⟨rfl,hb3⟩;clear nS dS0 dS1 dS2 dS3 dS4 kS0 kS1 kS2 kS3 kS4;have HB3:=zh (Bel.call HB2.out hb3);replace HXS:=zh (HXS.out.below hb3);clear hb3;try dsimp only
   obtain⟨⟨nS,dS0,dS1,dS2,dS3,dS4⟩,kS0,kS1,kS2,kS3,kS4⟩:=HXS.out;go_wp2;go_ret;exact⟨rfl,HB3.out⟩
  | true=>
   by_cases h1:k=103
   ·subst h1
    obtain rfl:bb=true:=hbb;go_enter Tryz.func38,Tryz.ntmps38;go_wp2_with fail;have hbS:Below w.heap.size w (w.alloc (.cells #[.string O,.int .u64 (t:Int),.int .i64 m,.string R,.string G] 38)):=(Below.refl w.heap.size w).alloc zl _;have hxS:=c5_new w (.string O) (.int .u64 (t:Int)) (.int .i64 m) (.string R) (.string G) 38;generalize w.alloc (.cells #[.string O,.int .u64 (t:Int),.int .i64 m,.string R,.string G] 38)=wSS at hbS hxS⊢;have HB1:=zh hbS;have HXS:=zh hxS;clear hbS hxS;with_reducible refine(HN.out _).mono ?_
    rintro e w2 ⟨rfl,hb2⟩;have HB2:=zh (Bel.call HB1.out hb2);replace HXS:=zh (HXS.out.below hb2);clear hb2;try dsimp only
    obtain⟨⟨nS,dS0,dS1,dS2,dS3,dS4⟩,kS0,kS1,kS2,kS3,kS4⟩:=HXS.out;go_wp2_with fail;with_reducible refine(HT.out _).mono ?_
    rintro e w3 ⟨rfl,hb3⟩;clear nS dS0 dS1 dS2 dS3 dS4 kS0 kS1 kS2 kS3 kS4;have HB3:=zh (Bel.call HB2.out hb3);replace HXS:=zh (HXS.out.below hb3);clear hb3;try dsimp only
    obtain⟨⟨nS,dS0,dS1,dS2,dS3,dS4⟩,kS0,kS1,kS2,kS3,kS4⟩:=HXS.out;go_wp2_with fail;with_reducible refine(HK.out _).mono ?_
    rintro e w4 ⟨rfl,hb4⟩;clear nS dS0 dS1 dS2 dS3 dS4 kS0 kS1 kS2 kS3 kS4;have HB4:=zh (Bel.call HB3.out hb4);replace HXS:=zh (HXS.out.below hb4);clear hb4;try dsimp only
    obtain⟨⟨nS,dS0,dS1,dS2,dS3,dS4⟩,kS0,kS1,kS2,kS3,kS4⟩:=HXS.out;go_wp2;go_ret;exact⟨rfl,HB4.out⟩
   ·have q1:((k:Int)==103)=false:=by rw[beq_eq_false_iff_ne];omega
    obtain rfl:bb=false:=by rw[hbb];simp[h1]
    clear hbb h1;go_enter Tryz.func38,Tryz.ntmps38;go_wp2_with fail;have hbS:Below w.heap.size w (w.alloc (.cells #[.string O,.int .u64 (t:Int),.int .i64 m,.string R,.string G] 38)):=(Below.refl w.heap.size w).alloc zl _;have hxS:=c5_new w (.string O) (.int .u64 (t:Int)) (.int .i64 m) (.string R) (.string G) 38;generalize w.alloc (.cells #[.string O,.int .u64 (t:Int),.int .i64 m,.string R,.string G] 38)=wSS at hbS hxS⊢;have HB1:=zh hbS;have HXS:=zh hxS;clear hbS hxS;with_reducible refine(HN.out _).mono ?_
    rintro e w2 ⟨rfl,hb2⟩;have HB2:=zh (Bel.call HB1.out hb2);replace HXS:=zh (HXS.out.below hb2);clear hb2;try dsimp only
    obtain⟨⟨nS,dS0,dS1,dS2,dS3,dS4⟩,kS0,kS1,kS2,kS3,kS4⟩:=HXS.out;go_wp2_with fail;with_reducible refine(HT.out _).mono ?_
    rintro e w3 ⟨rfl,hb3⟩;clear nS dS0 dS1 dS2 dS3 dS4 kS0 kS1 kS2 kS3 kS4;have HB3:=zh (Bel.call HB2.out hb3);replace HXS:=zh (HXS.out.below hb3);clear hb3;try dsimp only
    obtain⟨⟨nS,dS0,dS1,dS2,dS3,dS4⟩,kS0,kS1,kS2,kS3,kS4⟩:=HXS.out;go_wp2_with fail;with_reducible refine(HK.out _).mono ?_
    rintro e w4 ⟨rfl,hb4⟩;clear nS dS0 dS1 dS2 dS3 dS4 kS0 kS1 kS2 kS3 kS4;have HB4:=zh (Bel.call HB3.out hb4);replace HXS:=zh (HXS.out.below hb4);clear hb4;try dsimp only
    obtain⟨⟨nS,dS0,dS1,dS2,dS3,dS4⟩,kS0,kS1,kS2,kS3,kS4⟩:=HXS.out;go_wp2;go_ret;exact⟨rfl,HB4.out⟩
theorem rfright_is {v:Value} {s:Sp} (h:IsS v s) (h1:s.own.length≤2000000) (h2:s.root.length≤140737488355328) (h3:s.sig.length≤140737488355328) (w:World):Calls Tryz.prog 38 #[v] w fun e w'=>e = .returned (.bool (decide (SR s)))∧Below w.heap.size w w':=by
 obtain⟨O,R,G,hO,hR,hG,rfl⟩:=h;have:=rfright_any O s.time s.many R G w (by rw[Lib.size_eq,hO];exact h1) (by rw[Lib.size_eq,hR];exact h2) (by rw[Lib.size_eq,hG];exact h3);rw[hO,hR,hG]at this;exact this
set_option maxRecDepth 1000000 in
theorem rfput_any (O:ByteArray) (t:Nat) (m:Int) (R G:ByteArray) (w:World) (hO:O.size≤2000000) (hR:R.size≤140737488355328) (hG:G.size≤140737488355328) (ht:t<18446744073709551616):
 Calls Tryz.prog 24 #[.agg #[.string O,.int .u64 (t:Int),.int .i64 m,.string R,.string G]] w fun e w'=>Sr (putS ⟨O.data.toList,t,m,R.data.toList,G.data.toList⟩) e∧Below w.heap.size w w':=by
 have HRI:=zh fun w=>rfright_any O t m R G w hO hR hG
 generalize hx:putS ⟨O.data.toList,t,m,R.data.toList,G.data.toList⟩=x;unfold putS at hx;by_cases hr:SR ⟨O.data.toList,t,m,R.data.toList,G.data.toList⟩
 case neg=>
  rw[if_neg hr]at hx;rw[decide_eq_false hr]at HRI;have HX:=zh hx;clear hx hr;go_enter Tryz.func24,Tryz.ntmps24;go_wp2_with fail;have hbS:Below w.heap.size w (w.alloc (.cells #[.string O,.int .u64 (t:Int),.int .i64 m,.string R,.string G] 38)):=(Below.refl w.heap.size w).alloc zl _;have hxS:=c5_new w (.string O) (.int .u64 (t:Int)) (.int .i64 m) (.string R) (.string G) 38;generalize w.alloc (.cells #[.string O,.int .u64 (t:Int),.int .i64 m,.string R,.string G] 38)=wSS at hbS hxS⊢;have HB1:=zh hbS;have HXS:=zh hxS;clear hbS hxS;with_reducible refine(HRI.out _).mono ?_
  rintro e w2 ⟨rfl,hb2⟩;have HB2:=zh (Bel.call HB1.out hb2);replace HXS:=zh (HXS.out.below hb2);clear hb2;try dsimp only
  go_wp2;go_ret2;exact⟨by rw[←HX.out];exact⟨⟨#[]⟩,rfl,rfl⟩,HB2.out⟩
 rw[if_pos hr]at hx;rw[decide_eq_true hr]at HRI;have hl:=sr_lens hr;have hm:=hr.2.1;simp only at hl hm;obtain⟨k,rfl⟩:∃k:Nat,m=(k:Int):=⟨m.toNat,by omega⟩
 have hk8:k≤8:=by omega
 have cw:IntKind.u64.wrap (k:Int)=(k:Int):=by rw[IntKind.wrap_u64];omega
 have HPT:Hid (∀w,Calls Tryz.prog 26 #[.int .u64 (t:Int)] w fun e w'=>e = .returned (.string ⟨⟨put t⟩⟩)∧Below w.heap.size w w'):=zh fun w=>(refPut_any t w ht).mono fun e w' h=>⟨st_fix h.1,h.2⟩
 have HPK:Hid (∀w,Calls Tryz.prog 26 #[.int .u64 (k:Int)] w fun e w'=>e = .returned (.string ⟨⟨put k⟩⟩)∧Below w.heap.size w w'):=zh fun w=>(refPut_any k w (by omega)).mono fun e w' h=>⟨st_fix h.1,h.2⟩
 have hpl:=(put_le (n:=k) (by omega)).2;have hpt:=(put_le (n:=t) ht).2
 have HPA:Hid (∀(g:Nat) (P Q:ByteArray) (w:World),P.data.toList=put t→Q.data.toList=put k→SReads w (some ⟨g,0,none⟩) [O,P,Q,R,G]→Calls Tryz.prog 25 #[.slice (some ⟨g,0,none⟩) 5 5] w fun e w'=>St x.1 e∧Below w.heap.size w w'):=zh fun g P Q w hP hQ hsr=>by
  have:=refPutAll_any (some ⟨g,0,none⟩) 5 [O,P,Q,R,G] w hsr (by simp) (by
   show([O.data.toList,P.data.toList,Q.data.toList,R.data.toList,G.data.toList]:List (List UInt8)).flatten.length≤_;simp only[List.flatten_cons,List.flatten_nil,List.append_nil,List.length_append,hP,hQ]
   omega)
  rw[show bl [O,P,Q,R,G] = [O.data.toList,P.data.toList,Q.data.toList,R.data.toList,G.data.toList]from rfl,hP,hQ]at this;rw[←hx];exact this
 have hx2:x.2=0:=by rw[←hx]
 obtain⟨xl,xf⟩:=x;obtain rfl:xf=0:=hx2;simp only at HPA;obtain⟨PT,hPT⟩:∃P:ByteArray,(⟨⟨put t⟩⟩:ByteArray)=P:=⟨_,rfl⟩
 obtain⟨PK,hPK⟩:∃P:ByteArray,(⟨⟨put k⟩⟩:ByteArray)=P:=⟨_,rfl⟩
 have HQT:Hid (PT.data.toList=put t):=zh (by rw[←hPT]);have HQK:Hid (PK.data.toList=put k):=zh (by rw[←hPK]);rw[hPT]at HPT;rw[hPK]at HPK;clear hx hr hl hpl hpt hm hk8 hPT hPK hO hR hG ht;go_enter Tryz.func24,Tryz.ntmps24;go_wp2_with fail;have hbS:Below w.heap.size w (w.alloc (.cells #[.string O,.int .u64 (t:Int),.int .i64 (k:Int),.string R,.string G] 38)):=(Below.refl w.heap.size w).alloc zl _;have hxS:=c5_new w (.string O) (.int .u64 (t:Int)) (.int .i64 (k:Int)) (.string R) (.string G) 38;generalize w.alloc (.cells #[.string O,.int .u64 (t:Int),.int .i64 (k:Int),.string R,.string G] 38)=wSS at hbS hxS⊢;have HB1:=zh hbS;have HXS:=zh hxS;clear hbS hxS;with_reducible refine(HRI.out _).mono ?_
 rintro e w2 ⟨rfl,hb2⟩;have HB2:=zh (Bel.call HB1.out hb2);replace HXS:=zh (HXS.out.below hb2);clear hb2;try dsimp only
 go_wp2_with fail;refine wp_region_held_drew (S:=fun w'=>C5 w.heap.size w' (.string O) (.int .u64 (t:Int)) (.int .i64 (k:Int)) (.string R) (.string G)) (by kernel_rfl) (HXS.out.below (Below.drewN' (Below.refl w2.heap.size w2) 1)) (fun hHeld=>?_);have hdr:Below w2.heap.size w2 w2.drew:=Below.drewN' (Below.refl w2.heap.size w2) 1;clear hHeld;generalize w2.drew=wd3 at hdr⊢;have HB3:=zh (Bel.call HB2.out hdr);replace HXS:=zh (HXS.out.below hdr);clear hdr;have hHeld:=HXS.out;refine zqT 0 ?_ ?_ ?_;rotate_left
 ·intro w' hSw;obtain⟨⟨_,c0,c1,c2,c3,c4⟩,_⟩:=hSw;go_simp;try with_reducible rfl
 try simp only[Act.put,zq1,zq2,zq3]
 refine zqT 1 ?_ ?_ ?_;rotate_left
 ·intro w' hSw;obtain⟨⟨_,c0,c1,c2,c3,c4⟩,_⟩:=hSw;go_simp;try with_reducible rfl
 try simp only[Act.put,zq1,zq2,zq3]
 refine zqT 2 ?_ ?_ ?_;rotate_left
 ·intro w' hSw;obtain⟨⟨_,c0,c1,c2,c3,c4⟩,_⟩:=hSw;go_simp;try with_reducible rfl
 try simp only[Act.put,zq1,zq2,zq3]
 refine zqT 3 ?_ ?_ ?_;rotate_left
 ·intro w' hSw;obtain⟨⟨_,c0,c1,c2,c3,c4⟩,_⟩:=hSw;go_simp;try with_reducible rfl
 try simp only[Act.put,zq1,zq2,zq3]
 refine zqT 5 ?_ ?_ ?_;rotate_left
 ·intro w' hSw;obtain⟨⟨_,c0,c1,c2,c3,c4⟩,_⟩:=hSw;go_simp;try with_reducible rfl
 try simp only[Act.put,zq1,zq2,zq3]
 refine zqT 6 ?_ ?_ ?_;rotate_left
 ·intro w' hSw;obtain⟨⟨_,c0,c1,c2,c3,c4⟩,_⟩:=hSw;go_simp;try with_reducible rfl
 try simp only[Act.put,zq1,zq2,zq3]
 refine zqT 7 ?_ ?_ ?_;rotate_left
 ·intro w' hSw;obtain⟨⟨_,c0,c1,c2,c3,c4⟩,_⟩:=hSw;go_simp;try with_reducible rfl
 try simp only[Act.put,zq1,zq2,zq3]
 refine zqT 9 ?_ ?_ ?_;rotate_left
 ·intro w' hSw;obtain⟨⟨_,c0,c1,c2,c3,c4⟩,_⟩:=hSw;go_simp;try with_reducible rfl
 try simp only[Act.put,zq1,zq2,zq3]
 refine zqT 10 ?_ ?_ ?_;rotate_left
 ·intro w' hSw;obtain⟨⟨_,c0,c1,c2,c3,c4⟩,_⟩:=hSw;go_simp;try with_reducible rfl
 try simp only[Act.put,zq1,zq2,zq3]
 refine zqT 11 ?_ ?_ ?_;rotate_left
 ·intro w' hSw;obtain⟨⟨_,c0,c1,c2,c3,c4⟩,_⟩:=hSw;go_simp;try with_reducible rfl
 try simp only[Act.put,zq1,zq2,zq3]
 refine zqT 12 ?_ ?_ ?_;rotate_left
 ·intro w' hSw;obtain⟨⟨_,c0,c1,c2,c3,c4⟩,_⟩:=hSw;go_simp;try with_reducible rfl
 try simp only[Act.put,zq1,zq2,zq3]
 clear hHeld;refine zqR [4] ?_;refine zqC (fun Kn hK=>?_) AllReadyH.nil;go_simp;go_at_call 26;with_reducible refine(HPT.out _).mono ?_
 rintro e w4 ⟨rfl,hb4⟩;have HB4:=zh (Bel.call HB3.out hb4);replace HXS:=zh (HXS.out.below hb4);clear hb4;try dsimp only
 refine hK.out _ _ HXS.out (fun hHeld=>?_);try simp only[Act.put,zq1,zq2,zq3]
 clear hHeld;refine zqR [8] ?_;refine zqC (fun Kn hK=>?_) AllReadyH.nil;go_simp;go_at_call 26;with_reducible refine(HPK.out _).mono ?_
 rintro e w5 ⟨rfl,hb5⟩;have HB5:=zh (Bel.call HB4.out hb5);replace HXS:=zh (HXS.out.below hb5);clear hb5;try dsimp only
 refine hK.out _ _ HXS.out (fun hHeld=>?_);try simp only[Act.put,zq1,zq2,zq3]
 clear hHeld;refine zqR [13] ?_;refine zqC (fun Kn hK=>?_) AllReadyH.nil;go_simp;have hrow:=lit5_reads w5 O PT PK R G w5.heap.size rfl;have hbA:Below w5.heap.size w5 (w5.alloc (.cells #[.string O,.string PT,.string PK,.string R,.string G] 9)):=(Below.refl w5.heap.size w5).alloc zl _;generalize w5.alloc (.cells #[.string O,.string PT,.string PK,.string R,.string G] 9)=wa at hrow hbA⊢;have HB6:=zh (Bel.call HB5.out hbA);replace HXS:=zh (HXS.out.below hbA);have HRW:=zh hrow;clear hbA hrow;refine hK.out _ _ HXS.out (fun hHeld=>?_);try simp only[Act.put,zq1,zq2,zq3]
 clear hHeld;refine zqR [14] ?_;refine zqC (fun Kn hK=>?_) AllReadyH.nil;go_simp;go_at_call 25;with_reducible refine(HPA.out _ PT PK _ HQT.out HQK.out HRW.out).mono ?_
 rintro e w7 ⟨⟨U,hU,rfl⟩,hb7⟩;have HB7:=zh (Bel.call HB6.out hb7);replace HXS:=zh (HXS.out.below hb7);replace HRW:=zh (HRW.out.below hb7 zl);clear hb7;have HU:=zh hU;clear hU;try dsimp only
 refine hK.out _ _ HXS.out (fun hHeld=>?_);try simp only[Act.put,zq1,zq2,zq3]
 refine zqT 15 ?_ ?_ ?_;rotate_left
 ·intro w' hSw;obtain⟨⟨_,c0,c1,c2,c3,c4⟩,_⟩:=hSw;go_simp;try with_reducible rfl
 try simp only[Act.put,zq1,zq2,zq3]
 refine zqT 16 ?_ ?_ ?_;rotate_left
 ·intro w' hSw;obtain⟨⟨_,c0,c1,c2,c3,c4⟩,_⟩:=hSw;go_simp;try with_reducible rfl
 try simp only[Act.put,zq1,zq2,zq3]
 refine wpAnyH_done (by kernel_rfl) ?_ _;go_wp2;go_ret2;exact⟨⟨U,HU.out,rfl⟩,HB7.out⟩
end Go.Proofs.YtmihiknebelkbaaGreat.Frs
