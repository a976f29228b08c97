/-
  OFew. By an AI agent.
-/
import Derived.Test.YtmihiknebelkbaaGreatOZ
import Derived.Test.YtmihiknebelkbaaGreatOOPureC
set_option linter.unusedSimpArgs false
set_option linter.unusedVariables false
set_option maxHeartbeats 8000000
namespace Go.Proofs.YtmihiknebelkbaaGreat.Own
open Go Go.RowKit Wire Term Rig Mta Frm Usr
def FewSaid (N:Prop) (z:Ending):Prop:=∃b,z = .returned (.bool b)∧(b=true→N)
theorem isW_len {w:World} {o f sig:ByteArray} {ep:Int} {A:Option Addr} {n c:Nat} {B:Option Addr} {m d ver:Nat} {V:Option Addr} {k cv:Nat} {K:Option Addr} {q ck:Nat} {M:Mt} (h:IsW w (.agg #[.string o,.string f,.int .i64 ep,.slice A n c,.slice B m d,.int .u64 (ver:Int),.slice V k cv,.slice K q ck,.string sig]) M):
 n=M.r.rs.length∧m=M.r.ws.length∧k=M.vf.length∧q=M.bs.length∧(∃vs:List ByteArray,vs.length=k∧SReads w V vs)∧∃ks:List (ByteArray×ByteArray),ks.length=q∧PReads w K ks:=by
 obtain⟨o',f',sig',A',c',rs,B',d',ws,V',cv',vs,K',ck',ks,h1,h2,h3,h4,h5,h6,h7⟩:=h;injection h1 with h1
 have g2:=Array.mk.inj h1;simp only[List.cons.injEq,Value.string.injEq,Value.slice.injEq,Value.int.injEq,and_true,true_and]at g2;obtain⟨rfl,rfl,rfl,⟨rfl,rfl,rfl⟩,⟨rfl,rfl,rfl⟩,hver,⟨rfl,rfl,rfl⟩,⟨rfl,rfl,rfl⟩,rfl⟩:=g2;have q1:=congrArg (fun m:Mt=>m.r.rs.length) h2;have q2:=congrArg (fun m:Mt=>m.r.ws.length) h2;have q3:=congrArg (fun m:Mt=>m.vf.length) h2;have q4:=congrArg (fun m:Mt=>m.bs.length) h2;simp only[bl_len,pl,List.length_map]at q1 q2 q3 q4;exact⟨q1.symm,q2.symm,q3.symm,q4.symm,⟨vs,rfl,h5⟩,ks,rfl,h6⟩
set_option maxRecDepth 1000000 in
theorem few15_any (v:Value) (e:Env) (w:World) (h:IsE w v e) (hb:e.m.r.rs.length≤140737488351232∧e.m.r.ws.length≤140737488351232∧e.m.vf.length≤140737488351232∧e.m.bs.length≤140737488351232∧e.pf.length≤140737488351232):Calls Tryz.prog 5 #[v] w fun z w'=>FewSaid (e.m.vf.length≤20∧e.m.bs.length≤20∧e.m.r.rs.length+e.m.r.ws.length≤20∧e.pf.length≤20) z∧Below w.heap.size w w':=by
 obtain⟨o,f,sig,ep,A,n,c,B,m,d,ver,V,k,cv,K,q,ck,O,R,G,P,cp,ps,rfl,hm,hs,hp,hpe⟩:=isE_lit h;obtain⟨l1,l2,l3,l4,⟨vs,hvl,hv⟩,ks,hkl,hk⟩:=isW_len hm;rw[←l1,←l2,←l3,←l4,←hpe,bl_len]at hb⊢;obtain⟨b1,b2,b3,b4,b5⟩:=hb;generalize e.s.time=T;generalize e.s.many=Y;generalize e.i=I;have HV:=zh hv;have HK:=zh hk;have HP:=zh hp;have HVL:=zh hvl;have HKL:=zh hkl;clear hm hs hp hpe l1 l2 l3 l4 hvl hv hkl hk h;have HF:=zh (fm_refl w);have w3:IntKind.i64.wrap ((n:Int)+(m:Int))=(n:Int)+(m:Int):=by rw[IntKind.wrap_i64];omega
 go_enter Tryz.func5,Tryz.ntmps5;go_wp2_with fail;any_goals (go_ret;exact⟨⟨_,rfl,fun h=>by cases h⟩,(HF.out.box _ _).bel⟩)
 have hF:=HF.out.box #[.string o,.string f,.int .i64 ep,.slice A n c,.slice B m d,.int .u64 (ver:Int),.slice V k cv,.slice K q ck,.string sig,.string O,.int .u64 (T:Int),.int .i64 Y,.string R,.string G,.int .i64 I,.slice P ps.length cp] 32;generalize w.alloc (.cells #[.string o,.string f,.int .i64 ep,.slice A n c,.slice B m d,.int .u64 (ver:Int),.slice V k cv,.slice K q ck,.string sig,.string O,.int .u64 (T:Int),.int .i64 Y,.string R,.string G,.int .i64 I,.slice P ps.length cp] 32)=w1 at hF⊢;replace HF:=zh hF;clear hF;have HYES:Hid (k≤20∧q≤20∧n+m≤20∧ps.length≤20):=zh ⟨by omega,by omega,by omega,by omega⟩;go_loopw [3,4] (fun nv vi wr=>∃(j:Nat) (N:Int),j≤k∧nv = .int .i64 N∧vi = .int .i64 (j:Int)∧Hid (Fm w wr [box w.heap.size #[.string o,.string f,.int .i64 ep,.slice A n c,.slice B m d,.int .u64 (ver:Int),.slice V k cv,.slice K q ck,.string sig,.string O,.int .u64 (T:Int),.int .i64 Y,.string R,.string G,.int .i64 I,.slice P ps.length cp] 32])) (fun _ vi _=>k-(intOf vi).toNat);case atStart=>exact⟨0,_,Nat.zero_le _,rfl,rfl,HF⟩
 case round=>
  obtain⟨j,N,hj,rfl,rfl,HF⟩:=hrel;have hj0:(0:Int)≤(j:Int):=Int.natCast_nonneg j;obtain⟨c0,c1,c2,c3,c4,c5,c6,c7,c8,c9,c10,c11,c12,c13,c14,c15,c16⟩:=bxn16 (HF.out.at 0 rfl);by_cases hlt:(j:Int)<(k:Int)
  ·obtain⟨bv,ov,rfl,hbl,hcl⟩:=(HV.out.below HF.out.bel zl) j (by rw[HVL.out];omega)
   go_wp2_with fail;clear c0 c1 c2 c3 c4 c5 c6 c7 c8 c9 c10 c11 c12 c13 c14 c15 c16;skip;go_roundw;case rel=>exact⟨j+1,_,by omega,rfl,by go_num,HF⟩
   case measure=>simp[intOf];omega
  go_wp2_with fail;clear c0 c1 c2 c3 c4 c5 c6 c7 c8 c9 c10 c11 c12 c13 c14 c15 c16;go_loopw [3,5] (fun nv vi wr=>∃(j:Nat) (N:Int),j≤q∧nv = .int .i64 N∧vi = .int .i64 (j:Int)∧Hid (Fm w wr [box w.heap.size #[.string o,.string f,.int .i64 ep,.slice A n c,.slice B m d,.int .u64 (ver:Int),.slice V k cv,.slice K q ck,.string sig,.string O,.int .u64 (T:Int),.int .i64 Y,.string R,.string G,.int .i64 I,.slice P ps.length cp] 32])) (fun _ vi _=>q-(intOf vi).toNat);case atStart=>exact⟨0,_,Nat.zero_le _,rfl,rfl,HF⟩
  case round=>
   obtain⟨j,N,hj,rfl,rfl,HF⟩:=hrel;have hj0:(0:Int)≤(j:Int):=Int.natCast_nonneg j;obtain⟨c0,c1,c2,c3,c4,c5,c6,c7,c8,c9,c10,c11,c12,c13,c14,c15,c16⟩:=bxn16 (HF.out.at 0 rfl);by_cases hlt:(j:Int)<(q:Int)
   ·obtain⟨bk,ok,rfl,-⟩:=HK.out j (by rw[HKL.out];omega)
    go_wp2_with fail;clear c0 c1 c2 c3 c4 c5 c6 c7 c8 c9 c10 c11 c12 c13 c14 c15 c16;refine Ord.region_lit (S:=fun w'=>Fm w w' _) (by kernel_rfl) (by kernel_rfl) (HF.out.go (Below.drewN' (Below.refl _ _) 1)) ?_;iterate 3 (refine Ord.stepR (v:=?_) (by rfl) ?_ ?_;rotate_left;· (intro w' hSw;go_simp;try with_reducible rfl))
    try simp only[Act.put,zq1,zq2,zq3]
    (refine Ord.stepR (v:=?_) (by rfl) ?_ ?_;rotate_left;· (intro w' hSw;obtain⟨c0,c1,c2,c3,c4,c5,c6,c7,c8,c9,c10,c11,c12,c13,c14,c15,c16⟩:=bxn16 (hSw.at 0 rfl);obtain⟨bb,oo,e1,_,hc1,hc2⟩:=(PReads.below HK.out hSw.bel zl) j (by rw[HKL.out];omega);cases e1;go_simp;try with_reducible rfl));try simp only[Act.put,zq1,zq2,zq3]
    iterate 3 (refine Ord.stepR (v:=?_) (by rfl) ?_ ?_;rotate_left;· (intro w' hSw;go_simp;try with_reducible rfl))
    try simp only[Act.put,zq1,zq2,zq3]
    (refine Ord.stepR (v:=?_) (by rfl) ?_ ?_;rotate_left;· (intro w' hSw;obtain⟨c0,c1,c2,c3,c4,c5,c6,c7,c8,c9,c10,c11,c12,c13,c14,c15,c16⟩:=bxn16 (hSw.at 0 rfl);obtain⟨bb,oo,e1,_,hc1,hc2⟩:=(PReads.below HK.out hSw.bel zl) j (by rw[HKL.out];omega);cases e1;go_simp;try with_reducible rfl));try simp only[Act.put,zq1,zq2,zq3]
    iterate 4 (refine Ord.stepR (v:=?_) (by rfl) ?_ ?_;rotate_left;· (intro w' hSw;go_simp;try with_reducible rfl))
    try simp only[Act.put,zq1,zq2,zq3]
    (refine Ord.stepR (v:=?_) (by rfl) ?_ ?_;rotate_left;· (intro w' hSw;obtain⟨c0,c1,c2,c3,c4,c5,c6,c7,c8,c9,c10,c11,c12,c13,c14,c15,c16⟩:=bxn16 (hSw.at 0 rfl);obtain⟨bb,oo,e1,_,hc1,hc2⟩:=(PReads.below HK.out hSw.bel zl) j (by rw[HKL.out];omega);cases e1;go_simp;try with_reducible rfl));try simp only[Act.put,zq1,zq2,zq3]
    iterate 3 (refine Ord.stepR (v:=?_) (by rfl) ?_ ?_;rotate_left;· (intro w' hSw;go_simp;try with_reducible rfl))
    try simp only[Act.put,zq1,zq2,zq3]
    (refine Ord.stepR (v:=?_) (by rfl) ?_ ?_;rotate_left;· (intro w' hSw;obtain⟨c0,c1,c2,c3,c4,c5,c6,c7,c8,c9,c10,c11,c12,c13,c14,c15,c16⟩:=bxn16 (hSw.at 0 rfl);obtain⟨bb,oo,e1,_,hc1,hc2⟩:=(PReads.below HK.out hSw.bel zl) j (by rw[HKL.out];omega);cases e1;go_simp;try with_reducible rfl));try simp only[Act.put,zq1,zq2,zq3]
    iterate 3 (refine Ord.stepR (v:=?_) (by rfl) ?_ ?_;rotate_left;· (intro w' hSw;go_simp;try with_reducible rfl))
    try simp only[Act.put,zq1,zq2,zq3]
    refine Ord.stepD fun w1 hZ=>?_
    replace HF:=zh hZ;clear hZ;go_wp2_with fail;skip;go_roundw;case rel=>exact⟨j+1,_,by omega,rfl,by go_num,HF⟩
    case measure=>simp[intOf];omega
   go_wp2_with fail;clear c0 c1 c2 c3 c4 c5 c6 c7 c8 c9 c10 c11 c12 c13 c14 c15 c16;go_loopw [3,6] (fun nv vi wr=>∃(j:Nat) (N:Int),j≤ps.length∧nv = .int .i64 N∧vi = .int .i64 (j:Int)∧Hid (Fm w wr [box w.heap.size #[.string o,.string f,.int .i64 ep,.slice A n c,.slice B m d,.int .u64 (ver:Int),.slice V k cv,.slice K q ck,.string sig,.string O,.int .u64 (T:Int),.int .i64 Y,.string R,.string G,.int .i64 I,.slice P ps.length cp] 32])) (fun _ vi _=>ps.length-(intOf vi).toNat);case atStart=>exact⟨0,_,Nat.zero_le _,rfl,rfl,HF⟩
   case round=>
    obtain⟨j,N,hj,rfl,rfl,HF⟩:=hrel;have hj0:(0:Int)≤(j:Int):=Int.natCast_nonneg j;obtain⟨c0,c1,c2,c3,c4,c5,c6,c7,c8,c9,c10,c11,c12,c13,c14,c15,c16⟩:=bxn16 (HF.out.at 0 rfl);by_cases hlt:(j:Int)<(ps.length:Int)
    ·obtain⟨bp,op,rfl,hbl,hcl⟩:=(HP.out.below HF.out.bel zl) j (by omega)
     go_wp2_with fail;clear c0 c1 c2 c3 c4 c5 c6 c7 c8 c9 c10 c11 c12 c13 c14 c15 c16;skip;go_roundw;case rel=>exact⟨j+1,_,by omega,rfl,by go_num,HF⟩
     case measure=>simp[intOf];omega
    go_wp2_with fail;go_ret;exact⟨⟨_,rfl,fun _=>HYES.out⟩,HF.out.bel⟩
end Go.Proofs.YtmihiknebelkbaaGreat.Own
