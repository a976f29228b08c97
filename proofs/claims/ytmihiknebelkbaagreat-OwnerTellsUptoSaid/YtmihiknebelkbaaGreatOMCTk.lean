/-
  MCTk. By an AI agent.
-/
import Derived.Test.YtmihiknebelkbaaGreatOZ
import Derived.Test.YtmihiknebelkbaaGreatOMCRead
set_option linter.unusedSimpArgs false
set_option linter.unusedVariables false
set_option maxHeartbeats 8000000
namespace Go.Proofs.YtmihiknebelkbaaGreat.Mta
open Go.RowKit Wire Term Rig
theorem isM_all {ok:Nat→Prop} {w:World} {v:Value} {m:Mt} (h:IsM ok w v m):∃(o f sig:ByteArray) (ep:Int) (A:Option Addr) (c:Nat) (rs:List ByteArray) (B:Option Addr) (d:Nat) (ws:List ByteArray) (ver:Nat) (V:Option Addr) (cv:Nat) (vs:List ByteArray) (K:Option Addr) (ck:Nat) (ks:List (ByteArray×ByteArray)),
 v = .agg #[.string o,.string f,.int .i64 ep,.slice A rs.length c,.slice B ws.length d,.int .u64 (ver:Int),.slice V vs.length cv,.slice K ks.length ck,.string sig]∧m=⟨⟨o.data.toList,f.data.toList,ep,bl rs,bl ws⟩,ver,bl vs,pl ks,sig.data.toList⟩∧SReads w A rs∧SReads w B ws∧SReads w V vs∧PReads w K ks∧(A=none→c=0)∧(B=none→d=0):=by
 obtain⟨o,f,sig,A,c,rs,B',d,ws,V,cv,vs,K,ck,ks,h1,h2,h3,h4,h5,h6,h7,h8,_⟩:=h;exact⟨o,f,sig,m.r.ep,A,c,rs,B',d,ws,m.ver,V,cv,vs,K,ck,ks,h1,h2,h3,h4,h5,h6,h7.2,h8.2⟩
theorem cright_at (v:Value) (m:Mt) (w:World) (h:∃ok,IsM ok w v m) (hf:FewM m):Calls Tryz.prog 36 #[v] w fun e w'=>e = .returned (.bool (decide (MR m)))∧Below w.heap.size w w':=by
 obtain⟨ok,h⟩:=h;obtain⟨o,f,sig,ep,A,c,rs,B,d,ws,ver,V,cv,vs,K,ck,ks,rfl,rfl,h3,h4,h5,h6,h7,h8⟩:=isM_all h;exact cright_any o f sig ep A c rs B d ws ver V cv vs K ck ks w h3 h4 h5 h6 h7 h8 hf
theorem put_mem {l:List Tm} {t s:Tm} (h:t∈l) (hs:(putAll l).length≤1100000):t.length≤1100000:=Nat.le_trans (part_le h) hs
theorem few_read {s:Tm} {m:Mt} (h:readM s=some m) (hs:s.length≤1100000):FewM m:=by
 obtain⟨e1,e2⟩:=readM_back h;rw[e1]at hs;have hb:(bodyB m).length≤1100000:=put_mem (s:=[]) (by simp) hs;have hg:m.sig.length≤1100000:=put_mem (s:=[]) (by simp) hs;unfold bodyB at hb;have hv:(putAll m.vf).length≤1100000:=put_mem (s:=[]) (by simp) hb;have hk:(putAll (m.bs.map fun b=>putAll [b.1,b.2])).length≤1100000:=put_mem (s:=[]) (by simp) hb;have hvt:∀t∈m.vf,t.length≤1100000:=fun t ht=>put_mem (s:=[]) ht hv
 have hbt:∀b∈m.bs,b.1.length≤1100000∧b.2.length≤1100000:=fun b hb=>by
  have h1:(putAll [b.1,b.2]).length≤1100000:=put_mem (s:=[]) (List.mem_map.2 ⟨b,hb,rfl⟩) hk;exact⟨put_mem (s:=[]) (by simp) h1,put_mem (s:=[]) (by simp) h1⟩
 unfold readM at h;cases h1:rowK s 2 with
 | none=>rw[h1]at h;cases h
 | some l=>
  rw[h1]at h;simp only at h;cases h2:rowK (l.getD 0 []) 4 with
  | none=>rw[h2]at h;cases h
  | some p=>
   rw[h2]at h;simp only at h;unfold readP at h;split at h;case isTrue=>cases h
   case isFalse c1=>
    have hr:RR (takeR (p.getD 0 [])).1:=by
     rcases takeR_cases (p.getD 0 [])with h|⟨r,h,h2,_⟩
     ·rw[h]at c1;exact absurd (by decide) c1
     ·rw[h];exact h2
    split at h;case isTrue=>cases h
    case isFalse c2=>
     cases h3:rowK (p.getD 2 []) ((takeR (p.getD 0 [])).1.ep.toNat+1)with
     | none=>rw[h3]at h;cases h
     | some v=>
      rw[h3]at h;simp only at h;cases h4:blksK (p.getD 3 []) ((takeR (p.getD 0 [])).1.rs.length+(takeR (p.getD 0 [])).1.ws.length)with
      | none=>rw[h4]at h;cases h
      | some b=>
       rw[h4]at h;have hm:=Option.some.inj h;have q1:m.r=(takeR (p.getD 0 [])).1:=by rw[←hm]
       have q2:m.vf=v:=by rw[←hm]
       have q3:m.bs=b:=by rw[←hm]
       have r1:=hr.2.2.1;have r2:=hr.2.2.2.1;have l1:=(rowK_back h3).2
       have l2:b.length≤5:=by
        unfold blksK at h4;cases h5:rowK (p.getD 3 []) ((takeR (p.getD 0 [])).1.rs.length+(takeR (p.getD 0 [])).1.ws.length)with
        | none=>rw[h5]at h4;cases h4
        | some q=>
         rw[h5]at h4;have l3:=(rowK_back h5).2;have l4:=congrArg List.length (pairsK_back q b h4);rw[List.length_map]at l4;omega
       exact⟨by rw[q1];exact few_right hr,by rw[q2];omega,by rw[q3];omega,hvt,hbt,hg,e2⟩
set_option maxRecDepth 1000000 in
theorem ctake_any (gs:List Nat) (s:ByteArray) (w:World) (hg:∀g∈gs,g<w.heap.size) (hs:s.size≤1100000):
 Calls Tryz.prog 46 #[.string s] w fun e w'=>Me (Off gs) (takeM s.data.toList) e w'∧Below w.heap.size w w':=by
 have HRD:=zh fun gs w hg=>read_any gs s w hg hs
 have htk:=readM_take s.data.toList;cases hrd:readM s.data.toList with
 | none=>
  rw[hrd]at HRD htk;rw[htk];clear htk hrd;go_enter Tryz.func46,Tryz.ntmps46;go_wp2_with fail;have HRS:=zh (rs_alloc w 28);have HB:=zh (al w (.cells #[.string ⟨#[]⟩,.string ⟨#[]⟩,.int .i64 0,.slice none 0 0,.slice none 0 0,.int .u64 0,.slice none 0 0,.slice none 0 0,.string ⟨#[]⟩] 28));have HRL:=zh (rs_lt HRS.out);obtain⟨R,hR⟩:∃n,w.heap.size=n:=⟨_,rfl⟩
  have HG:=zh hR;generalize w.alloc (.cells #[.string ⟨#[]⟩,.string ⟨#[]⟩,.int .i64 0,.slice none 0 0,.slice none 0 0,.int .u64 0,.slice none 0 0,.slice none 0 0,.string ⟨#[]⟩] 28)=w1 at HRS HB HRL⊢;rw[hR]at HRS HRL⊢;clear hR
  have hgs:∀g∈R::gs,g<w1.heap.size:=fun g h=>by
   rcases List.mem_cons.1 h with h|h
   ·rw[h];exact HRL.out
   ·exact Nat.lt_of_lt_of_le (hg g h) HB.out.size
  with_reducible refine(HRD.out (R::gs) _ hgs).mono ?_
  rintro e w2 ⟨hr,hb2⟩;obtain rfl:e = .returned (.tuple #[.agg #[.string ⟨#[]⟩,.string ⟨#[]⟩,.int .i64 0,.slice none 0 0,.slice none 0 0,.int .u64 0,.slice none 0 0,.slice none 0 0,.string ⟨#[]⟩],.bool false]):=hr;have HB:=zh (Bel.call HB.out hb2);have HRS:=zh (HRS.out.call hb2);clear hb2 hgs;dsimp only;have hbA:=al w2 (.cells #[.string ⟨#[]⟩,.string ⟨#[]⟩,.int .i64 0,.slice none 0 0,.slice none 0 0,.int .u64 0,.slice none 0 0,.slice none 0 0,.string ⟨#[]⟩] 28);have HB:=zh (Bel.call HB.out hbA);have HRS:=zh (HRS.out.call hbA);clear hbA;obtain⟨⟨⟨r0,r1,r2,r3,r4,r5,r6,r7,r8⟩,_⟩,⟨f0,f1,f2,f3,f4,f5,f6,f7,f8⟩⟩:=HRS.out;go_wp2;refine bodyPost_ret (v:=.tuple #[.agg #[.string ⟨#[]⟩,.string ⟨#[]⟩,.int .i64 0,.slice none 0 0,.slice none 0 0,.int .u64 0,.slice none 0 0,.slice none 0 0,.string ⟨#[]⟩],.int .i64 2]) (by simp[results,Tryz.results46,go_sem,r0,r1,r2,r3,r4,r5,r6,r7,r8]) rfl ?_;exact⟨⟨_,isM_zero _ _,rfl⟩,set9 HB.out (by rw[HG.out];exact Nat.le_refl _)⟩
 | some m=>
  have hf:=few_read hrd (by rw[←Lib.size_eq];exact hs);have HF:=zh hf;rw[hrd]at HRD htk;simp only at htk;rw[htk];clear htk hrd hf;by_cases hr:MR m
  case neg=>
   rw[if_neg hr];have hrr:decide (MR m)=false:=decide_eq_false hr;clear hr;go_enter Tryz.func46,Tryz.ntmps46;go_wp2_with fail;have HRS:=zh (rs_alloc w 28);have HB:=zh (al w (.cells #[.string ⟨#[]⟩,.string ⟨#[]⟩,.int .i64 0,.slice none 0 0,.slice none 0 0,.int .u64 0,.slice none 0 0,.slice none 0 0,.string ⟨#[]⟩] 28));have HRL:=zh (rs_lt HRS.out);obtain⟨R,hR⟩:∃n,w.heap.size=n:=⟨_,rfl⟩
   have HG:=zh hR;generalize w.alloc (.cells #[.string ⟨#[]⟩,.string ⟨#[]⟩,.int .i64 0,.slice none 0 0,.slice none 0 0,.int .u64 0,.slice none 0 0,.slice none 0 0,.string ⟨#[]⟩] 28)=w1 at HRS HB HRL⊢;rw[hR]at HRS HRL⊢;clear hR
   have hgs:∀g∈R::gs,g<w1.heap.size:=fun g h=>by
    rcases List.mem_cons.1 h with h|h
    ·rw[h];exact HRL.out
    ·exact Nat.lt_of_lt_of_le (hg g h) HB.out.size
   with_reducible refine(HRD.out (R::gs) _ hgs).mono ?_
   rintro e w2 ⟨⟨v,hv,rfl⟩,hb2⟩;obtain⟨o,f,sig,ep,A,c,rs,B,d,ws,ver,V,cv,vs,K,ck,ks,rfl,hm,_⟩:=isM_all hv;have HB:=zh (Bel.call HB.out hb2);have HRS:=zh (HRS.out.call hb2);have HV:=zh hv;have HME:=zh hm;clear hb2 hgs hv hm;dsimp only;go_wp2_with fail;have hbA:=al w2 (.cells #[.string o,.string f,.int .i64 ep,.slice A rs.length c,.slice B ws.length d,.int .u64 (ver:Int),.slice V vs.length cv,.slice K ks.length ck,.string sig] 28);have HMX:=zh (mx_alloc w2 o f ep A rs.length c B ws.length d ver V vs.length cv K ks.length ck sig 28);obtain⟨gm,hgm⟩:∃n,w2.heap.size=n:=⟨_,rfl⟩
   generalize w2.alloc (.cells #[.string o,.string f,.int .i64 ep,.slice A rs.length c,.slice B ws.length d,.int .u64 (ver:Int),.slice V vs.length cv,.slice K ks.length ck,.string sig] 28)=w3 at hbA HMX⊢;have HB:=zh (Bel.call HB.out hbA);have HRS:=zh (HRS.out.call hbA);have HV:=zh (HV.out.below hbA zl);rw[hgm]at HMX⊢;clear hbA hgm;with_reducible refine(cright_at _ m _ ⟨_,HV.out⟩ HF.out).mono ?_
   rw[hrr];rintro e w4 ⟨rfl,hb4⟩;have HB:=zh (Bel.call HB.out hb4);have HRS:=zh (HRS.out.call hb4);have HV:=zh (HV.out.below hb4 zl);have HMX:=zh (HMX.out.call hb4);clear hb4;dsimp only;obtain⟨⟨⟨r0,r1,r2,r3,r4,r5,r6,r7,r8⟩,_⟩,⟨f0,f1,f2,f3,f4,f5,f6,f7,f8⟩⟩:=HRS.out;obtain⟨⟨m0,m1,m2,m3,m4,m5,m6,m7,m8⟩,_⟩:=HMX.out;go_wp2;refine bodyPost_ret (v:=.tuple #[.agg #[.string ⟨#[]⟩,.string ⟨#[]⟩,.int .i64 0,.slice none 0 0,.slice none 0 0,.int .u64 0,.slice none 0 0,.slice none 0 0,.string ⟨#[]⟩],.int .i64 2]) (by simp[results,Tryz.results46,go_sem,r0,r1,r2,r3,r4,r5,r6,r7,r8]) rfl ?_;exact⟨⟨_,isM_zero _ _,rfl⟩,set9 HB.out (by rw[HG.out];exact Nat.le_refl _)⟩
  rw[if_pos hr];have hrr:decide (MR m)=true:=decide_eq_true hr;clear hr;go_enter Tryz.func46,Tryz.ntmps46;go_wp2_with fail;have HRS:=zh (rs_alloc w 28);have HB:=zh (al w (.cells #[.string ⟨#[]⟩,.string ⟨#[]⟩,.int .i64 0,.slice none 0 0,.slice none 0 0,.int .u64 0,.slice none 0 0,.slice none 0 0,.string ⟨#[]⟩] 28));have HRL:=zh (rs_lt HRS.out);obtain⟨R,hR⟩:∃n,w.heap.size=n:=⟨_,rfl⟩
  have HG:=zh hR;generalize w.alloc (.cells #[.string ⟨#[]⟩,.string ⟨#[]⟩,.int .i64 0,.slice none 0 0,.slice none 0 0,.int .u64 0,.slice none 0 0,.slice none 0 0,.string ⟨#[]⟩] 28)=w1 at HRS HB HRL⊢;rw[hR]at HRS HRL⊢;clear hR
  have hgs:∀g∈R::gs,g<w1.heap.size:=fun g h=>by
   rcases List.mem_cons.1 h with h|h
   ·rw[h];exact HRL.out
   ·exact Nat.lt_of_lt_of_le (hg g h) HB.out.size
  with_reducible refine(HRD.out (R::gs) _ hgs).mono ?_
  rintro e w2 ⟨⟨v,hv,rfl⟩,hb2⟩;obtain⟨o,f,sig,ep,A,c,rs,B,d,ws,ver,V,cv,vs,K,ck,ks,rfl,hm,_⟩:=isM_all hv;have HB:=zh (Bel.call HB.out hb2);have HRS:=zh (HRS.out.call hb2);have HV:=zh hv;have HME:=zh hm;clear hb2 hgs hv hm;dsimp only;go_wp2_with fail;have hbA:=al w2 (.cells #[.string o,.string f,.int .i64 ep,.slice A rs.length c,.slice B ws.length d,.int .u64 (ver:Int),.slice V vs.length cv,.slice K ks.length ck,.string sig] 28);have HMX:=zh (mx_alloc w2 o f ep A rs.length c B ws.length d ver V vs.length cv K ks.length ck sig 28);obtain⟨gm,hgm⟩:∃n,w2.heap.size=n:=⟨_,rfl⟩
  generalize w2.alloc (.cells #[.string o,.string f,.int .i64 ep,.slice A rs.length c,.slice B ws.length d,.int .u64 (ver:Int),.slice V vs.length cv,.slice K ks.length ck,.string sig] 28)=w3 at hbA HMX⊢;have HB:=zh (Bel.call HB.out hbA);have HRS:=zh (HRS.out.call hbA);have HV:=zh (HV.out.below hbA zl);rw[hgm]at HMX⊢;clear hbA hgm;with_reducible refine(cright_at _ m _ ⟨_,HV.out⟩ HF.out).mono ?_
  rw[hrr];rintro e w4 ⟨rfl,hb4⟩;have HB:=zh (Bel.call HB.out hb4);have HRS:=zh (HRS.out.call hb4);have HV:=zh (HV.out.below hb4 zl);have HMX:=zh (HMX.out.call hb4);clear hb4;dsimp only;obtain⟨⟨⟨r0,r1,r2,r3,r4,r5,r6,r7,r8⟩,_⟩,⟨f0,f1,f2,f3,f4,f5,f6,f7,f8⟩⟩:=HRS.out;obtain⟨⟨m0,m1,m2,m3,m4,m5,m6,m7,m8⟩,_⟩:=HMX.out;go_wp2;refine bodyPost_ret (v:=.tuple #[.agg #[.string o,.string f,.int .i64 ep,.slice A rs.length c,.slice B ws.length d,.int .u64 (ver:Int),.slice V vs.length cv,.slice K ks.length ck,.string sig],.int .i64 0]) (by simp[results,Tryz.results46,go_sem,r0,r1,r2,r3,r4,r5,r6,r7,r8]) rfl ?_;exact⟨⟨_,(isM_set9 (List.mem_cons_self ..) HV.out).mono fun b _ h hm=>h (List.mem_cons_of_mem _ hm),rfl⟩,set9 HB.out (by rw[HG.out];exact Nat.le_refl _)⟩
end Go.Proofs.YtmihiknebelkbaaGreat.Mta
