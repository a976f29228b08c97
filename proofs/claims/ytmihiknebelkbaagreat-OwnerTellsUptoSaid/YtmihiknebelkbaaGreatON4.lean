/-
  N2, N3, N4. By an AI agent.
-/
import Derived.Test.YtmihiknebelkbaaGreatOZ
import Derived.Test.YtmihiknebelkbaaGreatON1
set_option maxHeartbeats 2000000
namespace Go.Proofs.YtmihiknebelkbaaGreat
open Go.RowKit Txt
set_option maxRecDepth 1000000 in
theorem first_2 (s:ByteArray) (w:World) (hs:s.size≤2000000) (h0:0<s.size) (hlo:192≤(s[0]'h0).toNat) (hhi:(s[0]'h0).toNat<224):
 Calls Tryz.prog 98 #[.string s] w fun e w'=>Firsts s e∧w=w':=by
 have hne:=not_empty h0;have HNE:=zh (list_ne h0);have hb0:=byteAt_is s h0;have HD:=zh (dec_bytes s);have HB0:=zh hb0;clear hb0;by_cases hsz:s.size<2
 ·have hbad:Lib.decodeL s.data.toList=(65533,1):=by
   have e0:=HB0.out;rw[HD.out];unfold Lib.decodeN;repeat' split
   all_goals first|(exfalso;omega)|rfl
  have HBAD:=zh hbad;clear hbad;go_enter Tryz.func98,Tryz.ntmps98;go_wp2_with fail;go_ret2;exact⟨firsts_bad HBAD.out,rfl⟩
 ·have hsz':2≤s.size:=by omega
  clear hsz;obtain⟨c,hc⟩:∃c:Nat,(s[0]'h0).toNat=c+192:=⟨(s[0]'h0).toNat-192,by omega⟩
  have hc32:c<32:=by omega
  have HC:=zh hc;have hac:=accN_le c (byteAt s) hc32 (byteAt_lt s);have HAC:=zh hac;have hci:(↑(s[0]'h0).toNat-192:Int) = ↑c:=by omega
  have HCI:=zh hci;clear hc hac hci;go_enter Tryz.func98,Tryz.ntmps98;go_wp2_with fail;go_loop [5,7] (fun r i=>∃k:Nat,k+1≤2∧i = .int .i64 ((k+1:Nat):Int)∧r = .int .i32 (accN c (byteAt s) k)∧∀m,1≤m→m≤k→128≤byteAt s m∧byteAt s m≤191) (fun _ i=>2-(intOf i).toNat);case atStart=>exact⟨0,by omega,rfl,by rw[HCI.out];rfl,fun m h1 h2=>by omega⟩
  case round=>
   obtain⟨k,hk,rfl,rfl,hall⟩:=hrel;have HALL:=zh hall
   have ha0:accN c (byteAt s) k≤20000000:=by
    have:=HAC.out;have e0:accN c (byteAt s) 0=c:=rfl;rcases(show k=0∨k=1∨k=2∨k=3 by omega)with rfl|rfl|rfl|rfl<;>omega
   clear hall;by_cases hlt:k+1<2
   ·have hks:k+1<s.size:=by omega
    have HBK:=zh (byteAt_is s hks);have k0:(0:Int)≤↑k+1:=by omega
    have k1:(↑k+1:Int) < ↑s.size:=by omega
    by_cases hcont:128≤(s[k+1]'hks).toNat∧(s[k+1]'hks).toNat≤191
    ·obtain⟨hc1,hc2⟩:=hcont
     go_wp2_with fail;refine⟨⟨_,_,_,_,⟨k+1,by omega,?_,?_,fun m h1 h2=>?_⟩,rfl,rfl,rfl,rfl⟩,by simp[intOf];omega⟩
     ·simp
     ·have e:=HBK.out
      have e2:accN c (byteAt s) (k+1)=64*accN c (byteAt s) k+(byteAt s (k+1)-128):=rfl;rw[e2,←e];congr 1;omega
     ·by_cases hm:m≤k
      ·exact HALL.out m h1 hm
      ·obtain rfl:m=k+1:=by omega
       rw[←HBK.out];exact⟨hc1,hc2⟩
    ·have hbad:Lib.decodeL s.data.toList=(65533,1):=by
      have e0:=HB0.out;have e1:=HBK.out;rw[e1]at hcont;have a1:=HALL.out 1 zl;have a2:=HALL.out 2 (by omega);rw[HD.out];unfold Lib.decodeN;rcases(show k=0∨k=1∨k=2 by omega)with rfl|rfl|rfl
      all_goals first|(exfalso;omega)|skip
      all_goals try simp only[Nat.zero_add]at hcont
      all_goals (repeat' split)
      all_goals first|(exfalso;omega)|rfl
     have HBAD:=zh hbad;clear hbad;by_cases hlow:(s[k+1]'hks).toNat<128
     ·clear hcont
      go_wp2_with fail;go_ret2;exact⟨firsts_bad HBAD.out,rfl⟩
     ·have h191:191<(s[k+1]'hks).toNat:=by omega
      have h128:128≤(s[k+1]'hks).toNat:=by omega
      clear hcont hlow;go_wp2_with fail;go_ret2;exact⟨firsts_bad HBAD.out,rfl⟩
   ·obtain rfl:k=1:=by omega
    clear hlt hk;have hR:accN c (byteAt s) 1<20000001:=by omega
    obtain⟨R,hRe⟩:∃R,accN c (byteAt s) 1=R:=⟨_,rfl⟩
    rw[hRe]at ha0 hR;have HRE:=zh hRe
    have hdec:(R<128∨¬(R<55296∨(57343<R∧R≤1114111))→Lib.decodeL s.data.toList=(65533,1))∧(128≤R→(R<55296∨(57343<R∧R≤1114111))→Lib.decodeL s.data.toList=(R,2)):=by
     have e0:=HB0.out;have e1:=HC.out;have a1:=HALL.out 1;have a2:=HALL.out 2;have a3:=HALL.out 3;have b1:=byteAt_lt s 1;have b2:=byteAt_lt s 2;have b3:=byteAt_lt s 3;have f1:accN c (byteAt s) 1=64*c+(byteAt s 1-128):=rfl;have f2:accN c (byteAt s) 2=64*accN c (byteAt s) 1+(byteAt s 2-128):=rfl;have f3:accN c (byteAt s) 3=64*accN c (byteAt s) 2+(byteAt s 3-128):=rfl;rw[HD.out];unfold Lib.decodeN;constructor
     ·intro h
      repeat' split
      all_goals first|rfl|(exfalso;omega)
     ·intro h1 h2
      repeat' split
      all_goals first|(exfalso;omega)|(apply Prod.ext<;>simp only<;>omega)
    have HDEC:=zh hdec;clear hdec hRe;by_cases hleast:R<128
    ·have hli:(R:Int)<128:=by omega
     rw[show((accN c (byteAt s) 1:Nat):Int)=(R:Int)from by rw[HRE.out]];go_wp2_with fail;go_ret2;exact⟨firsts_bad (HDEC.out.1 (.inl hleast)),rfl⟩
    ·have hli:(128:Int)≤(R:Int):=by omega
     rw[show((accN c (byteAt s) 1:Nat):Int)=(R:Int)from by rw[HRE.out]];cases hv:Lib.validRune (R:Int)with
     | true=>
      have HV:=zh (of_decide_eq_true hv);have HVB:=zh hv;clear hv;go_wp2_with fail;refine(refvalid_call _ true HVB.out _).mono ?_;rintro e w1 ⟨rfl,rfl⟩;go_wp2_with fail;go_ret2;exact⟨firsts_ok HNE.out (HDEC.out.2 (by omega) (by have:=HV.out;omega)) (by simp),rfl⟩
     | false=>
      have HV:=zh (of_decide_eq_false hv);have HVB:=zh hv;clear hv;go_wp2_with fail;refine(refvalid_call _ false HVB.out _).mono ?_;rintro e w1 ⟨rfl,rfl⟩;go_wp2_with fail;go_ret2;exact⟨firsts_bad (HDEC.out.1 (.inr (by have:=HV.out;omega))),rfl⟩
end Go.Proofs.YtmihiknebelkbaaGreat
namespace Go.Proofs.YtmihiknebelkbaaGreat
open Go.RowKit Txt
set_option maxRecDepth 1000000 in
theorem first_3 (s:ByteArray) (w:World) (hs:s.size≤2000000) (h0:0<s.size) (hlo:224≤(s[0]'h0).toNat) (hhi:(s[0]'h0).toNat<240):
 Calls Tryz.prog 98 #[.string s] w fun e w'=>Firsts s e∧w=w':=by
 have hne:=not_empty h0;have HNE:=zh (list_ne h0);have hb0:=byteAt_is s h0;have HD:=zh (dec_bytes s);have HB0:=zh hb0;clear hb0;by_cases hsz:s.size<3
 ·have hbad:Lib.decodeL s.data.toList=(65533,1):=by
   have e0:=HB0.out;rw[HD.out];unfold Lib.decodeN;repeat' split
   all_goals first|(exfalso;omega)|rfl
  have HBAD:=zh hbad;clear hbad;go_enter Tryz.func98,Tryz.ntmps98;go_wp2_with fail;go_ret2;exact⟨firsts_bad HBAD.out,rfl⟩
 ·have hsz':3≤s.size:=by omega
  clear hsz;obtain⟨c,hc⟩:∃c:Nat,(s[0]'h0).toNat=c+224:=⟨(s[0]'h0).toNat-224,by omega⟩
  have hc32:c<32:=by omega
  have HC:=zh hc;have hac:=accN_le c (byteAt s) hc32 (byteAt_lt s);have HAC:=zh hac;have hci:(↑(s[0]'h0).toNat-224:Int) = ↑c:=by omega
  have HCI:=zh hci;clear hc hac hci;go_enter Tryz.func98,Tryz.ntmps98;go_wp2_with fail;go_loop [5,7] (fun r i=>∃k:Nat,k+1≤3∧i = .int .i64 ((k+1:Nat):Int)∧r = .int .i32 (accN c (byteAt s) k)∧∀m,1≤m→m≤k→128≤byteAt s m∧byteAt s m≤191) (fun _ i=>3-(intOf i).toNat);case atStart=>exact⟨0,by omega,rfl,by rw[HCI.out];rfl,fun m h1 h2=>by omega⟩
  case round=>
   obtain⟨k,hk,rfl,rfl,hall⟩:=hrel;have HALL:=zh hall
   have ha0:accN c (byteAt s) k≤20000000:=by
    have:=HAC.out;have e0:accN c (byteAt s) 0=c:=rfl;rcases(show k=0∨k=1∨k=2∨k=3 by omega)with rfl|rfl|rfl|rfl<;>omega
   clear hall;by_cases hlt:k+1<3
   ·have hks:k+1<s.size:=by omega
    have HBK:=zh (byteAt_is s hks);have k0:(0:Int)≤↑k+1:=by omega
    have k1:(↑k+1:Int) < ↑s.size:=by omega
    by_cases hcont:128≤(s[k+1]'hks).toNat∧(s[k+1]'hks).toNat≤191
    ·obtain⟨hc1,hc2⟩:=hcont
     go_wp2_with fail;refine⟨⟨_,_,_,_,⟨k+1,by omega,?_,?_,fun m h1 h2=>?_⟩,rfl,rfl,rfl,rfl⟩,by simp[intOf];omega⟩
     ·simp
     ·have e:=HBK.out
      have e2:accN c (byteAt s) (k+1)=64*accN c (byteAt s) k+(byteAt s (k+1)-128):=rfl;rw[e2,←e];congr 1;omega
     ·by_cases hm:m≤k
      ·exact HALL.out m h1 hm
      ·obtain rfl:m=k+1:=by omega
       rw[←HBK.out];exact⟨hc1,hc2⟩
    ·have hbad:Lib.decodeL s.data.toList=(65533,1):=by
      have e0:=HB0.out;have e1:=HBK.out;rw[e1]at hcont;have a1:=HALL.out 1 zl;have a2:=HALL.out 2 (by omega);rw[HD.out];unfold Lib.decodeN;rcases(show k=0∨k=1∨k=2 by omega)with rfl|rfl|rfl
      all_goals first|(exfalso;omega)|skip
      all_goals try simp only[Nat.zero_add,Nat.reduceAdd]at hcont
      all_goals (repeat' split)
      all_goals first|(exfalso;omega)|rfl
     have HBAD:=zh hbad;clear hbad;by_cases hlow:(s[k+1]'hks).toNat<128
     ·clear hcont
      go_wp2_with fail;go_ret2;exact⟨firsts_bad HBAD.out,rfl⟩
     ·have h191:191<(s[k+1]'hks).toNat:=by omega
      have h128:128≤(s[k+1]'hks).toNat:=by omega
      clear hcont hlow;go_wp2_with fail;go_ret2;exact⟨firsts_bad HBAD.out,rfl⟩
   ·obtain rfl:k=2:=by omega
    clear hlt hk;have hR:accN c (byteAt s) 2<20000001:=by omega
    obtain⟨R,hRe⟩:∃R,accN c (byteAt s) 2=R:=⟨_,rfl⟩
    rw[hRe]at ha0 hR;have HRE:=zh hRe
    have hdec:(R<2048∨¬(R<55296∨(57343<R∧R≤1114111))→Lib.decodeL s.data.toList=(65533,1))∧(2048≤R→(R<55296∨(57343<R∧R≤1114111))→Lib.decodeL s.data.toList=(R,3)):=by
     have e0:=HB0.out;have e1:=HC.out;have a1:=HALL.out 1;have a2:=HALL.out 2;have a3:=HALL.out 3;have b1:=byteAt_lt s 1;have b2:=byteAt_lt s 2;have b3:=byteAt_lt s 3;have f1:accN c (byteAt s) 1=64*c+(byteAt s 1-128):=rfl;have f2:accN c (byteAt s) 2=64*accN c (byteAt s) 1+(byteAt s 2-128):=rfl;have f3:accN c (byteAt s) 3=64*accN c (byteAt s) 2+(byteAt s 3-128):=rfl;rw[HD.out];unfold Lib.decodeN;constructor
     ·intro h
      repeat' split
      all_goals first|rfl|(exfalso;omega)
     ·intro h1 h2
      repeat' split
      all_goals first|(exfalso;omega)|(apply Prod.ext<;>simp only<;>omega)
    have HDEC:=zh hdec;clear hdec hRe;by_cases hleast:R<2048
    ·have hli:(R:Int)<2048:=by omega
     rw[show((accN c (byteAt s) 2:Nat):Int)=(R:Int)from by rw[HRE.out]];go_wp2_with fail;go_ret2;exact⟨firsts_bad (HDEC.out.1 (.inl hleast)),rfl⟩
    ·have hli:(2048:Int)≤(R:Int):=by omega
     rw[show((accN c (byteAt s) 2:Nat):Int)=(R:Int)from by rw[HRE.out]];cases hv:Lib.validRune (R:Int)with
     | true=>
      have HV:=zh (of_decide_eq_true hv);have HVB:=zh hv;clear hv;go_wp2_with fail;refine(refvalid_call _ true HVB.out _).mono ?_;rintro e w1 ⟨rfl,rfl⟩;go_wp2_with fail;go_ret2;exact⟨firsts_ok HNE.out (HDEC.out.2 (by omega) (by have:=HV.out;omega)) (by simp),rfl⟩
     | false=>
      have HV:=zh (of_decide_eq_false hv);have HVB:=zh hv;clear hv;go_wp2_with fail;refine(refvalid_call _ false HVB.out _).mono ?_;rintro e w1 ⟨rfl,rfl⟩;go_wp2_with fail;go_ret2;exact⟨firsts_bad (HDEC.out.1 (.inr (by have:=HV.out;omega))),rfl⟩
end Go.Proofs.YtmihiknebelkbaaGreat
namespace Go.Proofs.YtmihiknebelkbaaGreat
open Go.RowKit Txt
set_option maxRecDepth 1000000 in
theorem first_4 (s:ByteArray) (w:World) (hs:s.size≤2000000) (h0:0<s.size) (hlo:240≤(s[0]'h0).toNat) (hhi:(s[0]'h0).toNat<248):
 Calls Tryz.prog 98 #[.string s] w fun e w'=>Firsts s e∧w=w':=by
 have hne:=not_empty h0;have HNE:=zh (list_ne h0);have hb0:=byteAt_is s h0;have HD:=zh (dec_bytes s);have HB0:=zh hb0;clear hb0;by_cases hsz:s.size<4
 ·have hbad:Lib.decodeL s.data.toList=(65533,1):=by
   have e0:=HB0.out;rw[HD.out];unfold Lib.decodeN;repeat' split
   all_goals first|(exfalso;omega)|rfl
  have HBAD:=zh hbad;clear hbad;go_enter Tryz.func98,Tryz.ntmps98;go_wp2_with fail;go_ret2;exact⟨firsts_bad HBAD.out,rfl⟩
 ·have hsz':4≤s.size:=by omega
  clear hsz;obtain⟨c,hc⟩:∃c:Nat,(s[0]'h0).toNat=c+240:=⟨(s[0]'h0).toNat-240,by omega⟩
  have hc32:c<32:=by omega
  have HC:=zh hc;have hac:=accN_le c (byteAt s) hc32 (byteAt_lt s);have HAC:=zh hac;have hci:(↑(s[0]'h0).toNat-240:Int) = ↑c:=by omega
  have HCI:=zh hci;clear hc hac hci;go_enter Tryz.func98,Tryz.ntmps98;go_wp2_with fail;go_loop [5,7] (fun r i=>∃k:Nat,k+1≤4∧i = .int .i64 ((k+1:Nat):Int)∧r = .int .i32 (accN c (byteAt s) k)∧∀m,1≤m→m≤k→128≤byteAt s m∧byteAt s m≤191) (fun _ i=>4-(intOf i).toNat);case atStart=>exact⟨0,by omega,rfl,by rw[HCI.out];rfl,fun m h1 h2=>by omega⟩
  case round=>
   obtain⟨k,hk,rfl,rfl,hall⟩:=hrel;have HALL:=zh hall
   have ha0:accN c (byteAt s) k≤20000000:=by
    have:=HAC.out;have e0:accN c (byteAt s) 0=c:=rfl;rcases(show k=0∨k=1∨k=2∨k=3 by omega)with rfl|rfl|rfl|rfl<;>omega
   clear hall;by_cases hlt:k+1<4
   ·have hks:k+1<s.size:=by omega
    have HBK:=zh (byteAt_is s hks);have k0:(0:Int)≤↑k+1:=by omega
    have k1:(↑k+1:Int) < ↑s.size:=by omega
    by_cases hcont:128≤(s[k+1]'hks).toNat∧(s[k+1]'hks).toNat≤191
    ·obtain⟨hc1,hc2⟩:=hcont
     go_wp2_with fail;refine⟨⟨_,_,_,_,⟨k+1,by omega,?_,?_,fun m h1 h2=>?_⟩,rfl,rfl,rfl,rfl⟩,by simp[intOf];omega⟩
     ·simp
     ·have e:=HBK.out
      have e2:accN c (byteAt s) (k+1)=64*accN c (byteAt s) k+(byteAt s (k+1)-128):=rfl;rw[e2,←e];congr 1;omega
     ·by_cases hm:m≤k
      ·exact HALL.out m h1 hm
      ·obtain rfl:m=k+1:=by omega
       rw[←HBK.out];exact⟨hc1,hc2⟩
    ·have hbad:Lib.decodeL s.data.toList=(65533,1):=by
      have e0:=HB0.out;have e1:=HBK.out;rw[e1]at hcont;have a1:=HALL.out 1 zl;have a2:=HALL.out 2 (by omega);rw[HD.out];unfold Lib.decodeN;rcases(show k=0∨k=1∨k=2 by omega)with rfl|rfl|rfl
      all_goals first|(exfalso;omega)|skip
      all_goals try simp only[Nat.zero_add,Nat.reduceAdd]at hcont
      all_goals (repeat' split)
      all_goals first|(exfalso;omega)|rfl
     have HBAD:=zh hbad;clear hbad;by_cases hlow:(s[k+1]'hks).toNat<128
     ·clear hcont
      go_wp2_with fail;go_ret2;exact⟨firsts_bad HBAD.out,rfl⟩
     ·have h191:191<(s[k+1]'hks).toNat:=by omega
      have h128:128≤(s[k+1]'hks).toNat:=by omega
      clear hcont hlow;go_wp2_with fail;go_ret2;exact⟨firsts_bad HBAD.out,rfl⟩
   ·obtain rfl:k=3:=by omega
    clear hlt hk;have hR:accN c (byteAt s) 3<20000001:=by omega
    obtain⟨R,hRe⟩:∃R,accN c (byteAt s) 3=R:=⟨_,rfl⟩
    rw[hRe]at ha0 hR;have HRE:=zh hRe
    have hdec:(R<65536∨¬(R<55296∨(57343<R∧R≤1114111))→Lib.decodeL s.data.toList=(65533,1))∧(65536≤R→(R<55296∨(57343<R∧R≤1114111))→Lib.decodeL s.data.toList=(R,4)):=by
     have e0:=HB0.out;have e1:=HC.out;have a1:=HALL.out 1;have a2:=HALL.out 2;have a3:=HALL.out 3;have b1:=byteAt_lt s 1;have b2:=byteAt_lt s 2;have b3:=byteAt_lt s 3;have f1:accN c (byteAt s) 1=64*c+(byteAt s 1-128):=rfl;have f2:accN c (byteAt s) 2=64*accN c (byteAt s) 1+(byteAt s 2-128):=rfl;have f3:accN c (byteAt s) 3=64*accN c (byteAt s) 2+(byteAt s 3-128):=rfl;rw[HD.out];unfold Lib.decodeN;constructor
     ·intro h
      repeat' split
      all_goals first|rfl|(exfalso;omega)
     ·intro h1 h2
      repeat' split
      all_goals first|(exfalso;omega)|(apply Prod.ext<;>simp only<;>omega)
    have HDEC:=zh hdec;clear hdec hRe;by_cases hleast:R<65536
    ·have hli:(R:Int)<65536:=by omega
     rw[show((accN c (byteAt s) 3:Nat):Int)=(R:Int)from by rw[HRE.out]];go_wp2_with fail;go_ret2;exact⟨firsts_bad (HDEC.out.1 (.inl hleast)),rfl⟩
    ·have hli:(65536:Int)≤(R:Int):=by omega
     rw[show((accN c (byteAt s) 3:Nat):Int)=(R:Int)from by rw[HRE.out]];cases hv:Lib.validRune (R:Int)with
     | true=>
      have HV:=zh (of_decide_eq_true hv);have HVB:=zh hv;clear hv;go_wp2_with fail;refine(refvalid_call _ true HVB.out _).mono ?_;rintro e w1 ⟨rfl,rfl⟩;go_wp2_with fail;go_ret2;exact⟨firsts_ok HNE.out (HDEC.out.2 (by omega) (by have:=HV.out;omega)) (by simp),rfl⟩
     | false=>
      have HV:=zh (of_decide_eq_false hv);have HVB:=zh hv;clear hv;go_wp2_with fail;refine(refvalid_call _ false HVB.out _).mono ?_;rintro e w1 ⟨rfl,rfl⟩;go_wp2_with fail;go_ret2;exact⟨firsts_bad (HDEC.out.1 (.inr (by have:=HV.out;omega))),rfl⟩
end Go.Proofs.YtmihiknebelkbaaGreat
