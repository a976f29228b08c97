/-
  W1. By an AI agent.
-/
import Derived.Test.YtmihiknebelkbaaGreatOZ
import Derived.Shelf.Strings.OnBuilder
import Derived.Test.YtmihiknebelkbaaGreatProg
import Derived.Test.YtmihiknebelkbaaGreatOW0
set_option maxHeartbeats 4000000
namespace Go.Proofs
open Go.Shelf
def Tryz.lays156_ren:Go.Shelf.Ren:=⟨fun|156=>66|165=>85|166=>86|169=>87|240=>100|241=>101|276=>112|277=>113|n=>n,fun|31=>22|9=>9|3=>3|4=>4|0=>0|20=>20|72=>125|76=>129|70=>123|37=>87|75=>128|127=>144|164=>155|5=>5|80=>131|n=>n,fun|n=>n⟩
theorem Tryz.lays156:Go.Proofs.Lays.n156 Tryz.prog Tryz.lays156_ren:={
 mixed:=by kernel_rfl
 f156:=Tryz.func66.trans (congrArg some (by kernel_rfl))
 f165:=Tryz.func85.trans (congrArg some (by kernel_rfl))
 f166:=Tryz.func86.trans (congrArg some (by kernel_rfl))
 f169:=Tryz.func87.trans (congrArg some (by kernel_rfl))
 f240:=Tryz.func100.trans (congrArg some (by kernel_rfl))
 f241:=Tryz.func101.trans (congrArg some (by kernel_rfl))
 f276:=Tryz.func112.trans (congrArg some (by kernel_rfl))
 f277:=Tryz.func113.trans (congrArg some (by kernel_rfl))
 t0:=Tryz.underlying0
 a0:=Tryz.isAgg0
 z0:=Tryz.sizeOf0
 v0:=Tryz.zeroValue0
 t3:=Tryz.underlying3
 a3:=Tryz.isAgg3
 z3:=Tryz.sizeOf3
 v3:=Tryz.zeroValue3
 t4:=Tryz.underlying4
 a4:=Tryz.isAgg4
 z4:=Tryz.sizeOf4
 v4:=Tryz.zeroValue4
 t9:=Tryz.underlying9
 a9:=Tryz.isAgg9
 z9:=Tryz.sizeOf9
 v9:=Tryz.zeroValue9
 t20:=Tryz.underlying20
 a20:=Tryz.isAgg20
 z20:=Tryz.sizeOf20
 v20:=Tryz.zeroValue20
 t31:=Tryz.underlying22
 a31:=Tryz.isAgg22
 z31:=Tryz.sizeOf22
 v31:=Tryz.zeroValue22
 t37:=Tryz.underlying87
 a37:=Tryz.isAgg87
 z37:=Tryz.sizeOf87
 v37:=Tryz.zeroValue87
 t70:=Tryz.underlying123
 a70:=Tryz.isAgg123
 z70:=Tryz.sizeOf123
 v70:=Tryz.zeroValue123
 t72:=Tryz.underlying125
 a72:=Tryz.isAgg125
 z72:=Tryz.sizeOf125
 v72:=Tryz.zeroValue125
 t75:=Tryz.underlying128
 a75:=Tryz.isAgg128
 z75:=Tryz.sizeOf128
 v75:=Tryz.zeroValue128
 t76:=Tryz.underlying129
 a76:=Tryz.isAgg129
 z76:=Tryz.sizeOf129
 v76:=Tryz.zeroValue129
 t127:=Tryz.underlying144
 a127:=Tryz.isAgg144
 z127:=Tryz.sizeOf144
 v127:=Tryz.zeroValue144
 t164:=Tryz.underlying155
 a164:=Tryz.isAgg155
 z164:=Tryz.sizeOf155
 v164:=Tryz.zeroValue155 }
theorem Tryz.Builder_Extra_156:Builder.Extra Tryz.prog Tryz.lays156_ren:={
 sizeBuilder:=by kernel_rfl
 liesBuilder:=by kernel_rfl
 t5:=Tryz.underlying5
 a5:=Tryz.isAgg5
 z5:=Tryz.sizeOf5
 v5:=Tryz.zeroValue5
 infoByte:=by kernel_rfl
 cellsByte:=by kernel_rfl
 sizeByte:=by kernel_rfl
 neB5:=by decide }
open Go.RowKit in
theorem Tryz.strings_Join_none (a:Option Addr) (c:Nat) (sep:ByteArray) (w:World):
 Calls Tryz.prog 66 #[.slice a 0 c,.string sep] w fun e w'=>e = .returned (.string ⟨#[]⟩)∧w'=w:=Any.strings_Join_none Tryz.lays156 Tryz.Builder_Extra_156 a c sep w
open Go.RowKit in
theorem Tryz.strings_Join (bk o c:Nat) (xs:List ByteArray) (sep:ByteArray) (w:World) (hcells:∀(j:Nat) x,xs[j]? = some x→w.cell? ⟨bk,o+j,none⟩=some (.string x)) (hbk:bk<w.heap.size) (hN:xs.length≤140737488355328) (hcap:xs.length≤c) (hlen:(Lib.join (xs.map (·.data.toList)) sep.data.toList).length≤140737488355328):
 Calls Tryz.prog 66 #[.slice (some ⟨bk,o,none⟩) xs.length c,.string sep] w fun e w'=>e = .returned (.string ⟨(Lib.join (xs.map (·.data.toList)) sep.data.toList).toArray⟩)∧Below w.heap.size w w':=Any.strings_Join Tryz.lays156 Tryz.Builder_Extra_156 bk o c xs sep w hcells hbk hN hcap hlen
end Go.Proofs
namespace Go.Proofs.YtmihiknebelkbaaGreat.Wire
open Go.RowKit
set_option maxRecDepth 1000000 in
theorem take_any (s:ByteArray) (w:World) (hs:s.size≤140737488355328):
    Calls Tryz.prog 48 #[.string s] w fun e w'=>Tk (tk s.data.toList) e∧∃k,w'=w.drewN k:=by
  by_cases h0:0<s.size
  · have he:s.toList.isEmpty=false:=by
      rw[Lib.toList_data,take_hd h0];rfl
    have hx0:(0:Int)<(s.size:Int):=by omega
    have hx1:(1:Int)≤(s.size:Int):=by omega
    have hsz:(s.extract 1 s.size).size=s.size-1:=by rw[Lib.size_eq,extract_drop,List.length_drop,←Lib.size_eq]
    have HZ:=zh hsz
    obtain⟨t,ht⟩:∃t,(s.extract 1 s.size).data.toList=t:=⟨_,rfl⟩
    have hl:s.data.toList=s[0]::t:=by rw[take_hd h0,ht]
    have htl:t.length=s.size-1:=by rw[←ht,←Lib.size_eq,hsz]
    have HL:=zh hl
    have HT:=zh ht
    have HTL:=zh htl
    clear hsz ht hl htl
    obtain⟨b,hb⟩:∃b:Nat,(s[0]'h0).toNat=b:=⟨_,rfl⟩
    have HB:=zh hb
    have hb1:(b:Int)<256:=by have:=u8_lt (s[0]'h0);omega
    go_enter Tryz.func48,Tryz.ntmps48
    go_wp2
    go_quiet (fail)
    go_wp2
    · rename_i hh
      go_ret3
      refine⟨⟨⟨#[]⟩,?_,?_⟩,nq,rfl⟩<;>rw[HL.out,tk_no HB.out (by have:=HTL.out;omega)]<;>rfl
    · rename_i hh hlt hz
      go_ret3
      have hg:((s.extract 1 s.size)[0]'(by rw[HZ.out];omega))=0:=u8_zero.2 (by have:=beq_iff_eq.1 hz;omega)
      refine⟨⟨⟨#[]⟩,?_,?_⟩,nq,rfl⟩<;>rw[HL.out,tk_no HB.out (.inr (.inr ⟨by omega,by rw[←HT.out,head_get (by rw[HZ.out];omega),hg]⟩))]<;>rfl
    rotate_left 2
    · rename_i hh
      go_ret3
      refine⟨⟨⟨#[]⟩,?_,?_⟩,nq,rfl⟩<;>rw[HL.out,tk_no HB.out (.inl (by omega))]<;>rfl
    all_goals
      have h3:b=0∨t.head?≠some 0:=by
        first
        | exact .inl (by omega)
        | (have hlt:0<s.size-1:=by assumption
           have hz:((((s.extract 1 s.size)[0]'(by rw[HZ.out];exact hlt)).toNat:Int)==0)=false:=by assumption
           refine .inr fun h=>?_
           rw[←HT.out,head_get (by rw[HZ.out];exact hlt)]at h
           have h:=Option.some.inj h
           have:=u8_zero.1 h
           rw[this]at hz
           simp at hz)
      have H3:=zh h3
      clear h3
      go_loop [6,31] (fun n i=>∃k:Nat,k≤b∧i = .int .i64 k∧n = .int .u64 (val (t.take k))) (fun _ i=>b-(intOf i).toNat)
      case atStart=>exact⟨0,Nat.zero_le _,rfl,rfl⟩
      case round=>
        obtain⟨k,hk,rfl,rfl⟩:=hrel
        by_cases hlt:k<b
        · have hkl:k<(s.extract 1 s.size).size:=by rw[HZ.out];omega
          have hkt:k<t.length:=by rw[HTL.out];omega
          have hks:(k:Int)<((s.size-1:Nat):Int):=by omega
          have hv:=val_take hkt
          have hvl:val (t.take k)<72057594037927936:=val_lt7 (by rw[List.length_take];omega)
          have hgt:(t[k]'hkt)=((s.extract 1 s.size)[k]'hkl):=by
            have h:=HT.out
            subst h
            rfl
          rw[hgt]at hv
          obtain⟨c,hc⟩:∃c:Nat,((s.extract 1 s.size)[k]'hkl).toNat=c:=⟨_,rfl⟩
          have hc1:c<256:=by have:=u8_lt ((s.extract 1 s.size)[k]'hkl);omega
          obtain⟨v,hvv⟩:∃v:Nat,val (t.take k)=v:=⟨_,rfl⟩
          rw[hvv]at hvl
          rw[hvv,hc]at hv
          have HV:=zh hv
          have HVV:=zh hvv
          rw[hvv]
          clear hv hvv hgt
          have hor:=or_add v c hc1 hvl
          have hwr:IntKind.u64.wrap ((v:Int)*256)=(v:Int)*256:=by rw[IntKind.wrap_u64];omega
          go_wp2
          go_round
          case rel=>exact⟨k+1,by omega,by go_num,by rw[HV.out];go_num⟩
          case measure=>simp[intOf];omega
        · obtain rfl:k=b:=by omega
          have hk0:(0:Int)≤(k:Int):=by omega
          have hk1:(k:Int)≤((s.size-1:Nat):Int):=by omega
          go_wp2
          go_quiet (fail)
          go_wp2
          go_ret3
          rw[HL.out,tk_ok HB.out (by omega) (by rw[HTL.out];omega) H3.out]
          have hd:((s.extract 1 s.size).extract k (s.size-1)).data.toList=t.drop k:=by
            rw[←HT.out]
            have h:=extract_drop (s.extract 1 s.size) k
            rw[HZ.out]at h
            exact h
          exact⟨⟨_,hd,rfl⟩,_,World.drewN_drewN _ _ _⟩
  · have he:s.toList.isEmpty=true:=by
      rw[Lib.toList_data];rw[Lib.size_eq]at h0
      cases h:s.data.toList with
      | nil=>rfl
      | cons a t=>rw[h]at h0;simp at h0
    have hn:s.data.toList = []:=by rw[Lib.toList_data]at he;simpa using he
    have HN:=zh hn
    clear hn
    go_enter Tryz.func48,Tryz.ntmps48
    go_wp2
    go_ret3
    exact⟨⟨⟨#[]⟩,by rw[HN.out];rfl,by rw[HN.out];rfl⟩,0,rfl⟩
set_option maxRecDepth 1000000 in
theorem upTo_any (s:ByteArray) (m:Int) (w:World) (hs:s.size≤140737488355328) (hm:-9223372036854775808≤m∧m≤9223372036854775807):
 Calls Tryz.prog 88 #[.string s,.int .i64 m] w fun e w'=>Tk (upTo s.data.toList m) e∧∃k,w'=w.drewN k:=by
 obtain⟨hm1,hm2⟩:=hm;rcases take_tk (l:=s.data.toList)with⟨h1,h2⟩|⟨n,r,h1,h2,hn⟩
 ·have H1:=zh (upTo_none (m:=m) h1)
  have H2:=zh h2;clear h1 h2;go_enter Tryz.func88,Tryz.ntmps88;go_wp2_with (go_at_call 48;refine(take_any _ _ hs).mono ?_;rw[H2.out];rintro e w' ⟨⟨R,hR,rfl⟩,k,rfl⟩;clear hR;dsimp only);go_ret3;rw[H1.out];exact⟨⟨⟨#[]⟩,rfl,rfl⟩,_,rfl⟩
 ·have HN:=zh hn
  clear hn
  have HM:Hid (max m 0=if m<0 then 0 else m):=by
   show max m 0=_
   split<;>omega
  by_cases hb:max m 0<(n:Int)
  ·have H1:=zh (upTo_big h1 hb)
   have H2:=zh h2;clear h1 h2;by_cases hm0:m<0
   ·have hb':(0:Int)<n:=by omega
    clear hb;go_enter Tryz.func88,Tryz.ntmps88;go_wp2_with (go_at_call 48;refine(take_any _ _ hs).mono ?_;rw[H2.out];rintro e w' ⟨⟨R,hR,rfl⟩,k,rfl⟩;clear hR;dsimp only);go_ret3;rw[H1.out];exact⟨⟨⟨#[]⟩,rfl,rfl⟩,_,rfl⟩
   ·have hb':m<(n:Int):=by omega
    clear hb;go_enter Tryz.func88,Tryz.ntmps88;go_wp2_with (go_at_call 48;refine(take_any _ _ hs).mono ?_;rw[H2.out];rintro e w' ⟨⟨R,hR,rfl⟩,k,rfl⟩;clear hR;dsimp only);go_ret3;rw[H1.out];exact⟨⟨⟨#[]⟩,rfl,rfl⟩,_,rfl⟩
  ·have H1:=zh (upTo_ok h1 hb)
   have H2:=zh h2;clear h1 h2;by_cases hm0:m<0
   ·have hb':(n:Int)≤0:=by omega
    clear hb;go_enter Tryz.func88,Tryz.ntmps88;go_wp2_with (go_at_call 48;refine(take_any _ _ hs).mono ?_;rw[H2.out];rintro e w' ⟨⟨R,hR,rfl⟩,k,rfl⟩;have HR:=zh hR;clear hR;dsimp only);go_ret3;rw[H1.out];exact⟨⟨R,HR.out,rfl⟩,_,rfl⟩
   ·have hb':(n:Int)≤m:=by omega
    clear hb;go_enter Tryz.func88,Tryz.ntmps88;go_wp2_with (go_at_call 48;refine(take_any _ _ hs).mono ?_;rw[H2.out];rintro e w' ⟨⟨R,hR,rfl⟩,k,rfl⟩;have HR:=zh hR;clear hR;dsimp only);go_ret3;rw[H1.out];exact⟨⟨R,HR.out,rfl⟩,_,rfl⟩
set_option maxRecDepth 1000000 in
theorem text_any (s:ByteArray) (m:Int) (w:World) (hs:s.size≤140737488355328) (hm:-9223372036854775808≤m∧m≤9223372036854775807):
 Calls Tryz.prog 89 #[.string s,.int .i64 m] w fun e w'=>Tx (text s.data.toList m) e∧∃k,w'=w.drewN k:=by
 obtain⟨n,r,f,hu⟩:∃n r f,upTo s.data.toList m=(n,r,f):=⟨_,_,_,rfl⟩
 have hf:=upTo_err hu;have HU:=zh hu;rcases text_upTo hu with⟨h0,h1⟩|⟨rfl,h1⟩
 ·have H1:=zh h1
  have hne:(f != 0)=true:=by simpa using h0
  clear h1 hu hf h0;go_enter Tryz.func89,Tryz.ntmps89;go_wp2_with (go_at_call 88;refine(upTo_any _ _ _ hs hm).mono ?_;rw[HU.out];rintro e w' ⟨⟨R,hR,rfl⟩,k,rfl⟩;clear hR;dsimp only);go_ret3;rw[H1.out];exact⟨⟨⟨#[]⟩,⟨#[]⟩,rfl,rfl,rfl⟩,_,rfl⟩
 ·have hrl:=upTo_len hu
  rw[←Lib.size_eq]at hrl;clear hu hf;by_cases hlt:r.length<n
  ·rw[if_pos hlt]at h1
   have H1:=zh h1;clear h1;go_enter Tryz.func89,Tryz.ntmps89;go_wp2_with (go_at_call 88;refine(upTo_any _ _ _ hs hm).mono ?_;rw[HU.out];rintro e w' ⟨⟨R,hR,rfl⟩,k,rfl⟩;have hz:R.size=r.length:=(by rw[Lib.size_eq,hR]);have h5:((R.size:Nat):Int)<(n:Int):=(by omega);have h6:(R.size:Int)≤140737488355328:=(by omega);clear hR hz;dsimp only);go_ret3;rw[H1.out];exact⟨⟨⟨#[]⟩,⟨#[]⟩,rfl,rfl,rfl⟩,_,rfl⟩
  ·rw[if_neg hlt]at h1
   have H1:=zh h1;clear h1;go_enter Tryz.func89,Tryz.ntmps89;go_wp2_with (go_at_call 88;refine(upTo_any _ _ _ hs hm).mono ?_;rw[HU.out];rintro e w' ⟨⟨R,hR,rfl⟩,k,rfl⟩;have hz:R.size=r.length:=(by rw[Lib.size_eq,hR]);have h5:(n:Int)≤((R.size:Nat):Int):=(by omega);have h6:(R.size:Int)≤140737488355328:=(by omega);have HR:=zh hR;clear hR hz;dsimp only);have h7:(0:Int)≤(n:Int):=by omega
   go_quiet (fail);go_wp2;go_ret3;rw[H1.out];refine⟨⟨_,_,?_,?_,rfl⟩,_,World.drewN_drewN _ _ _⟩
   ·rw[extract_take,HR.out]
   ·rw[extract_drop,HR.out]
theorem take_bel (s:ByteArray) (w:World) (hs:s.size≤140737488355328):
 Calls Tryz.prog 48 #[.string s] w fun e w'=>Tk (tk s.data.toList) e∧Below w.heap.size w w':=
 (take_any s w hs).mono fun _ _ ⟨h,k,hk⟩=>⟨h,hk▸bdrew w k⟩
theorem text_bel (s:ByteArray) (m:Int) (w:World) (hs:s.size≤140737488355328) (hm:-9223372036854775808≤m∧m≤9223372036854775807):
 Calls Tryz.prog 89 #[.string s,.int .i64 m] w fun e w'=>Tx (text s.data.toList m) e∧Below w.heap.size w w':=
 (text_any s m w hs hm).mono fun _ _ ⟨h,k,hk⟩=>⟨h,hk▸bdrew w k⟩
end Go.Proofs.YtmihiknebelkbaaGreat.Wire
namespace Go.Proofs.YtmihiknebelkbaaGreat.Wire
open Go.RowKit
theorem together_any (a:Option Addr) (c:Nat) (ys:List ByteArray) (w:World) (hr:SReads w a ys) (hN:ys.length≤140737488355328) (hcap:ys.length≤c) (hlen:(cat ys).length≤140737488355328):
 Calls Tryz.prog 42 #[.slice a ys.length c] w fun e w'=>St (cat ys) e∧Below w.heap.size w w':=by
 have hj:Calls Tryz.prog 66 #[.slice a ys.length c,.string ⟨#[]⟩] w fun e w'=>St (cat ys) e∧Below w.heap.size w w':=by
  cases ys with
  | nil=>exact(Tryz.strings_Join_none a c ⟨#[]⟩ w).mono fun e w' ⟨he,hw⟩=>⟨⟨_,rfl,he⟩,hw▸Below.refl _ _⟩
  | cons y r=>
   obtain⟨b,off,rfl,hb,_⟩:=hr 0 (by simp);refine(Tryz.strings_Join b off c (y::r) ⟨#[]⟩ w (fun j x hx=>?_) hb hN hcap (by rw[join_cat];exact hlen)).mono fun e w' ⟨he,hw⟩=>⟨⟨_,?_,he⟩,hw⟩
   ·have hj:=(List.getElem?_eq_some_iff.1 hx).1
    obtain⟨b',off',e,_,hc⟩:=hr j hj;injection e with e
    injection e with e1 e2
    subst e1 e2;rw[hc];simp[List.getD,hx]
   ·rw[join_cat]
 have HJ:=zh hj;clear hj;go_enter Tryz.func42,Tryz.ntmps42;go_wp2_with (go_at_call 66;refine HJ.out.mono ?_;rintro e w' ⟨⟨T,hT,rfl⟩,hb⟩;have HT:=zh hT;have HB:=zh hb;clear hT hb);go_ret;exact⟨⟨T,HT.out,rfl⟩,HB.out⟩
def PutIn (w:World) (n k j:Nat) (wr:World):Prop:=∃(cs:List Value) (D:List UInt8),cs.length=8∧wr.heap[w.heap.size]? = some (.cells cs.toArray 85 (0,0)) ∧
 cs.drop j=D.map by8∧dig n=dig k++D∧D.length=8-j∧Below w.heap.size w wr∧wr.heap.size=w.heap.size+1
theorem putIn_start (w:World) (n:Nat):PutIn w n n 8 (w.alloc (.cells #[.int .u8 0,.int .u8 0,.int .u8 0,.int .u8 0,.int .u8 0,.int .u8 0,.int .u8 0,.int .u8 0] 85)):=
 ⟨[.int .u8 0,.int .u8 0,.int .u8 0,.int .u8 0,.int .u8 0,.int .u8 0,.int .u8 0,.int .u8 0],[],rfl,heap_alloc_new w _,rfl,by simp,rfl,(Below.refl _ _).alloc zl _,by simp⟩
theorem putIn_le {w wr:World} {n k j:Nat} (h:PutIn w n k j wr) (hn:n<18446744073709551616) (hj:j≤8) (hk:k≠0):1≤j:=by
 obtain⟨cs,D,_,_,_,h4,h5,_⟩:=h;have h8:=dig_len8 hn;rw[h4,List.length_append]at h8;rw[dig_pos hk,List.length_append]at h8;simp at h8;omega
theorem putIn_cell {w wr:World} {n k j i:Nat} (h:PutIn w n k j wr) (hi:i<8):(∃v,wr.cell? ⟨w.heap.size,i,none⟩=some v)∧wr.frozen? ⟨w.heap.size,i,none⟩=false:=by
 obtain⟨cs,D,h1,h2,_⟩:=h;refine⟨⟨cs[i],?_⟩,?_⟩
 ·rw[cell_of_row wr w.heap.size i cs.toArray _ (0,0) h2]
  simp[h1,hi]
 ·simp[World.frozen?,h2]
theorem putIn_step {w wr:World} {n k j:Nat} (h:PutIn w n k (j+1) wr) (hj:j<8) (hk:k≠0):PutIn w n (k/256) j (wr.setCell ⟨w.heap.size,j,none⟩ (.int .u8 ((k%256:Nat):Int))):=by
 obtain⟨cs,D,h1,h2,h3,h4,h5,h6,h7⟩:=h;refine⟨cs.set j (.int .u8 ((k%256:Nat):Int)),(k%256).toUInt8::D,by simp[h1],?_,?_,?_,?_,h6.setCell zl _,by simpa[World.setCell]using h7⟩
 ·simp[World.setCell,Array.getElem?_modify,h2]
 ·rw[List.map_cons,←h3,by8,u8_nat _ (by omega)]
  have hlt:j<(cs.set j (.int .u8 ((k%256:Nat):Int))).length:=by simp[h1,hj]
  rw[List.drop_eq_getElem_cons hlt];congr 1
  ·simp
  ·rw[List.drop_set_of_lt (by omega)]
 ·rw[h4,dig_pos hk,List.append_assoc];rfl
 ·simp[h5];omega
theorem cut_eight (g j d:Nat) (hd:8-j=d) (hj:j≤8):∃A:Addr,A.block=g∧(0<d→A=⟨g,j,none⟩) ∧
 ∀W:World,(Instr.sliceAt 85 (.pointer (some ⟨g,0,none⟩)) (some (.int .i64 (j:Int))) none none).run Tryz.prog W = .ok (.slice (some A) d d) W:=by
 have ha:Tryz.prog.arrayLen 85=8:=by kernel_rfl
 have he:Tryz.prog.elem 85=5:=by kernel_rfl
 have hu:Tryz.prog.underlying 85=some (.array (Tryz.prog.arrayLen 85) (Tryz.prog.elem 85)):=by rw[ha,he];exact Tryz.underlying85
 refine⟨if 8=j then⟨g,0,none⟩else(⟨g,0,none⟩:Addr).add (j*1),?_,fun h=>?_,fun W=>?_⟩
 ·split
  ·rfl
  ·rw[add_none]
 ·rw[if_neg (by omega),add_none];simp
 ·have hz:(sizeOf 5).run Tryz.prog W = .ok 1 W:=by
   rw[Tryz.sizeOf5]
  rw[run_sliceAt_array_l W 85 ⟨g,0,none⟩ hu .i64 (j:Int) (by omega) (by rw[ha];omega),he,hz,ha];simp only[Result.andThen_ok,slicedAt,Int.toNat_natCast];rw[hd]
theorem put_cells {wr:World} {g j:Nat} {cs:List Value} {D:List UInt8} (h2:wr.heap[g]? = some (.cells cs.toArray 85 (0,0))) (h3:cs.drop j=D.map by8):
 ∀i (hi:i<D.length),wr.cell? ⟨g,j+i,none⟩=some (by8 D[i]):=fun i hi=>by
 rw[cell_of_row wr g (j+i) cs.toArray _ (0,0) h2];have h:=congrArg (·[i]?) h3;simp only[List.getElem?_drop,List.getElem?_map,List.getElem?_eq_getElem hi,Option.map_some]at h;simpa using h
theorem together_two (W:World) (X Y:ByteArray) (g:Nat) (hg:g=W.heap.size) (B:Nat) (w0:World) (hb:Below B w0 W) (hB:B≤W.heap.size) (hlen:X.size+Y.size≤140737488355328):
 Calls Tryz.prog 42 #[.slice (some ⟨g,0,none⟩) 2 2] (W.alloc (.cells #[.string X,.string Y] 9)).drew fun e w'=>St (X.data.toList++Y.data.toList) e∧Below B w0 w':=by
 have h:=together_any (some ⟨g,0,none⟩) 2 [X,Y] (W.alloc (.cells #[.string X,.string Y] 9)).drew (pair_reads W X Y g hg) (by simp) (by simp) (by
  simp only[cat,List.flatMap_cons,List.flatMap_nil,List.append_nil,List.length_append,←Lib.size_eq];exact hlen)
 refine h.mono fun e w' ⟨he,hw⟩=>⟨by simpa[cat]using he,?_⟩
 exact((hb.alloc hB _).drew).trans (hw.mono (by simp;omega))
set_option maxRecDepth 1000000 in
theorem put_any (n:Nat) (w:World) (hn:n<18446744073709551616):
 Calls Tryz.prog 22 #[.int .u64 n] w fun e w'=>St (put n) e∧Below w.heap.size w w':=by
 have HN:=zh hn;have hn':(n:Int)≤18446744073709551615:=by omega
 clear hn;go_enter Tryz.func22,Tryz.ntmps22;go_wp2;go_loopw [0,4] (fun m a wr=>∃k j:Nat,k≤n∧j≤8∧m = .int .u64 k∧a = .int .i64 j∧Hid (PutIn w n k j wr)) (fun m _ _=>(intOf m).toNat);case atStart=>exact⟨n,8,Nat.le_refl _,Nat.le_refl _,rfl,rfl,putIn_start w n⟩
 case round=>
  obtain⟨k,j,hkn,hj,rfl,rfl,HP⟩:=hrel;by_cases hk:0<k
  ·have hj1:=putIn_le HP.out HN.out hj (by omega)
   obtain⟨i,rfl⟩:∃i,j=i+1:=⟨j-1,by omega⟩
   obtain⟨⟨v,hc⟩,hf⟩:=putIn_cell HP.out (i:=i) (by omega);have hwr:IntKind.u8.wrap (k:Int)=((k%256:Nat):Int):=by rw[IntKind.wrap_u8];omega
   go_wp2;go_roundw;case rel=>exact⟨k/256,i,by omega,by omega,by go_num,by go_num,putIn_step HP.out (by omega) (by omega)⟩
   case measure=>simp[intOf];omega
  ·obtain rfl:k=0:=by omega
   obtain⟨cs,D,h1,h2,h3,h4,h5,h6,h7⟩:=HP.out;obtain⟨d,hd⟩:∃d,D.length=d:=⟨_,rfl⟩
   have hd8:d≤8:=by omega
   have hjd:(j:Int)=8-(d:Int):=by omega
   have hp:=put_cells h2 h3;have hg:=(Array.getElem?_eq_some_iff.1 h2).1;have hw1:IntKind.i64.wrap (8-(j:Int))=(d:Int):=by rw[IntKind.wrap_i64];omega
   have hw2:IntKind.u8.wrap (d:Int)=(d:Int):=by rw[IntKind.wrap_u8];omega
   have hc1:(convert 87 9 (.slice (some ⟨w.heap.size+1,0,none⟩) 1 1)).run Tryz.prog (wr.alloc (Obj.cells #[Value.int IntKind.u8 (d:Int)] 5)).drew = .ok (.string ⟨#[d.toUInt8]⟩) (wr.alloc (Obj.cells #[Value.int IntKind.u8 (d:Int)] 5)).drew:=conv_one _ _ d (by omega) (by rw[←h7];simp);obtain⟨A,hA1,hA2,hcut⟩:=cut_eight w.heap.size j d (by omega) hj
   have hpA:∀i (hi:i<D.length),wr.cell? (A.add i)=some (by8 D[i]):=fun i hi=>by
    rw[hA2 (by omega),add_none];exact hp i hi
   have hc2:=conv_tail wr.drew A d D hpA
   have hc3:=conv_tail (wr.alloc (Obj.cells #[Value.int IntKind.u8 (d:Int)] 5)).drew A d D (fun i hi=>by
    rw[←hpA i hi]
    exact World.cell?_alloc_lt wr _ (A.add i) (by rw[hA2 (by omega),add_none];exact hg))
   rw[hd]at hc2 hc3
   have hcall:Calls Tryz.prog 42 #[.slice (some ⟨w.heap.size+1+1,0,none⟩) 2 2] ((wr.alloc (Obj.cells #[Value.int IntKind.u8 (d:Int)] 5)).alloc (.cells #[.string ⟨#[d.toUInt8]⟩,.string ⟨D.toArray⟩] 9)).drew fun e w'=>St (put n) e∧Below w.heap.size w w':=by
    refine(together_two (wr.alloc (Obj.cells #[Value.int IntKind.u8 (d:Int)] 5)) ⟨#[d.toUInt8]⟩ ⟨D.toArray⟩ _ (by simp[h7]) w.heap.size w (h6.alloc (by omega) _) (by simp only[World.alloc,Array.size_push];omega) (by
     rw[Lib.size_eq,Lib.size_eq];simp;omega)).mono fun e w' ⟨he,hw⟩=>⟨?_,hw⟩
    have e2:put n = [d.toUInt8]++D:=by rw[put,h4,dig_zero,List.nil_append,hd];rfl
    rw[e2];exact he
   have HC:=zh hcall;clear hcall;have H1:=zh h1;have H4:=zh h4;have H6:=zh h6;have HD:=zh hd;have HPP:=zh hp;clear h1 h2 h3 h4 h5 h6 hd hp hjd hA1 hA2 hpA;go_wp2;go_region_with (go_at_call 42;refine HC.out.mono ?_;rintro e w' ⟨⟨T,hT,rfl⟩,hb⟩;have HT:=zh hT;have HB:=zh hb;clear hT hb;dsimp only);all_goals go_wp2
   all_goals go_ret
   all_goals exact⟨⟨_,HT.out,rfl⟩,HB.out⟩
end Go.Proofs.YtmihiknebelkbaaGreat.Wire
namespace Go.Proofs.YtmihiknebelkbaaGreat.Wire
open Go.RowKit
def Laid (w:World) (n:Nat) (ys:List ByteArray) (k:Nat) (v:Value) (wr:World):Prop:=∃ps:List ByteArray,wr.ownsRow w.heap.size 9 1 v (1+2*k) (sv ps)∧cat ps=put n++(bl (ys.take k)).flatMap putText∧Below w.heap.size w wr
theorem laid_step {w w2:World} {n k:Nat} {ys:List ByteArray} {v':Value} {T y:ByteArray} {ps:List ByteArray} (hc:cat ps=put n++(bl (ys.take k)).flatMap putText) (hk:k<ys.length) (hy:ys.getD k ByteArray.empty=y)
 (hT:T.data.toList=put y.data.toList.length) (ho:w2.ownsRow w.heap.size 9 1 v' (1+2*k+2) (sv ps++[.string T,.string y])) (hb:Below w.heap.size w w2):Laid w n ys (k+1) v' w2:=by
 refine⟨ps++[T,y],?_,?_,hb⟩
 ·rw[show 1+2*(k+1)=1+2*k+2 by omega]
  simpa[sv]using ho
 ·have e:ys[k]=y:=by rw[←hy];simp[List.getD,hk]
  rw[List.take_succ_eq_append_getElem hk,e];have h1:cat (ps++[T,y])=cat ps++(T.data.toList++y.data.toList):=by simp[cat]
  rw[h1,hc,hT];simp[bl,putText]
set_option maxRecDepth 1000000 in
theorem putAll_any (a:Option Addr) (cap:Nat) (ys:List ByteArray) (w:World) (hr:SReads w a ys) (hn:ys.length≤100000) (hsum:(bl ys).flatten.length≤1000000000000):
    Calls Tryz.prog 21 #[.slice a ys.length cap] w fun e w'=>St (putAll (bl ys)) e∧Below w.heap.size w w':=by
  have HR:=zh hr
  have HS:=zh hsum
  clear hr hsum
  obtain⟨i0,hi0,hz0,hz1,hz2⟩:=info_parts str_info
  obtain⟨cs,hcs,hmk⟩:=make_strs (1+2*ys.length) (by omega) w
  have hmk':(Instr.makeSlice 22 (.int .i64 0) (.int .i64 (1+2*(ys.length:Int)))).run Tryz.prog w = .ok (.slice (some ⟨w.heap.size,0,none⟩) 0 (1+2*ys.length)) (w.alloc (.cells cs 9)):=by
    have:((1+2*ys.length:Nat):Int)=1+2*(ys.length:Int):=by omega
    rw[←this];exact hmk
  have HCS:=zh hcs
  have hwr:IntKind.u64.wrap (ys.length:Int)=(ys.length:Int):=by rw[IntKind.wrap_u64];omega
  clear hmk hcs
  have hown0:=World.ownsRow_made (e:=9) (size:=1) (base:=w.heap.size) w cs (1+2*ys.length) zl (by simp only[maxLen];omega) (by rw[HCS.out];omega)
  have HO:=zh hown0
  clear hown0
  go_enter Tryz.func21,Tryz.ntmps21
  go_wp2_with (first
    | (go_at_call 22;refine(put_any _ _ (by omega)).mono ?_;rintro e w1 ⟨⟨T,hT,rfl⟩,hb⟩;have HT:=zh hT;have HB:=zh hb;clear hT hb)
    | (at_builtin
       refine wpList_append_own _ rfl _ _ _ rfl w.heap.size 9 i0 _ 1 16 Tryz.underlying22 hi0 hz0 hz1 hz2 rfl (by decide) _ 0 [] rfl ?c1 _ 1 1 [.string T] rfl rfl ?c2 ?c3 ?c4 ?c5 ?c6 ?_
       case c1=>exact(own_below HO.out HB.out zl).alloc _
       case c2=>exact lit_cells _ _ _
       case c3=>exact sv_one [T]
       case c4=>simp only[maxLen];omega
       case c5=>omega
       case c6=>
         have h:=HB.out.size
         simp only[World.alloc,Array.size_push]at h⊢
         omega
       intro v1 w2 hown hgrow _
       have HO1:=zh hown
       have HG1:=zh hgrow
       clear hown hgrow))
  have hlaid:Laid w ys.length ys 0 v1 w2:=by
    refine⟨[T],by simpa[sv]using HO1.out,?_,?_⟩
    · simp[cat,bl,HT.out]
    · have h1:Below w.heap.size w w1:=((Below.refl _ w).alloc zl _).trans (HB.out.mono (by simp only[World.alloc,Array.size_push];omega))
      have h2:=HB.out.size
      refine(h1.alloc h1.size (.cells #[.string T] 9)).grown HG1.out (by
        simp only[World.alloc,Array.size_push]at h2⊢
        omega) fun k hk=>?_
      exact(HO.out.lt k hk).1
  have HLD:=zh hlaid
  clear hlaid
  go_loopw [3,20] (fun v i wr=>∃k:Nat,k≤ys.length∧i = .int .i64 k∧Hid (Laid w ys.length ys k v wr)) (fun _ i _=>ys.length-(intOf i).toNat)
  case atStart=>exact⟨0,Nat.zero_le _,rfl,HLD⟩
  case round=>
    obtain⟨k,hk,rfl,HL⟩:=hrel
    clear HO1 HG1 HB HT HLD HO
    by_cases hlt:k<ys.length
    · obtain⟨b,off,rfl,hblt,hcell⟩:=HR.out k hlt
      obtain⟨y,hy⟩:∃y,ys.getD k ByteArray.empty=y:=⟨_,rfl⟩
      rw[hy]at hcell
      have hyz:=bl_at hlt hy
      have HSO:=HS.out
      have hyb:y.size≤1000000000000:=by omega
      have HY:=zh hy
      clear hy hyz HSO
      obtain⟨ps,ho,hcat,hbel⟩:=HL.out
      rw[←hbel.cell (p:=⟨b,off+k,none⟩) hblt]at hcell
      have hwr2:IntKind.u64.wrap (y.size:Int)=(y.size:Int):=by rw[IntKind.wrap_u64];omega
      have HOO:=zh ho
      have HCC:=zh hcat
      have HBB:=zh hbel
      clear ho hcat hbel
      go_wp2_with (first
        | (go_at_call 22;refine(put_any _ _ (by omega)).mono ?_;rintro e w5 ⟨⟨T5,hT,rfl⟩,hb⟩;have HT:=zh hT;have HB:=zh hb;clear hT hb)
        | (at_builtin
           refine wpList_append_own _ rfl _ _ _ rfl w.heap.size 9 i0 _ 1 16 Tryz.underlying22 hi0 hz0 hz1 hz2 rfl (by decide) _ (1+2*k) (sv ps) rfl ?c1 _ 2 2 [.string T5,.string y] rfl rfl ?c2 ?c3 ?c4 ?c5 ?c6 ?_
           case c1=>exact(own_below HOO.out HB.out zl).alloc _
           case c2=>exact lit_cells _ _ _
           case c3=>exact sv_one [T5,y]
           case c4=>simp only[maxLen];omega
           case c5=>omega
           case c6=>
             have h:=HB.out.size
             have h2:=HBB.out.size
             simp only[World.alloc,Array.size_push]at h⊢
             omega
           intro v6 w6 hown hgrow _
           have HO6:=zh hown
           have HG6:=zh hgrow
           clear hown hgrow))
      go_roundw
      case rel=>
        refine⟨k+1,by omega,by go_num,laid_step HCC.out hlt HY.out (by rw[HT.out,Lib.size_eq]) HO6.out ?_⟩
        have h1:=HBB.out.trans (HB.out.mono HBB.out.size)
        refine(h1.alloc h1.size (.cells #[.string T5,.string y] 9)).grown HG6.out (by
          have:=h1.size
          simp only[World.alloc,Array.size_push]
          omega) fun g hg=>?_
        exact(HOO.out.lt g hg).1
      case measure=>simp[intOf];omega
    · obtain rfl:k=ys.length:=by omega
      obtain⟨ps,ho,hcat,hbel⟩:=HL.out
      obtain⟨g,c,rfl,_,_⟩:=ho.form (by omega)
      obtain⟨hsr,hpl,hpc⟩:=sreads_own ho
      rw[List.take_length]at hcat
      have hlen:(cat ps).length≤140737488355328:=by
        have h1:=flat_len (bl ys) (fun l hl=>by have:=bl_each l hl;have:=HS.out;omega)
        have h2:=(put_le (n:=ys.length) (by omega)).2
        have h3:=HS.out
        have h4:=bl_len ys
        rw[hcat,List.length_append];omega
      have hcall:Calls Tryz.prog 42 #[.slice (some ⟨g,0,none⟩) (1+2*ys.length) c] wr fun e w'=>St (putAll (bl ys)) e∧Below w.heap.size w w':=by
        have h:=together_any (some ⟨g,0,none⟩) c ps wr hsr (by omega) (by omega) hlen
        rw[hpl,hcat]at h
        refine h.mono fun e w' ⟨he,hb⟩=>⟨?_,hbel.trans (hb.mono hbel.size)⟩
        rw[putAll,bl_len]
        exact he
      have HC:=zh hcall
      clear ho hcat hbel hsr hpl hpc hlen hcall
      go_wp2_with (go_at_call 42;refine HC.out.mono ?_;rintro e w' ⟨⟨U,hU,rfl⟩,hb⟩;have HU:=zh hU;have HB3:=zh hb;clear hU hb)
      go_ret
      exact⟨⟨U,HU.out,rfl⟩,HB3.out⟩
end Go.Proofs.YtmihiknebelkbaaGreat.Wire
namespace Go.Proofs.YtmihiknebelkbaaGreat.Wire
open Go.RowKit
set_option maxRecDepth 1000000 in
theorem takeAll_any (s:ByteArray) (a m:Int) (w:World) (hs:s.size≤1000000000000) (ha:-9223372036854775808≤a∧a≤9223372036854775807) (hm:-9223372036854775808≤m∧m≤9223372036854775807):
    Calls Tryz.prog 68 #[.string s,.int .i64 a,.int .i64 m] w fun e w'=>Ta (all s.data.toList a m) e w'∧Below w.heap.size w w':=by
  obtain⟨n,r,f,hu⟩:∃n r f,upTo s.data.toList a=(n,r,f):=⟨_,_,_,rfl⟩
  have HU:=zh hu
  rcases all_upTo (b:=m) hu with⟨h0,h1⟩|⟨rfl,h1,h2,h3,h4⟩
  · have H1:=zh h1
    have hne:(f != 0)=true:=by simpa using h0
    clear h1 hu h0
    go_enter Tryz.func68,Tryz.ntmps68
    go_wp2_with (go_at_call 88;refine(upTo_any _ _ _ (by omega) ha).mono ?_;rw[HU.out];rintro e w' ⟨⟨R,hR,rfl⟩,k,rfl⟩;clear hR;dsimp only)
    go_ret2
    rw[H1.out]
    exact⟨ta_nil _ _,bdrew _ _⟩
  · clear hu
    have hn63:n≤9223372036854775807:=by omega
    rw[←Lib.size_eq]at h4
    have H1:=zh h1
    have H2:=zh h2
    obtain⟨i0,hi0,hz0,hz1,hz2⟩:=info_parts str_info
    clear h1 h2 h3
    go_enter Tryz.func68,Tryz.ntmps68
    go_wp2_with (go_at_call 88;refine(upTo_any _ _ _ (by omega) ha).mono ?_;rw[HU.out];rintro e w' ⟨⟨R0,hR0,rfl⟩,k0,rfl⟩;have HR0:=zh hR0;clear hR0;dsimp only)
    have hstart:Took w s.size n r m 0 R0 (.slice none 0 0) (w.drewN k0):=
      ⟨[],World.ownsRow_nil _ _ _ _,rfl,by rw[HR0.out];rfl,by rw[Lib.size_eq,HR0.out];omega,bdrew _ _⟩
    have HST:=zh hstart
    clear hstart
    go_loopw [9,11,26] (fun q v i wr=>∃(k:Nat) (R:ByteArray),k≤n∧q = .string R∧i = .int .u64 k∧Hid (Took w s.size n r m k R v wr)) (fun _ _ i _=>n-(intOf i).toNat)
    case atStart=>exact⟨0,R0,Nat.zero_le _,rfl,rfl,HST⟩
    case round=>
      obtain⟨k,R,hk,rfl,rfl,HT⟩:=hrel
      clear HST
      obtain⟨ys,ho,hyl,hte,hsz,hbel⟩:=HT.out
      have hRs:R.size≤140737488355328:=by omega
      have HO:=zh ho
      have HYL:=zh hyl
      have HTE:=zh hte
      have HBL:=zh hbel
      by_cases hlt:k<n
      · obtain⟨t,q,f,htx⟩:∃t q f,text R.data.toList m=(t,q,f):=⟨_,_,_,rfl⟩
        have HTX:=zh htx
        obtain⟨j,hj⟩:∃j,n-k=j+1:=⟨n-k-1,by omega⟩
        rw[hj]at hte
        by_cases hf:f=0
        · subst hf
          have hlen:=text_len htx rfl
          rw[texts_yes htx]at hte
          rw[←Lib.size_eq]at hlen
          have HTE2:=zh hte
          have HJ:=zh hj
          have hks:k+1≤s.size:=by omega
          have hq:q.length+(k+1)≤s.size:=by omega
          clear ho hyl hte hbel htx hj hlen hsz
          go_wp2_with (first
            | (go_at_call 89;refine(text_any _ _ _ hRs hm).mono ?_;rw[HTX.out];rintro e w' ⟨⟨T,Q,hT,hQ,rfl⟩,kd,rfl⟩;have HTT:=zh hT;have HQ:=zh hQ;clear hT hQ;dsimp only)
            | (at_builtin
               refine wpList_append_own _ rfl _ _ _ rfl w.heap.size 9 i0 _ 1 16 Tryz.underlying22 hi0 hz0 hz1 hz2 rfl (by decide) _ k (sv ys) rfl ?c1 _ 1 1 [.string T] rfl rfl ?c2 ?c3 ?c4 ?c5 ?c6 ?_
               case c1=>exact(own_below HO.out (bdrew _ kd) zl).alloc _
               case c2=>exact lit_cells _ _ _
               case c3=>exact sv_one [T]
               case c4=>simp only[maxLen];omega
               case c5=>omega
               case c6=>
                 have h:=HBL.out.size
                 simp only[World.alloc,Array.size_push]
                 exact Nat.le_succ_of_le h
               intro v6 w6 hown hgrow _
               have HO6:=zh hown
               have HG6:=zh hgrow
               clear hown hgrow))
          go_roundw
          case rel=>
            refine⟨k+1,Q,by omega,rfl,by go_num,ys++[T],by simpa[sv]using HO6.out,by simp[HYL.out],?_,?_,?_⟩
            · have e:n-(k+1)=j:=by have:=HJ.out;omega
              have e2:bl (ys++[T])=bl ys++[t]:=by simp[bl,HTT.out]
              rw[e,HQ.out,e2]
              exact HTE2.out
            · rw[Lib.size_eq,HQ.out];exact hq
            · have h1:=HBL.out.trans (bdrew (B:=w.heap.size) _ kd)
              refine(h1.alloc h1.size (.cells #[.string T] 9)).grown HG6.out (by
                have:=h1.size
                simp only[World.alloc,Array.size_push]
                omega) fun g hg=>?_
              exact(HO.out.lt g hg).1
          case measure=>simp[intOf];omega
        · have hal:all s.data.toList a m=([],f):=by
            rw[texts_no htx hf]at hte
            exact all_err H1.out H2.out hte.symm hf
          have HAL:=zh hal
          have hne:(f != 0)=true:=by simpa using hf
          clear ho hyl hte hbel htx hj hsz hf hal
          go_wp2_with (go_at_call 89;refine(text_any _ _ _ hRs hm).mono ?_;rw[HTX.out];rintro e w' ⟨⟨T,Q,hT,hQ,rfl⟩,kd,rfl⟩;clear hT hQ;dsimp only)
          go_ret2
          rw[HAL.out]
          exact⟨ta_nil _ _,HBL.out.trans (bdrew _ kd)⟩
      · obtain rfl:k=n:=by omega
        rw[Nat.sub_self,texts_zero]at hte
        obtain⟨A,c,rfl⟩:=own_value ho
        by_cases hR:R.data.toList = []
        · have hal:all s.data.toList a m=(bl ys,0):=by
            rw[hR]at hte
            exact all_ok H1.out H2.out hte.symm
          have HAL:=zh hal
          have hem:R.toList.isEmpty=true:=by rw[Lib.toList_data,hR];rfl
          obtain⟨h6,_,h7⟩:=sreads_own ho
          have H6:=zh h6
          have h8:Ta (bl ys,0) (.returned (.tuple #[.slice A k c,.int .i64 0])) wr:=by
            subst hyl
            exact⟨A,c,ys,rfl,h7,h6,rfl⟩
          have H8:=zh h8
          clear ho hyl hte hbel hsz hR hal h6 h8
          go_wp2
          go_ret2
          rw[HAL.out]
          exact⟨H8.out,HBL.out⟩
        · have hal:all s.data.toList a m=([],2):=all_left H1.out H2.out hte.symm hR
          have HAL:=zh hal
          have hem:R.toList.isEmpty=false:=by
            rw[Lib.toList_data]
            cases h:R.data.toList with
            | nil=>exact absurd h hR
            | cons x t=>rfl
          clear ho hyl hte hbel hsz hR hal
          go_wp2
          go_ret2
          rw[HAL.out]
          exact⟨ta_nil _ _,HBL.out⟩
end Go.Proofs.YtmihiknebelkbaaGreat.Wire
namespace Go.Proofs.YtmihiknebelkbaaGreat.Wire
open Go.RowKit
set_option maxRecDepth 1000000 in
theorem refAll_any (s:ByteArray) (a m:Int) (w:World) (hs:s.size≤1000000000000) (ha:-9223372036854775808≤a∧a≤9223372036854775807) (hm:-9223372036854775808≤m∧m≤9223372036854775807):
    Calls Tryz.prog 28 #[.string s,.int .i64 a,.int .i64 m] w fun e w'=>Ta (all s.data.toList a m) e w'∧Below w.heap.size w w':=by
  obtain⟨ha1,ha2⟩:=ha
  rcases take_tk (l:=s.data.toList)with⟨h1,h2⟩|⟨n,r,h1,h2,hn⟩
  · have H1:=zh (all_none (a:=a) (b:=m) h1)
    have H2:=zh h2
    clear h1 h2
    go_enter Tryz.func28,Tryz.ntmps28
    go_wp2_with fail
    refine(refTake_any _ _ (by omega)).mono ?_
    rw[H2.out]
    rintro e w1 ⟨⟨R,hR,rfl⟩,hb⟩
    dsimp only at hR⊢
    have HB:=zh hb
    clear hR hb
    go_wp2
    go_ret2
    rw[H1.out]
    exact⟨ta_nil _ _,HB.out⟩
  · have h4:=(take_len h1).1
    rw[←Lib.size_eq]at h4
    have HT2:=zh h2
    have HT1:=zh h1
    have HN:=zh hn
    clear h1 h2 hn
    by_cases hb:max a 0<(n:Int)
    · have H1:=zh (all_big (b:=m) HT1.out hb)
      by_cases hm0:a<0
      · have hb':(0:Int)<n:=by omega
        clear hb
        go_enter Tryz.func28,Tryz.ntmps28
        go_wp2_with fail
        refine(refTake_any _ _ (by omega)).mono ?_
        rw[HT2.out]
        rintro e w0 ⟨⟨R0,hR0,rfl⟩,hb0⟩
        dsimp only at hR0⊢
        have HR0:=zh hR0
        have HB0:=zh hb0
        clear hR0 hb0
        go_wp2
        go_ret2
        rw[H1.out]
        exact⟨ta_nil _ _,HB0.out⟩
      · have hb':a<(n:Int):=by omega
        clear hb
        go_enter Tryz.func28,Tryz.ntmps28
        go_wp2_with fail
        refine(refTake_any _ _ (by omega)).mono ?_
        rw[HT2.out]
        rintro e w0 ⟨⟨R0,hR0,rfl⟩,hb0⟩
        dsimp only at hR0⊢
        have HR0:=zh hR0
        have HB0:=zh hb0
        clear hR0 hb0
        go_wp2
        go_ret2
        rw[H1.out]
        exact⟨ta_nil _ _,HB0.out⟩
    · have H2:Hid ((n:Int)≤max a 0):=by show _≤_;omega
      have H1:=HT1
      have hn63:n≤9223372036854775807:=by omega
      obtain⟨i0,hi0,hz0,hz1,hz2⟩:=info_parts str_info
      by_cases hm0:a<0
      · have hb':(n:Int)≤0:=by omega
        clear hb
        go_enter Tryz.func28,Tryz.ntmps28
        go_wp2_with fail
        refine(refTake_any _ _ (by omega)).mono ?_
        rw[HT2.out]
        rintro e w0 ⟨⟨R0,hR0,rfl⟩,hb0⟩
        dsimp only at hR0⊢
        have HR0:=zh hR0
        have HB0:=zh hb0
        clear hR0 hb0
        go_wp2
        have hstart:Took w s.size n r m 0 R0 (.slice none 0 0) w0:=
          ⟨[],World.ownsRow_nil _ _ _ _,rfl,by rw[HR0.out];rfl,by rw[Lib.size_eq,HR0.out];omega,HB0.out⟩
        have HST:=zh hstart
        clear hstart
        go_loopw [9,11,12] (fun q v i wr=>∃(k:Nat) (R:ByteArray),k≤n∧q = .string R∧i = .int .u64 k∧Hid (Took w s.size n r m k R v wr)) (fun _ _ i _=>n-(intOf i).toNat)
        case atStart=>exact⟨0,R0,Nat.zero_le _,rfl,rfl,HST⟩
        case round=>
          obtain⟨k,R,hk,rfl,rfl,HT⟩:=hrel
          clear HST
          obtain⟨ys,ho,hyl,hte,hsz,hbel⟩:=HT.out
          have hRs:R.size≤140737488355328:=by omega
          have HO:=zh ho
          have HYL:=zh hyl
          have HTE:=zh hte
          have HBL:=zh hbel
          by_cases hlt:k<n
          · exact absurd hlt (by omega)
          · obtain rfl:k=n:=by omega
            rw[Nat.sub_self,texts_zero]at hte
            obtain⟨A,c,rfl⟩:=own_value ho
            by_cases hR:R.data.toList = []
            · have hal:all s.data.toList a m=(bl ys,0):=by
                rw[hR]at hte
                exact all_ok H1.out H2.out hte.symm
              have HAL:=zh hal
              have hem:R.toList.isEmpty=true:=by rw[Lib.toList_data,hR];rfl
              obtain⟨h6,_,h7⟩:=sreads_own ho
              have H6:=zh h6
              have h8:Ta (bl ys,0) (.returned (.tuple #[.slice A k c,.int .i64 0])) wr:=by
                subst hyl
                exact⟨A,c,ys,rfl,h7,h6,rfl⟩
              have H8:=zh h8
              clear ho hyl hte hbel hsz hR hal h6 h8
              go_wp2
              go_ret2
              rw[HAL.out]
              exact⟨H8.out,HBL.out⟩
            · have hal:all s.data.toList a m=([],2):=all_left H1.out H2.out hte.symm hR
              have HAL:=zh hal
              have hem:R.toList.isEmpty=false:=by
                rw[Lib.toList_data]
                cases h:R.data.toList with
                | nil=>exact absurd h hR
                | cons x t=>rfl
              clear ho hyl hte hbel hsz hR hal
              go_wp2
              go_ret2
              rw[HAL.out]
              exact⟨ta_nil _ _,HBL.out⟩
      · have hb':(n:Int)≤a:=by omega
        clear hb
        go_enter Tryz.func28,Tryz.ntmps28
        go_wp2_with fail
        refine(refTake_any _ _ (by omega)).mono ?_
        rw[HT2.out]
        rintro e w0 ⟨⟨R0,hR0,rfl⟩,hb0⟩
        dsimp only at hR0⊢
        have HR0:=zh hR0
        have HB0:=zh hb0
        clear hR0 hb0
        go_wp2
        have hstart:Took w s.size n r m 0 R0 (.slice none 0 0) w0:=
          ⟨[],World.ownsRow_nil _ _ _ _,rfl,by rw[HR0.out];rfl,by rw[Lib.size_eq,HR0.out];omega,HB0.out⟩
        have HST:=zh hstart
        clear hstart
        go_loopw [9,11,12] (fun q v i wr=>∃(k:Nat) (R:ByteArray),k≤n∧q = .string R∧i = .int .u64 k∧Hid (Took w s.size n r m k R v wr)) (fun _ _ i _=>n-(intOf i).toNat)
        case atStart=>exact⟨0,R0,Nat.zero_le _,rfl,rfl,HST⟩
        case round=>
          obtain⟨k,R,hk,rfl,rfl,HT⟩:=hrel
          clear HST
          obtain⟨ys,ho,hyl,hte,hsz,hbel⟩:=HT.out
          have hRs:R.size≤140737488355328:=by omega
          have HO:=zh ho
          have HYL:=zh hyl
          have HTE:=zh hte
          have HBL:=zh hbel
          by_cases hlt:k<n
          · obtain⟨t,q,f,htx⟩:∃t q f,text R.data.toList m=(t,q,f):=⟨_,_,_,rfl⟩
            have HTX:=zh htx
            obtain⟨j,hj⟩:∃j,n-k=j+1:=⟨n-k-1,by omega⟩
            rw[hj]at hte
            by_cases hf:f=0
            · subst hf
              have hlen:=text_len htx rfl
              rw[texts_yes htx]at hte
              rw[←Lib.size_eq]at hlen
              have HTE2:=zh hte
              have HJ:=zh hj
              have hks:k+1≤s.size:=by omega
              have hq:q.length+(k+1)≤s.size:=by omega
              clear ho hyl hte hbel htx hj hlen hsz
              go_wp2_with (first
                | (go_at_call 49;refine(refText_any _ _ _ hRs hm).mono ?_;rw[HTX.out];rintro e w5 ⟨⟨T,Q,hT,hQ,rfl⟩,hb5⟩;have HB5:=zh (HBL.out.trans (hb5.mono HBL.out.size));have HB5':=zh hb5;clear hb5;have HTT:=zh hT;have HQ:=zh hQ;clear hT hQ;dsimp only)
                | (at_builtin
                   refine wpList_append_own _ rfl _ _ _ rfl w.heap.size 9 i0 _ 1 16 Tryz.underlying22 hi0 hz0 hz1 hz2 rfl (by decide) _ k (sv ys) rfl ?c1 _ 1 1 [.string T] rfl rfl ?c2 ?c3 ?c4 ?c5 ?c6 ?_
                   case c1=>exact(own_below HO.out HB5'.out zl).alloc _
                   case c2=>exact lit_cells _ _ _
                   case c3=>exact sv_one [T]
                   case c4=>simp only[maxLen];omega
                   case c5=>omega
                   case c6=>
                     have h:=HB5.out.size
                     simp only[World.alloc,Array.size_push]
                     exact Nat.le_succ_of_le h
                   intro v6 w6 hown hgrow _
                   have HO6:=zh hown
                   have HG6:=zh hgrow
                   clear hown hgrow))
              go_roundw
              case rel=>
                refine⟨k+1,Q,by omega,rfl,by go_num,ys++[T],by simpa[sv]using HO6.out,by simp[HYL.out],?_,?_,?_⟩
                · have e:n-(k+1)=j:=by have:=HJ.out;omega
                  have e2:bl (ys++[T])=bl ys++[t]:=by simp[bl,HTT.out]
                  rw[e,HQ.out,e2]
                  exact HTE2.out
                · rw[Lib.size_eq,HQ.out];exact hq
                · have h1:=HB5.out
                  refine(h1.alloc h1.size (.cells #[.string T] 9)).grown HG6.out (by
                    have:=h1.size
                    simp only[World.alloc,Array.size_push]
                    omega) fun g hg=>?_
                  exact(HO.out.lt g hg).1
              case measure=>simp[intOf];omega
            · have hal:all s.data.toList a m=([],f):=by
                rw[texts_no htx hf]at hte
                exact all_err H1.out H2.out hte.symm hf
              have HAL:=zh hal
              have hne:(f != 0)=true:=by simpa using hf
              clear ho hyl hte hbel htx hj hsz hf hal
              go_wp2_with (go_at_call 49;refine(refText_any _ _ _ hRs hm).mono ?_;rw[HTX.out];rintro e w5 ⟨⟨T,Q,hT,hQ,rfl⟩,hb5⟩;have HB5:=zh (HBL.out.trans (hb5.mono HBL.out.size));have HB5':=zh hb5;clear hb5;clear hT hQ;dsimp only)
              go_ret2
              rw[HAL.out]
              exact⟨ta_nil _ _,HB5.out⟩
          · obtain rfl:k=n:=by omega
            rw[Nat.sub_self,texts_zero]at hte
            obtain⟨A,c,rfl⟩:=own_value ho
            by_cases hR:R.data.toList = []
            · have hal:all s.data.toList a m=(bl ys,0):=by
                rw[hR]at hte
                exact all_ok H1.out H2.out hte.symm
              have HAL:=zh hal
              have hem:R.toList.isEmpty=true:=by rw[Lib.toList_data,hR];rfl
              obtain⟨h6,_,h7⟩:=sreads_own ho
              have H6:=zh h6
              have h8:Ta (bl ys,0) (.returned (.tuple #[.slice A k c,.int .i64 0])) wr:=by
                subst hyl
                exact⟨A,c,ys,rfl,h7,h6,rfl⟩
              have H8:=zh h8
              clear ho hyl hte hbel hsz hR hal h6 h8
              go_wp2
              go_ret2
              rw[HAL.out]
              exact⟨H8.out,HBL.out⟩
            · have hal:all s.data.toList a m=([],2):=all_left H1.out H2.out hte.symm hR
              have HAL:=zh hal
              have hem:R.toList.isEmpty=false:=by
                rw[Lib.toList_data]
                cases h:R.data.toList with
                | nil=>exact absurd h hR
                | cons x t=>rfl
              clear ho hyl hte hbel hsz hR hal
              go_wp2
              go_ret2
              rw[HAL.out]
              exact⟨ta_nil _ _,HBL.out⟩
end Go.Proofs.YtmihiknebelkbaaGreat.Wire
namespace Go.Proofs.YtmihiknebelkbaaGreat.Wire
open Go.RowKit
set_option maxRecDepth 1000000 in
theorem refPutAll_any (a:Option Addr) (cap:Nat) (ys:List ByteArray) (w:World) (hr:SReads w a ys) (hn:ys.length≤100000) (hsum:(bl ys).flatten.length≤1000000000000):
 Calls Tryz.prog 25 #[.slice a ys.length cap] w fun e w'=>St (putAll (bl ys)) e∧Below w.heap.size w w':=by
 have HR:=zh hr;have HS:=zh hsum;clear hr hsum;have hwr:IntKind.u64.wrap (ys.length:Int)=(ys.length:Int):=by rw[IntKind.wrap_u64];omega
 have hfl:∀k,(put ys.length++(bl (ys.take k)).flatMap putText).length≤2000000000000:=fun k=>by
  have h0:(bl (ys.take k)).flatten.length≤(bl ys).flatten.length:=by
   have h:=List.take_append_drop k ys
   have e:(bl ys).flatten=(bl (ys.take k)).flatten++(bl (ys.drop k)).flatten:=by
    rw[←List.flatten_append];unfold bl;rw[←List.map_append,h]
   rw[e,List.length_append];omega
  have h1:=flat_len (bl (ys.take k)) (fun l hl=>by have:=bl_each l hl;have:=HS.out;omega);have h2:=(put_le (n:=ys.length) (by omega)).2;have h3:=HS.out;have h4:=bl_len (ys.take k);rw[List.length_take]at h4;rw[List.length_append];omega
 have HFL:=zh hfl;clear hfl;go_enter Tryz.func25,Tryz.ntmps25;go_wp2_with (go_at_call 26;refine(refPut_any _ _ (by omega)).mono ?_;rintro e w1 ⟨⟨T,hT,rfl⟩,hb⟩;have HT:=zh hT;have HB:=zh hb;clear hT hb);go_loopw [3,4] (fun v i wr=>∃(k:Nat) (U:ByteArray),k≤ys.length∧U.size≤2000000000000∧i = .int .i64 k∧v = .string U∧Hid (U.data.toList=put ys.length++(bl (ys.take k)).flatMap putText)∧Hid (Below w.heap.size w wr)) (fun _ i _=>ys.length-(intOf i).toNat)
 case atStart=>
  refine⟨0,T,Nat.zero_le _,?_,rfl,rfl,?_,HB⟩
  ·have:=put_size HT.out (by omega);omega
  ·show _=_
   rw[HT.out];simp[bl]
 case round=>
  obtain⟨k,U,hk,hUz,rfl,rfl,HU,HBW⟩:=hrel;clear HT HB;by_cases hlt:k<ys.length
  ·obtain⟨b,off,rfl,hblt,hcell⟩:=HR.out k hlt
   obtain⟨y,hy⟩:∃y,ys.getD k ByteArray.empty=y:=⟨_,rfl⟩
   rw[hy]at hcell;have hyz:=bl_at hlt hy;have HSO:=HS.out;have hyb:y.size≤1000000000000:=by omega
   have HY:=zh hy;clear hy hyz HSO;rw[←HBW.out.cell (p:=⟨b,off+k,none⟩) hblt]at hcell;go_wp2_with fail;refine(refPutText_any y _ (by omega)).mono ?_;rintro e w5 ⟨⟨V,hV,rfl⟩,hb5⟩;have HB5:=zh (HBW.out.trans (hb5.mono HBW.out.size))
   have hnew:(U++V).data.toList=put ys.length++(bl (ys.take (k+1))).flatMap putText:=by
    have e:ys[k]=y:=by rw[←HY.out];simp[List.getD,hlt]
    rw[app_data,HU.out,hV,List.take_succ_eq_append_getElem hlt,e];simp[bl]
   have hnz:(U++V).size≤2000000000000:=by rw[Lib.size_eq,hnew];exact HFL.out _
   have hVz:V.size≤1000000000009:=by
    have h1:=(put_le (n:=y.data.toList.length) (by rw[←Lib.size_eq];omega)).2;rw[Lib.size_eq,hV,putText_len,←Lib.size_eq]at *;omega
   have HNW:=zh hnew;have HNZ:=zh hnz;clear hV hb5 hnew hnz;go_wp2;go_roundw;case rel=>exact⟨k+1,U++V,by omega,HNZ.out,by go_num,rfl,HNW,HB5⟩
   case measure=>simp[intOf];omega
  ·obtain rfl:k=ys.length:=by omega
   go_wp2;go_ret;refine⟨⟨U,?_,rfl⟩,HBW.out⟩;rw[HU.out,List.take_length,putAll,bl_len]
end Go.Proofs.YtmihiknebelkbaaGreat.Wire
