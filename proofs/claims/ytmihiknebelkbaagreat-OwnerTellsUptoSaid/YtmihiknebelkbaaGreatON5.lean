/-
  N5. By an AI agent.
-/
import Derived.Test.YtmihiknebelkbaaGreatOZ
import Derived.Test.YtmihiknebelkbaaGreatON4
set_option maxHeartbeats 2000000
namespace Go.Proofs.YtmihiknebelkbaaGreat
open Go.RowKit Txt
set_option maxRecDepth 1000000 in
theorem first_any (s:ByteArray) (w:World) (hs:s.size≤2000000) (h0:0<s.size):Calls Tryz.prog 98 #[.string s] w fun e w'=>Firsts s e∧w=w':=by
 have hlt:=UInt8.toNat_lt (s[0]'h0);by_cases c2:192≤(s[0]'h0).toNat∧(s[0]'h0).toNat<224
 ·exact first_2 s w hs h0 c2.1 c2.2
 by_cases c3:224≤(s[0]'h0).toNat∧(s[0]'h0).toNat<240
 ·exact first_3 s w hs h0 c3.1 c3.2
 by_cases c4:240≤(s[0]'h0).toNat∧(s[0]'h0).toNat<248
 ·exact first_4 s w hs h0 c4.1 c4.2
 have hne:=not_empty h0;have hb0:=byteAt_is s h0;have hd:=dec_bytes s;by_cases c1:(s[0]'h0).toNat<128
 ·have hdl:Lib.decodeL s.data.toList=((s[0]'h0).toNat,1):=by
   rw[hd,hb0];unfold Lib.decodeN;rw[if_pos (by omega)]
  have HDL:=zh hdl;have HNE:=zh (list_ne h0);clear hd hb0 hdl c2 c3 c4 hlt;go_enter Tryz.func98,Tryz.ntmps98;go_wp2_with fail;go_ret2;exact⟨firsts_ok HNE.out HDL.out (by simp;omega),rfl⟩
 ·have hbad:Lib.decodeL s.data.toList=(65533,1):=by
   rw[hd];unfold Lib.decodeN;repeat' split
   all_goals first|(exfalso;omega)|rfl
  have HBAD:=zh hbad;have c128:128≤(s[0]'h0).toNat:=by omega
  clear hd hb0 hbad c1;by_cases cm:(s[0]'h0).toNat<192
  ·clear c2 c3 c4 hlt
   go_enter Tryz.func98,Tryz.ntmps98;go_wp2_with fail;go_ret2;exact⟨firsts_bad HBAD.out,rfl⟩
  ·have c248:248≤(s[0]'h0).toNat:=by omega
   clear c2 c3 c4 hlt cm;go_enter Tryz.func98,Tryz.ntmps98;go_wp2_with fail;go_ret2;exact⟨firsts_bad HBAD.out,rfl⟩
theorem refletter_any (r:Int) (w:World):Calls Tryz.prog 83 #[.int .i32 r] w fun e w'=>e = .returned (.bool (letter r))∧w=w':=by
 by_cases h45:r=45
 ·subst h45
  go_enter Tryz.func83,Tryz.ntmps83;go_wp2;go_ret;exact⟨rfl,rfl⟩
 ·have hb:(r==45)=false:=beq_eq_false_iff_ne.2 h45
  go_enter Tryz.func83,Tryz.ntmps83;go_wp2;all_goals go_ret
  all_goals refine⟨ret_bool ?_,rfl⟩
  all_goals unfold letter
  all_goals symm
  all_goals first
   | (apply decide_eq_true;omega)
   | (apply decide_eq_false;omega)
   | (exact decide_eq_decide.2 (by omega))
   | (rw[←Bool.decide_and];exact decide_eq_decide.2 (by omega))
   | (rw[Bool.eq_iff_iff];simp only[Bool.or_eq_true,decide_eq_true_eq];omega)
theorem firsts_call (s:ByteArray) (w:World) (hs:s.size≤2000000) (h0:0<s.size) {r n:Nat} (h:firstR s.data.toList=(r,n)):Calls Tryz.prog 98 #[.string s] w fun e w'=>e = .returned (.tuple #[.int .i32 r,.int .i64 n])∧w=w':=by
 refine(first_any s w hs h0).mono ?_;rintro e w' ⟨he,hw⟩;unfold Firsts at he;rw[h]at he;exact⟨he,hw⟩
set_option maxRecDepth 1000000 in
theorem refrunes_any (s:ByteArray) (w:World) (hs:s.size≤2000000):
 Calls Tryz.prog 82 #[.string s] w fun e w'=>Runed w' w.heap.size s.data.toList e∧Below w.heap.size w w':=by
 obtain⟨i0,hi,hz0,hz1,hz2⟩:=info_parts info32;go_enter Tryz.func82,Tryz.ntmps82;go_wp2
 go_loopw [0,4] (fun t v wr=>∃(u:ByteArray) (rs:List Int),t = .string u∧rs.length+u.size≤s.size∧Below w.heap.size w wr ∧
  wr.ownsRow w.heap.size 21 1 v rs.length (rs.map (Value.int .i32))∧runes s.data.toList=(runes u.data.toList).map fun q=>rs++q) (fun t _ _=>match t with | .string u=>u.size|_=>0)
 case atStart=>
  refine⟨s,[],rfl,by simp,Below.refl _ _,World.ownsRow_nil _ _ _ _,?_⟩;cases runes s.data.toList<;>simp
 case round=>
  obtain⟨u,rs,rfl,hlen,hb,hown,hrun⟩:=hrel;have HO:=zh hown;have HU:=zh hrun;clear hown hrun;by_cases h0:0<u.size
  ·have hne:=not_empty h0
   have HNE:=zh (list_ne h0);have hdl:=dec_le _ HNE.out;rw[←Lib.size_eq]at hdl;have hw1:=Lib.decodeL_width u.data.toList;by_cases hbad:Lib.decodeL u.data.toList=(65533,1)
   ·have hf:=firsts_call u wr (by omega) h0 (r:=0) (n:=0) (firstR_bad hbad)
    have HB:=zh hbad;clear hbad hdl hw1;go_wp2_with fail;refine hf.mono ?_;clear hf;rintro e w1 ⟨rfl,rfl⟩;go_wp2_with fail;go_ret2;refine⟨.inl ⟨?_,rfl⟩,hb⟩;rw[HU.out,runes_bad HNE.out HB.out];rfl
   ·obtain⟨⟨r,n⟩,hd⟩:∃p,Lib.decodeL u.data.toList=p:=⟨_,rfl⟩
    have hf:=firsts_call u wr (by omega) h0 (firstR_ok HNE.out hd (by rw[←hd];exact hbad));have HB:=zh hbad;have HD:=zh hd;rw[hd]at hdl hw1;simp only at hdl hw1;have n0:((n:Int)==0)=false:=beq_eq_false_iff_ne.2 (by omega);have n1:(0:Int)≤↑n:=by omega
    have n2:(↑n:Int)≤↑u.size:=by omega
    clear hbad hd;go_wp2_with fail;refine hf.mono ?_;clear hf;rintro e w1 ⟨rfl,rfl⟩;go_wp2_with (at_builtin;refine wpList_append_own _ rfl _ _ 119 rfl w.heap.size 21 i0 (.int .i32 0) 1 4 Tryz.underlying119 hi hz0 hz1 hz2 rfl (by decide) _ _ _ rfl (HO.out.alloc _) ⟨wr.heap.size,0,none⟩ 1 1 [.int .i32 r] rfl rfl ?c1 ?c2 ?c3 ?c4 ?c5 ?_)
    case c1=>
     intro j x hj;match j,hj with
     | 0,hj=>simp at hj;subst hj;simp[Addr.add]
    case c2=>intro x hx;simp at hx;subst hx;rfl
    case c3=>unfold maxLen;omega
    case c4=>omega
    case c5=>have:=hb.size;simp;omega
    intro v' w2 hown' hgrow _;have hb3:Below w.heap.size w w2:=hb.trans (Below.grown ((Below.refl _ _).alloc hb.size _) hgrow (by have:=hb.size;simp;omega) (fun c hc=>(HO.out.lt c hc).1));have HO3:=zh hown';clear hown' hgrow hb;go_wp2;go_roundw
    case rel=>
     refine⟨u.extract n u.size,rs++[(r:Int)],rfl,?_,hb3,?_,?_⟩
     ·have:(u.extract n u.size).size=u.size-n:=by rw[Lib.size_eq,extract_drop,List.length_drop,←Lib.size_eq]
      rw[List.length_append,this];show rs.length+1+_≤_;omega
     ·rw[List.length_append,List.map_append];exact HO3.out
     ·rw[HU.out,runes_step HNE.out HB.out,HD.out,extract_drop]
      simp[Option.map_map,Function.comp_def]
    case measure=>
     have:(u.extract n u.size).size=u.size-n:=by rw[Lib.size_eq,extract_drop,List.length_drop,←Lib.size_eq]
     simp[this];omega
  ·have hu:u.data.toList = []:=List.eq_nil_of_length_eq_zero (by rw[←Lib.size_eq];omega)
   have heq:(u.toList==[])=true:=by rw[Lib.toList_data,hu];rfl
   have HUU:=zh hu;clear hu;go_wp2;go_ret2;refine⟨.inr ⟨rs,_,?_,rfl,HO.out⟩,hb⟩;rw[HU.out,HUU.out,runes_nil];simp
end Go.Proofs.YtmihiknebelkbaaGreat
namespace Go.Proofs.YtmihiknebelkbaaGreat
open Go.RowKit Txt
theorem refletter_is (r:Int) (v:Bool) (h:letter r=v) (w:World):Calls Tryz.prog 83 #[.int .i32 r] w fun e w'=>e = .returned (.bool v)∧w=w':=by
 subst h;exact refletter_any r w
theorem right_some {l:List UInt8} {rs:List Int} (h:runes l=some rs):right l=(decide (1≤rs.length∧rs.length≤32)&&rs.all letter):=by unfold right nameOf;rw[h]
theorem right_none {l:List UInt8} (h:runes l=none):right l=false:=by unfold right nameOf;rw[h]
set_option maxRecDepth 1000000 in
theorem refright_any (s:ByteArray) (w:World) (hs:s.size≤2000000):
 Calls Tryz.prog 62 #[.string s] w fun e w'=>e = .returned (.bool (right s.data.toList))∧Below w.heap.size w w':=by
 go_enter Tryz.func62,Tryz.ntmps62;go_wp2_with fail;refine(refrunes_any s _ hs).mono ?_;rintro e w1 ⟨⟨hru,rfl⟩|⟨rs,v,hru,rfl,hown⟩,b1⟩
 ·have HU:=zh hru
  clear hru;go_wp2_with fail;go_ret;exact⟨ret_bool (right_none HU.out).symm,b1⟩
 ·obtain⟨_,ra,rcap,rfl,_,hrr⟩:=own_reads hown
  have HRR:=zh hrr;have HU:=zh (right_some hru);clear hrr hru hown;by_cases h1:(rs.length:Int)<1
  ·go_wp2_with fail
   go_ret;exact⟨ret_bool (by rw[HU.out,decide_eq_false (by omega)];rfl),b1⟩
  ·have h1':(1:Int)≤↑rs.length:=by omega
   clear h1;by_cases h32:(32:Int) < ↑rs.length
   ·go_wp2_with fail
    go_ret;exact⟨ret_bool (by rw[HU.out,decide_eq_false (by omega)];rfl),b1⟩
   ·have h32':(↑rs.length:Int)≤32:=by omega
    have HU2:=zh (show right s.data.toList=rs.all letter by rw[HU.out,decide_eq_true (by omega)];rfl);clear h32 HU;go_wp2_with fail;go_loop [5] (fun i=>∃k:Nat,k≤rs.length∧i = .int .i64 k∧(rs.take k).all letter=true) (fun i=>rs.length-(intOf i).toNat);case atStart=>exact⟨0,Nat.zero_le _,rfl,rfl⟩
    case round=>
     obtain⟨k,hk,rfl,hall⟩:=hrel;have HALL:=zh hall;clear hall;by_cases hlt:k<rs.length
     ·obtain⟨b,off,rfl,hblt,hcell⟩:=HRR.out k hlt
      obtain⟨z,hz⟩:∃z,rs.getD k 0=z:=⟨_,rfl⟩
      rw[hz]at hcell;have HZ:=zh hz;have k0:(0:Int)≤↑k:=by omega
      have k1:(↑k:Int) < ↑rs.length:=by omega
      clear hz hblt;cases hv:letter z with
      | true=>
       have HV:=zh hv;clear hv;go_wp2_with (go_at_call 83;refine(refletter_is z true HV.out _).mono ?_;rintro e w' ⟨rfl,rfl⟩);go_round;case rel=>exact⟨k+1,by omega,by go_num,all_take hlt HALL.out (by rw[HZ.out];exact HV.out)⟩
       case measure=>simp[intOf];omega
      | false=>
       have HV:=zh hv;clear hv;go_wp2_with (go_at_call 83;refine(refletter_is z false HV.out _).mono ?_;rintro e w' ⟨rfl,rfl⟩);go_ret;exact⟨ret_bool (by rw[HU2.out,all_not hlt (by rw[HZ.out];exact HV.out)]),b1⟩
     ·obtain rfl:k=rs.length:=by omega
      have hv:=HALL.out;rw[List.take_length]at hv;have HV:=zh hv;clear hv;go_wp2;go_ret;exact⟨ret_bool (by rw[HU2.out,HV.out]),b1⟩
theorem refright_is (s:ByteArray) (v:Bool) (h:right s.data.toList=v) (w:World) (hs:s.size≤2000000):Calls Tryz.prog 62 #[.string s] w fun e w'=>e = .returned (.bool v)∧Below w.heap.size w w':=by
 have:=refright_any s w hs;rw[h]at this;exact this
end Go.Proofs.YtmihiknebelkbaaGreat
namespace Go.Proofs.YtmihiknebelkbaaGreat
open Go.RowKit Txt
theorem at_byte (s:ByteArray) {k:Nat} (h:k<s.size):s.data.toList[k]? = some (s[k]'h):=by
 have hk:k<s.data.toList.length:=by rw[←Lib.size_eq];exact h
 rw[List.getElem?_eq_getElem hk];have e:=get_at s k h;rw[Nat.add_zero,←Lib.getD_get!']at e;rw[←e];simp only[List.getD,List.getElem?_eq_getElem hk,Option.getD_some]
theorem extract_take (s:ByteArray) (k:Nat):(s.extract 0 k).data.toList=s.data.toList.take k:=by
 rw[Lib.extract_data,List.drop_zero,Nat.sub_zero]
theorem bless_at:∀{a b:List UInt8} {k:Nat} {x y:UInt8},a.take k=b.take k→a[k]? = some x→b[k]? = some y→x≠y→Op.bytesLess a b=decide (x.toNat<y.toNat)
 | p::a,q::b,0,x,y,_,hx,hy,hne=>by
  simp only[List.getElem?_cons_zero,Option.some.injEq]at hx hy;subst hx hy;have e1:decide (p<q)=decide (p.toNat<q.toNat):=decide_eq_decide.2 UInt8.lt_iff_toNat_lt;have e2:(p==q)=false:=beq_eq_false_iff_ne.2 hne;simp only[Op.bytesLess,e1,e2,Bool.false_and,Bool.or_false]
 | p::a,q::b,k+1,x,y,ht,hx,hy,hne=>by
  simp only[List.take_succ_cons,List.cons.injEq]at ht;obtain⟨rfl,ht⟩:=ht;simp only[List.getElem?_cons_succ]at hx hy;simp[Op.bytesLess,bless_at ht hx hy hne]
theorem bless_end:∀{a b:List UInt8} {k:Nat},k≤a.length→k≤b.length→(k=a.length∨k=b.length)→a.take k=b.take k→Op.bytesLess a b=decide (a.length<b.length)
 | [],[],_,_,_,_,_=>rfl
 | [],y::b,_,_,_,_,_=>by simp[Op.bytesLess]
 | x::a,[],_,_,_,_,_=>by simp[Op.bytesLess]
 | x::a,y::b,0,_,_,h,_=>by simp at h
 | x::a,y::b,k+1,h1,h2,h,ht=>by
  simp only[List.take_succ_cons,List.cons.injEq]at ht;obtain⟨rfl,ht⟩:=ht;simp[Op.bytesLess,bless_end (k:=k) (by simpa using h1) (by simpa using h2) (by simpa using h) ht]
theorem take_bytes {a b:List UInt8} {k:Nat} {x:UInt8} (ht:a.take k=b.take k) (hx:a[k]? = some x) (hy:b[k]? = some x):a.take (k+1)=b.take (k+1):=by
 rw[List.take_add_one,List.take_add_one,ht,hx,hy]
set_option maxRecDepth 1000000 in
theorem refless_any (a b:ByteArray) (w:World) (sa:a.size≤2000000):Calls Tryz.prog 81 #[.string a,.string b] w fun e w'=>e = .returned (.bool (Op.bytesLess a.data.toList b.data.toList))∧Below w.heap.size w w':=by
 go_enter Tryz.func81,Tryz.ntmps81;go_wp2_with fail;go_loopw [5] (fun i wr=>∃k:Nat,k≤a.size∧k≤b.size∧i = .int .i64 k∧a.data.toList.take k=b.data.toList.take k∧Below w.heap.size w wr) (fun i _=>a.size-(intOf i).toNat);case atStart=>exact⟨0,Nat.zero_le _,Nat.zero_le _,rfl,rfl,Below.refl _ _⟩
 case round=>
  obtain⟨k,hk1,hk2,rfl,htk,hbel⟩:=hrel;have HTK:=zh htk;clear htk;by_cases hlt:k<a.size∧k<b.size
  ·obtain⟨hlt1,hlt2⟩:=hlt
   have hx:=at_byte a hlt1;have hy:=at_byte b hlt2;have k0:(0:Int)≤↑k:=by omega
   have k1:(↑k:Int) < ↑a.size:=by omega
   have k2:(↑k:Int) < ↑b.size:=by omega
   by_cases he:(a[k]'hlt1)=(b[k]'hlt2)
   ·have hne:(((a[k]'hlt1).toNat:Int) != ((b[k]'hlt2).toNat:Int))=false:=by rw[he];simp
    have HT2:=zh (take_bytes HTK.out hx (by rw[hy,he]));clear hx hy he;go_wp2_with fail;go_quiet (fail);go_wp2;go_roundw;case rel=>exact⟨k+1,by omega,by omega,by go_num,HT2.out,below_drewN hbel _⟩
    case measure=>simp[intOf];omega
   ·have hne:(((a[k]'hlt1).toNat:Int) != ((b[k]'hlt2).toNat:Int))=true:=by
     rw[bne_iff_ne];intro h;exact he (UInt8.toNat_inj.1 (by omega))
    have HB:=zh (bless_at HTK.out hx hy he);clear hx hy he;go_wp2_with fail;go_quiet (fail);go_wp2_with fail;go_quiet (fail);go_wp2_with fail;go_ret;exact⟨ret_bool (by rw[HB.out]),below_drewN (below_drewN hbel _) _⟩
  ·have hend:=bless_end (by rw[←Lib.size_eq];exact hk1) (by rw[←Lib.size_eq];exact hk2) (by rw[←Lib.size_eq,←Lib.size_eq];omega) HTK.out
   have HE:=zh hend;clear hend;by_cases ha:k<a.size
   ·have hb:¬k<b.size:=by omega
    clear hlt;go_wp2_with fail;go_ret;exact⟨ret_bool (by rw[HE.out,←Lib.size_eq,←Lib.size_eq]),hbel⟩
   ·clear hlt
    go_wp2_with fail;go_ret;exact⟨ret_bool (by rw[HE.out,←Lib.size_eq,←Lib.size_eq]),hbel⟩
end Go.Proofs.YtmihiknebelkbaaGreat
