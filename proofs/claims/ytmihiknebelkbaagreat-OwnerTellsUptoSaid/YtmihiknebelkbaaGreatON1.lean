/-
  N1. By an AI agent.
-/
import Derived.Test.YtmihiknebelkbaaGreatOZ
import Derived.Lib.TrimUEq
import Derived.Lib.RuneBytes
import Derived.Lib.Small
import Derived.Lib.Bytealg
import Derived.Lib.IndexLaws
import Derived.Laws.Cover4
import Derived.Laws.Strings
import Derived.WalkKit
import Derived.BigCall
import Derived.BigQuiet
import Derived.Deep.QuietTactic
import Derived.Lib.OthersKept
import Derived.Lib.Hide
import Derived.OpenShut
import Derived.StillTailTactics
import Derived.Laws.Rows
import Derived.OwnWalk
import Derived.IntWalk
import Derived.Deep.RegionHeld3
import Derived.Deep.AppendLies
import Derived.Deep.DeepFit
import Derived.Deep.DeepMust
import Derived.WalkSpells
import Derived.StillTactics
import Derived.Laws.Pointers
import Derived.WalkSmall
import Derived.Test.YtmihiknebelkbaaGreatOW1
set_option maxHeartbeats 4000000
namespace Go.Proofs.YtmihiknebelkbaaGreat.Txt
open Go.Lib
theorem enc_one {n:Nat} (h:n<128):encodeRune (n:Int) = [n.toUInt8]:=by
 rw[encodeRune,encodeRuneZ_one (by omega) (by omega)];simp
theorem enc_two {n:Nat} (h0:128≤n) (h1:n<2048):encodeRune (n:Int) = [(192+n/64).toUInt8,(128+n%64).toUInt8]:=by
 rw[encodeRune,encodeRuneZ_two (by omega) (by omega)];simp only[List.map_cons,List.map_nil];rw[show(192+(n:Int)/64).toNat=192+n/64 by omega,show(128+(n:Int)%64).toNat=128+n%64 by omega]
theorem enc_three {n:Nat} (h:(2048≤n∧n<55296)∨(57343<n∧n≤65535)):encodeRune (n:Int) = [(224+n/4096).toUInt8,(128+n/64%64).toUInt8,(128+n%64).toUInt8]:=by
 rw[encodeRune,encodeRuneZ_three (by omega)];simp only[List.map_cons,List.map_nil];rw[show(224+(n:Int)/4096).toNat=224+n/4096 by omega,show(128+(n:Int)/64%64).toNat=128+n/64%64 by omega,show(128+(n:Int)%64).toNat=128+n%64 by omega]
theorem enc_four {n:Nat} (h0:65536≤n) (h1:n≤1114111):encodeRune (n:Int) = [(240+n/262144).toUInt8,(128+n/4096%64).toUInt8,(128+n/64%64).toUInt8,(128+n%64).toUInt8]:=by
 rw[encodeRune,encodeRuneZ_four (by omega) (by omega)];simp only[List.map_cons,List.map_nil];rw[show(240+(n:Int)/262144).toNat=240+n/262144 by omega,show(128+(n:Int)/4096%64).toNat=128+n/4096%64 by omega,show(128+(n:Int)/64%64).toNat=128+n/64%64 by omega,show(128+(n:Int)%64).toNat=128+n%64 by omega]
theorem nat_valid {n:Nat} (h:n<55296∨(57343<n∧n≤1114111)):validRune (n:Int)=true:=decide_eq_true (by omega)
theorem enc_len (r:Int):1≤(encodeRune r).length∧(encodeRune r).length≤4:=by
 have h1:=runeCells_le r;rwa [runeCells_length]at h1
theorem u8_eq {a:UInt8} {n:Nat} (h:a.toNat=n):n.toUInt8=a:=by
 subst h;simp
set_option maxRecDepth 100000 in
theorem enc_dec (l:List UInt8) (hne:l≠[]) (hb:decodeL l≠(65533,1)):
 encodeRune ((decodeL l).1:Int)++l.drop (decodeL l).2=l∧(encodeRune ((decodeL l).1:Int)).length=(decodeL l).2∧validRune ((decodeL l).1:Int)=true:=by
 obtain⟨a,t,rfl⟩:=List.exists_cons_of_ne_nil hne;have ha:=a.toNat_lt;rw[decodeL_N]at hb⊢;simp only[List.getD_cons_zero,List.getD_cons_succ,List.length_cons]at hb⊢;by_cases h1:a.toNat<128
 ·have e:decodeN (t.length+1) a.toNat (t.getD 0 0).toNat (t.getD 1 0).toNat (t.getD 2 0).toNat=(a.toNat,1):=by simp[decodeN,h1]
  rw[e];simp only[enc_one h1,u8_eq rfl,List.drop_succ_cons,List.drop_zero,List.cons_append,List.nil_append,List.length_cons,List.length_nil,true_and];exact nat_valid (by omega)
 ·by_cases h2:a.toNat/32=6
  ·rcases t with _|⟨b,t⟩
   ·exact absurd (by simp[decodeN,h1]) hb
   ·simp only[List.getD_cons_zero,List.getD_cons_succ,List.length_cons]at hb⊢
    have hB:=b.toNat_lt;by_cases c1:b.toNat/64=2∧a.toNat%32*64+b.toNat%64≥128
    ·have e:decodeN (t.length+1+1) a.toNat b.toNat (t.getD 0 0).toNat (t.getD 1 0).toNat=(a.toNat%32*64+b.toNat%64,2):=by
      unfold decodeN;repeat' split
      all_goals first|(exfalso;omega)|(apply Prod.ext<;>simp only<;>omega)
     rw[e];simp only[enc_two c1.2 (by omega),List.drop_succ_cons,List.drop_zero,List.cons_append,List.nil_append,List.length_cons,List.length_nil,true_and];refine⟨?_,nat_valid (by omega)⟩;rw[u8_eq (a:=a) (by omega),u8_eq (a:=b) (by omega)]
    ·refine absurd ?_ hb
     unfold decodeN;repeat' split
     all_goals first|(exfalso;omega)|rfl
  ·by_cases h3:a.toNat/16=14
   ·rcases t with _|⟨b,_|⟨c,t⟩⟩
    ·refine absurd ?_ hb
     unfold decodeN;repeat' split
     all_goals first|(exfalso;simp only[List.length_nil]at *;omega)|rfl
    ·refine absurd ?_ hb
     unfold decodeN;repeat' split
     all_goals first|(exfalso;simp only[List.length_cons,List.length_nil]at *;omega)|rfl
    ·simp only[List.getD_cons_zero,List.getD_cons_succ,List.length_cons]at hb⊢
     have hB:=b.toNat_lt;have hC:=c.toNat_lt;by_cases c1:b.toNat/64=2∧c.toNat/64=2∧(a.toNat%16*4096+b.toNat%64*64+c.toNat%64≥2048∧(a.toNat%16*4096+b.toNat%64*64+c.toNat%64<55296∨(57344≤a.toNat%16*4096+b.toNat%64*64+c.toNat%64∧a.toNat%16*4096+b.toNat%64*64+c.toNat%64≤1114111)))
     ·have e:decodeN (t.length+1+1+1) a.toNat b.toNat c.toNat (t.getD 0 0).toNat=(a.toNat%16*4096+b.toNat%64*64+c.toNat%64,3):=by
       unfold decodeN;repeat' split
       all_goals first|(exfalso;omega)|(apply Prod.ext<;>simp only<;>omega)
      rw[e];simp only[enc_three (n:=a.toNat%16*4096+b.toNat%64*64+c.toNat%64) (by omega),List.drop_succ_cons,List.drop_zero,List.cons_append,List.nil_append,List.length_cons,List.length_nil,true_and];refine⟨?_,nat_valid (by omega)⟩;rw[u8_eq (a:=a) (by omega),u8_eq (a:=b) (by omega),u8_eq (a:=c) (by omega)]
     ·refine absurd ?_ hb
      unfold decodeN;repeat' split
      all_goals first|(exfalso;omega)|rfl
   ·by_cases h4:a.toNat/8=30
    ·rcases t with _|⟨b,_|⟨c,_|⟨d,t⟩⟩⟩
     ·refine absurd ?_ hb
      unfold decodeN;repeat' split
      all_goals first|(exfalso;simp only[List.length_nil]at *;omega)|rfl
     ·refine absurd ?_ hb
      unfold decodeN;repeat' split
      all_goals first|(exfalso;simp only[List.length_cons,List.length_nil]at *;omega)|rfl
     ·refine absurd ?_ hb
      unfold decodeN;repeat' split
      all_goals first|(exfalso;simp only[List.length_cons,List.length_nil]at *;omega)|rfl
     ·simp only[List.getD_cons_zero,List.getD_cons_succ,List.length_cons]at hb⊢
      have hB:=b.toNat_lt;have hC:=c.toNat_lt;have hD:=d.toNat_lt;by_cases c1:b.toNat/64=2∧c.toNat/64=2∧d.toNat/64=2∧(a.toNat%8*262144+b.toNat%64*4096+c.toNat%64*64+d.toNat%64≥65536∧a.toNat%8*262144+b.toNat%64*4096+c.toNat%64*64+d.toNat%64≤1114111)
      ·have e:decodeN (t.length+1+1+1+1) a.toNat b.toNat c.toNat d.toNat=(a.toNat%8*262144+b.toNat%64*4096+c.toNat%64*64+d.toNat%64,4):=by
        unfold decodeN;repeat' split
        all_goals first|(exfalso;omega)|(apply Prod.ext<;>simp only<;>omega)
       rw[e];simp only[enc_four (n:=a.toNat%8*262144+b.toNat%64*4096+c.toNat%64*64+d.toNat%64) (by omega) (by omega),List.drop_succ_cons,List.drop_zero,List.cons_append,List.nil_append,List.length_cons,List.length_nil,true_and];refine⟨?_,nat_valid (by omega)⟩;rw[u8_eq (a:=a) (by omega),u8_eq (a:=b) (by omega),u8_eq (a:=c) (by omega),u8_eq (a:=d) (by omega)]
      ·refine absurd ?_ hb
       unfold decodeN;repeat' split
       all_goals first|(exfalso;omega)|rfl
    ·refine absurd ?_ hb
     unfold decodeN;repeat' split
     all_goals first|(exfalso;omega)|rfl
end Go.Proofs.YtmihiknebelkbaaGreat.Txt
namespace Go.Proofs.YtmihiknebelkbaaGreat.Txt
open Go.Lib
theorem dec_le (l:List UInt8) (hne:l≠[]):(decodeL l).2≤l.length:=by
 by_cases hb:decodeL l=(65533,1)
 ·have:=List.length_pos_iff.2 hne
  rw[hb];exact this
 ·obtain⟨h1,h2,_⟩:=enc_dec l hne hb
  have:=congrArg List.length h1;rw[List.length_append]at this;omega
theorem drop_lt (l:List UInt8) (hne:l≠[]):(l.drop (decodeL l).2).length<l.length:=by
 have h1:=decodeL_width l;have h2:=List.length_pos_iff.2 hne;rw[List.length_drop];omega
def runesF:Nat→List UInt8→Option (List Int)
 | 0,_=>some []
 | f+1,l=>if l = []then some []else if decodeL l=(65533,1)then none else(runesF f (l.drop (decodeL l).2)).map fun rs=>((decodeL l).1:Int)::rs
def runes (l:List UInt8):Option (List Int):=runesF l.length l
theorem runesF_fuel:∀(f g:Nat) (l:List UInt8),l.length≤f→l.length≤g→runesF f l=runesF g l
 | 0,0,_,_,_=>rfl
 | 0,g+1,l,hf,_=>by
  have:l = []:=List.eq_nil_of_length_eq_zero (by omega);simp[this,runesF]
 | f+1,0,l,_,hg=>by
  have:l = []:=List.eq_nil_of_length_eq_zero (by omega);simp[this,runesF]
 | f+1,g+1,l,hf,hg=>by
  unfold runesF;by_cases hne:l = []
  ·simp[hne]
  ·have:=drop_lt l hne
   rw[runesF_fuel f g _ (by omega) (by omega)]
theorem runes_nil:runes []=some []:=rfl
theorem runes_bad {l:List UInt8} (hne:l≠[]) (hb:decodeL l=(65533,1)):runes l=none:=by
 obtain⟨a,t,rfl⟩:=List.exists_cons_of_ne_nil hne;simp only[runes,List.length_cons,runesF,if_neg hne,if_pos hb]
theorem runes_step {l:List UInt8} (hne:l≠[]) (hb:decodeL l≠(65533,1)):runes l=(runes (l.drop (decodeL l).2)).map fun rs=>((decodeL l).1:Int)::rs:=by
 have hlt:=drop_lt l hne;obtain⟨n,hn⟩:∃n,l.length=n+1:=⟨l.length-1,by omega⟩
 unfold runes;rw[hn];simp only[runesF,if_neg hne,if_neg hb];rw[runesF_fuel n _ _ (by omega) zl]
def enc (rs:List Int):List UInt8:=rs.flatMap encodeRune
theorem enc_cons (r:Int) (rs:List Int):enc (r::rs)=encodeRune r++enc rs:=rfl
theorem enc_runes:∀(n:Nat) {l:List UInt8} {rs:List Int},l.length≤n→runes l=some rs→enc rs=l∧∀r∈rs,validRune r=true
 | 0,l,rs,hn,h=>by
  obtain rfl:l = []:=List.eq_nil_of_length_eq_zero (by omega);rw[runes_nil]at h;obtain rfl:=Option.some.inj h;simp[enc]
 | n+1,l,rs,hn,h=>by
  by_cases hne:l = []
  ·subst hne
   rw[runes_nil]at h;obtain rfl:=Option.some.inj h;simp[enc]
  ·by_cases hb:decodeL l=(65533,1)
   ·rw[runes_bad hne hb]at h;cases h
   ·rw[runes_step hne hb]at h
    obtain⟨q,hq,rfl⟩:=Option.map_eq_some_iff.1 h;have hlt:=drop_lt l hne;obtain⟨e1,e2⟩:=enc_runes n (by omega) hq;obtain⟨d1,_,d3⟩:=enc_dec l hne hb;refine⟨by rw[enc_cons,e1,d1],fun r hr=>?_⟩;rcases List.mem_cons.1 hr with rfl|hr
    ·exact d3
    ·exact e2 r hr
theorem runes_some {l:List UInt8} {rs:List Int} (h:runes l=some rs):enc rs=l∧∀r∈rs,validRune r=true:=enc_runes _ zl h
theorem enc_le (rs:List Int):rs.length≤(enc rs).length∧(enc rs).length≤4*rs.length:=by
 induction rs with
 | nil=>simp[enc]
 | cons r rs ih=>
  have:=enc_len r;rw[enc_cons,List.length_append,List.length_cons];omega
def letter (r:Int):Bool:=decide ((97≤r∧r≤122)∨(48≤r∧r≤57)∨r=45∨(223≤r∧r≤246)∨(248≤r∧r≤255)∨(945≤r∧r≤969)∨(1072≤r∧r≤1103))
def nameOf (o:Option (List Int)):Bool:=match o with
 | some rs=>decide (1≤rs.length∧rs.length≤32)&&rs.all letter
 | none=>false
def right (l:List UInt8):Bool:=nameOf (runes l)
def nameOfN (many:Nat) (o:Option (List Int)):Bool:=match o with
 | some rs=>decide (1≤many+rs.length∧many+rs.length≤32)&&rs.all letter
 | none=>false
theorem right_runes {l:List UInt8} (h:right l=true):∃rs,runes l=some rs∧1≤rs.length∧rs.length≤32∧(∀r∈rs,letter r=true)∧enc rs=l:=by
 unfold right nameOf at h;cases hr:runes l with
 | none=>rw[hr]at h;cases h
 | some rs=>
  rw[hr]at h;simp only[Bool.and_eq_true,decide_eq_true_eq,List.all_eq_true]at h;exact⟨rs,rfl,h.1.1,h.1.2,h.2,(runes_some hr).1⟩
theorem decode_drop (s:ByteArray) (pos:Nat):Utf8.decode s pos=decodeL (s.data.toList.drop pos):=(Lib.decodeL_drop s pos).symm
theorem drop_ne (s:ByteArray) {pos:Nat} (h:pos<s.size):s.data.toList.drop pos≠[]:=by
 intro h0;have:=congrArg List.length h0;rw[List.length_drop,←Lib.size_eq]at this;simp at this;omega
theorem drop_end (s:ByteArray) {pos:Nat} (h:¬pos<s.size):s.data.toList.drop pos = []:=List.drop_eq_nil_of_le (by rw[←Lib.size_eq];omega)
theorem nameN_step {l:List UInt8} {many:Nat} (hne:l≠[]) (hl:letter ((decodeL l).1:Int)=true):nameOfN many (runes l)=nameOfN (many+1) (runes (l.drop (decodeL l).2)):=by
 by_cases hb:decodeL l=(65533,1)
 ·rw[hb]at hl;simp[letter]at hl
 ·rw[runes_step hne hb]
  cases hq:runes (l.drop (decodeL l).2)with
  | none=>rfl
  | some q=>
   simp only[nameOfN,Option.map_some,List.all_cons,hl,Bool.true_and,List.length_cons];congr 1;exact decide_eq_decide.2 (by omega)
theorem nameN_not {l:List UInt8} {many:Nat} (hne:l≠[]) (hl:letter ((decodeL l).1:Int)=false):nameOfN many (runes l)=false:=by
 by_cases hb:decodeL l=(65533,1)
 ·rw[runes_bad hne hb];rfl
 ·rw[runes_step hne hb]
  cases hq:runes (l.drop (decodeL l).2)with
  | none=>rfl
  | some q=>simp[nameOfN,hl]
theorem nameN_many {l:List UInt8} {many:Nat} (hne:l≠[]) (hm:32<many+1):nameOfN many (runes l)=false:=by
 by_cases hb:decodeL l=(65533,1)
 ·rw[runes_bad hne hb];rfl
 ·rw[runes_step hne hb]
  cases hq:runes (l.drop (decodeL l).2)with
  | none=>rfl
  | some q=>
   simp only[nameOfN,Option.map_some,List.length_cons,Bool.and_eq_false_iff];exact .inl (decide_eq_false (by omega))
theorem right_N (l:List UInt8):nameOfN 0 (runes l)=right l:=by
 unfold right nameOf nameOfN;cases runes l<;>simp
theorem right_len {l:List UInt8} (h:right l=true):1≤l.length∧l.length≤128:=by
 obtain⟨rs,_,h1,h2,_,rfl⟩:=right_runes h;have:=enc_le rs;omega
def cutAt:List UInt8→Option (List UInt8×List UInt8)
 | []=>none
 | b::l=>if b=47 then some ([],l)else(cutAt l).map fun p=>(b::p.1,p.2)
def split (l:List UInt8):Option (List UInt8×List UInt8):=match cutAt l with
 | none=>none
 | some (a,b)=>if right a=true∧right b=true then some (a,b)else none
def path (a b:List UInt8):Option (List UInt8):=if right a=true∧right b=true then some (a++47::b)else none
end Go.Proofs.YtmihiknebelkbaaGreat.Txt
namespace Go.Proofs.YtmihiknebelkbaaGreat.Txt
open Go.Lib
end Go.Proofs.YtmihiknebelkbaaGreat.Txt
namespace Go.Proofs.YtmihiknebelkbaaGreat
open Go.RowKit Txt
theorem ret_bool {a b:Bool} (h:a=b):Ending.returned (.bool a) = .returned (.bool b):=by rw[h]
theorem bdrew {B:Nat} (w:World) (n:Nat):Below B w (w.drewN n):=⟨rfl,rfl,rfl,Nat.le_refl _,fun _ _=>rfl⟩
theorem app_data (a b:ByteArray):(a++b).data.toList=a.data.toList++b.data.toList:=by
 show(a.append b).data.toList=_;simp
theorem small_any (r:Int) (w:World):Calls Tryz.prog 73 #[.int .i32 r] w fun e w'=>e = .returned (.bool (letter r))∧w=w':=by
 go_enter Tryz.func73,Tryz.ntmps73;go_wp2;all_goals go_ret
 all_goals refine⟨ret_bool ?_,rfl⟩
 all_goals unfold letter
 all_goals symm
 all_goals try simp only[beq_iff_eq,beq_eq_false_iff_ne,ne_eq]at *
 all_goals first
  | (apply decide_eq_true;omega)
  | (apply decide_eq_false;omega)
theorem less_any (a b:ByteArray) (w:World):Calls Tryz.prog 94 #[.string a,.string b] w fun e w'=>e = .returned (.bool (Op.bytesLess a.data.toList b.data.toList))∧w=w':=by
 go_enter Tryz.func94,Tryz.ntmps94;go_wp2;go_ret;exact⟨by simp[Lib.toList_data],rfl⟩
set_option maxRecDepth 1000000 in
theorem right_any (s:ByteArray) (w:World):Calls Tryz.prog 54 #[.string s] w fun e w'=>e = .returned (.bool (right s.data.toList))∧Below w.heap.size w w':=by
 go_enter Tryz.func54,Tryz.ntmps54;go_wp2;go_loopw [3] (fun n w'=>∃(pos k:Nat),w'=w.iter s pos∧n = .int .i64 k∧k≤32∧nameOfN k (runes (s.data.toList.drop pos))=right s.data.toList) (fun _ w'=>s.size-w'.iterPos w.heap.size);case atStart=>exact⟨0,0,rfl,rfl,by omega,by rw[List.drop_zero];exact right_N _⟩
 case round=>
  obtain⟨pos,k,rfl,rfl,hk,hr⟩:=hrel;have HR:=zh hr;clear hr;by_cases hp:pos<s.size
  ·have hnx:∀ty,(Instr.next (.pointer (some ⟨w.heap.size,0,none⟩)) true ty).run Tryz.prog (w.iter s pos)=_:=fun ty=>run_next_any w s pos ty hp
   have hwd:=Lib.width_pos s pos;have hd1:=decode_le s pos;have hne:=drop_ne s hp;by_cases h32:(32:Int) < ↑k+1
   ·go_wp2_with fail
    go_ret;refine⟨ret_bool ?_,(Below.refl _ _).alloc zl _⟩;rw[←HR.out,nameN_many hne (by omega)]
   ·cases hl:letter ((Utf8.decode s pos).1:Int)with
    | true=>
     have HL:=zh hl;clear hl;go_wp2_with (go_at_call 73;refine(small_any _ _).mono ?_;rintro e w' ⟨rfl,rfl⟩;rw[HL.out]);go_roundw
     case rel=>
      refine⟨pos+(Utf8.decode s pos).2,k+1,rfl,by go_num,by omega,?_⟩;rw[←HR.out];have HL2:=HL.out;rw[decode_drop]at HL2⊢;rw[nameN_step hne HL2,List.drop_drop]
     case measure=>
      simp;omega
    | false=>
     have HL:=zh hl;clear hl;go_wp2_with (go_at_call 73;refine(small_any _ _).mono ?_;rintro e w' ⟨rfl,rfl⟩;rw[HL.out]);go_ret;refine⟨ret_bool ?_,(Below.refl _ _).alloc zl _⟩;have HL2:=HL.out;rw[decode_drop]at HL2;rw[←HR.out,nameN_not hne HL2]
  ·have hnx:∀ty,(Instr.next (.pointer (some ⟨w.heap.size,0,none⟩)) true ty).run Tryz.prog (w.iter s pos)=_:=fun ty=>run_next_end w s pos ty hp
   go_wp2;go_ret;refine⟨ret_bool ?_,(Below.refl _ _).alloc zl _⟩;rw[←HR.out,drop_end s hp,runes_nil];simp only[nameOfN,List.length_nil,List.all_nil,Bool.and_true];exact decide_eq_decide.2 (by omega)
end Go.Proofs.YtmihiknebelkbaaGreat
namespace Go.Proofs.YtmihiknebelkbaaGreat
open Go.RowKit Txt
end Go.Proofs.YtmihiknebelkbaaGreat
namespace Go.Proofs.YtmihiknebelkbaaGreat
open Go.RowKit Txt
def Reads (k:IntKind) (w:World) (a:Option Addr) (zs:List Int):Prop:=
 ∀j,j<zs.length→∃b off,a=some ⟨b,off,none⟩∧b<w.heap.size∧w.cell? ⟨b,off+j,none⟩=some (.int k (zs.getD j 0))
theorem Reads.below {k:IntKind} {w w':World} {a:Option Addr} {zs:List Int} (h:Reads k w a zs) (hb:Below w.heap.size w w'):Reads k w' a zs:=fun j hj=>by
 obtain⟨b,off,e,hlt,hc⟩:=h j hj;exact⟨b,off,e,Nat.lt_of_lt_of_le hlt hb.size,by rw[hb.cell (p:=⟨b,off+j,none⟩) hlt];exact hc⟩
theorem all_take {p:Int→Bool} {zs:List Int} {k:Nat} (hk:k<zs.length) (h:(zs.take k).all p=true) (hp:p (zs.getD k 0)=true):(zs.take (k+1)).all p=true:=by
 rw[List.take_succ_eq_append_getElem hk,List.all_append,h];have:zs.getD k 0=zs[k]:=by simp[List.getD,hk]
 rw[this]at hp;simp[hp]
theorem all_not {p:Int→Bool} {zs:List Int} {k:Nat} (hk:k<zs.length) (hp:p (zs.getD k 0)=false):zs.all p=false:=by
 have:zs.getD k 0=zs[k]:=by simp[List.getD,hk]
 rw[this]at hp;exact List.all_eq_false.2 ⟨zs[k],List.getElem_mem hk,by simp[hp]⟩
theorem refvalid_any (r:Int) (w:World):Calls Tryz.prog 111 #[.int .i32 r] w fun e w'=>e = .returned (.bool (Lib.validRune r))∧w=w':=by
 go_enter Tryz.func111,Tryz.ntmps111;go_wp2;all_goals go_ret
 all_goals refine⟨ret_bool ?_,rfl⟩
 all_goals unfold Lib.validRune
 all_goals symm
 all_goals first
  | (apply decide_eq_true;omega)
  | (apply decide_eq_false;omega)
  | (rw[←Bool.decide_or];exact decide_eq_decide.2 (by omega))
theorem refvalid_call (r:Int) (v:Bool) (h:Lib.validRune r=v) (w:World):Calls Tryz.prog 111 #[.int .i32 r] w fun e w'=>e = .returned (.bool v)∧w=w':=by
 have:=refvalid_any r w;rw[h]at this;exact this
end Go.Proofs.YtmihiknebelkbaaGreat
namespace Go.Proofs.YtmihiknebelkbaaGreat
open Go.RowKit Txt
def fr (k:Nat):Int:=[97,48,223,248,945,1072,45].getD k 0
theorem own_reads {k:IntKind} {w:World} {base:Nat} {e:TypeId} {v:Value} {n:Nat} {zs:List Int} (h:w.ownsRow base e 1 v n (zs.map (Value.int k))):
 zs.length=n∧∃a cap,v = .slice a zs.length cap∧zs.length≤cap∧Reads k w a zs:=by
 have hl:zs.length=n:=by have:=h.1;simpa using this
 refine⟨hl,?_⟩;rcases h.2 with⟨rfl,rfl⟩|⟨g,cap,cur,rfl,_,hgg,hnc,_,_,_⟩
 ·exact⟨none,0,by rw[hl],by omega,fun j hj=>by omega⟩
 ·refine⟨some ⟨g,0,none⟩,cap,by rw[hl],by omega,fun j hj=>⟨g,0,rfl,(Array.getElem?_eq_some_iff.1 hgg).1,?_⟩⟩
  have:=h.cells (g:=g) rfl j (.int k (zs.getD j 0)) (by simp[List.getD,hj]);rw[show((⟨g,0,none⟩:Addr).add j)=⟨g,0+j,none⟩from by unfold Addr.add;split<;>simp_all]at this;exact this
theorem info32:(Tryz.prog.info? 21).map (fun i=>(i.zero,i.size,i.bytes))=some (some (.int .i32 0),1,4):=by kernel_rfl
def w3 (w:World):World:=((w.alloc (.cells #[.int .i32 97,.int .i32 48,.int .i32 223,.int .i32 248,.int .i32 945,.int .i32 1072,.int .i32 45] 21)).alloc
 (.cells #[.int .i64 26,.int .i64 10,.int .i64 24,.int .i64 8,.int .i64 25,.int .i64 32,.int .i64 1] 3)).alloc (.cells #[.int .i32 110] 21)
end Go.Proofs.YtmihiknebelkbaaGreat
namespace Go.Proofs.YtmihiknebelkbaaGreat
open Go.RowKit Txt
def Runed (w:World) (base:Nat) (l:List UInt8) (e:Ending):Prop:=
 (runes l=none∧e = .returned (.tuple #[.slice none 0 0,.int .i64 2])) ∨
 ∃rs v,runes l=some rs∧e = .returned (.tuple #[v,.int .i64 0])∧w.ownsRow base 21 1 v rs.length (rs.map (Value.int .i32))
theorem extract_drop (s:ByteArray) (pos:Nat):(s.extract pos s.size).data.toList=s.data.toList.drop pos:=by
 rw[Lib.extract_data,List.take_of_length_le (by rw[List.length_drop,←Lib.size_eq];exact Nat.le_refl _)]
end Go.Proofs.YtmihiknebelkbaaGreat
namespace Go.Proofs.YtmihiknebelkbaaGreat
open Go.RowKit Txt
def firstR (l:List UInt8):Nat×Nat:=if l = []then(0,0)else if Lib.decodeL l=(65533,1)then(0,0)else Lib.decodeL l
theorem firstR_bad {l:List UInt8} (h:Lib.decodeL l=(65533,1)):firstR l=(0,0):=by
 unfold firstR;by_cases hl:l = []
 ·rw[if_pos hl]
 ·rw[if_neg hl,if_pos h]
theorem firstR_ok {l:List UInt8} {p:Nat×Nat} (hne:l≠[]) (h:Lib.decodeL l=p) (hp:p≠(65533,1)):firstR l=p:=by
 unfold firstR;rw[if_neg hne,if_neg (by rw[h];exact hp),h]
def accN (c:Nat) (b:Nat→Nat):Nat→Nat
 | 0=>c
 | k+1=>64*accN c b k+(b (k+1)-128)
theorem accN_le (c:Nat) (b:Nat→Nat) (hc:c<32) (hb:∀k,b k<256):accN c b 1<4096∧accN c b 2<300000∧accN c b 3<20000000:=by
 have h1:=hb 1;have h2:=hb 2;have h3:=hb 3;have e1:accN c b 1=64*c+(b 1-128):=rfl;have e2:accN c b 2=64*accN c b 1+(b 2-128):=rfl;have e3:accN c b 3=64*accN c b 2+(b 3-128):=rfl;omega
def byteAt (s:ByteArray) (k:Nat):Nat:=(s.data.toList.getD k 0).toNat
theorem byteAt_lt (s:ByteArray) (k:Nat):byteAt s k<256:=UInt8.toNat_lt _
theorem byteAt_is (s:ByteArray) {k:Nat} (h:k<s.size):(s[k]'h).toNat=byteAt s k:=by
 unfold byteAt;rw[Lib.getD_get!',←get_at s k h];rfl
theorem dec_bytes (s:ByteArray):Lib.decodeL s.data.toList=Lib.decodeN s.size (byteAt s 0) (byteAt s 1) (byteAt s 2) (byteAt s 3):=by
 rw[Lib.decodeL_N,←Lib.size_eq];rfl
theorem list_ne {s:ByteArray} (h0:0<s.size):s.data.toList≠[]:=by
 intro h;have h1:s.size=0:=by rw[Lib.size_eq,h];rfl
 omega
theorem not_empty {s:ByteArray} (h0:0<s.size):(s.toList==[])=false:=by
 rw[Lib.toList_data];cases h:s.data.toList with
 | nil=>exact absurd h (list_ne h0)
 | cons a t=>rfl
def Firsts (s:ByteArray) (e:Ending):Prop:=e = .returned (.tuple #[.int .i32 ((firstR s.data.toList).1:Int),.int .i64 ((firstR s.data.toList).2:Int)])
theorem firsts_bad {s:ByteArray} (h:Lib.decodeL s.data.toList=(65533,1)):Firsts s (.returned (.tuple #[.int .i32 0,.int .i64 0])):=by
 unfold Firsts;rw[firstR_bad h];rfl
theorem firsts_ok {s:ByteArray} {r n:Nat} (hne:s.data.toList≠[]) (h:Lib.decodeL s.data.toList=(r,n)) (hp:(r,n)≠(65533,1)):Firsts s (.returned (.tuple #[.int .i32 r,.int .i64 n])):=by
 unfold Firsts;rw[firstR_ok hne h hp]
end Go.Proofs.YtmihiknebelkbaaGreat
