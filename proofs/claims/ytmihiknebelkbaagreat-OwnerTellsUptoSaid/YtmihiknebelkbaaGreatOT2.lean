/-
  T2. By an AI agent.
-/
import Derived.Test.YtmihiknebelkbaaGreatOZ
import Derived.Test.YtmihiknebelkbaaGreatOT1
import Derived.Test.YtmihiknebelkbaaGreatOW1
import Derived.Test.YtmihiknebelkbaaGreatOW0
set_option maxHeartbeats 2000000
namespace Go.Proofs.YtmihiknebelkbaaGreat.Term
open Go.RowKit Wire
end Go.Proofs.YtmihiknebelkbaaGreat.Term
namespace Go.Proofs.YtmihiknebelkbaaGreat.Term
open Go.RowKit Wire
def Shp (l:List UInt8) (v:Value):Prop:=
 (∃n:Nat,n<18446744073709551616∧l=97::put n∧v = .iface 159 (.agg #[.int .u64 n])) ∨
 (∃W:ByteArray,W.size≤4000∧l=116::putText W.data.toList∧v = .iface 161 (.agg #[.string W])) ∨
 (∃P:ByteArray,right P.data.toList=true∧l=104::P.data.toList∧v = .iface 163 (.agg #[.string P])) ∨
 (∃P:ByteArray,right P.data.toList=true∧l=117::P.data.toList∧v = .iface 165 (.agg #[.string P])) ∨
 (∃P Q:ByteArray,(right P.data.toList=true∧right Q.data.toList=true)∧l=112::(P.data.toList++Q.data.toList)∧v = .iface 167 (.agg #[.string P,.string Q])) ∨
 (∃P Q:ByteArray,(right P.data.toList=true∧right Q.data.toList=true)∧l=115::(P.data.toList++Q.data.toList)∧v = .iface 169 (.agg #[.string P,.string Q])) ∨
 (∃P Q:ByteArray,(right P.data.toList=true∧right Q.data.toList=true)∧l=103::(P.data.toList++Q.data.toList)∧v = .iface 171 (.agg #[.string P,.string Q])) ∨
 (∃P Q:ByteArray,(right P.data.toList=true∧right Q.data.toList=true∧P.data.toList.head? = some 117)∧l=98::(P.data.toList++Q.data.toList)∧v = .iface 174 (.agg #[.string P,.string Q]))
theorem Shp.atom (n:Nat) (hn:n<18446744073709551616):Shp (97::put n) (.iface 159 (.agg #[.int .u64 n])):=.inl ⟨n,hn,rfl,rfl⟩
theorem Shp.text (W:ByteArray) (h:W.size≤4000):Shp (116::putText W.data.toList) (.iface 161 (.agg #[.string W])):=.inr (.inl ⟨W,h,rfl,rfl⟩)
theorem Shp.hash (P:ByteArray) (h:right P.data.toList=true):Shp (104::P.data.toList) (.iface 163 (.agg #[.string P])):=.inr (.inr (.inl ⟨P,h,rfl,rfl⟩))
theorem Shp.pub (P:ByteArray) (h:right P.data.toList=true):Shp (117::P.data.toList) (.iface 165 (.agg #[.string P])):=.inr (.inr (.inr (.inl ⟨P,h,rfl,rfl⟩)))
theorem Shp.pair (P Q:ByteArray) (h:right P.data.toList=true) (h2:right Q.data.toList=true):Shp (112::(P.data.toList++Q.data.toList)) (.iface 167 (.agg #[.string P,.string Q])):=.inr (.inr (.inr (.inr (.inl ⟨P,Q,⟨h,h2⟩,rfl,rfl⟩))))
theorem Shp.sealed (P Q:ByteArray) (h:right P.data.toList=true) (h2:right Q.data.toList=true):Shp (115::(P.data.toList++Q.data.toList)) (.iface 169 (.agg #[.string P,.string Q])):=.inr (.inr (.inr (.inr (.inr (.inl ⟨P,Q,⟨h,h2⟩,rfl,rfl⟩)))))
theorem Shp.signed (P Q:ByteArray) (h:right P.data.toList=true) (h2:right Q.data.toList=true):Shp (103::(P.data.toList++Q.data.toList)) (.iface 171 (.agg #[.string P,.string Q])):=.inr (.inr (.inr (.inr (.inr (.inr (.inl ⟨P,Q,⟨h,h2⟩,rfl,rfl⟩))))))
theorem Shp.boxed (P Q:ByteArray) (h:right P.data.toList=true) (h2:right Q.data.toList=true) (h3:P.data.toList.head? = some 117):Shp (98::(P.data.toList++Q.data.toList)) (.iface 174 (.agg #[.string P,.string Q])):=.inr (.inr (.inr (.inr (.inr (.inr (.inr ⟨P,Q,⟨h,h2,h3⟩,rfl,rfl⟩))))))
theorem Shp.head {l:List UInt8} {T:TypeId} {a:Value} (h:Shp l (.iface T a)):(T=165∧l.head? = some 117)∨(T≠165∧l.head?≠some 117):=by
 rcases h with⟨_,_,hl,h⟩|⟨_,_,hl,h⟩|⟨_,_,hl,h⟩|⟨_,_,hl,h⟩|⟨_,_,_,hl,h⟩|⟨_,_,_,hl,h⟩|⟨_,_,_,hl,h⟩|⟨_,_,_,hl,h⟩
 case inr.inr.inr.inl=>injection h with h1 _;exact .inl ⟨h1,by rw[hl];rfl⟩
 all_goals (injection h with h1 _;exact .inr ⟨by rw[h1];decide,by rw[hl];simp⟩)
theorem nil_no (w:World) (T:TypeId) (a:Value):(binOp .eql 113 (.iface T a) .nilIface).run Tryz.prog w = .ok (.bool false) w:=by kernel_rfl
theorem nil_yes (w:World):(binOp .eql 113 .nilIface .nilIface).run Tryz.prog w = .ok (.bool true) w:=by kernel_rfl
theorem zero_publicOne (w:World):(do pure (Value.tuple #[←zeroValue 165,.bool false]):Sem Value).run Tryz.prog w = .ok (.tuple #[.agg #[.string ⟨#[]⟩],.bool false]) w:=by kernel_rfl
theorem is_publicOne (v:Value) (w:World):(Instr.typeAssert (.iface 165 v) 113 165 true).run Tryz.prog w = .ok (.tuple #[v,.bool true]) w:=by kernel_rfl
theorem no_publicOne (u:TypeId) (v:Value) (w:World) (h:u≠165):(Instr.typeAssert (.iface u v) 113 165 true).run Tryz.prog w = .ok (.tuple #[.agg #[.string ⟨#[]⟩],.bool false]) w:=by
 have e:(Instr.typeAssert (.iface u v) 113 165 true).run Tryz.prog w=(if u=165 then(pure (Value.tuple #[v,.bool true]):Sem Value)else(do pure (Value.tuple #[←zeroValue 165,.bool false]))).run Tryz.prog w:=by kernel_rfl
 rw[e,if_neg h];exact zero_publicOne w
end Go.Proofs.YtmihiknebelkbaaGreat.Term
namespace Go.Proofs.YtmihiknebelkbaaGreat.Term
open Go.RowKit Wire
def Ans (k:UInt8) (t:List UInt8):Option Nat→Ending→Prop
 | none,e=>e = .returned (.tuple #[.nilIface,.string ⟨#[]⟩])
 | some n,e=>∃(T:TypeId) (a:Value) (R:ByteArray),Shp (k::t.take n) (.iface T a)∧R.data.toList=t.drop n∧e = .returned (.tuple #[.iface T a,.string R])
def Tks (l:List UInt8) (n:Nat) (e:Ending):Prop:=
 (n=0∧e = .returned (.tuple #[.nilIface,.string ⟨#[]⟩])) ∨
 (n≠0∧∃(T:TypeId) (a:Value) (R:ByteArray),Shp (l.take n) (.iface T a)∧R.data.toList=l.drop n∧e = .returned (.tuple #[.iface T a,.string R]))
theorem Ans.tks {k:UInt8} {t:List UInt8} {o:Option Nat} {e:Ending} (h:Ans k t o e):Tks (k::t) (up o) e:=by
 cases o with
 | none=>exact .inl ⟨rfl,h⟩
 | some n=>
  obtain⟨T,a,R,h1,h2,h3⟩:=h;refine .inr ⟨by simp[up],T,a,R,?_,?_,h3⟩
  ·rw[show up (some n)=n+1 by simp[up];omega,List.take_succ_cons];exact h1
  ·rw[show up (some n)=n+1 by simp[up];omega,List.drop_succ_cons];exact h2
theorem takeAtom_any (s:ByteArray) (w:World) (hs:s.size≤4000):
 Calls Tryz.prog 103 #[.string s] w fun e w'=>Ans 97 s.data.toList (leaf 97 s.data.toList) e∧Below w.heap.size w w':=by
 have hl:leaf 97 s.data.toList=(take s.data.toList).map fun p=>s.data.toList.length-p.2.length:=by unfold leaf;rw[if_pos rfl]
 rcases take_tk (l:=s.data.toList)with⟨h1,h2⟩|⟨n,r,h1,h2,hn⟩
 ·have H2:=zh h2
  have hm:leaf 97 s.data.toList=none:=by rw[hl,h1];rfl
  rw[hm];clear hl h1 h2 hm;go_enter Tryz.func103,Tryz.ntmps103;go_wp2_with (go_at_call 48;refine(take_bel s _ (by omega)).mono ?_;rw[H2.out];rintro e w1 ⟨⟨R,hR,rfl⟩,hb1⟩;have HB1:=zh hb1;clear hb1 hR;dsimp only);go_ret2;exact⟨rfl,HB1.out⟩
 ·have H2:=zh h2
  obtain⟨hp,_⟩:=take_some h1;have hm:leaf 97 s.data.toList=some (put n).length:=by rw[hl,h1,hp];simp
  rw[hm,hp];clear hl h1 h2 hm hp;go_enter Tryz.func103,Tryz.ntmps103;go_wp2_with (go_at_call 48;refine(take_bel s _ (by omega)).mono ?_;rw[H2.out];rintro e w1 ⟨⟨R,hR,rfl⟩,hb1⟩;have HB1:=zh hb1;have HR:=zh hR;clear hb1 hR;dsimp only);go_ret2;refine⟨⟨_,_,R,?_,by rw[List.drop_left];exact HR.out,rfl⟩,HB1.out⟩;rw[List.take_left];exact .atom n hn
theorem takeText_any (s:ByteArray) (w:World) (hs:s.size≤4000):
 Calls Tryz.prog 104 #[.string s] w fun e w'=>Ans 116 s.data.toList (leaf 116 s.data.toList) e∧Below w.heap.size w w':=by
 have hl:leaf 116 s.data.toList=if(text s.data.toList 4000).2.2=0 then some (s.data.toList.length-(text s.data.toList 4000).2.1.length)else none:=by unfold leaf;rw[if_neg (by decide)]
 rcases text_cases s.data.toList 4000 with h|h|⟨t,r,h,hp,ht,hm4⟩
 ·have H2:=zh h
  have hm:leaf 116 s.data.toList=none:=by rw[hl,h];rfl
  rw[hm];clear hl h hm;go_enter Tryz.func104,Tryz.ntmps104;go_wp2_with (go_at_call 89;refine(text_bel s 4000 _ (by omega) (by omega)).mono ?_;rw[H2.out];rintro e w1 ⟨⟨X,R,hX,hR,rfl⟩,hb1⟩;have HB1:=zh hb1;clear hb1 hR hX;dsimp only);go_ret2;exact⟨rfl,HB1.out⟩
 ·have H2:=zh h
  have hm:leaf 116 s.data.toList=none:=by rw[hl,h];rfl
  rw[hm];clear hl h hm;go_enter Tryz.func104,Tryz.ntmps104;go_wp2_with (go_at_call 89;refine(text_bel s 4000 _ (by omega) (by omega)).mono ?_;rw[H2.out];rintro e w1 ⟨⟨X,R,hX,hR,rfl⟩,hb1⟩;have HB1:=zh hb1;clear hb1 hR hX;dsimp only);go_ret2;exact⟨rfl,HB1.out⟩
 ·have H2:=zh h
  have hm:leaf 116 s.data.toList=some (putText t).length:=by rw[hl,h,hp];simp
  rw[hm,hp];have HM:=zh hm4;clear hl h hm hp hm4 ht;go_enter Tryz.func104,Tryz.ntmps104;go_wp2_with (go_at_call 89;refine(text_bel s 4000 _ (by omega) (by omega)).mono ?_;rw[H2.out];rintro e w1 ⟨⟨X,R,hX,hR,rfl⟩,hb1⟩;have HB1:=zh hb1;have HR:=zh hR;have HX:=zh hX;clear hb1 hR hX;dsimp only);go_ret2;refine⟨⟨_,_,R,?_,by rw[List.drop_left];exact HR.out,rfl⟩,HB1.out⟩;rw[List.take_left];have e:t=X.data.toList:=HX.out.symm;rw[e];exact .text X (by have:=HM.out;rw[e,←Lib.size_eq]at this;omega)
theorem Tks.zero {l:List UInt8} {n:Nat} {e:Ending} (h:Tks l n e) (h0:n=0):e = .returned (.tuple #[.nilIface,.string ⟨#[]⟩]):=by
 rcases h with⟨_,h⟩|⟨h,_⟩
 ·exact h
 ·exact absurd h0 h
theorem Tks.pos {l:List UInt8} {n:Nat} {e:Ending} (h:Tks l n e) (h0:n≠0):∃(T:TypeId) (a:Value) (R:ByteArray),Shp (l.take n) (.iface T a)∧R.data.toList=l.drop n∧e = .returned (.tuple #[.iface T a,.string R]):=by
 rcases h with⟨h,_⟩|⟨_,h⟩
 ·exact absurd h h0
 ·exact h
def TakeAt (d:Nat):Prop:=∀(s:ByteArray) (w:World),s.size≤4000→Calls Tryz.prog 93 #[.string s,.int .i64 (d:Int)] w fun e w'=>Tks s.data.toList (size d s.data.toList) e∧Below w.heap.size w w'
theorem rest_size {s R:ByteArray} {n:Nat} (hR:R.data.toList=s.data.toList.drop n):R.size=s.size-n:=by
 rw[Lib.size_eq,hR,List.length_drop,←Lib.size_eq]
theorem part_right {d n:Nat} {s:ByteArray} (hd:d≤40) (hs:s.size≤4000) (hn:size d s.data.toList=n) (h0:n≠0):right (s.extract 0 n).data.toList=true:=by
 have h1:=size_mono hd (l:=s.data.toList) (by rw[hn];exact h0);rw[extract_take,←hn,←h1];exact right_take (by rw[h1,hn];exact h0) (by have:=size_le 40 s.data.toList;rw[←Lib.size_eq]at this;omega)
theorem takeOneHash (d:Nat) (ih:TakeAt d) (s:ByteArray) (w:World) (hd:d≤40) (hs:s.size≤4000):
 Calls Tryz.prog 105 #[.int .u8 104,.string s,.int .i64 (d:Int)] w fun e w'=>Ans 104 s.data.toList (sizes (size d) 1 s.data.toList) e∧Below w.heap.size w w':=by
 have IH:=zh ih;have q0:=nil_no;have q1:=nil_yes;obtain⟨n,hn⟩:∃n,size d s.data.toList=n:=⟨_,rfl⟩
 have HN:=zh hn;by_cases h0:n=0
 ·have hm:sizes (size d) 1 s.data.toList=none:=by unfold sizes;rw[if_pos (by rw[hn];exact h0)]
  rw[hm];have H0:=zh h0;clear hm ih hn h0;go_enter Tryz.func105,Tryz.ntmps105;go_wp2_with (go_at_call 93;refine(IH.out s _ hs).mono ?_;rw[HN.out];rintro e w1 ⟨ht,hb1⟩;obtain rfl:=ht.zero H0.out;have HB1:=zh hb1;clear hb1 ht;dsimp only);go_ret2;exact⟨rfl,HB1.out⟩
 ·have hm:sizes (size d) 1 s.data.toList=some n:=by unfold sizes;rw[if_neg (by rw[hn];exact h0),hn];rfl
  rw[hm];have hr:=part_right hd hs hn h0;have hle:=size_le d s.data.toList;rw[hn,←Lib.size_eq]at hle;have H0:=zh h0;have HR:=zh hr;clear hm ih hn h0 hr;go_enter Tryz.func105,Tryz.ntmps105;go_wp2_with (go_at_call 93;refine(IH.out s _ hs).mono ?_;rw[HN.out];rintro e w1 ⟨ht,hb1⟩;obtain⟨T,a,R,_,hR,rfl⟩:=ht.pos H0.out;have hRz:=rest_size hR;have hk:(s.size:Int)-(R.size:Int)=(n:Int):=(by omega);have HB1:=zh hb1;have HRR:=zh hR;clear hb1 ht hR hRz;dsimp only);go_ret2;refine⟨⟨_,_,R,?_,HRR.out,rfl⟩,HB1.out⟩;rw[←extract_take];exact .hash _ HR.out
theorem takeOnePub (d:Nat) (ih:TakeAt d) (s:ByteArray) (w:World) (hd:d≤40) (hs:s.size≤4000):
 Calls Tryz.prog 105 #[.int .u8 117,.string s,.int .i64 (d:Int)] w fun e w'=>Ans 117 s.data.toList (sizes (size d) 1 s.data.toList) e∧Below w.heap.size w w':=by
 have IH:=zh ih;have q0:=nil_no;have q1:=nil_yes;obtain⟨n,hn⟩:∃n,size d s.data.toList=n:=⟨_,rfl⟩
 have HN:=zh hn;by_cases h0:n=0
 ·have hm:sizes (size d) 1 s.data.toList=none:=by unfold sizes;rw[if_pos (by rw[hn];exact h0)]
  rw[hm];have H0:=zh h0;clear hm ih hn h0;go_enter Tryz.func105,Tryz.ntmps105;go_wp2_with (go_at_call 93;refine(IH.out s _ hs).mono ?_;rw[HN.out];rintro e w1 ⟨ht,hb1⟩;obtain rfl:=ht.zero H0.out;have HB1:=zh hb1;clear hb1 ht;dsimp only);go_ret2;exact⟨rfl,HB1.out⟩
 ·have hm:sizes (size d) 1 s.data.toList=some n:=by unfold sizes;rw[if_neg (by rw[hn];exact h0),hn];rfl
  rw[hm];have hr:=part_right hd hs hn h0;have hle:=size_le d s.data.toList;rw[hn,←Lib.size_eq]at hle;have H0:=zh h0;have HR:=zh hr;clear hm ih hn h0 hr;go_enter Tryz.func105,Tryz.ntmps105;go_wp2_with (go_at_call 93;refine(IH.out s _ hs).mono ?_;rw[HN.out];rintro e w1 ⟨ht,hb1⟩;obtain⟨T,a,R,_,hR,rfl⟩:=ht.pos H0.out;have hRz:=rest_size hR;have hk:(s.size:Int)-(R.size:Int)=(n:Int):=(by omega);have HB1:=zh hb1;have HRR:=zh hR;clear hb1 ht hR hRz;dsimp only);go_ret2;refine⟨⟨_,_,R,?_,HRR.out,rfl⟩,HB1.out⟩;rw[←extract_take];exact .pub _ HR.out
end Go.Proofs.YtmihiknebelkbaaGreat.Term
namespace Go.Proofs.YtmihiknebelkbaaGreat.Term
open Go.RowKit Wire
theorem drew_cell (w:World) (nq:Nat) (v:Value) (t:TypeId):((w.drewN nq).alloc (.cells #[v] t)).cell? ⟨w.heap.size,0,none⟩=some v:=by
 rw[cell_of_row ((w.drewN nq).alloc (.cells #[v] t)) w.heap.size 0 #[v] t (0,0) (heap_alloc_new (w.drewN nq) _)];rfl
theorem drew_frozen (w:World) (nq:Nat) (v:Value) (t:TypeId):((w.drewN nq).alloc (.cells #[v] t)).frozen? ⟨w.heap.size,0,none⟩=false:=by
 have h:((w.drewN nq).alloc (.cells #[v] t)).heap[w.heap.size]? = some (.cells #[v] t (0,0)):=heap_alloc_new (w.drewN nq) _;unfold World.frozen?;simp only[h];rfl
theorem Shp.pub_agg {l:List UInt8} {a:Value} (h:Shp l (.iface 165 a)):∃X:ByteArray,a = .agg #[.string X]:=by
 rcases h with⟨_,_,hl,h⟩|⟨_,_,hl,h⟩|⟨_,_,hl,h⟩|⟨_,_,hl,h⟩|⟨_,_,_,hl,h⟩|⟨_,_,_,hl,h⟩|⟨_,_,_,hl,h⟩|⟨_,_,_,hl,h⟩
 case inr.inr.inr.inl=>injection h with _ h2;exact⟨_,h2⟩
 all_goals (injection h with h1 _;exact absurd h1 (by decide))
theorem head_take {l:List UInt8} {n:Nat} (h:n≠0):(l.take n).head? = l.head?:=by
 cases l with
 | nil=>simp
 | cons x y=>
  obtain⟨k,rfl⟩:∃k,n=k+1:=⟨n-1,by omega⟩
  rfl
theorem takeTwoPair (d:Nat) (ih:TakeAt d) (s:ByteArray) (w:World) (hd:d≤40) (hs:s.size≤4000):
 Calls Tryz.prog 106 #[.int .u8 112,.string s,.int .i64 (d:Int)] w fun e w'=>Ans 112 s.data.toList (sizes (size d) 2 s.data.toList) e∧Below w.heap.size w w':=by
 have IH:Hid (∀(s:ByteArray) (w:World),s.size≤4000→Calls Tryz.prog 93 #[.string s,.int .i64 (d:Int)] w fun e w'=>Tks s.data.toList (size d s.data.toList) e∧Below w.heap.size w w'):=ih;have q0:=nil_no;have q1:=nil_yes;obtain⟨n,hn⟩:∃n,size d s.data.toList=n:=⟨_,rfl⟩
 have HN:=zh hn;by_cases h0:n=0
 ·have hm:(sizes (size d) 2 s.data.toList)=none:=by
   have hq:sizes (size d) 2 s.data.toList=none:=by unfold sizes;rw[if_pos (by rw[hn];exact h0)]
   exact hq
  rw[hm];have H0:=zh h0;clear hm ih hn h0;go_enter Tryz.func106,Tryz.ntmps106;go_wp2_with (go_at_call 93;with_reducible refine(IH.out s _ hs).mono ?_;rw[HN.out];rintro e w1 ⟨ht,hb1⟩;obtain rfl:=ht.zero H0.out;have HB1:=zh hb1;clear hb1 ht;dsimp only);go_ret2;exact⟨rfl,HB1.out⟩
 ·obtain⟨m,hmm⟩:∃m,size d (s.data.toList.drop n)=m:=⟨_,rfl⟩
  have HM:=zh hmm;have hle:=size_le d s.data.toList;rw[hn,←Lib.size_eq]at hle;have H0:=zh h0;by_cases h1:m=0
  ·have hm:(sizes (size d) 2 s.data.toList)=none:=by
    have hq:sizes (size d) 2 s.data.toList=none:=by
     unfold sizes;rw[if_neg (by rw[hn];exact h0),hn];unfold sizes;rw[if_pos (by rw[hmm];exact h1)];rfl
    exact hq
   rw[hm];have H1:=zh h1;clear hm ih hn h0 h1 hmm;go_enter Tryz.func106,Tryz.ntmps106
   go_wp2_with (first
    | (go_at_call 93;with_reducible refine(IH.out R _ hRs).mono ?_;rw[HRR.out,HM.out];rintro e w2 ⟨ht,hb2⟩;obtain rfl:=ht.zero H1.out;have HB2:=zh (HB1.out.trans (hb2.mono HB1.out.size));clear hb2 ht;dsimp only)
    | (go_at_call 93;with_reducible refine(IH.out s _ hs).mono ?_;rw[HN.out];rintro e w1 ⟨ht,hb1⟩;obtain⟨T,a,R,hsh,hR,rfl⟩:=ht.pos H0.out;have hRz:=rest_size hR;have hRs:R.size≤4000:=(by omega);have hk:(s.size:Int)-(R.size:Int)=(n:Int):=(by omega);have HRR:=zh hR;have HSH:=zh hsh;clear hR hsh;have HB1:=zh hb1;clear hb1 ht;dsimp only))
   go_ret2;exact⟨rfl,HB2.out⟩
  ·have hq:sizes (size d) 2 s.data.toList=some (n+m):=by
    unfold sizes;rw[if_neg (by rw[hn];exact h0),hn];unfold sizes;rw[if_neg (by rw[hmm];exact h1),hmm];rfl
   have hr:=part_right hd hs hn h0;have hlm:=size_le d (s.data.toList.drop n);rw[hmm,List.length_drop,←Lib.size_eq]at hlm;have H1:=zh h1;have HRP:=zh hr;have HR2:Hid (∀R:ByteArray,R.data.toList=s.data.toList.drop n→right (R.extract 0 m).data.toList=true):=fun R hR=>part_right hd (by rw[Lib.size_eq,hR,List.length_drop,←Lib.size_eq];omega) (by rw[hR];exact hmm) h1
   have n1:(0:Int)≤(n:Int):=by omega
   have n2:(n:Int)≤(s.size:Int):=by omega
   have n3:(0:Int)≤(m:Int):=by omega
   have n4:(m:Int)≤(s.size:Int)-(n:Int):=by omega
   rw[hq];clear ih hn h0 h1 hmm hr hq;go_enter Tryz.func106,Tryz.ntmps106
   go_wp2_with (first
    | (go_at_call 93;with_reducible refine(IH.out R _ hRs).mono ?_;rw[HRR.out,HM.out];rintro e w2 ⟨ht,hb2⟩;obtain⟨T2,a2,R2,_,hR2,rfl⟩:=ht.pos H1.out;have hRz2:R2.size=R.size-m:=(by rw[Lib.size_eq,hR2,List.length_drop,←HRR.out,←Lib.size_eq]);have hk2:(R.size:Int)-(R2.size:Int)=(m:Int):=(by omega);have HRR2:=zh hR2;clear hR2 hRz2 hRz;have HB2:=zh (HB1.out.trans (hb2.mono HB1.out.size));clear hb2 ht;dsimp only)
    | (go_at_call 93;with_reducible refine(IH.out s _ hs).mono ?_;rw[HN.out];rintro e w1 ⟨ht,hb1⟩;obtain⟨T,a,R,hsh,hR,rfl⟩:=ht.pos H0.out;have hRz:=rest_size hR;have hRs:R.size≤4000:=(by omega);have hk:(s.size:Int)-(R.size:Int)=(n:Int):=(by omega);have HRR:=zh hR;have HSH:=zh hsh;clear hR hsh;have HB1:=zh hb1;clear hb1 ht;dsimp only))
   go_quiet (fail);go_wp2;go_ret2;refine⟨⟨_,_,R2,?_,?_,rfl⟩,?_⟩
   ·have e:112::s.data.toList.take (n+m)=112::((s.extract 0 n).data.toList++(R.extract 0 m).data.toList):=by rw[extract_take,extract_take,HRR.out,List.take_add]
    rw[e];exact .pair _ _ HRP.out (HR2.out R HRR.out)
   ·rw[HRR2.out,List.drop_drop]
   ·exact HB2.out.trans (bdrew _ _)
theorem takeTwoSealed (d:Nat) (ih:TakeAt d) (s:ByteArray) (w:World) (hd:d≤40) (hs:s.size≤4000):
 Calls Tryz.prog 106 #[.int .u8 115,.string s,.int .i64 (d:Int)] w fun e w'=>Ans 115 s.data.toList (sizes (size d) 2 s.data.toList) e∧Below w.heap.size w w':=by
 have IH:Hid (∀(s:ByteArray) (w:World),s.size≤4000→Calls Tryz.prog 93 #[.string s,.int .i64 (d:Int)] w fun e w'=>Tks s.data.toList (size d s.data.toList) e∧Below w.heap.size w w'):=ih;have q0:=nil_no;have q1:=nil_yes;obtain⟨n,hn⟩:∃n,size d s.data.toList=n:=⟨_,rfl⟩
 have HN:=zh hn;by_cases h0:n=0
 ·have hm:(sizes (size d) 2 s.data.toList)=none:=by
   have hq:sizes (size d) 2 s.data.toList=none:=by unfold sizes;rw[if_pos (by rw[hn];exact h0)]
   exact hq
  rw[hm];have H0:=zh h0;clear hm ih hn h0;go_enter Tryz.func106,Tryz.ntmps106;go_wp2_with (go_at_call 93;with_reducible refine(IH.out s _ hs).mono ?_;rw[HN.out];rintro e w1 ⟨ht,hb1⟩;obtain rfl:=ht.zero H0.out;have HB1:=zh hb1;clear hb1 ht;dsimp only);go_ret2;exact⟨rfl,HB1.out⟩
 ·obtain⟨m,hmm⟩:∃m,size d (s.data.toList.drop n)=m:=⟨_,rfl⟩
  have HM:=zh hmm;have hle:=size_le d s.data.toList;rw[hn,←Lib.size_eq]at hle;have H0:=zh h0;by_cases h1:m=0
  ·have hm:(sizes (size d) 2 s.data.toList)=none:=by
    have hq:sizes (size d) 2 s.data.toList=none:=by
     unfold sizes;rw[if_neg (by rw[hn];exact h0),hn];unfold sizes;rw[if_pos (by rw[hmm];exact h1)];rfl
    exact hq
   rw[hm];have H1:=zh h1;clear hm ih hn h0 h1 hmm;go_enter Tryz.func106,Tryz.ntmps106
   go_wp2_with (first
    | (go_at_call 93;with_reducible refine(IH.out R _ hRs).mono ?_;rw[HRR.out,HM.out];rintro e w2 ⟨ht,hb2⟩;obtain rfl:=ht.zero H1.out;have HB2:=zh (HB1.out.trans (hb2.mono HB1.out.size));clear hb2 ht;dsimp only)
    | (go_at_call 93;with_reducible refine(IH.out s _ hs).mono ?_;rw[HN.out];rintro e w1 ⟨ht,hb1⟩;obtain⟨T,a,R,hsh,hR,rfl⟩:=ht.pos H0.out;have hRz:=rest_size hR;have hRs:R.size≤4000:=(by omega);have hk:(s.size:Int)-(R.size:Int)=(n:Int):=(by omega);have HRR:=zh hR;have HSH:=zh hsh;clear hR hsh;have HB1:=zh hb1;clear hb1 ht;dsimp only))
   go_ret2;exact⟨rfl,HB2.out⟩
  ·have hq:sizes (size d) 2 s.data.toList=some (n+m):=by
    unfold sizes;rw[if_neg (by rw[hn];exact h0),hn];unfold sizes;rw[if_neg (by rw[hmm];exact h1),hmm];rfl
   have hr:=part_right hd hs hn h0;have hlm:=size_le d (s.data.toList.drop n);rw[hmm,List.length_drop,←Lib.size_eq]at hlm;have H1:=zh h1;have HRP:=zh hr;have HR2:Hid (∀R:ByteArray,R.data.toList=s.data.toList.drop n→right (R.extract 0 m).data.toList=true):=fun R hR=>part_right hd (by rw[Lib.size_eq,hR,List.length_drop,←Lib.size_eq];omega) (by rw[hR];exact hmm) h1
   have n1:(0:Int)≤(n:Int):=by omega
   have n2:(n:Int)≤(s.size:Int):=by omega
   have n3:(0:Int)≤(m:Int):=by omega
   have n4:(m:Int)≤(s.size:Int)-(n:Int):=by omega
   rw[hq];clear ih hn h0 h1 hmm hr hq;go_enter Tryz.func106,Tryz.ntmps106
   go_wp2_with (first
    | (go_at_call 93;with_reducible refine(IH.out R _ hRs).mono ?_;rw[HRR.out,HM.out];rintro e w2 ⟨ht,hb2⟩;obtain⟨T2,a2,R2,_,hR2,rfl⟩:=ht.pos H1.out;have hRz2:R2.size=R.size-m:=(by rw[Lib.size_eq,hR2,List.length_drop,←HRR.out,←Lib.size_eq]);have hk2:(R.size:Int)-(R2.size:Int)=(m:Int):=(by omega);have HRR2:=zh hR2;clear hR2 hRz2 hRz;have HB2:=zh (HB1.out.trans (hb2.mono HB1.out.size));clear hb2 ht;dsimp only)
    | (go_at_call 93;with_reducible refine(IH.out s _ hs).mono ?_;rw[HN.out];rintro e w1 ⟨ht,hb1⟩;obtain⟨T,a,R,hsh,hR,rfl⟩:=ht.pos H0.out;have hRz:=rest_size hR;have hRs:R.size≤4000:=(by omega);have hk:(s.size:Int)-(R.size:Int)=(n:Int):=(by omega);have HRR:=zh hR;have HSH:=zh hsh;clear hR hsh;have HB1:=zh hb1;clear hb1 ht;dsimp only))
   go_quiet (fail);go_wp2;go_ret2;refine⟨⟨_,_,R2,?_,?_,rfl⟩,?_⟩
   ·have e:115::s.data.toList.take (n+m)=115::((s.extract 0 n).data.toList++(R.extract 0 m).data.toList):=by rw[extract_take,extract_take,HRR.out,List.take_add]
    rw[e];exact .sealed _ _ HRP.out (HR2.out R HRR.out)
   ·rw[HRR2.out,List.drop_drop]
   ·exact HB2.out.trans (bdrew _ _)
theorem takeTwoSigned (d:Nat) (ih:TakeAt d) (s:ByteArray) (w:World) (hd:d≤40) (hs:s.size≤4000):
 Calls Tryz.prog 106 #[.int .u8 103,.string s,.int .i64 (d:Int)] w fun e w'=>Ans 103 s.data.toList (sizes (size d) 2 s.data.toList) e∧Below w.heap.size w w':=by
 have IH:Hid (∀(s:ByteArray) (w:World),s.size≤4000→Calls Tryz.prog 93 #[.string s,.int .i64 (d:Int)] w fun e w'=>Tks s.data.toList (size d s.data.toList) e∧Below w.heap.size w w'):=ih;have q0:=nil_no;have q1:=nil_yes;obtain⟨n,hn⟩:∃n,size d s.data.toList=n:=⟨_,rfl⟩
 have HN:=zh hn;by_cases h0:n=0
 ·have hm:(sizes (size d) 2 s.data.toList)=none:=by
   have hq:sizes (size d) 2 s.data.toList=none:=by unfold sizes;rw[if_pos (by rw[hn];exact h0)]
   exact hq
  rw[hm];have H0:=zh h0;clear hm ih hn h0;go_enter Tryz.func106,Tryz.ntmps106;go_wp2_with (go_at_call 93;with_reducible refine(IH.out s _ hs).mono ?_;rw[HN.out];rintro e w1 ⟨ht,hb1⟩;obtain rfl:=ht.zero H0.out;have HB1:=zh hb1;clear hb1 ht;dsimp only);go_ret2;exact⟨rfl,HB1.out⟩
 ·obtain⟨m,hmm⟩:∃m,size d (s.data.toList.drop n)=m:=⟨_,rfl⟩
  have HM:=zh hmm;have hle:=size_le d s.data.toList;rw[hn,←Lib.size_eq]at hle;have H0:=zh h0;by_cases h1:m=0
  ·have hm:(sizes (size d) 2 s.data.toList)=none:=by
    have hq:sizes (size d) 2 s.data.toList=none:=by
     unfold sizes;rw[if_neg (by rw[hn];exact h0),hn];unfold sizes;rw[if_pos (by rw[hmm];exact h1)];rfl
    exact hq
   rw[hm];have H1:=zh h1;clear hm ih hn h0 h1 hmm;go_enter Tryz.func106,Tryz.ntmps106
   go_wp2_with (first
    | (go_at_call 93;with_reducible refine(IH.out R _ hRs).mono ?_;rw[HRR.out,HM.out];rintro e w2 ⟨ht,hb2⟩;obtain rfl:=ht.zero H1.out;have HB2:=zh (HB1.out.trans (hb2.mono HB1.out.size));clear hb2 ht;dsimp only)
    | (go_at_call 93;with_reducible refine(IH.out s _ hs).mono ?_;rw[HN.out];rintro e w1 ⟨ht,hb1⟩;obtain⟨T,a,R,hsh,hR,rfl⟩:=ht.pos H0.out;have hRz:=rest_size hR;have hRs:R.size≤4000:=(by omega);have hk:(s.size:Int)-(R.size:Int)=(n:Int):=(by omega);have HRR:=zh hR;have HSH:=zh hsh;clear hR hsh;have HB1:=zh hb1;clear hb1 ht;dsimp only))
   go_ret2;exact⟨rfl,HB2.out⟩
  ·have hq:sizes (size d) 2 s.data.toList=some (n+m):=by
    unfold sizes;rw[if_neg (by rw[hn];exact h0),hn];unfold sizes;rw[if_neg (by rw[hmm];exact h1),hmm];rfl
   have hr:=part_right hd hs hn h0;have hlm:=size_le d (s.data.toList.drop n);rw[hmm,List.length_drop,←Lib.size_eq]at hlm;have H1:=zh h1;have HRP:=zh hr;have HR2:Hid (∀R:ByteArray,R.data.toList=s.data.toList.drop n→right (R.extract 0 m).data.toList=true):=fun R hR=>part_right hd (by rw[Lib.size_eq,hR,List.length_drop,←Lib.size_eq];omega) (by rw[hR];exact hmm) h1
   have n1:(0:Int)≤(n:Int):=by omega
   have n2:(n:Int)≤(s.size:Int):=by omega
   have n3:(0:Int)≤(m:Int):=by omega
   have n4:(m:Int)≤(s.size:Int)-(n:Int):=by omega
   rw[hq];clear ih hn h0 h1 hmm hr hq;go_enter Tryz.func106,Tryz.ntmps106
   go_wp2_with (first
    | (go_at_call 93;with_reducible refine(IH.out R _ hRs).mono ?_;rw[HRR.out,HM.out];rintro e w2 ⟨ht,hb2⟩;obtain⟨T2,a2,R2,_,hR2,rfl⟩:=ht.pos H1.out;have hRz2:R2.size=R.size-m:=(by rw[Lib.size_eq,hR2,List.length_drop,←HRR.out,←Lib.size_eq]);have hk2:(R.size:Int)-(R2.size:Int)=(m:Int):=(by omega);have HRR2:=zh hR2;clear hR2 hRz2 hRz;have HB2:=zh (HB1.out.trans (hb2.mono HB1.out.size));clear hb2 ht;dsimp only)
    | (go_at_call 93;with_reducible refine(IH.out s _ hs).mono ?_;rw[HN.out];rintro e w1 ⟨ht,hb1⟩;obtain⟨T,a,R,hsh,hR,rfl⟩:=ht.pos H0.out;have hRz:=rest_size hR;have hRs:R.size≤4000:=(by omega);have hk:(s.size:Int)-(R.size:Int)=(n:Int):=(by omega);have HRR:=zh hR;have HSH:=zh hsh;clear hR hsh;have HB1:=zh hb1;clear hb1 ht;dsimp only))
   go_quiet (fail);go_wp2;go_ret2;refine⟨⟨_,_,R2,?_,?_,rfl⟩,?_⟩
   ·have e:103::s.data.toList.take (n+m)=103::((s.extract 0 n).data.toList++(R.extract 0 m).data.toList):=by rw[extract_take,extract_take,HRR.out,List.take_add]
    rw[e];exact .signed _ _ HRP.out (HR2.out R HRR.out)
   ·rw[HRR2.out,List.drop_drop]
   ·exact HB2.out.trans (bdrew _ _)
theorem takeTwoBoxed (d:Nat) (ih:TakeAt d) (s:ByteArray) (w:World) (hd:d≤40) (hs:s.size≤4000):
 Calls Tryz.prog 106 #[.int .u8 98,.string s,.int .i64 (d:Int)] w fun e w'=>Ans 98 s.data.toList (if s.data.toList.head?≠some 117 then none else sizes (size d) 2 s.data.toList) e∧Below w.heap.size w w':=by
 have IH:Hid (∀(s:ByteArray) (w:World),s.size≤4000→Calls Tryz.prog 93 #[.string s,.int .i64 (d:Int)] w fun e w'=>Tks s.data.toList (size d s.data.toList) e∧Below w.heap.size w w'):=ih;have q0:=nil_no;have q1:=nil_yes;obtain⟨n,hn⟩:∃n,size d s.data.toList=n:=⟨_,rfl⟩
 have HN:=zh hn;by_cases h0:n=0
 ·have hm:(if s.data.toList.head?≠some 117 then none else sizes (size d) 2 s.data.toList)=none:=by
   have hq:sizes (size d) 2 s.data.toList=none:=by unfold sizes;rw[if_pos (by rw[hn];exact h0)]
   split<;>first|rfl|exact hq
  rw[hm];have H0:=zh h0;clear hm ih hn h0;go_enter Tryz.func106,Tryz.ntmps106;go_wp2_with (go_at_call 93;with_reducible refine(IH.out s _ hs).mono ?_;rw[HN.out];rintro e w1 ⟨ht,hb1⟩;obtain rfl:=ht.zero H0.out;have HB1:=zh hb1;clear hb1 ht;dsimp only);go_ret2;exact⟨rfl,HB1.out⟩
 ·obtain⟨m,hmm⟩:∃m,size d (s.data.toList.drop n)=m:=⟨_,rfl⟩
  have HM:=zh hmm;have hle:=size_le d s.data.toList;rw[hn,←Lib.size_eq]at hle;have H0:=zh h0;by_cases h1:m=0
  ·have hm:(if s.data.toList.head?≠some 117 then none else sizes (size d) 2 s.data.toList)=none:=by
    have hq:sizes (size d) 2 s.data.toList=none:=by
     unfold sizes;rw[if_neg (by rw[hn];exact h0),hn];unfold sizes;rw[if_pos (by rw[hmm];exact h1)];rfl
    split<;>first|rfl|exact hq
   rw[hm];have H1:=zh h1;clear hm ih hn h0 h1 hmm;go_enter Tryz.func106,Tryz.ntmps106
   go_wp2_with (first
    | (go_at_call 93;with_reducible refine(IH.out R _ hRs).mono ?_;rw[HRR.out,HM.out];rintro e w2 ⟨ht,hb2⟩;obtain rfl:=ht.zero H1.out;have HB2:=zh (HB1.out.trans (hb2.mono HB1.out.size));clear hb2 ht;dsimp only)
    | (go_at_call 93;with_reducible refine(IH.out s _ hs).mono ?_;rw[HN.out];rintro e w1 ⟨ht,hb1⟩;obtain⟨T,a,R,hsh,hR,rfl⟩:=ht.pos H0.out;have hRz:=rest_size hR;have hRs:R.size≤4000:=(by omega);have hk:(s.size:Int)-(R.size:Int)=(n:Int):=(by omega);have HRR:=zh hR;have HSH:=zh hsh;clear hR hsh;have HB1:=zh hb1;clear hb1 ht;dsimp only))
   go_ret2;exact⟨rfl,HB2.out⟩
  ·have hq:sizes (size d) 2 s.data.toList=some (n+m):=by
    unfold sizes;rw[if_neg (by rw[hn];exact h0),hn];unfold sizes;rw[if_neg (by rw[hmm];exact h1),hmm];rfl
   have hr:=part_right hd hs hn h0;have hlm:=size_le d (s.data.toList.drop n);rw[hmm,List.length_drop,←Lib.size_eq]at hlm;have H1:=zh h1;have HRP:=zh hr;have HR2:Hid (∀R:ByteArray,R.data.toList=s.data.toList.drop n→right (R.extract 0 m).data.toList=true):=fun R hR=>part_right hd (by rw[Lib.size_eq,hR,List.length_drop,←Lib.size_eq];omega) (by rw[hR];exact hmm) h1
   have n1:(0:Int)≤(n:Int):=by omega
   have n2:(n:Int)≤(s.size:Int):=by omega
   have n3:(0:Int)≤(m:Int):=by omega
   have n4:(m:Int)≤(s.size:Int)-(n:Int):=by omega
   by_cases hu:s.data.toList.head? = some 117
   ·rw[if_neg (by simp[hu]),hq]
    have HH:Hid (∀(T:TypeId) (a:Value),Shp (s.data.toList.take n) (.iface T a)→T=165∧∃X:ByteArray,a = .agg #[.string X]):=fun T a h=>by
     rcases h.head with⟨h1,_⟩|⟨_,h⟩
     ·subst h1;exact⟨rfl,h.pub_agg⟩
     ·exact absurd (by rw[head_take h0];exact hu) h
    have HU:=zh hu;have HZ:=zh h0;have q2:=is_publicOne;clear ih hn h0 h1 hmm hr hq hu;go_enter Tryz.func106,Tryz.ntmps106
    go_wp2_with (first
     | (go_at_call 93;with_reducible refine(IH.out R _ hRs).mono ?_;rw[HRR.out,HM.out];rintro e w2 ⟨ht,hb2⟩;obtain⟨T2,a2,R2,_,hR2,rfl⟩:=ht.pos H1.out;have hRz2:R2.size=R.size-m:=(by rw[Lib.size_eq,hR2,List.length_drop,←HRR.out,←Lib.size_eq]);have hk2:(R.size:Int)-(R2.size:Int)=(m:Int):=(by omega);have HRR2:=zh hR2;clear hR2 hRz2 hRz;have HB2:=zh (HB1.out.trans (hb2.mono HB1.out.size));clear hb2 ht;dsimp only)
     | (go_at_call 93;with_reducible refine(IH.out s _ hs).mono ?_;rw[HN.out];rintro e w1 ⟨ht,hb1⟩;obtain⟨T,a,R,hsh,hR,rfl⟩:=ht.pos H0.out;have hRz:=rest_size hR;have hRs:R.size≤4000:=(by omega);have hk:(s.size:Int)-(R.size:Int)=(n:Int):=(by omega);have HRR:=zh hR;have HSH:=zh hsh;clear hR hsh;have HB1:=zh hb1;clear hb1 ht;dsimp only))
    go_quiet (fail);have q5:=drew_cell;have q6:=drew_frozen;obtain⟨rfl,X,rfl⟩:=HH.out _ _ HSH.out;go_wp2;go_ret2;refine⟨⟨_,_,R2,?_,?_,rfl⟩,?_⟩
    ·have e:98::s.data.toList.take (n+m)=98::((s.extract 0 n).data.toList++(R.extract 0 m).data.toList):=by rw[extract_take,extract_take,HRR.out,List.take_add]
     rw[e];exact .boxed _ _ HRP.out (HR2.out R HRR.out) (by rw[extract_take,head_take HZ.out];exact HU.out)
    ·rw[HRR2.out,List.drop_drop]
    ·exact(((HB2.out.trans (bdrew _ _)).alloc HB2.out.size _).setCell HB2.out.size _)
   ·rw[if_pos (by simpa using hu)]
    have HH:Hid (∀(T:TypeId) (a:Value),Shp (s.data.toList.take n) (.iface T a)→T≠165):=fun T a h=>by
     rcases h.head with⟨_,h⟩|⟨h,_⟩
     ·rw[head_take h0]at h;exact absurd h hu
     ·exact h
    clear ih hn h0 h1 hmm hr hq hu;go_enter Tryz.func106,Tryz.ntmps106
    go_wp2_with (first
     | (go_at_call 93;with_reducible refine(IH.out R _ hRs).mono ?_;rw[HRR.out,HM.out];rintro e w2 ⟨ht,hb2⟩;obtain⟨T2,a2,R2,_,hR2,rfl⟩:=ht.pos H1.out;have hRz2:R2.size=R.size-m:=(by rw[Lib.size_eq,hR2,List.length_drop,←HRR.out,←Lib.size_eq]);have hk2:(R.size:Int)-(R2.size:Int)=(m:Int):=(by omega);have HRR2:=zh hR2;clear hR2 hRz2 hRz;have HB2:=zh (HB1.out.trans (hb2.mono HB1.out.size));clear hb2 ht;dsimp only)
     | (go_at_call 93;with_reducible refine(IH.out s _ hs).mono ?_;rw[HN.out];rintro e w1 ⟨ht,hb1⟩;obtain⟨T,a,R,hsh,hR,rfl⟩:=ht.pos H0.out;have hRz:=rest_size hR;have hRs:R.size≤4000:=(by omega);have hk:(s.size:Int)-(R.size:Int)=(n:Int):=(by omega);have HRR:=zh hR;have HSH:=zh hsh;clear hR hsh;have HB1:=zh hb1;clear hb1 ht;dsimp only))
    go_quiet (fail);have q5:=drew_cell;have q6:=drew_frozen;have q2:=fun w=>no_publicOne _ a w (HH.out _ _ HSH.out)
    go_wp2;go_ret2;exact⟨rfl,(((HB2.out.trans (bdrew _ _)).alloc HB2.out.size _).setCell HB2.out.size _)⟩
end Go.Proofs.YtmihiknebelkbaaGreat.Term
namespace Go.Proofs.YtmihiknebelkbaaGreat.Term
open Go.RowKit Wire
theorem Tks.form {l:List UInt8} {n:Nat} {e:Ending} (h:Tks l n e):∃v R,e = .returned (.tuple #[v,.string R]):=by
 rcases h with⟨_,h⟩|⟨_,T,a,R,_,_,h⟩<;>exact⟨_,_,h⟩
theorem take_zero:TakeAt 0:=by
 intro s w hs;rw[size_zero];by_cases h:s.data.toList = []
 ·have he:=empty_str h
  clear h;go_enter Tryz.func93,Tryz.ntmps93;go_wp2_with fail;go_ret2;exact⟨.inl ⟨rfl,rfl⟩,Below.refl _ _⟩
 ·have he:=nonempty_str h
  clear h;go_enter Tryz.func93,Tryz.ntmps93;go_wp2_with fail;go_ret2;exact⟨.inl ⟨rfl,rfl⟩,Below.refl _ _⟩
theorem take_empty (d:Nat) (s:ByteArray) (w:World) (h:s.data.toList = []):Calls Tryz.prog 93 #[.string s,.int .i64 (d:Int)] w fun e w'=>Tks s.data.toList (size d s.data.toList) e∧Below w.heap.size w w':=by
 have h1:size d s.data.toList=0:=by rw[h];exact size_nil d
 rw[h1];have he:=empty_str h;clear h h1;go_enter Tryz.func93,Tryz.ntmps93;go_wp2_with fail;go_ret2;exact⟨.inl ⟨rfl,rfl⟩,Below.refl _ _⟩
theorem takeAtom (d:Nat) (ih:TakeAt d) (s:ByteArray) (w:World) (hd:d+1≤40) (hs:s.size≤4000) (h0:0<s.size) (t:List UInt8) (hh:Head s h0 97 t):
 Calls Tryz.prog 93 #[.string s,.int .i64 ((d+1:Nat):Int)] w fun e w'=>Tks s.data.toList (size (d+1) s.data.toList) e∧Below w.heap.size w w':=by
 have IH:=zh ih;have hd2:d≤40:=by omega
 have hdd:(((d:Int)+1)==0)=false:=by rw[beq_eq_false_iff_ne];omega
 have he:=nonempty_str (s:=s) (by rw[hh.all];simp);have hb:=hh.first;have hbn:((97:UInt8).toNat:Int)=97:=rfl;have hx0:(0:Int)<(s.size:Int):=by omega
 have hx1:(1:Int)≤(s.size:Int):=by omega
 have hez:(s.extract 1 s.size).size≤4000:=by
  have h1:=hh.len;rw[Lib.size_eq,hh.rest];omega
 have HG:Hid (∀e,Ans 97 (s.extract 1 s.size).data.toList (leaf 97 (s.extract 1 s.size).data.toList) e→Tks s.data.toList (size (d+1) s.data.toList) e):=fun e h=>by
  have h2:=h.tks
  have hbody:body (size d) 97 t=leaf 97 t:=by
   exact rfl
  rw[hh.all,size_cons,hbody];rw[hh.rest]at h2;exact h2
 clear ih hh;go_enter Tryz.func93,Tryz.ntmps93;go_wp2_with fail;go_quiet (fail);go_wp2_with (go_at_call 103;refine(takeAtom_any _ _ hez).mono ?_;rintro e w1 ⟨ha,hb1⟩;have ht:=HG.out _ ha;obtain⟨v,R,rfl⟩:=ht.form;have HT:=zh ht;have HB1:=zh ((bdrew _ _).trans (hb1.mono zl));clear ha hb1 ht;dsimp only);go_ret2;exact⟨HT.out,HB1.out⟩
theorem takeText (d:Nat) (ih:TakeAt d) (s:ByteArray) (w:World) (hd:d+1≤40) (hs:s.size≤4000) (h0:0<s.size) (t:List UInt8) (hh:Head s h0 116 t):
 Calls Tryz.prog 93 #[.string s,.int .i64 ((d+1:Nat):Int)] w fun e w'=>Tks s.data.toList (size (d+1) s.data.toList) e∧Below w.heap.size w w':=by
 have IH:=zh ih;have hd2:d≤40:=by omega
 have hdd:(((d:Int)+1)==0)=false:=by rw[beq_eq_false_iff_ne];omega
 have he:=nonempty_str (s:=s) (by rw[hh.all];simp);have hb:=hh.first;have hbn:((116:UInt8).toNat:Int)=116:=rfl;have hx0:(0:Int)<(s.size:Int):=by omega
 have hx1:(1:Int)≤(s.size:Int):=by omega
 have hez:(s.extract 1 s.size).size≤4000:=by
  have h1:=hh.len;rw[Lib.size_eq,hh.rest];omega
 have HG:Hid (∀e,Ans 116 (s.extract 1 s.size).data.toList (leaf 116 (s.extract 1 s.size).data.toList) e→Tks s.data.toList (size (d+1) s.data.toList) e):=fun e h=>by
  have h2:=h.tks
  have hbody:body (size d) 116 t=leaf 116 t:=by
   exact rfl
  rw[hh.all,size_cons,hbody];rw[hh.rest]at h2;exact h2
 clear ih hh;go_enter Tryz.func93,Tryz.ntmps93;go_wp2_with fail;go_quiet (fail);go_wp2_with (go_at_call 104;refine(takeText_any _ _ hez).mono ?_;rintro e w1 ⟨ha,hb1⟩;have ht:=HG.out _ ha;obtain⟨v,R,rfl⟩:=ht.form;have HT:=zh ht;have HB1:=zh ((bdrew _ _).trans (hb1.mono zl));clear ha hb1 ht;dsimp only);go_ret2;exact⟨HT.out,HB1.out⟩
theorem takeHash (d:Nat) (ih:TakeAt d) (s:ByteArray) (w:World) (hd:d+1≤40) (hs:s.size≤4000) (h0:0<s.size) (t:List UInt8) (hh:Head s h0 104 t):
 Calls Tryz.prog 93 #[.string s,.int .i64 ((d+1:Nat):Int)] w fun e w'=>Tks s.data.toList (size (d+1) s.data.toList) e∧Below w.heap.size w w':=by
 have IH:=zh ih;have hd2:d≤40:=by omega
 have hdd:(((d:Int)+1)==0)=false:=by rw[beq_eq_false_iff_ne];omega
 have he:=nonempty_str (s:=s) (by rw[hh.all];simp);have hb:=hh.first;have hbn:((104:UInt8).toNat:Int)=104:=rfl;have hx0:(0:Int)<(s.size:Int):=by omega
 have hx1:(1:Int)≤(s.size:Int):=by omega
 have hez:(s.extract 1 s.size).size≤4000:=by
  have h1:=hh.len;rw[Lib.size_eq,hh.rest];omega
 have HG:Hid (∀e,Ans 104 (s.extract 1 s.size).data.toList (sizes (size d) 1 (s.extract 1 s.size).data.toList) e→Tks s.data.toList (size (d+1) s.data.toList) e):=fun e h=>by
  have h2:=h.tks
  have hbody:body (size d) 104 t=sizes (size d) 1 t:=by
   show(if(104:UInt8)=98∧t.head?≠some 117 then none else _)=_;exact if_neg (fun h=>absurd h.1 (by decide))
  rw[hh.all,size_cons,hbody];rw[hh.rest]at h2;exact h2
 clear ih hh;go_enter Tryz.func93,Tryz.ntmps93;go_wp2_with fail;go_quiet (fail);go_wp2_with (go_at_call 105;refine(takeOneHash d IH.out _ _ hd2 hez).mono ?_;rintro e w1 ⟨ha,hb1⟩;have ht:=HG.out _ ha;obtain⟨v,R,rfl⟩:=ht.form;have HT:=zh ht;have HB1:=zh ((bdrew _ _).trans (hb1.mono zl));clear ha hb1 ht;dsimp only);go_ret2;exact⟨HT.out,HB1.out⟩
theorem takePub (d:Nat) (ih:TakeAt d) (s:ByteArray) (w:World) (hd:d+1≤40) (hs:s.size≤4000) (h0:0<s.size) (t:List UInt8) (hh:Head s h0 117 t):
 Calls Tryz.prog 93 #[.string s,.int .i64 ((d+1:Nat):Int)] w fun e w'=>Tks s.data.toList (size (d+1) s.data.toList) e∧Below w.heap.size w w':=by
 have IH:=zh ih;have hd2:d≤40:=by omega
 have hdd:(((d:Int)+1)==0)=false:=by rw[beq_eq_false_iff_ne];omega
 have he:=nonempty_str (s:=s) (by rw[hh.all];simp);have hb:=hh.first;have hbn:((117:UInt8).toNat:Int)=117:=rfl;have hx0:(0:Int)<(s.size:Int):=by omega
 have hx1:(1:Int)≤(s.size:Int):=by omega
 have hez:(s.extract 1 s.size).size≤4000:=by
  have h1:=hh.len;rw[Lib.size_eq,hh.rest];omega
 have HG:Hid (∀e,Ans 117 (s.extract 1 s.size).data.toList (sizes (size d) 1 (s.extract 1 s.size).data.toList) e→Tks s.data.toList (size (d+1) s.data.toList) e):=fun e h=>by
  have h2:=h.tks
  have hbody:body (size d) 117 t=sizes (size d) 1 t:=by
   show(if(117:UInt8)=98∧t.head?≠some 117 then none else _)=_;exact if_neg (fun h=>absurd h.1 (by decide))
  rw[hh.all,size_cons,hbody];rw[hh.rest]at h2;exact h2
 clear ih hh;go_enter Tryz.func93,Tryz.ntmps93;go_wp2_with fail;go_quiet (fail);go_wp2_with (go_at_call 105;refine(takeOnePub d IH.out _ _ hd2 hez).mono ?_;rintro e w1 ⟨ha,hb1⟩;have ht:=HG.out _ ha;obtain⟨v,R,rfl⟩:=ht.form;have HT:=zh ht;have HB1:=zh ((bdrew _ _).trans (hb1.mono zl));clear ha hb1 ht;dsimp only);go_ret2;exact⟨HT.out,HB1.out⟩
theorem takePair (d:Nat) (ih:TakeAt d) (s:ByteArray) (w:World) (hd:d+1≤40) (hs:s.size≤4000) (h0:0<s.size) (t:List UInt8) (hh:Head s h0 112 t):
 Calls Tryz.prog 93 #[.string s,.int .i64 ((d+1:Nat):Int)] w fun e w'=>Tks s.data.toList (size (d+1) s.data.toList) e∧Below w.heap.size w w':=by
 have IH:=zh ih;have hd2:d≤40:=by omega
 have hdd:(((d:Int)+1)==0)=false:=by rw[beq_eq_false_iff_ne];omega
 have he:=nonempty_str (s:=s) (by rw[hh.all];simp);have hb:=hh.first;have hbn:((112:UInt8).toNat:Int)=112:=rfl;have hx0:(0:Int)<(s.size:Int):=by omega
 have hx1:(1:Int)≤(s.size:Int):=by omega
 have hez:(s.extract 1 s.size).size≤4000:=by
  have h1:=hh.len;rw[Lib.size_eq,hh.rest];omega
 have HG:Hid (∀e,Ans 112 (s.extract 1 s.size).data.toList (sizes (size d) 2 (s.extract 1 s.size).data.toList) e→Tks s.data.toList (size (d+1) s.data.toList) e):=fun e h=>by
  have h2:=h.tks
  have hbody:body (size d) 112 t=sizes (size d) 2 t:=by
   show(if(112:UInt8)=98∧t.head?≠some 117 then none else _)=_;exact if_neg (fun h=>absurd h.1 (by decide))
  rw[hh.all,size_cons,hbody];rw[hh.rest]at h2;exact h2
 clear ih hh;go_enter Tryz.func93,Tryz.ntmps93;go_wp2_with fail;go_quiet (fail);go_wp2_with (go_at_call 106;refine(takeTwoPair d IH.out _ _ hd2 hez).mono ?_;rintro e w1 ⟨ha,hb1⟩;have ht:=HG.out _ ha;obtain⟨v,R,rfl⟩:=ht.form;have HT:=zh ht;have HB1:=zh ((bdrew _ _).trans (hb1.mono zl));clear ha hb1 ht;dsimp only);go_ret2;exact⟨HT.out,HB1.out⟩
theorem takeSealed (d:Nat) (ih:TakeAt d) (s:ByteArray) (w:World) (hd:d+1≤40) (hs:s.size≤4000) (h0:0<s.size) (t:List UInt8) (hh:Head s h0 115 t):
 Calls Tryz.prog 93 #[.string s,.int .i64 ((d+1:Nat):Int)] w fun e w'=>Tks s.data.toList (size (d+1) s.data.toList) e∧Below w.heap.size w w':=by
 have IH:=zh ih;have hd2:d≤40:=by omega
 have hdd:(((d:Int)+1)==0)=false:=by rw[beq_eq_false_iff_ne];omega
 have he:=nonempty_str (s:=s) (by rw[hh.all];simp);have hb:=hh.first;have hbn:((115:UInt8).toNat:Int)=115:=rfl;have hx0:(0:Int)<(s.size:Int):=by omega
 have hx1:(1:Int)≤(s.size:Int):=by omega
 have hez:(s.extract 1 s.size).size≤4000:=by
  have h1:=hh.len;rw[Lib.size_eq,hh.rest];omega
 have HG:Hid (∀e,Ans 115 (s.extract 1 s.size).data.toList (sizes (size d) 2 (s.extract 1 s.size).data.toList) e→Tks s.data.toList (size (d+1) s.data.toList) e):=fun e h=>by
  have h2:=h.tks
  have hbody:body (size d) 115 t=sizes (size d) 2 t:=by
   show(if(115:UInt8)=98∧t.head?≠some 117 then none else _)=_;exact if_neg (fun h=>absurd h.1 (by decide))
  rw[hh.all,size_cons,hbody];rw[hh.rest]at h2;exact h2
 clear ih hh;go_enter Tryz.func93,Tryz.ntmps93;go_wp2_with fail;go_quiet (fail);go_wp2_with (go_at_call 106;refine(takeTwoSealed d IH.out _ _ hd2 hez).mono ?_;rintro e w1 ⟨ha,hb1⟩;have ht:=HG.out _ ha;obtain⟨v,R,rfl⟩:=ht.form;have HT:=zh ht;have HB1:=zh ((bdrew _ _).trans (hb1.mono zl));clear ha hb1 ht;dsimp only);go_ret2;exact⟨HT.out,HB1.out⟩
theorem takeBoxed (d:Nat) (ih:TakeAt d) (s:ByteArray) (w:World) (hd:d+1≤40) (hs:s.size≤4000) (h0:0<s.size) (t:List UInt8) (hh:Head s h0 98 t):
 Calls Tryz.prog 93 #[.string s,.int .i64 ((d+1:Nat):Int)] w fun e w'=>Tks s.data.toList (size (d+1) s.data.toList) e∧Below w.heap.size w w':=by
 have IH:=zh ih;have hd2:d≤40:=by omega
 have hdd:(((d:Int)+1)==0)=false:=by rw[beq_eq_false_iff_ne];omega
 have he:=nonempty_str (s:=s) (by rw[hh.all];simp);have hb:=hh.first;have hbn:((98:UInt8).toNat:Int)=98:=rfl;have hx0:(0:Int)<(s.size:Int):=by omega
 have hx1:(1:Int)≤(s.size:Int):=by omega
 have hez:(s.extract 1 s.size).size≤4000:=by
  have h1:=hh.len;rw[Lib.size_eq,hh.rest];omega
 have HG:Hid (∀e,Ans 98 (s.extract 1 s.size).data.toList (if(s.extract 1 s.size).data.toList.head?≠some 117 then none else sizes (size d) 2 (s.extract 1 s.size).data.toList) e→Tks s.data.toList (size (d+1) s.data.toList) e):=fun e h=>by
  have h2:=h.tks
  have hbody:body (size d) 98 t=if t.head?≠some 117 then none else sizes (size d) 2 t:=by
   show(if(98:UInt8)=98∧t.head?≠some 117 then none else _)=_;simp only[true_and]
  rw[hh.all,size_cons,hbody];rw[hh.rest]at h2;exact h2
 clear ih hh;go_enter Tryz.func93,Tryz.ntmps93;go_wp2_with fail;go_quiet (fail);go_wp2_with (go_at_call 106;refine(takeTwoBoxed d IH.out _ _ hd2 hez).mono ?_;rintro e w1 ⟨ha,hb1⟩;have ht:=HG.out _ ha;obtain⟨v,R,rfl⟩:=ht.form;have HT:=zh ht;have HB1:=zh ((bdrew _ _).trans (hb1.mono zl));clear ha hb1 ht;dsimp only);go_ret2;exact⟨HT.out,HB1.out⟩
theorem takeSigned (d:Nat) (ih:TakeAt d) (s:ByteArray) (w:World) (hd:d+1≤40) (hs:s.size≤4000) (h0:0<s.size) (t:List UInt8) (hh:Head s h0 103 t):
 Calls Tryz.prog 93 #[.string s,.int .i64 ((d+1:Nat):Int)] w fun e w'=>Tks s.data.toList (size (d+1) s.data.toList) e∧Below w.heap.size w w':=by
 have IH:=zh ih;have hd2:d≤40:=by omega
 have hdd:(((d:Int)+1)==0)=false:=by rw[beq_eq_false_iff_ne];omega
 have he:=nonempty_str (s:=s) (by rw[hh.all];simp);have hb:=hh.first;have hbn:((103:UInt8).toNat:Int)=103:=rfl;have hx0:(0:Int)<(s.size:Int):=by omega
 have hx1:(1:Int)≤(s.size:Int):=by omega
 have hez:(s.extract 1 s.size).size≤4000:=by
  have h1:=hh.len;rw[Lib.size_eq,hh.rest];omega
 have HG:Hid (∀e,Ans 103 (s.extract 1 s.size).data.toList (sizes (size d) 2 (s.extract 1 s.size).data.toList) e→Tks s.data.toList (size (d+1) s.data.toList) e):=fun e h=>by
  have h2:=h.tks
  have hbody:body (size d) 103 t=sizes (size d) 2 t:=by
   show(if(103:UInt8)=98∧t.head?≠some 117 then none else _)=_;exact if_neg (fun h=>absurd h.1 (by decide))
  rw[hh.all,size_cons,hbody];rw[hh.rest]at h2;exact h2
 clear ih hh;go_enter Tryz.func93,Tryz.ntmps93;go_wp2_with fail;go_quiet (fail);go_wp2_with (go_at_call 106;refine(takeTwoSigned d IH.out _ _ hd2 hez).mono ?_;rintro e w1 ⟨ha,hb1⟩;have ht:=HG.out _ ha;obtain⟨v,R,rfl⟩:=ht.form;have HT:=zh ht;have HB1:=zh ((bdrew _ _).trans (hb1.mono zl));clear ha hb1 ht;dsimp only);go_ret2;exact⟨HT.out,HB1.out⟩
theorem takeOther (d:Nat) (s:ByteArray) (w:World) (hd:d+1≤40) (hs:s.size≤4000) (h0:0<s.size) (b:UInt8) (t:List UInt8) (hh:Head s h0 b t) (ha:arity b=none):
 Calls Tryz.prog 93 #[.string s,.int .i64 ((d+1:Nat):Int)] w fun e w'=>Tks s.data.toList (size (d+1) s.data.toList) e∧Below w.heap.size w w':=by
 have hz:size (d+1) s.data.toList=0:=by
  rw[hh.all,size_cons];unfold body;rw[ha];rfl
 rw[hz];have hdd:(((d:Int)+1)==0)=false:=by rw[beq_eq_false_iff_ne];omega
 have he:=nonempty_str (s:=s) (by rw[hh.all];simp);have hb:=hh.first;have hx0:(0:Int)<(s.size:Int):=by omega
 have hx1:(1:Int)≤(s.size:Int):=by omega
 have hk:∀k:UInt8,arity k≠none→((b.toNat:Int)==(k.toNat:Int))=false:=fun k hk=>by
  rw[beq_eq_false_iff_ne];intro h;exact hk (by rw[←UInt8.toNat_inj.1 (show b.toNat=k.toNat by omega)];exact ha)
 have c97:((b.toNat:Int)==97)=false:=hk 97 (by decide);have c116:((b.toNat:Int)==116)=false:=hk 116 (by decide);have c104:((b.toNat:Int)==104)=false:=hk 104 (by decide);have c117:((b.toNat:Int)==117)=false:=hk 117 (by decide);have c112:((b.toNat:Int)==112)=false:=hk 112 (by decide);have c115:((b.toNat:Int)==115)=false:=hk 115 (by decide);have c98:((b.toNat:Int)==98)=false:=hk 98 (by decide);have c103:((b.toNat:Int)==103)=false:=hk 103 (by decide);clear hh ha hz hk;go_enter Tryz.func93,Tryz.ntmps93;go_wp2_with fail;go_quiet (fail);go_wp2;go_ret2;exact⟨.inl ⟨rfl,rfl⟩,bdrew _ _⟩
theorem take_at:∀d,d≤40→TakeAt d
 | 0,_=>take_zero
 | d+1,hd=>fun s w hs=>by
  by_cases h:s.data.toList = []
  ·exact take_empty (d+1) s w h
  ·have h0:0<s.size:=by rw[Lib.size_eq];exact List.length_pos_iff.2 h
   obtain⟨b,t,hh⟩:=head_of h0;have ih:=take_at d (by omega);by_cases k1:b=97
   ·subst k1;exact takeAtom d ih s w hd hs h0 t hh
   by_cases k2:b=116
   ·subst k2;exact takeText d ih s w hd hs h0 t hh
   by_cases k3:b=104
   ·subst k3;exact takeHash d ih s w hd hs h0 t hh
   by_cases k4:b=117
   ·subst k4;exact takePub d ih s w hd hs h0 t hh
   by_cases k5:b=112
   ·subst k5;exact takePair d ih s w hd hs h0 t hh
   by_cases k6:b=115
   ·subst k6;exact takeSealed d ih s w hd hs h0 t hh
   by_cases k7:b=98
   ·subst k7;exact takeBoxed d ih s w hd hs h0 t hh
   by_cases k8:b=103
   ·subst k8;exact takeSigned d ih s w hd hs h0 t hh
   exact takeOther d s w hd hs h0 b t hh (by unfold arity;rw[if_neg (by simp[k1,k2]),if_neg (by simp[k3,k4]),if_neg (by simp[k5,k6,k7,k8])])
def Wh (l:List UInt8) (e:Ending):Prop:=(right l=false∧e = .returned .nilIface)∨(right l=true∧∃(T:TypeId) (a:Value),Shp l (.iface T a)∧e = .returned (.iface T a))
theorem whole_any (s:ByteArray) (w:World):
 Calls Tryz.prog 72 #[.string s] w fun e w'=>Wh s.data.toList e∧Below w.heap.size w w':=by
 by_cases hs:(s.size:Int)≤4000
 ·obtain⟨n,hn⟩:∃n,size 40 s.data.toList=n:=⟨_,rfl⟩
  have HN:=zh hn;have hle:=size_le 40 s.data.toList;rw[hn,←Lib.size_eq]at hle;have HC:Hid (∀w,Calls Tryz.prog 93 #[.string s,.int .i64 40] w fun e w'=>Tks s.data.toList (size 40 s.data.toList) e∧Below w.heap.size w w'):=fun w=>take_at 40 zl s w (by omega)
  by_cases h0:n=0
  ·have hr:right s.data.toList=false:=by
    rw[←Bool.not_eq_true];intro h;obtain⟨h1,_,h3⟩:=right_iff.1 h;exact h1 (List.eq_nil_of_length_eq_zero (by omega))
   have HR:=zh hr;have H0:=zh h0;clear hn h0 hr;go_enter Tryz.func72,Tryz.ntmps72;go_wp2_with (go_at_call 93;refine(HC.out _).mono ?_;rw[HN.out];rintro e w1 ⟨ht,hb1⟩;obtain rfl:=ht.zero H0.out;have HB1:=zh hb1;clear hb1 ht;dsimp only);go_ret;exact⟨.inl ⟨HR.out,rfl⟩,HB1.out⟩
  ·by_cases hf:n=s.size
   ·have hr:right s.data.toList=true:=right_iff.2 ⟨fun h=>h0 (by rw[←hn,h];exact size_nil 40),by rw[←Lib.size_eq];omega,by rw[hn,hf,Lib.size_eq]⟩
    have HR:=zh hr;have H0:=zh h0;have HF:=zh hf;clear hn h0 hr hf;go_enter Tryz.func72,Tryz.ntmps72;go_wp2_with (go_at_call 93;refine(HC.out _).mono ?_;rw[HN.out];rintro e w1 ⟨ht,hb1⟩;obtain⟨T,a,R,hsh,hR,rfl⟩:=ht.pos H0.out;have hRe:=empty_str (s:=R) (by rw[hR,HF.out,Lib.size_eq,List.drop_length]);have HSH:=zh hsh;have HB1:=zh hb1;clear hb1 ht hsh hR;dsimp only);go_ret;refine⟨.inr ⟨HR.out,T,a,?_,rfl⟩,HB1.out⟩;have h:=HSH.out;rw[HF.out,Lib.size_eq,List.take_length]at h;exact h
   ·have hr:right s.data.toList=false:=by
     rw[←Bool.not_eq_true];intro h;obtain⟨_,_,h3⟩:=right_iff.1 h;exact hf (by rw[←hn,h3,Lib.size_eq])
    have HR:=zh hr;have H0:=zh h0;have HF:Hid (n<s.size):=by show n<s.size;omega
    clear hn h0 hr hf;go_enter Tryz.func72,Tryz.ntmps72;go_wp2_with (go_at_call 93;refine(HC.out _).mono ?_;rw[HN.out];rintro e w1 ⟨ht,hb1⟩;obtain⟨T,a,R,hsh,hR,rfl⟩:=ht.pos H0.out;have hRe:=nonempty_str (s:=R) (by rw[hR];intro h;have h2:=congrArg List.length h;rw[List.length_drop,←Lib.size_eq,List.length_nil]at h2;have:=HF.out;omega);have HB1:=zh hb1;clear hb1 ht hsh hR;dsimp only);go_ret;exact⟨.inl ⟨HR.out,rfl⟩,HB1.out⟩
 ·have hr:right s.data.toList=false:=by
   rw[←Bool.not_eq_true];intro h;have:=(right_iff.1 h).2.1;rw[←Lib.size_eq]at this;omega
  have HR:=zh hr;clear hr;go_enter Tryz.func72,Tryz.ntmps72;go_wp2_with fail;go_ret;exact⟨.inl ⟨HR.out,rfl⟩,Below.refl _ _⟩
end Go.Proofs.YtmihiknebelkbaaGreat.Term
namespace Go.Proofs.YtmihiknebelkbaaGreat.Term
open Go.RowKit Wire
theorem Wh.zero {l:List UInt8} {e:Ending} (h:Wh l e) (h0:right l=false):e = .returned .nilIface:=by
 rcases h with⟨_,h⟩|⟨h,_⟩
 ·exact h
 ·rw[h0]at h;cases h
theorem Wh.pos {l:List UInt8} {e:Ending} (h:Wh l e) (h0:right l=true):∃(T:TypeId) (a:Value),Shp l (.iface T a)∧e = .returned (.iface T a):=by
 rcases h with⟨h,_⟩|⟨_,h⟩
 ·rw[h0]at h;cases h
 ·exact h
theorem t_Kind (a:ByteArray) (w:World) (_:a.size≤140737488355328):
 Calls Tryz.prog 53 #[.string a] w fun e w'=>e = .returned (.int .u8 (kind a.data.toList:Nat))∧Below w.heap.size w w':=by
 have q0:=nil_no;have q1:=nil_yes;cases hr:right a.data.toList with
 | true=>
  have HR:=zh hr;have hz:=(right_sz hr).1;have hz1:(0:Int)<(a.size:Int):=by omega
  have hh:=head_get hz
  have hm:kind a.data.toList=(a[0]'hz).toNat:=by
   unfold kind;rw[if_pos hr];cases hl:a.data.toList with
   | nil=>rw[hl]at hh;cases hh
   | cons x y=>rw[hl]at hh;rw[←Option.some.inj hh];rfl
  rw[hm];clear hr hm hh;go_enter Tryz.func53,Tryz.ntmps53;go_wp2_with (go_at_call 72;refine(whole_any a _).mono ?_;rintro e w1 ⟨ht,hb1⟩;obtain⟨T,v,hsh,rfl⟩:=ht.pos HR.out;have HB1:=zh hb1;clear hb1 ht hsh);go_ret;exact⟨rfl,HB1.out⟩
 | false=>
  have HR:=zh hr;have hm:kind a.data.toList=0:=by unfold kind;rw[if_neg (by rw[hr];decide)]
  rw[hm];clear hr hm;go_enter Tryz.func53,Tryz.ntmps53;go_wp2_with (go_at_call 72;refine(whole_any a _).mono ?_;rintro e w1 ⟨ht,hb1⟩;obtain rfl:=ht.zero HR.out;have HB1:=zh hb1;clear hb1 ht);go_ret;exact⟨rfl,HB1.out⟩
end Go.Proofs.YtmihiknebelkbaaGreat.Term
namespace Go.Proofs.YtmihiknebelkbaaGreat.Term
open Go.RowKit Wire
end Go.Proofs.YtmihiknebelkbaaGreat.Term
namespace Go.Proofs.YtmihiknebelkbaaGreat.Term
open Go.RowKit Wire
end Go.Proofs.YtmihiknebelkbaaGreat.Term
namespace Go.Proofs.YtmihiknebelkbaaGreat.Term
open Go.RowKit Wire
theorem after_alloc {w w1 w2:World} {o:Obj} (h:Below w.heap.size w w1) (h2:Below (w1.alloc o).heap.size (w1.alloc o) w2):Below w.heap.size w w2:=by
 have h1:=h.alloc h.size o;exact h1.trans (h2.mono h1.size)
end Go.Proofs.YtmihiknebelkbaaGreat.Term
namespace Go.Proofs.YtmihiknebelkbaaGreat.Term
open Go.RowKit Wire
end Go.Proofs.YtmihiknebelkbaaGreat.Term
