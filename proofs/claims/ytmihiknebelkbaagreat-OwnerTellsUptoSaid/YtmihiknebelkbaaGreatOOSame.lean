/-
  OTakeC, OShown, OSame. By an AI agent.
-/
import Derived.Test.YtmihiknebelkbaaGreatOZ
import Derived.Test.YtmihiknebelkbaaGreatOORead
import Derived.Laws.Closers25
import Derived.StillTailTactics
import Derived.Test.YtmihiknebelkbaaGreatOJ4
set_option linter.unusedSimpArgs false
set_option linter.unusedVariables false
set_option maxHeartbeats 8000000
namespace Go.Proofs.YtmihiknebelkbaaGreat.Own
open Go Go.RowKit Wire Term Rig Mta Frm Usr
theorem readC_few {s:Tm} {e:Env} (hs:s.length≤1000000) (h:readC s=some e):FewE e:=by
 unfold readC at h;by_cases c1:(all s 4 (s.length:Int)).2≠0∨(all s 4 (s.length:Int)).1.length≠4
 ·rw[if_pos c1]at h;cases h
 rw[if_neg c1]at h;have hl:=fun t ht=>(Rig.all_few (l:=s) (a:=4) (b:=(s.length:Int)) rfl).2 t ht
 have h4:(all s 4 (s.length:Int)).1.length=4:=Decidable.not_not.1 fun hn=>c1 (.inr hn)
 have ha:((all s 4 (s.length:Int)).1.getD 3 []).length≤s.length:=by
  rw[List.getD_eq_getElem?_getD,List.getElem?_eq_getElem (by omega)];exact hl _ (List.getElem_mem _)
 generalize (all s 4 (s.length:Int)).1=l at h ha;by_cases c2:(takeM (l.getD 0 [])).2≠0
 ·rw[if_pos c2]at h;cases h
 rw[if_neg c2]at h;by_cases c3:(Frs.takeS (l.getD 1 [])).2≠0
 ·rw[if_pos c3]at h;cases h
 rw[if_neg c3]at h;by_cases c4:(tk (l.getD 2 [])).2.2≠0∨(tk (l.getD 2 [])).2.1≠[]
 ·rw[if_pos c4]at h;cases h
 rw[if_neg c4]at h;by_cases c5:(all (l.getD 3 []) 3 ((((l.getD 3 []).length:Nat)):Int)).2≠0
 ·rw[if_pos c5]at h;cases h
 rw[if_neg c5]at h;obtain⟨pf,e6,h6⟩:∃pf e,all (l.getD 3 []) 3 ((((l.getD 3 []).length:Nat)):Int)=(pf,e):=⟨_,_,rfl⟩
 rw[h6]at h;have hp:=Rig.all_few h6;have h3:max (3:Int) 0=3:=rfl;rw[h3]at hp;have hp1:pf.length≤40:=by have:=hp.1;omega
 rw[←Option.some.inj h];exact few_parts (e3:=(takeM (l.getD 0 [])).2) (e4:=(Frs.takeS (l.getD 1 [])).2) (n:=0) rfl rfl hp1 (fun t ht=>by have:=hp.2 t ht;omega) _ (by rw[IntKind.wrap_i64];omega)
set_option maxRecDepth 1000000 in
theorem otake_code (s:ByteArray) (w:World) (hs:s.size≤90000):Calls Tryz.prog 9 #[.string s] w fun e w'=>Ewn w.heap.size (takeE s.data.toList) e w'∧Below w.heap.size w w':=by
 have HT:=zh fun w=>oread_any s w (by omega)
 have hl:s.data.toList.length≤90000:=by rw[←Lib.size_eq];exact hs
 obtain⟨X,hX⟩:∃X,takeE s.data.toList=X:=⟨_,rfl⟩
 have hc:=takeC_is hl;rw[hX]at hc⊢;obtain⟨E,hE⟩:∃E,(readC s.data.toList).getD ezero=E:=⟨_,rfl⟩
 obtain⟨b,hb⟩:∃b,(readC s.data.toList).isSome=b:=⟨_,rfl⟩
 rw[hE,hb]at HT
 have HN:Hid (b=false→X=(ezero,2)):=zh fun h=>by
  rw[h]at hb;rw[←hc];unfold takeC;cases hr:readC s.data.toList with
  | none=>rfl
  | some e=>rw[hr]at hb;cases hb
 have HY:Hid (b=true→FewE E∧(ER E→X=(E,0))∧(¬ER E→X=(ezero,2))):=zh fun h=>by
  rw[h]at hb;rw[←hc];unfold takeC;cases hr:readC s.data.toList with
  | none=>rw[hr]at hb;cases hb
  | some e=>
   rw[hr]at hE;obtain rfl:e=E:=hE;exact⟨readC_few (by omega) hr,fun h=>if_pos h,fun h=>if_neg h⟩
 clear hc hX hE hb hl hs;obtain⟨M,S,I,pf⟩:=E;try dsimp only at HT
 have HF:=zh (fm_refl w);go_enter Tryz.func9,Tryz.ntmps9;go_wp2_with fail;have hF:=HF.out.box #[.string ⟨#[]⟩,.string ⟨#[]⟩,.int .i64 0,.slice none 0 0,.slice none 0 0,.int .u64 0,.slice none 0 0,.slice none 0 0,.string ⟨#[]⟩,.string ⟨#[]⟩,.int .u64 0,.int .i64 0,.string ⟨#[]⟩,.string ⟨#[]⟩,.int .i64 0,.slice none 0 0] 32;obtain⟨gx,hg⟩:∃g,w.heap.size=g:=⟨_,rfl⟩
 rw[hg]at hF⊢;clear hg;generalize w.alloc (.cells #[.string ⟨#[]⟩,.string ⟨#[]⟩,.int .i64 0,.slice none 0 0,.slice none 0 0,.int .u64 0,.slice none 0 0,.slice none 0 0,.string ⟨#[]⟩,.string ⟨#[]⟩,.int .u64 0,.int .i64 0,.string ⟨#[]⟩,.string ⟨#[]⟩,.int .i64 0,.slice none 0 0] 32)=w1 at hF⊢;replace HF:=zh hF;clear hF;with_reducible refine(HT.out _).mono ?_
 rintro e w1 ⟨⟨v,hv,rfl⟩,hb⟩;obtain⟨o,f,sig,ep,A,n,c,B,m,d,ver,V,k,cv,K,q,ck,O,R,G,P,cp,ps,rfl,hF,hs3,hpf,hnew⟩:=ee_fm HF.out hv hb;replace HF:=zh hF;dsimp only at hs3 hpf;subst hpf;have HS:=zh hs3;have HNEW:=zh hnew;clear hv hb hF hs3 hnew;dsimp only;have HE:Hid (∀w',(mwP (fun b=>w.heap.size≤b) [.string o,.string f,.int .i64 ep,.slice A n c,.slice B m d,.int .u64 (ver:Int),.slice V k cv,.slice K q ck,.string sig] M).P w'→(rowP P ps).P w'→IsEn w.heap.size w' (.agg #[.string o,.string f,.int .i64 ep,.slice A n c,.slice B m d,.int .u64 (ver:Int),.slice V k cv,.slice K q ck,.string sig,.string O,.int .u64 (S.time:Int),.int .i64 S.many,.string R,.string G,.int .i64 I,.slice P ps.length cp]) ⟨M,S,I,bl ps⟩):=zh fun w' k1 k2=>isEn_mk (i:=I) (cp:=cp) k1 ⟨HS.out.1,rfl,rfl,HS.out.2.1,HS.out.2.2⟩ k2 HNEW.out
 cases b
 ·have HX:=zh (HN.out rfl)
  have hZ:=(HF.out.box #[.string o,.string f,.int .i64 ep,.slice A n c,.slice B m d,.int .u64 (ver:Int),.slice V k cv,.slice K q ck,.string sig,.string O,.int .u64 (S.time:Int),.int .i64 S.many,.string R,.string G,.int .i64 I,.slice P ps.length cp] 32).at 3 rfl;go_wp2_with (refine wpList_store_row (by rfl) _ _ _ (by rfl) gx #[.string ⟨#[]⟩,.string ⟨#[]⟩,.int .i64 0,.slice none 0 0,.slice none 0 0,.int .u64 0,.slice none 0 0,.slice none 0 0,.string ⟨#[]⟩,.string ⟨#[]⟩,.int .u64 0,.int .i64 0,.string ⟨#[]⟩,.string ⟨#[]⟩,.int .i64 0,.slice none 0 0] (by rfl) (by rfl) _ _ hZ (by kernel_rfl) (by rfl) (by kernel_rfl) ?_);clear hZ;have hF:=fm_row (HF.out.box #[.string o,.string f,.int .i64 ep,.slice A n c,.slice B m d,.int .u64 (ver:Int),.slice V k cv,.slice K q ck,.string sig,.string O,.int .u64 (S.time:Int),.int .i64 S.many,.string R,.string G,.int .i64 I,.slice P ps.length cp] 32) 3 rfl #[.string ⟨#[]⟩,.string ⟨#[]⟩,.int .i64 0,.slice none 0 0,.slice none 0 0,.int .u64 0,.slice none 0 0,.slice none 0 0,.string ⟨#[]⟩,.string ⟨#[]⟩,.int .u64 0,.int .i64 0,.string ⟨#[]⟩,.string ⟨#[]⟩,.int .i64 0,.slice none 0 0];simp only[List.set_cons_zero,List.set_cons_succ]at hF;generalize (w1.alloc (.cells #[.string o,.string f,.int .i64 ep,.slice A n c,.slice B m d,.int .u64 (ver:Int),.slice V k cv,.slice K q ck,.string sig,.string O,.int .u64 (S.time:Int),.int .i64 S.many,.string R,.string G,.int .i64 I,.slice P ps.length cp] 32)).setRow gx #[.string ⟨#[]⟩,.string ⟨#[]⟩,.int .i64 0,.slice none 0 0,.slice none 0 0,.int .u64 0,.slice none 0 0,.slice none 0 0,.string ⟨#[]⟩,.string ⟨#[]⟩,.int .u64 0,.int .i64 0,.string ⟨#[]⟩,.string ⟨#[]⟩,.int .i64 0,.slice none 0 0]=w2 at hF⊢;replace HF:=zh hF;clear hF;generalize w2=w1 at HF⊢;have hh:=HF.out.at 3 rfl;refine bodyPost_ret (results_row_tmp (g:=gx) rfl _ _ _ _ _ _ rfl hh Tryz.underlying32 rfl (by kernel_rfl)) rfl ?_;exact⟨⟨_,by rw[HX.out];exact isEn_zero _ w1,by rw[HX.out];rfl⟩,HF.out.bel⟩
 ·obtain⟨hfe,hg,hno⟩:=HY.out rfl
  have HFE:=zh hfe;have HG:=zh hg;have HNO:=zh hno;clear hfe hg hno;obtain⟨bb,hbb⟩:∃b,decide (ER ⟨M,S,I,bl ps⟩)=b:=⟨_,rfl⟩
  go_wp2_with fail;have hF:=HF.out.box #[.string o,.string f,.int .i64 ep,.slice A n c,.slice B m d,.int .u64 (ver:Int),.slice V k cv,.slice K q ck,.string sig,.string O,.int .u64 (S.time:Int),.int .i64 S.many,.string R,.string G,.int .i64 I,.slice P ps.length cp] 32;generalize w1.alloc (.cells #[.string o,.string f,.int .i64 ep,.slice A n c,.slice B m d,.int .u64 (ver:Int),.slice V k cv,.slice K q ck,.string sig,.string O,.int .u64 (S.time:Int),.int .i64 S.many,.string R,.string G,.int .i64 I,.slice P ps.length cp] 32)=w1 at hF⊢;replace HF:=zh hF;clear hF;with_reducible refine(oright_code _ _ _ (HE.out _ (HF.out.at 2 rfl) (HF.out.at 1 rfl)).isE HFE.out).mono ?_
  rintro e w1 ⟨rfl,hb⟩;replace HF:=zh (HF.out.go hb);clear hb;try dsimp only
  rw[hbb];cases bb
  ·have HX:=zh (HNO.out (of_decide_eq_false hbb))
   have hZ:=HF.out.at 3 rfl;go_wp2_with (refine wpList_store_row (by rfl) _ _ _ (by rfl) gx #[.string ⟨#[]⟩,.string ⟨#[]⟩,.int .i64 0,.slice none 0 0,.slice none 0 0,.int .u64 0,.slice none 0 0,.slice none 0 0,.string ⟨#[]⟩,.string ⟨#[]⟩,.int .u64 0,.int .i64 0,.string ⟨#[]⟩,.string ⟨#[]⟩,.int .i64 0,.slice none 0 0] (by rfl) (by rfl) _ _ hZ (by kernel_rfl) (by rfl) (by kernel_rfl) ?_);clear hZ;have hF:=fm_row HF.out 3 rfl #[.string ⟨#[]⟩,.string ⟨#[]⟩,.int .i64 0,.slice none 0 0,.slice none 0 0,.int .u64 0,.slice none 0 0,.slice none 0 0,.string ⟨#[]⟩,.string ⟨#[]⟩,.int .u64 0,.int .i64 0,.string ⟨#[]⟩,.string ⟨#[]⟩,.int .i64 0,.slice none 0 0];simp only[List.set_cons_zero,List.set_cons_succ]at hF;generalize w1.setRow gx #[.string ⟨#[]⟩,.string ⟨#[]⟩,.int .i64 0,.slice none 0 0,.slice none 0 0,.int .u64 0,.slice none 0 0,.slice none 0 0,.string ⟨#[]⟩,.string ⟨#[]⟩,.int .u64 0,.int .i64 0,.string ⟨#[]⟩,.string ⟨#[]⟩,.int .i64 0,.slice none 0 0]=w2 at hF⊢;replace HF:=zh hF;clear hF;generalize w2=w1 at HF⊢;have hh:=HF.out.at 3 rfl;refine bodyPost_ret (results_row_tmp (g:=gx) rfl _ _ _ _ _ _ rfl hh Tryz.underlying32 rfl (by kernel_rfl)) rfl ?_;exact⟨⟨_,by rw[HX.out];exact isEn_zero _ w1,by rw[HX.out];rfl⟩,HF.out.bel⟩
  ·have HX:=zh (HG.out (of_decide_eq_true hbb))
   clear hbb;obtain⟨c0,c1,c2,c3,c4,c5,c6,c7,c8,c9,c10,c11,c12,c13,c14,c15,c16⟩:=bxn16 (HF.out.at 0 rfl);have hZ:=HF.out.at 3 rfl;go_wp2_with (refine wpList_store_row (by rfl) _ _ _ (by rfl) gx #[.string o,.string f,.int .i64 ep,.slice A n c,.slice B m d,.int .u64 (ver:Int),.slice V k cv,.slice K q ck,.string sig,.string O,.int .u64 (S.time:Int),.int .i64 S.many,.string R,.string G,.int .i64 I,.slice P ps.length cp] (by rfl) (by rfl) _ _ hZ (by kernel_rfl) (by rfl) (by kernel_rfl) ?_);clear hZ;have hF:=fm_row HF.out 3 rfl #[.string o,.string f,.int .i64 ep,.slice A n c,.slice B m d,.int .u64 (ver:Int),.slice V k cv,.slice K q ck,.string sig,.string O,.int .u64 (S.time:Int),.int .i64 S.many,.string R,.string G,.int .i64 I,.slice P ps.length cp];simp only[List.set_cons_zero,List.set_cons_succ]at hF;generalize w1.setRow gx #[.string o,.string f,.int .i64 ep,.slice A n c,.slice B m d,.int .u64 (ver:Int),.slice V k cv,.slice K q ck,.string sig,.string O,.int .u64 (S.time:Int),.int .i64 S.many,.string R,.string G,.int .i64 I,.slice P ps.length cp]=w2 at hF⊢;replace HF:=zh hF;clear hF;generalize w2=w1 at HF⊢;clear c0 c1 c2 c3 c4 c5 c6 c7 c8 c9 c10 c11 c12 c13 c14 c15 c16;have hh:=HF.out.at 3 rfl;refine bodyPost_ret (results_row_tmp (g:=gx) rfl _ _ _ _ _ _ rfl hh Tryz.underlying32 rfl (by kernel_rfl)) rfl ?_;exact⟨⟨_,by rw[HX.out];exact HE.out _ (HF.out.at 2 rfl) (HF.out.at 1 rfl),by rw[HX.out];rfl⟩,HF.out.bel⟩
end Go.Proofs.YtmihiknebelkbaaGreat.Own
namespace Go.Proofs.YtmihiknebelkbaaGreat.Own
open Go Go.RowKit Wire Term Rig Mta Frm Usr
def keyT (k:UInt8) (o f:List UInt8):List UInt8:=k::47::(o++47::f)
def key (k:UInt8) (o f:ByteArray):ByteArray:=⟨(keyT k o.data.toList f.data.toList).toArray⟩
theorem bytes_eq {a b:ByteArray} (h:a.data.toList=b.data.toList):a=b:=by
 cases a with
 | mk d=>cases b with
  | mk e=>
   have:d=e:=Array.toList_inj.1 h;rw[this]
theorem key_app (k:UInt8) (o f:ByteArray):((((⟨#[k]⟩:ByteArray)++⟨#[47]⟩)++o)++⟨#[47]⟩)++f=key k o f:=by
 refine bytes_eq ?_;rw[app_data,app_data,app_data,app_data];simp[key,keyT]
set_option maxRecDepth 1000000 in
theorem metakey_any (O F:ByteArray) (w:World) (h:O.size+F.size≤140737488355000):Calls Tryz.prog 11 #[.string O,.string F] w fun e w'=>e = .returned (.string (key 102 O F))∧Below w.heap.size w w':=by
 have hmf:∀(fn:Fn) (first cap:Array Value) (w:World),(Instr.makeFunc fn first cap).run Tryz.prog w = .ok (.func fn first cap) w:=fun _ _ _ _=>rfl
 go_enter Tryz.func11,Tryz.ntmps11;go_wp2;go_ret;exact⟨congrArg (fun z=>Ending.returned (.string z)) (key_app 102 O F),(Below.refl _ w).alloc zl _⟩
set_option maxRecDepth 1000000 in
theorem datakey_any (O F:ByteArray) (w:World) (h:O.size+F.size≤140737488355000):Calls Tryz.prog 13 #[.string O,.string F] w fun e w'=>e = .returned (.string (key 100 O F))∧Below w.heap.size w w':=by
 have hmf:∀(fn:Fn) (first cap:Array Value) (w:World),(Instr.makeFunc fn first cap).run Tryz.prog w = .ok (.func fn first cap) w:=fun _ _ _ _=>rfl
 go_enter Tryz.func13,Tryz.ntmps13;go_wp2;go_ret;exact⟨congrArg (fun z=>Ending.returned (.string z)) (key_app 100 O F),(Below.refl _ w).alloc zl _⟩
theorem key_two (k:UInt8) (o f:ByteArray):(((⟨#[k,47]⟩:ByteArray)++o)++⟨#[47]⟩)++f=key k o f:=by
 refine bytes_eq ?_;rw[app_data,app_data,app_data];simp[key,keyT]
theorem takeE_none:takeE []=(ezero,2):=by
 unfold takeE takeEb;rw[show all [] 4 90000=([],2)from all_none rfl];exact if_pos (.inr (by decide))
set_option maxRecDepth 1000000 in
theorem rmetakey_any (O F:ByteArray) (w:World) (h:O.size+F.size≤140737488355000):Calls Tryz.prog 12 #[.string O,.string F] w fun e w'=>e = .returned (.string (key 102 O F))∧Below w.heap.size w w':=by
 go_enter Tryz.func12,Tryz.ntmps12;go_wp2;go_ret;exact⟨congrArg (fun z=>Ending.returned (.string z)) (key_two 102 O F),Below.refl _ w⟩
set_option maxRecDepth 1000000 in
theorem rdatakey_any (O F:ByteArray) (w:World) (h:O.size+F.size≤140737488355000):Calls Tryz.prog 14 #[.string O,.string F] w fun e w'=>e = .returned (.string (key 100 O F))∧Below w.heap.size w w':=by
 go_enter Tryz.func14,Tryz.ntmps14;go_wp2;go_ret;exact⟨congrArg (fun z=>Ending.returned (.string z)) (key_two 100 O F),Below.refl _ w⟩
set_option maxRecDepth 1000000 in
theorem shown15_any (w:World):Calls Tryz.prog 4 #[] w fun e w'=>e = .returned (.bool true)∧Below w.heap.size w w':=by
 have HK:Hid (key 102 ⟨#[97,110,110,97]⟩ ⟨#[110,111,116,101,115]⟩=⟨#[102,47,97,110,110,97,47,110,111,116,101,115]⟩):=zh (by decide +kernel);have HT:=zh fun w=>otake_code ⟨#[]⟩ w (by decide)
 rw[show takeE (⟨#[]⟩:ByteArray).data.toList=(ezero,2)from takeE_none]at HT;try dsimp only at HT
 have HF:=zh (fm_refl w);go_enter Tryz.func4,Tryz.ntmps4;go_wp2_with fail;with_reducible refine(HT.out _).mono ?_
 rintro e w1 ⟨⟨v,hv,rfl⟩,hb⟩;obtain⟨o,f,sig,ep,A,n,c,B,m,d,ver,V,k,cv,K,q,ck,O,R,G,P,cp,ps,rfl,hF,-⟩:=ee_fm HF.out hv hb;replace HF:=zh hF;clear hv hb hF;dsimp only;go_wp2_with fail;have hF:=HF.out.box #[.string o,.string f,.int .i64 ep,.slice A n c,.slice B m d,.int .u64 (ver:Int),.slice V k cv,.slice K q ck,.string sig,.string O,.int .u64 (ezero.s.time:Int),.int .i64 ezero.s.many,.string R,.string G,.int .i64 ezero.i,.slice P ps.length cp] 32;obtain⟨gx,hg⟩:∃g,w1.heap.size=g:=⟨_,rfl⟩
 rw[hg]at hF⊢;clear hg;generalize w1.alloc (.cells #[.string o,.string f,.int .i64 ep,.slice A n c,.slice B m d,.int .u64 (ver:Int),.slice V k cv,.slice K q ck,.string sig,.string O,.int .u64 (ezero.s.time:Int),.int .i64 ezero.s.many,.string R,.string G,.int .i64 ezero.i,.slice P ps.length cp] 32)=w1 at hF⊢;replace HF:=zh hF;clear hF;with_reducible refine(metakey_any _ _ _ (by decide)).mono ?_
 rintro e w1 ⟨rfl,hb⟩;replace HF:=zh (HF.out.go hb);clear hb;try dsimp only
 rw[HK.out];go_wp2_with fail;go_ret;exact⟨rfl,HF.out.bel⟩
end Go.Proofs.YtmihiknebelkbaaGreat.Own
namespace Go.Proofs.YtmihiknebelkbaaGreat.Own
open Go Go.RowKit Wire Term Rig Mta Frm Usr
theorem isS_one {O R G O' R' G':ByteArray} {t t' y y':Int} {s:Frs.Sp} (h:Frs.IsS (.agg #[.string O,.int .u64 t,.int .i64 y,.string R,.string G]) s) (h':Frs.IsS (.agg #[.string O',.int .u64 t',.int .i64 y',.string R',.string G']) s):O=O'∧R=R'∧G=G':=by
 obtain⟨a,b,c,h1,h2,h3,e⟩:=h;obtain⟨a',b',c',h1',h2',h3',e'⟩:=h';injection e with e
 injection e' with e'
 have q:=Array.mk.inj e;have q':=Array.mk.inj e';simp only[List.cons.injEq,Value.string.injEq]at q q';rw[q.1,q.2.2.2.1,q.2.2.2.2.1,q'.1,q'.2.2.2.1,q'.2.2.2.2.1];exact⟨str_eq (h1.trans h1'.symm),str_eq (h2.trans h2'.symm),str_eq (h3.trans h3'.symm)⟩
theorem bl_one {l k:List ByteArray} (h:bl l=bl k):l=k:=by
 induction l generalizing k with
 | nil=>
  cases k with
  | nil=>rfl
  | cons x y=>cases h
 | cons a l ih=>
  cases k with
  | nil=>cases h
  | cons b k=>
   obtain⟨h1,h2⟩:=List.cons.inj h;rw[str_eq h1,ih h2]
theorem fewM_n {m:Mt} (h:FewM m):m.r.rs.length≤2000000∧m.r.ws.length≤2000000∧m.vf.length≤2000000∧m.bs.length≤2000000:=by
 obtain⟨⟨_,_,h1,h2,_⟩,h3,h4,_⟩:=h;omega
set_option maxRecDepth 1000000 in
theorem osame_any (v v':Value) (e:Env) (w:World) (h:IsE w v e) (h':IsE w v' e) (hf:FewE e):Calls Tryz.prog 17 #[v,v'] w fun z w'=>z = .returned (.bool true)∧Below w.heap.size w w':=by
 obtain⟨o,f,sig,ep,A,n,c,B,m,d,ver,V,k,cv,K,q,ck,O,R,G,P,cp,ps,rfl,hm,hs,hp,hpe⟩:=isE_lit h;obtain⟨o',f',sig',ep',A',n',c',B',m',d',ver',V',k',cv',K',q',ck',O',R',G',P',cp',ps',rfl,hm',hs',hp',hpe'⟩:=isE_lit h';clear h h';obtain⟨rfl,rfl,rfl⟩:=isS_one hs hs';obtain rfl:ps=ps':=bl_one (hpe.trans hpe'.symm);obtain⟨M,S,I,pf⟩:=e;simp only at hm hm' hpe hf⊢;have hnp:ps.length≤40:=by rw[←bl_len,hpe];exact hf.few
 have hfm:=hf.m;have HN:=zh (fewM_n hf.m);have HM:=zh hm;have HM':=zh hm';have HP:=zh hp;have HP':=zh hp';generalize S.time=T;generalize S.many=Y;clear hm hm' hp hp' hs hs' hpe hpe' hf hfm;have HF:=zh (fm_refl w);go_enter Tryz.func17,Tryz.ntmps17;go_wp2_with fail;have hF:=(HF.out.box #[.string o,.string f,.int .i64 ep,.slice A n c,.slice B m d,.int .u64 (ver:Int),.slice V k cv,.slice K q ck,.string sig,.string O,.int .u64 (T:Int),.int .i64 Y,.string R,.string G,.int .i64 I,.slice P ps.length cp] 40).box #[.string o',.string f',.int .i64 ep',.slice A' n' c',.slice B' m' d',.int .u64 (ver':Int),.slice V' k' cv',.slice K' q' ck',.string sig',.string O,.int .u64 (T:Int),.int .i64 Y,.string R,.string G,.int .i64 I,.slice P' ps.length cp'] 40;rw[show(w.alloc (.cells #[.string o,.string f,.int .i64 ep,.slice A n c,.slice B m d,.int .u64 (ver:Int),.slice V k cv,.slice K q ck,.string sig,.string O,.int .u64 (T:Int),.int .i64 Y,.string R,.string G,.int .i64 I,.slice P ps.length cp] 40)).heap.size=w.heap.size+1 by simp]at hF;generalize (w.alloc (.cells #[.string o,.string f,.int .i64 ep,.slice A n c,.slice B m d,.int .u64 (ver:Int),.slice V k cv,.slice K q ck,.string sig,.string O,.int .u64 (T:Int),.int .i64 Y,.string R,.string G,.int .i64 I,.slice P ps.length cp] 40)).alloc (.cells #[.string o',.string f',.int .i64 ep',.slice A' n' c',.slice B' m' d',.int .u64 (ver':Int),.slice V' k' cv',.slice K' q' ck',.string sig',.string O,.int .u64 (T:Int),.int .i64 Y,.string R,.string G,.int .i64 I,.slice P' ps.length cp'] 40)=w1 at hF⊢;replace HF:=zh hF;clear hF;skip;obtain⟨a0,a1,a2,a3,a4,a5,a6,a7,a8,a9,a10,a11,a12,a13,a14,a15,a16⟩:=bxn16 (HF.out.at 1 rfl);obtain⟨b0,b1,b2,b3,b4,b5,b6,b7,b8,b9,b10,b11,b12,b13,b14,b15,b16⟩:=bxn16 (HF.out.at 0 rfl);go_wp2_with fail;clear a0 a1 a2 a3 a4 a5 a6 a7 a8 a9 a10 a11 a12 a13 a14 a15 a16 b0 b1 b2 b3 b4 b5 b6 b7 b8 b9 b10 b11 b12 b13 b14 b15 b16;with_reducible refine(msame_w _ _ _ _ (HM.out.below HF.out.bel zl) (HM'.out.below HF.out.bel zl) HN.out).mono ?_
 rintro e w1 ⟨rfl,hb⟩;replace HF:=zh (HF.out.go hb);clear hb;try dsimp only
 obtain⟨a0,a1,a2,a3,a4,a5,a6,a7,a8,a9,a10,a11,a12,a13,a14,a15,a16⟩:=bxn16 (HF.out.at 1 rfl);obtain⟨b0,b1,b2,b3,b4,b5,b6,b7,b8,b9,b10,b11,b12,b13,b14,b15,b16⟩:=bxn16 (HF.out.at 0 rfl);go_wp2_with fail;clear a0 a1 a2 a3 a4 a5 a6 a7 a8 a9 a10 a11 a12 a13 a14 a15 a16 b0 b1 b2 b3 b4 b5 b6 b7 b8 b9 b10 b11 b12 b13 b14 b15 b16;go_loopw [5] (fun vi wr=>∃j:Nat,j≤ps.length∧vi = .int .i64 (j:Int)∧Hid (Fm w wr [box (w.heap.size+1) #[.string o',.string f',.int .i64 ep',.slice A' n' c',.slice B' m' d',.int .u64 (ver':Int),.slice V' k' cv',.slice K' q' ck',.string sig',.string O,.int .u64 (T:Int),.int .i64 Y,.string R,.string G,.int .i64 I,.slice P' ps.length cp'] 40,box w.heap.size #[.string o,.string f,.int .i64 ep,.slice A n c,.slice B m d,.int .u64 (ver:Int),.slice V k cv,.slice K q ck,.string sig,.string O,.int .u64 (T:Int),.int .i64 Y,.string R,.string G,.int .i64 I,.slice P ps.length cp] 40])) (fun i _=>ps.length-(intOf i).toNat);case atStart=>exact⟨0,Nat.zero_le _,rfl,HF⟩
 case round=>
  obtain⟨j,hj,rfl,HF⟩:=hrel;have hj0:(0:Int)≤(j:Int):=Int.natCast_nonneg j;obtain⟨a0,a1,a2,a3,a4,a5,a6,a7,a8,a9,a10,a11,a12,a13,a14,a15,a16⟩:=bxn16 (HF.out.at 1 rfl);obtain⟨b0,b1,b2,b3,b4,b5,b6,b7,b8,b9,b10,b11,b12,b13,b14,b15,b16⟩:=bxn16 (HF.out.at 0 rfl);by_cases hlt:(j:Int)<(ps.length:Int)
  ·obtain⟨b,off,rfl,hbl,hcell⟩:=(HP.out.below HF.out.bel zl) j (by omega)
   obtain⟨b',off',rfl,hbl',hcell'⟩:=(HP'.out.below HF.out.bel zl) j (by omega);clear hcell hcell' hbl hbl';go_wp2_with fail;clear a0 a1 a2 a3 a4 a5 a6 a7 a8 a9 a10 a11 a12 a13 a14 a15 a16 b0 b1 b2 b3 b4 b5 b6 b7 b8 b9 b10 b11 b12 b13 b14 b15 b16;refine Ord.region_lit (S:=fun w'=>Fm w w' _) (by kernel_rfl) (by kernel_rfl) (HF.out.go (Below.drewN' (Below.refl _ _) 1)) ?_
   (refine Ord.stepR (v:=?_) (by rfl) ?_ ?_;rotate_left;· (intro w' hSw;go_simp;try with_reducible rfl));try simp only[Act.put,zq1,zq2,zq3]
   (refine Ord.stepR (v:=?_) (by rfl) ?_ ?_;rotate_left;· (intro w' hSw;obtain⟨a0,a1,a2,a3,a4,a5,a6,a7,a8,a9,a10,a11,a12,a13,a14,a15,a16⟩:=bxn16 (hSw.at 1 rfl);obtain⟨b0,b1,b2,b3,b4,b5,b6,b7,b8,b9,b10,b11,b12,b13,b14,b15,b16⟩:=bxn16 (hSw.at 0 rfl);obtain⟨b1,o1,e1,_,hc1⟩:=(HP.out.below hSw.bel zl) j (by omega);cases e1;obtain⟨b2,o2,e2,_,hc2⟩:=(HP'.out.below hSw.bel zl) j (by omega);cases e2;go_simp;try with_reducible rfl));try simp only[Act.put,zq1,zq2,zq3]
   iterate 2 (refine Ord.stepR (v:=?_) (by rfl) ?_ ?_;rotate_left;· (intro w' hSw;go_simp;try with_reducible rfl))
   try simp only[Act.put,zq1,zq2,zq3]
   (refine Ord.stepR (v:=?_) (by rfl) ?_ ?_;rotate_left;· (intro w' hSw;obtain⟨a0,a1,a2,a3,a4,a5,a6,a7,a8,a9,a10,a11,a12,a13,a14,a15,a16⟩:=bxn16 (hSw.at 1 rfl);obtain⟨b0,b1,b2,b3,b4,b5,b6,b7,b8,b9,b10,b11,b12,b13,b14,b15,b16⟩:=bxn16 (hSw.at 0 rfl);obtain⟨b1,o1,e1,_,hc1⟩:=(HP.out.below hSw.bel zl) j (by omega);cases e1;obtain⟨b2,o2,e2,_,hc2⟩:=(HP'.out.below hSw.bel zl) j (by omega);cases e2;go_simp;try with_reducible rfl));try simp only[Act.put,zq1,zq2,zq3]
   (refine Ord.stepR (v:=?_) (by rfl) ?_ ?_;rotate_left;· (intro w' hSw;go_simp;try with_reducible rfl));try simp only[Act.put,zq1,zq2,zq3]
   (refine Ord.stepR (v:=?_) (by rfl) ?_ ?_;rotate_left;· (intro w' hSw;obtain⟨a0,a1,a2,a3,a4,a5,a6,a7,a8,a9,a10,a11,a12,a13,a14,a15,a16⟩:=bxn16 (hSw.at 1 rfl);obtain⟨b0,b1,b2,b3,b4,b5,b6,b7,b8,b9,b10,b11,b12,b13,b14,b15,b16⟩:=bxn16 (hSw.at 0 rfl);obtain⟨b1,o1,e1,_,hc1⟩:=(HP.out.below hSw.bel zl) j (by omega);cases e1;obtain⟨b2,o2,e2,_,hc2⟩:=(HP'.out.below hSw.bel zl) j (by omega);cases e2;go_simp;try with_reducible rfl));try simp only[Act.put,zq1,zq2,zq3]
   iterate 2 (refine Ord.stepR (v:=?_) (by rfl) ?_ ?_;rotate_left;· (intro w' hSw;go_simp;try with_reducible rfl))
   try simp only[Act.put,zq1,zq2,zq3]
   (refine Ord.stepR (v:=?_) (by rfl) ?_ ?_;rotate_left;· (intro w' hSw;obtain⟨a0,a1,a2,a3,a4,a5,a6,a7,a8,a9,a10,a11,a12,a13,a14,a15,a16⟩:=bxn16 (hSw.at 1 rfl);obtain⟨b0,b1,b2,b3,b4,b5,b6,b7,b8,b9,b10,b11,b12,b13,b14,b15,b16⟩:=bxn16 (hSw.at 0 rfl);obtain⟨b1,o1,e1,_,hc1⟩:=(HP.out.below hSw.bel zl) j (by omega);cases e1;obtain⟨b2,o2,e2,_,hc2⟩:=(HP'.out.below hSw.bel zl) j (by omega);cases e2;go_simp;try with_reducible rfl));try simp only[Act.put,zq1,zq2,zq3]
   (refine Ord.stepR (v:=?_) (by rfl) ?_ ?_;rotate_left;· (intro w' hSw;go_simp;try with_reducible rfl));try simp only[Act.put,zq1,zq2,zq3]
   refine Ord.stepD fun w1 hZ=>?_
   replace HF:=zh hZ;clear hZ;go_wp2_with fail;go_roundw;case rel=>exact⟨j+1,by omega,by go_num,HF⟩
   case measure=>simp[intOf];omega
  go_wp2_with fail;go_ret;exact⟨rfl,HF.out.bel⟩
end Go.Proofs.YtmihiknebelkbaaGreat.Own
