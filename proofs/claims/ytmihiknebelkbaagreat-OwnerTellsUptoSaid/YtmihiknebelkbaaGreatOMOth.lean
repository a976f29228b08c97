/-
  MOth. By an AI agent.
-/
import Derived.Test.YtmihiknebelkbaaGreatOZ
import Derived.Laws.Cover1
import Derived.Test.YtmihiknebelkbaaGreatOMApp
import Derived.Test.YtmihiknebelkbaaGreatOO1
import Derived.Test.YtmihiknebelkbaaGreatOT1
set_option linter.unusedSimpArgs false
set_option maxHeartbeats 8000000
namespace Go.Proofs.YtmihiknebelkbaaGreat.Mta
open Go.RowKit Wire Rig
def Rise (l:List Tm):Prop:=l.Pairwise (fun a b=>lt a b=true)
theorem swap_set (P T:List ByteArray) (p x:ByteArray):((P++p::x::T).set (P.length+1) p).set P.length x=P++x::p::T:=by
 induction P with
 | nil=>rfl
 | cons a P ih=>simp only[List.cons_append,List.length_cons,List.set_cons_succ,ih]
theorem rising_ins {P Q:List (List UInt8)} {x:List UInt8} (h:Rise (P++Q)) (hq:∀q∈Q,lt x q=true) (hp:∀p∈P,lt p x=true):Rise (P++x::Q):=by
 obtain⟨h1,h2,h3⟩:=List.pairwise_append.1 h;refine List.pairwise_append.2 ⟨h1,List.pairwise_cons.2 ⟨hq,h2⟩,fun a ha b hb=>?_⟩;rcases List.mem_cons.1 hb with rfl|hb
 ·exact hp a ha
 ·exact h3 a ha b hb
theorem below_last {P Q:List (List UInt8)} {p x:List UInt8} (h:Rise ((P++[p])++Q)) (hpx:lt p x=true):∀y∈P++[p],lt y x=true:=fun y hy=>by
 obtain⟨h1,_,_⟩:=List.pairwise_append.1 h;obtain⟨_,_,h3⟩:=List.pairwise_append.1 h1;rcases List.mem_append.1 hy with hy|hy
 ·exact lt_trans (h3 y hy p (by simp)) hpx
 ·rw[List.mem_singleton.1 hy];exact hpx
def Row (w:World) (L:List ByteArray) (A:Option Addr) (n c:Nat) (ys:List ByteArray) (wr:World):Prop:=wr.ownsRow w.heap.size 9 1 (.slice A n c) n (sv ys)∧ys.Perm L∧Below w.heap.size w wr
def Ing (i k:Nat) (ys:List ByteArray):Prop:=∃(P:List ByteArray) (x:ByteArray) (Q R:List ByteArray),P.length=k∧P.length+Q.length=i∧ys=P++x::(Q++R)∧Rise (bl P++bl Q)∧∀q∈bl Q,lt x.data.toList q=true
theorem ing_start {i:Nat} {ys:List ByteArray} (hi:i<ys.length) (h:Rise (bl (ys.take i))):Ing i i ys:=
 ⟨ys.take i,ys[i],[],ys.drop (i+1),by simp;omega,by simp;omega,by simp[List.take_append_drop],by simpa[bl]using h,by simp[bl]⟩
theorem ing_zero {i:Nat} {ys:List ByteArray} (h:Ing i 0 ys):Rise (bl (ys.take (i+1))):=by
 obtain⟨P,x,Q,R,h1,h2,rfl,h3,h4⟩:=h;obtain rfl:=List.length_eq_zero_iff.1 h1;have hq:Q.length=i:=by simpa using h2
 have e:([]++x::(Q++R)).take (i+1)=x::Q:=by rw[List.nil_append,List.take_succ_cons,←hq,List.take_left'];rfl
 rw[e];exact rising_ins (P:=[]) h3 h4 (by simp)
theorem ing_two {i k:Nat} {ys:List ByteArray} (h:Ing i k ys) (hk:0<k) (hn:(bl ys).Nodup):∃(p x:ByteArray),k<ys.length∧ys.getD k ByteArray.empty=x∧ys.getD (k-1) ByteArray.empty=p ∧
 (lt x.data.toList p.data.toList=true→Ing i (k-1) ((ys.set k p).set (k-1) x)∧((ys.set k p).set (k-1) x).Perm ys)∧(lt x.data.toList p.data.toList=false→Rise (bl (ys.take (i+1)))):=by
 obtain⟨P,x,Q,R,h1,h2,rfl,h3,h4⟩:=h;obtain⟨P',p,rfl⟩:∃P' p,P=P'++[p]:=⟨P.dropLast,P.getLast (by intro e;rw[e]at h1;simp at h1;omega),(List.dropLast_concat_getLast _).symm⟩
 have hk1:k=P'.length+1:=by rw[←h1];simp
 subst hk1;have e:(P'++[p])++x::(Q++R)=P'++p::x::(Q++R):=by simp
 rw[e]at hn⊢;refine⟨p,x,by simp,by simp[List.getD],by simp[List.getD],fun hlt=>?_,fun hlt=>?_⟩
 ·rw[Nat.add_sub_cancel,swap_set]
  refine⟨⟨P',x,p::Q,R,rfl,by rw[←h2];simp;omega,by simp,by simpa[bl]using h3,fun q hq=>?_⟩,(List.Perm.swap _ _ _).append_left _⟩;rcases List.mem_cons.1 (show q∈p.data.toList::bl Q from hq)with rfl|hq
  ·exact hlt
  ·exact h4 q hq
 ·have hne:p.data.toList≠x.data.toList:=fun e2=>by
   have hb:bl (P'++p::x::(Q++R))=bl P'++p.data.toList::x.data.toList::bl (Q++R):=by simp[bl]
   rw[hb,e2]at hn;obtain⟨_,h6,_⟩:=List.nodup_append.1 hn;exact(List.nodup_cons.1 h6).1 (by simp)
  have hpx:lt p.data.toList x.data.toList=true:=by
   rcases lt_tri p.data.toList x.data.toList with h|h|h
   ·exact h
   ·exact absurd h hne
   ·rw[hlt]at h;cases h
  have e3:(P'++p::x::(Q++R)).take (i+1)=(P'++[p])++x::Q:=by
   rw[←e,show i+1=(P'++[p]).length+(Q.length+1)by omega,List.take_length_add_append,List.take_succ_cons,List.take_left'];rfl
  rw[e3,show bl ((P'++[p])++x::Q)=bl (P'++[p])++x.data.toList::bl Q by simp[bl]];refine rising_ins h3 h4 ?_;rw[show bl (P'++[p])=bl P'++[p.data.toList]by simp[bl]]at h3⊢;exact below_last h3 hpx
theorem sv_set (ys:List ByteArray) (k:Nat) (x:ByteArray):(sv ys).set k (.string x)=sv (ys.set k x):=by simp only[sv,List.map_set]
theorem nodup_perm {a b:List ByteArray} (h:a.Perm b) (hb:(bl b).Nodup):(bl a).Nodup:=((h.map fun y:ByteArray=>y.data.toList).nodup_iff).2 hb
theorem row_swap {w wr:World} {L ys:List ByteArray} {g n c k:Nat} {p x:ByteArray} (h:Row w L (some ⟨g,0,none⟩) n c ys wr) (hp:((ys.set k p).set (k-1) x).Perm ys):
 Row w L (some ⟨g,0,none⟩) n c ((ys.set k p).set (k-1) x) ((wr.setCell ⟨g,k,none⟩ (.string p)).setCell ⟨g,k-1,none⟩ (.string x)):=by
 have hg:∀g',some g=some g'→w.heap.size≤g':=fun g' e=>(h.1.lt g' e).1
 have h1:=h.1.stored k (.string p);have h2:=h1.1.stored (k-1) (.string x);rw[sv_set,sv_set]at h2;exact⟨h2.1,hp.trans h.2.1,(h.2.2.grown h1.2 h.2.2.size hg).grown h2.2 (h.2.2.grown h1.2 h.2.2.size hg).size hg⟩
theorem bl_app (a b:List ByteArray):bl (a++b)=bl a++bl b:=by unfold bl;rw[List.map_append]
set_option maxRecDepth 1000000 in
theorem roth_any (o f:ByteArray) (ep:Int) (A:Option Addr) (c:Nat) (rs:List ByteArray) (B:Option Addr) (d:Nat) (ws:List ByteArray) (w:World) (hA:SReads w A rs) (hB:SReads w B ws) (hna:A=none→c=0) (hnb:B=none→d=0) (hr:RR ⟨o.data.toList,f.data.toList,ep,bl rs,bl ws⟩):
 Calls Tryz.prog 61 #[RV o f ep A rs.length c B ws.length d] w fun e w'=>Lst w.heap.size (oth ⟨o.data.toList,f.data.toList,ep,bl rs,bl ws⟩) e w'∧Below w.heap.size w w':=by
 have hr2:=hr;obtain⟨a1,a2,a3,a4,a5,a6,a7⟩:=hr2;simp only[bl_len]at a4;have HND:=zh (oth_nodup hr);have HNM:=zh (oth_names hr);have HRR:=zh hr;have HA:=zh hA;have HBB:=zh hB;have HNA:=zh hna;have HNB:=zh hnb;clear hr hA hB hna hnb a1 a2 a3 a5 a6 a7;unfold RV;go_enter Tryz.func61,Tryz.ntmps61;go_wp2_with fail;have hbx:=bx_alloc w o f ep A rs.length c B ws.length d 24;have hba:=al w (.cells #[.string o,.string f,.int .i64 ep,.slice A rs.length c,.slice B ws.length d] 24);have hdr:=Below.drewN' (Below.refl (w.alloc (.cells #[.string o,.string f,.int .i64 ep,.slice A rs.length c,.slice B ws.length d] 24)).heap.size (w.alloc (.cells #[.string o,.string f,.int .i64 ep,.slice A rs.length c,.slice B ws.length d] 24))) 1;have hbx2:=hbx.below hdr (by simp);obtain⟨wd,hwd⟩:∃W,(w.alloc (.cells #[.string o,.string f,.int .i64 ep,.slice A rs.length c,.slice B ws.length d] 24)).drew=W:=⟨_,rfl⟩
 have hbd:Below w.heap.size w wd:=by rw[←hwd];exact Bel.call hba hdr
 have hbx3:Bx w.heap.size wd o f ep A rs.length c B ws.length d:=by rw[←hwd];exact hbx2
 refine wp_region_held_drew (S:=fun w'=>Bx w.heap.size w' o f ep A rs.length c B ws.length d) (by kernel_rfl) hbx2 (fun hHeld=>?_);rw[hwd]at hHeld⊢;clear hwd hdr hbx hbx2 hba;refine zqT 1 ?_ ?_ ?_;rotate_left
 ·intro w' hSw;obtain⟨c0,c1,c2,c3,c4,_⟩:=hSw;go_simp;try with_reducible rfl
 try simp only[Act.put,zq1,zq2,zq3]
 refine zqT 2 ?_ ?_ ?_;rotate_left
 ·intro w' hSw;obtain⟨c0,c1,c2,c3,c4,_⟩:=hSw;go_simp;try with_reducible rfl
 try simp only[Act.put,zq1,zq2,zq3]
 refine zqT 4 ?_ ?_ ?_;rotate_left
 ·intro w' hSw;obtain⟨c0,c1,c2,c3,c4,_⟩:=hSw;go_simp;try with_reducible rfl
 try simp only[Act.put,zq1,zq2,zq3]
 refine zqT 5 ?_ ?_ ?_;rotate_left
 ·intro w' hSw;obtain⟨c0,c1,c2,c3,c4,_⟩:=hSw;go_simp;try with_reducible rfl
 try simp only[Act.put,zq1,zq2,zq3]
 clear hHeld;refine zqR [0] ?_;refine zqC (fun K hK=>?_) AllReadyH.nil;go_simp;have hE:=own_empty_at wd wd.heap.size rfl;have hbe:=al wd (.cells #[] 9);have hx1:=hbx3.below hbe hbx3.2.2.2.2.2;refine hK.out _ _ hx1 (fun hHeld=>?_);try simp only[Act.put,zq1,zq2,zq3]
 clear hHeld;refine zqR [3] ?_;refine zqC (fun K hK=>?_) AllReadyH.nil;rw[if_pos (by rfl)];refine wp_append_strs _ _ rfl wd.heap.size _ 0 [] rs rfl hE rfl A rs.length c rfl rfl HNA.out (HA.out.below (Bel.call hbd hbe) zl) (by simp;omega) (by simp) ?_;intro v1 w1 hown1 hb1;rw[Nat.zero_add,List.nil_append]at hown1;have hx2:Bx w.heap.size w1 o f ep A rs.length c B ws.length d:=hx1.below hb1 (Nat.lt_of_lt_of_le hbx3.2.2.2.2.2 zl);have hbw1:Below wd.heap.size wd w1:=hbe.trans hb1;clear hE hx1 hb1 hbe;refine hK.out _ _ hx2 (fun hHeld=>?_);try simp only[Act.put,zq1,zq2,zq3]
 clear hHeld;refine zqR [6] ?_;refine zqC (fun K hK=>?_) AllReadyH.nil;rw[if_pos (by rfl)];refine wp_append_strs _ _ rfl wd.heap.size _ rs.length rs ws rfl hown1 rfl B ws.length d rfl rfl HNB.out (HBB.out.below (Bel.call hbd hbw1) zl) (by omega) hbw1.size ?_;intro v2 w2 hown2 hb2;have hx3:Bx w.heap.size w2 o f ep A rs.length c B ws.length d:=hx2.below hb2 (Nat.lt_of_lt_of_le hbx3.2.2.2.2.2 zl);have hbw2:Below wd.heap.size wd w2:=hbw1.trans hb2;clear hown1 hb2 hbw1;refine hK.out _ _ hx3 (fun hHeld=>?_);try simp only[Act.put,zq1,zq2,zq3]
 refine zqT 7 ?_ ?_ ?_;rotate_left
 ·intro w' hSw;obtain⟨c0,c1,c2,c3,c4,_⟩:=hSw;go_simp;try with_reducible rfl
 try simp only[Act.put,zq1,zq2,zq3]
 clear hHeld;refine wpAnyH_done (by kernel_rfl) ?_ _;have HBD:=zh hbd;obtain⟨n,hn⟩:∃n,rs.length+ws.length=n:=⟨_,rfl⟩
 rw[hn]at hown2;have hn5:n≤5:=by omega
 have hbl:∀z,z∈bl (rs++ws)↔z∈bl rs++bl ws:=fun z=>by rw[bl_app]
 have hz:∀y∈rs++ws,y.size≤2000000:=fun y hy=>by
  have h1:=HNM.out y.data.toList (by rw[←bl_app];exact List.mem_map.2 ⟨y,hy,rfl⟩);have h2:=(Txt.right_len h1.1).2;rw[Lib.size_eq];omega
 have HZ:=zh hz;have HLN:Hid ((rs++ws).length=n):=by show _=_;rw[List.length_append];exact hn
 have hnd:(bl (rs++ws)).Nodup:=by rw[bl_app];exact HND.out
 have HND2:=zh hnd;clear hx2 hx3 hbx3 hbd hz hn hnd hbl;by_cases hn0:n=0
 ·subst hn0
  obtain⟨A2,c2,rfl,hk2,hs2,hc2,hfr2⟩:=own_part hown2
  have HL:Hid (Lst w.heap.size (oth ⟨o.data.toList,f.data.toList,ep,bl rs,bl ws⟩) (.returned (.slice A2 0 c2)) w2):=by
   have e:=List.length_eq_zero_iff.1 HLN.out;obtain⟨e1,e2⟩:=List.append_eq_nil_iff.1 e;subst e1;subst e2;exact⟨A2,c2,[],rfl,⟨Nat.zero_le _,hc2.2⟩,SReads.nil _ _,fun b off h=>Nat.le_trans HBD.out.size (hfr2 b off h),rfl⟩
  have HB2:=zh (Bel.call HBD.out hbw2);clear hown2 hbw2 hk2 hs2 hc2 hfr2;go_wp2_with fail;go_loopw [4] (fun i wr=>i = .int .i64 1∧wr=w2) (fun _ _=>0);case atStart=>exact⟨rfl,rfl⟩
  case round=>
   obtain⟨rfl,rfl⟩:=hrel;go_wp2;go_ret;exact⟨HL.out,HB2.out⟩
 obtain⟨g,cc,rfl,hg1,hg2⟩:=hown2.form (by omega);have hrow:Row wd (rs++ws) (some ⟨g,0,none⟩) n cc (rs++ws) w2:=⟨hown2,List.Perm.refl _,hbw2⟩
 have HRW:=zh hrow;clear hrow hown2 hbw2 hg1 hg2;go_wp2_with fail;go_loopw [4] (fun i wr=>∃(k:Nat) (ys:List ByteArray),1≤k∧k≤n∧i = .int .i64 k∧Hid (Row wd (rs++ws) (some ⟨g,0,none⟩) n cc ys wr)∧Hid (Rise (bl (ys.take k)))) (fun i _=>n-(intOf i).toNat)
 case atStart=>
  refine⟨1,rs++ws,Nat.le_refl _,by omega,rfl,HRW,?_⟩;show Rise _
  cases rs++ws with
  | nil=>exact List.Pairwise.nil
  | cons a r=>exact List.pairwise_singleton _ _
 case round=>
  clear HRW;obtain⟨i,ys,hi1,hin,rfl,HS,HRI⟩:=hrel;by_cases hlt:i<n
  ·have HIN:Hid (Ing i i ys):=ing_start (by rw[HS.out.2.1.length_eq,HLN.out];exact hlt) HRI.out
   clear HRI;have hlt':(i:Int)<(n:Int):=by omega
   go_wp2_with fail;go_loopw [5] (fun q wr'=>∃(k:Nat) (ys:List ByteArray),k≤i∧q = .int .i64 k∧Hid (Row wd (rs++ws) (some ⟨g,0,none⟩) n cc ys wr')∧Hid (Ing i k ys)) (fun q _=>(intOf q).toNat);case atStart=>exact⟨i,ys,Nat.le_refl _,rfl,HS,HIN⟩
   case round=>
    clear HS HIN;obtain⟨k,zs,hki,rfl,HS,HIN⟩:=hrel;by_cases hk0:k=0
    ·subst hk0
     go_wp2_with fail;have hdr:=Below.drewN' (Below.refl wr.heap.size wr) 1;refine Ord.region_lit (S:=fun w'=>Below wr.heap.size wr w') (by kernel_rfl) (by kernel_rfl) hdr ?_;clear hdr;refine Ord.stepR (v:=?_) (by rfl) ?_ ?_;rotate_left
     ·intro w' hSw;clear hSw;go_simp;try with_reducible rfl
     try simp only[Act.put,zq1,zq2,zq3]
     refine Ord.stepR (v:=?_) (by rfl) ?_ ?_;rotate_left
     ·intro w' hSw;clear hSw;go_simp;try with_reducible rfl
     try simp only[Act.put,zq1,zq2,zq3]
     refine Ord.stepR (v:=?_) (by rfl) ?_ ?_;rotate_left
     ·intro w' hSw;clear hSw;go_simp;try with_reducible rfl
     try simp only[Act.put,zq1,zq2,zq3]
     refine Ord.stepS (by rfl) ?_;try simp only[Act.put,zq1,zq2,zq3]
     refine Ord.stepS (by rfl) ?_;try simp only[Act.put,zq1,zq2,zq3]
     refine Ord.stepS (by rfl) ?_;try simp only[Act.put,zq1,zq2,zq3]
     refine Ord.stepS (by rfl) ?_;try simp only[Act.put,zq1,zq2,zq3]
     refine Ord.stepS (by rfl) ?_;try simp only[Act.put,zq1,zq2,zq3]
     refine Ord.stepS (by rfl) ?_;try simp only[Act.put,zq1,zq2,zq3]
     refine Ord.stepS (by rfl) ?_;try simp only[Act.put,zq1,zq2,zq3]
     refine Ord.stepS (by rfl) ?_;try simp only[Act.put,zq1,zq2,zq3]
     refine Ord.stepS (by rfl) ?_;try simp only[Act.put,zq1,zq2,zq3]
     refine Ord.stepS (by rfl) ?_;try simp only[Act.put,zq1,zq2,zq3]
     refine Ord.stepR (v:=?_) (by rfl) ?_ ?_;rotate_left
     ·intro w' hSw;clear hSw;go_simp;try with_reducible rfl
     try simp only[Act.put,zq1,zq2,zq3]
     refine Ord.stepD ?_;rintro w9 hS9;have HB9:=zh hS9;clear hS9;go_wp2;go_roundw;case rel=>exact⟨i+1,zs,by omega,by omega,by go_num,zh ⟨own_below HS.out.1 HB9.out zl,HS.out.2.1,Bel.call HS.out.2.2 HB9.out⟩,ing_zero HIN.out⟩
     case measure=>simp[intOf];omega
    ·obtain⟨p,x,hkl,hx,hp,hyes,hno⟩:=ing_two HIN.out (by omega) (nodup_perm HS.out.2.1 HND2.out)
     have hzl:zs.length=n:=by rw[HS.out.2.1.length_eq,HLN.out]
     have hcx:=Term.own_get HS.out.1 hzl (j:=k) (by omega);have hcp:=Term.own_get HS.out.1 hzl (j:=k-1) (by omega);rw[hx]at hcx;rw[hp]at hcp
     have hxz:x.size≤2000000:=by
      have hm:x∈zs:=by rw[←hx];simp[List.getD,hkl]
      exact HZ.out x (HS.out.2.1.mem_iff.1 hm)
     have hgl:g<wr.heap.size:=(HS.out.1.lt g rfl).2;have HYES:=zh hyes;have HNO:=zh hno;have hi1':(1:Int)≤(k:Int):=by omega
     have hi2:IntKind.i64.wrap ((k:Int)-1)=(k:Int)-1:=by rw[IntKind.wrap_i64];omega
     have hi3:((k:Int)-1).toNat=k-1:=by omega
     have hi4:(0:Int)≤(k:Int)-1:=by omega
     have hi5:(k:Int)-1<(n:Int):=by omega
     have hi6:(0:Int)<(k:Int):=by omega
     have hi8:0<k:=by omega
     have hi7:(k:Int)<(n:Int):=by omega
     obtain⟨bb,hbb⟩:∃b,Op.bytesLess x.data.toList p.data.toList=b:=⟨_,rfl⟩
     have HLS:=zh fun w=>refless_any x p w hxz
     rw[hbb]at HLS;have HCX:=zh hcx;have HCP:=zh hcp;have HGL:=zh hgl;clear hyes hno hx hp hkl hzl hk0 hxz hcx hcp hgl;go_wp2_with fail;have hdr:=Below.drewN' (Below.refl wr.heap.size wr) 1;cases bb with
     | true=>
      refine Ord.region_lit (S:=fun w'=>Below wr.heap.size wr w') (by kernel_rfl) (by kernel_rfl) hdr ?_;clear hdr;refine Ord.stepR (v:=?_) (by rfl) ?_ ?_;rotate_left
      ·intro w' hSw;have hl1:=(hSw.cell (p:=⟨g,k,none⟩) HGL.out).trans HCX.out;have hl2:=(hSw.cell (p:=⟨g,k-1,none⟩) HGL.out).trans HCP.out;go_simp;try with_reducible rfl
      try simp only[Act.put,zq1,zq2,zq3]
      refine Ord.stepR (v:=?_) (by rfl) ?_ ?_;rotate_left
      ·intro w' hSw;have hl1:=(hSw.cell (p:=⟨g,k,none⟩) HGL.out).trans HCX.out;have hl2:=(hSw.cell (p:=⟨g,k-1,none⟩) HGL.out).trans HCP.out;go_simp;try with_reducible rfl
      try simp only[Act.put,zq1,zq2,zq3]
      refine Ord.stepR (v:=?_) (by rfl) ?_ ?_;rotate_left
      ·intro w' hSw;have hl1:=(hSw.cell (p:=⟨g,k,none⟩) HGL.out).trans HCX.out;have hl2:=(hSw.cell (p:=⟨g,k-1,none⟩) HGL.out).trans HCP.out;go_simp;try with_reducible rfl
      try simp only[Act.put,zq1,zq2,zq3]
      refine Ord.stepR (v:=?_) (by rfl) ?_ ?_;rotate_left
      ·intro w' hSw;have hl1:=(hSw.cell (p:=⟨g,k,none⟩) HGL.out).trans HCX.out;have hl2:=(hSw.cell (p:=⟨g,k-1,none⟩) HGL.out).trans HCP.out;go_simp;try with_reducible rfl
      try simp only[Act.put,zq1,zq2,zq3]
      refine Ord.stepR (v:=?_) (by rfl) ?_ ?_;rotate_left
      ·intro w' hSw;have hl1:=(hSw.cell (p:=⟨g,k,none⟩) HGL.out).trans HCX.out;have hl2:=(hSw.cell (p:=⟨g,k-1,none⟩) HGL.out).trans HCP.out;go_simp;try with_reducible rfl
      try simp only[Act.put,zq1,zq2,zq3]
      refine Ord.stepR (v:=?_) (by rfl) ?_ ?_;rotate_left
      ·intro w' hSw;have hl1:=(hSw.cell (p:=⟨g,k,none⟩) HGL.out).trans HCX.out;have hl2:=(hSw.cell (p:=⟨g,k-1,none⟩) HGL.out).trans HCP.out;go_simp;try with_reducible rfl
      try simp only[Act.put,zq1,zq2,zq3]
      refine Ord.stepR (v:=?_) (by rfl) ?_ ?_;rotate_left
      ·intro w' hSw;have hl1:=(hSw.cell (p:=⟨g,k,none⟩) HGL.out).trans HCX.out;have hl2:=(hSw.cell (p:=⟨g,k-1,none⟩) HGL.out).trans HCP.out;go_simp;try with_reducible rfl
      try simp only[Act.put,zq1,zq2,zq3]
      refine Ord.stepR (v:=?_) (by rfl) ?_ ?_;rotate_left
      ·intro w' hSw;have hl1:=(hSw.cell (p:=⟨g,k,none⟩) HGL.out).trans HCX.out;have hl2:=(hSw.cell (p:=⟨g,k-1,none⟩) HGL.out).trans HCP.out;go_simp;try with_reducible rfl
      try simp only[Act.put,zq1,zq2,zq3]
      refine Ord.stepR (v:=?_) (by rfl) ?_ ?_;rotate_left
      ·intro w' hSw;have hl1:=(hSw.cell (p:=⟨g,k,none⟩) HGL.out).trans HCX.out;have hl2:=(hSw.cell (p:=⟨g,k-1,none⟩) HGL.out).trans HCP.out;go_simp;try with_reducible rfl
      try simp only[Act.put,zq1,zq2,zq3]
      refine Ord.stepR (v:=?_) (by rfl) ?_ ?_;rotate_left
      ·intro w' hSw;have hl1:=(hSw.cell (p:=⟨g,k,none⟩) HGL.out).trans HCX.out;have hl2:=(hSw.cell (p:=⟨g,k-1,none⟩) HGL.out).trans HCP.out;go_simp;try with_reducible rfl
      try simp only[Act.put,zq1,zq2,zq3]
      refine Ord.stepR (v:=?_) (by rfl) ?_ ?_;rotate_left
      ·intro w' hSw;have hl1:=(hSw.cell (p:=⟨g,k,none⟩) HGL.out).trans HCX.out;have hl2:=(hSw.cell (p:=⟨g,k-1,none⟩) HGL.out).trans HCP.out;go_simp;try with_reducible rfl
      try simp only[Act.put,zq1,zq2,zq3]
      refine Ord.stepR (v:=?_) (by rfl) ?_ ?_;rotate_left
      ·intro w' hSw;have hl1:=(hSw.cell (p:=⟨g,k,none⟩) HGL.out).trans HCX.out;have hl2:=(hSw.cell (p:=⟨g,k-1,none⟩) HGL.out).trans HCP.out;go_simp;try with_reducible rfl
      try simp only[Act.put,zq1,zq2,zq3]
      refine Ord.stepC (v:=.bool true) (by rfl) ?_ (fun w1 hS=>(HLS.out w1).mono fun e w2 h=>⟨h.1,hS.trans (h.2.mono hS.size)⟩) ?_
      ·intro w' hSw;go_simp;try with_reducible rfl
      try simp only[Act.put,zq1,zq2,zq3]
      refine Ord.stepR (v:=?_) (by rfl) ?_ ?_;rotate_left
      ·intro w' hSw;have hl1:=(hSw.cell (p:=⟨g,k,none⟩) HGL.out).trans HCX.out;have hl2:=(hSw.cell (p:=⟨g,k-1,none⟩) HGL.out).trans HCP.out;go_simp;try with_reducible rfl
      try simp only[Act.put,zq1,zq2,zq3]
      refine Ord.stepD ?_;rintro w9 hS9;have HB9:=zh hS9;clear hS9;have hs9:Row wd (rs++ws) (some ⟨g,0,none⟩) n cc zs w9:=⟨own_below HS.out.1 HB9.out zl,HS.out.2.1,Bel.call HS.out.2.2 HB9.out⟩
      have hcx:=(HB9.out.cell (p:=⟨g,k,none⟩) HGL.out).trans HCX.out;have hcp:=(HB9.out.cell (p:=⟨g,k-1,none⟩) HGL.out).trans HCP.out;have hfx:=hs9.1.frozenAt k;have hfp:=hs9.1.frozenAt (k-1);have HS9:=zh hs9;clear hs9;obtain⟨hi9,hpm⟩:=HYES.out hbb;have HI9:=zh hi9;have HPM:=zh hpm;clear hi9 hpm hbb;go_wp2;go_roundw;case rel=>exact⟨k-1,_,by omega,by go_num,zh (row_swap HS9.out HPM.out),HI9⟩
      case measure=>simp[intOf];omega
     | false=>
      refine Ord.region_lit (S:=fun w'=>Below wr.heap.size wr w') (by kernel_rfl) (by kernel_rfl) hdr ?_;clear hdr;refine Ord.stepR (v:=?_) (by rfl) ?_ ?_;rotate_left
      ·intro w' hSw;have hl1:=(hSw.cell (p:=⟨g,k,none⟩) HGL.out).trans HCX.out;have hl2:=(hSw.cell (p:=⟨g,k-1,none⟩) HGL.out).trans HCP.out;go_simp;try with_reducible rfl
      try simp only[Act.put,zq1,zq2,zq3]
      refine Ord.stepR (v:=?_) (by rfl) ?_ ?_;rotate_left
      ·intro w' hSw;have hl1:=(hSw.cell (p:=⟨g,k,none⟩) HGL.out).trans HCX.out;have hl2:=(hSw.cell (p:=⟨g,k-1,none⟩) HGL.out).trans HCP.out;go_simp;try with_reducible rfl
      try simp only[Act.put,zq1,zq2,zq3]
      refine Ord.stepR (v:=?_) (by rfl) ?_ ?_;rotate_left
      ·intro w' hSw;have hl1:=(hSw.cell (p:=⟨g,k,none⟩) HGL.out).trans HCX.out;have hl2:=(hSw.cell (p:=⟨g,k-1,none⟩) HGL.out).trans HCP.out;go_simp;try with_reducible rfl
      try simp only[Act.put,zq1,zq2,zq3]
      refine Ord.stepR (v:=?_) (by rfl) ?_ ?_;rotate_left
      ·intro w' hSw;have hl1:=(hSw.cell (p:=⟨g,k,none⟩) HGL.out).trans HCX.out;have hl2:=(hSw.cell (p:=⟨g,k-1,none⟩) HGL.out).trans HCP.out;go_simp;try with_reducible rfl
      try simp only[Act.put,zq1,zq2,zq3]
      refine Ord.stepR (v:=?_) (by rfl) ?_ ?_;rotate_left
      ·intro w' hSw;have hl1:=(hSw.cell (p:=⟨g,k,none⟩) HGL.out).trans HCX.out;have hl2:=(hSw.cell (p:=⟨g,k-1,none⟩) HGL.out).trans HCP.out;go_simp;try with_reducible rfl
      try simp only[Act.put,zq1,zq2,zq3]
      refine Ord.stepR (v:=?_) (by rfl) ?_ ?_;rotate_left
      ·intro w' hSw;have hl1:=(hSw.cell (p:=⟨g,k,none⟩) HGL.out).trans HCX.out;have hl2:=(hSw.cell (p:=⟨g,k-1,none⟩) HGL.out).trans HCP.out;go_simp;try with_reducible rfl
      try simp only[Act.put,zq1,zq2,zq3]
      refine Ord.stepR (v:=?_) (by rfl) ?_ ?_;rotate_left
      ·intro w' hSw;have hl1:=(hSw.cell (p:=⟨g,k,none⟩) HGL.out).trans HCX.out;have hl2:=(hSw.cell (p:=⟨g,k-1,none⟩) HGL.out).trans HCP.out;go_simp;try with_reducible rfl
      try simp only[Act.put,zq1,zq2,zq3]
      refine Ord.stepR (v:=?_) (by rfl) ?_ ?_;rotate_left
      ·intro w' hSw;have hl1:=(hSw.cell (p:=⟨g,k,none⟩) HGL.out).trans HCX.out;have hl2:=(hSw.cell (p:=⟨g,k-1,none⟩) HGL.out).trans HCP.out;go_simp;try with_reducible rfl
      try simp only[Act.put,zq1,zq2,zq3]
      refine Ord.stepR (v:=?_) (by rfl) ?_ ?_;rotate_left
      ·intro w' hSw;have hl1:=(hSw.cell (p:=⟨g,k,none⟩) HGL.out).trans HCX.out;have hl2:=(hSw.cell (p:=⟨g,k-1,none⟩) HGL.out).trans HCP.out;go_simp;try with_reducible rfl
      try simp only[Act.put,zq1,zq2,zq3]
      refine Ord.stepR (v:=?_) (by rfl) ?_ ?_;rotate_left
      ·intro w' hSw;have hl1:=(hSw.cell (p:=⟨g,k,none⟩) HGL.out).trans HCX.out;have hl2:=(hSw.cell (p:=⟨g,k-1,none⟩) HGL.out).trans HCP.out;go_simp;try with_reducible rfl
      try simp only[Act.put,zq1,zq2,zq3]
      refine Ord.stepR (v:=?_) (by rfl) ?_ ?_;rotate_left
      ·intro w' hSw;have hl1:=(hSw.cell (p:=⟨g,k,none⟩) HGL.out).trans HCX.out;have hl2:=(hSw.cell (p:=⟨g,k-1,none⟩) HGL.out).trans HCP.out;go_simp;try with_reducible rfl
      try simp only[Act.put,zq1,zq2,zq3]
      refine Ord.stepR (v:=?_) (by rfl) ?_ ?_;rotate_left
      ·intro w' hSw;have hl1:=(hSw.cell (p:=⟨g,k,none⟩) HGL.out).trans HCX.out;have hl2:=(hSw.cell (p:=⟨g,k-1,none⟩) HGL.out).trans HCP.out;go_simp;try with_reducible rfl
      try simp only[Act.put,zq1,zq2,zq3]
      refine Ord.stepC (v:=.bool false) (by rfl) ?_ (fun w1 hS=>(HLS.out w1).mono fun e w2 h=>⟨h.1,hS.trans (h.2.mono hS.size)⟩) ?_
      ·intro w' hSw;go_simp;try with_reducible rfl
      try simp only[Act.put,zq1,zq2,zq3]
      refine Ord.stepR (v:=?_) (by rfl) ?_ ?_;rotate_left
      ·intro w' hSw;have hl1:=(hSw.cell (p:=⟨g,k,none⟩) HGL.out).trans HCX.out;have hl2:=(hSw.cell (p:=⟨g,k-1,none⟩) HGL.out).trans HCP.out;go_simp;try with_reducible rfl
      try simp only[Act.put,zq1,zq2,zq3]
      refine Ord.stepD ?_;rintro w9 hS9;have HB9:=zh hS9;clear hS9;go_wp2;go_roundw;case rel=>exact⟨i+1,zs,by omega,by omega,by go_num,zh ⟨own_below HS.out.1 HB9.out zl,HS.out.2.1,Bel.call HS.out.2.2 HB9.out⟩,HNO.out hbb⟩
      case measure=>simp[intOf];omega
  ·obtain rfl:i=n:=by omega
   have hzl:ys.length=i:=by rw[HS.out.2.1.length_eq,HLN.out]
   have hri:=HRI.out;rw[←hzl,List.take_length]at hri
   have HOT:Hid (bl ys=oth ⟨o.data.toList,f.data.toList,ep,bl rs,bl ws⟩):=oth_is HRR.out hri fun z=>by
    have h:=(HS.out.2.1.map fun y:ByteArray=>y.data.toList).mem_iff (a:=z);rw[show(bl rs++bl ws)=bl (rs++ws)from(bl_app rs ws).symm];exact h
   have HBW:=zh (Bel.call HBD.out HS.out.2.2);obtain⟨A2,c2,e2,hk2,hs2,hc2,hfr2⟩:=own_part HS.out.1;have HSS:=zh hs2;have HC2:=zh hc2;have HFR:=zh hfr2;have HE2:=zh e2;have hge:¬(i:Int)<(i:Int):=by omega
   clear hs2 hc2 hfr2 hri HRI hk2 e2;go_wp2;go_ret;refine⟨⟨A2,c2,ys,HOT.out,by rw[hzl];exact HC2.out,HSS.out,fun b off h=>Nat.le_trans HBD.out.size (HFR.out b off h),?_⟩,HBW.out⟩;exact congrArg Ending.returned (HE2.out.trans (by rw[hzl]))
end Go.Proofs.YtmihiknebelkbaaGreat.Mta
