/-
  G2. By an AI agent.
-/
import Derived.Test.YtmihiknebelkbaaGreatOZ
import Derived.Deep.QuietTactic
import Derived.BigQuiet
import Derived.Test.YtmihiknebelkbaaGreatOG1
import Derived.Test.YtmihiknebelkbaaGreatON5
import Derived.Test.YtmihiknebelkbaaGreatOW1
set_option linter.unusedSimpArgs false
set_option maxHeartbeats 8000000
namespace Go.Proofs.YtmihiknebelkbaaGreat.Rig
open Go.RowKit Wire
theorem lsd_step {o:Tm} {ys:List ByteArray} {k:Nat} (hk:k<ys.length) (h:Lsd o ((bl ys).take k)):
 Lsd o ((bl ys).take (k+1))↔nm (ys.getD k ByteArray.empty).data.toList=true∧(ys.getD k ByteArray.empty).data.toList≠o∧(0<k→lt (ys.getD (k-1) ByteArray.empty).data.toList (ys.getD k ByteArray.empty).data.toList=true):=by
 rw[bl_get hk];cases k with
 | zero=>
  rw[List.take_zero,List.nil_append,lsd_one];exact⟨fun h=>⟨h.1,h.2,fun h=>absurd h (Nat.lt_irrefl 0)⟩,fun h=>⟨h.1,h.2.1⟩⟩
 | succ j=>
  rw[bl_get (ys:=ys) (k:=j) (by omega)]at h⊢;rw[lsd_more h];exact⟨fun h=>⟨h.1,h.2.1,fun _=>h.2.2⟩,fun h=>⟨h.1,h.2.1,h.2.2 (Nat.succ_pos j)⟩⟩
theorem lsd_part {o:Tm} {ys:List ByteArray} (k:Nat) (h:Lsd o (bl ys)):Lsd o ((bl ys).take k):=lsd_sub (List.take_sublist _ _) h
section
variable {P:Program} {md:Region.Mode} {ops:Array Oper} {Q:Exit→Act→World→Prop} {S:World→Prop}
theorem wpAnyH_skip {i:Nat} {oi:Oper} {fuel:Nat} {listed:Array Bool} {a:Act} {w:World} (hi:ops[i]? = some oi)
 (hs:Region.noSelect ops=true) (hf:Region.free md ops listed i=true) (hr:(Region.ready md ops listed).contains i=true)
 (hQ:∀c a w,Q (.panic c) (a.put oi.dst undef) w→Q (.panic c) a w) (hw:Region.wanted oi (yielded ops a.tmps)=false) (hS:S w)
 (h:wpAnyH P md ops Q S fuel (listed.setIfInBounds i true) (a.put oi.dst undef) w):wpAnyH P md ops Q S (fuel+1) listed a w:=
 wpAnyH_take hi hs hf hr hQ (Or.inr ⟨hw,rfl⟩) hS h
end
set_option maxRecDepth 1000000 in
theorem rlisted_any (a:Option Addr) (c:Nat) (ys:List ByteArray) (o:ByteArray) (w:World) (hr:SReads w a ys) (hn:ys.length≤2000000) (hs:∀y∈ys,y.size≤2000000):
 Calls Tryz.prog 79 #[.slice a ys.length c,.string o] w fun e w'=>e = .returned (.bool (decide (Lsd o.data.toList (bl ys))))∧Below w.heap.size w w':=by
 have HR:=zh hr;have HS:=zh hs;obtain⟨bb,hb⟩:∃b,decide (Lsd o.data.toList (bl ys))=b:=⟨_,rfl⟩
 have HB:=zh hb;rw[hb];clear hr hb hs;go_enter Tryz.func79,Tryz.ntmps79;go_wp2_with fail;go_loopw [5] (fun i wr=>∃k:Nat,k≤ys.length∧i = .int .i64 (k:Int)∧Hid (Lsd o.data.toList ((bl ys).take k))∧Hid (Below w.heap.size w wr)) (fun i _=>ys.length-(intOf i).toNat);case atStart=>exact⟨0,Nat.zero_le _,rfl,zh (lsd_nil _),zh (Below.refl _ _)⟩
 case round=>
  obtain⟨k,hk,rfl,HL,HBW⟩:=hrel;by_cases hlt:(k:Int)<(ys.length:Int)
  ·obtain⟨b,off,rfl,hbl,hcl0⟩:=HR.out k (by omega)
   obtain⟨y,hy⟩:∃y,ys.getD k ByteArray.empty=y:=⟨_,rfl⟩
   obtain⟨x,hx⟩:∃x,ys.getD (k-1) ByteArray.empty=x:=⟨_,rfl⟩
   have hclx0:w.cell? ⟨b,off+(k-1),none⟩=some (.string (ys.getD (k-1) ByteArray.empty)):=by
    obtain⟨b2,off2,e,_,hc⟩:=HR.out (k-1) (by omega);injection e with e
    injection e with e1 e2 _
    rw[e1,e2];exact hc
   have hst:=lsd_step (ys:=ys) (k:=k) (by omega) HL.out;rw[hy]at hcl0;rw[hy,hx]at hst;have hclx:w.cell? ⟨b,off+(k-1),none⟩=some (.string x):=by rw[←hx];exact hclx0
   clear hclx0;have hcl:wr.cell? ⟨b,off+k,none⟩=some (.string y):=(HBW.out.cell (p:=⟨b,off+k,none⟩) hbl).trans hcl0;have hclx':wr.cell? ⟨b,off+(k-1),none⟩=some (.string x):=(HBW.out.cell (p:=⟨b,off+(k-1),none⟩) hbl).trans hclx
   have hysz:∀j,j<ys.length→(ys.getD j ByteArray.empty).size≤2000000:=fun j hj=>by
    refine HS.out _ ?_;simp[List.getD,hj]
   have hysz1:=hysz k (by omega);have hysz2:=hysz (k-1) (by omega);rw[hy]at hysz1;rw[hx]at hysz2
   have HNO:Hid (¬Lsd o.data.toList ((bl ys).take (k+1))→bb=false):=fun h=>by
    rw[←HB.out];exact decide_eq_false fun h2=>h (lsd_part (k+1) h2)
   have hk0:(0:Int)≤(k:Int):=by omega
   have HST:=zh hst;clear hst hy hx hysz;have HNM:=zh fun v h w=>refright_is y v h w hysz1
   cases hnm:nm y.data.toList with
   | false=>
    have hbf:bb=false:=HNO.out fun h=>by have:=(HST.out.1 h).1;rw[hnm]at this;cases this
    have HNM:=zh (HNM.out false hnm);clear hnm HNO HST;subst hbf;go_wp2_with fail;refine wp_region_held_drew (S:=fun w'=>w'.cell? ⟨b,off+k,none⟩=some (.string y)) (by kernel_rfl) hcl (fun hHeld=>?_);refine zqT 0 ?_ ?_ ?_;rotate_left
    ·intro w' hSw;(try dsimp only at hSw);go_simp;try with_reducible rfl
    try simp only[Act.put,zq1,zq2,zq3]
    refine zqT 1 ?_ ?_ ?_;rotate_left
    ·intro w' hSw;(try dsimp only at hSw);go_simp;try with_reducible rfl
    try simp only[Act.put,zq1,zq2,zq3]
    refine zqT 2 ?_ ?_ ?_;rotate_left
    ·intro w' hSw;(try dsimp only at hSw);go_simp;try with_reducible rfl
    try simp only[Act.put,zq1,zq2,zq3]
    refine zqT 3 ?_ ?_ ?_;rotate_left
    ·intro w' hSw;(try dsimp only at hSw);go_simp;try with_reducible rfl
    try simp only[Act.put,zq1,zq2,zq3]
    refine zqR [4] ?_;refine zqC (fun K hK=>?_) AllReadyH.nil;go_simp;go_at_call 62;with_reducible refine(HNM.out _).mono ?_
    rintro e w5 ⟨rfl,hb5⟩;have HB5:=zh (HBW.out.drew.trans (hb5.mono HBW.out.size));have hc5:w5.cell? ⟨b,off+k,none⟩=some (.string y):=(HB5.out.cell (p:=⟨b,off+k,none⟩) hbl).trans hcl0;clear hb5;dsimp only;refine hK.out _ _ hc5 (fun hHeld=>?_);try simp only[Act.put,zq1,zq2,zq3]
    refine zqT 5 ?_ ?_ ?_;rotate_left
    ·intro w' hSw;(try dsimp only at hSw);go_simp;try with_reducible rfl
    try simp only[Act.put,zq1,zq2,zq3]
    refine zqT 6 ?_ ?_ ?_;rotate_left
    ·intro w' hSw;(try dsimp only at hSw);go_simp;try with_reducible rfl
    try simp only[Act.put,zq1,zq2,zq3]
    refine wpAnyH_skip (i:=7) (by rw[List.getElem?_toArray];rfl) (by kernel_rfl) (by kernel_rfl) (by kernel_rfl) (by exact fun _ _ _ h=>h) (by rfl) (by assumption) ?_;try simp only[Act.put,zq1,zq2,zq3]
    refine wpAnyH_skip (i:=8) (by rw[List.getElem?_toArray];rfl) (by kernel_rfl) (by kernel_rfl) (by kernel_rfl) (by exact fun _ _ _ h=>h) (by rfl) (by assumption) ?_;try simp only[Act.put,zq1,zq2,zq3]
    refine wpAnyH_skip (i:=9) (by rw[List.getElem?_toArray];rfl) (by kernel_rfl) (by kernel_rfl) (by kernel_rfl) (by exact fun _ _ _ h=>h) (by rfl) (by assumption) ?_;try simp only[Act.put,zq1,zq2,zq3]
    refine wpAnyH_skip (i:=10) (by rw[List.getElem?_toArray];rfl) (by kernel_rfl) (by kernel_rfl) (by kernel_rfl) (by exact fun _ _ _ h=>h) (by rfl) (by assumption) ?_;try simp only[Act.put,zq1,zq2,zq3]
    refine wpAnyH_skip (i:=11) (by rw[List.getElem?_toArray];rfl) (by kernel_rfl) (by kernel_rfl) (by kernel_rfl) (by exact fun _ _ _ h=>h) (by rfl) (by assumption) ?_;try simp only[Act.put,zq1,zq2,zq3]
    refine wpAnyH_skip (i:=12) (by rw[List.getElem?_toArray];rfl) (by kernel_rfl) (by kernel_rfl) (by kernel_rfl) (by exact fun _ _ _ h=>h) (by rfl) (by assumption) ?_;try simp only[Act.put,zq1,zq2,zq3]
    refine zqT 13 ?_ ?_ ?_;rotate_left
    ·intro w' hSw;(try dsimp only at hSw);go_simp;try with_reducible rfl
    try simp only[Act.put,zq1,zq2,zq3]
    refine zqT 14 ?_ ?_ ?_;rotate_left
    ·intro w' hSw;(try dsimp only at hSw);go_simp;try with_reducible rfl
    try simp only[Act.put,zq1,zq2,zq3]
    refine wpAnyH_skip (i:=15) (by rw[List.getElem?_toArray];rfl) (by kernel_rfl) (by kernel_rfl) (by kernel_rfl) (by exact fun _ _ _ h=>h) (by rfl) (by assumption) ?_;try simp only[Act.put,zq1,zq2,zq3]
    refine wpAnyH_skip (i:=16) (by rw[List.getElem?_toArray];rfl) (by kernel_rfl) (by kernel_rfl) (by kernel_rfl) (by exact fun _ _ _ h=>h) (by rfl) (by assumption) ?_;try simp only[Act.put,zq1,zq2,zq3]
    refine wpAnyH_skip (i:=17) (by rw[List.getElem?_toArray];rfl) (by kernel_rfl) (by kernel_rfl) (by kernel_rfl) (by exact fun _ _ _ h=>h) (by rfl) (by assumption) ?_;try simp only[Act.put,zq1,zq2,zq3]
    refine wpAnyH_skip (i:=18) (by rw[List.getElem?_toArray];rfl) (by kernel_rfl) (by kernel_rfl) (by kernel_rfl) (by exact fun _ _ _ h=>h) (by rfl) (by assumption) ?_;try simp only[Act.put,zq1,zq2,zq3]
    refine wpAnyH_skip (i:=19) (by rw[List.getElem?_toArray];rfl) (by kernel_rfl) (by kernel_rfl) (by kernel_rfl) (by exact fun _ _ _ h=>h) (by rfl) (by assumption) ?_;try simp only[Act.put,zq1,zq2,zq3]
    refine wpAnyH_skip (i:=20) (by rw[List.getElem?_toArray];rfl) (by kernel_rfl) (by kernel_rfl) (by kernel_rfl) (by exact fun _ _ _ h=>h) (by rfl) (by assumption) ?_;try simp only[Act.put,zq1,zq2,zq3]
    refine wpAnyH_skip (i:=21) (by rw[List.getElem?_toArray];rfl) (by kernel_rfl) (by kernel_rfl) (by kernel_rfl) (by exact fun _ _ _ h=>h) (by rfl) (by assumption) ?_;try simp only[Act.put,zq1,zq2,zq3]
    refine wpAnyH_skip (i:=22) (by rw[List.getElem?_toArray];rfl) (by kernel_rfl) (by kernel_rfl) (by kernel_rfl) (by exact fun _ _ _ h=>h) (by rfl) (by assumption) ?_;try simp only[Act.put,zq1,zq2,zq3]
    refine wpAnyH_skip (i:=23) (by rw[List.getElem?_toArray];rfl) (by kernel_rfl) (by kernel_rfl) (by kernel_rfl) (by exact fun _ _ _ h=>h) (by rfl) (by assumption) ?_;try simp only[Act.put,zq1,zq2,zq3]
    refine wpAnyH_skip (i:=24) (by rw[List.getElem?_toArray];rfl) (by kernel_rfl) (by kernel_rfl) (by kernel_rfl) (by exact fun _ _ _ h=>h) (by rfl) (by assumption) ?_;try simp only[Act.put,zq1,zq2,zq3]
    refine wpAnyH_skip (i:=25) (by rw[List.getElem?_toArray];rfl) (by kernel_rfl) (by kernel_rfl) (by kernel_rfl) (by exact fun _ _ _ h=>h) (by rfl) (by assumption) ?_;try simp only[Act.put,zq1,zq2,zq3]
    refine wpAnyH_skip (i:=26) (by rw[List.getElem?_toArray];rfl) (by kernel_rfl) (by kernel_rfl) (by kernel_rfl) (by exact fun _ _ _ h=>h) (by rfl) (by assumption) ?_;try simp only[Act.put,zq1,zq2,zq3]
    refine wpAnyH_skip (i:=27) (by rw[List.getElem?_toArray];rfl) (by kernel_rfl) (by kernel_rfl) (by kernel_rfl) (by exact fun _ _ _ h=>h) (by rfl) (by assumption) ?_;try simp only[Act.put,zq1,zq2,zq3]
    refine wpAnyH_skip (i:=28) (by rw[List.getElem?_toArray];rfl) (by kernel_rfl) (by kernel_rfl) (by kernel_rfl) (by exact fun _ _ _ h=>h) (by rfl) (by assumption) ?_;try simp only[Act.put,zq1,zq2,zq3]
    refine wpAnyH_skip (i:=29) (by rw[List.getElem?_toArray];rfl) (by kernel_rfl) (by kernel_rfl) (by kernel_rfl) (by exact fun _ _ _ h=>h) (by rfl) (by assumption) ?_;try simp only[Act.put,zq1,zq2,zq3]
    refine zqT 30 ?_ ?_ ?_;rotate_left
    ·intro w' hSw;(try dsimp only at hSw);go_simp;try with_reducible rfl
    try simp only[Act.put,zq1,zq2,zq3]
    refine wpAnyH_done (by kernel_rfl) ?_ _;go_wp2;go_ret;exact⟨rfl,HB5.out⟩
   | true=>
    have HNM:=zh (HNM.out true hnm);by_cases heq:y.data.toList=o.data.toList
    ·have hbf:bb=false:=HNO.out fun h=>(HST.out.1 h).2.1 heq
     have q:=s_eq heq;clear heq hnm HNO HST;subst hbf;go_wp2_with fail;refine wp_region_held_drew (S:=fun w'=>w'.cell? ⟨b,off+k,none⟩=some (.string y)) (by kernel_rfl) hcl (fun hHeld=>?_);refine zqT 0 ?_ ?_ ?_;rotate_left
     ·intro w' hSw;(try dsimp only at hSw);go_simp;try with_reducible rfl
     try simp only[Act.put,zq1,zq2,zq3]
     refine zqT 1 ?_ ?_ ?_;rotate_left
     ·intro w' hSw;(try dsimp only at hSw);go_simp;try with_reducible rfl
     try simp only[Act.put,zq1,zq2,zq3]
     refine zqT 2 ?_ ?_ ?_;rotate_left
     ·intro w' hSw;(try dsimp only at hSw);go_simp;try with_reducible rfl
     try simp only[Act.put,zq1,zq2,zq3]
     refine zqT 3 ?_ ?_ ?_;rotate_left
     ·intro w' hSw;(try dsimp only at hSw);go_simp;try with_reducible rfl
     try simp only[Act.put,zq1,zq2,zq3]
     refine zqR [4] ?_;refine zqC (fun K hK=>?_) AllReadyH.nil;go_simp;go_at_call 62;with_reducible refine(HNM.out _).mono ?_
     rintro e w5 ⟨rfl,hb5⟩;have HB5:=zh (HBW.out.drew.trans (hb5.mono HBW.out.size));have hc5:w5.cell? ⟨b,off+k,none⟩=some (.string y):=(HB5.out.cell (p:=⟨b,off+k,none⟩) hbl).trans hcl0;clear hb5;dsimp only;refine hK.out _ _ hc5 (fun hHeld=>?_);try simp only[Act.put,zq1,zq2,zq3]
     refine zqT 5 ?_ ?_ ?_;rotate_left
     ·intro w' hSw;(try dsimp only at hSw);go_simp;try with_reducible rfl
     try simp only[Act.put,zq1,zq2,zq3]
     refine zqT 6 ?_ ?_ ?_;rotate_left
     ·intro w' hSw;(try dsimp only at hSw);go_simp;try with_reducible rfl
     try simp only[Act.put,zq1,zq2,zq3]
     refine zqT 7 ?_ ?_ ?_;rotate_left
     ·intro w' hSw;(try dsimp only at hSw);go_simp;try with_reducible rfl
     try simp only[Act.put,zq1,zq2,zq3]
     refine zqT 8 ?_ ?_ ?_;rotate_left
     ·intro w' hSw;(try dsimp only at hSw);go_simp;try with_reducible rfl
     try simp only[Act.put,zq1,zq2,zq3]
     refine zqT 9 ?_ ?_ ?_;rotate_left
     ·intro w' hSw;(try dsimp only at hSw);go_simp;try with_reducible rfl
     try simp only[Act.put,zq1,zq2,zq3]
     refine zqT 10 ?_ ?_ ?_;rotate_left
     ·intro w' hSw;(try dsimp only at hSw);go_simp;try with_reducible rfl
     try simp only[Act.put,zq1,zq2,zq3]
     refine zqT 11 ?_ ?_ ?_;rotate_left
     ·intro w' hSw;(try dsimp only at hSw);go_simp;try with_reducible rfl
     try simp only[Act.put,zq1,zq2,zq3]
     refine zqT 12 ?_ ?_ ?_;rotate_left
     ·intro w' hSw;(try dsimp only at hSw);go_simp;try with_reducible rfl
     try simp only[Act.put,zq1,zq2,zq3]
     refine zqT 13 ?_ ?_ ?_;rotate_left
     ·intro w' hSw;(try dsimp only at hSw);go_simp;try with_reducible rfl
     try simp only[Act.put,zq1,zq2,zq3]
     refine zqT 14 ?_ ?_ ?_;rotate_left
     ·intro w' hSw;(try dsimp only at hSw);go_simp;try with_reducible rfl
     try simp only[Act.put,zq1,zq2,zq3]
     refine wpAnyH_skip (i:=15) (by rw[List.getElem?_toArray];rfl) (by kernel_rfl) (by kernel_rfl) (by kernel_rfl) (by exact fun _ _ _ h=>h) (by rfl) (by assumption) ?_;try simp only[Act.put,zq1,zq2,zq3]
     refine wpAnyH_skip (i:=16) (by rw[List.getElem?_toArray];rfl) (by kernel_rfl) (by kernel_rfl) (by kernel_rfl) (by exact fun _ _ _ h=>h) (by rfl) (by assumption) ?_;try simp only[Act.put,zq1,zq2,zq3]
     refine wpAnyH_skip (i:=17) (by rw[List.getElem?_toArray];rfl) (by kernel_rfl) (by kernel_rfl) (by kernel_rfl) (by exact fun _ _ _ h=>h) (by rfl) (by assumption) ?_;try simp only[Act.put,zq1,zq2,zq3]
     refine wpAnyH_skip (i:=18) (by rw[List.getElem?_toArray];rfl) (by kernel_rfl) (by kernel_rfl) (by kernel_rfl) (by exact fun _ _ _ h=>h) (by rfl) (by assumption) ?_;try simp only[Act.put,zq1,zq2,zq3]
     refine wpAnyH_skip (i:=19) (by rw[List.getElem?_toArray];rfl) (by kernel_rfl) (by kernel_rfl) (by kernel_rfl) (by exact fun _ _ _ h=>h) (by rfl) (by assumption) ?_;try simp only[Act.put,zq1,zq2,zq3]
     refine wpAnyH_skip (i:=20) (by rw[List.getElem?_toArray];rfl) (by kernel_rfl) (by kernel_rfl) (by kernel_rfl) (by exact fun _ _ _ h=>h) (by rfl) (by assumption) ?_;try simp only[Act.put,zq1,zq2,zq3]
     refine wpAnyH_skip (i:=21) (by rw[List.getElem?_toArray];rfl) (by kernel_rfl) (by kernel_rfl) (by kernel_rfl) (by exact fun _ _ _ h=>h) (by rfl) (by assumption) ?_;try simp only[Act.put,zq1,zq2,zq3]
     refine wpAnyH_skip (i:=22) (by rw[List.getElem?_toArray];rfl) (by kernel_rfl) (by kernel_rfl) (by kernel_rfl) (by exact fun _ _ _ h=>h) (by rfl) (by assumption) ?_;try simp only[Act.put,zq1,zq2,zq3]
     refine wpAnyH_skip (i:=23) (by rw[List.getElem?_toArray];rfl) (by kernel_rfl) (by kernel_rfl) (by kernel_rfl) (by exact fun _ _ _ h=>h) (by rfl) (by assumption) ?_;try simp only[Act.put,zq1,zq2,zq3]
     refine wpAnyH_skip (i:=24) (by rw[List.getElem?_toArray];rfl) (by kernel_rfl) (by kernel_rfl) (by kernel_rfl) (by exact fun _ _ _ h=>h) (by rfl) (by assumption) ?_;try simp only[Act.put,zq1,zq2,zq3]
     refine wpAnyH_skip (i:=25) (by rw[List.getElem?_toArray];rfl) (by kernel_rfl) (by kernel_rfl) (by kernel_rfl) (by exact fun _ _ _ h=>h) (by rfl) (by assumption) ?_;try simp only[Act.put,zq1,zq2,zq3]
     refine wpAnyH_skip (i:=26) (by rw[List.getElem?_toArray];rfl) (by kernel_rfl) (by kernel_rfl) (by kernel_rfl) (by exact fun _ _ _ h=>h) (by rfl) (by assumption) ?_;try simp only[Act.put,zq1,zq2,zq3]
     refine wpAnyH_skip (i:=27) (by rw[List.getElem?_toArray];rfl) (by kernel_rfl) (by kernel_rfl) (by kernel_rfl) (by exact fun _ _ _ h=>h) (by rfl) (by assumption) ?_;try simp only[Act.put,zq1,zq2,zq3]
     refine wpAnyH_skip (i:=28) (by rw[List.getElem?_toArray];rfl) (by kernel_rfl) (by kernel_rfl) (by kernel_rfl) (by exact fun _ _ _ h=>h) (by rfl) (by assumption) ?_;try simp only[Act.put,zq1,zq2,zq3]
     refine wpAnyH_skip (i:=29) (by rw[List.getElem?_toArray];rfl) (by kernel_rfl) (by kernel_rfl) (by kernel_rfl) (by exact fun _ _ _ h=>h) (by rfl) (by assumption) ?_;try simp only[Act.put,zq1,zq2,zq3]
     refine zqT 30 ?_ ?_ ?_;rotate_left
     ·intro w' hSw;(try dsimp only at hSw);go_simp;try with_reducible rfl
     try simp only[Act.put,zq1,zq2,zq3]
     refine wpAnyH_done (by kernel_rfl) ?_ _;go_wp2;go_ret;exact⟨rfl,HB5.out⟩
    ·have q:=s_ne heq
     by_cases hpos:(0:Int)<(k:Int)
     ·have hposn:0<k:=by omega
      have hw1:IntKind.i64.wrap ((k:Int)-1)=(k:Int)-1:=by rw[IntKind.wrap_i64];omega
      have hw2:((k:Int)-1).toNat=k-1:=by omega
      have hw3:(1:Int)≤(k:Int):=by omega
      have hw4:(k:Int)-1<(ys.length:Int):=by omega
      have HLS:=zh fun w=>refless_any x y w hysz2
      cases hl:lt x.data.toList y.data.toList with
      | false=>
       have hbf:bb=false:=HNO.out fun h=>by have:=(HST.out.1 h).2.2 (by omega);rw[hl]at this;cases this
       rw[show Op.bytesLess x.data.toList y.data.toList=false from hl]at HLS;clear heq hnm HNO HST hl;subst hbf;go_wp2_with fail;refine wp_region_held_drew (S:=fun w'=>w'.cell? ⟨b,off+k,none⟩=some (.string y)∧w'.cell? ⟨b,off+(k-1),none⟩=some (.string x)) (by kernel_rfl) ⟨hcl,hclx'⟩ (fun hHeld=>?_);refine zqT 0 ?_ ?_ ?_;rotate_left
       ·intro w' hSw;(try dsimp only at hSw);go_simp;try with_reducible rfl
       try simp only[Act.put,zq1,zq2,zq3]
       refine zqT 1 ?_ ?_ ?_;rotate_left
       ·intro w' hSw;(try dsimp only at hSw);go_simp;try with_reducible rfl
       try simp only[Act.put,zq1,zq2,zq3]
       refine zqT 2 ?_ ?_ ?_;rotate_left
       ·intro w' hSw;(try dsimp only at hSw);go_simp;try with_reducible rfl
       try simp only[Act.put,zq1,zq2,zq3]
       refine zqT 3 ?_ ?_ ?_;rotate_left
       ·intro w' hSw;(try dsimp only at hSw);go_simp;try with_reducible rfl
       try simp only[Act.put,zq1,zq2,zq3]
       refine zqR [4] ?_;refine zqC (fun K hK=>?_) AllReadyH.nil;go_simp;go_at_call 62;with_reducible refine(HNM.out _).mono ?_
       rintro e w5 ⟨rfl,hb5⟩;have HB5:=zh (HBW.out.drew.trans (hb5.mono HBW.out.size));have hc5:w5.cell? ⟨b,off+k,none⟩=some (.string y):=(HB5.out.cell (p:=⟨b,off+k,none⟩) hbl).trans hcl0;have hx5:w5.cell? ⟨b,off+(k-1),none⟩=some (.string x):=(HB5.out.cell (p:=⟨b,off+(k-1),none⟩) hbl).trans hclx;clear hb5;dsimp only;refine hK.out _ _ ⟨hc5,hx5⟩ (fun hHeld=>?_);try simp only[Act.put,zq1,zq2,zq3]
       refine zqT 5 ?_ ?_ ?_;rotate_left
       ·intro w' hSw;(try dsimp only at hSw);go_simp;try with_reducible rfl
       try simp only[Act.put,zq1,zq2,zq3]
       refine zqT 6 ?_ ?_ ?_;rotate_left
       ·intro w' hSw;(try dsimp only at hSw);go_simp;try with_reducible rfl
       try simp only[Act.put,zq1,zq2,zq3]
       refine zqT 7 ?_ ?_ ?_;rotate_left
       ·intro w' hSw;(try dsimp only at hSw);go_simp;try with_reducible rfl
       try simp only[Act.put,zq1,zq2,zq3]
       refine zqT 8 ?_ ?_ ?_;rotate_left
       ·intro w' hSw;(try dsimp only at hSw);go_simp;try with_reducible rfl
       try simp only[Act.put,zq1,zq2,zq3]
       refine zqT 9 ?_ ?_ ?_;rotate_left
       ·intro w' hSw;(try dsimp only at hSw);go_simp;try with_reducible rfl
       try simp only[Act.put,zq1,zq2,zq3]
       refine zqT 10 ?_ ?_ ?_;rotate_left
       ·intro w' hSw;(try dsimp only at hSw);go_simp;try with_reducible rfl
       try simp only[Act.put,zq1,zq2,zq3]
       refine zqT 11 ?_ ?_ ?_;rotate_left
       ·intro w' hSw;(try dsimp only at hSw);go_simp;try with_reducible rfl
       try simp only[Act.put,zq1,zq2,zq3]
       refine zqT 12 ?_ ?_ ?_;rotate_left
       ·intro w' hSw;(try dsimp only at hSw);go_simp;try with_reducible rfl
       try simp only[Act.put,zq1,zq2,zq3]
       refine zqT 13 ?_ ?_ ?_;rotate_left
       ·intro w' hSw;(try dsimp only at hSw);go_simp;try with_reducible rfl
       try simp only[Act.put,zq1,zq2,zq3]
       refine zqT 14 ?_ ?_ ?_;rotate_left
       ·intro w' hSw;(try dsimp only at hSw);go_simp;try with_reducible rfl
       try simp only[Act.put,zq1,zq2,zq3]
       refine zqT 15 ?_ ?_ ?_;rotate_left
       ·intro w' hSw;(try dsimp only at hSw);go_simp;try with_reducible rfl
       try simp only[Act.put,zq1,zq2,zq3]
       refine zqT 16 ?_ ?_ ?_;rotate_left
       ·intro w' hSw;(try dsimp only at hSw);go_simp;try with_reducible rfl
       try simp only[Act.put,zq1,zq2,zq3]
       refine zqT 17 ?_ ?_ ?_;rotate_left
       ·intro w' hSw;(try dsimp only at hSw);go_simp;try with_reducible rfl
       try simp only[Act.put,zq1,zq2,zq3]
       refine zqT 18 ?_ ?_ ?_;rotate_left
       ·intro w' hSw;(try dsimp only at hSw);go_simp;try with_reducible rfl
       try simp only[Act.put,zq1,zq2,zq3]
       refine zqT 19 ?_ ?_ ?_;rotate_left
       ·intro w' hSw;(try dsimp only at hSw);go_simp;try with_reducible rfl
       try simp only[Act.put,zq1,zq2,zq3]
       refine zqT 20 ?_ ?_ ?_;rotate_left
       ·intro w' hSw;(try dsimp only at hSw);go_simp;try with_reducible rfl
       try simp only[Act.put,zq1,zq2,zq3]
       refine zqT 21 ?_ ?_ ?_;rotate_left
       ·intro w' hSw;(try dsimp only at hSw);go_simp;try with_reducible rfl
       try simp only[Act.put,zq1,zq2,zq3]
       refine zqT 22 ?_ ?_ ?_;rotate_left
       ·intro w' hSw;(try dsimp only at hSw);go_simp;try with_reducible rfl
       try simp only[Act.put,zq1,zq2,zq3]
       refine zqT 23 ?_ ?_ ?_;rotate_left
       ·intro w' hSw;(try dsimp only at hSw);go_simp;try with_reducible rfl
       try simp only[Act.put,zq1,zq2,zq3]
       refine zqT 24 ?_ ?_ ?_;rotate_left
       ·intro w' hSw;(try dsimp only at hSw);go_simp;try with_reducible rfl
       try simp only[Act.put,zq1,zq2,zq3]
       refine zqT 25 ?_ ?_ ?_;rotate_left
       ·intro w' hSw;(try dsimp only at hSw);go_simp;try with_reducible rfl
       try simp only[Act.put,zq1,zq2,zq3]
       refine zqT 26 ?_ ?_ ?_;rotate_left
       ·intro w' hSw;(try dsimp only at hSw);go_simp;try with_reducible rfl
       try simp only[Act.put,zq1,zq2,zq3]
       refine zqR [27] ?_;refine zqC (fun K hK=>?_) AllReadyH.nil;go_simp;go_at_call 81;with_reducible refine(HLS.out _).mono ?_
       rintro e w6 ⟨rfl,hb6⟩;have HB6:=zh (Bel.call HB5.out hb6);have hc6:w6.cell? ⟨b,off+k,none⟩=some (.string y):=(HB6.out.cell (p:=⟨b,off+k,none⟩) hbl).trans hcl0;have hx6:w6.cell? ⟨b,off+(k-1),none⟩=some (.string x):=(HB6.out.cell (p:=⟨b,off+(k-1),none⟩) hbl).trans hclx;clear hb6;dsimp only;refine hK.out _ _ ⟨hc6,hx6⟩ (fun hHeld=>?_);try simp only[Act.put,zq1,zq2,zq3]
       refine zqT 28 ?_ ?_ ?_;rotate_left
       ·intro w' hSw;(try dsimp only at hSw);go_simp;try with_reducible rfl
       try simp only[Act.put,zq1,zq2,zq3]
       refine zqT 29 ?_ ?_ ?_;rotate_left
       ·intro w' hSw;(try dsimp only at hSw);go_simp;try with_reducible rfl
       try simp only[Act.put,zq1,zq2,zq3]
       refine zqT 30 ?_ ?_ ?_;rotate_left
       ·intro w' hSw;(try dsimp only at hSw);go_simp;try with_reducible rfl
       try simp only[Act.put,zq1,zq2,zq3]
       refine wpAnyH_done (by kernel_rfl) ?_ _;go_wp2;go_ret;exact⟨rfl,HB6.out⟩
      | true=>
       have HN2:Hid (Lsd o.data.toList ((bl ys).take (k+1))):=HST.out.2 ⟨hnm,heq,fun _=>hl⟩;rw[show Op.bytesLess x.data.toList y.data.toList=true from hl]at HLS;clear heq hnm HNO HST hl;go_wp2_with fail;refine wp_region_held_drew (S:=fun w'=>w'.cell? ⟨b,off+k,none⟩=some (.string y)∧w'.cell? ⟨b,off+(k-1),none⟩=some (.string x)) (by kernel_rfl) ⟨hcl,hclx'⟩ (fun hHeld=>?_);refine zqT 0 ?_ ?_ ?_;rotate_left
       ·intro w' hSw;(try dsimp only at hSw);go_simp;try with_reducible rfl
       try simp only[Act.put,zq1,zq2,zq3]
       refine zqT 1 ?_ ?_ ?_;rotate_left
       ·intro w' hSw;(try dsimp only at hSw);go_simp;try with_reducible rfl
       try simp only[Act.put,zq1,zq2,zq3]
       refine zqT 2 ?_ ?_ ?_;rotate_left
       ·intro w' hSw;(try dsimp only at hSw);go_simp;try with_reducible rfl
       try simp only[Act.put,zq1,zq2,zq3]
       refine zqT 3 ?_ ?_ ?_;rotate_left
       ·intro w' hSw;(try dsimp only at hSw);go_simp;try with_reducible rfl
       try simp only[Act.put,zq1,zq2,zq3]
       refine zqR [4] ?_;refine zqC (fun K hK=>?_) AllReadyH.nil;go_simp;go_at_call 62;with_reducible refine(HNM.out _).mono ?_
       rintro e w5 ⟨rfl,hb5⟩;have HB5:=zh (HBW.out.drew.trans (hb5.mono HBW.out.size));have hc5:w5.cell? ⟨b,off+k,none⟩=some (.string y):=(HB5.out.cell (p:=⟨b,off+k,none⟩) hbl).trans hcl0;have hx5:w5.cell? ⟨b,off+(k-1),none⟩=some (.string x):=(HB5.out.cell (p:=⟨b,off+(k-1),none⟩) hbl).trans hclx;clear hb5;dsimp only;refine hK.out _ _ ⟨hc5,hx5⟩ (fun hHeld=>?_);try simp only[Act.put,zq1,zq2,zq3]
       refine zqT 5 ?_ ?_ ?_;rotate_left
       ·intro w' hSw;(try dsimp only at hSw);go_simp;try with_reducible rfl
       try simp only[Act.put,zq1,zq2,zq3]
       refine zqT 6 ?_ ?_ ?_;rotate_left
       ·intro w' hSw;(try dsimp only at hSw);go_simp;try with_reducible rfl
       try simp only[Act.put,zq1,zq2,zq3]
       refine zqT 7 ?_ ?_ ?_;rotate_left
       ·intro w' hSw;(try dsimp only at hSw);go_simp;try with_reducible rfl
       try simp only[Act.put,zq1,zq2,zq3]
       refine zqT 8 ?_ ?_ ?_;rotate_left
       ·intro w' hSw;(try dsimp only at hSw);go_simp;try with_reducible rfl
       try simp only[Act.put,zq1,zq2,zq3]
       refine zqT 9 ?_ ?_ ?_;rotate_left
       ·intro w' hSw;(try dsimp only at hSw);go_simp;try with_reducible rfl
       try simp only[Act.put,zq1,zq2,zq3]
       refine zqT 10 ?_ ?_ ?_;rotate_left
       ·intro w' hSw;(try dsimp only at hSw);go_simp;try with_reducible rfl
       try simp only[Act.put,zq1,zq2,zq3]
       refine zqT 11 ?_ ?_ ?_;rotate_left
       ·intro w' hSw;(try dsimp only at hSw);go_simp;try with_reducible rfl
       try simp only[Act.put,zq1,zq2,zq3]
       refine zqT 12 ?_ ?_ ?_;rotate_left
       ·intro w' hSw;(try dsimp only at hSw);go_simp;try with_reducible rfl
       try simp only[Act.put,zq1,zq2,zq3]
       refine zqT 13 ?_ ?_ ?_;rotate_left
       ·intro w' hSw;(try dsimp only at hSw);go_simp;try with_reducible rfl
       try simp only[Act.put,zq1,zq2,zq3]
       refine zqT 14 ?_ ?_ ?_;rotate_left
       ·intro w' hSw;(try dsimp only at hSw);go_simp;try with_reducible rfl
       try simp only[Act.put,zq1,zq2,zq3]
       refine zqT 15 ?_ ?_ ?_;rotate_left
       ·intro w' hSw;(try dsimp only at hSw);go_simp;try with_reducible rfl
       try simp only[Act.put,zq1,zq2,zq3]
       refine zqT 16 ?_ ?_ ?_;rotate_left
       ·intro w' hSw;(try dsimp only at hSw);go_simp;try with_reducible rfl
       try simp only[Act.put,zq1,zq2,zq3]
       refine zqT 17 ?_ ?_ ?_;rotate_left
       ·intro w' hSw;(try dsimp only at hSw);go_simp;try with_reducible rfl
       try simp only[Act.put,zq1,zq2,zq3]
       refine zqT 18 ?_ ?_ ?_;rotate_left
       ·intro w' hSw;(try dsimp only at hSw);go_simp;try with_reducible rfl
       try simp only[Act.put,zq1,zq2,zq3]
       refine zqT 19 ?_ ?_ ?_;rotate_left
       ·intro w' hSw;(try dsimp only at hSw);go_simp;try with_reducible rfl
       try simp only[Act.put,zq1,zq2,zq3]
       refine zqT 20 ?_ ?_ ?_;rotate_left
       ·intro w' hSw;(try dsimp only at hSw);go_simp;try with_reducible rfl
       try simp only[Act.put,zq1,zq2,zq3]
       refine zqT 21 ?_ ?_ ?_;rotate_left
       ·intro w' hSw;(try dsimp only at hSw);go_simp;try with_reducible rfl
       try simp only[Act.put,zq1,zq2,zq3]
       refine zqT 22 ?_ ?_ ?_;rotate_left
       ·intro w' hSw;(try dsimp only at hSw);go_simp;try with_reducible rfl
       try simp only[Act.put,zq1,zq2,zq3]
       refine zqT 23 ?_ ?_ ?_;rotate_left
       ·intro w' hSw;(try dsimp only at hSw);go_simp;try with_reducible rfl
       try simp only[Act.put,zq1,zq2,zq3]
       refine zqT 24 ?_ ?_ ?_;rotate_left
       ·intro w' hSw;(try dsimp only at hSw);go_simp;try with_reducible rfl
       try simp only[Act.put,zq1,zq2,zq3]
       refine zqT 25 ?_ ?_ ?_;rotate_left
       ·intro w' hSw;(try dsimp only at hSw);go_simp;try with_reducible rfl
       try simp only[Act.put,zq1,zq2,zq3]
       refine zqT 26 ?_ ?_ ?_;rotate_left
       ·intro w' hSw;(try dsimp only at hSw);go_simp;try with_reducible rfl
       try simp only[Act.put,zq1,zq2,zq3]
       refine zqR [27] ?_;refine zqC (fun K hK=>?_) AllReadyH.nil;go_simp;go_at_call 81;with_reducible refine(HLS.out _).mono ?_
       rintro e w6 ⟨rfl,hb6⟩;have HB6:=zh (Bel.call HB5.out hb6);have hc6:w6.cell? ⟨b,off+k,none⟩=some (.string y):=(HB6.out.cell (p:=⟨b,off+k,none⟩) hbl).trans hcl0;have hx6:w6.cell? ⟨b,off+(k-1),none⟩=some (.string x):=(HB6.out.cell (p:=⟨b,off+(k-1),none⟩) hbl).trans hclx;clear hb6;dsimp only;refine hK.out _ _ ⟨hc6,hx6⟩ (fun hHeld=>?_);try simp only[Act.put,zq1,zq2,zq3]
       refine zqT 28 ?_ ?_ ?_;rotate_left
       ·intro w' hSw;(try dsimp only at hSw);go_simp;try with_reducible rfl
       try simp only[Act.put,zq1,zq2,zq3]
       refine zqT 29 ?_ ?_ ?_;rotate_left
       ·intro w' hSw;(try dsimp only at hSw);go_simp;try with_reducible rfl
       try simp only[Act.put,zq1,zq2,zq3]
       refine zqT 30 ?_ ?_ ?_;rotate_left
       ·intro w' hSw;(try dsimp only at hSw);go_simp;try with_reducible rfl
       try simp only[Act.put,zq1,zq2,zq3]
       refine wpAnyH_done (by kernel_rfl) ?_ _;go_wp2;go_roundw;case rel=>exact⟨k+1,by omega,by go_num,HN2,HB6⟩
       case measure=>simp[intOf];omega
     ·obtain rfl:k=0:=by omega
      have HN2:Hid (Lsd o.data.toList ((bl ys).take (0+1))):=HST.out.2 ⟨hnm,heq,fun h=>absurd h (by omega)⟩;rw[Nat.add_zero]at hcl hcl0;clear heq hnm HNO HST hpos hclx hclx' hysz2;go_wp2_with fail;refine wp_region_held_drew (S:=fun w'=>w'.cell? ⟨b,off,none⟩=some (.string y)) (by kernel_rfl) hcl (fun hHeld=>?_);refine zqT 0 ?_ ?_ ?_;rotate_left
      ·intro w' hSw;(try dsimp only at hSw);go_simp;try with_reducible rfl
      try simp only[Act.put,zq1,zq2,zq3]
      refine zqT 1 ?_ ?_ ?_;rotate_left
      ·intro w' hSw;(try dsimp only at hSw);go_simp;try with_reducible rfl
      try simp only[Act.put,zq1,zq2,zq3]
      refine zqT 2 ?_ ?_ ?_;rotate_left
      ·intro w' hSw;(try dsimp only at hSw);go_simp;try with_reducible rfl
      try simp only[Act.put,zq1,zq2,zq3]
      refine zqT 3 ?_ ?_ ?_;rotate_left
      ·intro w' hSw;(try dsimp only at hSw);go_simp;try with_reducible rfl
      try simp only[Act.put,zq1,zq2,zq3]
      refine zqR [4] ?_;refine zqC (fun K hK=>?_) AllReadyH.nil;go_simp;go_at_call 62;with_reducible refine(HNM.out _).mono ?_
      rintro e w5 ⟨rfl,hb5⟩;have HB5:=zh (HBW.out.drew.trans (hb5.mono HBW.out.size));have hc5:w5.cell? ⟨b,off,none⟩=some (.string y):=(HB5.out.cell (p:=⟨b,off,none⟩) hbl).trans hcl0;clear hb5;dsimp only;refine hK.out _ _ hc5 (fun hHeld=>?_);try simp only[Act.put,zq1,zq2,zq3]
      refine zqT 5 ?_ ?_ ?_;rotate_left
      ·intro w' hSw;(try dsimp only at hSw);go_simp;try with_reducible rfl
      try simp only[Act.put,zq1,zq2,zq3]
      refine zqT 6 ?_ ?_ ?_;rotate_left
      ·intro w' hSw;(try dsimp only at hSw);go_simp;try with_reducible rfl
      try simp only[Act.put,zq1,zq2,zq3]
      refine zqT 7 ?_ ?_ ?_;rotate_left
      ·intro w' hSw;(try dsimp only at hSw);go_simp;try with_reducible rfl
      try simp only[Act.put,zq1,zq2,zq3]
      refine zqT 8 ?_ ?_ ?_;rotate_left
      ·intro w' hSw;(try dsimp only at hSw);go_simp;try with_reducible rfl
      try simp only[Act.put,zq1,zq2,zq3]
      refine zqT 9 ?_ ?_ ?_;rotate_left
      ·intro w' hSw;(try dsimp only at hSw);go_simp;try with_reducible rfl
      try simp only[Act.put,zq1,zq2,zq3]
      refine zqT 10 ?_ ?_ ?_;rotate_left
      ·intro w' hSw;(try dsimp only at hSw);go_simp;try with_reducible rfl
      try simp only[Act.put,zq1,zq2,zq3]
      refine zqT 11 ?_ ?_ ?_;rotate_left
      ·intro w' hSw;(try dsimp only at hSw);go_simp;try with_reducible rfl
      try simp only[Act.put,zq1,zq2,zq3]
      refine zqT 12 ?_ ?_ ?_;rotate_left
      ·intro w' hSw;(try dsimp only at hSw);go_simp;try with_reducible rfl
      try simp only[Act.put,zq1,zq2,zq3]
      refine zqT 13 ?_ ?_ ?_;rotate_left
      ·intro w' hSw;(try dsimp only at hSw);go_simp;try with_reducible rfl
      try simp only[Act.put,zq1,zq2,zq3]
      refine zqT 14 ?_ ?_ ?_;rotate_left
      ·intro w' hSw;(try dsimp only at hSw);go_simp;try with_reducible rfl
      try simp only[Act.put,zq1,zq2,zq3]
      refine zqT 15 ?_ ?_ ?_;rotate_left
      ·intro w' hSw;(try dsimp only at hSw);go_simp;try with_reducible rfl
      try simp only[Act.put,zq1,zq2,zq3]
      refine zqT 16 ?_ ?_ ?_;rotate_left
      ·intro w' hSw;(try dsimp only at hSw);go_simp;try with_reducible rfl
      try simp only[Act.put,zq1,zq2,zq3]
      refine zqT 17 ?_ ?_ ?_;rotate_left
      ·intro w' hSw;(try dsimp only at hSw);go_simp;try with_reducible rfl
      try simp only[Act.put,zq1,zq2,zq3]
      refine wpAnyH_skip (i:=18) (by rw[List.getElem?_toArray];rfl) (by kernel_rfl) (by kernel_rfl) (by kernel_rfl) (by exact fun _ _ _ h=>h) (by rfl) (by assumption) ?_;try simp only[Act.put,zq1,zq2,zq3]
      refine wpAnyH_skip (i:=19) (by rw[List.getElem?_toArray];rfl) (by kernel_rfl) (by kernel_rfl) (by kernel_rfl) (by exact fun _ _ _ h=>h) (by rfl) (by assumption) ?_;try simp only[Act.put,zq1,zq2,zq3]
      refine wpAnyH_skip (i:=20) (by rw[List.getElem?_toArray];rfl) (by kernel_rfl) (by kernel_rfl) (by kernel_rfl) (by exact fun _ _ _ h=>h) (by rfl) (by assumption) ?_;try simp only[Act.put,zq1,zq2,zq3]
      refine wpAnyH_skip (i:=21) (by rw[List.getElem?_toArray];rfl) (by kernel_rfl) (by kernel_rfl) (by kernel_rfl) (by exact fun _ _ _ h=>h) (by rfl) (by assumption) ?_;try simp only[Act.put,zq1,zq2,zq3]
      refine wpAnyH_skip (i:=22) (by rw[List.getElem?_toArray];rfl) (by kernel_rfl) (by kernel_rfl) (by kernel_rfl) (by exact fun _ _ _ h=>h) (by rfl) (by assumption) ?_;try simp only[Act.put,zq1,zq2,zq3]
      refine wpAnyH_skip (i:=23) (by rw[List.getElem?_toArray];rfl) (by kernel_rfl) (by kernel_rfl) (by kernel_rfl) (by exact fun _ _ _ h=>h) (by rfl) (by assumption) ?_;try simp only[Act.put,zq1,zq2,zq3]
      refine wpAnyH_skip (i:=24) (by rw[List.getElem?_toArray];rfl) (by kernel_rfl) (by kernel_rfl) (by kernel_rfl) (by exact fun _ _ _ h=>h) (by rfl) (by assumption) ?_;try simp only[Act.put,zq1,zq2,zq3]
      refine wpAnyH_skip (i:=25) (by rw[List.getElem?_toArray];rfl) (by kernel_rfl) (by kernel_rfl) (by kernel_rfl) (by exact fun _ _ _ h=>h) (by rfl) (by assumption) ?_;try simp only[Act.put,zq1,zq2,zq3]
      refine wpAnyH_skip (i:=26) (by rw[List.getElem?_toArray];rfl) (by kernel_rfl) (by kernel_rfl) (by kernel_rfl) (by exact fun _ _ _ h=>h) (by rfl) (by assumption) ?_;try simp only[Act.put,zq1,zq2,zq3]
      refine wpAnyH_skip (i:=27) (by rw[List.getElem?_toArray];rfl) (by kernel_rfl) (by kernel_rfl) (by kernel_rfl) (by exact fun _ _ _ h=>h) (by rfl) (by assumption) ?_;try simp only[Act.put,zq1,zq2,zq3]
      refine wpAnyH_skip (i:=28) (by rw[List.getElem?_toArray];rfl) (by kernel_rfl) (by kernel_rfl) (by kernel_rfl) (by exact fun _ _ _ h=>h) (by rfl) (by assumption) ?_;try simp only[Act.put,zq1,zq2,zq3]
      refine zqT 29 ?_ ?_ ?_;rotate_left
      ·intro w' hSw;(try dsimp only at hSw);go_simp;try with_reducible rfl
      try simp only[Act.put,zq1,zq2,zq3]
      refine zqT 30 ?_ ?_ ?_;rotate_left
      ·intro w' hSw;(try dsimp only at hSw);go_simp;try with_reducible rfl
      try simp only[Act.put,zq1,zq2,zq3]
      refine wpAnyH_done (by kernel_rfl) ?_ _;go_wp2;go_roundw;case rel=>exact⟨1,by omega,by go_num,HN2,HB5⟩
      case measure=>simp[intOf];omega
  ·have hbt:bb=true:=by
    rw[←HB.out];refine decide_eq_true ?_;have h:=HL.out;rw[show k=ys.length by omega,bl_take_all]at h;exact h
   subst hbt;go_wp2;go_ret;exact⟨rfl,HBW.out⟩
end Go.Proofs.YtmihiknebelkbaaGreat.Rig
namespace Go.Proofs.YtmihiknebelkbaaGreat.Rig
open Go.RowKit Wire
end Go.Proofs.YtmihiknebelkbaaGreat.Rig
namespace Go.Proofs.YtmihiknebelkbaaGreat.Rig
open Go.RowKit Wire
set_option maxRecDepth 1000000 in
theorem rright_any (o f:ByteArray) (ep:Int) (A:Option Addr) (c:Nat) (rs:List ByteArray) (B:Option Addr) (d:Nat) (ws:List ByteArray) (w:World) (hA:SReads w A rs) (hB:SReads w B ws) (hf:Few ⟨o.data.toList,f.data.toList,ep,bl rs,bl ws⟩):
 Calls Tryz.prog 59 #[RV o f ep A rs.length c B ws.length d] w fun e w'=>e = .returned (.bool (decide (RR ⟨o.data.toList,f.data.toList,ep,bl rs,bl ws⟩)))∧Below w.heap.size w w':=by
 obtain⟨f1,f2,f3,f4,f5,f6,f7,f8⟩:=hf;simp only at f1 f2 f3 f4 f5 f6 f7 f8;rw[←Lib.size_eq]at f1 f2;rw[bl_len]at f3 f4;have HA:=zh hA;have HBB:=zh hB;have HS5:=zh fun y hy=>Nat.le_trans (bl_sizes f5 y hy) (show 1100000≤2000000 by decide)
 have HS6:=zh fun y hy=>Nat.le_trans (bl_sizes f6 y hy) (show 1100000≤2000000 by decide)
 obtain⟨bb,hbb⟩:∃b,decide (RR ⟨o.data.toList,f.data.toList,ep,bl rs,bl ws⟩)=b:=⟨_,rfl⟩
 have HNO:Hid (¬RR ⟨o.data.toList,f.data.toList,ep,bl rs,bl ws⟩→bb=false):=fun h=>by rw[←hbb];exact decide_eq_false h
 have HYES:Hid (RR ⟨o.data.toList,f.data.toList,ep,bl rs,bl ws⟩→bb=true):=fun h=>by rw[←hbb];exact decide_eq_true h
 rw[hbb];have HR1:=zh fun v h w=>refright_is o v h w (Nat.le_trans f1 (by decide))
 have HR2:=zh fun v h w=>refright_is f v h w (Nat.le_trans f2 (by decide))
 have HL1:=zh fun w h=>rlisted_any A c rs o w h (by omega) HS5.out
 have HL2:=zh fun w h=>rlisted_any B d ws o w h (by omega) HS6.out
 have hlen:(bl rs).length+(bl ws).length=rs.length+ws.length:=by rw[bl_len,bl_len]
 clear hA hB f1 f2 f5 f6 hbb;unfold RV;cases h1:nm o.data.toList with
 | false=>
  have hbf:bb=false:=HNO.out fun h=>by rw[h.1]at h1;cases h1
  subst hbf;clear HNO HYES;go_enter Tryz.func59,Tryz.ntmps59;go_wp2_with fail;with_reducible refine(HR1.out false h1 _).mono ?_
  rintro e w1 ⟨rfl,hb1⟩;have HB1:=zh (after_alloc (Below.refl _ w) hb1);have HX1:=zh (bx_first hb1);clear hb1;obtain⟨c0,c1,c2,c3,c4,_⟩:=HX1.out;dsimp only;go_wp2;go_ret;exact⟨rfl,HB1.out⟩
 | true=>
  cases h2:nm f.data.toList with
  | false=>
   have hbf:bb=false:=HNO.out fun h=>by rw[h.2.1]at h2;cases h2
   subst hbf;clear HNO HYES;go_enter Tryz.func59,Tryz.ntmps59;go_wp2_with fail;with_reducible refine(HR1.out true h1 _).mono ?_
   rintro e w1 ⟨rfl,hb1⟩;have HB1:=zh (after_alloc (Below.refl _ w) hb1);have HX1:=zh (bx_first hb1);clear hb1;obtain⟨c0,c1,c2,c3,c4,_⟩:=HX1.out;dsimp only;go_wp2_with fail;with_reducible refine(HR2.out false h2 _).mono ?_
   rintro e w2 ⟨rfl,hb2⟩;have HB2:=zh (Bel.call HB1.out hb2);have HX2:=zh (HX1.out.below hb2 HX1.out.2.2.2.2.2);clear hb2 c0 c1 c2 c3 c4;obtain⟨c0,c1,c2,c3,c4,_⟩:=HX2.out;dsimp only;go_wp2;go_ret;exact⟨rfl,HB2.out⟩
  | true=>
   by_cases h3:ep<0
   ·have hbf:bb=false:=HNO.out fun h=>by have:=h.2.2.1.1;simp only at this;omega
    subst hbf;clear HNO HYES;go_enter Tryz.func59,Tryz.ntmps59;go_wp2_with fail;with_reducible refine(HR1.out true h1 _).mono ?_
    rintro e w1 ⟨rfl,hb1⟩;have HB1:=zh (after_alloc (Below.refl _ w) hb1);have HX1:=zh (bx_first hb1);clear hb1;obtain⟨c0,c1,c2,c3,c4,_⟩:=HX1.out;dsimp only;go_wp2_with fail;with_reducible refine(HR2.out true h2 _).mono ?_
    rintro e w2 ⟨rfl,hb2⟩;have HB2:=zh (Bel.call HB1.out hb2);have HX2:=zh (HX1.out.below hb2 HX1.out.2.2.2.2.2);clear hb2 c0 c1 c2 c3 c4;obtain⟨c0,c1,c2,c3,c4,_⟩:=HX2.out;dsimp only;go_wp2;go_ret;exact⟨rfl,HB2.out⟩
   by_cases h4:7<ep
   ·have hbf:bb=false:=HNO.out fun h=>by have:=h.2.2.1.2;simp only at this;omega
    subst hbf;clear HNO HYES;go_enter Tryz.func59,Tryz.ntmps59;go_wp2_with fail;with_reducible refine(HR1.out true h1 _).mono ?_
    rintro e w1 ⟨rfl,hb1⟩;have HB1:=zh (after_alloc (Below.refl _ w) hb1);have HX1:=zh (bx_first hb1);clear hb1;obtain⟨c0,c1,c2,c3,c4,_⟩:=HX1.out;dsimp only;go_wp2_with fail;with_reducible refine(HR2.out true h2 _).mono ?_
    rintro e w2 ⟨rfl,hb2⟩;have HB2:=zh (Bel.call HB1.out hb2);have HX2:=zh (HX1.out.below hb2 HX1.out.2.2.2.2.2);clear hb2 c0 c1 c2 c3 c4;obtain⟨c0,c1,c2,c3,c4,_⟩:=HX2.out;dsimp only;go_wp2;go_ret;exact⟨rfl,HB2.out⟩
   by_cases h5:(5:Int)<(rs.length:Int)+(ws.length:Int)
   ·have hbf:bb=false:=HNO.out fun h=>by have:=h.2.2.2.1;simp only at this;omega
    subst hbf;clear HNO HYES;go_enter Tryz.func59,Tryz.ntmps59;go_wp2_with fail;with_reducible refine(HR1.out true h1 _).mono ?_
    rintro e w1 ⟨rfl,hb1⟩;have HB1:=zh (after_alloc (Below.refl _ w) hb1);have HX1:=zh (bx_first hb1);clear hb1;obtain⟨c0,c1,c2,c3,c4,_⟩:=HX1.out;dsimp only;go_wp2_with fail;with_reducible refine(HR2.out true h2 _).mono ?_
    rintro e w2 ⟨rfl,hb2⟩;have HB2:=zh (Bel.call HB1.out hb2);have HX2:=zh (HX1.out.below hb2 HX1.out.2.2.2.2.2);clear hb2 c0 c1 c2 c3 c4;obtain⟨c0,c1,c2,c3,c4,_⟩:=HX2.out;dsimp only;go_wp2;go_ret;exact⟨rfl,HB2.out⟩
   by_cases h6:Lsd o.data.toList (bl rs)
   ·have H3:Hid (decide (Lsd o.data.toList (bl rs))=true):=decide_eq_true h6
    by_cases h7:Lsd o.data.toList (bl ws)
    ·have H4:Hid (decide (Lsd o.data.toList (bl ws))=true):=decide_eq_true h7
     have HALL:Hid ((∀x∈bl rs,x∉bl ws)→bb=true):=fun h=>HYES.out ⟨h1,h2,⟨by simp only;omega,by simp only;omega⟩,by simp only;omega,h6,h7,h⟩
     have HONE:Hid ((∃x∈bl rs,x∈bl ws)→bb=false):=fun⟨x,hx,hx2⟩=>HNO.out fun h=>h.2.2.2.2.2.2 x hx hx2
     clear HNO HYES;go_enter Tryz.func59,Tryz.ntmps59;go_wp2_with fail;with_reducible refine(HR1.out true h1 _).mono ?_
     rintro e w1 ⟨rfl,hb1⟩;have HB1:=zh (after_alloc (Below.refl _ w) hb1);have HX1:=zh (bx_first hb1);clear hb1;obtain⟨c0,c1,c2,c3,c4,_⟩:=HX1.out;dsimp only;go_wp2_with fail;with_reducible refine(HR2.out true h2 _).mono ?_
     rintro e w2 ⟨rfl,hb2⟩;have HB2:=zh (Bel.call HB1.out hb2);have HX2:=zh (HX1.out.below hb2 HX1.out.2.2.2.2.2);clear hb2 c0 c1 c2 c3 c4;obtain⟨c0,c1,c2,c3,c4,_⟩:=HX2.out;dsimp only;go_wp2_with fail;with_reducible refine(HL1.out _ (HA.out.below HB2.out zl)).mono ?_
     rw[H3.out];rintro e w3 ⟨rfl,hb3⟩;have HB3:=zh (Bel.call HB2.out hb3);have HX3:=zh (HX2.out.below hb3 HX2.out.2.2.2.2.2);clear hb3 c0 c1 c2 c3 c4;obtain⟨c0,c1,c2,c3,c4,_⟩:=HX3.out;dsimp only;go_wp2_with fail;with_reducible refine(HL2.out _ (HBB.out.below HB3.out zl)).mono ?_
     rw[H4.out];rintro e w4 ⟨rfl,hb4⟩;have HB4:=zh (Bel.call HB3.out hb4);have HX4:=zh (HX3.out.below hb4 HX3.out.2.2.2.2.2);clear hb4 c0 c1 c2 c3 c4;obtain⟨c0,c1,c2,c3,c4,_⟩:=HX4.out;dsimp only;go_wp2_with fail;clear c0 c1 c2 c3 c4;go_loopw [3] (fun i wr=>∃k:Nat,k≤rs.length∧i = .int .i64 (k:Int)∧Hid (∀x∈(bl rs).take k,x∉bl ws)∧Hid (Below w4.heap.size w4 wr)) (fun i _=>rs.length-(intOf i).toNat);case atStart=>exact⟨0,Nat.zero_le _,rfl,zh (by simp),zh (Below.refl _ _)⟩
     case round=>
      obtain⟨k,hk,rfl,HN,HW⟩:=hrel;have HBR:=zh (Bel.call HB4.out HW.out);obtain⟨c0,c1,c2,c3,c4,_⟩:=HX4.out.below HW.out HX4.out.2.2.2.2.2;by_cases hlt:(k:Int)<(rs.length:Int)
      ·obtain⟨b,off,rfl,hbl,hcl⟩:=(HA.out.below HBR.out zl) k (by omega)
       obtain⟨y,hy⟩:∃y,rs.getD k ByteArray.empty=y:=⟨_,rfl⟩
       rw[hy]at hcl;have hg:=bl_get (ys:=rs) (k:=k) (by omega);rw[hy]at hg;have HG:=zh hg;have hk0:(0:Int)≤(k:Int):=by omega
       clear hg hy;by_cases he:y.data.toList∈bl ws
       ·have hbf:bb=false:=HONE.out ⟨y.data.toList,List.mem_of_mem_take (i:=k+1) (by rw[HG.out];simp),he⟩
        subst hbf;have HH:=zh fun w h=>rhas_any B d ws y w h (by omega)
        rw[decide_eq_true he]at HH;clear he;go_wp2;go_quiet (first|(go_at_call 80;exact Calls.quiet_of_same (HH.out _ (HBB.out.below (Below.drewN' HBR.out _) zl))));go_wp2;go_ret;exact⟨rfl,Below.drewN' HBR.out _⟩
       ·have HH:=zh fun w h=>rhas_any B d ws y w h (by omega)
        rw[decide_eq_false he]at HH
        have HN2:Hid (∀x∈(bl rs).take (k+1),x∉bl ws):=by
         show ∀x∈_,_
         rw[HG.out];intro x hx;rcases List.mem_append.1 hx with h|h
         ·exact HN.out x h
         ·rw[List.mem_singleton.1 h];exact he
        clear he;go_wp2;go_quiet (first|(go_at_call 80;exact Calls.quiet_of_same (HH.out _ (HBB.out.below (Below.drewN' HBR.out _) zl))));go_wp2;go_roundw;case rel=>exact⟨k+1,by omega,by go_num,HN2,zh (Below.drewN' HW.out _)⟩
        case measure=>simp[intOf];omega
      ·have hbt:bb=true:=HALL.out (by have h:=HN.out;rw[show k=rs.length by omega,bl_take_all]at h;exact h)
       subst hbt;go_wp2;go_ret;exact⟨rfl,HBR.out⟩
    ·have H4:Hid (decide (Lsd o.data.toList (bl ws))=false):=decide_eq_false h7
     have hbf:bb=false:=HNO.out fun h=>h7 h.2.2.2.2.2.1
     subst hbf;clear HNO HYES;go_enter Tryz.func59,Tryz.ntmps59;go_wp2_with fail;with_reducible refine(HR1.out true h1 _).mono ?_
     rintro e w1 ⟨rfl,hb1⟩;have HB1:=zh (after_alloc (Below.refl _ w) hb1);have HX1:=zh (bx_first hb1);clear hb1;obtain⟨c0,c1,c2,c3,c4,_⟩:=HX1.out;dsimp only;go_wp2_with fail;with_reducible refine(HR2.out true h2 _).mono ?_
     rintro e w2 ⟨rfl,hb2⟩;have HB2:=zh (Bel.call HB1.out hb2);have HX2:=zh (HX1.out.below hb2 HX1.out.2.2.2.2.2);clear hb2 c0 c1 c2 c3 c4;obtain⟨c0,c1,c2,c3,c4,_⟩:=HX2.out;dsimp only;go_wp2_with fail;with_reducible refine(HL1.out _ (HA.out.below HB2.out zl)).mono ?_
     rw[H3.out];rintro e w3 ⟨rfl,hb3⟩;have HB3:=zh (Bel.call HB2.out hb3);have HX3:=zh (HX2.out.below hb3 HX2.out.2.2.2.2.2);clear hb3 c0 c1 c2 c3 c4;obtain⟨c0,c1,c2,c3,c4,_⟩:=HX3.out;dsimp only;go_wp2_with fail;with_reducible refine(HL2.out _ (HBB.out.below HB3.out zl)).mono ?_
     rw[H4.out];rintro e w4 ⟨rfl,hb4⟩;have HB4:=zh (Bel.call HB3.out hb4);have HX4:=zh (HX3.out.below hb4 HX3.out.2.2.2.2.2);clear hb4 c0 c1 c2 c3 c4;obtain⟨c0,c1,c2,c3,c4,_⟩:=HX4.out;dsimp only;go_wp2;go_ret;exact⟨rfl,HB4.out⟩
   ·have H3:Hid (decide (Lsd o.data.toList (bl rs))=false):=decide_eq_false h6
    have hbf:bb=false:=HNO.out fun h=>h6 h.2.2.2.2.1
    subst hbf;clear HNO HYES;go_enter Tryz.func59,Tryz.ntmps59;go_wp2_with fail;with_reducible refine(HR1.out true h1 _).mono ?_
    rintro e w1 ⟨rfl,hb1⟩;have HB1:=zh (after_alloc (Below.refl _ w) hb1);have HX1:=zh (bx_first hb1);clear hb1;obtain⟨c0,c1,c2,c3,c4,_⟩:=HX1.out;dsimp only;go_wp2_with fail;with_reducible refine(HR2.out true h2 _).mono ?_
    rintro e w2 ⟨rfl,hb2⟩;have HB2:=zh (Bel.call HB1.out hb2);have HX2:=zh (HX1.out.below hb2 HX1.out.2.2.2.2.2);clear hb2 c0 c1 c2 c3 c4;obtain⟨c0,c1,c2,c3,c4,_⟩:=HX2.out;dsimp only;go_wp2_with fail;with_reducible refine(HL1.out _ (HA.out.below HB2.out zl)).mono ?_
    rw[H3.out];rintro e w3 ⟨rfl,hb3⟩;have HB3:=zh (Bel.call HB2.out hb3);have HX3:=zh (HX2.out.below hb3 HX2.out.2.2.2.2.2);clear hb3 c0 c1 c2 c3 c4;obtain⟨c0,c1,c2,c3,c4,_⟩:=HX3.out;dsimp only;go_wp2;go_ret;exact⟨rfl,HB3.out⟩
end Go.Proofs.YtmihiknebelkbaaGreat.Rig
namespace Go.Proofs.YtmihiknebelkbaaGreat.Rig
open Go.RowKit Wire
end Go.Proofs.YtmihiknebelkbaaGreat.Rig
namespace Go.Proofs.YtmihiknebelkbaaGreat.Rig
open Go.RowKit Wire
theorem al (w:World) (o:Obj):Below w.heap.size w (w.alloc o):=(Below.refl _ w).alloc zl o
end Go.Proofs.YtmihiknebelkbaaGreat.Rig
namespace Go.Proofs.YtmihiknebelkbaaGreat.Rig
open Go.RowKit Wire
def Srt (x:Tm×Int) (e:Ending):Prop:=∃T:ByteArray,T.data.toList=x.1∧e = .returned (.tuple #[.string T,.int .i64 x.2])
theorem lit5_reads (W:World) (a b c d e:ByteArray) (g:Nat) (hg:g=W.heap.size):SReads (W.alloc (.cells #[.string a,.string b,.string c,.string d,.string e] 9)) (some ⟨g,0,none⟩) [a,b,c,d,e]:=by
 subst hg;intro j hj;refine⟨_,0,rfl,by simp,?_⟩;have h:∀i,(W.alloc (.cells #[.string a,.string b,.string c,.string d,.string e] 9)).cell? ⟨W.heap.size,i,none⟩=(#[.string a,.string b,.string c,.string d,.string e]:Array Value)[i]?:=fun i=>cell_of_row _ _ _ _ _ (0,0) (heap_alloc_new W _)
 rw[h,Nat.zero_add];have:j=0∨j=1∨j=2∨j=3∨j=4:=by simp at hj;omega
 rcases this with rfl|rfl|rfl|rfl|rfl<;>rfl
theorem flat_small:∀(l:List Tm),(∀t∈l,t.length≤4000)→l.flatten.length≤l.length*4000
 | [],_=>by simp
 | t::l,h=>by
  have h1:=h t (by simp);have h2:=flat_small l fun x hx=>h x (by simp[hx])
  rw[List.flatten_cons,List.length_append,List.length_cons];omega
set_option maxRecDepth 1000000 in
theorem rput_any (o f:ByteArray) (ep:Int) (A:Option Addr) (c:Nat) (rs:List ByteArray) (B:Option Addr) (d:Nat) (ws:List ByteArray) (w:World) (hA:SReads w A rs) (hB:SReads w B ws) (hf:Few ⟨o.data.toList,f.data.toList,ep,bl rs,bl ws⟩):
 Calls Tryz.prog 67 #[RV o f ep A rs.length c B ws.length d] w fun e w'=>Srt (putR ⟨o.data.toList,f.data.toList,ep,bl rs,bl ws⟩) e∧Below w.heap.size w w':=by
 have HA:=zh hA;have HBB:=zh hB;have HRR:=zh fun w h1 h2=>rright_any o f ep A c rs B d ws w h1 h2 hf
 by_cases hr:RR ⟨o.data.toList,f.data.toList,ep,bl rs,bl ws⟩
 case neg=>
  rw[show putR ⟨o.data.toList,f.data.toList,ep,bl rs,bl ws⟩=([],1)by unfold putR;rw[if_neg hr]];clear hA hB hf;unfold RV at HRR⊢;go_enter Tryz.func67,Tryz.ntmps67;go_wp2_with fail;with_reducible refine(HRR.out _ (HA.out.below (al _ _) zl) (HBB.out.below (al _ _) zl)).mono ?_
  rw[decide_eq_false hr];rintro e w1 ⟨rfl,hb1⟩;have HB1:=zh (after_alloc (Below.refl _ w) hb1);obtain⟨c0,c1,c2,c3,c4,_⟩:=bx_first hb1;have HA1:=zh (HA.out.below HB1.out zl);have HBB1:=zh (HBB.out.below HB1.out zl);clear hb1;dsimp only;go_wp2;go_ret2;exact⟨⟨⟨#[]⟩,rfl,rfl⟩,HB1.out⟩
 ·rw[show putR ⟨o.data.toList,f.data.toList,ep,bl rs,bl ws⟩=(rowR ⟨o.data.toList,f.data.toList,ep,bl rs,bl ws⟩,0)by unfold putR;rw[if_pos hr]]
  obtain⟨l5,l4⟩:=row_list hr;obtain⟨a1,a2,⟨a3,a3'⟩,a4,a5,a6,a7⟩:=id hr;simp only[bl_len]at a3 a3' a4;have hs5:=flat_small _ fun t ht=>Nat.le_trans (lsd_small a5 t ht) (show 128≤4000 by decide)
  have hs6:=flat_small _ fun t ht=>Nat.le_trans (lsd_small a6 t ht) (show 128≤4000 by decide)
  rw[bl_len]at hs5 hs6;simp only at hs5 hs6;obtain⟨k,hk⟩:∃k:Nat,ep.toNat=k:=⟨_,rfl⟩
  have hck:IntKind.u64.wrap ep=(k:Int):=by rw[IntKind.wrap_u64];omega
  have HP:=zh fun w=>refPut_any k w (by omega)
  have HL1:=zh fun w h=>refPutAll_any A c rs w h (by omega) (by omega)
  have HL2:=zh fun w h=>refPutAll_any B d ws w h (by omega) (by omega)
  have HL5:Hid (∀(a b c' d' e':ByteArray) (g:Nat) (w:World),a.data.toList=o.data.toList→b.data.toList=f.data.toList→c'.data.toList=put k→d'.data.toList=putAll (bl rs)→e'.data.toList=putAll (bl ws)→SReads w (some ⟨g,0,none⟩) [a,b,c',d',e'] →
   Calls Tryz.prog 25 #[.slice (some ⟨g,0,none⟩) 5 5] w fun e w'=>St (rowR ⟨o.data.toList,f.data.toList,ep,bl rs,bl ws⟩) e∧Below w.heap.size w w'):=fun a b c' d' e' g w h1 h2 h3 h4 h5 hr=>by
   have eb:bl [a,b,c',d',e'] = [o.data.toList,f.data.toList,put ep.toNat,putAll (bl rs),putAll (bl ws)]:=by
    show[a.data.toList,b.data.toList,c'.data.toList,d'.data.toList,e'.data.toList]=_
    rw[h1,h2,h3,h4,h5,hk]
   have h:=refPutAll_any (some ⟨g,0,none⟩) 5 [a,b,c',d',e'] w hr (by simp) (by rw[eb];have:=flat_small _ l4;simp only[List.length_cons,List.length_nil]at this;omega);rw[eb]at h;exact h
  clear hA hB hf l5 l4 a1 a2 a4 a5 a6 a7 hs5 hs6 hk;unfold RV at HRR⊢;go_enter Tryz.func67,Tryz.ntmps67;go_wp2_with fail;with_reducible refine(HRR.out _ (HA.out.below (al _ _) zl) (HBB.out.below (al _ _) zl)).mono ?_
  rw[decide_eq_true hr];rintro e w1 ⟨rfl,hb1⟩;have HB1:=zh (after_alloc (Below.refl _ w) hb1);have hx1:=bx_first hb1;clear hb1;dsimp only;go_wp2_with fail;refine wp_region_held_drew (S:=fun w'=>Bx w.heap.size w' o f ep A rs.length c B ws.length d) (by kernel_rfl) (hx1.below (Below.drewN' (Below.refl w1.heap.size w1) 1) hx1.2.2.2.2.2) (fun hHeld=>?_);refine zqT 0 ?_ ?_ ?_;rotate_left
  ·intro w' hSw;obtain⟨c0,c1,c2,c3,c4,_⟩:=hSw;go_simp;try with_reducible rfl
  try simp only[Act.put,zq1,zq2,zq3]
  refine zqT 1 ?_ ?_ ?_;rotate_left
  ·intro w' hSw;obtain⟨c0,c1,c2,c3,c4,_⟩:=hSw;go_simp;try with_reducible rfl
  try simp only[Act.put,zq1,zq2,zq3]
  refine zqT 2 ?_ ?_ ?_;rotate_left
  ·intro w' hSw;obtain⟨c0,c1,c2,c3,c4,_⟩:=hSw;go_simp;try with_reducible rfl
  try simp only[Act.put,zq1,zq2,zq3]
  refine zqT 3 ?_ ?_ ?_;rotate_left
  ·intro w' hSw;obtain⟨c0,c1,c2,c3,c4,_⟩:=hSw;go_simp;try with_reducible rfl
  try simp only[Act.put,zq1,zq2,zq3]
  refine zqT 4 ?_ ?_ ?_;rotate_left
  ·intro w' hSw;obtain⟨c0,c1,c2,c3,c4,_⟩:=hSw;go_simp;try with_reducible rfl
  try simp only[Act.put,zq1,zq2,zq3]
  refine zqT 5 ?_ ?_ ?_;rotate_left
  ·intro w' hSw;obtain⟨c0,c1,c2,c3,c4,_⟩:=hSw;go_simp;try with_reducible rfl
  try simp only[Act.put,zq1,zq2,zq3]
  refine zqT 6 ?_ ?_ ?_;rotate_left
  ·intro w' hSw;obtain⟨c0,c1,c2,c3,c4,_⟩:=hSw;go_simp;try with_reducible rfl
  try simp only[Act.put,zq1,zq2,zq3]
  refine zqT 8 ?_ ?_ ?_;rotate_left
  ·intro w' hSw;obtain⟨c0,c1,c2,c3,c4,_⟩:=hSw;go_simp;try with_reducible rfl
  try simp only[Act.put,zq1,zq2,zq3]
  refine zqT 9 ?_ ?_ ?_;rotate_left
  ·intro w' hSw;obtain⟨c0,c1,c2,c3,c4,_⟩:=hSw;go_simp;try with_reducible rfl
  try simp only[Act.put,zq1,zq2,zq3]
  refine zqT 11 ?_ ?_ ?_;rotate_left
  ·intro w' hSw;obtain⟨c0,c1,c2,c3,c4,_⟩:=hSw;go_simp;try with_reducible rfl
  try simp only[Act.put,zq1,zq2,zq3]
  refine zqT 12 ?_ ?_ ?_;rotate_left
  ·intro w' hSw;obtain⟨c0,c1,c2,c3,c4,_⟩:=hSw;go_simp;try with_reducible rfl
  try simp only[Act.put,zq1,zq2,zq3]
  have HB0:=zh (Below.drewN' HB1.out 1);have hx0:=hHeld;clear hHeld;refine zqR [7] ?_;refine zqC (fun K hK=>?_) AllReadyH.nil;go_simp;go_at_call 26;with_reducible refine(HP.out _).mono ?_
  rintro e w2 ⟨⟨P,hP,rfl⟩,hb2⟩;have HB2:=zh (Bel.call HB0.out hb2);have hx2:=hx0.below hb2 hx0.2.2.2.2.2;clear hb2;dsimp only;refine hK.out _ _ hx2 (fun hHeld=>?_);try simp only[Act.put,zq1,zq2,zq3]
  clear hHeld;refine zqR [10] ?_;refine zqC (fun K hK=>?_) AllReadyH.nil;go_simp;go_at_call 25;with_reducible refine(HL1.out _ (HA.out.below HB2.out zl)).mono ?_
  rintro e w3 ⟨⟨P1,hP1,rfl⟩,hb3⟩;have HB3:=zh (Bel.call HB2.out hb3);have hx3:=hx2.below hb3 hx2.2.2.2.2.2;clear hb3;dsimp only;refine hK.out _ _ hx3 (fun hHeld=>?_);try simp only[Act.put,zq1,zq2,zq3]
  clear hHeld;refine zqR [13] ?_;refine zqC (fun K hK=>?_) AllReadyH.nil;go_simp;go_at_call 25;with_reducible refine(HL2.out _ (HBB.out.below HB3.out zl)).mono ?_
  rintro e w4 ⟨⟨P2,hP2,rfl⟩,hb4⟩;have HB4:=zh (Bel.call HB3.out hb4);have hx4:=hx3.below hb4 hx3.2.2.2.2.2;clear hb4;dsimp only;refine hK.out _ _ hx4 (fun hHeld=>?_);try simp only[Act.put,zq1,zq2,zq3]
  clear hHeld;refine zqR [14] ?_;refine zqC (fun K hK=>?_) AllReadyH.nil;go_simp;have HB5:=zh (HB4.out.alloc HB4.out.size (.cells #[.string o,.string f,.string P,.string P1,.string P2] 9));have hx5:=hx4.below ((Below.refl w4.heap.size w4).alloc zl (.cells #[.string o,.string f,.string P,.string P1,.string P2] 9)) hx4.2.2.2.2.2;refine hK.out _ _ hx5 (fun hHeld=>?_);try simp only[Act.put,zq1,zq2,zq3]
  clear hHeld;refine zqR [15] ?_;refine zqC (fun K hK=>?_) AllReadyH.nil;go_simp;go_at_call 25;with_reducible refine(HL5.out o f P P1 P2 _ _ rfl rfl hP hP1 hP2 (lit5_reads w4 o f P P1 P2 _ rfl)).mono ?_
  rintro e w6 ⟨⟨Q,hQ,rfl⟩,hb6⟩;have HB6:=zh (Bel.call HB5.out hb6);have hx6:=hx5.below hb6 hx5.2.2.2.2.2;clear hb6;dsimp only;refine hK.out _ _ hx6 (fun hHeld=>?_);try simp only[Act.put,zq1,zq2,zq3]
  refine zqT 16 ?_ ?_ ?_;rotate_left
  ·intro w' hSw;obtain⟨c0,c1,c2,c3,c4,_⟩:=hSw;go_simp;try with_reducible rfl
  try simp only[Act.put,zq1,zq2,zq3]
  refine zqT 17 ?_ ?_ ?_;rotate_left
  ·intro w' hSw;obtain⟨c0,c1,c2,c3,c4,_⟩:=hSw;go_simp;try with_reducible rfl
  try simp only[Act.put,zq1,zq2,zq3]
  refine wpAnyH_done (by kernel_rfl) ?_ _;go_wp2;go_ret2;exact⟨⟨Q,hQ,rfl⟩,HB6.out⟩
end Go.Proofs.YtmihiknebelkbaaGreat.Rig
