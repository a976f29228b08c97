/-
  G3. By an AI agent.
-/
import Derived.Test.YtmihiknebelkbaaGreatOZ
import Derived.Deep.QuietTactic
import Derived.BigQuiet
import Derived.Test.YtmihiknebelkbaaGreatOG2
import Derived.Test.YtmihiknebelkbaaGreatOG1
import Derived.Test.YtmihiknebelkbaaGreatOW0
set_option linter.unusedSimpArgs false
set_option maxHeartbeats 4000000
namespace Go.Proofs.YtmihiknebelkbaaGreat.Rig
open Go.RowKit Wire
theorem Two.bel {w w1:World} {o f:ByteArray} {ep:Int} {A:Option Addr} {n c:Nat} {B:Option Addr} {m d:Nat} (h:Two w w1 o f ep A n c B m d):Below w.heap.size w w1:=h.2.2.2
theorem bel_set5 (w:World) {R:Nat} {v0 v1 v2 v3 v4:Value}:Below R w (((((w.setCell ⟨R,0,none⟩ v0).setCell ⟨R,1,none⟩ v1).setCell ⟨R,2,none⟩ v2).setCell ⟨R,3,none⟩ v3).setCell ⟨R,4,none⟩ v4):=
 have h:R≤R:=Nat.le_refl R
 (((((Below.refl R w).setCell (p:=⟨R,0,none⟩) h v0).setCell (p:=⟨R,1,none⟩) h v1).setCell (p:=⟨R,2,none⟩) h v2).setCell (p:=⟨R,3,none⟩) h v3).setCell (p:=⟨R,4,none⟩) h v4
end Go.Proofs.YtmihiknebelkbaaGreat.Rig
namespace Go.Proofs.YtmihiknebelkbaaGreat.Rig
open Go.RowKit Wire
theorem sreads_setL {w:World} {A:Option Addr} {ys:List ByteArray} (h:SReads w A ys) {R j:Nat} {v:Value} (hR:∀b off,A=some ⟨b,off,none⟩→0<ys.length→b≠R):SReads (w.setCell ⟨R,j,none⟩ v) A ys:=fun i hi=>by
 obtain⟨b,off,e,hb,hc⟩:=h i hi;refine⟨b,off,e,by simpa[World.setCell]using hb,?_⟩;rw[World.cell?_setCell_other w ⟨R,j,none⟩ ⟨b,off+i,none⟩ v (fun e2=>hR b off e (by omega) (by injection e2 with e3 _ _;exact e3.symm))];exact hc
theorem sreads_setL5 {w:World} {A:Option Addr} {ys:List ByteArray} (h:SReads w A ys) {R:Nat} {v0 v1 v2 v3 v4:Value} (hR:∀b off,A=some ⟨b,off,none⟩→0<ys.length→b≠R):SReads (((((w.setCell ⟨R,0,none⟩ v0).setCell ⟨R,1,none⟩ v1).setCell ⟨R,2,none⟩ v2).setCell ⟨R,3,none⟩ v3).setCell ⟨R,4,none⟩ v4) A ys:=
 sreads_setL (sreads_setL (sreads_setL (sreads_setL (sreads_setL h hR) hR) hR) hR) hR
theorem bx_set5 {R:Nat} {w:World} {o' f':ByteArray} {ep':Int} {A':Option Addr} {n' c':Nat} {B':Option Addr} {m' d':Nat} {o f:ByteArray} {ep:Int} {A:Option Addr} {n c:Nat} {B:Option Addr} {m d:Nat} (h:Bx R w o' f' ep' A' n' c' B' m' d'):
 Bx R (((((w.setCell ⟨R,0,none⟩ (.string o)).setCell ⟨R,1,none⟩ (.string f)).setCell ⟨R,2,none⟩ (.int .i64 ep)).setCell ⟨R,3,none⟩ (.slice A n c)).setCell ⟨R,4,none⟩ (.slice B m d)) o f ep A n c B m d:=by
 obtain⟨h0,h1,h2,h3,h4,h5⟩:=h;refine⟨?_,?_,?_,?_,?_,by simpa[World.setCell]using h5⟩<;>simp[World.cell?_setCell_other,World.cell?_setCell_same',h0,h1,h2,h3,h4]
end Go.Proofs.YtmihiknebelkbaaGreat.Rig
namespace Go.Proofs.YtmihiknebelkbaaGreat.Rig
open Go.RowKit Wire
theorem bl_inj {ys zs:List ByteArray} (h:bl ys=bl zs):ys=zs:=by
 induction ys generalizing zs with
 | nil=>
  cases zs with
  | nil=>rfl
  | cons z zs=>exact absurd h (by simp[bl])
 | cons y ys ih=>
  cases zs with
  | nil=>exact absurd h (by simp[bl])
  | cons z zs=>
   have h1:y.data.toList=z.data.toList∧bl ys=bl zs:=by simpa[bl]using h
   rw[str_eq h1.1,ih h1.2]
theorem two_boxes (w:World) (o f:ByteArray) (ep:Int) (A:Option Addr) (n c:Nat) (B:Option Addr) (m d:Nat) (A':Option Addr) (c':Nat) (B':Option Addr) (d':Nat) (t:TypeId):
 Bx w.heap.size ((w.alloc (.cells #[.string o,.string f,.int .i64 ep,.slice A n c,.slice B m d] t)).alloc (.cells #[.string o,.string f,.int .i64 ep,.slice A' n c',.slice B' m d'] t)) o f ep A n c B m d ∧
 Bx (w.heap.size+1) ((w.alloc (.cells #[.string o,.string f,.int .i64 ep,.slice A n c,.slice B m d] t)).alloc (.cells #[.string o,.string f,.int .i64 ep,.slice A' n c',.slice B' m d'] t)) o f ep A' n c' B' m d' ∧
 Below w.heap.size w ((w.alloc (.cells #[.string o,.string f,.int .i64 ep,.slice A n c,.slice B m d] t)).alloc (.cells #[.string o,.string f,.int .i64 ep,.slice A' n c',.slice B' m d'] t)):=by
 have e:(w.alloc (.cells #[.string o,.string f,.int .i64 ep,.slice A n c,.slice B m d] t)).heap.size=w.heap.size+1:=by simp
 have h1:=bx_alloc w o f ep A n c B m d t
 have hw1:Below w.heap.size w (w.alloc (.cells #[.string o,.string f,.int .i64 ep,.slice A n c,.slice B m d] t)):=(Below.refl _ w).alloc zl _
 generalize w.alloc (.cells #[.string o,.string f,.int .i64 ep,.slice A n c,.slice B m d] t)=wa at e h1 hw1⊢
 have h2:=bx_alloc wa o f ep A' n c' B' m d' t
 have h3:Below wa.heap.size wa (wa.alloc (.cells #[.string o,.string f,.int .i64 ep,.slice A' n c',.slice B' m d'] t)):=(Below.refl _ wa).alloc zl _
 rw[e]at h2
 exact⟨h1.below h3 (by omega),h2,hw1.trans (h3.mono hw1.size)⟩
set_option maxRecDepth 1000000 in
theorem rsame_any (o f:ByteArray) (ep:Int) (A:Option Addr) (c:Nat) (rs:List ByteArray) (B:Option Addr) (d:Nat) (ws:List ByteArray) (A':Option Addr) (c':Nat) (B':Option Addr) (d':Nat) (w:World) (hA:SReads w A rs) (hB:SReads w B ws) (hA':SReads w A' rs) (hB':SReads w B' ws) (hr:rs.length≤2000000) (hw:ws.length≤2000000):
 Calls Tryz.prog 64 #[RV o f ep A rs.length c B ws.length d,RV o f ep A' rs.length c' B' ws.length d'] w fun e w'=>e = .returned (.bool true)∧Below w.heap.size w w':=by
 have HA:=zh hA;have HBB:=zh hB;have HA':=zh hA';have HBB':=zh hB';clear hA hB hA' hB';unfold RV;go_enter Tryz.func64,Tryz.ntmps64;go_wp2_with fail;obtain⟨hx,hy,hbw⟩:=two_boxes w o f ep A rs.length c B ws.length d A' c' B' d' 24;generalize (w.alloc (.cells #[.string o,.string f,.int .i64 ep,.slice A rs.length c,.slice B ws.length d] 24)).alloc (.cells #[.string o,.string f,.int .i64 ep,.slice A' rs.length c',.slice B' ws.length d'] 24)=w1 at hx hy hbw⊢;have HX:=zh hx;have HY:=zh hy;have HBW:=zh hbw;clear hx hy hbw;go_loopw [5] (fun i wr=>∃k:Nat,k≤rs.length∧i = .int .i64 (k:Int)∧Hid (Below w1.heap.size w1 wr)) (fun i _=>rs.length-(intOf i).toNat);case atStart=>exact⟨0,Nat.zero_le _,rfl,zh (Below.refl _ _)⟩
 case round=>
  obtain⟨k,hk,rfl,HW⟩:=hrel;obtain⟨c0,c1,c2,c3,c4,_⟩:=HX.out.below HW.out HX.out.2.2.2.2.2;obtain⟨d0,d1,d2,d3,d4,_⟩:=HY.out.below HW.out HY.out.2.2.2.2.2;have HBR:=zh (Bel.call HBW.out HW.out);by_cases hlt:(k:Int)<(rs.length:Int)
  ·obtain⟨b,off,rfl,hbl,hcl⟩:=(HA.out.below HBR.out zl) k (by omega)
   obtain⟨b',off',rfl,hbl',hcl'⟩:=(HA'.out.below HBR.out zl) k (by omega);obtain⟨y,hy⟩:∃y,rs.getD k ByteArray.empty=y:=⟨_,rfl⟩
   rw[hy]at hcl hcl';have hk0:(0:Int)≤(k:Int):=by omega
   clear hy hbl hbl';go_wp2;go_quiet (fail);go_wp2;go_roundw;case rel=>exact⟨k+1,by omega,by go_num,zh (Below.drewN' HW.out _)⟩
   case measure=>simp[intOf];omega
  ·go_wp2_with fail
   clear c0 c1 c2 c3 c4 d0 d1 d2 d3 d4;go_loopw [6] (fun i wr2=>∃j:Nat,j≤ws.length∧i = .int .i64 (j:Int)∧Hid (Below wr.heap.size wr wr2)) (fun i _=>ws.length-(intOf i).toNat);case atStart=>exact⟨0,Nat.zero_le _,rfl,zh (Below.refl _ _)⟩
   case round=>
    obtain⟨j,hj,rfl,HW2⟩:=hrel;have HX2:=zh (HX.out.below HW.out HX.out.2.2.2.2.2);have HY2:=zh (HY.out.below HW.out HY.out.2.2.2.2.2);obtain⟨c0,c1,c2,c3,c4,_⟩:=HX2.out.below HW2.out HX2.out.2.2.2.2.2;obtain⟨d0,d1,d2,d3,d4,_⟩:=HY2.out.below HW2.out HY2.out.2.2.2.2.2;have HBR2:=zh (Bel.call HBR.out HW2.out);by_cases hlt2:(j:Int)<(ws.length:Int)
    ·obtain⟨b,off,rfl,hbl,hcl⟩:=(HBB.out.below HBR2.out zl) j (by omega)
     obtain⟨b',off',rfl,hbl',hcl'⟩:=(HBB'.out.below HBR2.out zl) j (by omega);obtain⟨y,hy⟩:∃y,ws.getD j ByteArray.empty=y:=⟨_,rfl⟩
     rw[hy]at hcl hcl';have hj0:(0:Int)≤(j:Int):=by omega
     clear hy hbl hbl';go_wp2;go_quiet (fail);go_wp2;go_roundw;case rel=>exact⟨j+1,by omega,by go_num,zh (Below.drewN' HW2.out _)⟩
     case measure=>simp[intOf];omega
    ·go_wp2
     go_ret;exact⟨rfl,HBR2.out⟩
end Go.Proofs.YtmihiknebelkbaaGreat.Rig
namespace Go.Proofs.YtmihiknebelkbaaGreat.Rig
open Go.RowKit Wire
def TaF (B:Nat) (x:List Tm×Int) (e:Ending) (w':World):Prop:=∃(A:Option Addr) (c:Nat) (ys:List ByteArray),bl ys=x.1∧(ys.length≤c∧(A=none→c=0))∧SReads w' A ys∧(∀b off,A=some ⟨b,off,none⟩→B≤b)∧e = .returned (.tuple #[.slice A ys.length c,.int .i64 x.2])
theorem taF_nil (B:Nat) (f:Int) (w':World):TaF B ([],f) (.returned (.tuple #[.slice none 0 0,.int .i64 f])) w':=⟨none,0,[],rfl,⟨Nat.le_refl _,fun _=>rfl⟩,SReads.nil _ _,(fun _ _ h=>by cases h),rfl⟩
set_option maxRecDepth 1000000 in
theorem refAllF_any (s:ByteArray) (a m:Int) (w:World) (hs:s.size≤1000000000000) (ha:-9223372036854775808≤a∧a≤9223372036854775807) (hm:-9223372036854775808≤m∧m≤9223372036854775807):
    Calls Tryz.prog 28 #[.string s,.int .i64 a,.int .i64 m] w fun e w'=>TaF w.heap.size (all s.data.toList a m) e w'∧Below w.heap.size w w':=by
  obtain⟨ha1,ha2⟩:=ha
  rcases take_tk (l:=s.data.toList)with⟨h1,h2⟩|⟨n,r,h1,h2,hn⟩
  · have H1:=zh (all_none (a:=a) (b:=m) h1)
    have H2:=zh h2
    clear h1 h2
    go_enter Tryz.func28,Tryz.ntmps28
    go_wp2_with fail
    refine(refTake_any _ _ (by omega)).mono ?_
    rw[H2.out]
    rintro e w1 ⟨⟨R,hR,rfl⟩,hb⟩
    dsimp only at hR⊢
    have HB:=zh hb
    clear hR hb
    go_wp2
    go_ret2
    rw[H1.out]
    exact⟨taF_nil _ _ _,HB.out⟩
  · have h4:=(Wire.take_len h1).1
    rw[←Lib.size_eq]at h4
    have HT2:=zh h2
    have HT1:=zh h1
    have HN:=zh hn
    clear h1 h2 hn
    by_cases hb:max a 0<(n:Int)
    · have H1:=zh (all_big (b:=m) HT1.out hb)
      by_cases hm0:a<0
      · have hb':(0:Int)<n:=by omega
        clear hb
        go_enter Tryz.func28,Tryz.ntmps28
        go_wp2_with fail
        refine(refTake_any _ _ (by omega)).mono ?_
        rw[HT2.out]
        rintro e w0 ⟨⟨R0,hR0,rfl⟩,hb0⟩
        dsimp only at hR0⊢
        have HR0:=zh hR0
        have HB0:=zh hb0
        clear hR0 hb0
        go_wp2
        go_ret2
        rw[H1.out]
        exact⟨taF_nil _ _ _,HB0.out⟩
      · have hb':a<(n:Int):=by omega
        clear hb
        go_enter Tryz.func28,Tryz.ntmps28
        go_wp2_with fail
        refine(refTake_any _ _ (by omega)).mono ?_
        rw[HT2.out]
        rintro e w0 ⟨⟨R0,hR0,rfl⟩,hb0⟩
        dsimp only at hR0⊢
        have HR0:=zh hR0
        have HB0:=zh hb0
        clear hR0 hb0
        go_wp2
        go_ret2
        rw[H1.out]
        exact⟨taF_nil _ _ _,HB0.out⟩
    · have H2:Hid ((n:Int)≤max a 0):=by show _≤_;omega
      have H1:=HT1
      have hn63:n≤9223372036854775807:=by omega
      obtain⟨i0,hi0,hz0,hz1,hz2⟩:=info_parts str_info
      by_cases hm0:a<0
      · have hb':(n:Int)≤0:=by omega
        clear hb
        go_enter Tryz.func28,Tryz.ntmps28
        go_wp2_with fail
        refine(refTake_any _ _ (by omega)).mono ?_
        rw[HT2.out]
        rintro e w0 ⟨⟨R0,hR0,rfl⟩,hb0⟩
        dsimp only at hR0⊢
        have HR0:=zh hR0
        have HB0:=zh hb0
        clear hR0 hb0
        go_wp2
        have hstart:Took w s.size n r m 0 R0 (.slice none 0 0) w0:=
          ⟨[],World.ownsRow_nil _ _ _ _,rfl,by rw[HR0.out];rfl,by rw[Lib.size_eq,HR0.out];omega,HB0.out⟩
        have HST:=zh hstart
        clear hstart
        go_loopw [9,11,12] (fun q v i wr=>∃(k:Nat) (R:ByteArray),k≤n∧q = .string R∧i = .int .u64 k∧Hid (Took w s.size n r m k R v wr)) (fun _ _ i _=>n-(intOf i).toNat)
        case atStart=>exact⟨0,R0,Nat.zero_le _,rfl,rfl,HST⟩
        case round=>
          obtain⟨k,R,hk,rfl,rfl,HT⟩:=hrel
          clear HST
          obtain⟨ys,ho,hyl,hte,hsz,hbel⟩:=HT.out
          have hRs:R.size≤140737488355328:=by omega
          have HO:=zh ho
          have HYL:=zh hyl
          have HTE:=zh hte
          have HBL:=zh hbel
          by_cases hlt:k<n
          · exact absurd hlt (by omega)
          · obtain rfl:k=n:=by omega
            rw[Nat.sub_self,texts_zero]at hte
            obtain⟨A,c,rfl⟩:=own_value ho
            by_cases hR:R.data.toList = []
            · have hal:all s.data.toList a m=(bl ys,0):=by
                rw[hR]at hte
                exact all_ok H1.out H2.out hte.symm
              have HAL:=zh hal
              have hem:R.toList.isEmpty=true:=by rw[Lib.toList_data,hR];rfl
              obtain⟨h6,_,h7⟩:=sreads_own ho
              have H6:=zh h6
              have h8:TaF w.heap.size (bl ys,0) (.returned (.tuple #[.slice A k c,.int .i64 0])) wr:=by
                subst hyl
                exact⟨A,c,ys,rfl,⟨h7,own_none ho⟩,h6,own_fresh ho,rfl⟩
              have H8:=zh h8
              clear ho hyl hte hbel hsz hR hal h6 h8
              go_wp2
              go_ret2
              rw[HAL.out]
              exact⟨H8.out,HBL.out⟩
            · have hal:all s.data.toList a m=([],2):=all_left H1.out H2.out hte.symm hR
              have HAL:=zh hal
              have hem:R.toList.isEmpty=false:=by
                rw[Lib.toList_data]
                cases h:R.data.toList with
                | nil=>exact absurd h hR
                | cons x t=>rfl
              clear ho hyl hte hbel hsz hR hal
              go_wp2
              go_ret2
              rw[HAL.out]
              exact⟨taF_nil _ _ _,HBL.out⟩
      · have hb':(n:Int)≤a:=by omega
        clear hb
        go_enter Tryz.func28,Tryz.ntmps28
        go_wp2_with fail
        refine(refTake_any _ _ (by omega)).mono ?_
        rw[HT2.out]
        rintro e w0 ⟨⟨R0,hR0,rfl⟩,hb0⟩
        dsimp only at hR0⊢
        have HR0:=zh hR0
        have HB0:=zh hb0
        clear hR0 hb0
        go_wp2
        have hstart:Took w s.size n r m 0 R0 (.slice none 0 0) w0:=
          ⟨[],World.ownsRow_nil _ _ _ _,rfl,by rw[HR0.out];rfl,by rw[Lib.size_eq,HR0.out];omega,HB0.out⟩
        have HST:=zh hstart
        clear hstart
        go_loopw [9,11,12] (fun q v i wr=>∃(k:Nat) (R:ByteArray),k≤n∧q = .string R∧i = .int .u64 k∧Hid (Took w s.size n r m k R v wr)) (fun _ _ i _=>n-(intOf i).toNat)
        case atStart=>exact⟨0,R0,Nat.zero_le _,rfl,rfl,HST⟩
        case round=>
          obtain⟨k,R,hk,rfl,rfl,HT⟩:=hrel
          clear HST
          obtain⟨ys,ho,hyl,hte,hsz,hbel⟩:=HT.out
          have hRs:R.size≤140737488355328:=by omega
          have HO:=zh ho
          have HYL:=zh hyl
          have HTE:=zh hte
          have HBL:=zh hbel
          by_cases hlt:k<n
          · obtain⟨t,q,f,htx⟩:∃t q f,text R.data.toList m=(t,q,f):=⟨_,_,_,rfl⟩
            have HTX:=zh htx
            obtain⟨j,hj⟩:∃j,n-k=j+1:=⟨n-k-1,by omega⟩
            rw[hj]at hte
            by_cases hf:f=0
            · subst hf
              have hlen:=text_len htx rfl
              rw[texts_yes htx]at hte
              rw[←Lib.size_eq]at hlen
              have HTE2:=zh hte
              have HJ:=zh hj
              have hks:k+1≤s.size:=by omega
              have hq:q.length+(k+1)≤s.size:=by omega
              clear ho hyl hte hbel htx hj hlen hsz
              go_wp2_with (first
                | (go_at_call 49;refine(refText_any _ _ _ hRs hm).mono ?_;rw[HTX.out];rintro e w5 ⟨⟨T,Q,hT,hQ,rfl⟩,hb5⟩;have HB5:=zh (HBL.out.trans (hb5.mono HBL.out.size));have HB5':=zh hb5;clear hb5;have HTT:=zh hT;have HQ:=zh hQ;clear hT hQ;dsimp only)
                | (at_builtin
                   refine wpList_append_own _ rfl _ _ _ rfl w.heap.size 9 i0 _ 1 16 Tryz.underlying22 hi0 hz0 hz1 hz2 rfl (by decide) _ k (sv ys) rfl ?c1 _ 1 1 [.string T] rfl rfl ?c2 ?c3 ?c4 ?c5 ?c6 ?_
                   case c1=>exact(own_below HO.out HB5'.out zl).alloc _
                   case c2=>exact lit_cells _ _ _
                   case c3=>exact sv_one [T]
                   case c4=>simp only[maxLen];omega
                   case c5=>omega
                   case c6=>
                     have h:=HB5.out.size
                     simp only[World.alloc,Array.size_push]
                     exact Nat.le_succ_of_le h
                   intro v6 w6 hown hgrow _
                   have HO6:=zh hown
                   have HG6:=zh hgrow
                   clear hown hgrow))
              go_roundw
              case rel=>
                refine⟨k+1,Q,by omega,rfl,by go_num,ys++[T],by simpa[sv]using HO6.out,by simp[HYL.out],?_,?_,?_⟩
                · have e:n-(k+1)=j:=by have:=HJ.out;omega
                  have e2:bl (ys++[T])=bl ys++[t]:=by simp[bl,HTT.out]
                  rw[e,HQ.out,e2]
                  exact HTE2.out
                · rw[Lib.size_eq,HQ.out];exact hq
                · have h1:=HB5.out
                  refine(h1.alloc h1.size (.cells #[.string T] 9)).grown HG6.out (by
                    have:=h1.size
                    simp only[World.alloc,Array.size_push]
                    omega) fun g hg=>?_
                  exact(HO.out.lt g hg).1
              case measure=>simp[intOf];omega
            · have hal:all s.data.toList a m=([],f):=by
                rw[texts_no htx hf]at hte
                exact all_err H1.out H2.out hte.symm hf
              have HAL:=zh hal
              have hne:(f != 0)=true:=by simpa using hf
              clear ho hyl hte hbel htx hj hsz hf hal
              go_wp2_with (go_at_call 49;refine(refText_any _ _ _ hRs hm).mono ?_;rw[HTX.out];rintro e w5 ⟨⟨T,Q,hT,hQ,rfl⟩,hb5⟩;have HB5:=zh (HBL.out.trans (hb5.mono HBL.out.size));have HB5':=zh hb5;clear hb5;clear hT hQ;dsimp only)
              go_ret2
              rw[HAL.out]
              exact⟨taF_nil _ _ _,HB5.out⟩
          · obtain rfl:k=n:=by omega
            rw[Nat.sub_self,texts_zero]at hte
            obtain⟨A,c,rfl⟩:=own_value ho
            by_cases hR:R.data.toList = []
            · have hal:all s.data.toList a m=(bl ys,0):=by
                rw[hR]at hte
                exact all_ok H1.out H2.out hte.symm
              have HAL:=zh hal
              have hem:R.toList.isEmpty=true:=by rw[Lib.toList_data,hR];rfl
              obtain⟨h6,_,h7⟩:=sreads_own ho
              have H6:=zh h6
              have h8:TaF w.heap.size (bl ys,0) (.returned (.tuple #[.slice A k c,.int .i64 0])) wr:=by
                subst hyl
                exact⟨A,c,ys,rfl,⟨h7,own_none ho⟩,h6,own_fresh ho,rfl⟩
              have H8:=zh h8
              clear ho hyl hte hbel hsz hR hal h6 h8
              go_wp2
              go_ret2
              rw[HAL.out]
              exact⟨H8.out,HBL.out⟩
            · have hal:all s.data.toList a m=([],2):=all_left H1.out H2.out hte.symm hR
              have HAL:=zh hal
              have hem:R.toList.isEmpty=false:=by
                rw[Lib.toList_data]
                cases h:R.data.toList with
                | nil=>exact absurd h hR
                | cons x t=>rfl
              clear ho hyl hte hbel hsz hR hal
              go_wp2
              go_ret2
              rw[HAL.out]
              exact⟨taF_nil _ _ _,HBL.out⟩
end Go.Proofs.YtmihiknebelkbaaGreat.Rig
