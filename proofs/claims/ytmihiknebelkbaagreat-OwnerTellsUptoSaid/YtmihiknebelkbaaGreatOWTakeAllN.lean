/-
  WTakeAllN. By an AI agent.
-/
import Derived.Test.YtmihiknebelkbaaGreatOZ
import Derived.Test.YtmihiknebelkbaaGreatOW1
import Derived.Test.YtmihiknebelkbaaGreatOW0
import Derived.Test.YtmihiknebelkbaaGreatOWRAllN
set_option maxHeartbeats 4000000
namespace Go.Proofs.YtmihiknebelkbaaGreat.Wire
open Go.RowKit
set_option maxRecDepth 1000000 in
theorem takeAll_new (s:ByteArray) (a m:Int) (w:World) (hs:s.size≤1000000000000) (ha:-9223372036854775808≤a∧a≤9223372036854775807) (hm:-9223372036854775808≤m∧m≤9223372036854775807):
    Calls Tryz.prog 68 #[.string s,.int .i64 a,.int .i64 m] w fun e w'=>Tn w.heap.size (all s.data.toList a m) e w'∧Below w.heap.size w w':=by
  obtain⟨n,r,f,hu⟩:∃n r f,upTo s.data.toList a=(n,r,f):=⟨_,_,_,rfl⟩
  have HU:=zh hu
  rcases all_upTo (b:=m) hu with⟨h0,h1⟩|⟨rfl,h1,h2,h3,h4⟩
  · have H1:=zh h1
    have hne:(f != 0)=true:=by simpa using h0
    clear h1 hu h0
    go_enter Tryz.func68,Tryz.ntmps68
    go_wp2_with (go_at_call 88;refine(upTo_any _ _ _ (by omega) ha).mono ?_;rw[HU.out];rintro e w' ⟨⟨R,hR,rfl⟩,k,rfl⟩;clear hR;dsimp only)
    go_ret2
    rw[H1.out]
    exact⟨tn_nil _ _ _,bdrew _ _⟩
  · clear hu
    have hn63:n≤9223372036854775807:=by omega
    rw[←Lib.size_eq]at h4
    have H1:=zh h1
    have H2:=zh h2
    obtain⟨i0,hi0,hz0,hz1,hz2⟩:=info_parts str_info
    clear h1 h2 h3
    go_enter Tryz.func68,Tryz.ntmps68
    go_wp2_with (go_at_call 88;refine(upTo_any _ _ _ (by omega) ha).mono ?_;rw[HU.out];rintro e w' ⟨⟨R0,hR0,rfl⟩,k0,rfl⟩;have HR0:=zh hR0;clear hR0;dsimp only)
    have hstart:Took w s.size n r m 0 R0 (.slice none 0 0) (w.drewN k0):=
      ⟨[],World.ownsRow_nil _ _ _ _,rfl,by rw[HR0.out];rfl,by rw[Lib.size_eq,HR0.out];omega,bdrew _ _⟩
    have HST:=zh hstart
    clear hstart
    go_loopw [9,11,26] (fun q v i wr=>∃(k:Nat) (R:ByteArray),k≤n∧q = .string R∧i = .int .u64 k∧Hid (Took w s.size n r m k R v wr)) (fun _ _ i _=>n-(intOf i).toNat)
    case atStart=>exact⟨0,R0,Nat.zero_le _,rfl,rfl,HST⟩
    case round=>
      obtain⟨k,R,hk,rfl,rfl,HT⟩:=hrel
      clear HST
      obtain⟨ys,ho,hyl,hte,hsz,hbel⟩:=HT.out
      have hRs:R.size≤140737488355328:=by omega
      have HO:=zh ho
      have HYL:=zh hyl
      have HTE:=zh hte
      have HBL:=zh hbel
      by_cases hlt:k<n
      · obtain⟨t,q,f,htx⟩:∃t q f,text R.data.toList m=(t,q,f):=⟨_,_,_,rfl⟩
        have HTX:=zh htx
        obtain⟨j,hj⟩:∃j,n-k=j+1:=⟨n-k-1,by omega⟩
        rw[hj]at hte
        by_cases hf:f=0
        · subst hf
          have hlen:=text_len htx rfl
          rw[texts_yes htx]at hte
          rw[←Lib.size_eq]at hlen
          have HTE2:=zh hte
          have HJ:=zh hj
          have hks:k+1≤s.size:=by omega
          have hq:q.length+(k+1)≤s.size:=by omega
          clear ho hyl hte hbel htx hj hlen hsz
          go_wp2_with (first
            | (go_at_call 89;refine(text_any _ _ _ hRs hm).mono ?_;rw[HTX.out];rintro e w' ⟨⟨T,Q,hT,hQ,rfl⟩,kd,rfl⟩;have HTT:=zh hT;have HQ:=zh hQ;clear hT hQ;dsimp only)
            | (at_builtin
               refine wpList_append_own _ rfl _ _ _ rfl w.heap.size 9 i0 _ 1 16 Tryz.underlying22 hi0 hz0 hz1 hz2 rfl (by decide) _ k (sv ys) rfl ?c1 _ 1 1 [.string T] rfl rfl ?c2 ?c3 ?c4 ?c5 ?c6 ?_
               case c1=>exact(own_below HO.out (bdrew _ kd) zl).alloc _
               case c2=>exact lit_cells _ _ _
               case c3=>exact sv_one [T]
               case c4=>simp only[maxLen];omega
               case c5=>omega
               case c6=>
                 have h:=HBL.out.size
                 simp only[World.alloc,Array.size_push]
                 exact Nat.le_succ_of_le h
               intro v6 w6 hown hgrow _
               have HO6:=zh hown
               have HG6:=zh hgrow
               clear hown hgrow))
          go_roundw
          case rel=>
            refine⟨k+1,Q,by omega,rfl,by go_num,ys++[T],by simpa[sv]using HO6.out,by simp[HYL.out],?_,?_,?_⟩
            · have e:n-(k+1)=j:=by have:=HJ.out;omega
              have e2:bl (ys++[T])=bl ys++[t]:=by simp[bl,HTT.out]
              rw[e,HQ.out,e2]
              exact HTE2.out
            · rw[Lib.size_eq,HQ.out];exact hq
            · have h1:=HBL.out.trans (bdrew (B:=w.heap.size) _ kd)
              refine(h1.alloc h1.size (.cells #[.string T] 9)).grown HG6.out (by
                have:=h1.size
                simp only[World.alloc,Array.size_push]
                omega) fun g hg=>?_
              exact(HO.out.lt g hg).1
          case measure=>simp[intOf];omega
        · have hal:all s.data.toList a m=([],f):=by
            rw[texts_no htx hf]at hte
            exact all_err H1.out H2.out hte.symm hf
          have HAL:=zh hal
          have hne:(f != 0)=true:=by simpa using hf
          clear ho hyl hte hbel htx hj hsz hf hal
          go_wp2_with (go_at_call 89;refine(text_any _ _ _ hRs hm).mono ?_;rw[HTX.out];rintro e w' ⟨⟨T,Q,hT,hQ,rfl⟩,kd,rfl⟩;clear hT hQ;dsimp only)
          go_ret2
          rw[HAL.out]
          exact⟨tn_nil _ _ _,HBL.out.trans (bdrew _ kd)⟩
      · obtain rfl:k=n:=by omega
        rw[Nat.sub_self,texts_zero]at hte
        obtain⟨A,c,rfl⟩:=own_value ho
        by_cases hR:R.data.toList = []
        · have hal:all s.data.toList a m=(bl ys,0):=by
            rw[hR]at hte
            exact all_ok H1.out H2.out hte.symm
          have HAL:=zh hal
          have hem:R.toList.isEmpty=true:=by rw[Lib.toList_data,hR];rfl
          obtain⟨h6,_,h7⟩:=sreads_own ho
          have H6:=zh h6
          have h8:Tn w.heap.size (bl ys,0) (.returned (.tuple #[.slice A k c,.int .i64 0])) wr:=by
            subst hyl
            exact⟨A,c,ys,rfl,h7,h6,rfl,own_new ho⟩
          have H8:=zh h8
          clear ho hyl hte hbel hsz hR hal h6 h8
          go_wp2
          go_ret2
          rw[HAL.out]
          exact⟨H8.out,HBL.out⟩
        · have hal:all s.data.toList a m=([],2):=all_left H1.out H2.out hte.symm hR
          have HAL:=zh hal
          have hem:R.toList.isEmpty=false:=by
            rw[Lib.toList_data]
            cases h:R.data.toList with
            | nil=>exact absurd h hR
            | cons x t=>rfl
          clear ho hyl hte hbel hsz hR hal
          go_wp2
          go_ret2
          rw[HAL.out]
          exact⟨tn_nil _ _ _,HBL.out⟩
end Go.Proofs.YtmihiknebelkbaaGreat.Wire
