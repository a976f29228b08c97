/-
  MCBlocks. By an AI agent.
-/
import Derived.Test.YtlkgjceddbclpaaGreatEZ
import Derived.Test.YtlkgjceddbclpaaGreatEMCPubs
import Derived.Test.YtlkgjceddbclpaaGreatEMCTake
import Derived.Test.YtlkgjceddbclpaaGreatEMBuilt
import Derived.Test.YtlkgjceddbclpaaGreatEMReg
import Derived.Test.YtlkgjceddbclpaaGreatER1
import Derived.Test.YtlkgjceddbclpaaGreatEC1
namespace Go.Proofs.YtlkgjceddbclpaaGreat.Mta
open Go.RowKit Wire Term Rig

set_option linter.unusedSimpArgs false
set_option linter.unusedVariables false
theorem ofText_nil : ofText [] = (emptyT, 0) := by
  have hr : right emptyT = true := Reg.sz_right (emptyT_sz 0) (by omega) (by decide)
  unfold ofText
  rw [emptyT_eq]
  exact Draw.made_yes hr
theorem state_len (t : Tm) (ep : Int) (_ : t.length ≤ 10000) : (Reg.state t ep).1.length ≤ 10000 := by
  unfold Reg.state
  split
  · split
    · rcases Reg.backN_cases t (7 - ep).toNat with ⟨h, h2⟩ | ⟨h, h2⟩
      · rw [h2]
        have := (right_len h).2
        simp only
        omega
      · rw [h2]; simp
    · simp
  · simp
def Bk2 (g : Nat) (w : World) (u x : ByteArray) : Prop := g < w.heap.size ∧ w.cell? ⟨g, 0, none⟩ = some (.string u) ∧ w.cell? ⟨g, 1, none⟩ = some (.string x)
theorem Bk2.call {g : Nat} {w w' : World} {u x : ByteArray} (h : Bk2 g w u x) (hb : Below w.heap.size w w') : Bk2 g w' u x := ⟨Nat.lt_of_lt_of_le h.1 hb.size, (hb.cell (p := ⟨g, 0, none⟩) h.1).trans h.2.1, (hb.cell (p := ⟨g, 1, none⟩) h.1).trans h.2.2⟩
theorem drop_pl {ks : List (ByteArray × ByteArray)} {k : Nat} {u x : ByteArray} (hk : k < ks.length) (hy : ks.getD k default = (u, x)) : (pl ks).drop k = (u.data.toList, x.data.toList) :: (pl ks).drop (k + 1) := by
  have h := pl_at hk
  rw [hy] at h; obtain ⟨h1, h2⟩ := List.getElem?_eq_some_iff.1 h; rw [List.drop_eq_getElem_cons h1, h2]
set_option maxHeartbeats 8000000 in
set_option maxRecDepth 1000000 in
theorem blocks_any (o f : ByteArray) (ep : Int) (A : Option Addr) (c : Nat) (rs : List ByteArray) (B : Option Addr) (d : Nat) (ws : List ByteArray) (root signer : ByteArray) (T : Option Addr) (ct : Nat) (ks : List (ByteArray × ByteArray)) (w : World) (hA : SReads w A rs) (hB : SReads w B ws) (hf : Few ⟨o.data.toList, f.data.toList, ep, bl rs, bl ws⟩)
    (hK : PReads w T ks) (hkl : ks.length ≤ 1000) (hz : ∀ y ∈ ks, y.1.size ≤ 10000 ∧ y.2.size ≤ 10000) (hro : root.size ≤ 10000) (hsi : signer.size ≤ 10000) :
    Calls Tryz.prog 57 #[RV o f ep A rs.length c B ws.length d, .string root, .string signer, .slice T ks.length ct] w fun e w' => Pe w.heap.size (blksC ⟨o.data.toList, f.data.toList, ep, bl rs, bl ws⟩ root.data.toList signer.data.toList (pl ks)) e w' ∧ Below w.heap.size w w' := by
  obtain ⟨i0, hi0, hz0, hz1, hz2⟩ := info_parts block_info; have HA := zh hA; have HBB := zh hB; have HK := zh hK; have HZ := zh hz
  have hep := hf.2.2.2.2.2.2
  simp only at hep
  have HST := zh fun w => Reg.state_any root ep w (by omega) hep
  have HCN := zh fun (u : ByteArray) w h1 h2 => can_code o f ep A c rs B d ws u true w h1 h2 hf
  obtain ⟨rr, hrr⟩ : ∃ r : Rt, r = ⟨o.data.toList, f.data.toList, ep, bl rs, bl ws⟩ := ⟨_, rfl⟩
  have hre : rr.ep = ep := by rw [hrr]
  rw [← hrr] at HCN ⊢; have HRE := zh hre; clear hA hB hK hz hf hep hrr hre
  unfold RV at HCN ⊢
  by_cases h0 : ks.length = 0
  · obtain rfl : ks = [] := List.eq_nil_of_length_eq_zero h0
    rw [show blksC rr root.data.toList signer.data.toList (pl []) = ([], 0) by unfold blksC; rw [if_pos (show pl [] = [] from rfl)]]; clear h0
    go_enter Tryz.func57, Tryz.ntmps57
    go_wp2
    go_ret2
    exact ⟨pe_nil _ _ _, al _ _⟩
  have hn0 : ¬ (ks.length : Int) = 0 := by omega
  have q0 : ((ks.length : Int) == 0) = false := by simpa using hn0
  obtain ⟨st, es, hst⟩ : ∃ s e, Reg.state root.data.toList ep = (s, e) := ⟨_, _, rfl⟩; rw [hst] at HST
  have hstl : st.length ≤ 10000 := by
    have h := state_len root.data.toList ep (by rw [← Lib.size_eq]; exact hro)
    rw [hst] at h
    exact h
  have hbk : blksC rr root.data.toList signer.data.toList (pl ks) = if es ≠ 0 then ([], es) else bls rr st signer.data.toList (pl ks) := by
    unfold blksC
    rw [if_neg (by intro e; have := congrArg List.length e; rw [pl_len] at this; exact h0 this), HRE.out, hst]
  rw [hbk]; clear hbk hst
  by_cases hes : es = 0
  case neg =>
    rw [if_pos hes]
    have q : (es != 0) = true := by simpa using hes
    go_enter Tryz.func57, Tryz.ntmps57
    go_wp2_with fail
    have HB0 := zh (al w (.cells #[.string o, .string f, .int .i64 ep, .slice A rs.length c, .slice B ws.length d] 27))
    generalize w.alloc (.cells #[.string o, .string f, .int .i64 ep, .slice A rs.length c, .slice B ws.length d] 27) = w0 at HB0 ⊢
    (with_reducible refine (HST.out _).mono ?_); rintro e w1 ⟨⟨S, hS, rfl⟩, hb1⟩; have HB1 := zh (Bel.call HB0.out hb1); clear hb1 hS; dsimp only
    go_wp2
    go_ret2
    exact ⟨pe_nil _ _ _, HB1.out⟩
  subst hes
  rw [if_neg (by simp)]
  go_enter Tryz.func57, Tryz.ntmps57
  go_wp2_with fail
  have HB0 := zh (al w (.cells #[.string o, .string f, .int .i64 ep, .slice A rs.length c, .slice B ws.length d] 27)); have HX0 := zh (bx_alloc w o f ep A rs.length c B ws.length d 27); obtain ⟨gr, hgr⟩ : ∃ n, w.heap.size = n := ⟨_, rfl⟩
  generalize w.alloc (.cells #[.string o, .string f, .int .i64 ep, .slice A rs.length c, .slice B ws.length d] 27) = w0 at HB0 HX0 ⊢
  rw [hgr] at HX0 ⊢; have HGR := zh hgr; clear hgr; (with_reducible refine (HST.out _).mono ?_); rintro e w1 ⟨⟨S, hS, rfl⟩, hb1⟩; have HB1 := zh (Bel.call HB0.out hb1); have HX1 := zh (HX0.out.below hb1 (bx_lt HX0.out)); dsimp only at hS
  have hSz : S.size ≤ 140737488355328 := by rw [Lib.size_eq, hS]; omega
  have HS := zh hS; clear hb1 hS; dsimp only
  go_wp2_with fail
  (with_reducible refine (t_OfText ⟨#[]⟩ _ (by decide)).mono ?_); rintro e w2 ⟨⟨N, hN, rfl⟩, hb2⟩; rw [show ofText (⟨#[]⟩ : ByteArray).data.toList = (emptyT, 0) from ofText_nil] at hN ⊢; have HB2 := zh (Bel.call HB1.out hb2); have HX2 := zh (HX1.out.below hb2 (bx_lt HX1.out)); have HN := zh hN; clear hb2 hN; dsimp only at HN ⊢
  go_wp2_with fail
  go_loopw [14, 39] (fun v i wr => ∃ (k : Nat) (V : Value), k ≤ ks.length ∧ i = .int .i64 (k : Int) ∧ V = v ∧ Hid (∃ acc, bls rr st signer.data.toList (pl ks) = cont acc (bls rr st signer.data.toList ((pl ks).drop k)) ∧ acc.length = k ∧ OwnsP 71 w2 acc V wr)) (fun _ i _ => ks.length - (intOf i).toNat)
  case atStart => exact ⟨0, _, Nat.zero_le _, rfl, rfl, zh ⟨[], (cont_nil _ (bls_nil _ _ _ _)).symm, rfl, ownsP_nil _ w2 (Below.refl _ _)⟩⟩
  case round =>
    obtain ⟨k2, v, hk2, rfl, rfl, HO⟩ := hrel; obtain ⟨acc, hadr, hal, zs, hz, hown, hbel⟩ := HO.out; have HAD := zh hadr; have HOW := zh hown; have HBL := zh hbel; have HZS := zh hz
    have hzl : zs.length = k2 := by rw [← hal, ← hz, pl_len]
    clear hadr hal hown hbel hz
    by_cases hlt : (k2 : Int) < (ks.length : Int)
    · have hkn : k2 < ks.length := by omega
      obtain ⟨b, off, rfl, hbl, hcl, hcl2⟩ := (HK.out.below (Bel.call HB2.out HBL.out) zl) k2 hkn; obtain ⟨⟨u, x⟩, hux⟩ : ∃ q, ks.getD k2 default = q := ⟨_, rfl⟩; rw [hux] at hcl hcl2
      simp only at hcl hcl2
      have HDR := zh (drop_pl hkn hux); obtain ⟨hu1, hx1⟩ := HZ.out (u, x) (by rw [← hux]; simp [List.getD, hkn])
      simp only at hu1 hx1
      obtain ⟨bx, eb, hbe⟩ : ∃ bx eb, boxd x.data.toList st (if can rr u.data.toList true = true then signer.data.toList else emptyT) = (bx, eb) := ⟨_, _, rfl⟩; have HBE := zh hbe; obtain ⟨c0, c1, c2, c3, c4, _⟩ := HX2.out.below HBL.out (bx_lt HX2.out); clear hux hbe hbl hkn
      cases hcan : can rr u.data.toList true with
      | true =>
        have HTO : Hid (signer.data.toList = if can rr u.data.toList true = true then signer.data.toList else emptyT) := zh (by rw [hcan]; rfl)
        have HCC := zh (HCN.out u); rw [hcan] at HCC
        have HBXD : Hid (∀ w, Calls Tryz.prog 114 #[.string x, .string S, .string signer] w fun e w' => Sr (bx, eb) e ∧ Below w.heap.size w w') := zh fun w => by
          have h := boxed_any x S signer w (by omega) hSz (by omega)
          rw [HS.out, HTO.out, HBE.out] at h
          exact h
        clear hcan
        go_wp2_with fail
        have hca : ∀ i, (wr.alloc (.cells #[.string u, .string x] 36)).cell? ⟨wr.heap.size, i, none⟩ = (#[.string u, .string x] : Array Value)[i]? := fun i => cell_of_row _ _ _ _ _ (0, 0) (heap_alloc_new wr _)
        have hka := al wr (.cells #[.string u, .string x] 36)
        have hla : (wr.alloc (.cells #[.string u, .string x] 36)).heap.size = wr.heap.size + 1 := by simp
        obtain ⟨gk, hgk⟩ : ∃ n, wr.heap.size = n := ⟨_, rfl⟩; have HBW := zh (Bel.call HBL.out hka); have HOW2 := zh (own_below HOW.out hka zl); have HGK := zh hgk; rw [hgk] at hca hla ⊢
        have hck : Bk2 gk (wr.alloc (.cells #[.string u, .string x] 36)) u x := ⟨by rw [hla]; omega, hca 0, hca 1⟩
        have HCK := zh hck; clear hca hka hla hgk hck hcl hcl2
        generalize wr.alloc (.cells #[.string u, .string x] 36) = wa at HBW HOW2 HCK ⊢
        have HSA := zh (HA.out.below (Bel.call HB2.out HBW.out) zl); have HSB := zh (HBB.out.below (Bel.call HB2.out HBW.out) zl); clear c0 c1 c2 c3 c4; obtain ⟨c0, c1, c2, c3, c4, _⟩ := HX2.out.below HBW.out (bx_lt HX2.out); (with_reducible refine (HCC.out _ HSA.out HSB.out).mono ?_); rintro e w4 ⟨rfl, hb4⟩; have HB4 := zh (Bel.call HBW.out hb4); have HO4 := zh (own_below HOW2.out hb4 zl); have HCK4 := zh (HCK.out.call hb4); clear hb4 HCC HSA HSB c0 c1 c2 c3 c4; dsimp only; obtain ⟨_, k0, k1⟩ := HCK4.out
        go_wp2_with fail
        clear k0 k1; (with_reducible refine (HBXD.out _).mono ?_); rintro e w5 ⟨⟨Z, hZ, rfl⟩, hb5⟩; have HB5 := zh (Bel.call HB4.out hb5); have HO5 := zh (own_below HO4.out hb5 zl); obtain ⟨_, k0, k1⟩ := HCK4.out.call hb5; dsimp only at hZ; have HZZ := zh hZ; clear hb5 hZ HBXD; dsimp only
        by_cases heb : eb = 0
        case neg =>
          have q : (eb != 0) = true := by simpa using heb
          have HR : Hid (bls rr st signer.data.toList (pl ks) = ([], eb)) := zh (by
            rw [HAD.out, HDR.out, bls]
            simp only
            rw [HBE.out]
            simp only
            rw [if_pos heb]
            exact cont_err _ heb)
          go_wp2
          go_ret2
          rw [HR.out]
          exact ⟨pe_nil _ _ _, Bel.call HB2.out HB5.out⟩
        subst heb
        have HST2 : Hid (bls rr st signer.data.toList (pl ks) = cont (acc ++ [(u.data.toList, Z.data.toList)]) (bls rr st signer.data.toList ((pl ks).drop (k2 + 1)))) := zh (by
          rw [HAD.out, HDR.out, bls]
          simp only
          rw [HBE.out]
          simp only
          rw [if_neg (by simp), HZZ.out]
          exact cont_cons _ _ _)
        go_wp2_with (at_builtin
                     refine wpList_append_own _ rfl _ _ _ rfl w2.heap.size 71 i0 _ 2 32 Tryz.underlying37 hi0 hz0 hz1 hz2 rfl (by decide) _ zs.length (pcs zs) rfl ?c1 _ 1 1 [.string u, .string Z] rfl rfl ?c2 ?c3 ?c4 ?c5 ?c6 ?_
                     case c1 => exact HO5.out.alloc _
                     case c2 => exact lit_cells _ _ _
                     case c3 => exact pcs_one [(u, Z)]
                     case c4 => simp only [maxLen]; omega
                     case c5 => omega
                     case c6 =>
                       have h := HB5.out.size
                       simp only [World.alloc, Array.size_push]
                       omega
                     intro v6 w6 hown6 hgrow _
                     have HO6 := zh hown6; have HG6 := zh hgrow
                     clear hown6 hgrow)
        have HB6 : Hid (Below w2.heap.size w2 w6) := by
          have h1 := HB5.out
          refine zh ((h1.alloc h1.size (.cells #[.string u, .string Z] 71)).grown HG6.out (by
            have := h1.size
            simp only [World.alloc, Array.size_push]
            omega) fun g hg => ?_)
          exact (HO5.out.lt g hg).1
        go_roundw
        case rel =>
          refine ⟨k2 + 1, _, by omega, by go_num, rfl, zh ⟨acc ++ [(u.data.toList, Z.data.toList)], HST2.out, by rw [List.length_append, ← HZS.out, pl_len, hzl]; rfl, zs ++ [(u, Z)], ?_, ?_, HB6.out⟩⟩
          · rw [← HZS.out]; simp [pl]
          · rw [pcs_app, List.length_append]; exact HO6.out
        case measure => show ks.length - ((k2 : Int) + 1).toNat < ks.length - (k2 : Int).toNat; omega
      | false =>
        have HTO : Hid (N.data.toList = if can rr u.data.toList true = true then signer.data.toList else emptyT) := zh (by rw [hcan, HN.out]; rfl)
        have HCC := zh (HCN.out u); rw [hcan] at HCC
        have HBXD : Hid (∀ w, Calls Tryz.prog 114 #[.string x, .string S, .string N] w fun e w' => Sr (bx, eb) e ∧ Below w.heap.size w w') := zh fun w => by
          have h := boxed_any x S N w (by omega) hSz (by rw [Lib.size_eq, HN.out]; decide)
          rw [HS.out, HTO.out, HBE.out] at h
          exact h
        clear hcan
        go_wp2_with fail
        have hca : ∀ i, (wr.alloc (.cells #[.string u, .string x] 36)).cell? ⟨wr.heap.size, i, none⟩ = (#[.string u, .string x] : Array Value)[i]? := fun i => cell_of_row _ _ _ _ _ (0, 0) (heap_alloc_new wr _)
        have hka := al wr (.cells #[.string u, .string x] 36)
        have hla : (wr.alloc (.cells #[.string u, .string x] 36)).heap.size = wr.heap.size + 1 := by simp
        obtain ⟨gk, hgk⟩ : ∃ n, wr.heap.size = n := ⟨_, rfl⟩; have HBW := zh (Bel.call HBL.out hka); have HOW2 := zh (own_below HOW.out hka zl); have HGK := zh hgk; rw [hgk] at hca hla ⊢
        have hck : Bk2 gk (wr.alloc (.cells #[.string u, .string x] 36)) u x := ⟨by rw [hla]; omega, hca 0, hca 1⟩
        have HCK := zh hck; clear hca hka hla hgk hck hcl hcl2
        generalize wr.alloc (.cells #[.string u, .string x] 36) = wa at HBW HOW2 HCK ⊢
        have HSA := zh (HA.out.below (Bel.call HB2.out HBW.out) zl); have HSB := zh (HBB.out.below (Bel.call HB2.out HBW.out) zl); clear c0 c1 c2 c3 c4; obtain ⟨c0, c1, c2, c3, c4, _⟩ := HX2.out.below HBW.out (bx_lt HX2.out); (with_reducible refine (HCC.out _ HSA.out HSB.out).mono ?_); rintro e w4 ⟨rfl, hb4⟩; have HB4 := zh (Bel.call HBW.out hb4); have HO4 := zh (own_below HOW2.out hb4 zl); have HCK4 := zh (HCK.out.call hb4); clear hb4 HCC HSA HSB c0 c1 c2 c3 c4; dsimp only; obtain ⟨_, k0, k1⟩ := HCK4.out
        go_wp2_with fail
        clear k0 k1; (with_reducible refine (HBXD.out _).mono ?_); rintro e w5 ⟨⟨Z, hZ, rfl⟩, hb5⟩; have HB5 := zh (Bel.call HB4.out hb5); have HO5 := zh (own_below HO4.out hb5 zl); obtain ⟨_, k0, k1⟩ := HCK4.out.call hb5; dsimp only at hZ; have HZZ := zh hZ; clear hb5 hZ HBXD; dsimp only
        by_cases heb : eb = 0
        case neg =>
          have q : (eb != 0) = true := by simpa using heb
          have HR : Hid (bls rr st signer.data.toList (pl ks) = ([], eb)) := zh (by
            rw [HAD.out, HDR.out, bls]
            simp only
            rw [HBE.out]
            simp only
            rw [if_pos heb]
            exact cont_err _ heb)
          go_wp2
          go_ret2
          rw [HR.out]
          exact ⟨pe_nil _ _ _, Bel.call HB2.out HB5.out⟩
        subst heb
        have HST2 : Hid (bls rr st signer.data.toList (pl ks) = cont (acc ++ [(u.data.toList, Z.data.toList)]) (bls rr st signer.data.toList ((pl ks).drop (k2 + 1)))) := zh (by
          rw [HAD.out, HDR.out, bls]
          simp only
          rw [HBE.out]
          simp only
          rw [if_neg (by simp), HZZ.out]
          exact cont_cons _ _ _)
        go_wp2_with (at_builtin
                     refine wpList_append_own _ rfl _ _ _ rfl w2.heap.size 71 i0 _ 2 32 Tryz.underlying37 hi0 hz0 hz1 hz2 rfl (by decide) _ zs.length (pcs zs) rfl ?c1 _ 1 1 [.string u, .string Z] rfl rfl ?c2 ?c3 ?c4 ?c5 ?c6 ?_
                     case c1 => exact HO5.out.alloc _
                     case c2 => exact lit_cells _ _ _
                     case c3 => exact pcs_one [(u, Z)]
                     case c4 => simp only [maxLen]; omega
                     case c5 => omega
                     case c6 =>
                       have h := HB5.out.size
                       simp only [World.alloc, Array.size_push]
                       omega
                     intro v6 w6 hown6 hgrow _
                     have HO6 := zh hown6; have HG6 := zh hgrow
                     clear hown6 hgrow)
        have HB6 : Hid (Below w2.heap.size w2 w6) := by
          have h1 := HB5.out
          refine zh ((h1.alloc h1.size (.cells #[.string u, .string Z] 71)).grown HG6.out (by
            have := h1.size
            simp only [World.alloc, Array.size_push]
            omega) fun g hg => ?_)
          exact (HO5.out.lt g hg).1
        go_roundw
        case rel =>
          refine ⟨k2 + 1, _, by omega, by go_num, rfl, zh ⟨acc ++ [(u.data.toList, Z.data.toList)], HST2.out, by rw [List.length_append, ← HZS.out, pl_len, hzl]; rfl, zs ++ [(u, Z)], ?_, ?_, HB6.out⟩⟩
          · rw [← HZS.out]; simp [pl]
          · rw [pcs_app, List.length_append]; exact HO6.out
        case measure => show ks.length - ((k2 : Int) + 1).toNat < ks.length - (k2 : Int).toNat; omega
    · have hke : k2 = ks.length := by omega
      have HR : Hid (bls rr st signer.data.toList (pl ks) = (acc, 0)) := zh (by
        rw [HAD.out, hke, List.drop_of_length_le (by rw [pl_len]; exact Nat.le_refl _), bls]
        unfold cont
        simp)
      have HF : Hid (Plst w2.heap.size acc (.returned v) wr) := zh (ownsP_lst ⟨zs, HZS.out, HOW.out, HBL.out⟩)
      obtain ⟨A5, c5, k5, hk5, hn5, hr5, hf5, he5⟩ := HF.out
      obtain rfl : v = .slice A5 k5.length c5 := by injection he5
      have HFF : Hid (Pe w.heap.size (acc, 0) (.returned (.tuple #[.slice A5 k5.length c5, .int .i64 0])) wr) := zh ⟨A5, c5, k5, hk5, hn5, hr5, fun b off e => by
        have h1 := own1_of (show wr.ownsRow w2.heap.size 71 2 (.slice A5 k5.length c5) k5.length (pcs zs) by have h := HOW.out; rw [show zs.length = k5.length by have := congrArg List.length (hk5.trans HZS.out.symm); rw [pl_len, pl_len] at this; exact this.symm] at h; exact h) b off e
        exact ⟨Nat.le_trans HB2.out.size h1.1, h1.2⟩, rfl⟩
      clear hk5 hn5 hr5 hf5 he5
      go_wp2
      go_ret2
      rw [HR.out]
      exact ⟨HFF.out, Bel.call HB2.out HBL.out⟩
end Go.Proofs.YtlkgjceddbclpaaGreat.Mta

