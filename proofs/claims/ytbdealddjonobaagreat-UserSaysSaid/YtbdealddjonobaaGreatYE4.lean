/-
  E4. By an AI agent.
-/
import Derived.Test.YtbdealddjonobaaGreatYZ
import Derived.Test.YtbdealddjonobaaGreatYE3
import Derived.Test.YtbdealddjonobaaGreatYB2
import Derived.Test.YtbdealddjonobaaGreatYE2
import Derived.Test.YtbdealddjonobaaGreatYE6
import Derived.Test.YtbdealddjonobaaGreatYE7
import Derived.Test.YtbdealddjonobaaGreatYB1
import Derived.Test.YtbdealddjonobaaGreatYE1
import Derived.Test.YtbdealddjonobaaGreatYT2
namespace Go.Proofs.YtbdealddjonobaaGreat.Mta
open Go.RowKit Wire Term Rig

theorem one_most (k : UInt8) (a : Tm) : (Term.one k a).1.length ≤ 4000 := by
 unfold Term.one
 split
 · exact Draw.made_len _
 · simp
theorem boxd_most (p s t : Tm) : (boxd p s t).1.length ≤ 4000 := by
 unfold boxd
 split
 · simp
 ·
  unfold box
  split
  · exact Draw.two_len _ _ _
  · simp
theorem vfs_small : ∀ l : List Tm, (vfs l).1.length ≤ l.length ∧ ∀ t ∈ (vfs l).1, t.length ≤ 4000
 | [] => ⟨Nat.le_refl _, fun t h => (List.not_mem_nil h).elim⟩
 | s :: l => by
  obtain ⟨h1, h2⟩ := vfs_small l; rw [vfs]
  split
  · exact ⟨Nat.zero_le _, fun t h => (List.not_mem_nil h).elim⟩
  ·
   split
   · exact ⟨Nat.zero_le _, fun t h => (List.not_mem_nil h).elim⟩
   ·
    refine ⟨by simp only [List.length_cons]; omega, fun t h => ?_⟩
    rcases List.mem_cons.1 h with rfl | h
    · exact one_most _ _
    · exact h2 t h
theorem adr_small (known : List (Tm × Tm)) : ∀ l : List Tm, (adr known l).1.length ≤ l.length ∧ ∀ k ∈ (adr known l).1, k ∈ known
 | [] => ⟨Nat.le_refl _, fun t h => (List.not_mem_nil h).elim⟩
 | s :: l => by
  obtain ⟨h1, h2⟩ := adr_small known l; rw [adr]
  cases hk : known.find? (fun k => k.1 == s) with
  | none => exact ⟨Nat.zero_le _, fun t h => (List.not_mem_nil h).elim⟩
  | some k =>
   simp only
   split
   · exact ⟨Nat.zero_le _, fun t h => (List.not_mem_nil h).elim⟩
   ·
    split
    · exact ⟨Nat.zero_le _, fun t h => (List.not_mem_nil h).elim⟩
    ·
     refine ⟨by simp only [List.length_cons]; omega, fun t h => ?_⟩
     rcases List.mem_cons.1 h with rfl | h
     · exact List.mem_of_find?_eq_some hk
     · exact h2 t h
theorem bls_small (r : Rt) (st sg : Tm) : ∀ l : List (Tm × Tm), (bls r st sg l).1.length ≤ l.length ∧ ∀ b ∈ (bls r st sg l).1, b.2.length ≤ 4000 ∧ ∃ k ∈ l, b.1 = k.1
 | [] => ⟨Nat.le_refl _, fun t h => (List.not_mem_nil h).elim⟩
 | s :: l => by
  obtain ⟨h1, h2⟩ := bls_small r st sg l; rw [bls]; obtain ⟨tt, htt⟩ : ∃ x, (if can r s.1 true = true then sg else emptyT) = x := ⟨_, rfl⟩; rw [htt]
  split
  · exact ⟨Nat.zero_le _, fun t h => (List.not_mem_nil h).elim⟩
  ·
   split
   · exact ⟨Nat.zero_le _, fun t h => (List.not_mem_nil h).elim⟩
   ·
    refine ⟨by simp only [List.length_cons]; omega, fun t h => ?_⟩
    rcases List.mem_cons.1 h with rfl | h
    · exact ⟨boxd_most _ _ _, s, by simp, rfl⟩
    ·
     obtain ⟨q1, k, q2, q3⟩ := h2 t h
     exact ⟨q1, k, by simp [q2], q3⟩
theorem blksC_small (r : Rt) (root sg : Tm) (l : List (Tm × Tm)) : (blksC r root sg l).1.length ≤ l.length ∧ ∀ b ∈ (blksC r root sg l).1, b.2.length ≤ 4000 ∧ ∃ k ∈ l, b.1 = k.1 := by
 unfold blksC
 split
 · exact ⟨Nat.zero_le _, fun t h => (List.not_mem_nil h).elim⟩
 ·
  split
  · exact ⟨Nat.zero_le _, fun t h => (List.not_mem_nil h).elim⟩
  · exact bls_small r _ sg l
theorem built_sign (r : Rt) (ver : Nat) (v : List Tm) (b : List (Tm × Tm)) (secret : Tm) : built r ver v b secret = if (signC secret ⟨r, ver, v, b, []⟩).2 ≠ 0 then (mzero, (signC secret ⟨r, ver, v, b, []⟩).2) else (⟨r, ver, v, b, (signC secret ⟨r, ver, v, b, []⟩).1⟩, 0) := by
 unfold built signC
 by_cases h : (ofText (bodyB ⟨r, ver, v, b, []⟩)).2 ≠ 0
 · rw [if_pos h, if_pos h, if_pos h]
 · rw [if_neg h, if_neg h]
theorem sepM_zero (w : World) : SepM w (.agg #[.string ⟨#[]⟩, .string ⟨#[]⟩, .int .i64 0, .slice none 0 0, .slice none 0 0, .int .u64 0, .slice none 0 0, .slice none 0 0, .string ⟨#[]⟩]) := by
 intro o f sig ep ver A n c B m d V nv cv K nk ck h
 injection h with h
 have h6 := congrArg (fun a : Array Value => a[6]?) h
 have h7 := congrArg (fun a : Array Value => a[7]?) h
 simp at h6 h7
 obtain ⟨rfl, _, _⟩ := h6; obtain ⟨rfl, _, _⟩ := h7
 exact ⟨fun b off e => (by cases e), fun b off e => (by cases e)⟩
theorem bl_getD {ss : List ByteArray} {k : Nat} : (bl ss).getD k [] = (ss.getD k ByteArray.empty).data.toList := by
 unfold bl
 rw [List.getD_eq_getElem?_getD, List.getD_eq_getElem?_getD, List.getElem?_map]
 cases ss[k]? <;> rfl
theorem mx_set6 {g : Nat} {w : World} {o f : ByteArray} {ep : Int} {A : Option Addr} {n c : Nat} {B : Option Addr} {m d : Nat} {ver : Nat} {V : Option Addr} {nv cv : Nat} {K : Option Addr} {nk ck : Nat} {sig : ByteArray} (h : Mx g w o f ep A n c B m d ver V nv cv K nk ck sig) (V' : Option Addr) (nv' cv' : Nat) : Mx g (w.setCell ⟨g, 6, none⟩ (.slice V' nv' cv')) o f ep A n c B m d ver V' nv' cv' K nk ck sig := by
 obtain ⟨⟨h0, h1, h2, h3, h4, h5, h6, h7, h8⟩, h9⟩ := h
 have e : ∀ j, j ≠ 6 → (w.setCell ⟨g, 6, none⟩ (.slice V' nv' cv')).cell? ⟨g, j, none⟩ = w.cell? ⟨g, j, none⟩ := fun j hj => World.cell?_setCell_other w _ _ _ (fun e => by injection e with _ e _; exact hj e.symm)
 exact ⟨⟨(e 0 (by decide)).trans h0, (e 1 (by decide)).trans h1, (e 2 (by decide)).trans h2, (e 3 (by decide)).trans h3, (e 4 (by decide)).trans h4, (e 5 (by decide)).trans h5, World.cell?_setCell_same w _ _ h6, (e 7 (by decide)).trans h7, (e 8 (by decide)).trans h8⟩, by simpa [World.setCell] using h9⟩
theorem mx_set7 {g : Nat} {w : World} {o f : ByteArray} {ep : Int} {A : Option Addr} {n c : Nat} {B : Option Addr} {m d : Nat} {ver : Nat} {V : Option Addr} {nv cv : Nat} {K : Option Addr} {nk ck : Nat} {sig : ByteArray} (h : Mx g w o f ep A n c B m d ver V nv cv K nk ck sig) (K' : Option Addr) (nk' ck' : Nat) : Mx g (w.setCell ⟨g, 7, none⟩ (.slice K' nk' ck')) o f ep A n c B m d ver V nv cv K' nk' ck' sig := by
 obtain ⟨⟨h0, h1, h2, h3, h4, h5, h6, h7, h8⟩, h9⟩ := h
 have e : ∀ j, j ≠ 7 → (w.setCell ⟨g, 7, none⟩ (.slice K' nk' ck')).cell? ⟨g, j, none⟩ = w.cell? ⟨g, j, none⟩ := fun j hj => World.cell?_setCell_other w _ _ _ (fun e => by injection e with _ e _; exact hj e.symm)
 exact ⟨⟨(e 0 (by decide)).trans h0, (e 1 (by decide)).trans h1, (e 2 (by decide)).trans h2, (e 3 (by decide)).trans h3, (e 4 (by decide)).trans h4, (e 5 (by decide)).trans h5, (e 6 (by decide)).trans h6, World.cell?_setCell_same w _ _ h7, (e 8 (by decide)).trans h8⟩, by simpa [World.setCell] using h9⟩
theorem mx_set8 {g : Nat} {w : World} {o f : ByteArray} {ep : Int} {A : Option Addr} {n c : Nat} {B : Option Addr} {m d : Nat} {ver : Nat} {V : Option Addr} {nv cv : Nat} {K : Option Addr} {nk ck : Nat} {sig : ByteArray} (h : Mx g w o f ep A n c B m d ver V nv cv K nk ck sig) (s : ByteArray) : Mx g (w.setCell ⟨g, 8, none⟩ (.string s)) o f ep A n c B m d ver V nv cv K nk ck s := by
 obtain ⟨⟨h0, h1, h2, h3, h4, h5, h6, h7, h8⟩, h9⟩ := h
 have e : ∀ j, j ≠ 8 → (w.setCell ⟨g, 8, none⟩ (.string s)).cell? ⟨g, j, none⟩ = w.cell? ⟨g, j, none⟩ := fun j hj => World.cell?_setCell_other w _ _ _ (fun e => by injection e with _ e _; exact hj e.symm)
 exact ⟨⟨(e 0 (by decide)).trans h0, (e 1 (by decide)).trans h1, (e 2 (by decide)).trans h2, (e 3 (by decide)).trans h3, (e 4 (by decide)).trans h4, (e 5 (by decide)).trans h5, (e 6 (by decide)).trans h6, (e 7 (by decide)).trans h7, World.cell?_setCell_same w _ _ h8⟩, by simpa [World.setCell] using h9⟩
theorem sf9_set {g G j : Nat} {w : World} {v : Value} (h : Sf9 g w) : Sf9 g (w.setCell ⟨G, j, none⟩ v) := by
 obtain ⟨h0, h1, h2, h3, h4, h5, h6, h7, h8⟩ := h
 exact ⟨by simpa using h0, by simpa using h1, by simpa using h2, by simpa using h3, by simpa using h4, by simpa using h5, by simpa using h6, by simpa using h7, by simpa using h8⟩
theorem rs_set {g G j : Nat} {w : World} {v : Value} (h : Rs g w) (hn : g ≠ G) : Rs g (w.setCell ⟨G, j, none⟩ v) := by
 obtain ⟨⟨⟨h0, h1, h2, h3, h4, h5, h6, h7, h8⟩, h9⟩, hs⟩ := h
 have e : ∀ i, (w.setCell ⟨G, j, none⟩ v).cell? ⟨g, i, none⟩ = w.cell? ⟨g, i, none⟩ := fun i => World.cell?_setCell_other w _ _ _ (fun e => by injection e with e _ _; exact hn e.symm)
 exact ⟨⟨⟨(e 0).trans h0, (e 1).trans h1, (e 2).trans h2, (e 3).trans h3, (e 4).trans h4, (e 5).trans h5, (e 6).trans h6, (e 7).trans h7, (e 8).trans h8⟩, by simpa [World.setCell] using h9⟩, sf9_set hs⟩
theorem bx_set {g G j : Nat} {w : World} {o f : ByteArray} {ep : Int} {A : Option Addr} {n c : Nat} {B : Option Addr} {m d : Nat} {v : Value} (h : Bx g w o f ep A n c B m d) (hn : g ≠ G) : Bx g (w.setCell ⟨G, j, none⟩ v) o f ep A n c B m d := by
 obtain ⟨h0, h1, h2, h3, h4, h9⟩ := h
 have e : ∀ i, (w.setCell ⟨G, j, none⟩ v).cell? ⟨g, i, none⟩ = w.cell? ⟨g, i, none⟩ := fun i => World.cell?_setCell_other w _ _ _ (fun e => by injection e with e _ _; exact hn e.symm)
 exact ⟨(e 0).trans h0, (e 1).trans h1, (e 2).trans h2, (e 3).trans h3, (e 4).trans h4, by simpa [World.setCell] using h9⟩
theorem preads_set {w : World} {A : Option Addr} {ks : List (ByteArray × ByteArray)} (h : PReads w A ks) {R j : Nat} {v : Value} (hR : ∀ b off, A = some ⟨b, off, none⟩ → b ≠ R) : PReads (w.setCell ⟨R, j, none⟩ v) A ks := preads_setL h fun b off e _ => hR b off e
theorem own1_set {B G j : Nat} {w : World} {A : Option Addr} {v : Value} (h : Own1 B w A) : Own1 B (w.setCell ⟨G, j, none⟩ v) A := fun b off e => by
 obtain ⟨h1, h2, h3⟩ := h b off e
 exact ⟨h1, by simpa [World.setCell] using h2, fun i => by simpa using h3 i⟩
end Go.Proofs.YtbdealddjonobaaGreat.Mta

namespace Go.Proofs.YtbdealddjonobaaGreat.Mta
open Go.RowKit Wire Term Rig

set_option linter.unusedSimpArgs false
set_option linter.unusedVariables false
theorem sepM_mk {w : World} {o f sig : ByteArray} {ep ver : Int} {A : Option Addr} {n c : Nat} {B : Option Addr} {m d : Nat} {V : Option Addr} {nv cv : Nat} {K : Option Addr} {nk ck : Nat} (h1 : Apt w V nv A B K) (h2 : Apt w K nk A B V) : SepM w (.agg #[.string o, .string f, .int .i64 ep, .slice A n c, .slice B m d, .int .u64 ver, .slice V nv cv, .slice K nk ck, .string sig]) := by
 intro o' f' sig' ep' ver' A' n' c' B' m' d' V' nv' cv' K' nk' ck' h
 injection h with h
 have e3 := congrArg (fun a : Array Value => a[3]?) h
 have e4 := congrArg (fun a : Array Value => a[4]?) h
 have e6 := congrArg (fun a : Array Value => a[6]?) h
 have e7 := congrArg (fun a : Array Value => a[7]?) h
 simp at e3 e4 e6 e7
 obtain ⟨rfl, _, _⟩ := e3; obtain ⟨rfl, _, _⟩ := e4; obtain ⟨rfl, rfl, _⟩ := e6; obtain ⟨rfl, rfl, _⟩ := e7
 exact ⟨h1, h2⟩
theorem all_right (l : List Tm) : l.all right = decide (∀ t ∈ l, right t = true) := by
 rw [Bool.eq_iff_iff]
 simp only [List.all_eq_true, decide_eq_true_eq]
set_option maxHeartbeats 16000000 in
set_option maxRecDepth 1000000 in
theorem build_any (gs : List Nat) (secret : ByteArray) (o f : ByteArray) (ep : Int) (A : Option Addr) (c : Nat) (rs : List ByteArray) (B : Option Addr) (d : Nat) (ws : List ByteArray) (ver : Nat) (root : ByteArray) (S : Option Addr) (cs : Nat) (ss : List ByteArray) (K : Option Addr) (ck : Nat) (ks : List (ByteArray × ByteArray)) (w : World)
    (hg : ∀ g ∈ gs, g < w.heap.size) (hA : SReads w A rs) (hB : SReads w B ws) (hna : A = none → c = 0) (hnb : B = none → d = 0) (hf : Few ⟨o.data.toList, f.data.toList, ep, bl rs, bl ws⟩) (hver : ver < 18446744073709551616) (hsec : secret.size ≤ 10000) (hroot : root.size ≤ 10000)
    (hS : SReads w S ss) (hsl : ss.length ≤ 40) (hsz : ∀ s ∈ ss, s.size ≤ 10000) (hK : PReads w K ks) (hkl : ks.length ≤ 40) (hkz : ∀ k ∈ ks, k.1.size ≤ 10000 ∧ k.2.size ≤ 10000) :
    Calls Tryz.prog 68 #[.string secret, RV o f ep A rs.length c B ws.length d, .int .u64 (ver : Int), .string root, .slice S ss.length cs, .slice K ks.length ck] w fun e w' =>
      Mb gs (build secret.data.toList ⟨o.data.toList, f.data.toList, ep, bl rs, bl ws⟩ ver root.data.toList (bl ss) (pl ks)) e w' ∧ Below w.heap.size w w' := by
  have HA := zh hA; have HBB := zh hB; have HS := zh hS; have HK := zh hK
  have HT1 := zh fun w => isTerm_any secret w (by omega)
  have HT2 := zh fun w => isTerm_any root w (by omega)
  have HRC := zh fun w h1 h2 => right_code o f ep A c rs B d ws w h1 h2 hf
  have HALL := zh fun w h => all_fn 79 (fun _ _ => rfl) right S cs ss w h (by omega) fun y hy W => isTerm_any y W (by have := hsz y hy; omega)
  rw [all_right] at HALL; obtain ⟨zz, hzz⟩ : ∃ z, build secret.data.toList ⟨o.data.toList, f.data.toList, ep, bl rs, bl ws⟩ ver root.data.toList (bl ss) (pl ks) = z := ⟨_, rfl⟩; have HZ := zh hzz
  have HZE : Hid ((¬ right secret.data.toList = true ∨ ¬ right root.data.toList = true ∨ ¬ RR ⟨o.data.toList, f.data.toList, ep, bl rs, bl ws⟩ ∨ ((bl ss).length : Int) ≠ (⟨o.data.toList, f.data.toList, ep, bl rs, bl ws⟩ : Rt).ep + 1 ∨ ¬ (∀ t ∈ bl ss, right t = true)) → zz = (mzero, 1)) := zh fun h => by rw [← hzz]; unfold build; rw [if_pos h]
  rw [hzz]
  have hep1 := hf.2.2.2.2.2.2.1
  have hep2 := hf.2.2.2.2.2.2.2
  simp only at hep1 hep2
  clear hA hB hS hK hzz
  unfold RV at HRC ⊢
  cases h1 : right secret.data.toList with
  | false =>
    obtain rfl : zz = (mzero, 1) := HZE.out (.inl (by rw [h1]; decide))
    rw [h1] at HT1
    go_enter Tryz.func68, Tryz.ntmps68
    go_wp2_with fail
    have hbx := bx_alloc w o f ep A rs.length c B ws.length d 48
    have hb1 := al w (.cells #[.string o, .string f, .int .i64 ep, .slice A rs.length c, .slice B ws.length d] 48)
    have hb2 := al (w.alloc (.cells #[.string o, .string f, .int .i64 ep, .slice A rs.length c, .slice B ws.length d] 48)) (.cells #[.string ⟨#[]⟩, .string ⟨#[]⟩, .int .i64 0, .slice none 0 0, .slice none 0 0, .int .u64 0, .slice none 0 0, .slice none 0 0, .string ⟨#[]⟩] 60)
    have hrs := rs_alloc (w.alloc (.cells #[.string o, .string f, .int .i64 ep, .slice A rs.length c, .slice B ws.length d] 48)) 60
    have hz1 : (w.alloc (.cells #[.string o, .string f, .int .i64 ep, .slice A rs.length c, .slice B ws.length d] 48)).heap.size = w.heap.size + 1 := by simp
    rw [hz1] at hrs; have HB := zh (Bel.call hb1 hb2); have HX := zh (hbx.below hb2 (bx_lt hbx)); have HRS := zh hrs; clear hbx hb1 hb2 hrs hz1; obtain ⟨gr, hgr⟩ : ∃ n, w.heap.size = n := ⟨_, rfl⟩; have HGR := zh hgr
    generalize ((w.alloc (.cells #[.string o, .string f, .int .i64 ep, .slice A rs.length c, .slice B ws.length d] 48)).alloc (.cells #[.string ⟨#[]⟩, .string ⟨#[]⟩, .int .i64 0, .slice none 0 0, .slice none 0 0, .int .u64 0, .slice none 0 0, .slice none 0 0, .string ⟨#[]⟩] 60)) = w2 at HB HX HRS ⊢
    rw [hgr] at HX HRS ⊢; clear hgr; (with_reducible refine (HT1.out _).mono ?_); rintro e w3 ⟨rfl, hb3⟩; have HB := zh (Bel.call HB.out hb3); have HX := zh (HX.out.below hb3 (bx_lt HX.out)); have HRS := zh (HRS.out.call hb3); clear hb3; dsimp only; obtain ⟨⟨⟨r0, r1, r2, r3, r4, r5, r6, r7, r8⟩, _⟩, ⟨f0, f1, f2, f3, f4, f5, f6, f7, f8⟩⟩ := HRS.out
    go_wp2
    refine bodyPost_ret (v := .tuple #[.agg #[.string ⟨#[]⟩, .string ⟨#[]⟩, .int .i64 0, .slice none 0 0, .slice none 0 0, .int .u64 0, .slice none 0 0, .slice none 0 0, .string ⟨#[]⟩], .int .i64 1]) (by simp [results, Tryz.results68, go_sem, r0, r1, r2, r3, r4, r5, r6, r7, r8]) rfl ?_
    exact ⟨⟨_, isM_zero _ _, sepM_zero _, rfl⟩, set9 HB.out (by rw [HGR.out]; omega)⟩
  | true =>
    rw [h1] at HT1
    cases h2 : right root.data.toList with
    | false =>
      obtain rfl : zz = (mzero, 1) := HZE.out (.inr (.inl (by rw [h2]; decide)))
      rw [h2] at HT2
      go_enter Tryz.func68, Tryz.ntmps68
      go_wp2_with fail
      have hbx := bx_alloc w o f ep A rs.length c B ws.length d 48
      have hb1 := al w (.cells #[.string o, .string f, .int .i64 ep, .slice A rs.length c, .slice B ws.length d] 48)
      have hb2 := al (w.alloc (.cells #[.string o, .string f, .int .i64 ep, .slice A rs.length c, .slice B ws.length d] 48)) (.cells #[.string ⟨#[]⟩, .string ⟨#[]⟩, .int .i64 0, .slice none 0 0, .slice none 0 0, .int .u64 0, .slice none 0 0, .slice none 0 0, .string ⟨#[]⟩] 60)
      have hrs := rs_alloc (w.alloc (.cells #[.string o, .string f, .int .i64 ep, .slice A rs.length c, .slice B ws.length d] 48)) 60
      have hz1 : (w.alloc (.cells #[.string o, .string f, .int .i64 ep, .slice A rs.length c, .slice B ws.length d] 48)).heap.size = w.heap.size + 1 := by simp
      rw [hz1] at hrs; have HB := zh (Bel.call hb1 hb2); have HX := zh (hbx.below hb2 (bx_lt hbx)); have HRS := zh hrs; clear hbx hb1 hb2 hrs hz1; obtain ⟨gr, hgr⟩ : ∃ n, w.heap.size = n := ⟨_, rfl⟩; have HGR := zh hgr
      generalize ((w.alloc (.cells #[.string o, .string f, .int .i64 ep, .slice A rs.length c, .slice B ws.length d] 48)).alloc (.cells #[.string ⟨#[]⟩, .string ⟨#[]⟩, .int .i64 0, .slice none 0 0, .slice none 0 0, .int .u64 0, .slice none 0 0, .slice none 0 0, .string ⟨#[]⟩] 60)) = w2 at HB HX HRS ⊢
      rw [hgr] at HX HRS ⊢; clear hgr; (with_reducible refine (HT1.out _).mono ?_); rintro e w3 ⟨rfl, hb3⟩; have HB := zh (Bel.call HB.out hb3); have HX := zh (HX.out.below hb3 (bx_lt HX.out)); have HRS := zh (HRS.out.call hb3); clear hb3; dsimp only
      go_wp2_with fail
      (with_reducible refine (HT2.out _).mono ?_); rintro e w4 ⟨rfl, hb4⟩; have HB := zh (Bel.call HB.out hb4); have HX := zh (HX.out.below hb4 (bx_lt HX.out)); have HRS := zh (HRS.out.call hb4); clear hb4; dsimp only; obtain ⟨⟨⟨r0, r1, r2, r3, r4, r5, r6, r7, r8⟩, _⟩, ⟨f0, f1, f2, f3, f4, f5, f6, f7, f8⟩⟩ := HRS.out
      go_wp2
      refine bodyPost_ret (v := .tuple #[.agg #[.string ⟨#[]⟩, .string ⟨#[]⟩, .int .i64 0, .slice none 0 0, .slice none 0 0, .int .u64 0, .slice none 0 0, .slice none 0 0, .string ⟨#[]⟩], .int .i64 1]) (by simp [results, Tryz.results68, go_sem, r0, r1, r2, r3, r4, r5, r6, r7, r8]) rfl ?_
      exact ⟨⟨_, isM_zero _ _, sepM_zero _, rfl⟩, set9 HB.out (by rw [HGR.out]; omega)⟩
    | true =>
      rw [h2] at HT2
      by_cases hr : RR ⟨o.data.toList, f.data.toList, ep, bl rs, bl ws⟩
      case neg =>
        obtain rfl : zz = (mzero, 1) := HZE.out (.inr (.inr (.inl hr)))
        rw [decide_eq_false hr] at HRC
        go_enter Tryz.func68, Tryz.ntmps68
        go_wp2_with fail
        have hbx := bx_alloc w o f ep A rs.length c B ws.length d 48
        have hb1 := al w (.cells #[.string o, .string f, .int .i64 ep, .slice A rs.length c, .slice B ws.length d] 48)
        have hb2 := al (w.alloc (.cells #[.string o, .string f, .int .i64 ep, .slice A rs.length c, .slice B ws.length d] 48)) (.cells #[.string ⟨#[]⟩, .string ⟨#[]⟩, .int .i64 0, .slice none 0 0, .slice none 0 0, .int .u64 0, .slice none 0 0, .slice none 0 0, .string ⟨#[]⟩] 60)
        have hrs := rs_alloc (w.alloc (.cells #[.string o, .string f, .int .i64 ep, .slice A rs.length c, .slice B ws.length d] 48)) 60
        have hz1 : (w.alloc (.cells #[.string o, .string f, .int .i64 ep, .slice A rs.length c, .slice B ws.length d] 48)).heap.size = w.heap.size + 1 := by simp
        rw [hz1] at hrs; have HB := zh (Bel.call hb1 hb2); have HX := zh (hbx.below hb2 (bx_lt hbx)); have HRS := zh hrs; clear hbx hb1 hb2 hrs hz1; obtain ⟨gr, hgr⟩ : ∃ n, w.heap.size = n := ⟨_, rfl⟩; have HGR := zh hgr
        generalize ((w.alloc (.cells #[.string o, .string f, .int .i64 ep, .slice A rs.length c, .slice B ws.length d] 48)).alloc (.cells #[.string ⟨#[]⟩, .string ⟨#[]⟩, .int .i64 0, .slice none 0 0, .slice none 0 0, .int .u64 0, .slice none 0 0, .slice none 0 0, .string ⟨#[]⟩] 60)) = w2 at HB HX HRS ⊢
        rw [hgr] at HX HRS ⊢; clear hgr; (with_reducible refine (HT1.out _).mono ?_); rintro e w3 ⟨rfl, hb3⟩; have HB := zh (Bel.call HB.out hb3); have HX := zh (HX.out.below hb3 (bx_lt HX.out)); have HRS := zh (HRS.out.call hb3); clear hb3; dsimp only
        go_wp2_with fail
        (with_reducible refine (HT2.out _).mono ?_); rintro e w4 ⟨rfl, hb4⟩; have HB := zh (Bel.call HB.out hb4); have HX := zh (HX.out.below hb4 (bx_lt HX.out)); have HRS := zh (HRS.out.call hb4); clear hb4; dsimp only; obtain ⟨x0, x1, x2, x3, x4, _⟩ := HX.out
        go_wp2_with fail
        clear x0 x1 x2 x3 x4; (with_reducible refine (HRC.out _ (HA.out.below HB.out zl) (HBB.out.below HB.out zl)).mono ?_); rintro e w5 ⟨rfl, hb5⟩; have HB := zh (Bel.call HB.out hb5); have HX := zh (HX.out.below hb5 (bx_lt HX.out)); have HRS := zh (HRS.out.call hb5); clear hb5; dsimp only; obtain ⟨⟨⟨r0, r1, r2, r3, r4, r5, r6, r7, r8⟩, _⟩, ⟨f0, f1, f2, f3, f4, f5, f6, f7, f8⟩⟩ := HRS.out
        go_wp2
        refine bodyPost_ret (v := .tuple #[.agg #[.string ⟨#[]⟩, .string ⟨#[]⟩, .int .i64 0, .slice none 0 0, .slice none 0 0, .int .u64 0, .slice none 0 0, .slice none 0 0, .string ⟨#[]⟩], .int .i64 1]) (by simp [results, Tryz.results68, go_sem, r0, r1, r2, r3, r4, r5, r6, r7, r8]) rfl ?_
        exact ⟨⟨_, isM_zero _ _, sepM_zero _, rfl⟩, set9 HB.out (by rw [HGR.out]; omega)⟩
      rw [decide_eq_true hr] at HRC
      have hep3 := hr.2.2.1
      simp only at hep3
      have hw1 : IntKind.i64.wrap (ep + 1) = ep + 1 := by rw [IntKind.wrap_i64]; omega
      by_cases hl : (ss.length : Int) = ep + 1
      case neg =>
        obtain rfl : zz = (mzero, 1) := HZE.out (.inr (.inr (.inr (.inl (by rw [bl_len]; exact hl)))))
        have q : ((ss.length : Int) != ep + 1) = true := by simpa using hl
        go_enter Tryz.func68, Tryz.ntmps68
        go_wp2_with fail
        have hbx := bx_alloc w o f ep A rs.length c B ws.length d 48
        have hb1 := al w (.cells #[.string o, .string f, .int .i64 ep, .slice A rs.length c, .slice B ws.length d] 48)
        have hb2 := al (w.alloc (.cells #[.string o, .string f, .int .i64 ep, .slice A rs.length c, .slice B ws.length d] 48)) (.cells #[.string ⟨#[]⟩, .string ⟨#[]⟩, .int .i64 0, .slice none 0 0, .slice none 0 0, .int .u64 0, .slice none 0 0, .slice none 0 0, .string ⟨#[]⟩] 60)
        have hrs := rs_alloc (w.alloc (.cells #[.string o, .string f, .int .i64 ep, .slice A rs.length c, .slice B ws.length d] 48)) 60
        have hz1 : (w.alloc (.cells #[.string o, .string f, .int .i64 ep, .slice A rs.length c, .slice B ws.length d] 48)).heap.size = w.heap.size + 1 := by simp
        rw [hz1] at hrs; have HB := zh (Bel.call hb1 hb2); have HX := zh (hbx.below hb2 (bx_lt hbx)); have HRS := zh hrs; clear hbx hb1 hb2 hrs hz1; obtain ⟨gr, hgr⟩ : ∃ n, w.heap.size = n := ⟨_, rfl⟩; have HGR := zh hgr
        generalize ((w.alloc (.cells #[.string o, .string f, .int .i64 ep, .slice A rs.length c, .slice B ws.length d] 48)).alloc (.cells #[.string ⟨#[]⟩, .string ⟨#[]⟩, .int .i64 0, .slice none 0 0, .slice none 0 0, .int .u64 0, .slice none 0 0, .slice none 0 0, .string ⟨#[]⟩] 60)) = w2 at HB HX HRS ⊢
        rw [hgr] at HX HRS ⊢; clear hgr; (with_reducible refine (HT1.out _).mono ?_); rintro e w3 ⟨rfl, hb3⟩; have HB := zh (Bel.call HB.out hb3); have HX := zh (HX.out.below hb3 (bx_lt HX.out)); have HRS := zh (HRS.out.call hb3); clear hb3; dsimp only
        go_wp2_with fail
        (with_reducible refine (HT2.out _).mono ?_); rintro e w4 ⟨rfl, hb4⟩; have HB := zh (Bel.call HB.out hb4); have HX := zh (HX.out.below hb4 (bx_lt HX.out)); have HRS := zh (HRS.out.call hb4); clear hb4; dsimp only; obtain ⟨x0, x1, x2, x3, x4, _⟩ := HX.out
        go_wp2_with fail
        clear x0 x1 x2 x3 x4; (with_reducible refine (HRC.out _ (HA.out.below HB.out zl) (HBB.out.below HB.out zl)).mono ?_); rintro e w5 ⟨rfl, hb5⟩; have HB := zh (Bel.call HB.out hb5); have HX := zh (HX.out.below hb5 (bx_lt HX.out)); have HRS := zh (HRS.out.call hb5); clear hb5; dsimp only; obtain ⟨x0, x1, x2, x3, x4, _⟩ := HX.out; obtain ⟨⟨⟨r0, r1, r2, r3, r4, r5, r6, r7, r8⟩, _⟩, ⟨f0, f1, f2, f3, f4, f5, f6, f7, f8⟩⟩ := HRS.out
        go_wp2
        refine bodyPost_ret (v := .tuple #[.agg #[.string ⟨#[]⟩, .string ⟨#[]⟩, .int .i64 0, .slice none 0 0, .slice none 0 0, .int .u64 0, .slice none 0 0, .slice none 0 0, .string ⟨#[]⟩], .int .i64 1]) (by simp [results, Tryz.results68, go_sem, r0, r1, r2, r3, r4, r5, r6, r7, r8]) rfl ?_
        exact ⟨⟨_, isM_zero _ _, sepM_zero _, rfl⟩, set9 HB.out (by rw [HGR.out]; omega)⟩
      have q : ((ss.length : Int) != ep + 1) = false := by simpa using hl
      by_cases ha : ∀ t ∈ bl ss, right t = true
      case neg =>
        obtain rfl : zz = (mzero, 1) := HZE.out (.inr (.inr (.inr (.inr ha))))
        rw [decide_eq_false ha] at HALL
        go_enter Tryz.func68, Tryz.ntmps68
        go_wp2_with fail
        have hbx := bx_alloc w o f ep A rs.length c B ws.length d 48
        have hb1 := al w (.cells #[.string o, .string f, .int .i64 ep, .slice A rs.length c, .slice B ws.length d] 48)
        have hb2 := al (w.alloc (.cells #[.string o, .string f, .int .i64 ep, .slice A rs.length c, .slice B ws.length d] 48)) (.cells #[.string ⟨#[]⟩, .string ⟨#[]⟩, .int .i64 0, .slice none 0 0, .slice none 0 0, .int .u64 0, .slice none 0 0, .slice none 0 0, .string ⟨#[]⟩] 60)
        have hrs := rs_alloc (w.alloc (.cells #[.string o, .string f, .int .i64 ep, .slice A rs.length c, .slice B ws.length d] 48)) 60
        have hz1 : (w.alloc (.cells #[.string o, .string f, .int .i64 ep, .slice A rs.length c, .slice B ws.length d] 48)).heap.size = w.heap.size + 1 := by simp
        rw [hz1] at hrs; have HB := zh (Bel.call hb1 hb2); have HX := zh (hbx.below hb2 (bx_lt hbx)); have HRS := zh hrs; clear hbx hb1 hb2 hrs hz1; obtain ⟨gr, hgr⟩ : ∃ n, w.heap.size = n := ⟨_, rfl⟩; have HGR := zh hgr
        generalize ((w.alloc (.cells #[.string o, .string f, .int .i64 ep, .slice A rs.length c, .slice B ws.length d] 48)).alloc (.cells #[.string ⟨#[]⟩, .string ⟨#[]⟩, .int .i64 0, .slice none 0 0, .slice none 0 0, .int .u64 0, .slice none 0 0, .slice none 0 0, .string ⟨#[]⟩] 60)) = w2 at HB HX HRS ⊢
        rw [hgr] at HX HRS ⊢; clear hgr; (with_reducible refine (HT1.out _).mono ?_); rintro e w3 ⟨rfl, hb3⟩; have HB := zh (Bel.call HB.out hb3); have HX := zh (HX.out.below hb3 (bx_lt HX.out)); have HRS := zh (HRS.out.call hb3); clear hb3; dsimp only
        go_wp2_with fail
        (with_reducible refine (HT2.out _).mono ?_); rintro e w4 ⟨rfl, hb4⟩; have HB := zh (Bel.call HB.out hb4); have HX := zh (HX.out.below hb4 (bx_lt HX.out)); have HRS := zh (HRS.out.call hb4); clear hb4; dsimp only; obtain ⟨x0, x1, x2, x3, x4, _⟩ := HX.out
        go_wp2_with fail
        clear x0 x1 x2 x3 x4; (with_reducible refine (HRC.out _ (HA.out.below HB.out zl) (HBB.out.below HB.out zl)).mono ?_); rintro e w5 ⟨rfl, hb5⟩; have HB := zh (Bel.call HB.out hb5); have HX := zh (HX.out.below hb5 (bx_lt HX.out)); have HRS := zh (HRS.out.call hb5); clear hb5; dsimp only; obtain ⟨x0, x1, x2, x3, x4, _⟩ := HX.out
        go_wp2_with fail
        clear x0 x1 x2 x3 x4; (with_reducible refine (HALL.out _ (HS.out.below HB.out zl)).mono ?_); rintro e w6 ⟨rfl, hb6⟩; have HB := zh (Bel.call HB.out hb6); have HX := zh (HX.out.below hb6 (bx_lt HX.out)); have HRS := zh (HRS.out.call hb6); clear hb6; dsimp only; obtain ⟨⟨⟨r0, r1, r2, r3, r4, r5, r6, r7, r8⟩, _⟩, ⟨f0, f1, f2, f3, f4, f5, f6, f7, f8⟩⟩ := HRS.out
        go_wp2
        refine bodyPost_ret (v := .tuple #[.agg #[.string ⟨#[]⟩, .string ⟨#[]⟩, .int .i64 0, .slice none 0 0, .slice none 0 0, .int .u64 0, .slice none 0 0, .slice none 0 0, .string ⟨#[]⟩], .int .i64 1]) (by simp [results, Tryz.results68, go_sem, r0, r1, r2, r3, r4, r5, r6, r7, r8]) rfl ?_
        exact ⟨⟨_, isM_zero _ _, sepM_zero _, rfl⟩, set9 HB.out (by rw [HGR.out]; omega)⟩
      rw [decide_eq_true ha] at HALL
      have HZC : Hid (zz = buildC secret.data.toList ⟨o.data.toList, f.data.toList, ep, bl rs, bl ws⟩ ver root.data.toList (bl ss) (pl ks)) := zh (by
        rw [← HZ.out]
        refine buildC_is ?_
        rintro (h | h | h | h | h)
        · exact h h1
        · exact h h2
        · exact h hr
        · exact h (by rw [bl_len]; exact hl)
        · exact h ha)
      have hol : (oth ⟨o.data.toList, f.data.toList, ep, bl rs, bl ws⟩).length ≤ 5 := by
        rw [oth_len]
        exact hr.2.2.2.1
      have HOT := zh fun w h3 h4 => others_any o f ep A c rs B d ws w h3 h4 hna hnb hr
      unfold RV at HOT
      have HRR := zh hr; have HHA := zh ha; have HLL := zh hl; clear HZE HZ h1 h2 ha hl; obtain ⟨en, hen⟩ : ∃ n : Nat, ep = (n : Int) := ⟨ep.toNat, by omega⟩
      subst hen
      go_enter Tryz.func68, Tryz.ntmps68
      go_wp2_with fail
      have hbx := bx_alloc w o f (en : Int) A rs.length c B ws.length d 48
      have hb1 := al w (.cells #[.string o, .string f, .int .i64 (en : Int), .slice A rs.length c, .slice B ws.length d] 48)
      have hb2 := al (w.alloc (.cells #[.string o, .string f, .int .i64 (en : Int), .slice A rs.length c, .slice B ws.length d] 48)) (.cells #[.string ⟨#[]⟩, .string ⟨#[]⟩, .int .i64 0, .slice none 0 0, .slice none 0 0, .int .u64 0, .slice none 0 0, .slice none 0 0, .string ⟨#[]⟩] 60)
      have hrs := rs_alloc (w.alloc (.cells #[.string o, .string f, .int .i64 (en : Int), .slice A rs.length c, .slice B ws.length d] 48)) 60
      have hz1 : (w.alloc (.cells #[.string o, .string f, .int .i64 (en : Int), .slice A rs.length c, .slice B ws.length d] 48)).heap.size = w.heap.size + 1 := by simp
      rw [hz1] at hrs; have HB := zh (Bel.call hb1 hb2); have HX := zh (hbx.below hb2 (bx_lt hbx)); have HRS := zh hrs; clear hbx hb1 hb2 hrs hz1; obtain ⟨gr, hgr⟩ : ∃ n, w.heap.size = n := ⟨_, rfl⟩; have HGR := zh hgr
      generalize ((w.alloc (.cells #[.string o, .string f, .int .i64 (en : Int), .slice A rs.length c, .slice B ws.length d] 48)).alloc (.cells #[.string ⟨#[]⟩, .string ⟨#[]⟩, .int .i64 0, .slice none 0 0, .slice none 0 0, .int .u64 0, .slice none 0 0, .slice none 0 0, .string ⟨#[]⟩] 60)) = w2 at HB HX HRS ⊢
      rw [hgr] at HX HRS ⊢; clear hgr; (with_reducible refine (HT1.out _).mono ?_); rintro e w3 ⟨rfl, hb3⟩; have HB := zh (Bel.call HB.out hb3); have HX := zh (HX.out.below hb3 (bx_lt HX.out)); have HRS := zh (HRS.out.call hb3); clear hb3; dsimp only
      go_wp2_with fail
      (with_reducible refine (HT2.out _).mono ?_); rintro e w4 ⟨rfl, hb4⟩; have HB := zh (Bel.call HB.out hb4); have HX := zh (HX.out.below hb4 (bx_lt HX.out)); have HRS := zh (HRS.out.call hb4); clear hb4; dsimp only; obtain ⟨x0, x1, x2, x3, x4, _⟩ := HX.out
      go_wp2_with fail
      clear x0 x1 x2 x3 x4; (with_reducible refine (HRC.out _ (HA.out.below HB.out zl) (HBB.out.below HB.out zl)).mono ?_); rintro e w5 ⟨rfl, hb5⟩; have HB := zh (Bel.call HB.out hb5); have HX := zh (HX.out.below hb5 (bx_lt HX.out)); have HRS := zh (HRS.out.call hb5); clear hb5; dsimp only; obtain ⟨x0, x1, x2, x3, x4, _⟩ := HX.out
      go_wp2_with fail
      clear x0 x1 x2 x3 x4; (with_reducible refine (HALL.out _ (HS.out.below HB.out zl)).mono ?_); rintro e w6 ⟨rfl, hb6⟩; have HB := zh (Bel.call HB.out hb6); have HX := zh (HX.out.below hb6 (bx_lt HX.out)); have HRS := zh (HRS.out.call hb6); clear hb6; dsimp only; obtain ⟨x0, x1, x2, x3, x4, _⟩ := HX.out
      go_wp2_with fail
      clear x0 x1 x2 x3 x4; (with_reducible refine (HOT.out _ (HA.out.below HB.out zl) (HBB.out.below HB.out zl)).mono ?_); rintro e w7 ⟨⟨U2, c2, us, hus, hc2, hu2, hf2, rfl⟩, hb7⟩; have HB := zh (Bel.call HB.out hb7); have HX := zh (HX.out.below hb7 (bx_lt HX.out)); have HRS := zh (HRS.out.call hb7); have HUS := zh hus; have HU := zh hu2
      have husl : us.length ≤ 5 := by rw [← bl_len us, hus]; exact hol
      clear hus hc2 hu2 hf2; clear hb7; dsimp only
      have had := addressees_any U2 c2 us K ck ks w7 HU.out (by omega) (HK.out.below HB.out zl) (by omega) fun y hy => by have := (hkz y hy).2; omega
      rw [HUS.out] at had; obtain ⟨to, ea, hto⟩ : ∃ t e, adr (pl ks) (oth ⟨o.data.toList, f.data.toList, (en : Int), bl rs, bl ws⟩) = (t, e) := ⟨_, _, rfl⟩
      have hadl := adr_small (pl ks) (oth ⟨o.data.toList, f.data.toList, (en : Int), bl rs, bl ws⟩)
      rw [hto] at had hadl
      simp only at hadl
      have HTO := zh hto; have HAD := zh had; have HADL := zh hadl; clear had hto hadl
      go_wp2_with fail
      (with_reducible refine (HAD.out).mono ?_); rintro e w8 ⟨⟨T3, c3, ks3, hk3, hc3, hr3, ho3, rfl⟩, hb8⟩; have HB := zh (Bel.call HB.out hb8); have HX := zh (HX.out.below hb8 (bx_lt HX.out)); have HRS := zh (HRS.out.call hb8); dsimp only at hk3; have HK3 := zh hk3; have HR3 := zh hr3
      have HTL : Hid (∀ b off, T3 = some ⟨b, off, none⟩ → 0 < ks3.length → b < w8.heap.size) := zh fun b off e h0 => preads_lt hr3 e h0
      clear hk3 hc3 hr3 ho3 HAD; clear hb8; dsimp only
      by_cases h_ea : ea = 0
      case neg =>
        have q : (ea != 0) = true := by simpa using h_ea
        obtain rfl : zz = (mzero, ea) := by rw [HZC.out]; unfold buildC; rw [HTO.out]; simp only; rw [if_pos h_ea]
        obtain ⟨⟨⟨r0, r1, r2, r3, r4, r5, r6, r7, r8⟩, _⟩, ⟨f0, f1, f2, f3, f4, f5, f6, f7, f8⟩⟩ := HRS.out
        go_wp2
        refine bodyPost_ret (v := .tuple #[.agg #[.string ⟨#[]⟩, .string ⟨#[]⟩, .int .i64 0, .slice none 0 0, .slice none 0 0, .int .u64 0, .slice none 0 0, .slice none 0 0, .string ⟨#[]⟩], .int .i64 ea]) (by simp [results, Tryz.results68, go_sem, r0, r1, r2, r3, r4, r5, r6, r7, r8]) rfl ?_
        exact ⟨⟨_, isM_zero _ _, sepM_zero _, rfl⟩, set9 HB.out (by rw [HGR.out]; omega)⟩
      subst h_ea
      have HRES := zh (rs_lt HRS.out)
      have hl1 := hf.2.2.1
      have hl2 := hf.2.2.2.1
      simp only [bl_len] at hl1 hl2
      have HAP := zh fun w h3 h4 => mapart_any o f (en : Int) A c rs B d ws w h3 h4 hl1 hl2 hna hnb
      unfold RV at HAP
      obtain ⟨x0, x1, x2, x3, x4, _⟩ := HX.out
      go_wp2_with fail
      clear x0 x1 x2 x3 x4; (with_reducible refine (HAP.out _ (HA.out.below HB.out zl) (HBB.out.below HB.out zl)).mono ?_); rintro e w9 ⟨⟨X1, k1, X2, k2, hs1, hs2, hc1, hc4, hu1, hu4, rfl⟩, hb9⟩; have HB := zh (Bel.call HB.out hb9); have HX := zh (HX.out.below hb9 (bx_lt HX.out)); have HRS := zh (HRS.out.call hb9); have HR3 := zh (HR3.out.below hb9 zl)
      have HTL := zh fun b off e h0 => Nat.lt_of_lt_of_le (HTL.out b off e h0) hb9.size
      have HGL := zh hb9.size; clear hb9; dsimp only
      have hba := al w9 (.cells #[.string o, .string f, .int .i64 (en : Int), .slice X1 rs.length k1, .slice X2 ws.length k2, .int .u64 (ver : Int), .slice none 0 0, .slice none 0 0, .string ⟨#[]⟩] 60)
      have hsa : (w9.alloc (.cells #[.string o, .string f, .int .i64 (en : Int), .slice X1 rs.length k1, .slice X2 ws.length k2, .int .u64 (ver : Int), .slice none 0 0, .slice none 0 0, .string ⟨#[]⟩] 60)).heap.size = w9.heap.size + 1 := by simp
      have HM := zh (mx_alloc w9 o f (en : Int) X1 rs.length k1 X2 ws.length k2 ver none 0 0 none 0 0 ⟨#[]⟩ 60); have HM9 := zh (sf9_alloc w9 #[.string o, .string f, .int .i64 (en : Int), .slice X1 rs.length k1, .slice X2 ws.length k2, .int .u64 (ver : Int), .slice none 0 0, .slice none 0 0, .string ⟨#[]⟩] 60); have HS1 := zh (hs1.below hba zl); have HS2 := zh (hs2.below hba zl); have HR3 := zh (HR3.out.below hba zl); have HC1 := zh hc1; have HC4 := zh hc4
      have HU1 : Hid (∀ b off, X1 = some ⟨b, off, none⟩ → w8.heap.size ≤ b ∧ b < w9.heap.size) := zh hu1
      have HU4 : Hid (∀ b off, X2 = some ⟨b, off, none⟩ → w8.heap.size ≤ b ∧ b < w9.heap.size) := zh hu4
      have HGM : Hid (gr + 1 < w9.heap.size) := zh (rs_lt HRS.out)
      go_wp2_with fail
      have HB := zh (Bel.call HB.out hba); have HX := zh (HX.out.below hba (bx_lt HX.out)); have HRS := zh (HRS.out.call hba); clear hba hs1 hs2 hc1 hc4 hu1 hu4; obtain ⟨gm, hgm⟩ : ∃ n, w9.heap.size = n := ⟨_, rfl⟩
      generalize w9.alloc (.cells #[.string o, .string f, .int .i64 (en : Int), .slice X1 rs.length k1, .slice X2 ws.length k2, .int .u64 (ver : Int), .slice none 0 0, .slice none 0 0, .string ⟨#[]⟩] 60) = wm at HB HX HRS HM HM9 HS1 HS2 HR3 hsa ⊢
      rw [hgm] at HM HM9 HU1 HU4 HGM HTL HGL hsa ⊢; clear hgm; have HSZ := zh hsa; clear hsa
      have HBG : Hid (w.heap.size ≤ gm) := zh (by have := HGM.out; have := HGR.out; omega)
      obtain ⟨vl, ev, hvf⟩ : ∃ v e, vfs (bl ss) = (v, e) := ⟨_, _, rfl⟩
      have hvs := vfs_small (bl ss)
      have HPB := zh fun w h => publics_any S cs ss w h (by omega) fun y hy => by have := hsz y hy; omega
      rw [hvf] at HPB hvs
      simp only at hvs
      have HVS := zh hvs; have HVF := zh hvf; clear hvs hvf; (with_reducible refine (HPB.out _ (HS.out.below HB.out zl)).mono ?_); rintro e w10 ⟨⟨V, cv, vs, hv, hcv, hrv, hov, rfl⟩, hb10⟩; have HB := zh (Bel.call HB.out hb10); have HX := zh (HX.out.below hb10 (bx_lt HX.out)); have HRS := zh (HRS.out.call hb10)
      have HMo := HM
      have HM := zh (HM.out.call hb10); have HM9 := zh (HM9.out.below hb10 HMo.out.2); have HS1 := zh (HS1.out.below hb10 zl); have HS2 := zh (HS2.out.below hb10 zl); have HR3 := zh (HR3.out.below hb10 zl); have HMlt := zh HMo.out.2; dsimp only at hv; have HV := zh hv; have HCV := zh hcv; have HRV := zh hrv; have HOV := zh hov; clear hv hcv hrv hov; clear hb10; dsimp only; obtain ⟨⟨m0, m1, m2, m3, m4, m5, m6, m7, m8⟩, _⟩ := HM.out; obtain ⟨g0, g1, g2, g3, g4, g5, g6, g7, g8⟩ := HM9.out
      have hne : gr + 1 ≠ gm := by have := HGM.out; omega
      have hnr : gr ≠ gm := by have := HGM.out; omega
      have HRS := zh (rs_set (j := 6) (v := .slice V vs.length cv) HRS.out hne); have HX := zh (bx_set (j := 6) (v := .slice V vs.length cv) HX.out hnr); have HB := zh (HB.out.setCell (p := ⟨gm, 6, none⟩) HBG.out (.slice V vs.length cv))
      have p1 : ∀ b off, X1 = some ⟨b, off, none⟩ → b ≠ gm := fun b off e => by have := (HU1.out b off e).2; omega
      have p2 : ∀ b off, X2 = some ⟨b, off, none⟩ → b ≠ gm := fun b off e => by have := (HU4.out b off e).2; omega
      have HS1 := zh (sreads_set (j := 6) (v := .slice V vs.length cv) HS1.out p1); have HS2 := zh (sreads_set (j := 6) (v := .slice V vs.length cv) HS2.out p2)
      have pv : ∀ b off, V = some ⟨b, off, none⟩ → b ≠ gm := fun b off e => by have := (HOV.out b off e).1; have := HSZ.out; omega
      have HRV := zh (sreads_set (j := 6) (v := .slice V vs.length cv) HRV.out pv); have HOV := zh (own1_set (G := gm) (j := 6) (v := .slice V vs.length cv) HOV.out); have HR3 := zh (preads_setL (R := gm) (j := 6) (v := .slice V vs.length cv) HR3.out fun b off e h0 => by have := HTL.out b off e h0; omega); have HMs := zh (mx_set6 HM.out V vs.length cv); have HM9s := zh (sf9_set (G := gm) (j := 6) (v := .slice V vs.length cv) HM9.out)
      by_cases h_ev : ev = 0
      case neg =>
        have q : (ev != 0) = true := by simpa using h_ev
        obtain rfl : zz = (mzero, ev) := by rw [HZC.out]; unfold buildC; rw [HTO.out]; simp only; rw [if_neg (by simp), HVF.out]; simp only; rw [if_pos h_ev]
        obtain ⟨⟨⟨r0, r1, r2, r3, r4, r5, r6, r7, r8⟩, _⟩, ⟨f0, f1, f2, f3, f4, f5, f6, f7, f8⟩⟩ := HRS.out
        go_wp2
        refine bodyPost_ret (v := .tuple #[.agg #[.string ⟨#[]⟩, .string ⟨#[]⟩, .int .i64 0, .slice none 0 0, .slice none 0 0, .int .u64 0, .slice none 0 0, .slice none 0 0, .string ⟨#[]⟩], .int .i64 ev]) (by simp [results, Tryz.results68, go_sem, r0, r1, r2, r3, r4, r5, r6, r7, r8]) rfl ?_
        exact ⟨⟨_, isM_zero _ _, sepM_zero _, rfl⟩, set9 HB.out (by rw [HGR.out]; omega)⟩
      subst h_ev
      go_wp2_with fail
      clear m0 m1 m2 m3 m4 m5 m6 m7 m8 g0 g1 g2 g3 g4 g5 g6 g7 g8 hne hnr p1 p2 pv
      have HM := HMs
      have HM9 := HM9s
      clear HMs HM9s
      generalize w10.setCell ⟨gm, 6, none⟩ (.slice V vs.length cv) = w20 at HB HX HRS HM HM9 HS1 HS2 HRV HOV HR3 ⊢
      have hss : en < ss.length := by have := HLL.out; omega
      obtain ⟨sb, so, hSe, hsb, hsc⟩ := HS.out en hss; obtain ⟨sg, hsg⟩ : ∃ y, ss.getD en ByteArray.empty = y := ⟨_, rfl⟩
      have hsgz : sg.size ≤ 10000 := hsz sg (by rw [← hsg]; simp [List.getD, hss])
      rw [hsg] at hsc
      subst hSe
      have HSG := zh hsg; have HSC := zh hsc; have HSB := zh hsb; clear hsg hsc hsb
      have i0 : (0 : Int) ≤ (en : Int) := by omega
      have i1 : (en : Int) < (ss.length : Int) := by have := HLL.out; omega
      have hk3l : ks3.length ≤ 5 := by have h1 := HADL.out.1; rw [← HK3.out, pl_len] at h1; omega
      have hk3z : ∀ y ∈ ks3, y.1.size ≤ 10000 ∧ y.2.size ≤ 10000 := fun y hy => by
        have h1 := HADL.out.2 _ (by rw [← HK3.out]; exact List.mem_map.2 ⟨y, hy, rfl⟩)
        obtain ⟨z, hz, e⟩ := List.mem_map.1 h1
        injection e with e1 e2
        have h3 := hkz z hz
        rw [str_eq e1, str_eq e2] at h3
        exact h3
      obtain ⟨bk, eb, hbk⟩ : ∃ b e, blksC ⟨o.data.toList, f.data.toList, (en : Int), bl rs, bl ws⟩ root.data.toList sg.data.toList to = (b, e) := ⟨_, _, rfl⟩
      have hbs := blksC_small ⟨o.data.toList, f.data.toList, (en : Int), bl rs, bl ws⟩ root.data.toList sg.data.toList to
      rw [hbk] at hbs
      simp only at hbs
      have HBKC := zh fun w h3 h4 h5 => blocks_any o f (en : Int) A c rs B d ws root sg T3 c3 ks3 w h3 h4 hf h5 (by omega) hk3z hroot hsgz
      unfold RV at HBKC
      rw [HK3.out, hbk] at HBKC; have HBS := zh hbs; have HBK := zh hbk; clear hbs hbk
      have hbe : (blksC ⟨o.data.toList, f.data.toList, (en : Int), bl rs, bl ws⟩ root.data.toList ((bl ss).getD (⟨o.data.toList, f.data.toList, (en : Int), bl rs, bl ws⟩ : Rt).ep.toNat []) to) = (bk, eb) := by
        rw [show (⟨o.data.toList, f.data.toList, (en : Int), bl rs, bl ws⟩ : Rt).ep.toNat = en from rfl, bl_getD, HSG.out]
        exact HBK.out
      have HBE := zh hbe; clear hbe
      have hdr : Below w20.heap.size w20 w20.drew := Below.drewN' (Below.refl _ _) 1
      have HB := zh (Bel.call HB.out hdr); have HX := zh (HX.out.below hdr (bx_lt HX.out)); have HRS := zh (HRS.out.call hdr)
      have HMo := HM
      have HM := zh (HM.out.call hdr); have HM9 := zh (HM9.out.below hdr HMo.out.2); have HS1 := zh (HS1.out.below hdr zl); have HS2 := zh (HS2.out.below hdr zl); have HR3 := zh (HR3.out.below hdr zl); have HRV := zh (HRV.out.below hdr zl); have HOV := zh (HOV.out.below hdr); clear hdr; obtain ⟨wd, hwd⟩ : ∃ W, w20.drew = W := ⟨_, rfl⟩
      refine wp_region_held_drew (S := fun w' => Below w.heap.size w w' ∧ Bx gr w' o f (en : Int) A rs.length c B ws.length d) (by kernel_rfl) ⟨HB.out, HX.out⟩ (fun hHeld => ?_)
      rw [hwd] at hHeld HB HX HRS HM HM9 HS1 HS2 HRV HOV HR3 ⊢; clear hwd; refine zqT 0 ?_ ?_ ?_; rotate_left
      · intro w' hSw; obtain ⟨hq1, ⟨x0, x1, x2, x3, x4, _⟩⟩ := hSw; have k0 := (hq1.cell (p := ⟨sb, so + en, none⟩) HSB.out).trans HSC.out; go_simp; try with_reducible rfl
      (try simp only [Act.put, zq1, zq2, zq3]); refine zqT 1 ?_ ?_ ?_; rotate_left
      · intro w' hSw; obtain ⟨hq1, ⟨x0, x1, x2, x3, x4, _⟩⟩ := hSw; have k0 := (hq1.cell (p := ⟨sb, so + en, none⟩) HSB.out).trans HSC.out; go_simp; try with_reducible rfl
      (try simp only [Act.put, zq1, zq2, zq3]); refine zqT 2 ?_ ?_ ?_; rotate_left
      · intro w' hSw; obtain ⟨hq1, ⟨x0, x1, x2, x3, x4, _⟩⟩ := hSw; have k0 := (hq1.cell (p := ⟨sb, so + en, none⟩) HSB.out).trans HSC.out; go_simp; try with_reducible rfl
      (try simp only [Act.put, zq1, zq2, zq3]); refine zqT 3 ?_ ?_ ?_; rotate_left
      · intro w' hSw; obtain ⟨hq1, ⟨x0, x1, x2, x3, x4, _⟩⟩ := hSw; have k0 := (hq1.cell (p := ⟨sb, so + en, none⟩) HSB.out).trans HSC.out; go_simp; try with_reducible rfl
      (try simp only [Act.put, zq1, zq2, zq3]); refine zqT 4 ?_ ?_ ?_; rotate_left
      · intro w' hSw; obtain ⟨hq1, ⟨x0, x1, x2, x3, x4, _⟩⟩ := hSw; have k0 := (hq1.cell (p := ⟨sb, so + en, none⟩) HSB.out).trans HSC.out; go_simp; try with_reducible rfl
      (try simp only [Act.put, zq1, zq2, zq3]); refine zqT 5 ?_ ?_ ?_; rotate_left
      · intro w' hSw; obtain ⟨hq1, ⟨x0, x1, x2, x3, x4, _⟩⟩ := hSw; have k0 := (hq1.cell (p := ⟨sb, so + en, none⟩) HSB.out).trans HSC.out; go_simp; try with_reducible rfl
      (try simp only [Act.put, zq1, zq2, zq3]); refine zqT 6 ?_ ?_ ?_; rotate_left
      · intro w' hSw; obtain ⟨hq1, ⟨x0, x1, x2, x3, x4, _⟩⟩ := hSw; have k0 := (hq1.cell (p := ⟨sb, so + en, none⟩) HSB.out).trans HSC.out; go_simp; try with_reducible rfl
      (try simp only [Act.put, zq1, zq2, zq3]); refine zqT 7 ?_ ?_ ?_; rotate_left
      · intro w' hSw; obtain ⟨hq1, ⟨x0, x1, x2, x3, x4, _⟩⟩ := hSw; have k0 := (hq1.cell (p := ⟨sb, so + en, none⟩) HSB.out).trans HSC.out; go_simp; try with_reducible rfl
      (try simp only [Act.put, zq1, zq2, zq3]); clear hHeld; refine zqR [8] ?_
      refine zqN fun K hK => ?_
      go_simp
      go_at_call 119
      (with_reducible refine (HBKC.out _ (HA.out.below HB.out zl) (HBB.out.below HB.out zl) HR3.out).mono ?_); rintro e w21 ⟨⟨KB, cb, kb, hkb, hcb, hrb, hob, rfl⟩, hb21⟩
      have HVB : Hid (∀ b off, V = some ⟨b, off, none⟩ → b < wd.heap.size) := zh fun b off e => (HOV.out b off e).2.1
      have HB := zh (Bel.call HB.out hb21); have HX := zh (HX.out.below hb21 (bx_lt HX.out)); have HRS := zh (HRS.out.call hb21)
      have HMo := HM
      have HM := zh (HM.out.call hb21); have HM9 := zh (HM9.out.below hb21 HMo.out.2); have HS1 := zh (HS1.out.below hb21 zl); have HS2 := zh (HS2.out.below hb21 zl); have HRV := zh (HRV.out.below hb21 zl); have HOV := zh (HOV.out.below hb21)
      have HGD : Hid (gm < wd.heap.size) := zh HMo.out.2
      dsimp only at hkb; have HKB := zh hkb; have HCB := zh hcb; have HRB := zh hrb; have HOB := zh hob; clear hb21 hkb hcb hrb hob HR3; refine hK.out _ _ ⟨HB.out, HX.out⟩ (fun hHeld => ?_); (try simp only [Act.put, zq1, zq2, zq3]); refine zqT 9 ?_ ?_ ?_; rotate_left
      · intro w' hSw; obtain ⟨hq1, ⟨x0, x1, x2, x3, x4, _⟩⟩ := hSw; have k0 := (hq1.cell (p := ⟨sb, so + en, none⟩) HSB.out).trans HSC.out; go_simp; try with_reducible rfl
      (try simp only [Act.put, zq1, zq2, zq3]); refine zqT 10 ?_ ?_ ?_; rotate_left
      · intro w' hSw; obtain ⟨hq1, ⟨x0, x1, x2, x3, x4, _⟩⟩ := hSw; have k0 := (hq1.cell (p := ⟨sb, so + en, none⟩) HSB.out).trans HSC.out; go_simp; try with_reducible rfl
      (try simp only [Act.put, zq1, zq2, zq3]); refine zqT 11 ?_ ?_ ?_; rotate_left
      · intro w' hSw; obtain ⟨hq1, ⟨x0, x1, x2, x3, x4, _⟩⟩ := hSw; have k0 := (hq1.cell (p := ⟨sb, so + en, none⟩) HSB.out).trans HSC.out; go_simp; try with_reducible rfl
      (try simp only [Act.put, zq1, zq2, zq3]); refine zqT 12 ?_ ?_ ?_; rotate_left
      · intro w' hSw; obtain ⟨hq1, ⟨x0, x1, x2, x3, x4, _⟩⟩ := hSw; have k0 := (hq1.cell (p := ⟨sb, so + en, none⟩) HSB.out).trans HSC.out; go_simp; try with_reducible rfl
      (try simp only [Act.put, zq1, zq2, zq3]); clear hHeld; obtain ⟨⟨m0, m1, m2, m3, m4, m5, m6, m7, m8⟩, _⟩ := HM.out; obtain ⟨g0, g1, g2, g3, g4, g5, g6, g7, g8⟩ := HM9.out
      have hne : gr + 1 ≠ gm := by have := HGM.out; omega
      have hnr : gr ≠ gm := by have := HGM.out; omega
      have HRS := zh (rs_set (j := 7) (v := .slice KB kb.length cb) HRS.out hne); have HX := zh (bx_set (j := 7) (v := .slice KB kb.length cb) HX.out hnr); have HB := zh (HB.out.setCell (p := ⟨gm, 7, none⟩) HBG.out (.slice KB kb.length cb))
      have p1 : ∀ b off, X1 = some ⟨b, off, none⟩ → b ≠ gm := fun b off e => by have := (HU1.out b off e).2; omega
      have p2 : ∀ b off, X2 = some ⟨b, off, none⟩ → b ≠ gm := fun b off e => by have := (HU4.out b off e).2; omega
      have HS1 := zh (sreads_set (j := 7) (v := .slice KB kb.length cb) HS1.out p1); have HS2 := zh (sreads_set (j := 7) (v := .slice KB kb.length cb) HS2.out p2)
      have pv : ∀ b off, V = some ⟨b, off, none⟩ → b ≠ gm := fun b off e => by have := (HOV.out b off e).1; have := HSZ.out; omega
      have pk : ∀ b off, KB = some ⟨b, off, none⟩ → b ≠ gm := fun b off e => by have := (HOB.out b off e).1; have := HGD.out; omega
      have HRV := zh (sreads_set (j := 7) (v := .slice KB kb.length cb) HRV.out pv); have HOV := zh (own1_set (G := gm) (j := 7) (v := .slice KB kb.length cb) HOV.out); have HRB := zh (preads_set (j := 7) (v := .slice KB kb.length cb) HRB.out pk); have HOB := zh (own1_set (G := gm) (j := 7) (v := .slice KB kb.length cb) HOB.out); have HMs := zh (mx_set7 HM.out KB kb.length cb); have HM9s := zh (sf9_set (G := gm) (j := 7) (v := .slice KB kb.length cb) HM9.out); refine zqR [13] ?_
      refine zqN fun K hK => ?_
      go_simp; refine hK.out _ _ ⟨HB.out, HX.out⟩ (fun hHeld => ?_); (try simp only [Act.put, zq1, zq2, zq3]); clear m0 m1 m2 m3 m4 m5 m6 m7 m8 g0 g1 g2 g3 g4 g5 g6 g7 g8 hne hnr p1 p2 pv pk
      have HM := HMs
      have HM9 := HM9s
      clear HMs HM9s
      generalize w21.setCell ⟨gm, 7, none⟩ (.slice KB kb.length cb) = w22 at hHeld HB HX HRS HM HM9 HS1 HS2 HRV HOV HRB HOB ⊢
      refine zqT 14 ?_ ?_ ?_; rotate_left
      · intro w' hSw; obtain ⟨hq1, ⟨x0, x1, x2, x3, x4, _⟩⟩ := hSw; have k0 := (hq1.cell (p := ⟨sb, so + en, none⟩) HSB.out).trans HSC.out; go_simp; try with_reducible rfl
      (try simp only [Act.put, zq1, zq2, zq3]); clear hHeld
      refine wpAnyH_done (by kernel_rfl) ?_ _
      by_cases h_eb : eb = 0
      case neg =>
        have q : (eb != 0) = true := by simpa using h_eb
        obtain rfl : zz = (mzero, eb) := by rw [HZC.out]; unfold buildC; rw [HTO.out]; simp only; rw [if_neg (by simp), HVF.out]; simp only; rw [if_neg (by simp), HBE.out]; simp only; rw [if_pos h_eb]
        obtain ⟨⟨⟨r0, r1, r2, r3, r4, r5, r6, r7, r8⟩, _⟩, ⟨f0, f1, f2, f3, f4, f5, f6, f7, f8⟩⟩ := HRS.out
        go_wp2
        refine bodyPost_ret (v := .tuple #[.agg #[.string ⟨#[]⟩, .string ⟨#[]⟩, .int .i64 0, .slice none 0 0, .slice none 0 0, .int .u64 0, .slice none 0 0, .slice none 0 0, .string ⟨#[]⟩], .int .i64 eb]) (by simp [results, Tryz.results68, go_sem, r0, r1, r2, r3, r4, r5, r6, r7, r8]) rfl ?_
        exact ⟨⟨_, isM_zero _ _, sepM_zero _, rfl⟩, set9 HB.out (by rw [HGR.out]; omega)⟩
      subst h_eb
      have hvl : vs.length ≤ 40 := by have h1 := HVS.out.1; rw [← HV.out, bl_len, bl_len] at h1; omega
      have hbl : kb.length ≤ 40 := by have h1 := HBS.out.1; rw [← HKB.out, pl_len, ← HK3.out, pl_len] at h1; omega
      have hfm : FewM ⟨⟨o.data.toList, f.data.toList, (en : Int), bl rs, bl ws⟩, ver, bl vs, pl kb, []⟩ := by
        refine ⟨hf, by simp only [bl_len]; exact hvl, by simp only [pl_len]; exact hbl, fun t ht => ?_, fun b hb => ?_, by simp, hver⟩
        · have := HVS.out.2 t (by rw [← HV.out]; exact ht); omega
        · obtain ⟨h1, z, h2, h3⟩ := HBS.out.2 b (by rw [← HKB.out]; exact hb)
          rw [← HK3.out] at h2; obtain ⟨y, hy, e⟩ := List.mem_map.1 h2
          have h4 := (hk3z y hy).1
          rw [Lib.size_eq] at h4; rw [h3, ← e]
          exact ⟨h4, by omega⟩
      have HSN := zh fun w h3 h4 h5 h6 => sign_any secret o f ⟨#[]⟩ (en : Int) X1 k1 rs X2 k2 ws ver V cv vs KB cb kb w h3 h4 h5 h6 hfm HRR.out hsec
      rw [show (⟨⟨o.data.toList, f.data.toList, (en : Int), bl rs, bl ws⟩, ver, bl vs, pl kb, (⟨#[]⟩ : ByteArray).data.toList⟩ : Mt) = (⟨⟨o.data.toList, f.data.toList, (en : Int), bl rs, bl ws⟩, ver, vl, bk, []⟩ : Mt) by rw [HV.out, HKB.out]] at HSN; obtain ⟨sx, es, hsx⟩ : ∃ x e, signC secret.data.toList (⟨⟨o.data.toList, f.data.toList, (en : Int), bl rs, bl ws⟩, ver, vl, bk, []⟩ : Mt) = (x, e) := ⟨_, _, rfl⟩; rw [hsx] at HSN
      have hzb : zz = if es ≠ 0 then (mzero, es) else (⟨⟨o.data.toList, f.data.toList, (en : Int), bl rs, bl ws⟩, ver, vl, bk, sx⟩, 0) := by
        rw [HZC.out]
        unfold buildC
        rw [HTO.out]
        simp only
        rw [if_neg (by simp), HVF.out]
        simp only
        rw [if_neg (by simp), HBE.out]
        simp only
        rw [if_neg (by simp), built_sign, hsx]
      have HZB := zh hzb; clear hzb hsx hfm; obtain ⟨⟨m0, m1, m2, m3, m4, m5, m6, m7, m8⟩, _⟩ := HM.out
      go_wp2_with fail
      clear m0 m1 m2 m3 m4 m5 m6 m7 m8; (with_reducible refine (HSN.out _ HS1.out HS2.out HRV.out HRB.out).mono ?_); rintro e w23 ⟨⟨G, hG, rfl⟩, hb23⟩; have HB := zh (Bel.call HB.out hb23); have HX := zh (HX.out.below hb23 (bx_lt HX.out)); have HRS := zh (HRS.out.call hb23)
      have HMo := HM
      have HM := zh (HM.out.call hb23); have HM9 := zh (HM9.out.below hb23 HMo.out.2); have HS1 := zh (HS1.out.below hb23 zl); have HS2 := zh (HS2.out.below hb23 zl); have HRV := zh (HRV.out.below hb23 zl); have HOV := zh (HOV.out.below hb23); have HRB := zh (HRB.out.below hb23 zl); have HOB := zh (HOB.out.below hb23); dsimp only at hG; have HG := zh hG; clear hb23 hG; dsimp only; obtain ⟨⟨m0, m1, m2, m3, m4, m5, m6, m7, m8⟩, _⟩ := HM.out; obtain ⟨g0, g1, g2, g3, g4, g5, g6, g7, g8⟩ := HM9.out
      have hne : gr + 1 ≠ gm := by have := HGM.out; omega
      have hnr : gr ≠ gm := by have := HGM.out; omega
      have HRS := zh (rs_set (j := 8) (v := .string G) HRS.out hne); have HX := zh (bx_set (j := 8) (v := .string G) HX.out hnr); have HB := zh (HB.out.setCell (p := ⟨gm, 8, none⟩) HBG.out (.string G))
      have p1 : ∀ b off, X1 = some ⟨b, off, none⟩ → b ≠ gm := fun b off e => by have := (HU1.out b off e).2; omega
      have p2 : ∀ b off, X2 = some ⟨b, off, none⟩ → b ≠ gm := fun b off e => by have := (HU4.out b off e).2; omega
      have HS1 := zh (sreads_set (j := 8) (v := .string G) HS1.out p1); have HS2 := zh (sreads_set (j := 8) (v := .string G) HS2.out p2)
      have pv : ∀ b off, V = some ⟨b, off, none⟩ → b ≠ gm := fun b off e => by have := (HOV.out b off e).1; have := HSZ.out; omega
      have pk : ∀ b off, KB = some ⟨b, off, none⟩ → b ≠ gm := fun b off e => by have := (HOB.out b off e).1; have := HGD.out; omega
      have HRV := zh (sreads_set (j := 8) (v := .string G) HRV.out pv); have HOV := zh (own1_set (G := gm) (j := 8) (v := .string G) HOV.out); have HRB := zh (preads_set (j := 8) (v := .string G) HRB.out pk); have HOB := zh (own1_set (G := gm) (j := 8) (v := .string G) HOB.out); have HMs := zh (mx_set8 HM.out G); have HM9s := zh (sf9_set (G := gm) (j := 8) (v := .string G) HM9.out)
      by_cases h_es : es = 0
      case neg =>
        have q : (es != 0) = true := by simpa using h_es
        obtain rfl : zz = (mzero, es) := by rw [HZB.out, if_pos h_es]
        obtain ⟨⟨⟨r0, r1, r2, r3, r4, r5, r6, r7, r8⟩, _⟩, ⟨f0, f1, f2, f3, f4, f5, f6, f7, f8⟩⟩ := HRS.out
        go_wp2
        refine bodyPost_ret (v := .tuple #[.agg #[.string ⟨#[]⟩, .string ⟨#[]⟩, .int .i64 0, .slice none 0 0, .slice none 0 0, .int .u64 0, .slice none 0 0, .slice none 0 0, .string ⟨#[]⟩], .int .i64 es]) (by simp [results, Tryz.results68, go_sem, r0, r1, r2, r3, r4, r5, r6, r7, r8]) rfl ?_
        exact ⟨⟨_, isM_zero _ _, sepM_zero _, rfl⟩, set9 HB.out (by rw [HGR.out]; omega)⟩
      subst h_es
      obtain rfl : zz = (⟨⟨o.data.toList, f.data.toList, (en : Int), bl rs, bl ws⟩, ver, vl, bk, sx⟩, 0) := by rw [HZB.out, if_neg (by simp)]
      obtain ⟨⟨n0, n1, n2, n3, n4, n5, n6, n7, n8⟩, _⟩ := HMs.out; obtain ⟨⟨⟨r0, r1, r2, r3, r4, r5, r6, r7, r8⟩, _⟩, ⟨f0, f1, f2, f3, f4, f5, f6, f7, f8⟩⟩ := HRS.out
      go_wp2
      refine bodyPost_ret (v := .tuple #[.agg #[.string o, .string f, .int .i64 (en : Int), .slice X1 rs.length k1, .slice X2 ws.length k2, .int .u64 (ver : Int), .slice V vs.length cv, .slice KB kb.length cb, .string G], .int .i64 0]) (by simp [results, Tryz.results68, go_sem, r0, r1, r2, r3, r4, r5, r6, r7, r8]) rfl ?_
      have hok : ∀ b, w8.heap.size ≤ b → Off ((gr + 1) :: gs) b := fun b hb hm => by
        have h1 := HRES.out
        rcases List.mem_cons.1 hm with e | e
        · omega
        · have := hg b e
          have := HGR.out
          omega
      have hvn : ∀ b off, V = some ⟨b, off, none⟩ → gm < b := fun b off e => by have := (HOV.out b off e).1; have := HSZ.out; omega
      have hkn : ∀ b off, KB = some ⟨b, off, none⟩ → wd.heap.size ≤ b := fun b off e => (HOB.out b off e).1
      have hgk : w8.heap.size ≤ gm := Nat.le_of_lt_succ (by have := HGL.out; omega)
      have hix : IsX (Off ((gr + 1) :: gs)) (w23.setCell ⟨gm, 8, none⟩ (.string G)) (.agg #[.string o, .string f, .int .i64 (en : Int), .slice X1 rs.length k1, .slice X2 ws.length k2]) ⟨o.data.toList, f.data.toList, (en : Int), bl rs, bl ws⟩ := ⟨o, f, X1, k1, rs, X2, k2, ws, rfl, rfl, HS1.out, HS2.out, HC1.out, HC4.out, fun b off e _ => hok b (HU1.out b off e).1, fun b off e _ => hok b (HU4.out b off e).1⟩
      have hm : IsM (Off ((gr + 1) :: gs)) (w23.setCell ⟨gm, 8, none⟩ (.string G)) (.agg #[.string o, .string f, .int .i64 (en : Int), .slice X1 rs.length k1, .slice X2 ws.length k2, .int .u64 (ver : Int), .slice V vs.length cv, .slice KB kb.length cb, .string G]) ⟨⟨o.data.toList, f.data.toList, (en : Int), bl rs, bl ws⟩, ver, bl vs, pl kb, G.data.toList⟩ := isM_mk hix ver HRV.out HCV.out (fun b off e _ => hok b (by have := hvn b off e; omega)) HRB.out HCB.out (fun b off e _ => hok b (by have := hkn b off e; have := HGD.out; omega)) G
      rw [HV.out, HKB.out, HG.out] at hm
      refine ⟨⟨_, (isM_set9 (List.mem_cons_self ..) hm).mono fun b _ h hm => h (List.mem_cons_of_mem _ hm), sepM_mk ?_ ?_, rfl⟩, set9 HB.out (by rw [HGR.out]; omega)⟩
      · intro b off e h0
        obtain ⟨q1, q2, q3⟩ := HOV.out b off e
        refine ⟨by rw [size_set9]; exact q2, fun j => by rw [frozen_set9]; exact q3 j, fun b' off' e' => ?_, fun b' off' e' => ?_, fun b' off' e' => ?_⟩
        · have := (HU1.out b' off' e').2; have := hvn b off e; omega
        · have := (HU4.out b' off' e').2; have := hvn b off e; omega
        · have := hkn b' off' e'; have := HVB.out b off e; omega
      · intro b off e h0
        obtain ⟨q1, q2, q3⟩ := HOB.out b off e
        refine ⟨by rw [size_set9]; exact q2, fun j => by rw [frozen_set9]; exact q3 j, fun b' off' e' => ?_, fun b' off' e' => ?_, fun b' off' e' => ?_⟩
        · have := (HU1.out b' off' e').2; have := hkn b off e; have := HGD.out; omega
        · have := (HU4.out b' off' e').2; have := hkn b off e; have := HGD.out; omega
        · have := HVB.out b' off' e'; have := hkn b off e; omega
end Go.Proofs.YtbdealddjonobaaGreat.Mta

namespace Go.Proofs.YtbdealddjonobaaGreat.Mta
open Go.RowKit Wire Term Rig

theorem mcheckok : MCheckOK := by
 intro v m p ow fi w h hf hp _ _
 obtain ⟨o, f, sig, ep, A, c, rs, B, d, ws, ver, V, cv, vs, K, ck, ks, rfl, rfl, h3, h4, h5, h6, h7, h8⟩ := isM_all h
 exact ccheck_any o f sig ep A c rs B d ws ver V cv vs K ck ks w p ow fi h3 h4 h5 h6 h7 h8 hf (by omega)
theorem mbuildok : MBuildOK := by
 intro gs secret vr r ver root S cs ss K ck ks w hg hx hf hv hs hr hS _ hsl hsz hK _ hkl hkz
 obtain ⟨o, f, A, c, rs, B, d, ws, rfl, h2, h3, h4, h5, h6, _⟩ := hx; obtain ⟨ep, hep⟩ : ∃ ep, r.ep = ep := ⟨_, rfl⟩; rw [hep] at h2 ⊢
 subst h2
 exact build_any gs secret o f ep A c rs B d ws ver root S cs ss K ck ks w hg h3 h4 h5.2 h6.2 hf hv hs hr hS hsl hsz hK hkl hkz
end Go.Proofs.YtbdealddjonobaaGreat.Mta

namespace Go.Proofs.YtbdealddjonobaaGreat.Mta
open Go.RowKit Wire Term Rig

set_option linter.unusedSimpArgs false
set_option linter.unusedVariables false
set_option maxHeartbeats 8000000 in
set_option maxRecDepth 1000000 in
theorem copen_any (o f sig : ByteArray) (ep : Int) (A : Option Addr) (c : Nat) (rs : List ByteArray) (B : Option Addr) (d : Nat) (ws : List ByteArray) (ver : Nat) (V : Option Addr) (cv : Nat) (vs : List ByteArray) (K : Option Addr) (ck : Nat) (ks : List (ByteArray × ByteArray)) (w : World) (u s : ByteArray) (hA : SReads w A rs) (hB : SReads w B ws) (hV : SReads w V vs) (hK : PReads w K ks) (hna : A = none → c = 0) (hnb : B = none → d = 0) (hf : FewM ⟨⟨o.data.toList, f.data.toList, ep, bl rs, bl ws⟩, ver, bl vs, pl ks, sig.data.toList⟩) (hs : s.size ≤ 140737488355328) :
  Calls Tryz.prog 39 #[.agg #[.string o, .string f, .int .i64 ep, .slice A rs.length c, .slice B ws.length d, .int .u64 (ver : Int), .slice V vs.length cv, .slice K ks.length ck, .string sig], .string u, .string s] w fun e w' => So (openM ⟨⟨o.data.toList, f.data.toList, ep, bl rs, bl ws⟩, ver, bl vs, pl ks, sig.data.toList⟩ u.data.toList s.data.toList) e ∧ Below w.heap.size w w' := by
 have HA := zh hA; have HBB := zh hB; have HV := zh hV; have HK := zh hK
 have HRT := zh fun w h1 h2 h3 h4 => cright_any o f sig ep A c rs B d ws ver V cv vs K ck ks w h1 h2 h3 h4 hna hnb hf
 by_cases hr : MR ⟨⟨o.data.toList, f.data.toList, ep, bl rs, bl ws⟩, ver, bl vs, pl ks, sig.data.toList⟩
 case neg =>
  rw [show openM ⟨⟨o.data.toList, f.data.toList, ep, bl rs, bl ws⟩, ver, bl vs, pl ks, sig.data.toList⟩ u.data.toList s.data.toList = ([], [], 1) by unfold openM; rw [if_pos (Or.inl hr)]]; rw [decide_eq_false hr] at HRT; clear hA hB hV hK hna hnb hf hr
  go_enter Tryz.func39, Tryz.ntmps39
  go_wp2_with fail
  have hb1 := al w (.cells #[.string o, .string f, .int .i64 ep, .slice A rs.length c, .slice B ws.length d, .int .u64 (ver : Int), .slice V vs.length cv, .slice K ks.length ck, .string sig] 60)
  have hb2 := al (w.alloc (.cells #[.string o, .string f, .int .i64 ep, .slice A rs.length c, .slice B ws.length d, .int .u64 (ver : Int), .slice V vs.length cv, .slice K ks.length ck, .string sig] 60)) (.cells #[.string u] 9)
  have hz1 : (w.alloc (.cells #[.string o, .string f, .int .i64 ep, .slice A rs.length c, .slice B ws.length d, .int .u64 (ver : Int), .slice V vs.length cv, .slice K ks.length ck, .string sig] 60)).heap.size = w.heap.size + 1 := by simp
  have hcu : ((w.alloc (.cells #[.string o, .string f, .int .i64 ep, .slice A rs.length c, .slice B ws.length d, .int .u64 (ver : Int), .slice V vs.length cv, .slice K ks.length ck, .string sig] 60)).alloc (.cells #[.string u] 9)).cell? ⟨(w.alloc (.cells #[.string o, .string f, .int .i64 ep, .slice A rs.length c, .slice B ws.length d, .int .u64 (ver : Int), .slice V vs.length cv, .slice K ks.length ck, .string sig] 60)).heap.size, 0, none⟩ = some (.string u) := cell_of_row _ _ _ _ _ (0, 0) (heap_alloc_new (w.alloc (.cells #[.string o, .string f, .int .i64 ep, .slice A rs.length c, .slice B ws.length d, .int .u64 (ver : Int), .slice V vs.length cv, .slice K ks.length ck, .string sig] 60)) _)
  have hlu : (w.alloc (.cells #[.string o, .string f, .int .i64 ep, .slice A rs.length c, .slice B ws.length d, .int .u64 (ver : Int), .slice V vs.length cv, .slice K ks.length ck, .string sig] 60)).heap.size < ((w.alloc (.cells #[.string o, .string f, .int .i64 ep, .slice A rs.length c, .slice B ws.length d, .int .u64 (ver : Int), .slice V vs.length cv, .slice K ks.length ck, .string sig] 60)).alloc (.cells #[.string u] 9)).heap.size := by simp
  rw [hz1] at hcu hlu; have HB := zh (Bel.call hb1 hb2); have HMX := zh ((mx_alloc w o f ep A rs.length c B ws.length d ver V vs.length cv K ks.length ck sig 60).call hb2); have HU := zh (And.intro hcu hlu); clear hb1 hb2 hz1 hcu hlu; obtain ⟨g, hg⟩ : ∃ n, w.heap.size = n := ⟨_, rfl⟩; have HG := zh hg
  generalize ((w.alloc (.cells #[.string o, .string f, .int .i64 ep, .slice A rs.length c, .slice B ws.length d, .int .u64 (ver : Int), .slice V vs.length cv, .slice K ks.length ck, .string sig] 60)).alloc (.cells #[.string u] 9)) = w1 at HB HMX HU ⊢
  rw [hg] at HMX HU ⊢; clear hg; (with_reducible refine (HRT.out _ (HA.out.below HB.out zl) (HBB.out.below HB.out zl) (HV.out.below HB.out zl) (HK.out.below HB.out zl)).mono ?_); rintro e w2 ⟨rfl, hb2⟩; have HB := zh (Bel.call HB.out hb2); have HMX := zh (HMX.out.call hb2); have HU := zh (And.intro ((hb2.cell (p := ⟨g + 1, 0, none⟩) HU.out.2).trans HU.out.1) (Nat.lt_of_lt_of_le HU.out.2 hb2.size)); clear hb2; dsimp only
  go_wp2
  go_ret3
  exact ⟨so_nil 1, HB.out⟩
 rw [decide_eq_true hr] at HRT
 have HSR := zh fun w => isTerm_any s w hs
 obtain ⟨rr, hrr⟩ : ∃ r, right s.data.toList = r := ⟨_, rfl⟩; rw [hrr] at HSR; obtain ⟨z, hz⟩ : ∃ z, openM ⟨⟨o.data.toList, f.data.toList, ep, bl rs, bl ws⟩, ver, bl vs, pl ks, sig.data.toList⟩ u.data.toList s.data.toList = z := ⟨_, rfl⟩
 have HZ1 : Hid (rr = false → z = ([], [], 1)) := fun h => by rw [← hz]; unfold openM; rw [if_pos (Or.inr (by rw [hrr, h]; decide))]
 have HZ2 : Hid (rr = true → z = match (pl ks).find? (fun b => b.1 == u.data.toList) with | none => ([], [], 6) | some b => told s.data.toList b.2) := fun h => by
  rw [← hz]; unfold openM; rw [if_neg (by rintro (h2 | h2); exact h2 hr; exact h2 (hrr.trans h))]
  cases List.find? (fun b => b.1 == u.data.toList) (pl ks) <;> rfl
 rw [hz]
 have HF5 : Hid (∀ k (_ : k < ks.length), (ks.getD k default).2.size ≤ 140737488355328) := fun k hk => by
  have h := (hf.2.2.2.2.1 _ (List.mem_of_getElem? (pl_at hk))).2
  simp only at h
  rw [Lib.size_eq]; omega
 have hf3 := hf.2.2.1
 simp only at hf3
 rw [pl_len] at hf3; clear hz hrr; clear hA hB hV hK hna hnb hf hr
 go_enter Tryz.func39, Tryz.ntmps39
 go_wp2_with fail
 have hb1 := al w (.cells #[.string o, .string f, .int .i64 ep, .slice A rs.length c, .slice B ws.length d, .int .u64 (ver : Int), .slice V vs.length cv, .slice K ks.length ck, .string sig] 60)
 have hb2 := al (w.alloc (.cells #[.string o, .string f, .int .i64 ep, .slice A rs.length c, .slice B ws.length d, .int .u64 (ver : Int), .slice V vs.length cv, .slice K ks.length ck, .string sig] 60)) (.cells #[.string u] 9)
 have hz1 : (w.alloc (.cells #[.string o, .string f, .int .i64 ep, .slice A rs.length c, .slice B ws.length d, .int .u64 (ver : Int), .slice V vs.length cv, .slice K ks.length ck, .string sig] 60)).heap.size = w.heap.size + 1 := by simp
 have hcu : ((w.alloc (.cells #[.string o, .string f, .int .i64 ep, .slice A rs.length c, .slice B ws.length d, .int .u64 (ver : Int), .slice V vs.length cv, .slice K ks.length ck, .string sig] 60)).alloc (.cells #[.string u] 9)).cell? ⟨(w.alloc (.cells #[.string o, .string f, .int .i64 ep, .slice A rs.length c, .slice B ws.length d, .int .u64 (ver : Int), .slice V vs.length cv, .slice K ks.length ck, .string sig] 60)).heap.size, 0, none⟩ = some (.string u) := cell_of_row _ _ _ _ _ (0, 0) (heap_alloc_new (w.alloc (.cells #[.string o, .string f, .int .i64 ep, .slice A rs.length c, .slice B ws.length d, .int .u64 (ver : Int), .slice V vs.length cv, .slice K ks.length ck, .string sig] 60)) _)
 have hlu : (w.alloc (.cells #[.string o, .string f, .int .i64 ep, .slice A rs.length c, .slice B ws.length d, .int .u64 (ver : Int), .slice V vs.length cv, .slice K ks.length ck, .string sig] 60)).heap.size < ((w.alloc (.cells #[.string o, .string f, .int .i64 ep, .slice A rs.length c, .slice B ws.length d, .int .u64 (ver : Int), .slice V vs.length cv, .slice K ks.length ck, .string sig] 60)).alloc (.cells #[.string u] 9)).heap.size := by simp
 rw [hz1] at hcu hlu; have HB := zh (Bel.call hb1 hb2); have HMX := zh ((mx_alloc w o f ep A rs.length c B ws.length d ver V vs.length cv K ks.length ck sig 60).call hb2); have HU := zh (And.intro hcu hlu); clear hb1 hb2 hz1 hcu hlu; obtain ⟨g, hg⟩ : ∃ n, w.heap.size = n := ⟨_, rfl⟩; have HG := zh hg
 generalize ((w.alloc (.cells #[.string o, .string f, .int .i64 ep, .slice A rs.length c, .slice B ws.length d, .int .u64 (ver : Int), .slice V vs.length cv, .slice K ks.length ck, .string sig] 60)).alloc (.cells #[.string u] 9)) = w1 at HB HMX HU ⊢
 rw [hg] at HMX HU ⊢; clear hg; (with_reducible refine (HRT.out _ (HA.out.below HB.out zl) (HBB.out.below HB.out zl) (HV.out.below HB.out zl) (HK.out.below HB.out zl)).mono ?_); rintro e w2 ⟨rfl, hb2⟩; have HB := zh (Bel.call HB.out hb2); have HMX := zh (HMX.out.call hb2); have HU := zh (And.intro ((hb2.cell (p := ⟨g + 1, 0, none⟩) HU.out.2).trans HU.out.1) (Nat.lt_of_lt_of_le HU.out.2 hb2.size)); clear hb2; dsimp only
 go_wp2_with fail
 (with_reducible refine (HSR.out _).mono ?_); rintro e w3 ⟨rfl, hb3⟩; have HB := zh (Bel.call HB.out hb3); have HMX := zh (HMX.out.call hb3); have HU := zh (And.intro ((hb3.cell (p := ⟨g + 1, 0, none⟩) HU.out.2).trans HU.out.1) (Nat.lt_of_lt_of_le HU.out.2 hb3.size)); clear hb3; dsimp only
 cases rr with
 | false =>
  obtain rfl := HZ1.out rfl
  go_wp2
  go_ret3
  exact ⟨so_nil 1, HB.out⟩
 | true =>
  have HZ := zh (HZ2.out rfl); clear HZ1 HZ2; have HIX := zh (indexB_any 81 (fun _ _ => rfl) ⟨g + 1, 0, none⟩ u.data.toList K ck ks w3 (HK.out.below HB.out zl) (by omega) fun a b W hb => closB_any a b u ⟨g + 1, 0, none⟩ W (Nat.lt_of_lt_of_le HU.out.2 hb.size) ((hb.cell (p := ⟨g + 1, 0, none⟩) HU.out.2).trans HU.out.1)); obtain ⟨⟨m0, m1, m2, m3, m4, m5, m6, m7, m8⟩, _⟩ := HMX.out
  go_wp2_with fail
  clear m0 m1 m2 m3 m4 m5 m6 m7 m8
  with_reducible refine HIX.out.mono ?_
  rintro e w4 ⟨⟨i, hi, rfl⟩, hb4⟩; have HB := zh (Bel.call HB.out hb4); have HMX := zh (HMX.out.call hb4); have HU := zh (And.intro ((hb4.cell (p := ⟨g + 1, 0, none⟩) HU.out.2).trans HU.out.1) (Nat.lt_of_lt_of_le HU.out.2 hb4.size)); clear hb4 HIX; dsimp only
  rcases hi with ⟨rfl, hfd⟩ | ⟨j, rfl, hj, hfd⟩
  ·
   have hz := HZ.out
   rw [hfd] at hz
   obtain rfl : z = ([], [], 6) := hz
   go_wp2
   go_ret3
   exact ⟨so_nil 6, HB.out⟩
  ·
   have hz := HZ.out
   rw [hfd] at hz
   simp only at hz
   obtain ⟨b, off, rfl, hbl, hcl, hcl2⟩ := (HK.out.below HB.out zl) j hj
   have hxz := HF5.out j hj
   obtain ⟨y, x, hux⟩ : ∃ u x, ks.getD j default = (u, x) := ⟨_, _, rfl⟩; rw [hux] at hcl hcl2 hxz hz
   simp only at hcl hcl2 hxz hz
   obtain ⟨X, e2, hX⟩ : ∃ X e2, unbox s.data.toList x.data.toList = (X, e2) := ⟨_, _, rfl⟩
   have hXl := unbox_len s.data.toList x.data.toList
   unfold told at hz
   rw [hX] at hz hXl
   simp only at hz hXl
   have HUB := zh fun w => t_Unbox s x w hs hxz
   rw [hX] at HUB
   have HX0 : Hid (e2 = 0 → right X = true) := fun h => unbox_right (by rw [← h]; exact hX)
   have HZX := zh hz
   have hj0 : (0 : Int) ≤ (j : Int) := by omega
   have hjl : (j : Int) < (ks.length : Int) := by omega
   have hjn : ¬ (j : Int) < 0 := by omega
   clear hz hX hfd hxz hux; obtain ⟨⟨m0, m1, m2, m3, m4, m5, m6, m7, m8⟩, _⟩ := HMX.out
   go_wp2_with fail
   clear m0 m1 m2 m3 m4 m5 m6 m7 m8 hcl hcl2; (with_reducible refine (HUB.out _).mono ?_); rintro e w5 ⟨⟨T, hT, rfl⟩, hb5⟩; have HB := zh (Bel.call HB.out hb5); have HMX := zh (HMX.out.call hb5); have HU := zh (And.intro ((hb5.cell (p := ⟨g + 1, 0, none⟩) HU.out.2).trans HU.out.1) (Nat.lt_of_lt_of_le HU.out.2 hb5.size)); clear hb5 hbl
   simp only at hT
   have HT := zh hT; dsimp only
   by_cases he : e2 = 0
   case neg =>
    obtain rfl : z = ([], [], 7) := by rw [HZX.out, if_pos (Or.inl he)]
    have q1 : ((e2 : Int) != 0) = true := by simpa using he
    have q2 : ((e2 : Int) == 0) = false := by simpa using he
    go_wp2
    go_ret3
    exact ⟨so_nil 7, HB.out⟩
   subst he
   have hrx : right X = true := HX0.out rfl
   have htz : T.size ≤ 4000 := by rw [Lib.size_eq, hT]; exact hXl
   obtain ⟨kt, hkt⟩ : ∃ k, kind X = k := ⟨_, rfl⟩
   have hkh : kt = (X.headD 0).toNat := by rw [← hkt]; exact kind_right hrx
   have HKT : Hid (∀ w, Calls Tryz.prog 83 #[.string T] w fun e w' => e = .returned (.int .u8 kt) ∧ Below w.heap.size w w') := zh fun w => by
    have h := t_Kind T w (by omega)
    rw [hT, hkt] at h
    exact h
   have HRX := zh hrx; have HKH := zh hkh; clear hT hrx hkt hkh HX0
   go_wp2_with fail
   (with_reducible refine (HKT.out _).mono ?_); rintro e w6 ⟨rfl, hb6⟩; have HB := zh (Bel.call HB.out hb6); have HMX := zh (HMX.out.call hb6); have HU := zh (And.intro ((hb6.cell (p := ⟨g + 1, 0, none⟩) HU.out.2).trans HU.out.1) (Nat.lt_of_lt_of_le HU.out.2 hb6.size)); clear hb6; dsimp only
   by_cases hb : kt = 112
   case neg =>
    have hb0 : ¬ X.headD 0 = 112 := fun h => hb (by rw [HKH.out, h]; rfl)
    obtain rfl : z = ([], [], 7) := by rw [HZX.out, if_pos (Or.inr hb0)]
    have q0 : ¬ (kt : Int) = 112 := by omega
    have q1 : ((kt : Int) != 112) = true := by simpa using q0
    have q2 : ((kt : Int) == 112) = false := by simpa using q0
    go_wp2
    go_ret3
    exact ⟨so_nil 7, HB.out⟩
   subst hb
   have hb0 : X.headD 0 = 112 := UInt8.toNat_inj.1 (by rw [← HKH.out]; rfl)
   obtain ⟨p, p2, hpp, hrp, hrp2⟩ := pair_parts HRX.out hb0
   have HPT := zh fun w => t_Parts T w (by omega)
   rw [HT.out, hpp] at HPT
   have hz3 := HZX.out
   rw [if_neg (by rw [hb0]; simp), hpp] at hz3
   simp only [List.getD_cons_zero, List.getD_cons_succ] at hz3
   have HZ3 := zh hz3; clear hz3 hpp HZX
   go_wp2_with fail
   (with_reducible refine (HPT.out _).mono ?_); rintro e w7 ⟨⟨A5, c5, ys, hys, hc5, hs5, rfl⟩, hb7⟩; have HB := zh (Bel.call HB.out hb7); have HMX := zh (HMX.out.call hb7); have HU := zh (And.intro ((hb7.cell (p := ⟨g + 1, 0, none⟩) HU.out.2).trans HU.out.1) (Nat.lt_of_lt_of_le HU.out.2 hb7.size)); clear hb7
   simp only at hys
   obtain ⟨S1, S2, rfl⟩ : ∃ a b, ys = [a, b] := by
    match ys, hys with
    | [a, b], _ => exact ⟨a, b, rfl⟩
   obtain ⟨hS1, hS2⟩ : S1.data.toList = p ∧ S2.data.toList = p2 := by simpa [bl] using hys
   obtain ⟨b5, o5, rfl, hl5, hc50⟩ := hs5 0 (by simp); obtain ⟨b6, o6, he6, hl6, hc51⟩ := hs5 1 (by simp)
   obtain ⟨rfl, rfl⟩ : b5 = b6 ∧ o5 = o6 := by simpa using he6
   simp only [List.getD_cons_zero, List.getD_cons_succ, Nat.add_zero] at hc50 hc51
   obtain ⟨k2, hk2⟩ : ∃ k, kind p2 = k := ⟨_, rfl⟩
   have hk2h : k2 = (p2.headD 0).toNat := by rw [← hk2]; exact kind_right hrp2
   have hp2l := (right_len hrp2).2
   have HK2 : Hid (∀ w, Calls Tryz.prog 83 #[.string S2] w fun e w' => e = .returned (.int .u8 k2) ∧ Below w.heap.size w w') := zh fun w => by
    have h := t_Kind S2 w (by rw [Lib.size_eq, hS2]; omega)
    rw [hS2, hk2] at h
    exact h
   have HK2H := zh hk2h; clear hys hs5 he6 hk2 hk2h hp2l; dsimp only [List.length_cons, List.length_nil]
   simp only [List.length_cons, List.length_nil] at hc5
   have HL5 := zh hl5; have HC50 := zh hc50; have HC51 := zh hc51
   go_wp2_with fail
   (with_reducible refine (HK2.out _).mono ?_); rintro e w8 ⟨rfl, hb8⟩
   have hc50 := (hb8.cell (p := ⟨b5, o5, none⟩) HL5.out).trans HC50.out
   have hc51 := (hb8.cell (p := ⟨b5, o5 + 1, none⟩) HL5.out).trans HC51.out
   have HB := zh (Bel.call HB.out hb8); have HMX := zh (HMX.out.call hb8); have HU := zh (And.intro ((hb8.cell (p := ⟨g + 1, 0, none⟩) HU.out.2).trans HU.out.1) (Nat.lt_of_lt_of_le HU.out.2 hb8.size)); have HD8 := zh (Nat.lt_of_lt_of_le HL5.out hb8.size); clear hb8; dsimp only
   by_cases hb6 : k2 = 116
   case pos =>
    have hz4 : p2.headD 0 = 116 := UInt8.toNat_inj.1 (by rw [← HK2H.out, hb6]; rfl)
    obtain rfl : z = (p, [], 0) := by rw [HZ3.out, if_pos hz4]
    subst hb6
    go_wp2
    go_ret3
    exact ⟨⟨S1, ⟨#[]⟩, hS1, rfl, rfl⟩, HB.out⟩
   have hz4 : ¬ p2.headD 0 = 116 := fun h => hb6 (by rw [HK2H.out, h]; rfl)
   obtain rfl : z = (p, p2, 0) := by rw [HZ3.out, if_neg hz4]
   have q0 : ¬ (k2 : Int) = 116 := by omega
   have q1 : ((k2 : Int) != 116) = true := by simpa using q0
   have q2 : ((k2 : Int) == 116) = false := by simpa using q0
   go_wp2_with fail
   have hdr := Below.drewN' (Below.refl w8.heap.size w8) 1
   refine Ord.region_lit (S := fun w' => Below w8.heap.size w8 w') (by kernel_rfl) (by kernel_rfl) hdr ?_; clear hdr; refine Ord.stepR (v := ?_) (by rfl) ?_ ?_; rotate_left
   · intro w' hSw; have hk1 := (hSw.cell (p := ⟨b5, o5, none⟩) HD8.out).trans hc50; have hk2 := (hSw.cell (p := ⟨b5, o5 + 1, none⟩) HD8.out).trans hc51; go_simp; try with_reducible rfl
   (try simp only [Act.put, zq1, zq2, zq3]); refine Ord.stepR (v := ?_) (by rfl) ?_ ?_; rotate_left
   · intro w' hSw; have hk1 := (hSw.cell (p := ⟨b5, o5, none⟩) HD8.out).trans hc50; have hk2 := (hSw.cell (p := ⟨b5, o5 + 1, none⟩) HD8.out).trans hc51; go_simp; try with_reducible rfl
   (try simp only [Act.put, zq1, zq2, zq3]); refine Ord.stepR (v := ?_) (by rfl) ?_ ?_; rotate_left
   · intro w' hSw; have hk1 := (hSw.cell (p := ⟨b5, o5, none⟩) HD8.out).trans hc50; have hk2 := (hSw.cell (p := ⟨b5, o5 + 1, none⟩) HD8.out).trans hc51; go_simp; try with_reducible rfl
   (try simp only [Act.put, zq1, zq2, zq3]); refine Ord.stepR (v := ?_) (by rfl) ?_ ?_; rotate_left
   · intro w' hSw; have hk1 := (hSw.cell (p := ⟨b5, o5, none⟩) HD8.out).trans hc50; have hk2 := (hSw.cell (p := ⟨b5, o5 + 1, none⟩) HD8.out).trans hc51; go_simp; try with_reducible rfl
   (try simp only [Act.put, zq1, zq2, zq3]); refine Ord.stepR (v := ?_) (by rfl) ?_ ?_; rotate_left
   · intro w' hSw; have hk1 := (hSw.cell (p := ⟨b5, o5, none⟩) HD8.out).trans hc50; have hk2 := (hSw.cell (p := ⟨b5, o5 + 1, none⟩) HD8.out).trans hc51; go_simp; try with_reducible rfl
   (try simp only [Act.put, zq1, zq2, zq3]); refine Ord.stepR (v := ?_) (by rfl) ?_ ?_; rotate_left
   · intro w' hSw; have hk1 := (hSw.cell (p := ⟨b5, o5, none⟩) HD8.out).trans hc50; have hk2 := (hSw.cell (p := ⟨b5, o5 + 1, none⟩) HD8.out).trans hc51; go_simp; try with_reducible rfl
   (try simp only [Act.put, zq1, zq2, zq3]); refine Ord.stepR (v := ?_) (by rfl) ?_ ?_; rotate_left
   · intro w' hSw; have hk1 := (hSw.cell (p := ⟨b5, o5, none⟩) HD8.out).trans hc50; have hk2 := (hSw.cell (p := ⟨b5, o5 + 1, none⟩) HD8.out).trans hc51; go_simp; try with_reducible rfl
   (try simp only [Act.put, zq1, zq2, zq3]); refine Ord.stepR (v := ?_) (by rfl) ?_ ?_; rotate_left
   · intro w' hSw; have hk1 := (hSw.cell (p := ⟨b5, o5, none⟩) HD8.out).trans hc50; have hk2 := (hSw.cell (p := ⟨b5, o5 + 1, none⟩) HD8.out).trans hc51; go_simp; try with_reducible rfl
   (try simp only [Act.put, zq1, zq2, zq3]); refine Ord.stepR (v := ?_) (by rfl) ?_ ?_; rotate_left
   · intro w' hSw; have hk1 := (hSw.cell (p := ⟨b5, o5, none⟩) HD8.out).trans hc50; have hk2 := (hSw.cell (p := ⟨b5, o5 + 1, none⟩) HD8.out).trans hc51; go_simp; try with_reducible rfl
   (try simp only [Act.put, zq1, zq2, zq3]); refine Ord.stepD ?_; rintro w9 hS9; have HB9 := zh (Bel.call HB.out hS9); clear hS9
   go_wp2
   go_ret3
   exact ⟨⟨S1, S2, hS1, hS2, rfl⟩, HB9.out⟩
end Go.Proofs.YtbdealddjonobaaGreat.Mta

namespace Go.Proofs.YtbdealddjonobaaGreat.Mta
open Go.RowKit Wire Term Rig

theorem mopenok : MOpenOK := by
 intro v m u s w h hf _ hs
 obtain ⟨o, f, sig, ep, A, c, rs, B, d, ws, ver, V, cv, vs, K, ck, ks, rfl, rfl, h3, h4, h5, h6, h7, h8⟩ := isM_all h
 exact copen_any o f sig ep A c rs B d ws ver V cv vs K ck ks w u s h3 h4 h5 h6 h7 h8 hf (by omega)
end Go.Proofs.YtbdealddjonobaaGreat.Mta

