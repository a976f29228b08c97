/-
  UCCreate. By an AI agent.
-/
import Derived.Test.YtbdealddjonobaaGreatYZ
import Derived.Test.YtbdealddjonobaaGreatYU5
namespace Go.Proofs.YtbdealddjonobaaGreat.Usr
open Go Go.RowKit Wire Rig Draw Frm

set_option linter.unusedSimpArgs false
set_option linter.unusedVariables false
theorem create_bad {u : Us} {f : Tm} (h : nm f = false) : create u f = (u, 3) := by unfold create; rw [if_pos h]
theorem create_there {u : Us} {f : Tm} (hn : nm f = true) (h : u.live f = true) : create u f = (u, 5) := by unfold create; rw [if_neg (by rw [hn]; decide), if_pos h]
theorem create_full {u : Us} {f : Tm} (hn : nm f = true) (h : u.live f = false) (h8 : 8 ≤ u.lives.length) : create u f = (u, 10) := by unfold create; rw [if_neg (by rw [hn]; decide), if_neg (by rw [h]; decide), if_pos h8]
theorem create_ok {u : Us} {f : Tm} (hn : nm f = true) (h : u.live f = false) (h8 : ¬ 8 ≤ u.lives.length) : create u f = (⟨u.nm, u.sd, u.dr + 2, if f ∈ u.ns then u.ns else u.ns ++ [f], updO u.of f (u.made f)⟩, 0) := by unfold create; rw [if_neg (by rw [hn]; decide), if_neg (by rw [h]; decide), if_neg h8]
theorem new_bad {N f : Tm} {s1 : Rt} {k : Int} (h : nm f = false) (hn : Rig.new N f = (s1, k)) : k = 3 := by
 unfold Rig.new at hn
 rw [h] at hn
 simp at hn
 exact hn.2.symm
theorem new_good {N f : Tm} {s1 : Rt} {k : Int} (h1 : nm N = true) (h : nm f = true) (hn : Rig.new N f = (s1, k)) : s1 = ⟨N, f, 0, [], []⟩ ∧ k = 0 := by
 unfold Rig.new at hn
 rw [h, h1] at hn
 simp at hn
 exact ⟨hn.1.symm, hn.2.symm⟩
theorem bx5 {w : World} {g : Nat} {v0 v1 v2 v3 v4 : Value} {t : TypeId} (h : (box g #[v0, v1, v2, v3, v4] t).P w) : w.cell? ⟨g, 0, none⟩ = some v0 ∧ w.cell? ⟨g, 1, none⟩ = some v1 ∧ w.cell? ⟨g, 2, none⟩ = some v2 ∧ w.cell? ⟨g, 3, none⟩ = some v3 ∧ w.cell? ⟨g, 4, none⟩ = some v4 ∧ g < w.heap.size :=
 ⟨box_at h 0, box_at h 1, box_at h 2, box_at h 3, box_at h 4, box_lt h⟩
def lastV (u : Us) (f : Tm) : Nat := if f ∈ u.ns then (u.of f).ver else 0
theorem gone_look {w : World} {mg : Nat} {u : Us} (h : MapIs w mg u.gn (verV u)) {F : ByteArray} (hl : u.live F.data.toList = false) (hF : F.size ≤ 10000) : (Instr.lookup 95 (.map (some mg)) (.string F) false).run Tryz.prog w = .ok (.int .u64 ((lastV u F.data.toList : Nat) : Int)) w := by
 rw [h.look Tryz.underlying95 (zero_u64 w) (by omega)]
 unfold lastV
 by_cases hin : F.data.toList ∈ u.ns
 ·
  have hg : u.gn F.data.toList = true := by
   unfold Us.live at hl
   unfold Us.gn
   simp [hin] at hl ⊢
   exact hl
  rw [hg, if_pos rfl, if_pos hin]; rfl
 ·
  have hg : u.gn F.data.toList = false := by unfold Us.gn; simp [hin]
  rw [hg, if_neg (by decide), if_neg hin]; rfl
theorem lastV_le {n : Nat} {u : Us} (h : Fine n u) (f : Tm) : lastV u f ≤ n := by
 unfold lastV
 split
 · rename_i hin; exact (h.each f hin).2.2.2.2.1
 · exact Nat.zero_le _
theorem live_new {u : Us} {f : Tm} {o : Ow} (ho : o.gone = false) (dr : Nat) (t : Tm) : (⟨u.nm, u.sd, dr, if f ∈ u.ns then u.ns else u.ns ++ [f], updO u.of f o⟩ : Us).live t = updH u.live f true t := by
 unfold Us.live updH updO
 by_cases e : t = f
 ·
  subst e
  by_cases hin : t ∈ u.ns <;> simp [hin, ho]
 · by_cases hin : f ∈ u.ns <;> simp [hin, e]
theorem gn_new {u : Us} {f : Tm} {o : Ow} (ho : o.gone = false) (dr : Nat) (t : Tm) : (⟨u.nm, u.sd, dr, if f ∈ u.ns then u.ns else u.ns ++ [f], updO u.of f o⟩ : Us).gn t = updH u.gn f false t := by
 unfold Us.gn updH updO
 by_cases e : t = f
 ·
  subst e
  by_cases hin : t ∈ u.ns <;> simp [hin, ho]
 · by_cases hin : f ∈ u.ns <;> simp [hin, e]
theorem created {g me mg db dc : Nat} {N C : ByteArray} {V : Tm → Value} {sb : Tm → Nat} {w w3 : World} {u : Us} {S M : Nat → Prop} (h : UserAt g me mg db dc N C V sb w u) (hS : ∀ b, S b ↔ Sb u g me mg db dc V sb b) (hMi : ∀ b, M b ↔ Mb u me mg db dc sb b) {F : Tm} (hl : u.live F = false) (hf : Frm.Fr (X3 me mg db) w w3) (hd : DrawAt db dc w3 u.sd (u.dr + 1 + 1))
  {o2 f2 : ByteArray} {A2 : Option Addr} {k2 : Nat} {B2 : Option Addr} {d2 v0 gl : Nat} {T1 T2 : ByteArray} (hx : IsX (fun j => w.heap.size ≤ j) w3 (RV o2 f2 0 A2 0 k2 B2 0 d2) ⟨u.nm, F, 0, [], []⟩) (hrow : (box gl #[.string T2] 9).P w3) (hgl : w.heap.size ≤ gl) (hT1 : T1.data.toList = u.sc uRoot F u.dr) (hT2 : T2.data.toList = u.sc uSign F (u.dr + 1)) (hv0 : lastV u F = v0)
  (hm : MapIs w3 me (updH u.live F true) (updV V F (.agg #[.string o2, .string f2, .int .i64 0, .slice A2 0 k2, .slice B2 0 d2, .int .u64 ((v0 : Int) + 1), .string T1, .slice (some ⟨gl, 0, none⟩) 1 1, .bool false]))) (hgm : MapIs w3 mg (updH u.gn F false) (verV u))
  {r : Us × Int} (hr : r = (⟨u.nm, u.sd, u.dr + 2, if F ∈ u.ns then u.ns else u.ns ++ [F], updO u.of F (u.made F)⟩, 0)) : Turn DU ⟨g, 0, none⟩ S M r w (.returned (.int .i64 0)) w3 := by
 have l1 := h.g_lt
 have l2 := h.hm.lt
 have l3 := h.gm.lt
 have l4 := (Array.getElem?_eq_some_iff.1 h.dr.b).1
 have l5 := (Array.getElem?_eq_some_iff.1 h.dr.c).1
 refine h.held hS hMi (u' := ⟨u.nm, u.sd, u.dr + 2, if F ∈ u.ns then u.ns else u.ns ++ [F], updO u.of F (u.made F)⟩) (f := F) (b' := gl) (X := X3 me mg db) rfl rfl (fun t => live_new rfl (u.dr + 2) t) (fun t e => updO_ne e) hf x3_mb (fun t e ht h2 => ?_) hd hm (hgm.congr (fun t => gn_new rfl (u.dr + 2) t) fun t ht => ?_) (by simp; omega) (.inr hgl) ?_ hr
 · rcases h2 with h2 | h2 | h2 <;> exact h.off t ht (by simp [h2])
 ·
  have e : t ≠ F := fun e => by unfold updH at ht; rw [if_pos e] at ht; cases ht
  unfold verV
  rw [show (⟨u.nm, u.sd, u.dr + 2, if F ∈ u.ns then u.ns else u.ns ++ [F], updO u.of F (u.made F)⟩ : Us).of t = u.of t from updO_ne e]
 rw [show (⟨u.nm, u.sd, u.dr + 2, if F ∈ u.ns then u.ns else u.ns ++ [F], updO u.of F (u.made F)⟩ : Us).of F = u.made F from updO_self _ _ _]
 refine ⟨o2, f2, 0, A2, 0, k2, B2, 0, d2, T1, some ⟨gl, 0, none⟩, 1, [T2], ?_, ?_, hT1, ?_, rfl, ⟨rfl, .inr ⟨gl, 1, #[.string T2], rfl, Nat.zero_le _, hrow, Nat.le_refl _, by simp only [maxLen]; omega, rfl, rfl⟩⟩, rfl⟩
 ·
  rw [← hv0]
  unfold Us.made lastV
  simp [OV]
 ·
  obtain ⟨o', f', A', c', rs, B', d', ws, h1, h2, h3, h4, h5, h6, h7, h8⟩ := id hx
  unfold RV at h1
  injection h1 with h1
  simp only [Array.mk.injEq, List.cons.injEq, Value.string.injEq, Value.int.injEq, Value.slice.injEq, and_true, true_and] at h1
  obtain ⟨rfl, rfl, ⟨rfl, hn1, rfl⟩, rfl, hn2, rfl⟩ := h1
  exact ⟨o2, f2, A2, k2, rs, B2, d2, ws, by rw [← hn1, ← hn2]; rfl, h2, h3, h4, h5, h6, fun b off e h0 => by omega, fun b off e h0 => by omega⟩
 ·
  show [T2.data.toList] = (u.made F).sg
  rw [hT2]; rfl
set_option maxHeartbeats 4000000 in
set_option maxRecDepth 1000000 in
theorem create_c (n : Nat) (a : Addr) (S M : Nat → Prop) (u : Us) (F : ByteArray) (w : World) (h : DU w a S M u) (f : Fine n u) (hn : n ≤ 200) (hF : F.size ≤ 10000) : Calls Tryz.prog 17 #[.pointer (some a), .string F] w (Turn DU a S M (create u F.data.toList) w) := by
 obtain ⟨g, me, mg, db, dc, N, C, V, sb, rfl, h, hS, hM⟩ := h
 have c0 := h.c0
 have glt := h.g_lt
 have HH := zh h
 have HS := zh (And.intro hS hM)
 have HFI := zh f
 have hNz : N.size ≤ 128 := right_size (by rw [h.hN]; exact f.nm)
 have hNd := h.hN
 clear h hS hM f
 obtain ⟨s1, k, hnw⟩ : ∃ s1 k, Rig.new N.data.toList F.data.toList = (s1, k) := ⟨_, _, rfl⟩
 have HNW := zh hnw
 rw [hNd] at hnw
 have HNU := zh hnw
 have HND := zh hNd
 clear hnw hNd
 by_cases hnf : nm F.data.toList = false
 case pos =>
  have HR := zh (create_bad (u := u) hnf)
  have hk : k = 3 := new_bad (N := u.nm) hnf HNU.out
  subst hk
  have HF := zh (fm_refl w)
  go_enter Tryz.func17, Tryz.ntmps17
  go_wp2_with fail
  with_reducible refine (new_code N F _ (by omega) (by omega)).mono ?_
  rintro en w2 ⟨⟨v', hx', rfl⟩, hb⟩
  rw [HNW.out] at hx' ⊢
  obtain ⟨o2, f2, A2, k2, B2, d2, rfl, hF⟩ := rit_fm HF.out hb hx'
  replace HF := zh hF
  clear hb hx' hF
  generalize w2 = w1 at HF ⊢
  dsimp only
  go_wp2_with fail
  go_ret
  exact stayed HS.out.1 HS.out.2 HH.out (by first | exact HF.out.bel.alloc HF.out.bel.size _ | exact HF.out.bel) HR.out
 case neg =>
  have hnf2 : nm F.data.toList = true := by simpa using hnf
  have HNF := zh hnf2
  obtain ⟨hs1, hk⟩ := new_good HFI.out.nm hnf2 HNU.out
  subst hs1 hk
  clear hnf hnf2
  cases hb : u.live F.data.toList
  case true =>
   have HR := zh (create_there (u := u) HNF.out hb)
   have HF := zh (fm_refl w)
   go_enter Tryz.func17, Tryz.ntmps17
   go_wp2_with fail
   with_reducible refine (new_code N F _ (by omega) (by omega)).mono ?_
   rintro en w2 ⟨⟨v', hx', rfl⟩, hb⟩
   rw [HNW.out] at hx' ⊢
   obtain ⟨o2, f2, A2, k2, B2, d2, rfl, hF⟩ := rit_fm HF.out hb hx'
   replace HF := zh hF
   clear hb hx' hF
   generalize w2 = w1 at HF ⊢
   dsimp only
   obtain ⟨o, f, ep, A, m, c, B, p, d, R, T, e, ss, hv, _⟩ := HH.out.rows _ hb
   have hl := fun V T => held_look (HH.out.below (HF.out.bel.alloc HF.out.bel.size (.cells V T))) hF
   simp only [hb, if_true, hv, OV] at hl
   have c4 := (HH.out.below HF.out.bel).c4
   have gl1 := (HH.out.below HF.out.bel).g_lt
   go_wp2_with fail
   go_ret
   exact stayed HS.out.1 HS.out.2 HH.out ((HF.out.bel.alloc HF.out.bel.size _).alloc (HF.out.bel.alloc HF.out.bel.size _).size _) HR.out
  case false =>
   have HLV := zh hb
   have HLL := zh (lives_nodup HFI.out)
   by_cases h8 : 8 ≤ u.lives.length
   case pos =>
    have HR := zh (create_full (u := u) HNF.out hb h8)
    have h8i : (8 : Int) ≤ (u.lives.length : Int) := by omega
    clear h8
    have HF := zh (fm_refl w)
    go_enter Tryz.func17, Tryz.ntmps17
    go_wp2_with fail
    with_reducible refine (new_code N F _ (by omega) (by omega)).mono ?_
    rintro en w2 ⟨⟨v', hx', rfl⟩, hb⟩
    rw [HNW.out] at hx' ⊢
    obtain ⟨o2, f2, A2, k2, B2, d2, rfl, hF⟩ := rit_fm HF.out hb hx'
    replace HF := zh hF
    clear hb hx' hF
    generalize w2 = w1 at HF ⊢
    dsimp only
    have hl := fun V T => held_look (HH.out.below (HF.out.bel.alloc HF.out.bel.size (.cells V T))) hF
    simp only [hb, Bool.false_eq_true, if_false, OV] at hl
    have hlen := fun V T V' T' => (HH.out.below ((HF.out.bel.alloc HF.out.bel.size (.cells V T)).alloc (HF.out.bel.alloc HF.out.bel.size (.cells V T)).size (.cells V' T'))).hm.len Tryz.underlying94 HLL.out (fun x => mem_lives) 3
    have c4 := (HH.out.below HF.out.bel).c4
    have gl1 := (HH.out.below HF.out.bel).g_lt
    go_wp2_with fail
    go_ret
    exact stayed HS.out.1 HS.out.2 HH.out ((HF.out.bel.alloc HF.out.bel.size _).alloc (HF.out.bel.alloc HF.out.bel.size _).size _) HR.out
   case neg =>
    have HR := zh (create_ok (u := u) HNF.out hb h8)
    have HL8 : Hid (u.lives.length < 8) := zh (by omega)
    have h8i : ¬ (8 : Int) ≤ (u.lives.length : Int) := by omega
    clear h8
    have HX3 := zh (x3_mb (me := me) (mg := mg) (db := db) (dc := dc) (sb := sb) (u := u))
    have HF := zh (user_fm HH.out)
    go_enter Tryz.func17, Tryz.ntmps17
    go_wp2_with fail
    with_reducible refine (new_code N F _ (by omega) (by omega)).mono ?_
    rintro en w2 ⟨⟨v', hx', rfl⟩, hb⟩
    rw [HNW.out] at hx' ⊢
    obtain ⟨o2, f2, A2, k2, B2, d2, rfl, hF⟩ := rit_lo HF.out w.heap.size ⟨Nat.zero_le _, (HF.out.at 3 rfl).1⟩ hb hx'
    replace HF := zh hF
    clear hb hx' hF
    generalize w2 = w1 at HF ⊢
    dsimp only
    have hl := fun V' T => MapIs.look_ok (V := V) (H := u.live) ((HF.out.box V' T).at 3 rfl) Tryz.underlying94 (zero_owned _) (show F.size ≤ 140737488351232 by omega)
    simp only [hb, Bool.false_eq_true, if_false, OV] at hl
    have hlen := fun V1 T V2 T' => MapIs.len (V := V) (H := u.live) (((HF.out.box V1 T).box V2 T').at 4 rfl) Tryz.underlying94 HLL.out (fun x => mem_lives) 3
    have c4 := (rest_cell HH.out HX3.out (HF.out.at 4 rfl) 4).trans HH.out.c4
    have gl1 : g < w1.heap.size := Nat.lt_of_lt_of_le glt (HF.out.at 4 rfl).1
    clear hb
    go_wp2_with fail
    have hF := (HF.out.box #[.string o2, .string f2, .int .i64 0, .slice A2 0 k2, .slice B2 0 d2] 48).box #[.string ⟨#[]⟩, .string ⟨#[]⟩, .int .i64 0, .slice none 0 0, .slice none 0 0, .int .u64 0, .string ⟨#[]⟩, .slice none 0 0, .bool false] 50
    rw [show (w1.alloc (.cells #[.string o2, .string f2, .int .i64 0, .slice A2 0 k2, .slice B2 0 d2] 48)).heap.size = w1.heap.size + 1 by simp] at hF
    obtain ⟨gr, hgr⟩ : ∃ gr, w1.heap.size = gr := ⟨_, rfl⟩
    rw [hgr] at hF ⊢
    generalize (w1.alloc (.cells #[.string o2, .string f2, .int .i64 0, .slice A2 0 k2, .slice B2 0 d2] 48)).alloc (.cells #[.string ⟨#[]⟩, .string ⟨#[]⟩, .int .i64 0, .slice none 0 0, .slice none 0 0, .int .u64 0, .string ⟨#[]⟩, .slice none 0 0, .bool false] 50) = w2 at hF ⊢
    replace HF := zh hF.tail
    clear hF hl hlen c4 gl1 hgr c0
    generalize w2 = w1 at HF ⊢
    with_reducible refine (secret_fm HF.out 5 2 rfl rfl HH.out HX3.out (by have := HFI.out.dr.2; omega) HFI.out.nm ⟨#[114, 111, 111, 116]⟩ F HNF.out (by decide)).mono ?_
    rintro e w1 ⟨T1, rfl, hT, hF⟩
    replace HF := zh hF
    clear hF
    have HT1 := zh hT
    clear hT
    simp only [List.set_cons_zero, List.set_cons_succ] at HF
    try dsimp only
    go_wp2_with fail
    with_reducible refine (secret_fm HF.out 5 2 rfl rfl HH.out HX3.out (by have := HFI.out.dr.2; omega) HFI.out.nm ⟨#[115, 105, 103, 110]⟩ F HNF.out (by decide)).mono ?_
    rintro e w1 ⟨T2, rfl, hT, hF⟩
    replace HF := zh hF
    clear hF
    have HT2 := zh hT
    clear hT
    simp only [List.set_cons_zero, List.set_cons_succ] at HF
    try dsimp only
    obtain ⟨v0, hv0⟩ : ∃ v0, lastV u F.data.toList = v0 := ⟨_, rfl⟩
    have hv2 := lastV_le HFI.out F.data.toList
    rw [hv0] at hv2
    have hwr : IntKind.u64.wrap ((v0 : Int) + 1) = (v0 : Int) + 1 := by rw [IntKind.wrap_u64]; omega
    have HGL := zh fun (W : World) (h : MapIs W mg u.gn (verV u)) => gone_look h HLV.out hF
    rw [hv0] at HGL
    have HV0 := zh hv0
    clear hv0 hv2
    go_wp2_with fail
    go_wp2_with fail
    have hdr := (HF.out.hide 3).go (Below.drewN' (Below.refl w1.heap.size w1) 1)
    have hfull := HF.out.go (Below.drewN' (Below.refl w1.heap.size w1) 1)
    refine wp_region_held_drew (S := fun w' => Fm (w00 w) w' _) (by kernel_rfl) hdr (fun _ => ?_)
    replace hdr : Fm (w00 w) w1.drew _ := hdr
    replace hfull : Fm (w00 w) w1.drew _ := hfull
    generalize w1.drew = w1 at hdr hfull ⊢
    replace HF := zh hfull
    have hHeld := hdr
    clear hdr hfull
    refine zqT 0 ?_ ?_ ?_; rotate_left; · (intro w' hSw; go_simp; try with_reducible rfl)
    refine zqT 1 ?_ ?_ ?_; rotate_left; · (intro w' hSw; go_simp; try with_reducible rfl)
    refine zqT 2 ?_ ?_ ?_; rotate_left; · (intro w' hSw; go_simp; try with_reducible rfl)
    try simp only [Act.put, zq1, zq2, zq3]
    refine zqT 3 ?_ ?_ ?_; rotate_left; · (intro w' hSw; have k4 := (rest_cell HH.out HX3.out (hSw.at 4 rfl) 4).trans HH.out.c4; have k5 := (rest_cell HH.out HX3.out (hSw.at 4 rfl) 5).trans HH.out.c5; obtain ⟨y0, y1, y2, y3, y4, y5⟩ := bx5 (hSw.at 0 rfl); have kl := HGL.out _ (hSw.at 3 rfl); go_simp; try with_reducible rfl)
    refine zqT 4 ?_ ?_ ?_; rotate_left; · (intro w' hSw; go_simp; try with_reducible rfl)
    refine zqT 5 ?_ ?_ ?_; rotate_left; · (intro w' hSw; have k4 := (rest_cell HH.out HX3.out (hSw.at 4 rfl) 4).trans HH.out.c4; have k5 := (rest_cell HH.out HX3.out (hSw.at 4 rfl) 5).trans HH.out.c5; obtain ⟨y0, y1, y2, y3, y4, y5⟩ := bx5 (hSw.at 0 rfl); have kl := HGL.out _ (hSw.at 3 rfl); go_simp; try with_reducible rfl)
    try simp only [Act.put, zq1, zq2, zq3]
    refine zqT 6 ?_ ?_ ?_; rotate_left; · (intro w' hSw; go_simp; try with_reducible rfl)
    refine zqT 7 ?_ ?_ ?_; rotate_left; · (intro w' hSw; go_simp; try with_reducible rfl)
    refine zqT 8 ?_ ?_ ?_; rotate_left; · (intro w' hSw; go_simp; try with_reducible rfl)
    try simp only [Act.put, zq1, zq2, zq3]
    refine zqT 9 ?_ ?_ ?_; rotate_left; · (intro w' hSw; have k4 := (rest_cell HH.out HX3.out (hSw.at 4 rfl) 4).trans HH.out.c4; have k5 := (rest_cell HH.out HX3.out (hSw.at 4 rfl) 5).trans HH.out.c5; obtain ⟨y0, y1, y2, y3, y4, y5⟩ := bx5 (hSw.at 0 rfl); have kl := HGL.out _ (hSw.at 3 rfl); go_simp; try with_reducible rfl)
    refine zqT 10 ?_ ?_ ?_; rotate_left; · (intro w' hSw; go_simp; try with_reducible rfl)
    refine zqT 11 ?_ ?_ ?_; rotate_left; · (intro w' hSw; have k4 := (rest_cell HH.out HX3.out (hSw.at 4 rfl) 4).trans HH.out.c4; have k5 := (rest_cell HH.out HX3.out (hSw.at 4 rfl) 5).trans HH.out.c5; obtain ⟨y0, y1, y2, y3, y4, y5⟩ := bx5 (hSw.at 0 rfl); have kl := HGL.out _ (hSw.at 3 rfl); go_simp; try with_reducible rfl)
    try simp only [Act.put, zq1, zq2, zq3]
    refine zqT 12 ?_ ?_ ?_; rotate_left; · (intro w' hSw; go_simp; try with_reducible rfl)
    refine zqT 13 ?_ ?_ ?_; rotate_left; · (intro w' hSw; go_simp; try with_reducible rfl)
    refine zqT 14 ?_ ?_ ?_; rotate_left; · (intro w' hSw; go_simp; try with_reducible rfl)
    try simp only [Act.put, zq1, zq2, zq3]
    try simp only [Act.put, zq1, zq2, zq3]
    clear hHeld
    refine zqR [15] ?_
    refine zqC (fun Kn hK => ?_) AllReadyH.nil
    go_simp
    have hF := HF.out.box #[.string T2] 9
    obtain ⟨gl, hg⟩ : ∃ g, w1.heap.size = g := ⟨_, rfl⟩
    rw [hg] at hF ⊢
    have HGW : Hid (w.heap.size ≤ gl) := zh (by have := (HF.out.at 5 rfl).1; omega)
    clear hg
    generalize w1.alloc (.cells #[.string T2] 9) = w1 at hF ⊢
    replace HF := zh hF
    clear hF
    refine hK.out _ _ (HF.out.tail.hide 3) (fun hHeld => ?_)
    refine zqT 16 ?_ ?_ ?_; rotate_left; · (intro w' hSw; go_simp; try with_reducible rfl)
    try simp only [Act.put, zq1, zq2, zq3]
    clear hHeld
    refine zqR [17] ?_
    refine zqC (fun Kn hK => ?_) AllReadyH.nil
    refine step_put rfl _ _ _ rfl rfl (HF.out.at 4 rfl) Tryz.underlying94 rfl (by omega) HLL.out (fun x => mem_lives) (by have := HL8.out; omega) rfl ?_
    intro w3 hm3 hg3 hz3
    have hF := HF.out.turn (q := mapP me _ _) 4 rfl (Grown.fr hg3) hm3 (fun b hb => .inl hb) (fun b hb => .inl hb)
    simp only [List.set_cons_zero, List.set_cons_succ] at hF
    replace HF := zh hF
    clear hm3 hg3 hz3 hF
    generalize w3 = w1 at HF ⊢
    refine hK.out _ _ (HF.out.tail.hide 3) (fun hHeld => ?_)
    try simp only [Act.put, zq1, zq2, zq3]
    refine wpAnyH_done (by kernel_rfl) ?_ _
    clear hHeld
    have c5 := (rest_cell HH.out HX3.out (HF.out.at 6 rfl) 5).trans HH.out.c5
    clear hwr
    go_wp2_with (at_delete; refine wpList_drop rfl _ _ rfl rfl (HF.out.at 5 rfl) Tryz.underlying95 rfl (by omega) ?_; intro w3 hm3 hg3 hz3; have hF := HF.out.turn (q := mapP mg _ _) 5 rfl (Grown.fr hg3) hm3 (fun b hb => .inl hb) (fun b hb => .inl hb); simp only [List.set_cons_zero, List.set_cons_succ] at hF; replace HF := zh hF; clear hm3 hg3 hz3 hF c5)
    go_ret
    exact created HH.out HS.out.1 HS.out.2 HLV.out (rest_fr HF.out 6 rfl) (HF.out.at 3 rfl) (HF.out.at 2 rfl) (HF.out.at 0 rfl) HGW.out HT1.out HT2.out HV0.out (HF.out.at 4 rfl) (HF.out.at 5 rfl) HR.out
end Go.Proofs.YtbdealddjonobaaGreat.Usr

