/-
  UCRevoke. By an AI agent.
-/
import Derived.Test.YtbdealddjonobaaGreatYZ
import Derived.Test.YtbdealddjonobaaGreatYU5
namespace Go.Proofs.YtbdealddjonobaaGreat.Usr
open Go Go.RowKit Wire Rig Draw Frm

set_option linter.unusedSimpArgs false
set_option linter.unusedVariables false
theorem revoked {g me mg db dc : Nat} {N C : ByteArray} {V : Tm → Value} {sb : Tm → Nat} {w w3 : World} {u : Us} {S M : Nat → Prop} (h : UserAt g me mg db dc N C V sb w u) (hS : ∀ b, S b ↔ Sb u g me mg db dc V sb b) (hMi : ∀ b, M b ↔ Mb u me mg db dc sb b) {F : Tm} (hl : u.live F = true) (hf : Frm.Fr (X4 me mg db (sb F)) w w3) (hd : DrawAt db dc w3 u.sd (u.dr + 1))
  {s1 : Rt} {o2 f2 : ByteArray} {A2 : Option Addr} {k2 : Nat} {B2 : Option Addr} {d2 vr : Nat} {R : ByteArray} {g2 c2 : Nat} {ss : List ByteArray} {T0 : ByteArray} (hx : IsX (fun j => w.heap.size ≤ j) w3 (RV o2 f2 s1.ep A2 s1.rs.length k2 B2 s1.ws.length d2) s1) (hap : ∀ j, (ritP w.heap.size o2 f2 s1.ep A2 s1.rs.length k2 B2 s1.ws.length d2 s1).S j → j ≠ g2)
  (hrow : (rowS g2 c2 (ss ++ [T0])).P w3) (hg2 : g2 = sb F ∨ w.heap.size ≤ g2) (hR : R.data.toList = (u.of F).root) (hss : bl ss = (u.of F).sg) (hT : T0.data.toList = u.sc uSign F u.dr) (hvr : (u.of F).ver = vr)
  (hm : MapIs w3 me (updH u.live F true) (updV V F (.agg #[.string o2, .string f2, .int .i64 s1.ep, .slice A2 s1.rs.length k2, .slice B2 s1.ws.length d2, .int .u64 ((vr : Int) + 1), .string R, .slice (some ⟨g2, 0, none⟩) (ss.length + 1) c2, .bool false]))) (hgm : MapIs w3 mg u.gn (verV u))
  {r : Us × Int} (hr : r = (⟨u.nm, u.sd, u.dr + 1, u.ns, updO u.of F ⟨s1, (u.of F).ver + 1, (u.of F).root, (u.of F).sg ++ [u.sc uSign F u.dr], false⟩⟩, 0)) : Turn DU ⟨g, 0, none⟩ S M r w (.returned (.int .i64 0)) w3 := by
 have hin := (live_in hl).1
 have hnd := h.nd
 have hlt := (h.rows F hl).lt
 have l1 := h.g_lt
 have l2 := h.hm.lt
 have l3 := h.gm.lt
 have l4 := (Array.getElem?_eq_some_iff.1 h.dr.b).1
 have l5 := (Array.getElem?_eq_some_iff.1 h.dr.c).1
 refine h.held hS hMi (u' := ⟨u.nm, u.sd, u.dr + 1, u.ns, updO u.of F ⟨s1, (u.of F).ver + 1, (u.of F).root, (u.of F).sg ++ [u.sc uSign F u.dr], false⟩⟩) (f := F) (b' := g2) (X := X4 me mg db (sb F)) rfl rfl (fun t => live_set hin _ (u.dr + 1) t) (fun t e => updO_ne e) hf (x4_mb hl) (fun t e ht h2 => ?_) hd hm (gn_kept hl rfl (u.dr + 1) hgm) ?_ (hg2.imp_left fun e => ⟨hl, e⟩) ?_ hr
 ·
  rcases h2 with h2 | h2 | h2 | h2
  · exact h.off t ht (by simp [h2])
  · exact h.off t ht (by simp [h2])
  · exact h.off t ht (by simp [h2])
  · exact e (h.inj t F ht hl h2)
 ·
  rcases hg2 with e | e
  · rw [e]; exact h.off F hl
  · simp; omega
 rw [show (⟨u.nm, u.sd, u.dr + 1, u.ns, updO u.of F ⟨s1, (u.of F).ver + 1, (u.of F).root, (u.of F).sg ++ [u.sc uSign F u.dr], false⟩⟩ : Us).of F = ⟨s1, (u.of F).ver + 1, (u.of F).root, (u.of F).sg ++ [u.sc uSign F u.dr], false⟩ from updO_self _ _ _]
 refine ⟨o2, f2, s1.ep, A2, s1.rs.length, k2, B2, s1.ws.length, d2, R, some ⟨g2, 0, none⟩, c2, ss ++ [T0], ?_, ?_, hR, ?_, rfl, hrow, rfl⟩
 · rw [hvr]; simp [OV]
 ·
  obtain ⟨o', f', A', c', rs, B', d', ws, h1, h2, h3, h4, h5, h6, h7, h8⟩ := id hx
  unfold RV at h1
  injection h1 with h1
  simp only [Array.mk.injEq, List.cons.injEq, Value.string.injEq, Value.int.injEq, Value.slice.injEq, and_true, true_and] at h1
  obtain ⟨rfl, rfl, ⟨rfl, hn1, rfl⟩, rfl, hn2, rfl⟩ := h1
  exact ⟨o2, f2, A2, k2, rs, B2, d2, ws, by rw [hn1, hn2], h2, h3, h4, h5, h6, fun b off e h0 => ⟨h7 b off e h0, hap b (.inl ⟨by rw [hn1]; exact h0, off, e⟩)⟩, fun b off e h0 => ⟨h8 b off e h0, hap b (.inr ⟨by rw [hn2]; exact h0, off, e⟩)⟩⟩
 ·
  show bl (ss ++ [T0]) = (u.of F).sg ++ [u.sc uSign F u.dr]
  rw [← hss, ← hT]
  simp [bl]
theorem own_some {w : World} {T : Option Addr} {n e b : Nat} {zs : List Value} {E : TypeId} (h : w.ownsRow 0 E 1 (.slice T n e) n zs) (hb : (Value.slice T n e).ownBlock = some b) : T = some ⟨b, 0, none⟩ := by
 rcases h.2 with ⟨h1, _⟩ | ⟨x, cap, cur, h1, _⟩
 · rw [h1] at hb; cases hb
 ·
  injection h1 with h1
  rw [h1] at hb ⊢
  rw [show x = b from Option.some.inj hb]
set_option maxHeartbeats 4000000 in
set_option maxRecDepth 1000000 in
theorem revoke_c (n : Nat) (a : Addr) (S M : Nat → Prop) (u : Us) (F W : ByteArray) (w : World) (h : DU w a S M u) (f : Fine n u) (hn : n ≤ 200) (hF : F.size ≤ 10000) (hW : W.size ≤ 10000) : Calls Tryz.prog 59 #[.pointer (some a), .string F, .string W] w (Turn DU a S M (revoke u F.data.toList W.data.toList) w) := by
 obtain ⟨g, me, mg, db, dc, N, C, V, sb, rfl, h, hS, hM⟩ := h
 have c4 := h.c4
 have glt := h.g_lt
 have hl := fun V T => held_look (h.below ((Below.refl _ w).alloc zl (.cells V T))) hF
 have hl0 := held_look h hF
 have HH := zh h
 have HS := zh (And.intro hS hM)
 have HFI := zh f
 clear h hS hM f
 cases hb : u.live F.data.toList
 case false =>
  have HR := zh (revoke_no (x := W.data.toList) hb)
  rw [hb] at hl hl0
  simp only [Bool.false_eq_true, if_false, OV] at hl hl0
  clear hb
  go_enter Tryz.func59, Tryz.ntmps59
  go_wp2_with fail
  go_ret
  exact stayed HS.out.1 HS.out.2 HH.out ((Below.refl _ w).alloc zl _) HR.out
 case true =>
  have HB := zh hb
  rw [hb] at hl hl0
  simp only [if_true] at hl hl0
  obtain ⟨o, f, ep, A, m, c, B, p, d, R, T, e, ss, hv, hx, hR, hss, hgo, hrow, hob⟩ := HH.out.rows _ hb
  rw [hv] at hl hl0
  simp only [OV] at hl hl0
  obtain rfl := own_some hrow hob
  have HX := zh hx
  have HK := zh (And.intro hR (And.intro hss hrow))
  have hfe := HFI.out.each _ (live_in hb).1
  have HFW := zh (few_right hfe.1)
  have HNF : Hid (nm F.data.toList = true) := zh (by have h1 := hfe.2.2.1; have h2 := hfe.1.2.1; rw [h1] at h2; exact h2)
  have hvl : (u.of F.data.toList).ver ≤ 200 := by have := hfe.2.2.2.2.1; omega
  obtain ⟨vr, hvr⟩ : ∃ vr, (u.of F.data.toList).ver = vr := ⟨_, rfl⟩
  rw [hvr] at hl hl0 hvl
  have HVR := zh hvr
  have hsl : ss.length + 1 ≤ 1000 := by have h1 := (held_small HFI.out hb).2.2; have h2 := hfe.2.2.2.2.2; have h3 := hfe.1.2.2.1; rw [← hss, bl_len] at h2; omega
  clear hb hv hx hR hss hgo hrow hob hvr hfe
  obtain ⟨s1, k, hgr⟩ : ∃ s1 k, rv (u.of F.data.toList).r W.data.toList = (s1, k) := ⟨_, _, rfl⟩
  have HGR := zh hgr
  clear hgr
  by_cases hk : k = 0
  case pos =>
   subst hk
   have HX4 := zh (x4_mb (me := me) (mg := mg) (db := db) (dc := dc) (sb := sb) HB.out)
   have HF := zh (user_fm4 HH.out HB.out HK.out.2.2)
   go_enter Tryz.func59, Tryz.ntmps59
   go_wp2_with fail
   have hF := HF.out.box #[.string o, .string f, .int .i64 ep, .slice A m c, .slice B p d, .int .u64 (vr : Int), .string R, .slice (some ⟨sb F.data.toList, 0, none⟩) ss.length e, .bool false] 50
   generalize w.alloc (.cells #[.string o, .string f, .int .i64 ep, .slice A m c, .slice B p d, .int .u64 (vr : Int), .string R, .slice (some ⟨sb F.data.toList, 0, none⟩) ss.length e, .bool false] 50) = w1 at hF ⊢
   replace HF := zh hF
   clear hF
   clear hl hl0 c4
   with_reducible refine (revoke_at (isX_rest HX4.out (HF.out.at 5 rfl) HX.out) HFW.out W).mono ?_
   rintro en w2 ⟨⟨v', hx', rfl⟩, hb⟩
   rw [HGR.out] at hx' ⊢
   obtain ⟨o2, f2, A2, k2, B2, d2, rfl, hF⟩ := rit_lo HF.out w.heap.size ⟨Nat.zero_le _, (HF.out.at 5 rfl).1⟩ hb hx'
   replace HF := zh hF
   clear hb hx' hF
   generalize w2 = w1 at HF ⊢
   dsimp only
   obtain ⟨x0, x1, x2, x3, x4, x5, x6, x7, x8, x9⟩ := bx9 (HF.out.at 1 rfl)
   have fo := box_sf (HF.out.at 1 rfl)
   have hwr : IntKind.u64.wrap ((vr : Int) + 1) = (vr : Int) + 1 := by rw [IntKind.wrap_u64]; omega
   go_wp2_with fail
   have hF := (((((((HF.out.put 1 rfl 0 (.string o2) #[.string o2, .string f, .int .i64 ep, .slice A m c, .slice B p d, .int .u64 (vr : Int), .string R, .slice (some ⟨sb F.data.toList, 0, none⟩) ss.length e, .bool false] rfl).put 1 rfl 1 (.string f2) #[.string o2, .string f2, .int .i64 ep, .slice A m c, .slice B p d, .int .u64 (vr : Int), .string R, .slice (some ⟨sb F.data.toList, 0, none⟩) ss.length e, .bool false] rfl).put 1 rfl 2 (.int .i64 s1.ep) #[.string o2, .string f2, .int .i64 s1.ep, .slice A m c, .slice B p d, .int .u64 (vr : Int), .string R, .slice (some ⟨sb F.data.toList, 0, none⟩) ss.length e, .bool false] rfl).put 1 rfl 3 (.slice A2 s1.rs.length k2) #[.string o2, .string f2, .int .i64 s1.ep, .slice A2 s1.rs.length k2, .slice B p d, .int .u64 (vr : Int), .string R, .slice (some ⟨sb F.data.toList, 0, none⟩) ss.length e, .bool false] rfl).put 1 rfl 4 (.slice B2 s1.ws.length d2) #[.string o2, .string f2, .int .i64 s1.ep, .slice A2 s1.rs.length k2, .slice B2 s1.ws.length d2, .int .u64 (vr : Int), .string R, .slice (some ⟨sb F.data.toList, 0, none⟩) ss.length e, .bool false] rfl).put 1 rfl 5 (.int .u64 ((vr : Int) + 1)) #[.string o2, .string f2, .int .i64 s1.ep, .slice A2 s1.rs.length k2, .slice B2 s1.ws.length d2, .int .u64 ((vr : Int) + 1), .string R, .slice (some ⟨sb F.data.toList, 0, none⟩) ss.length e, .bool false] rfl).box #[.string o2, .string f2, .int .i64 s1.ep, .slice A2 s1.rs.length k2, .slice B2 s1.ws.length d2] 48)
   simp only [List.set_cons_zero, List.set_cons_succ] at hF
   clear x0 x1 x2 x3 x4 x5 x6 x7 x8 x9
   clear fo
   generalize (((((((w1.setCell ⟨w.heap.size, 0, none⟩ (.string o2)).setCell ⟨w.heap.size, 1, none⟩ (.string f2)).setCell ⟨w.heap.size, 2, none⟩ (.int .i64 s1.ep)).setCell ⟨w.heap.size, 3, none⟩ (.slice A2 s1.rs.length k2)).setCell ⟨w.heap.size, 4, none⟩ (.slice B2 s1.ws.length d2)).setCell ⟨w.heap.size, 5, none⟩ (.int .u64 ((vr : Int) + 1))).alloc (.cells #[.string o2, .string f2, .int .i64 s1.ep, .slice A2 s1.rs.length k2, .slice B2 s1.ws.length d2] 48)) = w2 at hF ⊢
   replace HF := zh hF
   clear hF
   generalize w2 = w1 at HF ⊢
   replace HF := zh HF.out.tail
   go_wp2_with fail
   replace HF : Hid (Fm (w00 w) w1.drew _) := zh (HF.out.go (Below.drewN' (Below.refl w1.heap.size w1) 1))
   refine wp_region_held_drew (S := fun _ => True) (by kernel_rfl) trivial (fun hHeld => ?_)
   generalize w1.drew = w1 at HF ⊢
   try simp only [Act.put, zq1, zq2, zq3]
   refine zqT 0 ?_ ?_ ?_; rotate_left; · (intro w' hSw; go_simp; try with_reducible rfl)
   refine zqT 2 ?_ ?_ ?_; rotate_left; · (intro w' hSw; go_simp; try with_reducible rfl)
   refine zqT 3 ?_ ?_ ?_; rotate_left; · (intro w' hSw; go_simp; try with_reducible rfl)
   try simp only [Act.put, zq1, zq2, zq3]
   clear hHeld
   refine zqR [1, 4] ?_
   refine zqC (fun Kn hK => ?_) (zqC (fun Kn hK => ?_) AllReadyH.nil)
   ·
    obtain ⟨q00, q01, q02, q03, q04, q05, q06, q07, q08, q09⟩ := bx9 (HF.out.at 1 rfl)
    go_simp
    clear q00 q01 q02 q03 q04 q05 q06 q07 q08 q09
    refine hK.out _ _ trivial (fun hHeld => ?_)
    try simp only [Act.put, zq1, zq2, zq3]
    clear hHeld
    refine zqR [4] ?_
    refine zqC (fun Kn hK => ?_) AllReadyH.nil
    go_simp
    with_reducible refine (secret_fm HF.out 6 3 rfl rfl HH.out HX4.out (by have := HFI.out.dr.2; omega) HFI.out.nm ⟨#[115, 105, 103, 110]⟩ F HNF.out (by decide)).mono ?_
    rintro e w1 ⟨T0, rfl, hT, hF⟩
    replace HF := zh hF
    clear hF
    have HT := zh hT
    clear hT
    simp only [List.set_cons_zero, List.set_cons_succ] at HF
    try dsimp only
    refine hK.out _ _ trivial (fun hHeld => ?_)
    try simp only [Act.put, zq1, zq2, zq3]
    clear hHeld
    refine zqR [5] ?_
    refine zqC (fun Kn hK => ?_) AllReadyH.nil
    go_simp
    have hF := HF.out.box #[.string T0] 9
    obtain ⟨gl, hg⟩ : ∃ g, w1.heap.size = g := ⟨_, rfl⟩
    rw [hg] at hF ⊢
    clear hg
    generalize w1.alloc (.cells #[.string T0] 9) = w1 at hF ⊢
    replace HF := zh hF
    clear hF
    refine hK.out _ _ trivial (fun hHeld => ?_)
    try simp only [Act.put, zq1, zq2, zq3]
    clear hHeld
    refine zqR [6] ?_
    refine zqC (fun Kn hK => ?_) AllReadyH.nil
    rw [if_pos (by rfl)]
    refine fmS_append 3 rfl HF.out (.tmp 39) (.tmp 43) rfl T0 gl 1 rfl rfl (box_at (HF.out.at 0 rfl) 0) hsl ?_
    intro g2 c2 w2 hg2 hF
    simp only [List.set_cons_zero, List.set_cons_succ] at hF
    have HG2 : Hid (g2 = sb F.data.toList ∨ w.heap.size ≤ g2) := zh (hg2.imp_right fun h => Nat.le_trans (HF.out.at 7 rfl).1 h)
    replace HF := zh hF
    clear hF hg2
    generalize w2 = w1 at HF ⊢
    replace HF := zh HF.out.tail
    refine hK.out _ _ trivial (fun hHeld => ?_)
    try simp only [Act.put, zq1, zq2, zq3]
    refine zqT 7 ?_ ?_ ?_; rotate_left; · (intro w' hSw; go_simp; try with_reducible rfl)
    try simp only [Act.put, zq1, zq2, zq3]
    clear hHeld
    refine zqR [8] ?_
    refine zqC (fun Kn hK => ?_) AllReadyH.nil
    have hbx := HF.out.at 1 rfl
    have hlc := box_at hbx 7
    have hlf := box_sf hbx 7
    go_simp
    clear hlc hlf hbx
    have hF := HF.out.put 1 rfl 7 (.slice (some ⟨g2, 0, none⟩) (ss.length + 1) c2) #[.string o2, .string f2, .int .i64 s1.ep, .slice A2 s1.rs.length k2, .slice B2 s1.ws.length d2, .int .u64 ((vr : Int) + 1), .string R, .slice (some ⟨g2, 0, none⟩) (ss.length + 1) c2, .bool false] rfl
    simp only [List.set_cons_zero, List.set_cons_succ] at hF
    generalize w1.setCell ⟨w.heap.size, 7, none⟩ (.slice (some ⟨g2, 0, none⟩) (ss.length + 1) c2) = w1 at hF ⊢
    replace HF := zh hF
    clear hF
    refine hK.out _ _ trivial (fun hHeld => ?_)
    try simp only [Act.put, zq1, zq2, zq3]
    refine wpAnyH_done (by kernel_rfl) ?_ _
    clear hHeld
    go_wp2_with fail
    replace HF : Hid (Fm (w00 w) w1.drew _) := zh (HF.out.go (Below.drewN' (Below.refl w1.heap.size w1) 1))
    have hdr : w1.drew.cell? ⟨g, 4, none⟩ = some (.map (some me)) ∧ (box w.heap.size #[.string o2, .string f2, .int .i64 s1.ep, .slice A2 s1.rs.length k2, .slice B2 s1.ws.length d2, .int .u64 ((vr : Int) + 1), .string R, .slice (some ⟨g2, 0, none⟩) (ss.length + 1) c2, .bool false] 50).P w1.drew := ⟨(rest_cell HH.out HX4.out (HF.out.at 6 rfl) 4).trans HH.out.c4, HF.out.at 1 rfl⟩
    refine wp_region_held_drew (w := w1) (S := fun w' => w'.cell? ⟨g, 4, none⟩ = some (.map (some me)) ∧ (box w.heap.size #[.string o2, .string f2, .int .i64 s1.ep, .slice A2 s1.rs.length k2, .slice B2 s1.ws.length d2, .int .u64 ((vr : Int) + 1), .string R, .slice (some ⟨g2, 0, none⟩) (ss.length + 1) c2, .bool false] 50).P w') (by kernel_rfl) hdr (fun hHeld => ?_)
    clear hdr
    generalize w1.drew = w1 at HF hHeld ⊢
    refine zqT 0 ?_ ?_ ?_; rotate_left; · (intro w' hSw; go_simp; try with_reducible rfl)
    refine zqT 1 ?_ ?_ ?_; rotate_left; · (intro w' hSw; go_simp; try with_reducible rfl)
    refine zqT 2 ?_ ?_ ?_; rotate_left; · (intro w' hSw; go_simp; try with_reducible rfl)
    try simp only [Act.put, zq1, zq2, zq3]
    refine zqT 3 ?_ ?_ ?_; rotate_left; · (intro w' hSw; obtain ⟨k0, kb⟩ := hSw; obtain ⟨x0, x1, x2, x3, x4, x5, x6, x7, x8, x9⟩ := bx9 kb; go_simp; try with_reducible rfl)
    refine zqT 4 ?_ ?_ ?_; rotate_left; · (intro w' hSw; go_simp; try with_reducible rfl)
    refine zqT 5 ?_ ?_ ?_; rotate_left; · (intro w' hSw; obtain ⟨k0, kb⟩ := hSw; obtain ⟨x0, x1, x2, x3, x4, x5, x6, x7, x8, x9⟩ := bx9 kb; go_simp; try with_reducible rfl)
    try simp only [Act.put, zq1, zq2, zq3]
    try simp only [Act.put, zq1, zq2, zq3]
    have HHD := zh hHeld
    clear hHeld
    refine zqR [6] ?_
    refine zqC (fun Kn hK => ?_) AllReadyH.nil
    refine step_put rfl _ _ _ rfl rfl (HF.out.at 4 rfl) Tryz.underlying94 rfl (by omega) (lives_nodup HFI.out) (fun x => mem_lives) (Nat.le_trans HFI.out.eight (by decide)) rfl ?_
    intro w3 hm3 hg3 hz3
    have hF := HF.out.turn (q := mapP me _ _) 4 rfl (Grown.fr hg3) hm3 (fun b hb => .inl hb) (fun b hb => .inl hb)
    simp only [List.set_cons_zero, List.set_cons_succ] at hF
    replace HF := zh hF
    clear hm3 hg3 hz3 hF
    generalize w3 = w1 at HF ⊢
    refine hK.out _ _ ⟨(rest_cell HH.out HX4.out (HF.out.at 6 rfl) 4).trans HH.out.c4, HF.out.at 1 rfl⟩ (fun hHeld => ?_)
    try simp only [Act.put, zq1, zq2, zq3]
    refine wpAnyH_done (by kernel_rfl) ?_ _
    clear hHeld
    go_wp2_with fail
    go_ret
    exact revoked HH.out HS.out.1 HS.out.2 HB.out (rest_fr HF.out 6 rfl) (HF.out.at 3 rfl) (HF.out.at 0 rfl) (fun j hj e => (HF.out.apart 2 0 (by decide) rfl rfl j).1 ⟨e, hj⟩) (HF.out.at 2 rfl) HG2.out HK.out.1 HK.out.2.1 HT.out HVR.out (HF.out.at 4 rfl) (HF.out.at 5 rfl) (revoke_ok HB.out HGR.out)
   ·
    go_simp
    with_reducible refine (secret_fm HF.out 6 3 rfl rfl HH.out HX4.out (by have := HFI.out.dr.2; omega) HFI.out.nm ⟨#[115, 105, 103, 110]⟩ F HNF.out (by decide)).mono ?_
    rintro e w1 ⟨T0, rfl, hT, hF⟩
    replace HF := zh hF
    clear hF
    have HT := zh hT
    clear hT
    simp only [List.set_cons_zero, List.set_cons_succ] at HF
    try dsimp only
    refine hK.out _ _ trivial (fun hHeld => ?_)
    try simp only [Act.put, zq1, zq2, zq3]
    clear hHeld
    refine zqR [1, 5] ?_
    refine zqC (fun Kn hK => ?_) (zqC (fun Kn hK => ?_) AllReadyH.nil)
    ·
     obtain ⟨q00, q01, q02, q03, q04, q05, q06, q07, q08, q09⟩ := bx9 (HF.out.at 1 rfl)
     go_simp
     clear q00 q01 q02 q03 q04 q05 q06 q07 q08 q09
     refine hK.out _ _ trivial (fun hHeld => ?_)
     try simp only [Act.put, zq1, zq2, zq3]
     clear hHeld
     refine zqR [5] ?_
     refine zqC (fun Kn hK => ?_) AllReadyH.nil
     go_simp
     have hF := HF.out.box #[.string T0] 9
     obtain ⟨gl, hg⟩ : ∃ g, w1.heap.size = g := ⟨_, rfl⟩
     rw [hg] at hF ⊢
     clear hg
     generalize w1.alloc (.cells #[.string T0] 9) = w1 at hF ⊢
     replace HF := zh hF
     clear hF
     refine hK.out _ _ trivial (fun hHeld => ?_)
     try simp only [Act.put, zq1, zq2, zq3]
     clear hHeld
     refine zqR [6] ?_
     refine zqC (fun Kn hK => ?_) AllReadyH.nil
     rw [if_pos (by rfl)]
     refine fmS_append 3 rfl HF.out (.tmp 39) (.tmp 43) rfl T0 gl 1 rfl rfl (box_at (HF.out.at 0 rfl) 0) hsl ?_
     intro g2 c2 w2 hg2 hF
     simp only [List.set_cons_zero, List.set_cons_succ] at hF
     have HG2 : Hid (g2 = sb F.data.toList ∨ w.heap.size ≤ g2) := zh (hg2.imp_right fun h => Nat.le_trans (HF.out.at 7 rfl).1 h)
     replace HF := zh hF
     clear hF hg2
     generalize w2 = w1 at HF ⊢
     replace HF := zh HF.out.tail
     refine hK.out _ _ trivial (fun hHeld => ?_)
     try simp only [Act.put, zq1, zq2, zq3]
     refine zqT 7 ?_ ?_ ?_; rotate_left; · (intro w' hSw; go_simp; try with_reducible rfl)
     try simp only [Act.put, zq1, zq2, zq3]
     clear hHeld
     refine zqR [8] ?_
     refine zqC (fun Kn hK => ?_) AllReadyH.nil
     have hbx := HF.out.at 1 rfl
     have hlc := box_at hbx 7
     have hlf := box_sf hbx 7
     go_simp
     clear hlc hlf hbx
     have hF := HF.out.put 1 rfl 7 (.slice (some ⟨g2, 0, none⟩) (ss.length + 1) c2) #[.string o2, .string f2, .int .i64 s1.ep, .slice A2 s1.rs.length k2, .slice B2 s1.ws.length d2, .int .u64 ((vr : Int) + 1), .string R, .slice (some ⟨g2, 0, none⟩) (ss.length + 1) c2, .bool false] rfl
     simp only [List.set_cons_zero, List.set_cons_succ] at hF
     generalize w1.setCell ⟨w.heap.size, 7, none⟩ (.slice (some ⟨g2, 0, none⟩) (ss.length + 1) c2) = w1 at hF ⊢
     replace HF := zh hF
     clear hF
     refine hK.out _ _ trivial (fun hHeld => ?_)
     try simp only [Act.put, zq1, zq2, zq3]
     refine wpAnyH_done (by kernel_rfl) ?_ _
     clear hHeld
     go_wp2_with fail
     replace HF : Hid (Fm (w00 w) w1.drew _) := zh (HF.out.go (Below.drewN' (Below.refl w1.heap.size w1) 1))
     have hdr : w1.drew.cell? ⟨g, 4, none⟩ = some (.map (some me)) ∧ (box w.heap.size #[.string o2, .string f2, .int .i64 s1.ep, .slice A2 s1.rs.length k2, .slice B2 s1.ws.length d2, .int .u64 ((vr : Int) + 1), .string R, .slice (some ⟨g2, 0, none⟩) (ss.length + 1) c2, .bool false] 50).P w1.drew := ⟨(rest_cell HH.out HX4.out (HF.out.at 6 rfl) 4).trans HH.out.c4, HF.out.at 1 rfl⟩
     refine wp_region_held_drew (w := w1) (S := fun w' => w'.cell? ⟨g, 4, none⟩ = some (.map (some me)) ∧ (box w.heap.size #[.string o2, .string f2, .int .i64 s1.ep, .slice A2 s1.rs.length k2, .slice B2 s1.ws.length d2, .int .u64 ((vr : Int) + 1), .string R, .slice (some ⟨g2, 0, none⟩) (ss.length + 1) c2, .bool false] 50).P w') (by kernel_rfl) hdr (fun hHeld => ?_)
     clear hdr
     generalize w1.drew = w1 at HF hHeld ⊢
     refine zqT 0 ?_ ?_ ?_; rotate_left; · (intro w' hSw; go_simp; try with_reducible rfl)
     refine zqT 1 ?_ ?_ ?_; rotate_left; · (intro w' hSw; go_simp; try with_reducible rfl)
     refine zqT 2 ?_ ?_ ?_; rotate_left; · (intro w' hSw; go_simp; try with_reducible rfl)
     try simp only [Act.put, zq1, zq2, zq3]
     refine zqT 3 ?_ ?_ ?_; rotate_left; · (intro w' hSw; obtain ⟨k0, kb⟩ := hSw; obtain ⟨x0, x1, x2, x3, x4, x5, x6, x7, x8, x9⟩ := bx9 kb; go_simp; try with_reducible rfl)
     refine zqT 4 ?_ ?_ ?_; rotate_left; · (intro w' hSw; go_simp; try with_reducible rfl)
     refine zqT 5 ?_ ?_ ?_; rotate_left; · (intro w' hSw; obtain ⟨k0, kb⟩ := hSw; obtain ⟨x0, x1, x2, x3, x4, x5, x6, x7, x8, x9⟩ := bx9 kb; go_simp; try with_reducible rfl)
     try simp only [Act.put, zq1, zq2, zq3]
     try simp only [Act.put, zq1, zq2, zq3]
     have HHD := zh hHeld
     clear hHeld
     refine zqR [6] ?_
     refine zqC (fun Kn hK => ?_) AllReadyH.nil
     refine step_put rfl _ _ _ rfl rfl (HF.out.at 4 rfl) Tryz.underlying94 rfl (by omega) (lives_nodup HFI.out) (fun x => mem_lives) (Nat.le_trans HFI.out.eight (by decide)) rfl ?_
     intro w3 hm3 hg3 hz3
     have hF := HF.out.turn (q := mapP me _ _) 4 rfl (Grown.fr hg3) hm3 (fun b hb => .inl hb) (fun b hb => .inl hb)
     simp only [List.set_cons_zero, List.set_cons_succ] at hF
     replace HF := zh hF
     clear hm3 hg3 hz3 hF
     generalize w3 = w1 at HF ⊢
     refine hK.out _ _ ⟨(rest_cell HH.out HX4.out (HF.out.at 6 rfl) 4).trans HH.out.c4, HF.out.at 1 rfl⟩ (fun hHeld => ?_)
     try simp only [Act.put, zq1, zq2, zq3]
     refine wpAnyH_done (by kernel_rfl) ?_ _
     clear hHeld
     go_wp2_with fail
     go_ret
     exact revoked HH.out HS.out.1 HS.out.2 HB.out (rest_fr HF.out 6 rfl) (HF.out.at 3 rfl) (HF.out.at 0 rfl) (fun j hj e => (HF.out.apart 2 0 (by decide) rfl rfl j).1 ⟨e, hj⟩) (HF.out.at 2 rfl) HG2.out HK.out.1 HK.out.2.1 HT.out HVR.out (HF.out.at 4 rfl) (HF.out.at 5 rfl) (revoke_ok HB.out HGR.out)
    ·
     go_simp
     have hF := HF.out.box #[.string T0] 9
     obtain ⟨gl, hg⟩ : ∃ g, w1.heap.size = g := ⟨_, rfl⟩
     rw [hg] at hF ⊢
     clear hg
     generalize w1.alloc (.cells #[.string T0] 9) = w1 at hF ⊢
     replace HF := zh hF
     clear hF
     refine hK.out _ _ trivial (fun hHeld => ?_)
     try simp only [Act.put, zq1, zq2, zq3]
     clear hHeld
     refine zqR [1] ?_
     refine zqC (fun Kn hK => ?_) AllReadyH.nil
     obtain ⟨q00, q01, q02, q03, q04, q05, q06, q07, q08, q09⟩ := bx9 (HF.out.at 2 rfl)
     go_simp
     clear q00 q01 q02 q03 q04 q05 q06 q07 q08 q09
     refine hK.out _ _ trivial (fun hHeld => ?_)
     try simp only [Act.put, zq1, zq2, zq3]
     clear hHeld
     refine zqR [6] ?_
     refine zqC (fun Kn hK => ?_) AllReadyH.nil
     rw [if_pos (by rfl)]
     refine fmS_append 3 rfl HF.out (.tmp 39) (.tmp 43) rfl T0 gl 1 rfl rfl (box_at (HF.out.at 0 rfl) 0) hsl ?_
     intro g2 c2 w2 hg2 hF
     simp only [List.set_cons_zero, List.set_cons_succ] at hF
     have HG2 : Hid (g2 = sb F.data.toList ∨ w.heap.size ≤ g2) := zh (hg2.imp_right fun h => Nat.le_trans (HF.out.at 7 rfl).1 h)
     replace HF := zh hF
     clear hF hg2
     generalize w2 = w1 at HF ⊢
     replace HF := zh HF.out.tail
     refine hK.out _ _ trivial (fun hHeld => ?_)
     try simp only [Act.put, zq1, zq2, zq3]
     refine zqT 7 ?_ ?_ ?_; rotate_left; · (intro w' hSw; go_simp; try with_reducible rfl)
     try simp only [Act.put, zq1, zq2, zq3]
     clear hHeld
     refine zqR [8] ?_
     refine zqC (fun Kn hK => ?_) AllReadyH.nil
     have hbx := HF.out.at 1 rfl
     have hlc := box_at hbx 7
     have hlf := box_sf hbx 7
     go_simp
     clear hlc hlf hbx
     have hF := HF.out.put 1 rfl 7 (.slice (some ⟨g2, 0, none⟩) (ss.length + 1) c2) #[.string o2, .string f2, .int .i64 s1.ep, .slice A2 s1.rs.length k2, .slice B2 s1.ws.length d2, .int .u64 ((vr : Int) + 1), .string R, .slice (some ⟨g2, 0, none⟩) (ss.length + 1) c2, .bool false] rfl
     simp only [List.set_cons_zero, List.set_cons_succ] at hF
     generalize w1.setCell ⟨w.heap.size, 7, none⟩ (.slice (some ⟨g2, 0, none⟩) (ss.length + 1) c2) = w1 at hF ⊢
     replace HF := zh hF
     clear hF
     refine hK.out _ _ trivial (fun hHeld => ?_)
     try simp only [Act.put, zq1, zq2, zq3]
     refine wpAnyH_done (by kernel_rfl) ?_ _
     clear hHeld
     go_wp2_with fail
     replace HF : Hid (Fm (w00 w) w1.drew _) := zh (HF.out.go (Below.drewN' (Below.refl w1.heap.size w1) 1))
     have hdr : w1.drew.cell? ⟨g, 4, none⟩ = some (.map (some me)) ∧ (box w.heap.size #[.string o2, .string f2, .int .i64 s1.ep, .slice A2 s1.rs.length k2, .slice B2 s1.ws.length d2, .int .u64 ((vr : Int) + 1), .string R, .slice (some ⟨g2, 0, none⟩) (ss.length + 1) c2, .bool false] 50).P w1.drew := ⟨(rest_cell HH.out HX4.out (HF.out.at 6 rfl) 4).trans HH.out.c4, HF.out.at 1 rfl⟩
     refine wp_region_held_drew (w := w1) (S := fun w' => w'.cell? ⟨g, 4, none⟩ = some (.map (some me)) ∧ (box w.heap.size #[.string o2, .string f2, .int .i64 s1.ep, .slice A2 s1.rs.length k2, .slice B2 s1.ws.length d2, .int .u64 ((vr : Int) + 1), .string R, .slice (some ⟨g2, 0, none⟩) (ss.length + 1) c2, .bool false] 50).P w') (by kernel_rfl) hdr (fun hHeld => ?_)
     clear hdr
     generalize w1.drew = w1 at HF hHeld ⊢
     refine zqT 0 ?_ ?_ ?_; rotate_left; · (intro w' hSw; go_simp; try with_reducible rfl)
     refine zqT 1 ?_ ?_ ?_; rotate_left; · (intro w' hSw; go_simp; try with_reducible rfl)
     refine zqT 2 ?_ ?_ ?_; rotate_left; · (intro w' hSw; go_simp; try with_reducible rfl)
     try simp only [Act.put, zq1, zq2, zq3]
     refine zqT 3 ?_ ?_ ?_; rotate_left; · (intro w' hSw; obtain ⟨k0, kb⟩ := hSw; obtain ⟨x0, x1, x2, x3, x4, x5, x6, x7, x8, x9⟩ := bx9 kb; go_simp; try with_reducible rfl)
     refine zqT 4 ?_ ?_ ?_; rotate_left; · (intro w' hSw; go_simp; try with_reducible rfl)
     refine zqT 5 ?_ ?_ ?_; rotate_left; · (intro w' hSw; obtain ⟨k0, kb⟩ := hSw; obtain ⟨x0, x1, x2, x3, x4, x5, x6, x7, x8, x9⟩ := bx9 kb; go_simp; try with_reducible rfl)
     try simp only [Act.put, zq1, zq2, zq3]
     try simp only [Act.put, zq1, zq2, zq3]
     have HHD := zh hHeld
     clear hHeld
     refine zqR [6] ?_
     refine zqC (fun Kn hK => ?_) AllReadyH.nil
     refine step_put rfl _ _ _ rfl rfl (HF.out.at 4 rfl) Tryz.underlying94 rfl (by omega) (lives_nodup HFI.out) (fun x => mem_lives) (Nat.le_trans HFI.out.eight (by decide)) rfl ?_
     intro w3 hm3 hg3 hz3
     have hF := HF.out.turn (q := mapP me _ _) 4 rfl (Grown.fr hg3) hm3 (fun b hb => .inl hb) (fun b hb => .inl hb)
     simp only [List.set_cons_zero, List.set_cons_succ] at hF
     replace HF := zh hF
     clear hm3 hg3 hz3 hF
     generalize w3 = w1 at HF ⊢
     refine hK.out _ _ ⟨(rest_cell HH.out HX4.out (HF.out.at 6 rfl) 4).trans HH.out.c4, HF.out.at 1 rfl⟩ (fun hHeld => ?_)
     try simp only [Act.put, zq1, zq2, zq3]
     refine wpAnyH_done (by kernel_rfl) ?_ _
     clear hHeld
     go_wp2_with fail
     go_ret
     exact revoked HH.out HS.out.1 HS.out.2 HB.out (rest_fr HF.out 6 rfl) (HF.out.at 3 rfl) (HF.out.at 0 rfl) (fun j hj e => (HF.out.apart 2 0 (by decide) rfl rfl j).1 ⟨e, hj⟩) (HF.out.at 2 rfl) HG2.out HK.out.1 HK.out.2.1 HT.out HVR.out (HF.out.at 4 rfl) (HF.out.at 5 rfl) (revoke_ok HB.out HGR.out)
  case neg =>
   have HR := zh (revoke_bad HB.out HGR.out hk)
   have HF := zh (fm_refl w)
   go_enter Tryz.func59, Tryz.ntmps59
   go_wp2_with fail
   have hF := HF.out.box #[.string o, .string f, .int .i64 ep, .slice A m c, .slice B p d, .int .u64 (vr : Int), .string R, .slice (some ⟨sb F.data.toList, 0, none⟩) ss.length e, .bool false] 50
   generalize w.alloc (.cells #[.string o, .string f, .int .i64 ep, .slice A m c, .slice B p d, .int .u64 (vr : Int), .string R, .slice (some ⟨sb F.data.toList, 0, none⟩) ss.length e, .bool false] 50) = w1 at hF ⊢
   replace HF := zh hF
   clear hF
   clear hl hl0 c4
   with_reducible refine (revoke_at (HX.out.below HF.out.bel zl) HFW.out W).mono ?_
   rintro en w2 ⟨⟨v', hx', rfl⟩, hb⟩
   rw [HGR.out] at hx' ⊢
   obtain ⟨o2, f2, A2, k2, B2, d2, rfl, hF⟩ := rit_fm HF.out hb hx'
   replace HF := zh hF
   clear hb hx' hF
   generalize w2 = w1 at HF ⊢
   dsimp only
   go_wp2_with fail
   go_ret
   exact stayed HS.out.1 HS.out.2 HH.out (HF.out.bel.alloc HF.out.bel.size _) HR.out
end Go.Proofs.YtbdealddjonobaaGreat.Usr

