/-
  U4. By an AI agent.
-/
import Derived.Test.YtbdealddjonobaaGreatYZ
import Derived.Test.YtbdealddjonobaaGreatYU2
import Derived.Test.YtbdealddjonobaaGreatYU1
import Derived.Test.YtbdealddjonobaaGreatYB1
namespace Go.Proofs.YtbdealddjonobaaGreat.Usr
open Go Go.RowKit Wire Rig Draw Frm

set_option linter.unusedSimpArgs false
set_option linter.unusedVariables false
def rowO (g : Nat) (ys : List ByteArray) : Part where
  P w := w.ownsRow g 9 1 (.slice (some ⟨g, 0, none⟩) ys.length ys.length) ys.length (sv ys)
  S b := b = g
  M b := b = g
  sub _ h := h
  dep _ h hs := ownsRow_move h fun b hb => by
    obtain rfl : g = b := Option.some.inj hb
    exact hs _ rfl
  old h b e := by
    subst e
    exact (World.ownsRow.lt h _ rfl).2
theorem _root_.Go.Proofs.YtbdealddjonobaaGreat.Frm.Fm.fill9 {w0 w : World} {l : List Part} {g : Nat} {u0 u1 u2 u3 u4 u5 u6 u7 u8 : Value} {t : TypeId} (h : Fm w0 w l) (i : Nat) (hi : l[i]? = some (Frm.box g #[u0, u1, u2, u3, u4, u5, u6, u7, u8] t)) (v0 v1 v2 v3 v4 v5 v6 v7 v8 : Value) : Fm w0 (((((((((w.setCell ⟨g, 0, none⟩ v0).setCell ⟨g, 1, none⟩ v1).setCell ⟨g, 2, none⟩ v2).setCell ⟨g, 3, none⟩ v3).setCell ⟨g, 4, none⟩ v4).setCell ⟨g, 5, none⟩ v5).setCell ⟨g, 6, none⟩ v6).setCell ⟨g, 7, none⟩ v7).setCell ⟨g, 8, none⟩ v8) (l.set i (Frm.box g #[v0, v1, v2, v3, v4, v5, v6, v7, v8] t)) := by
 have hl := (List.getElem?_eq_some_iff.1 hi).1
 have h0 := Fm.put h i hi 0 v0 #[v0, u1, u2, u3, u4, u5, u6, u7, u8] rfl
 have e0 : (l.set i (Frm.box g #[v0, u1, u2, u3, u4, u5, u6, u7, u8] t))[i]? = some (Frm.box g #[v0, u1, u2, u3, u4, u5, u6, u7, u8] t) := List.getElem?_set_self (by simpa using hl)
 have h1 := Fm.put h0 i e0 1 v1 #[v0, v1, u2, u3, u4, u5, u6, u7, u8] rfl
 have e1 : ((l.set i (Frm.box g #[v0, u1, u2, u3, u4, u5, u6, u7, u8] t)).set i (Frm.box g #[v0, v1, u2, u3, u4, u5, u6, u7, u8] t))[i]? = some (Frm.box g #[v0, v1, u2, u3, u4, u5, u6, u7, u8] t) := List.getElem?_set_self (by simpa using hl)
 have h2 := Fm.put h1 i e1 2 v2 #[v0, v1, v2, u3, u4, u5, u6, u7, u8] rfl
 have e2 : (((l.set i (Frm.box g #[v0, u1, u2, u3, u4, u5, u6, u7, u8] t)).set i (Frm.box g #[v0, v1, u2, u3, u4, u5, u6, u7, u8] t)).set i (Frm.box g #[v0, v1, v2, u3, u4, u5, u6, u7, u8] t))[i]? = some (Frm.box g #[v0, v1, v2, u3, u4, u5, u6, u7, u8] t) := List.getElem?_set_self (by simpa using hl)
 have h3 := Fm.put h2 i e2 3 v3 #[v0, v1, v2, v3, u4, u5, u6, u7, u8] rfl
 have e3 : ((((l.set i (Frm.box g #[v0, u1, u2, u3, u4, u5, u6, u7, u8] t)).set i (Frm.box g #[v0, v1, u2, u3, u4, u5, u6, u7, u8] t)).set i (Frm.box g #[v0, v1, v2, u3, u4, u5, u6, u7, u8] t)).set i (Frm.box g #[v0, v1, v2, v3, u4, u5, u6, u7, u8] t))[i]? = some (Frm.box g #[v0, v1, v2, v3, u4, u5, u6, u7, u8] t) := List.getElem?_set_self (by simpa using hl)
 have h4 := Fm.put h3 i e3 4 v4 #[v0, v1, v2, v3, v4, u5, u6, u7, u8] rfl
 have e4 : (((((l.set i (Frm.box g #[v0, u1, u2, u3, u4, u5, u6, u7, u8] t)).set i (Frm.box g #[v0, v1, u2, u3, u4, u5, u6, u7, u8] t)).set i (Frm.box g #[v0, v1, v2, u3, u4, u5, u6, u7, u8] t)).set i (Frm.box g #[v0, v1, v2, v3, u4, u5, u6, u7, u8] t)).set i (Frm.box g #[v0, v1, v2, v3, v4, u5, u6, u7, u8] t))[i]? = some (Frm.box g #[v0, v1, v2, v3, v4, u5, u6, u7, u8] t) := List.getElem?_set_self (by simpa using hl)
 have h5 := Fm.put h4 i e4 5 v5 #[v0, v1, v2, v3, v4, v5, u6, u7, u8] rfl
 have e5 : ((((((l.set i (Frm.box g #[v0, u1, u2, u3, u4, u5, u6, u7, u8] t)).set i (Frm.box g #[v0, v1, u2, u3, u4, u5, u6, u7, u8] t)).set i (Frm.box g #[v0, v1, v2, u3, u4, u5, u6, u7, u8] t)).set i (Frm.box g #[v0, v1, v2, v3, u4, u5, u6, u7, u8] t)).set i (Frm.box g #[v0, v1, v2, v3, v4, u5, u6, u7, u8] t)).set i (Frm.box g #[v0, v1, v2, v3, v4, v5, u6, u7, u8] t))[i]? = some (Frm.box g #[v0, v1, v2, v3, v4, v5, u6, u7, u8] t) := List.getElem?_set_self (by simpa using hl)
 have h6 := Fm.put h5 i e5 6 v6 #[v0, v1, v2, v3, v4, v5, v6, u7, u8] rfl
 have e6 : (((((((l.set i (Frm.box g #[v0, u1, u2, u3, u4, u5, u6, u7, u8] t)).set i (Frm.box g #[v0, v1, u2, u3, u4, u5, u6, u7, u8] t)).set i (Frm.box g #[v0, v1, v2, u3, u4, u5, u6, u7, u8] t)).set i (Frm.box g #[v0, v1, v2, v3, u4, u5, u6, u7, u8] t)).set i (Frm.box g #[v0, v1, v2, v3, v4, u5, u6, u7, u8] t)).set i (Frm.box g #[v0, v1, v2, v3, v4, v5, u6, u7, u8] t)).set i (Frm.box g #[v0, v1, v2, v3, v4, v5, v6, u7, u8] t))[i]? = some (Frm.box g #[v0, v1, v2, v3, v4, v5, v6, u7, u8] t) := List.getElem?_set_self (by simpa using hl)
 have h7 := Fm.put h6 i e6 7 v7 #[v0, v1, v2, v3, v4, v5, v6, v7, u8] rfl
 have e7 : ((((((((l.set i (Frm.box g #[v0, u1, u2, u3, u4, u5, u6, u7, u8] t)).set i (Frm.box g #[v0, v1, u2, u3, u4, u5, u6, u7, u8] t)).set i (Frm.box g #[v0, v1, v2, u3, u4, u5, u6, u7, u8] t)).set i (Frm.box g #[v0, v1, v2, v3, u4, u5, u6, u7, u8] t)).set i (Frm.box g #[v0, v1, v2, v3, v4, u5, u6, u7, u8] t)).set i (Frm.box g #[v0, v1, v2, v3, v4, v5, u6, u7, u8] t)).set i (Frm.box g #[v0, v1, v2, v3, v4, v5, v6, u7, u8] t)).set i (Frm.box g #[v0, v1, v2, v3, v4, v5, v6, v7, u8] t))[i]? = some (Frm.box g #[v0, v1, v2, v3, v4, v5, v6, v7, u8] t) := List.getElem?_set_self (by simpa using hl)
 have h8 := Fm.put h7 i e7 8 v8 #[v0, v1, v2, v3, v4, v5, v6, v7, v8] rfl
 simpa only [List.set_set] using h8
theorem fm_three {w0 w : World} {p q r : Part} {l : List Part} (h : Fm w0 w (p :: q :: r :: l)) : Fm w0 w [p, q, r] := h.sub (List.Sublist.cons_cons _ (List.Sublist.cons_cons _ (List.Sublist.cons_cons _ (List.nil_sublist _))))
theorem copied_fm {w0 w : World} {l : List Part} (h : Fm w0 w l) (a : Option Addr) (n c : Nat) (ys : List ByteArray) (hr : SReads w a ys) (hl : ys.length ≤ 1000) (hn : n = ys.length) :
  Calls Tryz.prog 101 #[.slice a n c] w fun e w' => ∃ g, e = .returned (.slice (some ⟨g, 0, none⟩) n n) ∧ Fm w0 w' (rowO g ys :: l) :=
 (copied_c a n c ys w hr hl hn).mono fun e w' t => by
  obtain ⟨h1, h2, h3, h4⟩ := t
  subst hn
  exact ⟨_, h1, h.new h3 h2 (fun b e => by rw [show b = w.heap.size from e]; exact Nat.le_refl _) fun b e => by rw [show b = w.heap.size from e]; exact Nat.le_refl _⟩
set_option maxHeartbeats 4000000 in
set_option maxRecDepth 1000000 in
theorem apart_c (o f : ByteArray) (ep : Int) (A : Option Addr) (c : Nat) (rs : List ByteArray) (B : Option Addr) (d : Nat) (ws : List ByteArray) (v : Int) (R : ByteArray) (S : Option Addr) (e : Nat) (ss : List ByteArray) (gone : Bool) (w : World)
  (hr : SReads w A rs) (hw : SReads w B ws) (hs : SReads w S ss) (hl1 : rs.length ≤ 1000) (hl2 : ws.length ≤ 1000) (hl3 : ss.length ≤ 1000) :
  Calls Tryz.prog 55 #[.agg #[.string o, .string f, .int .i64 ep, .slice A rs.length c, .slice B ws.length d, .int .u64 v, .string R, .slice S ss.length e, .bool gone]] w fun en w' => ∃ a b g, en = .returned (.agg (OV o f ep (some ⟨a, 0, none⟩) rs.length rs.length (some ⟨b, 0, none⟩) ws.length ws.length v R (some ⟨g, 0, none⟩) ss.length ss.length gone).toArray) ∧ Fm w w' [rowO g ss, rowO b ws, rowO a rs] := by
 have HF := zh ((((fm_refl w).came (q := rowP S ss) hs (fun _ h => h) ((rowP S ss).old hs)).came (q := rowP B ws) hw (fun _ h => h) ((rowP B ws).old hw)).came (q := rowP A rs) hr (fun _ h => h) ((rowP A rs).old hr))
 have HC1 := zh fun (w1 : World) (l : List Part) (h : Fm w w1 l) (h2 : SReads w1 A rs) => copied_fm h A rs.length c rs h2 hl1 rfl
 have HC2 := zh fun (w1 : World) (l : List Part) (h : Fm w w1 l) (h2 : SReads w1 B ws) => copied_fm h B ws.length d ws h2 hl2 rfl
 have HC3 := zh fun (w1 : World) (l : List Part) (h : Fm w w1 l) (h2 : SReads w1 S ss) => copied_fm h S ss.length e ss h2 hl3 rfl
 clear hr hw hs
 go_enter Tryz.func55, Tryz.ntmps55
 obtain ⟨G, hG⟩ : ∃ G, w.heap.size = G := ⟨_, rfl⟩
 go_wp2_with fail
 have hF := (HF.out.box #[.string o, .string f, .int .i64 ep, .slice A rs.length c, .slice B ws.length d, .int .u64 v, .string R, .slice S ss.length e, .bool gone] 50).box #[.string ⟨#[]⟩, .string ⟨#[]⟩, .int .i64 0, .slice none 0 0, .slice none 0 0, .int .u64 0, .string ⟨#[]⟩, .slice none 0 0, .bool false] 50
 rw [show (w.alloc (.cells #[.string o, .string f, .int .i64 ep, .slice A rs.length c, .slice B ws.length d, .int .u64 v, .string R, .slice S ss.length e, .bool gone] 50)).heap.size = w.heap.size + 1 by simp] at hF
 generalize (w.alloc (.cells #[.string o, .string f, .int .i64 ep, .slice A rs.length c, .slice B ws.length d, .int .u64 v, .string R, .slice S ss.length e, .bool gone] 50)).alloc (.cells #[.string ⟨#[]⟩, .string ⟨#[]⟩, .int .i64 0, .slice none 0 0, .slice none 0 0, .int .u64 0, .string ⟨#[]⟩, .slice none 0 0, .bool false] 50) = w1 at hF ⊢
 replace HF := zh hF
 clear hF
 rw [hG] at HF
 go_wp2_with fail
 replace HF : Hid (Fm w w1.drew _) := zh (HF.out.go (Below.drewN' (Below.refl w1.heap.size w1) 1))
 refine wp_region_held_drew (S := fun _ => True) (by kernel_rfl) trivial (fun hHeld => ?_)
 generalize w1.drew = w1 at HF ⊢
 try simp only [Act.put, zq1, zq2, zq3]
 refine zqT 0 ?_ ?_ ?_; rotate_left; · (intro w' hSw; go_simp; try with_reducible rfl)
 refine zqT 4 ?_ ?_ ?_; rotate_left; · (intro w' hSw; go_simp; try with_reducible rfl)
 try simp only [Act.put, zq1, zq2, zq3]
 refine zqT 1 ?_ ?_ ?_; rotate_left; · (intro w' hSw; go_simp; try with_reducible rfl)
 refine zqT 5 ?_ ?_ ?_; rotate_left; · (intro w' hSw; go_simp; try with_reducible rfl)
 try simp only [Act.put, zq1, zq2, zq3]
 clear hHeld
 refine zqR [2, 6] ?_
 refine zqC (fun Kn hK => ?_) (zqC (fun Kn hK => ?_) AllReadyH.nil)
 ·
  obtain ⟨q00, q01, q02, q03, q04, q05, q06, q07, q08, q09⟩ := bx9 (HF.out.at 1 rfl)
  go_simp
  clear q00 q01 q02 q03 q04 q05 q06 q07 q08 q09
  refine hK.out _ _ trivial (fun hHeld => ?_)
  try simp only [Act.put, zq1, zq2, zq3]
  clear hHeld
  refine zqR [3, 6] ?_
  refine zqC (fun Kn hK => ?_) (zqC (fun Kn hK => ?_) AllReadyH.nil)
  ·
   go_simp
   with_reducible refine (HC1.out _ _ HF.out (HF.out.at 2 rfl)).mono ?_
   rintro e w1 ⟨ga, rfl, hF⟩
   replace HF := zh hF
   clear hF
   try dsimp only
   refine hK.out _ _ trivial (fun hHeld => ?_)
   try simp only [Act.put, zq1, zq2, zq3]
   clear hHeld
   refine zqR [6] ?_
   refine zqC (fun Kn hK => ?_) AllReadyH.nil
   obtain ⟨q00, q01, q02, q03, q04, q05, q06, q07, q08, q09⟩ := bx9 (HF.out.at 2 rfl)
   go_simp
   clear q00 q01 q02 q03 q04 q05 q06 q07 q08 q09
   refine hK.out _ _ trivial (fun hHeld => ?_)
   try simp only [Act.put, zq1, zq2, zq3]
   refine zqT 8 ?_ ?_ ?_; rotate_left; · (intro w' hSw; go_simp; try with_reducible rfl)
   try simp only [Act.put, zq1, zq2, zq3]
   refine zqT 9 ?_ ?_ ?_; rotate_left; · (intro w' hSw; go_simp; try with_reducible rfl)
   try simp only [Act.put, zq1, zq2, zq3]
   clear hHeld
   refine zqR [7] ?_
   refine zqC (fun Kn hK => ?_) AllReadyH.nil
   go_simp
   with_reducible refine (HC2.out _ _ HF.out (HF.out.at 4 rfl)).mono ?_
   rintro e w1 ⟨gb, rfl, hF⟩
   replace HF := zh hF
   clear hF
   try dsimp only
   refine hK.out _ _ trivial (fun hHeld => ?_)
   try simp only [Act.put, zq1, zq2, zq3]
   clear hHeld
   refine zqR [10] ?_
   refine zqC (fun Kn hK => ?_) AllReadyH.nil
   have hbx := HF.out.at 3 rfl
   have hlc := box_at hbx 3
   have hlf := box_sf hbx 3
   go_simp
   clear hlc hlf hbx
   have hF := HF.out.put 3 rfl 3 (.slice (some ⟨ga, 0, none⟩) rs.length rs.length) #[.string o, .string f, .int .i64 ep, .slice (some ⟨ga, 0, none⟩) rs.length rs.length, .slice B ws.length d, .int .u64 v, .string R, .slice S ss.length e, .bool gone] rfl
   generalize w1.setCell ⟨G, 3, none⟩ (.slice (some ⟨ga, 0, none⟩) rs.length rs.length) = w1 at hF ⊢
   replace HF := zh hF
   clear hF
   refine hK.out _ _ trivial (fun hHeld => ?_)
   try simp only [Act.put, zq1, zq2, zq3]
   refine zqT 11 ?_ ?_ ?_; rotate_left; · (intro w' hSw; go_simp; try with_reducible rfl)
   try simp only [Act.put, zq1, zq2, zq3]
   refine zqT 12 ?_ ?_ ?_; rotate_left; · (intro w' hSw; go_simp; try with_reducible rfl)
   try simp only [Act.put, zq1, zq2, zq3]
   clear hHeld
   refine zqR [13] ?_
   refine zqC (fun Kn hK => ?_) AllReadyH.nil
   have hbx := HF.out.at 3 rfl
   have hlc := box_at hbx 4
   have hlf := box_sf hbx 4
   go_simp
   clear hlc hlf hbx
   have hF := HF.out.put 3 rfl 4 (.slice (some ⟨gb, 0, none⟩) ws.length ws.length) #[.string o, .string f, .int .i64 ep, .slice (some ⟨ga, 0, none⟩) rs.length rs.length, .slice (some ⟨gb, 0, none⟩) ws.length ws.length, .int .u64 v, .string R, .slice S ss.length e, .bool gone] rfl
   generalize w1.setCell ⟨G, 4, none⟩ (.slice (some ⟨gb, 0, none⟩) ws.length ws.length) = w1 at hF ⊢
   replace HF := zh hF
   clear hF
   refine hK.out _ _ trivial (fun hHeld => ?_)
   try simp only [Act.put, zq1, zq2, zq3]
   refine wpAnyH_done (by kernel_rfl) ?_ _
   clear hHeld
   obtain ⟨c0, c1, c2, c3, c4, c5, c6, c7, c8, c9⟩ := bx9 (HF.out.at 3 rfl)
   go_wp2_with fail
   with_reducible refine (HC3.out _ _ HF.out (HF.out.at 6 rfl)).mono ?_
   rintro e w1 ⟨gs, rfl, hF⟩
   replace HF := zh hF
   clear hF
   try dsimp only
   clear c0 c1 c2 c3 c4 c5 c6 c7 c8 c9
   obtain ⟨c0, c1, c2, c3, c4, c5, c6, c7, c8, c9⟩ := bx9 (HF.out.at 4 rfl)
   obtain ⟨d0, d1, d2, d3, d4, d5, d6, d7, d8, d9⟩ := bx9 (HF.out.at 3 rfl)
   have fo := box_sf (HF.out.at 4 rfl)
   have fq := box_sf (HF.out.at 3 rfl)
   go_wp2_with fail
   have hF := (HF.out.put 4 rfl 7 (.slice (some ⟨gs, 0, none⟩) ss.length ss.length) #[.string o, .string f, .int .i64 ep, .slice (some ⟨ga, 0, none⟩) rs.length rs.length, .slice (some ⟨gb, 0, none⟩) ws.length ws.length, .int .u64 v, .string R, .slice (some ⟨gs, 0, none⟩) ss.length ss.length, .bool gone] rfl).fill9 3 rfl (.string o) (.string f) (.int .i64 ep) (.slice (some ⟨ga, 0, none⟩) rs.length rs.length) (.slice (some ⟨gb, 0, none⟩) ws.length ws.length) (.int .u64 v) (.string R) (.slice (some ⟨gs, 0, none⟩) ss.length ss.length) (.bool gone)
   clear c0 c1 c2 c3 c4 c5 c6 c7 c8 c9
   clear d0 d1 d2 d3 d4 d5 d6 d7 d8 d9
   clear fo fq
   generalize ((((((((((w1.setCell ⟨G, 7, none⟩ (.slice (some ⟨gs, 0, none⟩) ss.length ss.length)).setCell ⟨G + 1, 0, none⟩ (.string o)).setCell ⟨G + 1, 1, none⟩ (.string f)).setCell ⟨G + 1, 2, none⟩ (.int .i64 ep)).setCell ⟨G + 1, 3, none⟩ (.slice (some ⟨ga, 0, none⟩) rs.length rs.length)).setCell ⟨G + 1, 4, none⟩ (.slice (some ⟨gb, 0, none⟩) ws.length ws.length)).setCell ⟨G + 1, 5, none⟩ (.int .u64 v)).setCell ⟨G + 1, 6, none⟩ (.string R)).setCell ⟨G + 1, 7, none⟩ (.slice (some ⟨gs, 0, none⟩) ss.length ss.length)).setCell ⟨G + 1, 8, none⟩ (.bool gone)) = w1 at hF ⊢
   replace HF := zh hF
   clear hF
   have hh := HF.out.at 3 rfl
   refine bodyPost_ret (results_cell_row (g := G + 1) rfl _ _ _ _ _ _ rfl hh Tryz.underlying50 rfl (by kernel_rfl)) rfl ?_
   exact ⟨ga, gb, gs, rfl, fm_three HF.out⟩
  ·
   obtain ⟨q00, q01, q02, q03, q04, q05, q06, q07, q08, q09⟩ := bx9 (HF.out.at 1 rfl)
   go_simp
   clear q00 q01 q02 q03 q04 q05 q06 q07 q08 q09
   refine hK.out _ _ trivial (fun hHeld => ?_)
   try simp only [Act.put, zq1, zq2, zq3]
   clear hHeld
   refine zqR [3] ?_
   refine zqC (fun Kn hK => ?_) AllReadyH.nil
   go_simp
   with_reducible refine (HC1.out _ _ HF.out (HF.out.at 2 rfl)).mono ?_
   rintro e w1 ⟨ga, rfl, hF⟩
   replace HF := zh hF
   clear hF
   try dsimp only
   refine hK.out _ _ trivial (fun hHeld => ?_)
   try simp only [Act.put, zq1, zq2, zq3]
   refine zqT 8 ?_ ?_ ?_; rotate_left; · (intro w' hSw; go_simp; try with_reducible rfl)
   try simp only [Act.put, zq1, zq2, zq3]
   refine zqT 9 ?_ ?_ ?_; rotate_left; · (intro w' hSw; go_simp; try with_reducible rfl)
   try simp only [Act.put, zq1, zq2, zq3]
   clear hHeld
   refine zqR [7] ?_
   refine zqC (fun Kn hK => ?_) AllReadyH.nil
   go_simp
   with_reducible refine (HC2.out _ _ HF.out (HF.out.at 4 rfl)).mono ?_
   rintro e w1 ⟨gb, rfl, hF⟩
   replace HF := zh hF
   clear hF
   try dsimp only
   refine hK.out _ _ trivial (fun hHeld => ?_)
   try simp only [Act.put, zq1, zq2, zq3]
   clear hHeld
   refine zqR [10] ?_
   refine zqC (fun Kn hK => ?_) AllReadyH.nil
   have hbx := HF.out.at 3 rfl
   have hlc := box_at hbx 3
   have hlf := box_sf hbx 3
   go_simp
   clear hlc hlf hbx
   have hF := HF.out.put 3 rfl 3 (.slice (some ⟨ga, 0, none⟩) rs.length rs.length) #[.string o, .string f, .int .i64 ep, .slice (some ⟨ga, 0, none⟩) rs.length rs.length, .slice B ws.length d, .int .u64 v, .string R, .slice S ss.length e, .bool gone] rfl
   generalize w1.setCell ⟨G, 3, none⟩ (.slice (some ⟨ga, 0, none⟩) rs.length rs.length) = w1 at hF ⊢
   replace HF := zh hF
   clear hF
   refine hK.out _ _ trivial (fun hHeld => ?_)
   try simp only [Act.put, zq1, zq2, zq3]
   refine zqT 11 ?_ ?_ ?_; rotate_left; · (intro w' hSw; go_simp; try with_reducible rfl)
   try simp only [Act.put, zq1, zq2, zq3]
   refine zqT 12 ?_ ?_ ?_; rotate_left; · (intro w' hSw; go_simp; try with_reducible rfl)
   try simp only [Act.put, zq1, zq2, zq3]
   clear hHeld
   refine zqR [13] ?_
   refine zqC (fun Kn hK => ?_) AllReadyH.nil
   have hbx := HF.out.at 3 rfl
   have hlc := box_at hbx 4
   have hlf := box_sf hbx 4
   go_simp
   clear hlc hlf hbx
   have hF := HF.out.put 3 rfl 4 (.slice (some ⟨gb, 0, none⟩) ws.length ws.length) #[.string o, .string f, .int .i64 ep, .slice (some ⟨ga, 0, none⟩) rs.length rs.length, .slice (some ⟨gb, 0, none⟩) ws.length ws.length, .int .u64 v, .string R, .slice S ss.length e, .bool gone] rfl
   generalize w1.setCell ⟨G, 4, none⟩ (.slice (some ⟨gb, 0, none⟩) ws.length ws.length) = w1 at hF ⊢
   replace HF := zh hF
   clear hF
   refine hK.out _ _ trivial (fun hHeld => ?_)
   try simp only [Act.put, zq1, zq2, zq3]
   refine wpAnyH_done (by kernel_rfl) ?_ _
   clear hHeld
   obtain ⟨c0, c1, c2, c3, c4, c5, c6, c7, c8, c9⟩ := bx9 (HF.out.at 3 rfl)
   go_wp2_with fail
   with_reducible refine (HC3.out _ _ HF.out (HF.out.at 6 rfl)).mono ?_
   rintro e w1 ⟨gs, rfl, hF⟩
   replace HF := zh hF
   clear hF
   try dsimp only
   clear c0 c1 c2 c3 c4 c5 c6 c7 c8 c9
   obtain ⟨c0, c1, c2, c3, c4, c5, c6, c7, c8, c9⟩ := bx9 (HF.out.at 4 rfl)
   obtain ⟨d0, d1, d2, d3, d4, d5, d6, d7, d8, d9⟩ := bx9 (HF.out.at 3 rfl)
   have fo := box_sf (HF.out.at 4 rfl)
   have fq := box_sf (HF.out.at 3 rfl)
   go_wp2_with fail
   have hF := (HF.out.put 4 rfl 7 (.slice (some ⟨gs, 0, none⟩) ss.length ss.length) #[.string o, .string f, .int .i64 ep, .slice (some ⟨ga, 0, none⟩) rs.length rs.length, .slice (some ⟨gb, 0, none⟩) ws.length ws.length, .int .u64 v, .string R, .slice (some ⟨gs, 0, none⟩) ss.length ss.length, .bool gone] rfl).fill9 3 rfl (.string o) (.string f) (.int .i64 ep) (.slice (some ⟨ga, 0, none⟩) rs.length rs.length) (.slice (some ⟨gb, 0, none⟩) ws.length ws.length) (.int .u64 v) (.string R) (.slice (some ⟨gs, 0, none⟩) ss.length ss.length) (.bool gone)
   clear c0 c1 c2 c3 c4 c5 c6 c7 c8 c9
   clear d0 d1 d2 d3 d4 d5 d6 d7 d8 d9
   clear fo fq
   generalize ((((((((((w1.setCell ⟨G, 7, none⟩ (.slice (some ⟨gs, 0, none⟩) ss.length ss.length)).setCell ⟨G + 1, 0, none⟩ (.string o)).setCell ⟨G + 1, 1, none⟩ (.string f)).setCell ⟨G + 1, 2, none⟩ (.int .i64 ep)).setCell ⟨G + 1, 3, none⟩ (.slice (some ⟨ga, 0, none⟩) rs.length rs.length)).setCell ⟨G + 1, 4, none⟩ (.slice (some ⟨gb, 0, none⟩) ws.length ws.length)).setCell ⟨G + 1, 5, none⟩ (.int .u64 v)).setCell ⟨G + 1, 6, none⟩ (.string R)).setCell ⟨G + 1, 7, none⟩ (.slice (some ⟨gs, 0, none⟩) ss.length ss.length)).setCell ⟨G + 1, 8, none⟩ (.bool gone)) = w1 at hF ⊢
   replace HF := zh hF
   clear hF
   have hh := HF.out.at 3 rfl
   refine bodyPost_ret (results_cell_row (g := G + 1) rfl _ _ _ _ _ _ rfl hh Tryz.underlying50 rfl (by kernel_rfl)) rfl ?_
   exact ⟨ga, gb, gs, rfl, fm_three HF.out⟩
 ·
  obtain ⟨q00, q01, q02, q03, q04, q05, q06, q07, q08, q09⟩ := bx9 (HF.out.at 1 rfl)
  go_simp
  clear q00 q01 q02 q03 q04 q05 q06 q07 q08 q09
  refine hK.out _ _ trivial (fun hHeld => ?_)
  try simp only [Act.put, zq1, zq2, zq3]
  clear hHeld
  refine zqR [2] ?_
  refine zqC (fun Kn hK => ?_) AllReadyH.nil
  obtain ⟨q00, q01, q02, q03, q04, q05, q06, q07, q08, q09⟩ := bx9 (HF.out.at 1 rfl)
  go_simp
  clear q00 q01 q02 q03 q04 q05 q06 q07 q08 q09
  refine hK.out _ _ trivial (fun hHeld => ?_)
  try simp only [Act.put, zq1, zq2, zq3]
  clear hHeld
  refine zqR [3] ?_
  refine zqC (fun Kn hK => ?_) AllReadyH.nil
  go_simp
  with_reducible refine (HC1.out _ _ HF.out (HF.out.at 2 rfl)).mono ?_
  rintro e w1 ⟨ga, rfl, hF⟩
  replace HF := zh hF
  clear hF
  try dsimp only
  refine hK.out _ _ trivial (fun hHeld => ?_)
  try simp only [Act.put, zq1, zq2, zq3]
  refine zqT 8 ?_ ?_ ?_; rotate_left; · (intro w' hSw; go_simp; try with_reducible rfl)
  try simp only [Act.put, zq1, zq2, zq3]
  refine zqT 9 ?_ ?_ ?_; rotate_left; · (intro w' hSw; go_simp; try with_reducible rfl)
  try simp only [Act.put, zq1, zq2, zq3]
  clear hHeld
  refine zqR [7] ?_
  refine zqC (fun Kn hK => ?_) AllReadyH.nil
  go_simp
  with_reducible refine (HC2.out _ _ HF.out (HF.out.at 4 rfl)).mono ?_
  rintro e w1 ⟨gb, rfl, hF⟩
  replace HF := zh hF
  clear hF
  try dsimp only
  refine hK.out _ _ trivial (fun hHeld => ?_)
  try simp only [Act.put, zq1, zq2, zq3]
  clear hHeld
  refine zqR [10] ?_
  refine zqC (fun Kn hK => ?_) AllReadyH.nil
  have hbx := HF.out.at 3 rfl
  have hlc := box_at hbx 3
  have hlf := box_sf hbx 3
  go_simp
  clear hlc hlf hbx
  have hF := HF.out.put 3 rfl 3 (.slice (some ⟨ga, 0, none⟩) rs.length rs.length) #[.string o, .string f, .int .i64 ep, .slice (some ⟨ga, 0, none⟩) rs.length rs.length, .slice B ws.length d, .int .u64 v, .string R, .slice S ss.length e, .bool gone] rfl
  generalize w1.setCell ⟨G, 3, none⟩ (.slice (some ⟨ga, 0, none⟩) rs.length rs.length) = w1 at hF ⊢
  replace HF := zh hF
  clear hF
  refine hK.out _ _ trivial (fun hHeld => ?_)
  try simp only [Act.put, zq1, zq2, zq3]
  refine zqT 11 ?_ ?_ ?_; rotate_left; · (intro w' hSw; go_simp; try with_reducible rfl)
  try simp only [Act.put, zq1, zq2, zq3]
  refine zqT 12 ?_ ?_ ?_; rotate_left; · (intro w' hSw; go_simp; try with_reducible rfl)
  try simp only [Act.put, zq1, zq2, zq3]
  clear hHeld
  refine zqR [13] ?_
  refine zqC (fun Kn hK => ?_) AllReadyH.nil
  have hbx := HF.out.at 3 rfl
  have hlc := box_at hbx 4
  have hlf := box_sf hbx 4
  go_simp
  clear hlc hlf hbx
  have hF := HF.out.put 3 rfl 4 (.slice (some ⟨gb, 0, none⟩) ws.length ws.length) #[.string o, .string f, .int .i64 ep, .slice (some ⟨ga, 0, none⟩) rs.length rs.length, .slice (some ⟨gb, 0, none⟩) ws.length ws.length, .int .u64 v, .string R, .slice S ss.length e, .bool gone] rfl
  generalize w1.setCell ⟨G, 4, none⟩ (.slice (some ⟨gb, 0, none⟩) ws.length ws.length) = w1 at hF ⊢
  replace HF := zh hF
  clear hF
  refine hK.out _ _ trivial (fun hHeld => ?_)
  try simp only [Act.put, zq1, zq2, zq3]
  refine wpAnyH_done (by kernel_rfl) ?_ _
  clear hHeld
  obtain ⟨c0, c1, c2, c3, c4, c5, c6, c7, c8, c9⟩ := bx9 (HF.out.at 3 rfl)
  go_wp2_with fail
  with_reducible refine (HC3.out _ _ HF.out (HF.out.at 6 rfl)).mono ?_
  rintro e w1 ⟨gs, rfl, hF⟩
  replace HF := zh hF
  clear hF
  try dsimp only
  clear c0 c1 c2 c3 c4 c5 c6 c7 c8 c9
  obtain ⟨c0, c1, c2, c3, c4, c5, c6, c7, c8, c9⟩ := bx9 (HF.out.at 4 rfl)
  obtain ⟨d0, d1, d2, d3, d4, d5, d6, d7, d8, d9⟩ := bx9 (HF.out.at 3 rfl)
  have fo := box_sf (HF.out.at 4 rfl)
  have fq := box_sf (HF.out.at 3 rfl)
  go_wp2_with fail
  have hF := (HF.out.put 4 rfl 7 (.slice (some ⟨gs, 0, none⟩) ss.length ss.length) #[.string o, .string f, .int .i64 ep, .slice (some ⟨ga, 0, none⟩) rs.length rs.length, .slice (some ⟨gb, 0, none⟩) ws.length ws.length, .int .u64 v, .string R, .slice (some ⟨gs, 0, none⟩) ss.length ss.length, .bool gone] rfl).fill9 3 rfl (.string o) (.string f) (.int .i64 ep) (.slice (some ⟨ga, 0, none⟩) rs.length rs.length) (.slice (some ⟨gb, 0, none⟩) ws.length ws.length) (.int .u64 v) (.string R) (.slice (some ⟨gs, 0, none⟩) ss.length ss.length) (.bool gone)
  clear c0 c1 c2 c3 c4 c5 c6 c7 c8 c9
  clear d0 d1 d2 d3 d4 d5 d6 d7 d8 d9
  clear fo fq
  generalize ((((((((((w1.setCell ⟨G, 7, none⟩ (.slice (some ⟨gs, 0, none⟩) ss.length ss.length)).setCell ⟨G + 1, 0, none⟩ (.string o)).setCell ⟨G + 1, 1, none⟩ (.string f)).setCell ⟨G + 1, 2, none⟩ (.int .i64 ep)).setCell ⟨G + 1, 3, none⟩ (.slice (some ⟨ga, 0, none⟩) rs.length rs.length)).setCell ⟨G + 1, 4, none⟩ (.slice (some ⟨gb, 0, none⟩) ws.length ws.length)).setCell ⟨G + 1, 5, none⟩ (.int .u64 v)).setCell ⟨G + 1, 6, none⟩ (.string R)).setCell ⟨G + 1, 7, none⟩ (.slice (some ⟨gs, 0, none⟩) ss.length ss.length)).setCell ⟨G + 1, 8, none⟩ (.bool gone)) = w1 at hF ⊢
  replace HF := zh hF
  clear hF
  have hh := HF.out.at 3 rfl
  refine bodyPost_ret (results_cell_row (g := G + 1) rfl _ _ _ _ _ _ rfl hh Tryz.underlying50 rfl (by kernel_rfl)) rfl ?_
  exact ⟨ga, gb, gs, rfl, fm_three HF.out⟩
end Go.Proofs.YtbdealddjonobaaGreat.Usr

namespace Go.Proofs.YtbdealddjonobaaGreat.Usr
open Go Go.RowKit Wire Rig Draw Frm

set_option linter.unusedSimpArgs false
set_option linter.unusedVariables false
theorem results_cell_tmp {P : Program} {fn : Func} {p q : Tmp} {ty : TypeId} (h : fn.results = #[.cell p ty, .tmp q]) (tmps : Array Value) (w : World) (g : Nat) (t : TypeId) (cs : Array Value) (fr : Nat × Nat) (d : TypeDesc)
  (hp : tmps.getD p undef = .pointer (some ⟨g, 0, none⟩)) (hg : w.heap[g]? = some (.cells cs t fr))
  (hu : P.underlying ty = some d) (hd : (match d with | .struct _ | .array _ _ => true | _ => false) = true) (hi : (P.info? ty).map (·.size) = some cs.size) :
  (results fn tmps).run P w = .ok (.tuple #[.agg cs, tmps.getD q undef]) w := by
 have hp' : tmps[p]?.getD undef = .pointer (some ⟨g, 0, none⟩) := by simpa using hp
 simp [results, h, hp', asAddr, run_loadVar_row w g t ty cs fr d hg hu hd hi]
theorem held_small {n : Nat} {u : Us} (f : Fine n u) {t : Tm} (ht : u.live t = true) : (u.of t).r.rs.length ≤ 1000 ∧ (u.of t).r.ws.length ≤ 1000 ∧ (u.of t).sg.length ≤ 1000 := by
 obtain ⟨h1, _, _, _, _, h2⟩ := f.each t (live_in ht).1
 have h3 := few_right h1
 have h4 := h1.2.2.2.1
 obtain ⟨_, _, h5, h6, _⟩ := h3
 have := h1
 refine ⟨by omega, by omega, ?_⟩
 obtain ⟨a1, a2, a3, a4, a5, a6, a7⟩ := h1
 omega
theorem own_no {u : Us} {f : Tm} (h : u.live f = false) : own u f = (ow0, 4) := by unfold own; rw [if_pos h]
theorem own_yes {u : Us} {f : Tm} (h : u.live f = true) : own u f = (u.of f, 0) := by unfold own; rw [if_neg (by rw [h]; decide)]
theorem apart_fm {w0 w : World} {l : List Part} (h : Fm w0 w l) (o f : ByteArray) (ep : Int) (A : Option Addr) (c : Nat) (rs : List ByteArray) (B : Option Addr) (d : Nat) (ws : List ByteArray) (v : Int) (R : ByteArray) (S : Option Addr) (e : Nat) (ss : List ByteArray) (gone : Bool)
  (hr : SReads w A rs) (hw : SReads w B ws) (hs : SReads w S ss) (hl1 : rs.length ≤ 1000) (hl2 : ws.length ≤ 1000) (hl3 : ss.length ≤ 1000) :
  Calls Tryz.prog 55 #[.agg #[.string o, .string f, .int .i64 ep, .slice A rs.length c, .slice B ws.length d, .int .u64 v, .string R, .slice S ss.length e, .bool gone]] w fun en w' => ∃ a b g, en = .returned (.agg #[.string o, .string f, .int .i64 ep, .slice (some ⟨a, 0, none⟩) rs.length rs.length, .slice (some ⟨b, 0, none⟩) ws.length ws.length, .int .u64 v, .string R, .slice (some ⟨g, 0, none⟩) ss.length ss.length, .bool gone]) ∧ Fm w0 w' (rowO g ss :: rowO b ws :: rowO a rs :: l) ∧ (w.heap.size ≤ a ∧ w.heap.size ≤ b ∧ w.heap.size ≤ g) ∧ (a ≠ b ∧ a ≠ g ∧ b ≠ g) :=
 (apart_c o f ep A c rs B d ws v R S e ss gone w hr hw hs hl1 hl2 hl3).mono fun en w' t => by
  obtain ⟨a, b, g, h1, h2⟩ := t
  have la := h2.lo 2 rfl a rfl
  have lb := h2.lo 1 rfl b rfl
  have lg := h2.lo 0 rfl g rfl
  have nab : a ≠ b := fun e => (h2.apart 2 1 (by decide) rfl rfl a).1 ⟨rfl, e⟩
  have nag : a ≠ g := fun e => (h2.apart 2 0 (by decide) rfl rfl a).1 ⟨rfl, e⟩
  have nbg : b ≠ g := fun e => (h2.apart 1 0 (by decide) rfl rfl b).1 ⟨rfl, e⟩
  refine ⟨a, b, g, h1, ?_, ⟨la, lb, lg⟩, nab, nag, nbg⟩
  have hg := h.go h2.bel
  have hlo : ∀ (x : Nat) (ys : List ByteArray), w.heap.size ≤ x → ∀ q ∈ l, Apart (rowO x ys) q := fun x ys hx q hq y => ⟨fun h3 => by
   have h4 := q.old (h.all q hq).1 y h3.2
   have h5 : y = x := h3.1
   omega, fun h3 => by
   have h4 := q.old (h.all q hq).1 y (q.sub y h3.2)
   have h5 : y = x := h3.1
   omega⟩
  have hne : ∀ (x y : Nat) (ys zs : List ByteArray), x ≠ y → Apart (rowO x ys) (rowO y zs) := fun x y ys zs hxy z => ⟨fun h3 => hxy (Eq.trans (Eq.symm h3.1) h3.2), fun h3 => hxy (Eq.trans (Eq.symm h3.1) h3.2)⟩
  have hM : ∀ (x : Nat) (ys : List ByteArray), w.heap.size ≤ x → ∀ z, (rowO x ys).M z → w0.heap.size ≤ z := fun x ys hx z hz => by
   rw [show z = x from hz]
   exact Nat.le_trans h.bel.size hx
  refine ((hg.add (h2.at 2 rfl) (hM a rs la) (hlo a rs la)).add (h2.at 1 rfl) (hM b ws lb) fun q hq => ?_).add (h2.at 0 rfl) (hM g ss lg) fun q hq => ?_
  ·
   rcases List.mem_cons.1 hq with rfl | hq
   · exact hne b a ws rs (Ne.symm nab)
   · exact hlo b ws lb q hq
  ·
   rcases List.mem_cons.1 hq with rfl | hq
   · exact hne g b ss ws (Ne.symm nbg)
   ·
    rcases List.mem_cons.1 hq with rfl | hq
    · exact hne g a ss rs (Ne.symm nag)
    · exact hlo g ss lg q hq
theorem isX_read {ok : Nat → Prop} {w : World} {o f : ByteArray} {ep : Int} {A : Option Addr} {n c : Nat} {B : Option Addr} {m d : Nat} {r : Rt} (h : IsX ok w (RV o f ep A n c B m d) r) : ∃ rs ws : List ByteArray, n = rs.length ∧ m = ws.length ∧ SReads w A rs ∧ SReads w B ws ∧ r = ⟨o.data.toList, f.data.toList, ep, bl rs, bl ws⟩ := by
 obtain ⟨o', f', A', c', rs, B', d', ws, h1, h2, h3, h4, _⟩ := h
 unfold RV at h1
 injection h1 with h1
 simp only [Array.mk.injEq, List.cons.injEq, Value.string.injEq, Value.int.injEq, Value.slice.injEq, and_true, true_and] at h1
 obtain ⟨rfl, rfl, rfl, ⟨rfl, rfl, rfl⟩, rfl, rfl, rfl⟩ := h1
 exact ⟨rs, ws, rfl, rfl, h3, h4, h2⟩
theorem rowO_reads {w : World} {g : Nat} {ys : List ByteArray} (h : (rowO g ys).P w) : SReads w (some ⟨g, 0, none⟩) ys := (sreads_own h).1
set_option maxHeartbeats 4000000 in
set_option maxRecDepth 1000000 in
theorem own_c (n : Nat) (a : Addr) (S M : Nat → Prop) (u : Us) (F : ByteArray) (w : World) (h : DU w a S M u) (f : Fine n u) (hn : n ≤ 200) (hF : F.size ≤ 10000) : Calls Tryz.prog 25 #[.pointer (some a), .string F] w fun e w' => (∃ vs, IsO w' vs (own u F.data.toList).1 ∧ (∀ b, Bk vs b → Shy w S M b) ∧ e = .returned (.tuple #[.agg vs.toArray, .int .i64 (own u F.data.toList).2])) ∧ Below w.heap.size w w' := by
 obtain ⟨g, me, mg, db, dc, N, C, V, sb, rfl, h, hS, hM⟩ := h
 have c4 := h.c4
 have glt := h.g_lt
 have hl := fun V T => held_look (h.below ((Below.refl _ w).alloc zl (.cells V T))) hF
 have HH := zh h
 have HS := zh (And.intro hS hM)
 have HFI := zh f
 clear h hS hM f
 cases hb : u.live F.data.toList
 case false =>
  have HR := zh (own_no hb)
  rw [hb] at hl
  simp only [Bool.false_eq_true, if_false, OV] at hl
  clear hb
  have HF := zh (fm_refl w)
  go_enter Tryz.func25, Tryz.ntmps25
  go_wp2_with fail
  have hF := (HF.out.box #[.string ⟨#[]⟩, .string ⟨#[]⟩, .int .i64 0, .slice none 0 0, .slice none 0 0, .int .u64 0, .string ⟨#[]⟩, .slice none 0 0, .bool false] 50).box #[.string ⟨#[]⟩, .string ⟨#[]⟩, .int .i64 0, .slice none 0 0, .slice none 0 0, .int .u64 0, .string ⟨#[]⟩, .slice none 0 0, .bool false] 50
  rw [show (w.alloc (.cells #[.string ⟨#[]⟩, .string ⟨#[]⟩, .int .i64 0, .slice none 0 0, .slice none 0 0, .int .u64 0, .string ⟨#[]⟩, .slice none 0 0, .bool false] 50)).heap.size = w.heap.size + 1 by simp] at hF
  generalize (w.alloc (.cells #[.string ⟨#[]⟩, .string ⟨#[]⟩, .int .i64 0, .slice none 0 0, .slice none 0 0, .int .u64 0, .string ⟨#[]⟩, .slice none 0 0, .bool false] 50)).alloc (.cells #[.string ⟨#[]⟩, .string ⟨#[]⟩, .int .i64 0, .slice none 0 0, .slice none 0 0, .int .u64 0, .string ⟨#[]⟩, .slice none 0 0, .bool false] 50) = w1 at hF ⊢
  replace HF := zh hF
  clear hF
  have hh := HF.out.at 1 rfl
  refine bodyPost_ret (results_cell_tmp (g := w.heap.size) rfl _ _ _ _ _ _ rfl hh Tryz.underlying50 rfl (by kernel_rfl)) rfl ?_
  rw [HR.out]
  refine ⟨⟨_, isO_zero _, fun b hb => ?_, rfl⟩, HF.out.bel⟩
  obtain ⟨off, k, c, hm, h0⟩ := hb
  simp only [OV, List.mem_cons, reduceCtorEq, Value.slice.injEq, List.not_mem_nil, or_false, false_or] at hm
  omega
 case true =>
  have HR := zh (own_yes hb)
  have hsm := held_small HFI.out hb
  rw [hb] at hl
  simp only [if_true] at hl
  obtain ⟨o, f, ep, A, m, c, B, p, d, R, T, e, ss, hv, hx, hR, hss, hgo, hrow, _⟩ := HH.out.rows _ hb
  rw [hv] at hl
  simp only [OV] at hl
  obtain ⟨rs, ws, rfl, rfl, hrr, hrw, hre⟩ := isX_read hx
  have hrs := (sreads_own hrow).1
  have hb1 : rs.length ≤ 1000 := by have := hsm.1; rw [hre, bl_len] at this; exact this
  have hb2 : ws.length ≤ 1000 := by have := hsm.2.1; rw [hre, bl_len] at this; exact this
  have hb3 : ss.length ≤ 1000 := by have := hsm.2.2; rw [← hss, bl_len] at this; exact this
  have HSR := zh (And.intro hrr (And.intro hrw hrs))
  have HIS : Hid (u.of F.data.toList = ⟨⟨o.data.toList, f.data.toList, ep, bl rs, bl ws⟩, (u.of F.data.toList).ver, R.data.toList, bl ss, false⟩) := by
   show _ = _
   rw [hR, hss, ← hre, ← hgo]
  clear hb hv hx hR hss hgo hrow hrr hrw hre hrs hsm
  obtain ⟨vr, hvr⟩ : ∃ vr, (u.of F.data.toList).ver = vr := ⟨_, rfl⟩
  rw [hvr] at HIS hl
  have HVR := zh hvr
  clear hvr
  have HF := zh (fm_refl w)
  go_enter Tryz.func25, Tryz.ntmps25
  go_wp2_with fail
  have hF := (HF.out.box #[.string ⟨#[]⟩, .string ⟨#[]⟩, .int .i64 0, .slice none 0 0, .slice none 0 0, .int .u64 0, .string ⟨#[]⟩, .slice none 0 0, .bool false] 50).box #[.string o, .string f, .int .i64 ep, .slice A rs.length c, .slice B ws.length d, .int .u64 (vr : Int), .string R, .slice T ss.length e, .bool false] 50
  rw [show (w.alloc (.cells #[.string ⟨#[]⟩, .string ⟨#[]⟩, .int .i64 0, .slice none 0 0, .slice none 0 0, .int .u64 0, .string ⟨#[]⟩, .slice none 0 0, .bool false] 50)).heap.size = w.heap.size + 1 by simp] at hF
  generalize (w.alloc (.cells #[.string ⟨#[]⟩, .string ⟨#[]⟩, .int .i64 0, .slice none 0 0, .slice none 0 0, .int .u64 0, .string ⟨#[]⟩, .slice none 0 0, .bool false] 50)).alloc (.cells #[.string o, .string f, .int .i64 ep, .slice A rs.length c, .slice B ws.length d, .int .u64 (vr : Int), .string R, .slice T ss.length e, .bool false] 50) = w1 at hF ⊢
  replace HF := zh hF
  clear hF
  have HA := zh (apart_fm HF.out o f ep A c rs B d ws (vr : Int) R T e ss false (HSR.out.1.below HF.out.bel zl) (HSR.out.2.1.below HF.out.bel zl) (HSR.out.2.2.below HF.out.bel zl) hb1 hb2 hb3)
  have hsz := HF.out.bel.size
  clear hl
  with_reducible refine HA.out.mono ?_
  rintro en w1 ⟨a, b, gs, rfl, hF2, hlo, _⟩
  have HL := zh (And.intro hlo hsz)
  replace HF := zh hF2
  clear hF2 HA hlo hsz
  try dsimp only
  obtain ⟨c0, c1, c2, c3, c4, c5, c6, c7, c8, c9⟩ := bx9 (HF.out.at 4 rfl)
  have fq := box_sf (HF.out.at 4 rfl)
  go_wp2_with fail
  have hF := HF.out.fill9 4 rfl (.string o) (.string f) (.int .i64 ep) (.slice (some ⟨a, 0, none⟩) rs.length rs.length) (.slice (some ⟨b, 0, none⟩) ws.length ws.length) (.int .u64 (vr : Int)) (.string R) (.slice (some ⟨gs, 0, none⟩) ss.length ss.length) (.bool false)
  clear c0 c1 c2 c3 c4 c5 c6 c7 c8 c9
  clear fq
  generalize (((((((((w1.setCell ⟨w.heap.size, 0, none⟩ (.string o)).setCell ⟨w.heap.size, 1, none⟩ (.string f)).setCell ⟨w.heap.size, 2, none⟩ (.int .i64 ep)).setCell ⟨w.heap.size, 3, none⟩ (.slice (some ⟨a, 0, none⟩) rs.length rs.length)).setCell ⟨w.heap.size, 4, none⟩ (.slice (some ⟨b, 0, none⟩) ws.length ws.length)).setCell ⟨w.heap.size, 5, none⟩ (.int .u64 (vr : Int))).setCell ⟨w.heap.size, 6, none⟩ (.string R)).setCell ⟨w.heap.size, 7, none⟩ (.slice (some ⟨gs, 0, none⟩) ss.length ss.length)).setCell ⟨w.heap.size, 8, none⟩ (.bool false)) = w1 at hF ⊢
  replace HF := zh hF
  clear hF
  have hh := HF.out.at 4 rfl
  refine bodyPost_ret (results_cell_tmp (g := w.heap.size) rfl _ _ _ _ _ _ rfl hh Tryz.underlying50 rfl (by kernel_rfl)) rfl ?_
  rw [HR.out]
  refine ⟨⟨OV o f ep (some ⟨a, 0, none⟩) rs.length rs.length (some ⟨b, 0, none⟩) ws.length ws.length (vr : Int) R (some ⟨gs, 0, none⟩) ss.length ss.length false, ?_, fun x hx => ?_, rfl⟩, HF.out.bel⟩
  ·
   show IsO _ _ (u.of F.data.toList)
   rw [HIS.out]
   exact ⟨o, f, _, _, rs, _, _, ws, R, _, _, ss, rfl, rfl, rowO_reads (HF.out.at 2 rfl), rowO_reads (HF.out.at 1 rfl), rowO_reads (HF.out.at 0 rfl), Nat.le_refl _, Nat.le_refl _, Nat.le_refl _⟩
  ·
   obtain ⟨off, k, c, hm, h0⟩ := hx
   simp only [OV, List.mem_cons, reduceCtorEq, Value.slice.injEq, Option.some.injEq, Addr.mk.injEq, List.not_mem_nil, or_false, false_or] at hm
   have h1 := HL.out
   exact .inr (by omega)
end Go.Proofs.YtbdealddjonobaaGreat.Usr

