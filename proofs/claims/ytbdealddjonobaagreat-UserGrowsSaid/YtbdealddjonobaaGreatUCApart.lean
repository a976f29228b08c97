/-
  CONTRACT of the landed code's apart (package user). By an AI agent; no person has read it.
-/
import Derived.Test.YtbdealddjonobaaGreatUCParts
import Derived.Test.YtbdealddjonobaaGreatUHelp
import Derived.Test.YtbdealddjonobaaGreatOrd
namespace Go.Proofs.YtbdealddjonobaaGreat.Usr
open Go Go.RowKit Wire Rig Draw Frm

set_option linter.unusedSimpArgs false
set_option linter.unusedVariables false
/-- A row of texts of one's own, whole. -/
def rowO (g : Nat) (ys : List ByteArray) : Part where
  P w := w.ownsRow g 9 1 (.slice (some ⟨g, 0, none⟩) ys.length ys.length) ys.length (sv ys)
  S b := b = g
  M b := b = g
  sub _ h := h
  dep _ h hs := ownsRow_move h fun b hb => by
    obtain rfl : g = b := Option.some.inj hb
    exact hs _ rfl
  old h b e := by
    subst e
    exact (World.ownsRow.lt h _ rfl).2
/-- All nine cells of a variable are written. -/
theorem _root_.Go.Proofs.YtbdealddjonobaaGreat.Frm.Fm.fill9 {w0 w : World} {l : List Part} {g : Nat} {u0 u1 u2 u3 u4 u5 u6 u7 u8 : Value} {t : TypeId} (h : Fm w0 w l) (i : Nat) (hi : l[i]? = some (Frm.box g #[u0, u1, u2, u3, u4, u5, u6, u7, u8] t)) (v0 v1 v2 v3 v4 v5 v6 v7 v8 : Value) : Fm w0 (((((((((w.setCell ⟨g, 0, none⟩ v0).setCell ⟨g, 1, none⟩ v1).setCell ⟨g, 2, none⟩ v2).setCell ⟨g, 3, none⟩ v3).setCell ⟨g, 4, none⟩ v4).setCell ⟨g, 5, none⟩ v5).setCell ⟨g, 6, none⟩ v6).setCell ⟨g, 7, none⟩ v7).setCell ⟨g, 8, none⟩ v8) (l.set i (Frm.box g #[v0, v1, v2, v3, v4, v5, v6, v7, v8] t)) := by
  have hl := (List.getElem?_eq_some_iff.1 hi).1
  have h0 := Fm.put h i hi 0 v0 #[v0, u1, u2, u3, u4, u5, u6, u7, u8] rfl
  have e0 : (l.set i (Frm.box g #[v0, u1, u2, u3, u4, u5, u6, u7, u8] t))[i]? = some (Frm.box g #[v0, u1, u2, u3, u4, u5, u6, u7, u8] t) := List.getElem?_set_self (by simpa using hl)
  have h1 := Fm.put h0 i e0 1 v1 #[v0, v1, u2, u3, u4, u5, u6, u7, u8] rfl
  have e1 : ((l.set i (Frm.box g #[v0, u1, u2, u3, u4, u5, u6, u7, u8] t)).set i (Frm.box g #[v0, v1, u2, u3, u4, u5, u6, u7, u8] t))[i]? = some (Frm.box g #[v0, v1, u2, u3, u4, u5, u6, u7, u8] t) := List.getElem?_set_self (by simpa using hl)
  have h2 := Fm.put h1 i e1 2 v2 #[v0, v1, v2, u3, u4, u5, u6, u7, u8] rfl
  have e2 : (((l.set i (Frm.box g #[v0, u1, u2, u3, u4, u5, u6, u7, u8] t)).set i (Frm.box g #[v0, v1, u2, u3, u4, u5, u6, u7, u8] t)).set i (Frm.box g #[v0, v1, v2, u3, u4, u5, u6, u7, u8] t))[i]? = some (Frm.box g #[v0, v1, v2, u3, u4, u5, u6, u7, u8] t) := List.getElem?_set_self (by simpa using hl)
  have h3 := Fm.put h2 i e2 3 v3 #[v0, v1, v2, v3, u4, u5, u6, u7, u8] rfl
  have e3 : ((((l.set i (Frm.box g #[v0, u1, u2, u3, u4, u5, u6, u7, u8] t)).set i (Frm.box g #[v0, v1, u2, u3, u4, u5, u6, u7, u8] t)).set i (Frm.box g #[v0, v1, v2, u3, u4, u5, u6, u7, u8] t)).set i (Frm.box g #[v0, v1, v2, v3, u4, u5, u6, u7, u8] t))[i]? = some (Frm.box g #[v0, v1, v2, v3, u4, u5, u6, u7, u8] t) := List.getElem?_set_self (by simpa using hl)
  have h4 := Fm.put h3 i e3 4 v4 #[v0, v1, v2, v3, v4, u5, u6, u7, u8] rfl
  have e4 : (((((l.set i (Frm.box g #[v0, u1, u2, u3, u4, u5, u6, u7, u8] t)).set i (Frm.box g #[v0, v1, u2, u3, u4, u5, u6, u7, u8] t)).set i (Frm.box g #[v0, v1, v2, u3, u4, u5, u6, u7, u8] t)).set i (Frm.box g #[v0, v1, v2, v3, u4, u5, u6, u7, u8] t)).set i (Frm.box g #[v0, v1, v2, v3, v4, u5, u6, u7, u8] t))[i]? = some (Frm.box g #[v0, v1, v2, v3, v4, u5, u6, u7, u8] t) := List.getElem?_set_self (by simpa using hl)
  have h5 := Fm.put h4 i e4 5 v5 #[v0, v1, v2, v3, v4, v5, u6, u7, u8] rfl
  have e5 : ((((((l.set i (Frm.box g #[v0, u1, u2, u3, u4, u5, u6, u7, u8] t)).set i (Frm.box g #[v0, v1, u2, u3, u4, u5, u6, u7, u8] t)).set i (Frm.box g #[v0, v1, v2, u3, u4, u5, u6, u7, u8] t)).set i (Frm.box g #[v0, v1, v2, v3, u4, u5, u6, u7, u8] t)).set i (Frm.box g #[v0, v1, v2, v3, v4, u5, u6, u7, u8] t)).set i (Frm.box g #[v0, v1, v2, v3, v4, v5, u6, u7, u8] t))[i]? = some (Frm.box g #[v0, v1, v2, v3, v4, v5, u6, u7, u8] t) := List.getElem?_set_self (by simpa using hl)
  have h6 := Fm.put h5 i e5 6 v6 #[v0, v1, v2, v3, v4, v5, v6, u7, u8] rfl
  have e6 : (((((((l.set i (Frm.box g #[v0, u1, u2, u3, u4, u5, u6, u7, u8] t)).set i (Frm.box g #[v0, v1, u2, u3, u4, u5, u6, u7, u8] t)).set i (Frm.box g #[v0, v1, v2, u3, u4, u5, u6, u7, u8] t)).set i (Frm.box g #[v0, v1, v2, v3, u4, u5, u6, u7, u8] t)).set i (Frm.box g #[v0, v1, v2, v3, v4, u5, u6, u7, u8] t)).set i (Frm.box g #[v0, v1, v2, v3, v4, v5, u6, u7, u8] t)).set i (Frm.box g #[v0, v1, v2, v3, v4, v5, v6, u7, u8] t))[i]? = some (Frm.box g #[v0, v1, v2, v3, v4, v5, v6, u7, u8] t) := List.getElem?_set_self (by simpa using hl)
  have h7 := Fm.put h6 i e6 7 v7 #[v0, v1, v2, v3, v4, v5, v6, v7, u8] rfl
  have e7 : ((((((((l.set i (Frm.box g #[v0, u1, u2, u3, u4, u5, u6, u7, u8] t)).set i (Frm.box g #[v0, v1, u2, u3, u4, u5, u6, u7, u8] t)).set i (Frm.box g #[v0, v1, v2, u3, u4, u5, u6, u7, u8] t)).set i (Frm.box g #[v0, v1, v2, v3, u4, u5, u6, u7, u8] t)).set i (Frm.box g #[v0, v1, v2, v3, v4, u5, u6, u7, u8] t)).set i (Frm.box g #[v0, v1, v2, v3, v4, v5, u6, u7, u8] t)).set i (Frm.box g #[v0, v1, v2, v3, v4, v5, v6, u7, u8] t)).set i (Frm.box g #[v0, v1, v2, v3, v4, v5, v6, v7, u8] t))[i]? = some (Frm.box g #[v0, v1, v2, v3, v4, v5, v6, v7, u8] t) := List.getElem?_set_self (by simpa using hl)
  have h8 := Fm.put h7 i e7 8 v8 #[v0, v1, v2, v3, v4, v5, v6, v7, v8] rfl
  simpa only [List.set_set] using h8
theorem fm_three {w0 w : World} {p q r : Part} {l : List Part} (h : Fm w0 w (p :: q :: r :: l)) : Fm w0 w [p, q, r] := h.sub (List.Sublist.cons_cons _ (List.Sublist.cons_cons _ (List.Sublist.cons_cons _ (List.nil_sublist _))))
theorem copied_fm {w0 w : World} {l : List Part} (h : Fm w0 w l) (a : Option Addr) (n c : Nat) (ys : List ByteArray) (hr : SReads w a ys) (hl : ys.length ≤ 1000) (hn : n = ys.length) :
    Calls Tryz.prog 101 #[.slice a n c] w fun e w' => ∃ g, e = .returned (.slice (some ⟨g, 0, none⟩) n n) ∧ Fm w0 w' (rowO g ys :: l) :=
  (copied_c a n c ys w hr hl hn).mono fun e w' t => by
    obtain ⟨h1, h2, h3, h4⟩ := t
    subst hn
    exact ⟨_, h1, h.new h3 h2 (fun b e => by rw [show b = w.heap.size from e]; exact Nat.le_refl _) fun b e => by rw [show b = w.heap.size from e]; exact Nat.le_refl _⟩
set_option maxHeartbeats 4000000 in
set_option maxRecDepth 1000000 in
theorem apart_c (o f : ByteArray) (ep : Int) (A : Option Addr) (c : Nat) (rs : List ByteArray) (B : Option Addr) (d : Nat) (ws : List ByteArray) (v : Int) (R : ByteArray) (S : Option Addr) (e : Nat) (ss : List ByteArray) (gone : Bool) (w : World)
    (hr : SReads w A rs) (hw : SReads w B ws) (hs : SReads w S ss) (hl1 : rs.length ≤ 1000) (hl2 : ws.length ≤ 1000) (hl3 : ss.length ≤ 1000) :
    Calls Tryz.prog 55 #[.agg #[.string o, .string f, .int .i64 ep, .slice A rs.length c, .slice B ws.length d, .int .u64 v, .string R, .slice S ss.length e, .bool gone]] w fun en w' => ∃ a b g, en = .returned (.agg (OV o f ep (some ⟨a, 0, none⟩) rs.length rs.length (some ⟨b, 0, none⟩) ws.length ws.length v R (some ⟨g, 0, none⟩) ss.length ss.length gone).toArray) ∧ Fm w w' [rowO g ss, rowO b ws, rowO a rs] := by
  have HF := Lib.hid ((((fm_refl w).came (q := rowP S ss) hs (fun _ h => h) ((rowP S ss).old hs)).came (q := rowP B ws) hw (fun _ h => h) ((rowP B ws).old hw)).came (q := rowP A rs) hr (fun _ h => h) ((rowP A rs).old hr))
  have HC1 := Lib.hid fun (w1 : World) (l : List Part) (h : Fm w w1 l) (h2 : SReads w1 A rs) => copied_fm h A rs.length c rs h2 hl1 rfl
  have HC2 := Lib.hid fun (w1 : World) (l : List Part) (h : Fm w w1 l) (h2 : SReads w1 B ws) => copied_fm h B ws.length d ws h2 hl2 rfl
  have HC3 := Lib.hid fun (w1 : World) (l : List Part) (h : Fm w w1 l) (h2 : SReads w1 S ss) => copied_fm h S ss.length e ss h2 hl3 rfl
  clear hr hw hs
  go_enter Tryz.func55, Tryz.ntmps55
  obtain ⟨G, hG⟩ : ∃ G, w.heap.size = G := ⟨_, rfl⟩
  go_wp2_with fail
  have hF := (HF.out.box #[.string o, .string f, .int .i64 ep, .slice A rs.length c, .slice B ws.length d, .int .u64 v, .string R, .slice S ss.length e, .bool gone] 50).box #[.string ⟨#[]⟩, .string ⟨#[]⟩, .int .i64 0, .slice none 0 0, .slice none 0 0, .int .u64 0, .string ⟨#[]⟩, .slice none 0 0, .bool false] 50
  rw [show (w.alloc (.cells #[.string o, .string f, .int .i64 ep, .slice A rs.length c, .slice B ws.length d, .int .u64 v, .string R, .slice S ss.length e, .bool gone] 50)).heap.size = w.heap.size + 1 by simp] at hF
  generalize (w.alloc (.cells #[.string o, .string f, .int .i64 ep, .slice A rs.length c, .slice B ws.length d, .int .u64 v, .string R, .slice S ss.length e, .bool gone] 50)).alloc (.cells #[.string ⟨#[]⟩, .string ⟨#[]⟩, .int .i64 0, .slice none 0 0, .slice none 0 0, .int .u64 0, .string ⟨#[]⟩, .slice none 0 0, .bool false] 50) = w1 at hF ⊢
  replace HF := Lib.hid hF
  clear hF
  rw [hG] at HF
  go_wp2_with fail
  replace HF : Hid (Fm w w1.drew _) := Lib.hid (HF.out.go (Below.drewN' (Below.refl w1.heap.size w1) 1))
  refine wp_region_held_drew (S := fun _ => True) (by kernel_rfl) trivial (fun hHeld => ?_)
  generalize w1.drew = w1 at HF ⊢
  try simp only [Act.put, List.setIfInBounds_toArray, List.set_cons_zero, List.set_cons_succ]
  refine wpAnyH_take (i := 0) (v := ?_) (by rw [List.getElem?_toArray]; rfl) (by kernel_rfl) (by kernel_rfl) (by kernel_rfl) (by exact fun _ _ _ h => h) (Or.inl ⟨by rfl, ?_⟩) hHeld ?_; rotate_left; · (intro w' hSw; go_simp; try with_reducible rfl)
  refine wpAnyH_take (i := 4) (v := ?_) (by rw [List.getElem?_toArray]; rfl) (by kernel_rfl) (by kernel_rfl) (by kernel_rfl) (by exact fun _ _ _ h => h) (Or.inl ⟨by rfl, ?_⟩) hHeld ?_; rotate_left; · (intro w' hSw; go_simp; try with_reducible rfl)
  try simp only [Act.put, List.setIfInBounds_toArray, List.set_cons_zero, List.set_cons_succ]
  refine wpAnyH_take (i := 1) (v := ?_) (by rw [List.getElem?_toArray]; rfl) (by kernel_rfl) (by kernel_rfl) (by kernel_rfl) (by exact fun _ _ _ h => h) (Or.inl ⟨by rfl, ?_⟩) hHeld ?_; rotate_left; · (intro w' hSw; go_simp; try with_reducible rfl)
  refine wpAnyH_take (i := 5) (v := ?_) (by rw [List.getElem?_toArray]; rfl) (by kernel_rfl) (by kernel_rfl) (by kernel_rfl) (by exact fun _ _ _ h => h) (Or.inl ⟨by rfl, ?_⟩) hHeld ?_; rotate_left; · (intro w' hSw; go_simp; try with_reducible rfl)
  try simp only [Act.put, List.setIfInBounds_toArray, List.set_cons_zero, List.set_cons_succ]
  clear hHeld
  refine wpAnyH_ready (rs := [2, 6]) (by kernel_rfl) (by simp) ?_
  refine AllReadyH.cons (by rw [List.getElem?_toArray]; rfl) (fun Kn hK => ?_) (AllReadyH.cons (by rw [List.getElem?_toArray]; rfl) (fun Kn hK => ?_) AllReadyH.nil)
  · obtain ⟨q00, q01, q02, q03, q04, q05, q06, q07, q08, q09⟩ := bx9 (HF.out.at 1 rfl)
    go_simp
    clear q00 q01 q02 q03 q04 q05 q06 q07 q08 q09
    refine hK.out _ _ trivial (fun hHeld => ?_)
    try simp only [Act.put, List.setIfInBounds_toArray, List.set_cons_zero, List.set_cons_succ]
    clear hHeld
    refine wpAnyH_ready (rs := [3, 6]) (by kernel_rfl) (by simp) ?_
    refine AllReadyH.cons (by rw [List.getElem?_toArray]; rfl) (fun Kn hK => ?_) (AllReadyH.cons (by rw [List.getElem?_toArray]; rfl) (fun Kn hK => ?_) AllReadyH.nil)
    · go_simp
      with_reducible refine (HC1.out _ _ HF.out (HF.out.at 2 rfl)).mono ?_
      rintro e w1 ⟨ga, rfl, hF⟩
      replace HF := Lib.hid hF
      clear hF
      try dsimp only
      refine hK.out _ _ trivial (fun hHeld => ?_)
      try simp only [Act.put, List.setIfInBounds_toArray, List.set_cons_zero, List.set_cons_succ]
      clear hHeld
      refine wpAnyH_ready (rs := [6]) (by kernel_rfl) (by simp) ?_
      refine AllReadyH.cons (by rw [List.getElem?_toArray]; rfl) (fun Kn hK => ?_) AllReadyH.nil
      obtain ⟨q00, q01, q02, q03, q04, q05, q06, q07, q08, q09⟩ := bx9 (HF.out.at 2 rfl)
      go_simp
      clear q00 q01 q02 q03 q04 q05 q06 q07 q08 q09
      refine hK.out _ _ trivial (fun hHeld => ?_)
      try simp only [Act.put, List.setIfInBounds_toArray, List.set_cons_zero, List.set_cons_succ]
      refine wpAnyH_take (i := 8) (v := ?_) (by rw [List.getElem?_toArray]; rfl) (by kernel_rfl) (by kernel_rfl) (by kernel_rfl) (by exact fun _ _ _ h => h) (Or.inl ⟨by rfl, ?_⟩) hHeld ?_; rotate_left; · (intro w' hSw; go_simp; try with_reducible rfl)
      try simp only [Act.put, List.setIfInBounds_toArray, List.set_cons_zero, List.set_cons_succ]
      refine wpAnyH_take (i := 9) (v := ?_) (by rw [List.getElem?_toArray]; rfl) (by kernel_rfl) (by kernel_rfl) (by kernel_rfl) (by exact fun _ _ _ h => h) (Or.inl ⟨by rfl, ?_⟩) hHeld ?_; rotate_left; · (intro w' hSw; go_simp; try with_reducible rfl)
      try simp only [Act.put, List.setIfInBounds_toArray, List.set_cons_zero, List.set_cons_succ]
      clear hHeld
      refine wpAnyH_ready (rs := [7]) (by kernel_rfl) (by simp) ?_
      refine AllReadyH.cons (by rw [List.getElem?_toArray]; rfl) (fun Kn hK => ?_) AllReadyH.nil
      go_simp
      with_reducible refine (HC2.out _ _ HF.out (HF.out.at 4 rfl)).mono ?_
      rintro e w1 ⟨gb, rfl, hF⟩
      replace HF := Lib.hid hF
      clear hF
      try dsimp only
      refine hK.out _ _ trivial (fun hHeld => ?_)
      try simp only [Act.put, List.setIfInBounds_toArray, List.set_cons_zero, List.set_cons_succ]
      clear hHeld
      refine wpAnyH_ready (rs := [10]) (by kernel_rfl) (by simp) ?_
      refine AllReadyH.cons (by rw [List.getElem?_toArray]; rfl) (fun Kn hK => ?_) AllReadyH.nil
      have hbx := HF.out.at 3 rfl
      have hlc := box_at hbx 3
      have hlf := box_sf hbx 3
      go_simp
      clear hlc hlf hbx
      have hF := HF.out.put 3 rfl 3 (.slice (some ⟨ga, 0, none⟩) rs.length rs.length) #[.string o, .string f, .int .i64 ep, .slice (some ⟨ga, 0, none⟩) rs.length rs.length, .slice B ws.length d, .int .u64 v, .string R, .slice S ss.length e, .bool gone] rfl
      generalize w1.setCell ⟨G, 3, none⟩ (.slice (some ⟨ga, 0, none⟩) rs.length rs.length) = w1 at hF ⊢
      replace HF := Lib.hid hF
      clear hF
      refine hK.out _ _ trivial (fun hHeld => ?_)
      try simp only [Act.put, List.setIfInBounds_toArray, List.set_cons_zero, List.set_cons_succ]
      refine wpAnyH_take (i := 11) (v := ?_) (by rw [List.getElem?_toArray]; rfl) (by kernel_rfl) (by kernel_rfl) (by kernel_rfl) (by exact fun _ _ _ h => h) (Or.inl ⟨by rfl, ?_⟩) hHeld ?_; rotate_left; · (intro w' hSw; go_simp; try with_reducible rfl)
      try simp only [Act.put, List.setIfInBounds_toArray, List.set_cons_zero, List.set_cons_succ]
      refine wpAnyH_take (i := 12) (v := ?_) (by rw [List.getElem?_toArray]; rfl) (by kernel_rfl) (by kernel_rfl) (by kernel_rfl) (by exact fun _ _ _ h => h) (Or.inl ⟨by rfl, ?_⟩) hHeld ?_; rotate_left; · (intro w' hSw; go_simp; try with_reducible rfl)
      try simp only [Act.put, List.setIfInBounds_toArray, List.set_cons_zero, List.set_cons_succ]
      clear hHeld
      refine wpAnyH_ready (rs := [13]) (by kernel_rfl) (by simp) ?_
      refine AllReadyH.cons (by rw [List.getElem?_toArray]; rfl) (fun Kn hK => ?_) AllReadyH.nil
      have hbx := HF.out.at 3 rfl
      have hlc := box_at hbx 4
      have hlf := box_sf hbx 4
      go_simp
      clear hlc hlf hbx
      have hF := HF.out.put 3 rfl 4 (.slice (some ⟨gb, 0, none⟩) ws.length ws.length) #[.string o, .string f, .int .i64 ep, .slice (some ⟨ga, 0, none⟩) rs.length rs.length, .slice (some ⟨gb, 0, none⟩) ws.length ws.length, .int .u64 v, .string R, .slice S ss.length e, .bool gone] rfl
      generalize w1.setCell ⟨G, 4, none⟩ (.slice (some ⟨gb, 0, none⟩) ws.length ws.length) = w1 at hF ⊢
      replace HF := Lib.hid hF
      clear hF
      refine hK.out _ _ trivial (fun hHeld => ?_)
      try simp only [Act.put, List.setIfInBounds_toArray, List.set_cons_zero, List.set_cons_succ]
      refine wpAnyH_done (by kernel_rfl) ?_ _
      clear hHeld
      obtain ⟨c0, c1, c2, c3, c4, c5, c6, c7, c8, c9⟩ := bx9 (HF.out.at 3 rfl)
      go_wp2_with fail
      with_reducible refine (HC3.out _ _ HF.out (HF.out.at 6 rfl)).mono ?_
      rintro e w1 ⟨gs, rfl, hF⟩
      replace HF := Lib.hid hF
      clear hF
      try dsimp only
      clear c0 c1 c2 c3 c4 c5 c6 c7 c8 c9
      obtain ⟨c0, c1, c2, c3, c4, c5, c6, c7, c8, c9⟩ := bx9 (HF.out.at 4 rfl)
      obtain ⟨d0, d1, d2, d3, d4, d5, d6, d7, d8, d9⟩ := bx9 (HF.out.at 3 rfl)
      have fo := box_sf (HF.out.at 4 rfl)
      have fq := box_sf (HF.out.at 3 rfl)
      go_wp2_with fail
      have hF := (HF.out.put 4 rfl 7 (.slice (some ⟨gs, 0, none⟩) ss.length ss.length) #[.string o, .string f, .int .i64 ep, .slice (some ⟨ga, 0, none⟩) rs.length rs.length, .slice (some ⟨gb, 0, none⟩) ws.length ws.length, .int .u64 v, .string R, .slice (some ⟨gs, 0, none⟩) ss.length ss.length, .bool gone] rfl).fill9 3 rfl (.string o) (.string f) (.int .i64 ep) (.slice (some ⟨ga, 0, none⟩) rs.length rs.length) (.slice (some ⟨gb, 0, none⟩) ws.length ws.length) (.int .u64 v) (.string R) (.slice (some ⟨gs, 0, none⟩) ss.length ss.length) (.bool gone)
      clear c0 c1 c2 c3 c4 c5 c6 c7 c8 c9
      clear d0 d1 d2 d3 d4 d5 d6 d7 d8 d9
      clear fo fq
      generalize ((((((((((w1.setCell ⟨G, 7, none⟩ (.slice (some ⟨gs, 0, none⟩) ss.length ss.length)).setCell ⟨G + 1, 0, none⟩ (.string o)).setCell ⟨G + 1, 1, none⟩ (.string f)).setCell ⟨G + 1, 2, none⟩ (.int .i64 ep)).setCell ⟨G + 1, 3, none⟩ (.slice (some ⟨ga, 0, none⟩) rs.length rs.length)).setCell ⟨G + 1, 4, none⟩ (.slice (some ⟨gb, 0, none⟩) ws.length ws.length)).setCell ⟨G + 1, 5, none⟩ (.int .u64 v)).setCell ⟨G + 1, 6, none⟩ (.string R)).setCell ⟨G + 1, 7, none⟩ (.slice (some ⟨gs, 0, none⟩) ss.length ss.length)).setCell ⟨G + 1, 8, none⟩ (.bool gone)) = w1 at hF ⊢
      replace HF := Lib.hid hF
      clear hF
      have hh := HF.out.at 3 rfl
      refine bodyPost_ret (results_cell_row (g := G + 1) rfl _ _ _ _ _ _ rfl hh Tryz.underlying50 rfl (by kernel_rfl)) rfl ?_
      exact ⟨ga, gb, gs, rfl, fm_three HF.out⟩
    · obtain ⟨q00, q01, q02, q03, q04, q05, q06, q07, q08, q09⟩ := bx9 (HF.out.at 1 rfl)
      go_simp
      clear q00 q01 q02 q03 q04 q05 q06 q07 q08 q09
      refine hK.out _ _ trivial (fun hHeld => ?_)
      try simp only [Act.put, List.setIfInBounds_toArray, List.set_cons_zero, List.set_cons_succ]
      clear hHeld
      refine wpAnyH_ready (rs := [3]) (by kernel_rfl) (by simp) ?_
      refine AllReadyH.cons (by rw [List.getElem?_toArray]; rfl) (fun Kn hK => ?_) AllReadyH.nil
      go_simp
      with_reducible refine (HC1.out _ _ HF.out (HF.out.at 2 rfl)).mono ?_
      rintro e w1 ⟨ga, rfl, hF⟩
      replace HF := Lib.hid hF
      clear hF
      try dsimp only
      refine hK.out _ _ trivial (fun hHeld => ?_)
      try simp only [Act.put, List.setIfInBounds_toArray, List.set_cons_zero, List.set_cons_succ]
      refine wpAnyH_take (i := 8) (v := ?_) (by rw [List.getElem?_toArray]; rfl) (by kernel_rfl) (by kernel_rfl) (by kernel_rfl) (by exact fun _ _ _ h => h) (Or.inl ⟨by rfl, ?_⟩) hHeld ?_; rotate_left; · (intro w' hSw; go_simp; try with_reducible rfl)
      try simp only [Act.put, List.setIfInBounds_toArray, List.set_cons_zero, List.set_cons_succ]
      refine wpAnyH_take (i := 9) (v := ?_) (by rw [List.getElem?_toArray]; rfl) (by kernel_rfl) (by kernel_rfl) (by kernel_rfl) (by exact fun _ _ _ h => h) (Or.inl ⟨by rfl, ?_⟩) hHeld ?_; rotate_left; · (intro w' hSw; go_simp; try with_reducible rfl)
      try simp only [Act.put, List.setIfInBounds_toArray, List.set_cons_zero, List.set_cons_succ]
      clear hHeld
      refine wpAnyH_ready (rs := [7]) (by kernel_rfl) (by simp) ?_
      refine AllReadyH.cons (by rw [List.getElem?_toArray]; rfl) (fun Kn hK => ?_) AllReadyH.nil
      go_simp
      with_reducible refine (HC2.out _ _ HF.out (HF.out.at 4 rfl)).mono ?_
      rintro e w1 ⟨gb, rfl, hF⟩
      replace HF := Lib.hid hF
      clear hF
      try dsimp only
      refine hK.out _ _ trivial (fun hHeld => ?_)
      try simp only [Act.put, List.setIfInBounds_toArray, List.set_cons_zero, List.set_cons_succ]
      clear hHeld
      refine wpAnyH_ready (rs := [10]) (by kernel_rfl) (by simp) ?_
      refine AllReadyH.cons (by rw [List.getElem?_toArray]; rfl) (fun Kn hK => ?_) AllReadyH.nil
      have hbx := HF.out.at 3 rfl
      have hlc := box_at hbx 3
      have hlf := box_sf hbx 3
      go_simp
      clear hlc hlf hbx
      have hF := HF.out.put 3 rfl 3 (.slice (some ⟨ga, 0, none⟩) rs.length rs.length) #[.string o, .string f, .int .i64 ep, .slice (some ⟨ga, 0, none⟩) rs.length rs.length, .slice B ws.length d, .int .u64 v, .string R, .slice S ss.length e, .bool gone] rfl
      generalize w1.setCell ⟨G, 3, none⟩ (.slice (some ⟨ga, 0, none⟩) rs.length rs.length) = w1 at hF ⊢
      replace HF := Lib.hid hF
      clear hF
      refine hK.out _ _ trivial (fun hHeld => ?_)
      try simp only [Act.put, List.setIfInBounds_toArray, List.set_cons_zero, List.set_cons_succ]
      refine wpAnyH_take (i := 11) (v := ?_) (by rw [List.getElem?_toArray]; rfl) (by kernel_rfl) (by kernel_rfl) (by kernel_rfl) (by exact fun _ _ _ h => h) (Or.inl ⟨by rfl, ?_⟩) hHeld ?_; rotate_left; · (intro w' hSw; go_simp; try with_reducible rfl)
      try simp only [Act.put, List.setIfInBounds_toArray, List.set_cons_zero, List.set_cons_succ]
      refine wpAnyH_take (i := 12) (v := ?_) (by rw [List.getElem?_toArray]; rfl) (by kernel_rfl) (by kernel_rfl) (by kernel_rfl) (by exact fun _ _ _ h => h) (Or.inl ⟨by rfl, ?_⟩) hHeld ?_; rotate_left; · (intro w' hSw; go_simp; try with_reducible rfl)
      try simp only [Act.put, List.setIfInBounds_toArray, List.set_cons_zero, List.set_cons_succ]
      clear hHeld
      refine wpAnyH_ready (rs := [13]) (by kernel_rfl) (by simp) ?_
      refine AllReadyH.cons (by rw [List.getElem?_toArray]; rfl) (fun Kn hK => ?_) AllReadyH.nil
      have hbx := HF.out.at 3 rfl
      have hlc := box_at hbx 4
      have hlf := box_sf hbx 4
      go_simp
      clear hlc hlf hbx
      have hF := HF.out.put 3 rfl 4 (.slice (some ⟨gb, 0, none⟩) ws.length ws.length) #[.string o, .string f, .int .i64 ep, .slice (some ⟨ga, 0, none⟩) rs.length rs.length, .slice (some ⟨gb, 0, none⟩) ws.length ws.length, .int .u64 v, .string R, .slice S ss.length e, .bool gone] rfl
      generalize w1.setCell ⟨G, 4, none⟩ (.slice (some ⟨gb, 0, none⟩) ws.length ws.length) = w1 at hF ⊢
      replace HF := Lib.hid hF
      clear hF
      refine hK.out _ _ trivial (fun hHeld => ?_)
      try simp only [Act.put, List.setIfInBounds_toArray, List.set_cons_zero, List.set_cons_succ]
      refine wpAnyH_done (by kernel_rfl) ?_ _
      clear hHeld
      obtain ⟨c0, c1, c2, c3, c4, c5, c6, c7, c8, c9⟩ := bx9 (HF.out.at 3 rfl)
      go_wp2_with fail
      with_reducible refine (HC3.out _ _ HF.out (HF.out.at 6 rfl)).mono ?_
      rintro e w1 ⟨gs, rfl, hF⟩
      replace HF := Lib.hid hF
      clear hF
      try dsimp only
      clear c0 c1 c2 c3 c4 c5 c6 c7 c8 c9
      obtain ⟨c0, c1, c2, c3, c4, c5, c6, c7, c8, c9⟩ := bx9 (HF.out.at 4 rfl)
      obtain ⟨d0, d1, d2, d3, d4, d5, d6, d7, d8, d9⟩ := bx9 (HF.out.at 3 rfl)
      have fo := box_sf (HF.out.at 4 rfl)
      have fq := box_sf (HF.out.at 3 rfl)
      go_wp2_with fail
      have hF := (HF.out.put 4 rfl 7 (.slice (some ⟨gs, 0, none⟩) ss.length ss.length) #[.string o, .string f, .int .i64 ep, .slice (some ⟨ga, 0, none⟩) rs.length rs.length, .slice (some ⟨gb, 0, none⟩) ws.length ws.length, .int .u64 v, .string R, .slice (some ⟨gs, 0, none⟩) ss.length ss.length, .bool gone] rfl).fill9 3 rfl (.string o) (.string f) (.int .i64 ep) (.slice (some ⟨ga, 0, none⟩) rs.length rs.length) (.slice (some ⟨gb, 0, none⟩) ws.length ws.length) (.int .u64 v) (.string R) (.slice (some ⟨gs, 0, none⟩) ss.length ss.length) (.bool gone)
      clear c0 c1 c2 c3 c4 c5 c6 c7 c8 c9
      clear d0 d1 d2 d3 d4 d5 d6 d7 d8 d9
      clear fo fq
      generalize ((((((((((w1.setCell ⟨G, 7, none⟩ (.slice (some ⟨gs, 0, none⟩) ss.length ss.length)).setCell ⟨G + 1, 0, none⟩ (.string o)).setCell ⟨G + 1, 1, none⟩ (.string f)).setCell ⟨G + 1, 2, none⟩ (.int .i64 ep)).setCell ⟨G + 1, 3, none⟩ (.slice (some ⟨ga, 0, none⟩) rs.length rs.length)).setCell ⟨G + 1, 4, none⟩ (.slice (some ⟨gb, 0, none⟩) ws.length ws.length)).setCell ⟨G + 1, 5, none⟩ (.int .u64 v)).setCell ⟨G + 1, 6, none⟩ (.string R)).setCell ⟨G + 1, 7, none⟩ (.slice (some ⟨gs, 0, none⟩) ss.length ss.length)).setCell ⟨G + 1, 8, none⟩ (.bool gone)) = w1 at hF ⊢
      replace HF := Lib.hid hF
      clear hF
      have hh := HF.out.at 3 rfl
      refine bodyPost_ret (results_cell_row (g := G + 1) rfl _ _ _ _ _ _ rfl hh Tryz.underlying50 rfl (by kernel_rfl)) rfl ?_
      exact ⟨ga, gb, gs, rfl, fm_three HF.out⟩
  · obtain ⟨q00, q01, q02, q03, q04, q05, q06, q07, q08, q09⟩ := bx9 (HF.out.at 1 rfl)
    go_simp
    clear q00 q01 q02 q03 q04 q05 q06 q07 q08 q09
    refine hK.out _ _ trivial (fun hHeld => ?_)
    try simp only [Act.put, List.setIfInBounds_toArray, List.set_cons_zero, List.set_cons_succ]
    clear hHeld
    refine wpAnyH_ready (rs := [2]) (by kernel_rfl) (by simp) ?_
    refine AllReadyH.cons (by rw [List.getElem?_toArray]; rfl) (fun Kn hK => ?_) AllReadyH.nil
    obtain ⟨q00, q01, q02, q03, q04, q05, q06, q07, q08, q09⟩ := bx9 (HF.out.at 1 rfl)
    go_simp
    clear q00 q01 q02 q03 q04 q05 q06 q07 q08 q09
    refine hK.out _ _ trivial (fun hHeld => ?_)
    try simp only [Act.put, List.setIfInBounds_toArray, List.set_cons_zero, List.set_cons_succ]
    clear hHeld
    refine wpAnyH_ready (rs := [3]) (by kernel_rfl) (by simp) ?_
    refine AllReadyH.cons (by rw [List.getElem?_toArray]; rfl) (fun Kn hK => ?_) AllReadyH.nil
    go_simp
    with_reducible refine (HC1.out _ _ HF.out (HF.out.at 2 rfl)).mono ?_
    rintro e w1 ⟨ga, rfl, hF⟩
    replace HF := Lib.hid hF
    clear hF
    try dsimp only
    refine hK.out _ _ trivial (fun hHeld => ?_)
    try simp only [Act.put, List.setIfInBounds_toArray, List.set_cons_zero, List.set_cons_succ]
    refine wpAnyH_take (i := 8) (v := ?_) (by rw [List.getElem?_toArray]; rfl) (by kernel_rfl) (by kernel_rfl) (by kernel_rfl) (by exact fun _ _ _ h => h) (Or.inl ⟨by rfl, ?_⟩) hHeld ?_; rotate_left; · (intro w' hSw; go_simp; try with_reducible rfl)
    try simp only [Act.put, List.setIfInBounds_toArray, List.set_cons_zero, List.set_cons_succ]
    refine wpAnyH_take (i := 9) (v := ?_) (by rw [List.getElem?_toArray]; rfl) (by kernel_rfl) (by kernel_rfl) (by kernel_rfl) (by exact fun _ _ _ h => h) (Or.inl ⟨by rfl, ?_⟩) hHeld ?_; rotate_left; · (intro w' hSw; go_simp; try with_reducible rfl)
    try simp only [Act.put, List.setIfInBounds_toArray, List.set_cons_zero, List.set_cons_succ]
    clear hHeld
    refine wpAnyH_ready (rs := [7]) (by kernel_rfl) (by simp) ?_
    refine AllReadyH.cons (by rw [List.getElem?_toArray]; rfl) (fun Kn hK => ?_) AllReadyH.nil
    go_simp
    with_reducible refine (HC2.out _ _ HF.out (HF.out.at 4 rfl)).mono ?_
    rintro e w1 ⟨gb, rfl, hF⟩
    replace HF := Lib.hid hF
    clear hF
    try dsimp only
    refine hK.out _ _ trivial (fun hHeld => ?_)
    try simp only [Act.put, List.setIfInBounds_toArray, List.set_cons_zero, List.set_cons_succ]
    clear hHeld
    refine wpAnyH_ready (rs := [10]) (by kernel_rfl) (by simp) ?_
    refine AllReadyH.cons (by rw [List.getElem?_toArray]; rfl) (fun Kn hK => ?_) AllReadyH.nil
    have hbx := HF.out.at 3 rfl
    have hlc := box_at hbx 3
    have hlf := box_sf hbx 3
    go_simp
    clear hlc hlf hbx
    have hF := HF.out.put 3 rfl 3 (.slice (some ⟨ga, 0, none⟩) rs.length rs.length) #[.string o, .string f, .int .i64 ep, .slice (some ⟨ga, 0, none⟩) rs.length rs.length, .slice B ws.length d, .int .u64 v, .string R, .slice S ss.length e, .bool gone] rfl
    generalize w1.setCell ⟨G, 3, none⟩ (.slice (some ⟨ga, 0, none⟩) rs.length rs.length) = w1 at hF ⊢
    replace HF := Lib.hid hF
    clear hF
    refine hK.out _ _ trivial (fun hHeld => ?_)
    try simp only [Act.put, List.setIfInBounds_toArray, List.set_cons_zero, List.set_cons_succ]
    refine wpAnyH_take (i := 11) (v := ?_) (by rw [List.getElem?_toArray]; rfl) (by kernel_rfl) (by kernel_rfl) (by kernel_rfl) (by exact fun _ _ _ h => h) (Or.inl ⟨by rfl, ?_⟩) hHeld ?_; rotate_left; · (intro w' hSw; go_simp; try with_reducible rfl)
    try simp only [Act.put, List.setIfInBounds_toArray, List.set_cons_zero, List.set_cons_succ]
    refine wpAnyH_take (i := 12) (v := ?_) (by rw [List.getElem?_toArray]; rfl) (by kernel_rfl) (by kernel_rfl) (by kernel_rfl) (by exact fun _ _ _ h => h) (Or.inl ⟨by rfl, ?_⟩) hHeld ?_; rotate_left; · (intro w' hSw; go_simp; try with_reducible rfl)
    try simp only [Act.put, List.setIfInBounds_toArray, List.set_cons_zero, List.set_cons_succ]
    clear hHeld
    refine wpAnyH_ready (rs := [13]) (by kernel_rfl) (by simp) ?_
    refine AllReadyH.cons (by rw [List.getElem?_toArray]; rfl) (fun Kn hK => ?_) AllReadyH.nil
    have hbx := HF.out.at 3 rfl
    have hlc := box_at hbx 4
    have hlf := box_sf hbx 4
    go_simp
    clear hlc hlf hbx
    have hF := HF.out.put 3 rfl 4 (.slice (some ⟨gb, 0, none⟩) ws.length ws.length) #[.string o, .string f, .int .i64 ep, .slice (some ⟨ga, 0, none⟩) rs.length rs.length, .slice (some ⟨gb, 0, none⟩) ws.length ws.length, .int .u64 v, .string R, .slice S ss.length e, .bool gone] rfl
    generalize w1.setCell ⟨G, 4, none⟩ (.slice (some ⟨gb, 0, none⟩) ws.length ws.length) = w1 at hF ⊢
    replace HF := Lib.hid hF
    clear hF
    refine hK.out _ _ trivial (fun hHeld => ?_)
    try simp only [Act.put, List.setIfInBounds_toArray, List.set_cons_zero, List.set_cons_succ]
    refine wpAnyH_done (by kernel_rfl) ?_ _
    clear hHeld
    obtain ⟨c0, c1, c2, c3, c4, c5, c6, c7, c8, c9⟩ := bx9 (HF.out.at 3 rfl)
    go_wp2_with fail
    with_reducible refine (HC3.out _ _ HF.out (HF.out.at 6 rfl)).mono ?_
    rintro e w1 ⟨gs, rfl, hF⟩
    replace HF := Lib.hid hF
    clear hF
    try dsimp only
    clear c0 c1 c2 c3 c4 c5 c6 c7 c8 c9
    obtain ⟨c0, c1, c2, c3, c4, c5, c6, c7, c8, c9⟩ := bx9 (HF.out.at 4 rfl)
    obtain ⟨d0, d1, d2, d3, d4, d5, d6, d7, d8, d9⟩ := bx9 (HF.out.at 3 rfl)
    have fo := box_sf (HF.out.at 4 rfl)
    have fq := box_sf (HF.out.at 3 rfl)
    go_wp2_with fail
    have hF := (HF.out.put 4 rfl 7 (.slice (some ⟨gs, 0, none⟩) ss.length ss.length) #[.string o, .string f, .int .i64 ep, .slice (some ⟨ga, 0, none⟩) rs.length rs.length, .slice (some ⟨gb, 0, none⟩) ws.length ws.length, .int .u64 v, .string R, .slice (some ⟨gs, 0, none⟩) ss.length ss.length, .bool gone] rfl).fill9 3 rfl (.string o) (.string f) (.int .i64 ep) (.slice (some ⟨ga, 0, none⟩) rs.length rs.length) (.slice (some ⟨gb, 0, none⟩) ws.length ws.length) (.int .u64 v) (.string R) (.slice (some ⟨gs, 0, none⟩) ss.length ss.length) (.bool gone)
    clear c0 c1 c2 c3 c4 c5 c6 c7 c8 c9
    clear d0 d1 d2 d3 d4 d5 d6 d7 d8 d9
    clear fo fq
    generalize ((((((((((w1.setCell ⟨G, 7, none⟩ (.slice (some ⟨gs, 0, none⟩) ss.length ss.length)).setCell ⟨G + 1, 0, none⟩ (.string o)).setCell ⟨G + 1, 1, none⟩ (.string f)).setCell ⟨G + 1, 2, none⟩ (.int .i64 ep)).setCell ⟨G + 1, 3, none⟩ (.slice (some ⟨ga, 0, none⟩) rs.length rs.length)).setCell ⟨G + 1, 4, none⟩ (.slice (some ⟨gb, 0, none⟩) ws.length ws.length)).setCell ⟨G + 1, 5, none⟩ (.int .u64 v)).setCell ⟨G + 1, 6, none⟩ (.string R)).setCell ⟨G + 1, 7, none⟩ (.slice (some ⟨gs, 0, none⟩) ss.length ss.length)).setCell ⟨G + 1, 8, none⟩ (.bool gone)) = w1 at hF ⊢
    replace HF := Lib.hid hF
    clear hF
    have hh := HF.out.at 3 rfl
    refine bodyPost_ret (results_cell_row (g := G + 1) rfl _ _ _ _ _ _ rfl hh Tryz.underlying50 rfl (by kernel_rfl)) rfl ?_
    exact ⟨ga, gb, gs, rfl, fm_three HF.out⟩
end Go.Proofs.YtbdealddjonobaaGreat.Usr
