/-
  U5. By an AI agent.
-/
import Derived.Test.YtbdealddjonobaaGreatYZ
import Derived.StillTailTactics
import Derived.Test.YtbdealddjonobaaGreatYU2
import Derived.Test.YtbdealddjonobaaGreatYU4
import Derived.Test.YtbdealddjonobaaGreatYC2
namespace Go.Proofs.YtbdealddjonobaaGreat.Usr
open Go Go.RowKit Wire Rig Draw Frm

set_option linter.unusedSimpArgs false
set_option linter.unusedVariables false
theorem UserAt.held {g me mg db dc : Nat} {N C : ByteArray} {V : Tm → Value} {sb : Tm → Nat} {w w' : World} {u u' : Us} {S M : Nat → Prop} (h : UserAt g me mg db dc N C V sb w u) (hS : ∀ b, S b ↔ Sb u g me mg db dc V sb b) (hMi : ∀ b, M b ↔ Mb u me mg db dc sb b) {f : Tm} {v' : Value} {b' : Nat} {X : Nat → Prop}
  (hn : u'.nm = u.nm) (hs : u'.sd = u.sd) (hlv : ∀ t, u'.live t = updH u.live f true t) (hof : ∀ t, t ≠ f → u'.of t = u.of t) (hf : Frm.Fr X w w') (hX : ∀ b, X b → Mb u me mg db dc sb b) (hXs : ∀ t, t ≠ f → u.live t = true → ¬ X (sb t)) (hd : DrawAt db dc w' u'.sd u'.dr)
  (hm : MapIs w' me (updH u.live f true) (updV V f v')) (hg : MapIs w' mg u'.gn (verV u')) (hb : b' ∉ [g, me, mg, db, dc]) (hb2 : (u.live f = true ∧ b' = sb f) ∨ w.heap.size ≤ b') (hv : HeldAt w' v' b' (u'.of f) (fun j => w.heap.size ≤ j ∧ j ≠ b')) {x : Int} {r : Us × Int} (hr : r = (u', x)) : Turn DU ⟨g, 0, none⟩ S M r w (.returned (.int .i64 x)) w' := by
 have hsf : ∀ t, t ≠ f → (fun t => if t = f then b' else sb t) t = sb t := fun t e => if_neg e
 have hsb : (fun t => if t = f then b' else sb t) f = b' := if_pos rfl
 generalize (fun t => if t = f then b' else sb t) = sb' at hsf hsb
 have hl1 : ∀ t, u'.live t = true → t ≠ f → u.live t = true := fun t ht e => by
  rw [hlv t] at ht
  unfold updH at ht
  rwa [if_neg e] at ht
 have hM : ∀ b, Mb u' me mg db dc sb' b → Mb u me mg db dc sb b ∨ w.heap.size ≤ b := fun b hb => by
  rcases hb with e | e | e | e | ⟨t, ht, e⟩
  · exact .inl (.inl e)
  · exact .inl (.inr (.inl e))
  · exact .inl (.inr (.inr (.inl e)))
  · exact .inl (.inr (.inr (.inr (.inl e))))
  ·
   by_cases e2 : t = f
   ·
    subst e2
    rw [hsb] at e
    rcases hb2 with ⟨h1, h2⟩ | h1
    · exact .inl (.inr (.inr (.inr (.inr ⟨t, h1, h2.symm.trans e⟩))))
    · exact .inr (by omega)
   ·
    rw [hsf t e2] at e
    exact .inl (.inr (.inr (.inr (.inr ⟨t, hl1 t ht e2, e⟩))))
 have hMb : ∀ j, w.heap.size ≤ j → j ≠ b' → ¬ Mb u' me mg db dc sb' j := fun j hj hne hmj => by
  rcases hM j hmj with h1 | h1
  · have := h.m_lt h1; omega
  ·
   rcases hmj with e | e | e | e | ⟨t, ht, e⟩
   · have := h.m_lt (b := me) (.inl rfl); omega
   · have := h.m_lt (b := mg) (.inr (.inl rfl)); omega
   · have := h.m_lt (b := db) (.inr (.inr (.inl rfl))); omega
   · have := h.m_lt (b := dc) (.inr (.inr (.inr (.inl rfl)))); omega
   ·
    by_cases e2 : t = f
    ·
     subst e2
     rw [hsb] at e
     exact hne e.symm
    ·
     rw [hsf t e2] at e
     have := (h.rows t (hl1 t ht e2)).lt
     omega
 refine turned hS hMi (V' := updV V f v') (sb' := sb') (h.turn (u' := u') (V' := updV V f v') (sb' := sb') hf hX hn hs hd (hm.congr hlv fun t _ => rfl) hg (fun t ht => ?_) (fun t ht => ?_) (fun t x ht hx e => ?_)) hM (fun t b ht hb => ?_) hf hX hr
 ·
  by_cases e : t = f
  ·
   subst e
   rw [hsb, show updV V t v' t = v' from if_pos rfl]
   exact hv.mono fun j _ hj => hMb j hj.1 hj.2
  ·
   rw [hsf t e, show updV V f v' t = V t from if_neg e, hof t e]
   exact h.row (hl1 t ht e) hf hX (hXs t e (hl1 t ht e)) hM
 ·
  by_cases e : t = f
  · subst e; rw [hsb]; exact hb
  · rw [hsf t e]; exact h.off t (hl1 t ht e)
 ·
  by_cases e1 : t = f
  ·
   by_cases e2 : x = f
   · rw [e1, e2]
   ·
    rw [e1, hsb, hsf x e2] at e
    have hx2 := hl1 x hx e2
    rcases hb2 with ⟨h1, h2⟩ | h1
    · exact absurd (h.inj f x h1 hx2 (h2.symm.trans e)).symm e2
    · have := (h.rows x hx2).lt; omega
  ·
   by_cases e2 : x = f
   ·
    rw [e2, hsb, hsf t e1] at e
    have ht2 := hl1 t ht e1
    rcases hb2 with ⟨h1, h2⟩ | h1
    · exact absurd (h.inj t f ht2 h1 (e.trans h2)) e1
    · have := (h.rows t ht2).lt; omega
   ·
    rw [hsf t e1, hsf x e2] at e
    exact h.inj t x (hl1 t ht e1) (hl1 x hx e2) e
 ·
  by_cases e : t = f
  ·
   subst e
   rw [show updV V t v' t = v' from if_pos rfl] at hb
   rcases hv.bv hb with h1 | h1
   · exact .inr h1.1
   ·
    rcases hb2 with ⟨h2, h3⟩ | h2
    · exact .inl (.inr (.inl (.inr (.inr (.inr (.inr ⟨t, h2, h3.symm.trans h1.symm⟩))))))
    · exact .inr (by omega)
  ·
   rw [show updV V f v' t = V t from if_neg e] at hb
   exact .inl (.inr (.inr ⟨t, hl1 t ht e, hb⟩))
theorem isX_in {ok : Nat → Prop} {w : World} {o f : ByteArray} {ep : Int} {A : Option Addr} {n c : Nat} {B : Option Addr} {m d : Nat} {r : Rt} (h : IsX ok w (RV o f ep A n c B m d) r) {b : Nat} (hb : (0 < n ∧ ∃ off, A = some ⟨b, off, none⟩) ∨ (0 < m ∧ ∃ off, B = some ⟨b, off, none⟩)) : ok b ∧ b < w.heap.size := by
 obtain ⟨o', f', A', c', rs, B', d', ws, h1, h2, h3, h4, h5, h6, h7, h8⟩ := h
 unfold RV at h1
 injection h1 with h1
 simp only [Array.mk.injEq, List.cons.injEq, Value.string.injEq, Value.int.injEq, Value.slice.injEq, and_true, true_and] at h1
 obtain ⟨rfl, rfl, rfl, ⟨rfl, rfl, rfl⟩, rfl, rfl, rfl⟩ := h1
 rcases hb with ⟨h0, off, e⟩ | ⟨h0, off, e⟩
 · exact ⟨h7 b off e h0, sreads_lt h3 e h0⟩
 · exact ⟨h8 b off e h0, sreads_lt h4 e h0⟩
def ritP (lo : Nat) (o f : ByteArray) (ep : Int) (A : Option Addr) (n c : Nat) (B : Option Addr) (m d : Nat) (r : Rt) : Part where
  P w := IsX (fun j => lo ≤ j) w (RV o f ep A n c B m d) r
  S b := (0 < n ∧ ∃ off, A = some ⟨b, off, none⟩) ∨ (0 < m ∧ ∃ off, B = some ⟨b, off, none⟩)
  M _ := False
  sub _ h := h.elim
  dep _ h hb := isX_move h (fun b off e h0 => hb b (.inl ⟨h0, off, e⟩)) (fun b off e h0 => hb b (.inr ⟨h0, off, e⟩))
  old h b hb := (isX_in h hb).2
theorem rit_fm {w0 w w' : World} {l : List Part} (h : Fm w0 w l) (hb : Below w.heap.size w w') {v : Value} {r : Rt} (hx : IsX (fun b => w.heap.size ≤ b) w' v r) : ∃ o f A c B d, v = .agg #[.string o, .string f, .int .i64 r.ep, .slice A r.rs.length c, .slice B r.ws.length d] ∧ Fm w0 w' (ritP w0.heap.size o f r.ep A r.rs.length c B r.ws.length d r :: l) := by
 obtain ⟨o, f, ep, A, n, c, B, m, d, rfl, rfl, rfl, rfl, _, _, h2⟩ := isX_lit hx
 exact ⟨o, f, A, c, B, d, rfl, h.new hb (p := ritP w0.heap.size o f r.ep A r.rs.length c B r.ws.length d r) (h2.mono fun b _ hb => Nat.le_trans h.bel.size hb) (fun b hb => (isX_in h2 hb).1) (fun b hb => hb.elim)⟩
theorem gn_kept {w : World} {mg : Nat} {u : Us} {f : Tm} (hl : u.live f = true) {o : Ow} (ho : o.gone = false) (dr : Nat) (h : MapIs w mg u.gn (verV u)) : MapIs w mg (⟨u.nm, u.sd, dr, u.ns, updO u.of f o⟩ : Us).gn (verV ⟨u.nm, u.sd, dr, u.ns, updO u.of f o⟩) := by
 obtain ⟨h1, h2⟩ := live_in hl
 have hg : u.gn f = false := by unfold Us.gn; rw [h2]; simp
 refine h.congr (fun t => ?_) fun t ht => ?_
 ·
  rw [gn_set h1, ho]
  unfold updH
  by_cases e : t = f
  · rw [if_pos e, e, hg]
  · rw [if_neg e]
 ·
  have e : t ≠ f := fun e => by rw [e, hg] at ht; cases ht
  unfold verV
  rw [show (⟨u.nm, u.sd, dr, u.ns, updO u.of f o⟩ : Us).of t = u.of t from updO_ne e]
theorem granted {g me mg db dc : Nat} {N C : ByteArray} {V : Tm → Value} {sb : Tm → Nat} {w w1 w3 : World} {u : Us} {S M : Nat → Prop} (h : UserAt g me mg db dc N C V sb w u) (hS : ∀ b, S b ↔ Sb u g me mg db dc V sb b) (hMi : ∀ b, M b ↔ Mb u me mg db dc sb b) {F : Tm} (hl : u.live F = true) (hb1 : Below w.heap.size w w1) (hg3 : w1.grownBy w3 (some me))
  {s1 : Rt} {o2 f2 : ByteArray} {A2 : Option Addr} {k2 : Nat} {B2 : Option Addr} {d2 vr : Nat} {R : ByteArray} {T : Option Addr} {e : Nat} {ss : List ByteArray} (hx : IsX (fun j => w.heap.size ≤ j) w1 (RV o2 f2 s1.ep A2 s1.rs.length k2 B2 s1.ws.length d2) s1) (hR : R.data.toList = (u.of F).root) (hss : bl ss = (u.of F).sg) (hrow : w.ownsRow 0 9 1 (.slice T ss.length e) ss.length (sv ss)) (hob : (Value.slice T ss.length e).ownBlock = some (sb F)) (hvr : (u.of F).ver = vr)
  (hm : MapIs w3 me (updH u.live F true) (updV V F (.agg #[.string o2, .string f2, .int .i64 s1.ep, .slice A2 s1.rs.length k2, .slice B2 s1.ws.length d2, .int .u64 ((vr : Int) + 1), .string R, .slice T ss.length e, .bool false]))) {r : Us × Int} (hr : r = (u.set F ⟨s1, (u.of F).ver + 1, (u.of F).root, (u.of F).sg, false⟩, 0)) :
  Turn DU ⟨g, 0, none⟩ S M r w (.returned (.int .i64 0)) w3 := by
 have hin := (live_in hl).1
 have hfr : Frm.Fr (fun b => b = me) w w3 := fr_cons (fr_below hb1) (Grown.fr hg3) fun b e _ => e
 have hnd := h.nd
 have hne : db ≠ me ∧ dc ≠ me ∧ mg ≠ me := by simp at hnd; omega
 have hof : sb F ≠ me := fun e => h.off F hl (by simp [e])
 have hlt := (h.rows F hl).lt
 refine h.held hS hMi (u' := u.set F ⟨s1, (u.of F).ver + 1, (u.of F).root, (u.of F).sg, false⟩) (f := F) (b' := sb F) (X := fun b => b = me) rfl rfl (fun t => live_set hin _ u.dr t) (fun t e => updO_ne e) hfr (fun b e => .inl e) (fun t e ht h2 => h.off t ht (by simp [h2])) (h.dr.block (hfr.block db (Array.getElem?_eq_some_iff.1 h.dr.b).1 hne.1) (hfr.block dc (Array.getElem?_eq_some_iff.1 h.dr.c).1 hne.2.1)) hm (gn_kept hl rfl u.dr (h.gm.block (hfr.block mg h.gm.lt hne.2.2))) (h.off F hl) (.inl ⟨hl, rfl⟩) ?_ hr
 rw [show (u.set F ⟨s1, (u.of F).ver + 1, (u.of F).root, (u.of F).sg, false⟩).of F = ⟨s1, (u.of F).ver + 1, (u.of F).root, (u.of F).sg, false⟩ from updO_self _ _ _]
 have hx3 : IsX (fun j => w.heap.size ≤ j) w3 (RV o2 f2 s1.ep A2 s1.rs.length k2 B2 s1.ws.length d2) s1 := by
  have hme := h.hm.lt
  refine isX_move hx (fun b off e h0 => ?_) (fun b off e h0 => ?_)
  ·
   have h2 := isX_in hx (.inl ⟨h0, off, e⟩)
   exact hg3.block b h2.2 fun e2 => by have := Option.some.inj e2; omega
  ·
   have h2 := isX_in hx (.inr ⟨h0, off, e⟩)
   exact hg3.block b h2.2 fun e2 => by have := Option.some.inj e2; omega
 refine ⟨o2, f2, s1.ep, A2, _, k2, B2, _, d2, R, T, e, ss, ?_, hx3.mono (fun j _ hj => ⟨hj, fun e => by omega⟩), hR, hss, rfl, ownsRow_move hrow fun b hb => ?_, hob⟩
 · rw [hvr]; simp [OV]
 ·
  obtain rfl : sb F = b := Option.some.inj (hob.symm.trans hb)
  exact hfr.block _ hlt hof
theorem grant_at {ok : Nat → Prop} {w : World} {o f : ByteArray} {ep : Int} {A : Option Addr} {n c : Nat} {B : Option Addr} {m d : Nat} {r : Rt} (h : IsX ok w (RV o f ep A n c B m d) r) (hf : Few r) (W : ByteArray) (b : Bool) :
  Calls Tryz.prog 103 #[.agg #[.string o, .string f, .int .i64 ep, .slice A n c, .slice B m d], .string W, .bool b] w fun e w' => Re (fun b => w.heap.size ≤ b) (gr r W.data.toList b) e w' ∧ Below w.heap.size w w' := by
 obtain ⟨o', f', A', c', rs, B', d', ws, h1, h2, h3, h4, h5, h6, _⟩ := h
 unfold RV at h1
 injection h1 with h1
 simp only [Array.mk.injEq, List.cons.injEq, Value.string.injEq, Value.int.injEq, Value.slice.injEq, and_true, true_and] at h1
 obtain ⟨rfl, rfl, rfl, ⟨rfl, rfl, rfl⟩, rfl, rfl, rfl⟩ := h1
 rw [h2] at hf ⊢
 exact grant_code o f _ A c rs B d ws W b w h3 h4 hf h5 h6
theorem revoke_at {ok : Nat → Prop} {w : World} {o f : ByteArray} {ep : Int} {A : Option Addr} {n c : Nat} {B : Option Addr} {m d : Nat} {r : Rt} (h : IsX ok w (RV o f ep A n c B m d) r) (hf : Few r) (W : ByteArray) :
  Calls Tryz.prog 104 #[.agg #[.string o, .string f, .int .i64 ep, .slice A n c, .slice B m d], .string W] w fun e w' => Re (fun b => w.heap.size ≤ b) (rv r W.data.toList) e w' ∧ Below w.heap.size w w' := by
 obtain ⟨o', f', A', c', rs, B', d', ws, h1, h2, h3, h4, h5, h6, _⟩ := h
 unfold RV at h1
 injection h1 with h1
 simp only [Array.mk.injEq, List.cons.injEq, Value.string.injEq, Value.int.injEq, Value.slice.injEq, and_true, true_and] at h1
 obtain ⟨rfl, rfl, rfl, ⟨rfl, rfl, rfl⟩, rfl, rfl, rfl⟩ := h1
 rw [h2] at hf ⊢
 exact revoke_code o f _ A c rs B d ws W w h3 h4 hf h5 h6
theorem grant_no {u : Us} {f x : Tm} {b : Bool} (h : u.live f = false) : grant u f x b = (u, 4) := by unfold grant; rw [if_pos h]
theorem revoke_no {u : Us} {f x : Tm} (h : u.live f = false) : revoke u f x = (u, 4) := by unfold revoke; rw [if_pos h]
theorem grant_bad {u : Us} {f x : Tm} {b : Bool} {s : Rt} {k : Int} (h : u.live f = true) (hg : gr (u.of f).r x b = (s, k)) (hk : k ≠ 0) : grant u f x b = (u, k) := by
 unfold grant; rw [if_neg (by rw [h]; decide), hg, if_pos hk]
theorem revoke_bad {u : Us} {f x : Tm} {s : Rt} {k : Int} (h : u.live f = true) (hg : rv (u.of f).r x = (s, k)) (hk : k ≠ 0) : revoke u f x = (u, k) := by
 unfold revoke; rw [if_neg (by rw [h]; decide), hg, if_pos hk]
theorem grant_ok {u : Us} {f x : Tm} {b : Bool} {s : Rt} (h : u.live f = true) (hg : gr (u.of f).r x b = (s, 0)) : grant u f x b = (u.set f ⟨s, (u.of f).ver + 1, (u.of f).root, (u.of f).sg, false⟩, 0) := by
 unfold grant; rw [if_neg (by rw [h]; decide), hg, if_neg (by simp)]
theorem revoke_ok {u : Us} {f x : Tm} {s : Rt} (h : u.live f = true) (hg : rv (u.of f).r x = (s, 0)) : revoke u f x = (⟨u.nm, u.sd, u.dr + 1, u.ns, updO u.of f ⟨s, (u.of f).ver + 1, (u.of f).root, (u.of f).sg ++ [u.sc uSign f u.dr], false⟩⟩, 0) := by
 unfold revoke; rw [if_neg (by rw [h]; decide), hg, if_neg (by simp)]
set_option maxHeartbeats 4000000 in
set_option maxRecDepth 1000000 in
theorem grant_c (n : Nat) (a : Addr) (S M : Nat → Prop) (u : Us) (F W : ByteArray) (b : Bool) (w : World) (h : DU w a S M u) (f : Fine n u) (hn : n ≤ 200) (hF : F.size ≤ 10000) (hW : W.size ≤ 10000) : Calls Tryz.prog 58 #[.pointer (some a), .string F, .string W, .bool b] w (Turn DU a S M (grant u F.data.toList W.data.toList b) w) := by
 obtain ⟨g, me, mg, db, dc, N, C, V, sb, rfl, h, hS, hM⟩ := h
 have c4 := h.c4
 have glt := h.g_lt
 have hl := fun V T => held_look (h.below ((Below.refl _ w).alloc zl (.cells V T))) hF
 have hl0 := held_look h hF
 have HH := zh h
 have HS := zh (And.intro hS hM)
 have HFI := zh f
 clear h hS hM f
 cases hb : u.live F.data.toList
 case false =>
  have HR := zh (grant_no (x := W.data.toList) (b := b) hb)
  rw [hb] at hl hl0
  simp only [Bool.false_eq_true, if_false, OV] at hl hl0
  clear hb
  go_enter Tryz.func58, Tryz.ntmps58
  go_wp2_with fail
  go_ret
  exact stayed HS.out.1 HS.out.2 HH.out ((Below.refl _ w).alloc zl _) HR.out
 case true =>
  have HB := zh hb
  rw [hb] at hl hl0
  simp only [if_true] at hl hl0
  obtain ⟨o, f, ep, A, m, c, B, p, d, R, T, e, ss, hv, hx, hR, hss, hgo, hrow, hob⟩ := HH.out.rows _ hb
  rw [hv] at hl hl0
  simp only [OV] at hl hl0
  have HV := zh hv
  have HX := zh hx
  have HK := zh (And.intro hR (And.intro hss (And.intro hgo (And.intro hrow hob))))
  have hfe := HFI.out.each _ (live_in hb).1
  have HFW := zh (few_right hfe.1)
  have hvl : (u.of F.data.toList).ver ≤ 200 := by have := hfe.2.2.2.2.1; omega
  obtain ⟨vr, hvr⟩ : ∃ vr, (u.of F.data.toList).ver = vr := ⟨_, rfl⟩
  rw [hvr] at hl hl0 hvl
  have HVR := zh hvr
  clear hb hv hx hR hss hgo hrow hob hvr hfe
  obtain ⟨s1, k, hgr⟩ : ∃ s1 k, gr (u.of F.data.toList).r W.data.toList b = (s1, k) := ⟨_, _, rfl⟩
  have HGR := zh hgr
  clear hgr
  have HF := zh (fm_refl w)
  go_enter Tryz.func58, Tryz.ntmps58
  go_wp2_with fail
  have hF := HF.out.box #[.string o, .string f, .int .i64 ep, .slice A m c, .slice B p d, .int .u64 (vr : Int), .string R, .slice T ss.length e, .bool false] 50
  generalize w.alloc (.cells #[.string o, .string f, .int .i64 ep, .slice A m c, .slice B p d, .int .u64 (vr : Int), .string R, .slice T ss.length e, .bool false] 50) = w1 at hF ⊢
  replace HF := zh hF
  clear hF
  clear hl hl0 c4
  with_reducible refine (grant_at (HX.out.below HF.out.bel zl) HFW.out W b).mono ?_
  rintro en w2 ⟨⟨v', hx', rfl⟩, hb⟩
  rw [HGR.out] at hx' ⊢
  obtain ⟨o2, f2, A2, k2, B2, d2, rfl, hF⟩ := rit_fm HF.out hb hx'
  replace HF := zh hF
  clear hb hx' hF
  generalize w2 = w1 at HF ⊢
  dsimp only
  by_cases hk : k = 0
  case pos =>
   subst hk
   obtain ⟨x0, x1, x2, x3, x4, x5, x6, x7, x8, x9⟩ := bx9 (HF.out.at 1 rfl)
   have fo := box_sf (HF.out.at 1 rfl)
   have hwr : IntKind.u64.wrap ((vr : Int) + 1) = (vr : Int) + 1 := by rw [IntKind.wrap_u64]; omega
   go_wp2_with fail
   have hF := (((((((HF.out.put 1 rfl 0 (.string o2) #[.string o2, .string f, .int .i64 ep, .slice A m c, .slice B p d, .int .u64 (vr : Int), .string R, .slice T ss.length e, .bool false] rfl).put 1 rfl 1 (.string f2) #[.string o2, .string f2, .int .i64 ep, .slice A m c, .slice B p d, .int .u64 (vr : Int), .string R, .slice T ss.length e, .bool false] rfl).put 1 rfl 2 (.int .i64 s1.ep) #[.string o2, .string f2, .int .i64 s1.ep, .slice A m c, .slice B p d, .int .u64 (vr : Int), .string R, .slice T ss.length e, .bool false] rfl).put 1 rfl 3 (.slice A2 s1.rs.length k2) #[.string o2, .string f2, .int .i64 s1.ep, .slice A2 s1.rs.length k2, .slice B p d, .int .u64 (vr : Int), .string R, .slice T ss.length e, .bool false] rfl).put 1 rfl 4 (.slice B2 s1.ws.length d2) #[.string o2, .string f2, .int .i64 s1.ep, .slice A2 s1.rs.length k2, .slice B2 s1.ws.length d2, .int .u64 (vr : Int), .string R, .slice T ss.length e, .bool false] rfl).put 1 rfl 5 (.int .u64 ((vr : Int) + 1)) #[.string o2, .string f2, .int .i64 s1.ep, .slice A2 s1.rs.length k2, .slice B2 s1.ws.length d2, .int .u64 ((vr : Int) + 1), .string R, .slice T ss.length e, .bool false] rfl).box #[.string o2, .string f2, .int .i64 s1.ep, .slice A2 s1.rs.length k2, .slice B2 s1.ws.length d2] 48)
   simp only [List.set_cons_zero, List.set_cons_succ] at hF
   clear x0 x1 x2 x3 x4 x5 x6 x7 x8 x9
   clear fo
   generalize (((((((w1.setCell ⟨w.heap.size, 0, none⟩ (.string o2)).setCell ⟨w.heap.size, 1, none⟩ (.string f2)).setCell ⟨w.heap.size, 2, none⟩ (.int .i64 s1.ep)).setCell ⟨w.heap.size, 3, none⟩ (.slice A2 s1.rs.length k2)).setCell ⟨w.heap.size, 4, none⟩ (.slice B2 s1.ws.length d2)).setCell ⟨w.heap.size, 5, none⟩ (.int .u64 ((vr : Int) + 1))).alloc (.cells #[.string o2, .string f2, .int .i64 s1.ep, .slice A2 s1.rs.length k2, .slice B2 s1.ws.length d2] 48)) = w2 at hF ⊢
   replace HF := zh hF
   clear hF
   generalize w2 = w1 at HF ⊢
   have hnd := HH.out.nd
   have hgm : g ≠ me ∧ mg ≠ me ∧ db ≠ me ∧ dc ≠ me := by simp at hnd; omega
   have HNE := zh hgm
   clear hnd hgm
   go_wp2_with fail
   replace HF : Hid (Fm w w1.drew _) := zh (HF.out.go (Below.drewN' (Below.refl w1.heap.size w1) 1))
   have hdr : w1.drew.cell? ⟨g, 4, none⟩ = some (.map (some me)) ∧ (box w.heap.size #[.string o2, .string f2, .int .i64 s1.ep, .slice A2 s1.rs.length k2, .slice B2 s1.ws.length d2, .int .u64 ((vr : Int) + 1), .string R, .slice T ss.length e, .bool false] 50).P w1.drew := ⟨(HH.out.below HF.out.bel).c4, HF.out.at 2 rfl⟩
   refine wp_region_held_drew (w := w1) (S := fun w' => w'.cell? ⟨g, 4, none⟩ = some (.map (some me)) ∧ (box w.heap.size #[.string o2, .string f2, .int .i64 s1.ep, .slice A2 s1.rs.length k2, .slice B2 s1.ws.length d2, .int .u64 ((vr : Int) + 1), .string R, .slice T ss.length e, .bool false] 50).P w') (by kernel_rfl) hdr (fun hHeld => ?_)
   clear hdr
   generalize w1.drew = w1 at HF hHeld ⊢
   refine zqT 0 ?_ ?_ ?_; rotate_left; · (intro w' hSw; go_simp; try with_reducible rfl)
   refine zqT 1 ?_ ?_ ?_; rotate_left; · (intro w' hSw; go_simp; try with_reducible rfl)
   refine zqT 2 ?_ ?_ ?_; rotate_left; · (intro w' hSw; go_simp; try with_reducible rfl)
   try simp only [Act.put, zq1, zq2, zq3]
   refine zqT 3 ?_ ?_ ?_; rotate_left; · (intro w' hSw; obtain ⟨k0, kb⟩ := hSw; obtain ⟨x0, x1, x2, x3, x4, x5, x6, x7, x8, x9⟩ := bx9 kb; go_simp; try with_reducible rfl)
   refine zqT 4 ?_ ?_ ?_; rotate_left; · (intro w' hSw; go_simp; try with_reducible rfl)
   refine zqT 5 ?_ ?_ ?_; rotate_left; · (intro w' hSw; obtain ⟨k0, kb⟩ := hSw; obtain ⟨x0, x1, x2, x3, x4, x5, x6, x7, x8, x9⟩ := bx9 kb; go_simp; try with_reducible rfl)
   try simp only [Act.put, zq1, zq2, zq3]
   try simp only [Act.put, zq1, zq2, zq3]
   have HHD := zh hHeld
   clear hHeld
   refine zqR [6] ?_
   refine zqC (fun Kn hK => ?_) AllReadyH.nil
   refine step_put rfl _ _ _ rfl rfl (HH.out.below HF.out.bel).hm Tryz.underlying94 rfl (by omega) (lives_nodup HFI.out) (fun x => mem_lives) (Nat.le_trans HFI.out.eight (by decide)) rfl ?_
   intro w3 hm3 hg3 hz3
   have HM3 := zh hm3
   have HG3 := zh hg3
   have hbx : (box w.heap.size #[.string o2, .string f2, .int .i64 s1.ep, .slice A2 s1.rs.length k2, .slice B2 s1.ws.length d2, .int .u64 ((vr : Int) + 1), .string R, .slice T ss.length e, .bool false] 50).P w3 := (box w.heap.size #[.string o2, .string f2, .int .i64 s1.ep, .slice A2 s1.rs.length k2, .slice B2 s1.ws.length d2, .int .u64 ((vr : Int) + 1), .string R, .slice T ss.length e, .bool false] 50).dep hg3.size (HF.out.at 2 rfl) fun j hj => hg3.block j (by rw [show j = w.heap.size from hj]; exact box_lt (HF.out.at 2 rfl)) fun e => by have h1 := Option.some.inj e; have h2 := HH.out.hm.lt; have h3 : j = w.heap.size := hj; omega
   have c4 : w3.cell? ⟨g, 4, none⟩ = some (.map (some me)) := (World.cell?_of_block (w := w1) (w' := w3) (a := ⟨g, 4, none⟩) (hg3.block g (HH.out.below HF.out.bel).g_lt fun e => HNE.out.1 (Option.some.inj e))).trans (HH.out.below HF.out.bel).c4
   clear hm3 hg3 hz3
   refine hK.out _ _ ⟨c4, hbx⟩ (fun hHeld => ?_)
   clear c4 hbx
   try simp only [Act.put, zq1, zq2, zq3]
   refine wpAnyH_done (by kernel_rfl) ?_ _
   clear hHeld
   go_wp2_with fail
   go_ret
   exact granted HH.out HS.out.1 HS.out.2 HB.out HF.out.bel HG3.out (HF.out.at 1 rfl) HK.out.1 HK.out.2.1 HK.out.2.2.2.1 HK.out.2.2.2.2 HVR.out HM3.out (grant_ok HB.out HGR.out)
  case neg =>
   have HR := zh (grant_bad HB.out HGR.out hk)
   go_wp2_with fail
   go_ret
   exact stayed HS.out.1 HS.out.2 HH.out (HF.out.bel.alloc HF.out.bel.size _) HR.out
end Go.Proofs.YtbdealddjonobaaGreat.Usr

namespace Go.Proofs.YtbdealddjonobaaGreat.Usr
open Go Go.RowKit Wire Rig Draw Frm

set_option linter.unusedVariables false
set_option linter.unusedSimpArgs false
def w00 (w : World) : World := { w with heap := #[] }
theorem fm00 (w : World) : Fm (w00 w) w [] := fm_nil ⟨rfl, rfl, rfl, Nat.zero_le _, fun b hb => absurd hb (Nat.not_lt_zero b)⟩
def restP (X : Nat → Prop) (w : World) : Part where
  P w' := w.heap.size ≤ w'.heap.size ∧ ∀ b, b < w.heap.size → ¬ X b → w'.heap[b]? = w.heap[b]?
  S b := b < w.heap.size ∧ ¬ X b
  M _ := False
  sub _ h := h.elim
  dep hs h hb := ⟨Nat.le_trans h.1 hs, fun b h1 h2 => (hb b ⟨h1, h2⟩).trans (h.2 b h1 h2)⟩
  old h b hb := Nat.lt_of_lt_of_le hb.1 h.1
def drawP (db dc s k : Nat) : Part where
  P w := DrawAt db dc w s k
  S b := b = db ∨ b = dc
  M b := b = db
  sub _ h := .inl h
  dep _ h hb := h.block (hb _ (.inl rfl)) (hb _ (.inr rfl))
  old h b hb := by
    rcases hb with rfl | rfl
    · exact (Array.getElem?_eq_some_iff.1 h.b).1
    · exact (Array.getElem?_eq_some_iff.1 h.c).1
def mapP (mb : Nat) (H : Tm → Bool) (V : Tm → Value) : Part where
  P w := MapIs w mb H V
  S b := b = mb
  M b := b = mb
  sub _ h := h
  dep _ h hb := h.block (hb _ rfl)
  old h b hb := by rw [show b = mb from hb]; exact h.lt
def rowS (g c : Nat) (ys : List ByteArray) : Part where
  P w := w.ownsRow 0 9 1 (.slice (some ⟨g, 0, none⟩) ys.length c) ys.length (sv ys)
  S b := b = g
  M b := b = g
  sub _ h := h
  dep _ h hs := ownsRow_move h fun b hb => by
    obtain rfl : g = b := Option.some.inj hb
    exact hs _ rfl
  old h b e := by
    subst e
    exact (World.ownsRow.lt h _ rfl).2
theorem rest_fr {X : Nat → Prop} {w w' : World} {l : List Part} (h : Fm (w00 w) w' l) (i : Nat) (hi : l[i]? = some (restP X w)) : Frm.Fr X w w' :=
 ⟨h.bel.os, h.bel.tape, h.bel.output, (h.at i hi).1, fun b h1 h2 => (h.at i hi).2 b h1 h2⟩
section
variable {g me mg db dc : Nat} {N C : ByteArray} {V : Tm → Value} {sb : Tm → Nat} {w : World} {u : Us}
def X3 (me mg db b : Nat) : Prop := b = me ∨ b = mg ∨ b = db
def X4 (me mg db sf b : Nat) : Prop := b = me ∨ b = mg ∨ b = db ∨ b = sf
theorem user_fm (h : UserAt g me mg db dc N C V sb w u) : Fm (w00 w) w [drawP db dc u.sd u.dr, mapP me u.live V, mapP mg u.gn (verV u), restP (X3 me mg db) w] := by
 have hnd := h.nd
 have hne : me ≠ mg ∧ db ≠ me ∧ db ≠ mg ∧ dc ≠ me ∧ dc ≠ mg ∧ db ≠ dc := by simp at hnd; omega
 have hz : ∀ b, (w00 w).heap.size ≤ b := fun b => Nat.zero_le _
 refine ((((fm00 w).add (p := restP (X3 me mg db) w) ⟨Nat.le_refl _, fun _ _ _ => rfl⟩ (fun b h => h.elim) (fun q hq => (List.not_mem_nil hq).elim)).add (p := mapP mg u.gn (verV u)) h.gm (fun b _ => hz b) ?_).add (p := mapP me u.live V) h.hm (fun b _ => hz b) ?_).add (p := drawP db dc u.sd u.dr) h.dr (fun b _ => hz b) ?_
 ·
  intro q hq
  rw [List.mem_singleton.1 hq]
  exact fun b => ⟨fun h2 => h2.2.2 (.inr (.inl h2.1)), fun h2 => h2.2⟩
 ·
  intro q hq
  simp only [List.mem_cons, List.not_mem_nil, or_false] at hq
  rcases hq with rfl | rfl
  · exact fun b => ⟨fun h2 => hne.1 (Eq.trans (Eq.symm h2.1) h2.2), fun h2 => hne.1 (Eq.trans (Eq.symm h2.1) h2.2)⟩
  · exact fun b => ⟨fun h2 => h2.2.2 (.inl h2.1), fun h2 => h2.2⟩
 ·
  intro q hq
  simp only [List.mem_cons, List.not_mem_nil, or_false] at hq
  rcases hq with rfl | rfl | rfl
  ·
   refine fun b => ⟨fun h2 => hne.2.1 (Eq.trans (Eq.symm h2.1) h2.2), fun h2 => ?_⟩
   have e : b = me := h2.2
   rcases h2.1 with e2 | e2
   · exact hne.2.1 (e2.symm.trans e)
   · exact hne.2.2.2.1 (e2.symm.trans e)
  ·
   refine fun b => ⟨fun h2 => hne.2.2.1 (Eq.trans (Eq.symm h2.1) h2.2), fun h2 => ?_⟩
   have e : b = mg := h2.2
   rcases h2.1 with e2 | e2
   · exact hne.2.2.1 (e2.symm.trans e)
   · exact hne.2.2.2.2.1 (e2.symm.trans e)
  · exact fun b => ⟨fun h2 => h2.2.2 (.inr (.inr h2.1)), fun h2 => h2.2⟩
theorem user_fm4 (h : UserAt g me mg db dc N C V sb w u) {F : Tm} (hl : u.live F = true) {e : Nat} {ss : List ByteArray} (hrow : w.ownsRow 0 9 1 (.slice (some ⟨sb F, 0, none⟩) ss.length e) ss.length (sv ss)) : Fm (w00 w) w [rowS (sb F) e ss, drawP db dc u.sd u.dr, mapP me u.live V, mapP mg u.gn (verV u), restP (X4 me mg db (sb F)) w] := by
 have h3 := user_fm h
 have ho := h.off F hl
 have hne : sb F ≠ me ∧ sb F ≠ mg ∧ sb F ≠ db ∧ sb F ≠ dc := by simp at ho; omega
 have h4 : Fm (w00 w) w [drawP db dc u.sd u.dr, mapP me u.live V, mapP mg u.gn (verV u), restP (X4 me mg db (sb F)) w] := by
  refine ⟨h3.bel, fun p hp => ?_, ?_⟩
  ·
   simp only [List.mem_cons, List.not_mem_nil, or_false] at hp
   rcases hp with rfl | rfl | rfl | rfl
   · exact h3.all _ (by simp)
   · exact h3.all _ (by simp)
   · exact h3.all _ (by simp)
   · exact ⟨⟨Nat.le_refl _, fun _ _ _ => rfl⟩, fun b h => h.elim⟩
  ·
   have hd := h3.dis
   simp only [List.pairwise_cons, List.mem_cons, List.not_mem_nil, or_false, forall_eq_or_imp, forall_eq, List.Pairwise.nil, and_true] at hd ⊢
   obtain ⟨⟨a1, a2, a3⟩, ⟨b1, b2⟩, c1, _⟩ := hd
   have hr : ∀ p : Part, Apart p (restP (X3 me mg db) w) → Apart p (restP (X4 me mg db (sb F)) w) := fun p ha b => ⟨fun h2 => (ha b).1 ⟨h2.1, h2.2.1, fun hx => h2.2.2 (hx.imp_right (.imp_right .inl))⟩, fun h2 => h2.2⟩
   exact ⟨⟨a1, a2, hr _ a3⟩, ⟨b1, hr _ b2⟩, hr _ c1, fun _ h => h.elim⟩
 refine h4.add (p := rowS (sb F) e ss) hrow (fun b _ => Nat.zero_le _) fun q hq => ?_
 simp only [List.mem_cons, List.not_mem_nil, or_false] at hq
 rcases hq with rfl | rfl | rfl | rfl
 ·
  refine fun b => ⟨fun h2 => ?_, fun h2 => hne.2.2.1 (Eq.trans (Eq.symm h2.1) h2.2)⟩
  have e : b = sb F := h2.1
  rcases h2.2 with e2 | e2
  · exact hne.2.2.1 (e.symm.trans e2)
  · exact hne.2.2.2 (e.symm.trans e2)
 · exact fun b => ⟨fun h2 => hne.1 (Eq.trans (Eq.symm h2.1) h2.2), fun h2 => hne.1 (Eq.trans (Eq.symm h2.1) h2.2)⟩
 · exact fun b => ⟨fun h2 => hne.2.1 (Eq.trans (Eq.symm h2.1) h2.2), fun h2 => hne.2.1 (Eq.trans (Eq.symm h2.1) h2.2)⟩
 · exact fun b => ⟨fun h2 => h2.2.2 (.inr (.inr (.inr h2.1))), fun h2 => h2.2⟩
variable {X : Nat → Prop} {w0 w1 : World} {l : List Part}
theorem rest_cell (h : UserAt g me mg db dc N C V sb w u) (hX : ∀ b, X b → Mb u me mg db dc sb b) (hr : (restP X w).P w1) (j : Nat) : w1.cell? ⟨g, j, none⟩ = w.cell? ⟨g, j, none⟩ :=
 World.cell?_of_block (a := ⟨g, j, none⟩) (hr.2 g h.g_lt fun hx => h.g_no (hX g hx))
theorem x3_mb : ∀ b, X3 me mg db b → Mb u me mg db dc sb b := fun b h => h.elim .inl fun h => h.elim (fun h => .inr (.inl h)) fun h => .inr (.inr (.inl h))
theorem x4_mb {F : Tm} (hl : u.live F = true) : ∀ b, X4 me mg db (sb F) b → Mb u me mg db dc sb b := fun b h => h.elim .inl fun h => h.elim (fun h => .inr (.inl h)) fun h => h.elim (fun h => .inr (.inr (.inl h))) fun h => .inr (.inr (.inr (.inr ⟨F, hl, h.symm⟩)))
theorem isX_rest {o f : ByteArray} {ep : Int} {A : Option Addr} {n c : Nat} {B : Option Addr} {m d : Nat} {r : Rt} (hX : ∀ b, X b → Mb u me mg db dc sb b) (hr : (restP X w).P w1) (h : IsX (fun b => ¬ Mb u me mg db dc sb b) w (RV o f ep A n c B m d) r) : IsX (fun b => ¬ Mb u me mg db dc sb b) w1 (RV o f ep A n c B m d) r :=
 isX_move h (fun b off e h0 => have h2 := isX_in h (.inl ⟨h0, off, e⟩); hr.2 b h2.2 fun hx => h2.1 (hX b hx)) (fun b off e h0 => have h2 := isX_in h (.inr ⟨h0, off, e⟩); hr.2 b h2.2 fun hx => h2.1 (hX b hx))
theorem secret_fm (h : Fm w0 w1 l) (i j : Nat) (hi : l[i]? = some (restP X w)) {k : Nat} (hj : l[j]? = some (drawP db dc u.sd k)) (hu : UserAt g me mg db dc N C V sb w u) (hX : ∀ b, X b → Mb u me mg db dc sb b) (hk : k ≤ 1000000) (hn : nm u.nm = true) (U F : ByteArray) (hF : nm F.data.toList = true) (hU : U.size ≤ 1000) :
  Calls Tryz.prog 57 #[.pointer (some ⟨g, 0, none⟩), .string U, .string F] w1 fun e w' => ∃ T : ByteArray, e = .returned (.string T) ∧ T.data.toList = u.sc U.data.toList F.data.toList k ∧ Fm w0 w' (l.set j (drawP db dc u.sd (k + 1))) :=
 (secretFor_c g db dc u.sd k N U F w1 ((rest_cell hu hX (h.at i hi) 0).trans hu.c0) ((rest_cell hu hX (h.at i hi) 3).trans hu.c3) (h.at j hj) hk (by rw [hu.hN]; exact hn) hF hU).mono fun e w' t => by
  obtain ⟨⟨T, h1, rfl⟩, h2, h3⟩ := t
  refine ⟨T, rfl, ?_, h.turn j hj ⟨h3.os, h3.tape, h3.output, h3.size, h3.block⟩ h2 (fun b hb => .inl hb) (fun b hb => .inl hb)⟩
  rw [h1, hu.hN]
  rfl
end
theorem rit_lo {w0 w w' : World} {l : List Part} (h : Fm w0 w l) (lo : Nat) (hlo : w0.heap.size ≤ lo ∧ lo ≤ w.heap.size) (hb : Below w.heap.size w w') {v : Value} {r : Rt} (hx : IsX (fun b => w.heap.size ≤ b) w' v r) : ∃ o f A c B d, v = .agg #[.string o, .string f, .int .i64 r.ep, .slice A r.rs.length c, .slice B r.ws.length d] ∧ Fm w0 w' (ritP lo o f r.ep A r.rs.length c B r.ws.length d r :: l) := by
 obtain ⟨o, f, ep, A, n, c, B, m, d, rfl, rfl, rfl, rfl, _, _, h2⟩ := isX_lit hx
 exact ⟨o, f, A, c, B, d, rfl, h.new hb (p := ritP lo o f r.ep A r.rs.length c B r.ws.length d r) (h2.mono fun b _ hb => Nat.le_trans hlo.2 hb) (fun b hb => (isX_in h2 hb).1) (fun b hb => hb.elim)⟩
theorem fmS_append {w0 w : World} {l : List Part} {g c : Nat} {ys : List ByteArray} (i : Nat) (hi : l[i]? = some (rowS g c ys)) (h : Fm w0 w l) {o : Oper} {a : Act} {K : Act → World → Prop} {Q : Exit → Act → World → Prop} (s x : Operand)
  (ho : o.op = .call { callee := .builtin .append, args := #[s, x], argTypes := #[44, 44] }) (z : ByteArray) (gl cc : Nat) (hs : a.eval s = .slice (some ⟨g, 0, none⟩) ys.length c) (hx : a.eval x = .slice (some ⟨gl, 0, none⟩) 1 cc) (hr : w.cell? ⟨gl, 0, none⟩ = some (.string z)) (hlen : ys.length + 1 ≤ 1000)
  (k : ∀ g' c' w', (g' = g ∨ w.heap.size ≤ g') → Fm w0 w' (l.set i (rowS g' c' (ys ++ [z]))) → K (a.put o.dst (.slice (some ⟨g', 0, none⟩) (ys.length + 1) c')) w') : o.wp Tryz.prog a w K Q := by
 obtain ⟨i0, hi0, hz0, hz1, hz2⟩ := info_parts str_info
 have hown : w.ownsRow 0 9 1 (.slice (some ⟨g, 0, none⟩) ys.length c) ys.length (sv ys) := h.at i hi
 refine wp_append_lies w s x 44 ho 0 9 i0 _ 1 16 Tryz.underlying44 hi0 hz0 hz1 hz2 rfl (by decide) (.slice (some ⟨g, 0, none⟩) ys.length c) ys.length (sv ys) hs hown ⟨gl, 0, none⟩ 1 cc [.string z] hx (by simp) ?_ (sv_one [z]) (by decide) (by simp only [maxLen]; omega) (by omega) (Nat.zero_le _) _ rfl ?_
 ·
  intro j v hj
  have hj0 : j = 0 := by have := (List.getElem?_eq_some_iff.1 hj).1; simp at this; exact this
  subst hj0
  simp at hj
  subst hj
  exact hr
 ·
  intro g' c' w' hown' hgr hat _
  have hgg : g' = g ∨ w.heap.size ≤ g' := by
   rcases hat with h2 | h2
   · exact .inl (Option.some.inj h2).symm
   · exact .inr (by omega)
  refine k g' c' w' hgg (h.turn i hi ⟨hgr.os, hgr.tape, hgr.output, hgr.size, fun b hb hne => hgr.block b hb fun e => hne (Option.some.inj e)⟩ (show w'.ownsRow 0 9 1 (.slice (some ⟨g', 0, none⟩) (ys ++ [z]).length c') (ys ++ [z]).length (sv (ys ++ [z])) by rw [List.length_append]; simpa [sv] using hown') (fun b hb => ?_) (fun b hb => ?_))
  ·
   rw [show b = g' from hb]
   exact hgg
  ·
   rw [show b = g' from hb]
   exact hgg
end Go.Proofs.YtbdealddjonobaaGreat.Usr

