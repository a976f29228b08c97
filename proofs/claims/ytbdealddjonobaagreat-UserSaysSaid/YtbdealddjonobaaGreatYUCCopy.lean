/-
  UCCopy. By an AI agent.
-/
import Derived.Test.YtbdealddjonobaaGreatYZ
import Derived.Deep.CutRange
import Derived.Deep.DeepCutAuto
import Derived.Test.YtbdealddjonobaaGreatYU7
import Derived.Test.YtbdealddjonobaaGreatYU4
import Derived.Test.YtbdealddjonobaaGreatYU6
import Derived.Test.YtbdealddjonobaaGreatYU5
namespace Go.Proofs.YtbdealddjonobaaGreat.Usr
open Go Go.RowKit Wire Rig Draw Frm

set_option linter.unusedSimpArgs false
set_option linter.unusedVariables false
set_option maxHeartbeats 2000000 in
set_option maxRecDepth 1000000 in
theorem many_c (b c s k : Nat) (w : World) (h : DrawAt b c w s k) : Calls Tryz.prog 53 #[.pointer (some ⟨b, 0, none⟩)] w fun e w' => e = .returned (.int .i64 (k : Int)) ∧ Below w.heap.size w w' :=
 many_ok _ _ s k w ⟨b, c, rfl, rfl, h.ne, h.b, h.c⟩
structure Base (w : World) (N C : ByteArray) (u : Us) (gc db2 dc2 me2 mg2 : Nat) (wx : World) : Prop where
  st : wx.heap[gc]? = some (.cells #[.string N, .string C, .int .u64 (u.sd : Int), .pointer (some ⟨db2, 0, none⟩), .map (some me2), .map (some mg2)] 97)
  dr : DrawAt db2 dc2 wx u.sd u.dr
  m1 : MapIs wx me2 (fun _ => false) (fun _ => undef)
  m2 : MapIs wx mg2 u.gn (verV u)
  nd : [gc, me2, mg2, db2, dc2].Nodup
  lo : ∀ b ∈ [gc, me2, mg2, db2, dc2], w.heap.size ≤ b
  bel : Below w.heap.size w wx
theorem makeMap_fm {w0 w : World} {l : List Part} (h : Fm w0 w l) : Fm w0 (w.alloc (.map #[] 0)) (mapP w.heap.size (fun _ => false) (fun _ => undef) :: l) :=
 h.new ((Below.refl _ w).alloc zl _) (mapIs_made w _) (fun b e => by rw [show b = w.heap.size from e]; exact Nat.le_refl _) (fun b e => by rw [show b = w.heap.size from e]; exact Nat.le_refl _)
theorem clone_fm {w0 w : World} {l : List Part} (h : Fm w0 w l) {mb : Nat} {H : Tm → Bool} {V : Tm → Value} (hm : MapIs w mb H V) : Calls Tryz.prog 54 #[.map (some mb)] w fun e w' => ∃ m, e = .returned (.map (some m)) ∧ Fm w0 w' (mapP m H V :: l) :=
 (clone_c mb H V w hm).mono fun e w' t => ⟨_, t.1, h.new t.2.2 t.2.1 (fun b e => by rw [show b = w.heap.size from e]; exact Nat.le_refl _) (fun b e => by rw [show b = w.heap.size from e]; exact Nat.le_refl _)⟩
def drawN (db dc s k : Nat) : Part where
  P w := DrawAt db dc w s k
  S b := b = db ∨ b = dc
  M b := b = db ∨ b = dc
  sub _ h := h
  dep _ h hb := h.block (hb _ (.inl rfl)) (hb _ (.inr rfl))
  old h b hb := by
    rcases hb with rfl | rfl
    · exact (Array.getElem?_eq_some_iff.1 h.b).1
    · exact (Array.getElem?_eq_some_iff.1 h.c).1
theorem drawn_fm {w0 w : World} {l : List Part} (h : Fm w0 w l) (s k : Nat) (hs : s < 18446744073709551616) (hk : k ≤ 1000) : Calls Tryz.prog 52 #[.int .u64 (s : Int), .int .i64 (k : Int)] w fun e w' => ∃ db dc, e = .returned (.pointer (some ⟨db, 0, none⟩)) ∧ Fm w0 w' (drawN db dc s k :: l) :=
 (drawn_c s k w hs hk).mono fun e w' t => by
  obtain ⟨db, dc, h1, h2, h3, h4⟩ := t
  exact ⟨db, dc, h1, h.new h4 h2 (fun b hb => by rcases hb with rfl | rfl; exact h3.1; exact h3.2) (fun b hb => by rcases hb with rfl | rfl; exact h3.1; exact h3.2)⟩
theorem base_of {w wx : World} {N C : ByteArray} {u : Us} {gc db2 dc2 me2 mg2 : Nat} {l : List Part} (h : Fm w wx l) (i1 i2 i3 i4 : Nat) (h1 : l[i1]? = some (box gc #[.string N, .string C, .int .u64 (u.sd : Int), .pointer (some ⟨db2, 0, none⟩), .map (some me2), .map (some mg2)] 97)) (h2 : l[i2]? = some (mapP me2 (fun _ => false) (fun _ => undef))) (h3 : l[i3]? = some (mapP mg2 u.gn (verV u))) (h4 : l[i4]? = some (drawN db2 dc2 u.sd u.dr))
  (hi : i1 ≠ i2 ∧ i1 ≠ i3 ∧ i1 ≠ i4 ∧ i2 ≠ i3 ∧ i2 ≠ i4 ∧ i3 ≠ i4) : Base w N C u gc db2 dc2 me2 mg2 wx := by
 have hd : DrawAt db2 dc2 wx u.sd u.dr := h.at i4 h4
 have a12 : gc ≠ me2 := fun e => (h.apart i1 i2 hi.1 h1 h2 gc).1 ⟨rfl, e⟩
 have a13 : gc ≠ mg2 := fun e => (h.apart i1 i3 hi.2.1 h1 h3 gc).1 ⟨rfl, e⟩
 have a14 : gc ≠ db2 := fun e => (h.apart i1 i4 hi.2.2.1 h1 h4 gc).1 ⟨rfl, .inl e⟩
 have a15 : gc ≠ dc2 := fun e => (h.apart i1 i4 hi.2.2.1 h1 h4 gc).1 ⟨rfl, .inr e⟩
 have a23 : me2 ≠ mg2 := fun e => (h.apart i2 i3 hi.2.2.2.1 h2 h3 me2).1 ⟨rfl, e⟩
 have a24 : me2 ≠ db2 := fun e => (h.apart i2 i4 hi.2.2.2.2.1 h2 h4 me2).1 ⟨rfl, .inl e⟩
 have a25 : me2 ≠ dc2 := fun e => (h.apart i2 i4 hi.2.2.2.2.1 h2 h4 me2).1 ⟨rfl, .inr e⟩
 have a34 : mg2 ≠ db2 := fun e => (h.apart i3 i4 hi.2.2.2.2.2 h3 h4 mg2).1 ⟨rfl, .inl e⟩
 have a35 : mg2 ≠ dc2 := fun e => (h.apart i3 i4 hi.2.2.2.2.2 h3 h4 mg2).1 ⟨rfl, .inr e⟩
 have a45 := hd.ne
 refine ⟨h.at i1 h1, hd, h.at i2 h2, h.at i3 h3, by simp; omega, fun b hb => ?_, h.bel⟩
 simp only [List.mem_cons, List.not_mem_nil, or_false] at hb
 rcases hb with rfl | rfl | rfl | rfl | rfl
 · exact h.lo i1 h1 _ rfl
 · exact h.lo i2 h2 _ rfl
 · exact h.lo i3 h3 _ rfl
 · exact h.lo i4 h4 _ (.inl rfl)
 · exact h.lo i4 h4 _ (.inr rfl)
theorem bx6 {w : World} {g : Nat} {v0 v1 v2 v3 v4 v5 : Value} {t : TypeId} (h : w.heap[g]? = some (.cells #[v0, v1, v2, v3, v4, v5] t)) : w.cell? ⟨g, 0, none⟩ = some v0 ∧ w.cell? ⟨g, 1, none⟩ = some v1 ∧ w.cell? ⟨g, 2, none⟩ = some v2 ∧ w.cell? ⟨g, 3, none⟩ = some v3 ∧ w.cell? ⟨g, 4, none⟩ = some v4 ∧ w.cell? ⟨g, 5, none⟩ = some v5 ∧ g < w.heap.size :=
 have h' : (box g #[v0, v1, v2, v3, v4, v5] t).P w := h
 ⟨box_at h' 0, box_at h' 1, box_at h' 2, box_at h' 3, box_at h' 4, box_at h' 5, box_lt h'⟩
structure CopP (u : Us) (left : Lit → Bool) (lo me2 : Nat) (V2 : Tm → Value) (sb2 : Tm → Nat) (wr : World) : Prop where
  m : MapIs wr me2 (fun t => u.live t && !left (.string t)) V2
  row : ∀ t, u.live t = true → left (.string t) = false → HeldAt wr (V2 t) (sb2 t) (u.of t) (fun j => lo ≤ j ∧ ∀ x, u.live x = true → left (.string x) = false → sb2 x ≠ j) ∧ lo ≤ sb2 t
  inj : ∀ t x, u.live t = true → left (.string t) = false → u.live x = true → left (.string x) = false → sb2 t = sb2 x → t = x
theorem CopP.keep {u : Us} {left : Lit → Bool} {lo me2 : Nat} {V2 : Tm → Value} {sb2 : Tm → Nat} {wr w2 : World} (h : CopP u left lo me2 V2 sb2 wr) (hm : w2.heap[me2]? = wr.heap[me2]?) (hb : ∀ b, lo ≤ b → b < wr.heap.size → w2.heap[b]? = wr.heap[b]?) : CopP u left lo me2 V2 sb2 w2 :=
 ⟨h.m.block hm, fun t ht hl => by
  obtain ⟨h1, h2⟩ := h.row t ht hl
  refine ⟨h1.move (fun j hj => hb j ?_ (h1.old hj)) (hb _ h2 h1.lt), h2⟩
  rcases h1.bv hj with h3 | h3
  · exact h3.1
  · rw [h3]; exact h2, h.inj⟩
theorem CopP.step {u : Us} {left : Lit → Bool} {lo me2 : Nat} {V2 : Tm → Value} {sb2 : Tm → Nat} {w2 w3 : World} (h : CopP u left lo me2 V2 sb2 w2) (hf : Frm.Fr (fun b => b = me2) w2 w3) (hme : me2 < lo) (hlo : lo ≤ w2.heap.size) {s : Tm} (hs : u.live s = true) (hl : left (.string s) = true) {v' : Value} {b' : Nat} (hv : HeldAt w3 v' b' (u.of s) (fun j => w2.heap.size ≤ j ∧ j ≠ b')) (hb' : w2.heap.size ≤ b')
  (hm : MapIs w3 me2 (updH (fun t => u.live t && !left (.string t)) s true) (updV V2 s v')) : CopP u (fun z => left z && !z.sameKey (.string s)) lo me2 (updV V2 s v') (fun t => if t = s then b' else sb2 t) w3 := by
 have hk : ∀ t, t ≠ s → (left (.string t) && !(Lit.string t).sameKey (.string s)) = left (.string t) := fun t e => by simp [Lit.sameKey, e]
 have hks : (left (.string s) && !(Lit.string s).sameKey (.string s)) = false := by simp [Lit.sameKey]
 have hold : ∀ t, t ≠ s → u.live t = true → (left (.string t) && !(Lit.string t).sameKey (.string s)) = false → HeldAt w2 (V2 t) (sb2 t) (u.of t) (fun j => lo ≤ j ∧ ∀ x, u.live x = true → left (.string x) = false → sb2 x ≠ j) ∧ lo ≤ sb2 t := fun t e ht hl2 => h.row t ht ((hk t e).symm.trans hl2)
 refine ⟨hm.congr (fun t => ?_) (fun t _ => rfl), fun t ht hl2 => ?_, fun t x ht hl2 hx hl3 e => ?_⟩
 ·
  unfold updH
  by_cases e : t = s
  · subst e; rw [if_pos rfl, hks, hs]; rfl
  · rw [if_neg e, hk t e]
 ·
  by_cases e : t = s
  ·
   subst e
   simp only [if_pos rfl, show updV V2 t v' t = v' from if_pos rfl]
   refine ⟨hv.mono fun j _ hj => ⟨Nat.le_trans hlo hj.1, fun x hx hlx => ?_⟩, Nat.le_trans hlo hb'⟩
   by_cases e2 : x = t
   · rw [if_pos e2]; exact fun e3 => hj.2 e3.symm
   ·
    rw [if_neg e2]
    have := (hold x e2 hx hlx).1.lt
    omega
  ·
   simp only [if_neg e, show updV V2 s v' t = V2 t from if_neg e]
   obtain ⟨h1, h2⟩ := hold t e ht hl2
   refine ⟨(h1.mono (ok' := fun j => lo ≤ j ∧ ∀ x, u.live x = true → (left (.string x) && !(Lit.string x).sameKey (.string s)) = false → (if x = s then b' else sb2 x) ≠ j) fun j hj hok => ⟨hok.1, fun x hx hlx => ?_⟩).move (fun j hj => hf.block j (h1.old hj) fun e3 => ?_) (hf.block _ h1.lt fun e3 => by omega), h2⟩
   ·
    by_cases e2 : x = s
    · rw [if_pos e2]; omega
    · rw [if_neg e2]; exact hok.2 x hx ((hk x e2).symm.trans hlx)
   ·
    rcases h1.bv hj with h3 | h3
    · have := h3.1; omega
    · omega
 ·
  by_cases e1 : t = s
  ·
   by_cases e2 : x = s
   · rw [e1, e2]
   ·
    simp only [if_pos e1, if_neg e2] at e
    have := (hold x e2 hx hl3).1.lt
    omega
  ·
   by_cases e2 : x = s
   ·
    simp only [if_neg e1, if_pos e2] at e
    have := (hold t e1 ht hl2).1.lt
    omega
   ·
    simp only [if_neg e1, if_neg e2] at e
    exact h.inj t x ht ((hk t e1).symm.trans hl2) hx ((hk x e2).symm.trans hl3) e
theorem copied_all {w wc w0 wr : World} {N C : ByteArray} {u : Us} {gc db2 dc2 me2 mg2 r lo : Nat} {left : Lit → Bool} {V2 : Tm → Value} {sb2 : Tm → Nat} {S M : Nat → Prop} (hB : Base w N C u gc db2 dc2 me2 mg2 wc) (hN : N.data.toList = u.nm) (hC : C.data.toList = u.sec) (hg : wc.grownBy w0 none) (hr : r = wc.heap.size) (hlo : lo = w0.heap.size) (hf : Frm.Fr (fun b => b = me2 ∨ b = r) w0 wr) (h : CopP u left lo me2 V2 sb2 wr) (hl : ∀ kl, left kl = false) (hlt : r < lo) :
  (∃ a' S' M', Ending.returned (.pointer (some ⟨gc, 0, none⟩)) = .returned (.pointer (some a')) ∧ DU wr a' S' M' u ∧ (∀ b, M' b → w.heap.size ≤ b) ∧ ∀ b, S' b → Shy w S M b) ∧ Below w.heap.size w wr := by
 have hsz := hg.size
 have hz0 := hB.bel.size
 have hnd := hB.nd
 have hlow := hB.lo
 have hcell := hB.st
 have l1 := (Array.getElem?_eq_some_iff.1 hB.st).1
 have l2 := (Array.getElem?_eq_some_iff.1 hB.dr.b).1
 have l3 := (Array.getElem?_eq_some_iff.1 hB.dr.c).1
 have l4 := hB.m2.lt
 have l5 := hB.m1.lt
 have hb : ∀ b, b < wc.heap.size → b ≠ me2 → wr.heap[b]? = wc.heap[b]? := fun b h1 h2 => (hf.block b (by omega) fun h3 => by rcases h3 with h3 | h3; exact h2 h3; omega).trans (hg.block b h1 (by simp))
 have hne : gc ≠ me2 ∧ db2 ≠ me2 ∧ dc2 ≠ me2 ∧ mg2 ≠ me2 := by simp at hnd; omega
 have hge : w.heap.size ≤ gc ∧ w.heap.size ≤ me2 ∧ w.heap.size ≤ mg2 ∧ w.heap.size ≤ db2 ∧ w.heap.size ≤ dc2 := ⟨hlow _ (by simp), hlow _ (by simp), hlow _ (by simp), hlow _ (by simp), hlow _ (by simp)⟩
 have hst := (hb gc l1 hne.1).trans hB.st
 obtain ⟨e0, e1, e2, e3, e4, e5, _⟩ := bx6 hst
 have hrow := fun t ht => h.row t ht (hl _)
 have hM : ∀ b, Mb u me2 mg2 db2 dc2 sb2 b → w.heap.size ≤ b := fun b hb2 => by
  rcases hb2 with rfl | rfl | rfl | rfl | ⟨t, ht, rfl⟩
  · exact hge.2.1
  · exact hge.2.2.1
  · exact hge.2.2.2.1
  · exact hge.2.2.2.2
  · have := (hrow t ht).2; omega
 refine ⟨⟨_, _, _, rfl, ⟨gc, me2, mg2, db2, dc2, N, C, V2, sb2, rfl, ⟨e0, e1, e2, e3, e4, e5, hN, hC, hB.dr.block (hb db2 l2 hne.2.1) (hb dc2 l3 hne.2.2.1), h.m.congr (fun t => by rw [hl]; simp) (fun t _ => rfl), hB.m2.block (hb mg2 l4 hne.2.2.2), fun t ht => (hrow t ht).1.mono fun j _ hj hmj => ?_, hnd, fun t ht => ?_, fun t x ht hx => h.inj t x ht (hl _) hx (hl _)⟩, fun b => Iff.rfl, fun b => Iff.rfl⟩, hM, fun b hb2 => .inr ?_⟩, ?_⟩
 ·
  rcases hmj with e | e | e | e | ⟨x, hx, e⟩
  · omega
  · omega
  · omega
  · omega
  · exact hj.2 x hx (hl _) e
 ·
  have := (hrow t ht).2
  simp; omega
 ·
  rcases hb2 with rfl | hb2 | ⟨t, ht, hb2⟩
  · exact hge.1
  · exact hM b hb2
  ·
   rcases (hrow t ht).1.bv hb2 with h3 | h3
   · have := h3.1; omega
   · have := (hrow t ht).2; omega
 · exact ⟨hf.os.trans (hg.os.trans hB.bel.os), hf.tape.trans (hg.tape.trans hB.bel.tape), hf.output.trans (hg.output.trans hB.bel.output), Nat.le_trans hz0 (Nat.le_trans hsz hf.size), fun b hb2 => (hb b (by omega) (by omega)).trans (hB.bel.block b hb2)⟩
theorem cop_fm {u : Us} {left : Lit → Bool} {lo me2 : Nat} {V2 : Tm → Value} {sb2 : Tm → Nat} {w : World} (h : CopP u left lo me2 V2 sb2 w) : Fm (w00 w) w [mapP me2 (fun t => u.live t && !left (.string t)) V2, restP (fun b => b = me2) w] :=
 ((fm00 w).add (p := restP (fun b => b = me2) w) ⟨Nat.le_refl _, fun _ _ _ => rfl⟩ (fun b h => h.elim) (fun q hq => (List.not_mem_nil hq).elim)).add (p := mapP me2 (fun t => u.live t && !left (.string t)) V2) h.m (fun b _ => Nat.zero_le _) fun q hq => by
  rw [List.mem_singleton.1 hq]
  exact fun b => ⟨fun h2 => h2.2.2 h2.1, fun h2 => h2.2⟩
theorem below_rest {w w2 w1 : World} {me2 : Nat} {l : List Part} (hB : Below w.heap.size w w2) (h : Fm (w00 w2) w1 l) (i : Nat) (hi : l[i]? = some (restP (fun b => b = me2) w2)) (hme : w.heap.size ≤ me2) : Below w.heap.size w w1 :=
 ⟨h.bel.os.trans hB.os, h.bel.tape.trans hB.tape, h.bel.output.trans hB.output, Nat.le_trans hB.size (h.at i hi).1, fun b hb => ((h.at i hi).2 b (Nat.lt_of_lt_of_le hb hB.size) (by omega)).trans (hB.block b hb)⟩
theorem fr_grown {w w' : World} {m : Nat} (h : Frm.Fr (fun b => b = m) w w') : w.grownBy w' (some m) := ⟨h.os, h.tape, h.output, h.size, fun b hb hne => h.block b hb fun e => hne (by rw [e])⟩
theorem held_new {w3 : World} {o f : ByteArray} {ep : Int} {a b gs : Nat} {rs ws ss : List ByteArray} {vr : Nat} {R : ByteArray} {x : Ow} (hx : x = ⟨⟨o.data.toList, f.data.toList, ep, bl rs, bl ws⟩, vr, R.data.toList, bl ss, false⟩) (hr : (rowO a rs).P w3) (hw : (rowO b ws).P w3) (hs : (rowO gs ss).P w3) (hne : a ≠ gs ∧ b ≠ gs) (lo : Nat) (hlo : lo ≤ a ∧ lo ≤ b) :
  HeldAt w3 (.agg #[.string o, .string f, .int .i64 ep, .slice (some ⟨a, 0, none⟩) rs.length rs.length, .slice (some ⟨b, 0, none⟩) ws.length ws.length, .int .u64 (vr : Int), .string R, .slice (some ⟨gs, 0, none⟩) ss.length ss.length, .bool false]) gs x (fun j => lo ≤ j ∧ j ≠ gs) := by
 subst hx
 refine ⟨o, f, ep, some ⟨a, 0, none⟩, rs.length, rs.length, some ⟨b, 0, none⟩, ws.length, ws.length, R, some ⟨gs, 0, none⟩, ss.length, ss, rfl, ⟨o, f, _, _, rs, _, _, ws, rfl, rfl, rowO_reads hr, rowO_reads hw, ⟨Nat.le_refl _, fun h => by cases h⟩, ⟨Nat.le_refl _, fun h => by cases h⟩, fun j off e _ => ?_, fun j off e _ => ?_⟩, rfl, rfl, rfl, ⟨hs.1, ?_⟩, rfl⟩
 · injection e with e; injection e with e; subst e; exact ⟨hlo.1, hne.1⟩
 · injection e with e; injection e with e; subst e; exact ⟨hlo.2, hne.2⟩
 ·
  rcases hs.2 with ⟨h1, _⟩ | ⟨q, cap, cur, h1, _, h3⟩
  · cases h1
  · exact .inr ⟨q, cap, cur, h1, Nat.zero_le _, h3⟩
set_option maxHeartbeats 8000000 in
set_option maxRecDepth 1000000 in
theorem copy_c (n : Nat) (a : Addr) (S M : Nat → Prop) (u : Us) (w : World) (h : DU w a S M u) (f : Fine n u) (hn : n ≤ 200) : Calls Tryz.prog 16 #[.pointer (some a)] w fun e w' => (∃ a' S' M', e = .returned (.pointer (some a')) ∧ DU w' a' S' M' u ∧ (∀ b, M' b → w.heap.size ≤ b) ∧ ∀ b, S' b → Shy w S M b) ∧ Below w.heap.size w w' := by
  obtain ⟨g, me, mg, db, dc, N, C, V, sb, rfl, h, hS, hM⟩ := h
  have glt := h.g_lt
  have HH := zh h
  have HFI := zh f
  have hmm := @run_makeMap Tryz.prog
  clear h hS hM f
  have HF := zh (fm_refl w)
  go_enter Tryz.func16, Tryz.ntmps16
  go_wp2_with fail
  go_cut [3] (fun vc wx => ∃ gc db2 dc2 me2 mg2 : Nat, vc = .pointer (some ⟨gc, 0, none⟩) ∧ Hid (Base w N C u gc db2 dc2 me2 mg2 wx))
  case first =>
    replace HF : Hid (Fm w w.drew _) := zh (HF.out.go (Below.drewN' (Below.refl w.heap.size w) 1))
    have hdr : Below w.heap.size w w.drew := HF.out.bel
    refine wp_region_held_drew (w := w) (S := fun w' => Below w.heap.size w w') (by kernel_rfl) hdr (fun hHeld => ?_)
    clear hdr
    generalize w.drew = w1 at HF hHeld ⊢
    refine zqT 0 ?_ ?_ ?_; rotate_left; · (intro w' hSw; go_simp; try with_reducible rfl)
    refine zqT 4 ?_ ?_ ?_; rotate_left; · (intro w' hSw; go_simp; try with_reducible rfl)
    refine zqT 8 ?_ ?_ ?_; rotate_left; · (intro w' hSw; go_simp; try with_reducible rfl)
    try simp only [Act.put, zq1, zq2, zq3]
    refine zqT 12 ?_ ?_ ?_; rotate_left; · (intro w' hSw; go_simp; try with_reducible rfl)
    refine zqT 16 ?_ ?_ ?_; rotate_left; · (intro w' hSw; go_simp; try with_reducible rfl)
    refine zqT 23 ?_ ?_ ?_; rotate_left; · (intro w' hSw; go_simp; try with_reducible rfl)
    try simp only [Act.put, zq1, zq2, zq3]
    refine zqT 1 ?_ ?_ ?_; rotate_left; · (intro w' hSw; go_simp; try with_reducible rfl)
    refine zqT 5 ?_ ?_ ?_; rotate_left; · (intro w' hSw; go_simp; try with_reducible rfl)
    refine zqT 9 ?_ ?_ ?_; rotate_left; · (intro w' hSw; go_simp; try with_reducible rfl)
    try simp only [Act.put, zq1, zq2, zq3]
    refine zqT 13 ?_ ?_ ?_; rotate_left; · (intro w' hSw; go_simp; try with_reducible rfl)
    refine zqT 17 ?_ ?_ ?_; rotate_left; · (intro w' hSw; go_simp; try with_reducible rfl)
    refine zqT 24 ?_ ?_ ?_; rotate_left; · (intro w' hSw; go_simp; try with_reducible rfl)
    try simp only [Act.put, zq1, zq2, zq3]
    refine zqT 2 ?_ ?_ ?_; rotate_left; · (intro w' hSw; go_simp; try with_reducible rfl)
    refine zqT 6 ?_ ?_ ?_; rotate_left; · (intro w' hSw; go_simp; try with_reducible rfl)
    refine zqT 10 ?_ ?_ ?_; rotate_left; · (intro w' hSw; go_simp; try with_reducible rfl)
    try simp only [Act.put, zq1, zq2, zq3]
    refine zqT 14 ?_ ?_ ?_; rotate_left; · (intro w' hSw; go_simp; try with_reducible rfl)
    refine zqT 18 ?_ ?_ ?_; rotate_left; · (intro w' hSw; go_simp; try with_reducible rfl)
    refine zqT 25 ?_ ?_ ?_; rotate_left; · (intro w' hSw; go_simp; try with_reducible rfl)
    try simp only [Act.put, zq1, zq2, zq3]
    refine zqT 3 ?_ ?_ ?_; rotate_left; · (intro w' hSw; have kU := HH.out.below hSw; have k0 := kU.c0; have k1 := kU.c1; have k2 := kU.c2; have k3 := kU.c3; have k5 := kU.c5; go_simp; try with_reducible rfl)
    refine zqT 7 ?_ ?_ ?_; rotate_left; · (intro w' hSw; have kU := HH.out.below hSw; have k0 := kU.c0; have k1 := kU.c1; have k2 := kU.c2; have k3 := kU.c3; have k5 := kU.c5; go_simp; try with_reducible rfl)
    refine zqT 11 ?_ ?_ ?_; rotate_left; · (intro w' hSw; have kU := HH.out.below hSw; have k0 := kU.c0; have k1 := kU.c1; have k2 := kU.c2; have k3 := kU.c3; have k5 := kU.c5; go_simp; try with_reducible rfl)
    try simp only [Act.put, zq1, zq2, zq3]
    refine zqT 15 ?_ ?_ ?_; rotate_left; · (intro w' hSw; have kU := HH.out.below hSw; have k0 := kU.c0; have k1 := kU.c1; have k2 := kU.c2; have k3 := kU.c3; have k5 := kU.c5; go_simp; try with_reducible rfl)
    refine zqT 19 ?_ ?_ ?_; rotate_left; · (intro w' hSw; have kU := HH.out.below hSw; have k0 := kU.c0; have k1 := kU.c1; have k2 := kU.c2; have k3 := kU.c3; have k5 := kU.c5; go_simp; try with_reducible rfl)
    refine zqT 26 ?_ ?_ ?_; rotate_left; · (intro w' hSw; have kU := HH.out.below hSw; have k0 := kU.c0; have k1 := kU.c1; have k2 := kU.c2; have k3 := kU.c3; have k5 := kU.c5; go_simp; try with_reducible rfl)
    try simp only [Act.put, zq1, zq2, zq3]
    try simp only [Act.put, zq1, zq2, zq3]
    clear hHeld
    refine zqR [20, 22] ?_
    refine zqC (fun Kn hK => ?_) (zqC (fun Kn hK => ?_) AllReadyH.nil)
    · go_simp
      with_reducible refine (many_c db dc u.sd u.dr _ (HH.out.below HF.out.bel).dr).mono ?_
      rintro e w1 ⟨rfl, hb⟩
      replace HF := zh (HF.out.go hb)
      clear hb
      try dsimp only
      refine hK.out _ _ (HF.out.bel) (fun hHeld => ?_)
      try simp only [Act.put, zq1, zq2, zq3]
      clear hHeld
      refine zqR [21, 22] ?_
      refine zqC (fun Kn hK => ?_) (zqC (fun Kn hK => ?_) AllReadyH.nil)
      · go_simp
        with_reducible refine (drawn_fm HF.out u.sd u.dr HFI.out.sd (by have := HFI.out.dr.2; omega)).mono ?_
        rintro e w1 ⟨db2, dc2, rfl, hF⟩
        replace HF := zh hF
        clear hF
        try dsimp only
        refine hK.out _ _ (HF.out.bel) (fun hHeld => ?_)
        try simp only [Act.put, zq1, zq2, zq3]
        clear hHeld
        refine zqR [22, 27] ?_
        refine zqC (fun Kn hK => ?_) (zqC (fun Kn hK => ?_) AllReadyH.nil)
        · go_simp
          have hF := makeMap_fm HF.out
          obtain ⟨me2, hg⟩ : ∃ g, w1.heap.size = g := ⟨_, rfl⟩
          rw [hg] at hF ⊢
          clear hg
          generalize w1.alloc (.map #[] 0) = w1 at hF ⊢
          replace HF := zh hF
          clear hF
          refine hK.out _ _ (HF.out.bel) (fun hHeld => ?_)
          try simp only [Act.put, zq1, zq2, zq3]
          clear hHeld
          refine zqR [27] ?_
          refine zqC (fun Kn hK => ?_) AllReadyH.nil
          go_simp
          with_reducible refine (clone_fm HF.out (HH.out.below HF.out.bel).gm).mono ?_
          rintro e w1 ⟨mg2, rfl, hF⟩
          replace HF := zh hF
          clear hF
          try dsimp only
          refine hK.out _ _ (HF.out.bel) (fun hHeld => ?_)
          refine zqT 28 ?_ ?_ ?_; rotate_left; · (intro w' hSw; go_simp; try with_reducible rfl)
          try simp only [Act.put, zq1, zq2, zq3]
          clear hHeld
          refine zqR [29] ?_
          refine zqC (fun Kn hK => ?_) AllReadyH.nil
          go_simp
          have hF := HF.out.box #[.string N, .string C, .int .u64 (u.sd : Int), .pointer (some ⟨db2, 0, none⟩), .map (some me2), .map (some mg2)] 97
          obtain ⟨gc, hg⟩ : ∃ g, w1.heap.size = g := ⟨_, rfl⟩
          rw [hg] at hF ⊢
          clear hg
          generalize w1.alloc (.cells #[.string N, .string C, .int .u64 (u.sd : Int), .pointer (some ⟨db2, 0, none⟩), .map (some me2), .map (some mg2)] 97) = w1 at hF ⊢
          replace HF := zh hF
          clear hF
          refine hK.out _ _ (HF.out.bel) (fun hHeld => ?_)
          refine zqT 30 ?_ ?_ ?_; rotate_left; · (intro w' hSw; go_simp; try with_reducible rfl)
          try simp only [Act.put, zq1, zq2, zq3]
          refine wpAnyH_done (by kernel_rfl) ?_ _
          clear hHeld
          go_wp2_with fail
          go_meet
          case rel => exact ⟨gc, db2, dc2, me2, mg2, rfl, zh (base_of HF.out 0 2 1 3 rfl rfl rfl rfl (by decide))⟩
        · go_simp
          with_reducible refine (clone_fm HF.out (HH.out.below HF.out.bel).gm).mono ?_
          rintro e w1 ⟨mg2, rfl, hF⟩
          replace HF := zh hF
          clear hF
          try dsimp only
          refine hK.out _ _ (HF.out.bel) (fun hHeld => ?_)
          try simp only [Act.put, zq1, zq2, zq3]
          clear hHeld
          refine zqR [22] ?_
          refine zqC (fun Kn hK => ?_) AllReadyH.nil
          go_simp
          have hF := makeMap_fm HF.out
          obtain ⟨me2, hg⟩ : ∃ g, w1.heap.size = g := ⟨_, rfl⟩
          rw [hg] at hF ⊢
          clear hg
          generalize w1.alloc (.map #[] 0) = w1 at hF ⊢
          replace HF := zh hF
          clear hF
          refine hK.out _ _ (HF.out.bel) (fun hHeld => ?_)
          refine zqT 28 ?_ ?_ ?_; rotate_left; · (intro w' hSw; go_simp; try with_reducible rfl)
          try simp only [Act.put, zq1, zq2, zq3]
          clear hHeld
          refine zqR [29] ?_
          refine zqC (fun Kn hK => ?_) AllReadyH.nil
          go_simp
          have hF := HF.out.box #[.string N, .string C, .int .u64 (u.sd : Int), .pointer (some ⟨db2, 0, none⟩), .map (some me2), .map (some mg2)] 97
          obtain ⟨gc, hg⟩ : ∃ g, w1.heap.size = g := ⟨_, rfl⟩
          rw [hg] at hF ⊢
          clear hg
          generalize w1.alloc (.cells #[.string N, .string C, .int .u64 (u.sd : Int), .pointer (some ⟨db2, 0, none⟩), .map (some me2), .map (some mg2)] 97) = w1 at hF ⊢
          replace HF := zh hF
          clear hF
          refine hK.out _ _ (HF.out.bel) (fun hHeld => ?_)
          refine zqT 30 ?_ ?_ ?_; rotate_left; · (intro w' hSw; go_simp; try with_reducible rfl)
          try simp only [Act.put, zq1, zq2, zq3]
          refine wpAnyH_done (by kernel_rfl) ?_ _
          clear hHeld
          go_wp2_with fail
          go_meet
          case rel => exact ⟨gc, db2, dc2, me2, mg2, rfl, zh (base_of HF.out 0 1 2 3 rfl rfl rfl rfl (by decide))⟩
      · go_simp
        have hF := makeMap_fm HF.out
        obtain ⟨me2, hg⟩ : ∃ g, w1.heap.size = g := ⟨_, rfl⟩
        rw [hg] at hF ⊢
        clear hg
        generalize w1.alloc (.map #[] 0) = w1 at hF ⊢
        replace HF := zh hF
        clear hF
        refine hK.out _ _ (HF.out.bel) (fun hHeld => ?_)
        try simp only [Act.put, zq1, zq2, zq3]
        clear hHeld
        refine zqR [21] ?_
        refine zqC (fun Kn hK => ?_) AllReadyH.nil
        go_simp
        with_reducible refine (drawn_fm HF.out u.sd u.dr HFI.out.sd (by have := HFI.out.dr.2; omega)).mono ?_
        rintro e w1 ⟨db2, dc2, rfl, hF⟩
        replace HF := zh hF
        clear hF
        try dsimp only
        refine hK.out _ _ (HF.out.bel) (fun hHeld => ?_)
        try simp only [Act.put, zq1, zq2, zq3]
        clear hHeld
        refine zqR [27] ?_
        refine zqC (fun Kn hK => ?_) AllReadyH.nil
        go_simp
        with_reducible refine (clone_fm HF.out (HH.out.below HF.out.bel).gm).mono ?_
        rintro e w1 ⟨mg2, rfl, hF⟩
        replace HF := zh hF
        clear hF
        try dsimp only
        refine hK.out _ _ (HF.out.bel) (fun hHeld => ?_)
        refine zqT 28 ?_ ?_ ?_; rotate_left; · (intro w' hSw; go_simp; try with_reducible rfl)
        try simp only [Act.put, zq1, zq2, zq3]
        clear hHeld
        refine zqR [29] ?_
        refine zqC (fun Kn hK => ?_) AllReadyH.nil
        go_simp
        have hF := HF.out.box #[.string N, .string C, .int .u64 (u.sd : Int), .pointer (some ⟨db2, 0, none⟩), .map (some me2), .map (some mg2)] 97
        obtain ⟨gc, hg⟩ : ∃ g, w1.heap.size = g := ⟨_, rfl⟩
        rw [hg] at hF ⊢
        clear hg
        generalize w1.alloc (.cells #[.string N, .string C, .int .u64 (u.sd : Int), .pointer (some ⟨db2, 0, none⟩), .map (some me2), .map (some mg2)] 97) = w1 at hF ⊢
        replace HF := zh hF
        clear hF
        refine hK.out _ _ (HF.out.bel) (fun hHeld => ?_)
        refine zqT 30 ?_ ?_ ?_; rotate_left; · (intro w' hSw; go_simp; try with_reducible rfl)
        try simp only [Act.put, zq1, zq2, zq3]
        refine wpAnyH_done (by kernel_rfl) ?_ _
        clear hHeld
        go_wp2_with fail
        go_meet
        case rel => exact ⟨gc, db2, dc2, me2, mg2, rfl, zh (base_of HF.out 0 3 1 2 rfl rfl rfl rfl (by decide))⟩
    · go_simp
      have hF := makeMap_fm HF.out
      obtain ⟨me2, hg⟩ : ∃ g, w1.heap.size = g := ⟨_, rfl⟩
      rw [hg] at hF ⊢
      clear hg
      generalize w1.alloc (.map #[] 0) = w1 at hF ⊢
      replace HF := zh hF
      clear hF
      refine hK.out _ _ (HF.out.bel) (fun hHeld => ?_)
      try simp only [Act.put, zq1, zq2, zq3]
      clear hHeld
      refine zqR [20] ?_
      refine zqC (fun Kn hK => ?_) AllReadyH.nil
      go_simp
      with_reducible refine (many_c db dc u.sd u.dr _ (HH.out.below HF.out.bel).dr).mono ?_
      rintro e w1 ⟨rfl, hb⟩
      replace HF := zh (HF.out.go hb)
      clear hb
      try dsimp only
      refine hK.out _ _ (HF.out.bel) (fun hHeld => ?_)
      try simp only [Act.put, zq1, zq2, zq3]
      clear hHeld
      refine zqR [21] ?_
      refine zqC (fun Kn hK => ?_) AllReadyH.nil
      go_simp
      with_reducible refine (drawn_fm HF.out u.sd u.dr HFI.out.sd (by have := HFI.out.dr.2; omega)).mono ?_
      rintro e w1 ⟨db2, dc2, rfl, hF⟩
      replace HF := zh hF
      clear hF
      try dsimp only
      refine hK.out _ _ (HF.out.bel) (fun hHeld => ?_)
      try simp only [Act.put, zq1, zq2, zq3]
      clear hHeld
      refine zqR [27] ?_
      refine zqC (fun Kn hK => ?_) AllReadyH.nil
      go_simp
      with_reducible refine (clone_fm HF.out (HH.out.below HF.out.bel).gm).mono ?_
      rintro e w1 ⟨mg2, rfl, hF⟩
      replace HF := zh hF
      clear hF
      try dsimp only
      refine hK.out _ _ (HF.out.bel) (fun hHeld => ?_)
      refine zqT 28 ?_ ?_ ?_; rotate_left; · (intro w' hSw; go_simp; try with_reducible rfl)
      try simp only [Act.put, zq1, zq2, zq3]
      clear hHeld
      refine zqR [29] ?_
      refine zqC (fun Kn hK => ?_) AllReadyH.nil
      go_simp
      have hF := HF.out.box #[.string N, .string C, .int .u64 (u.sd : Int), .pointer (some ⟨db2, 0, none⟩), .map (some me2), .map (some mg2)] 97
      obtain ⟨gc, hg⟩ : ∃ g, w1.heap.size = g := ⟨_, rfl⟩
      rw [hg] at hF ⊢
      clear hg
      generalize w1.alloc (.cells #[.string N, .string C, .int .u64 (u.sd : Int), .pointer (some ⟨db2, 0, none⟩), .map (some me2), .map (some mg2)] 97) = w1 at hF ⊢
      replace HF := zh hF
      clear hF
      refine hK.out _ _ (HF.out.bel) (fun hHeld => ?_)
      refine zqT 30 ?_ ?_ ?_; rotate_left; · (intro w' hSw; go_simp; try with_reducible rfl)
      try simp only [Act.put, zq1, zq2, zq3]
      refine wpAnyH_done (by kernel_rfl) ?_ _
      clear hHeld
      go_wp2_with fail
      go_meet
      case rel => exact ⟨gc, db2, dc2, me2, mg2, rfl, zh (base_of HF.out 0 3 1 2 rfl rfl rfl rfl (by decide))⟩
  case rest =>
    obtain ⟨gc, db2, dc2, me2, mg2, rfl, HBA⟩ := hcut
    have HU := zh (HH.out.below HBA.out.bel)
    have c4 := HU.out.c4
    obtain ⟨D, hD, hhas, hat⟩ := HU.out.hm
    have HHAS := zh (And.intro hhas hat)
    have HD := zh hD
    have HSZ : Hid (Maps.size D ≤ 8) := zh (by rw [own_count hD hhas (lives_nodup HFI.out) (fun x => mem_lives)]; exact HFI.out.eight)
    clear hD hhas hat hmm
    have HL := lawS
    go_wp2_with (first
      | (at_range; refine wpList_range_own _ rfl _ 94 rfl 9 50 HL Tryz.underlying94 Rv me (Maps.size D) D rfl HD.out ?_; intro w0 hrg0 hg0 hs0)
      | go_in)
    go_frame
    obtain ⟨lo, hlo⟩ : ∃ lo, lo = w0.heap.size := ⟨_, rfl⟩
    obtain ⟨r, hr⟩ : ∃ r, r = wc.heap.size := ⟨_, rfl⟩
    have HLO := zh (And.intro hlo (And.intro hr (And.intro hg0 hs0)))
    have HNE : Hid ((me2 < lo ∧ r < lo ∧ r ≠ me2 ∧ me ≠ me2 ∧ me ≠ r) ∧ (w.heap.size ≤ me2 ∧ w.heap.size ≤ r ∧ gc < lo ∧ gc ≠ me2 ∧ gc ≠ r)) := zh (by
      have h1 := HBA.out.m1.lt
      have h2 := HBA.out.bel.size
      have h3 := HH.out.hm.lt
      have h4 := HBA.out.lo me2 (by simp)
      have h5 := (Array.getElem?_eq_some_iff.1 HBA.out.st).1
      have h6 := HBA.out.nd
      have h7 : gc ≠ me2 := by simp at h6; omega
      omega)
    have HRG0 : Hid (w0.ranges Tryz.prog 9 Rv me r (Maps.size D) D (Maps.has D) (Maps.size D)) := zh (by rw [hr]; exact hrg0)
    have HC0 : Hid (CopP u (Maps.has D) lo me2 (fun _ => undef) (fun _ => 0) w0) := zh ⟨(HBA.out.m1.block (hg0.block me2 HBA.out.m1.lt (by simp))).congr (fun t => by rw [HHAS.out.1 t]; simp) (fun t h => by cases h), fun t ht hl => (by rw [HHAS.out.1 t, ht] at hl; cases hl), fun t x ht hl => (by rw [HHAS.out.1 t, ht] at hl; cases hl)⟩
    have HF0 : Hid (Frm.Fr (fun b => b = me2 ∨ b = r) w0 w0) := zh ⟨rfl, rfl, rfl, Nat.le_refl _, fun _ _ _ => rfl⟩
    rw [← hr]
    clear hlo hr hrg0 hg0 hs0 c4
    go_loopw [4, 5] (fun v4 v5 wr => ∃ (left : Lit → Bool) (cnt : Nat) (V2 : Tm → Value) (sb2 : Tm → Nat), v4 = v4 ∧ v5 = v5 ∧ Hid (wr.ranges Tryz.prog 9 Rv me r (Maps.size D) D left cnt) ∧ Hid (CopP u left lo me2 V2 sb2 wr) ∧ Hid (Frm.Fr (fun b => b = me2 ∨ b = r) w0 wr)) (fun _ _ wr => wr.rangeLeft me r)
    case atStart => exact ⟨_, _, _, _, rfl, rfl, HRG0, HC0, HF0⟩
    case round =>
      clear HRG0 HC0 HF0
      obtain ⟨left, cnt, V2, sb2, _, _, HR, HC, HF⟩ := hrel
      go_wp2_with (at_next; refine wpList_next_ranges _ rfl _ rfl 9 HL Rv Value.string (fun v => v) (fun key kl hk => by obtain ⟨x, hx, _⟩ := Maps.keyOf_str Tryz.underlying9 hk; exact ⟨_, hx⟩) (fun v y _ => ⟨v, rfl⟩) me r (Maps.size D) D left cnt rfl HR.out ?_ ?_)
      · intro hc0 hl0
        have HL0 := zh hl0
        clear hl0 hc0
        go_wp2_with fail
        go_ret
        exact copied_all HBA.out HH.out.hN HH.out.hC HLO.out.2.2.1 HLO.out.2.1 HLO.out.1 HF.out HC.out HL0.out HNE.out.1.2.1
      · intro s c1 kl yd yp w2 cnt2 hkey hlk hv hat2 hrg2 hlt2 hg2 hs2 hen
        obtain ⟨x', ex, hkl, hxl⟩ := Maps.keyOf_str Tryz.underlying9 hkey
        obtain rfl : x' = s.data.toList := by
          have := Value.string.inj ex
          rw [this]
        subst hkl
        have htK : u.live s.data.toList = true := (HHAS.out.1 _).symm.trans (Maps.has_true_of_atKey hat2)
        have hcV : c1 = V s.data.toList := by
          obtain rfl : DataW.held c1 = yd := congrArg Prod.fst (Option.some.inj hv)
          have h1 := HHAS.out.2 _ htK (.held c1)
          have h2 := hat2 (.held c1)
          rw [h1] at h2
          exact (DataW.held.inj h2).symm
        obtain ⟨o, f, ep, A, m, c, B, p, d, R, T, e, ss, hvv, hx, hR, hss, hgo, hrow, _⟩ := HH.out.rows _ htK
        rw [hvv] at hcV
        simp only [OV] at hcV
        subst hcV
        obtain ⟨rs, ws, rfl, rfl, hrr, hrw, hre⟩ := isX_read hx
        have hsm := held_small HFI.out htK
        have hb1 : rs.length ≤ 1000 := by have := hsm.1; rw [hre, bl_len] at this; exact this
        have hb2 : ws.length ≤ 1000 := by have := hsm.2.1; rw [hre, bl_len] at this; exact this
        have hb3 : ss.length ≤ 1000 := by have := hsm.2.2; rw [← hss, bl_len] at this; exact this
        have HSR := zh (And.intro hrr (And.intro hrw (sreads_own hrow).1))
        have HIS : Hid (u.of s.data.toList = ⟨⟨o.data.toList, f.data.toList, ep, bl rs, bl ws⟩, (u.of s.data.toList).ver, R.data.toList, bl ss, false⟩) := by
          show _ = _
          rw [hR, hss, ← hre, ← hgo]
        obtain ⟨vr, hvr⟩ : ∃ vr, (u.of s.data.toList).ver = vr := ⟨_, rfl⟩
        rw [hvr] at hen HIS
        have hs3 : w2.heap.size = wr.heap.size := hs2
        have HZ2 : Hid (lo ≤ w2.heap.size) := zh (by have := HF.out.size; have := HLO.out.1; omega)
        have HC2 : Hid (CopP u left lo me2 V2 sb2 w2) := zh (HC.out.keep (hg2.block me2 HC.out.m.lt fun e => HNE.out.1.2.2.1 (Option.some.inj e).symm) fun b h1 h2 => hg2.block b h2 fun e => by have h3 := Option.some.inj e; have h4 := HNE.out.1.2.1; omega)
        have HFW2 : Hid (Frm.Fr (fun b => b = me2 ∨ b = r) w0 w2) := zh (fr_cons HF.out (Grown.fr hg2) fun b e _ => .inr e)
        have HBW : Hid (Below w.heap.size w w2) := zh ⟨HFW2.out.os.trans (HLO.out.2.2.1.os.trans HBA.out.bel.os), HFW2.out.tape.trans (HLO.out.2.2.1.tape.trans HBA.out.bel.tape), HFW2.out.output.trans (HLO.out.2.2.1.output.trans HBA.out.bel.output), Nat.le_trans HBA.out.bel.size (Nat.le_trans HLO.out.2.2.1.size HFW2.out.size), fun b hb => (HFW2.out.block b (by have := HBA.out.bel.size; have := HLO.out.2.2.1.size; omega) fun h => by have h1 := HNE.out.2.1; have h2 := HNE.out.2.2.1; omega).trans ((HLO.out.2.2.1.block b (by have := HBA.out.bel.size; omega) (by simp)).trans (HBA.out.bel.block b hb))⟩
        have HST : Hid (w2.heap[gc]? = some (.cells #[.string N, .string C, .int .u64 (u.sd : Int), .pointer (some ⟨db2, 0, none⟩), .map (some me2), .map (some mg2)] 97)) := zh ((HFW2.out.block gc (by have h1 := HNE.out.2.2.2.1; have h2 := HLO.out.1; omega) fun h => by have h1 := HNE.out.2.2.2.2; omega).trans ((HLO.out.2.2.1.block gc (Array.getElem?_eq_some_iff.1 HBA.out.st).1 (by simp)).trans HBA.out.st))
        have HRG := zh hrg2
        have HLK := zh hlk
        have HTK := zh htK
        have HVR := zh hvr
        have hsz : s.size ≤ 10000 := by
          have h1 := (HFI.out.each _ (live_in htK).1)
          have h2 := h1.1.2.1
          rw [h1.2.2.1] at h2
          have := right_size h2
          omega
        have HLT := zh hlt2
        clear hs2 hs3 hrg2 hg2 hlk hat2 hv hkey ex hxl htK hx hR hss hgo hrow hrr hrw hre hsm hvv hvr hlt2
        have HFX := zh (cop_fm HC2.out)
        have HF := HFX
        go_wp2_with fail
        have hF := HF.out.box #[.string o, .string f, .int .i64 ep, .slice A rs.length c, .slice B ws.length d, .int .u64 (vr : Int), .string R, .slice T ss.length e, .bool false] 50
        obtain ⟨gv, hg⟩ : ∃ g, w2.heap.size = g := ⟨_, rfl⟩
        rw [hg] at hF ⊢
        clear hg
        generalize w2.alloc (.cells #[.string o, .string f, .int .i64 ep, .slice A rs.length c, .slice B ws.length d, .int .u64 (vr : Int), .string R, .slice T ss.length e, .bool false] 50) = w1 at hF ⊢
        replace HF := zh hF
        clear hF
        clear hen
        go_wp2_with fail
        have hdr := (HF.out.hide 1).go (Below.drewN' (Below.refl w1.heap.size w1) 1)
        have hfull := HF.out.go (Below.drewN' (Below.refl w1.heap.size w1) 1)
        refine wp_region_held_drew (S := fun w' => Fm (w00 w2) w' _) (by kernel_rfl) hdr (fun _ => ?_)
        replace hdr : Fm (w00 w2) w1.drew _ := hdr
        replace hfull : Fm (w00 w2) w1.drew _ := hfull
        generalize w1.drew = w1 at hdr hfull ⊢
        replace HF := zh hfull
        have hHeld := hdr
        clear hdr hfull
        refine zqT 0 ?_ ?_ ?_; rotate_left; · (intro w' hSw; go_simp; try with_reducible rfl)
        refine zqT 1 ?_ ?_ ?_; rotate_left; · (intro w' hSw; go_simp; try with_reducible rfl)
        refine zqT 2 ?_ ?_ ?_; rotate_left; · (intro w' hSw; go_simp; try with_reducible rfl)
        try simp only [Act.put, zq1, zq2, zq3]
        refine zqT 3 ?_ ?_ ?_; rotate_left; · (intro w' hSw; obtain ⟨q00, q01, q02, q03, q04, q05, q06, q07, q08, q09⟩ := bx9 (hSw.at 0 rfl); have k4 := (World.cell?_of_block (a := ⟨gc, 4, none⟩) ((hSw.at 1 rfl).2 gc (Array.getElem?_eq_some_iff.1 HST.out).1 HNE.out.2.2.2.2.1)).trans (bx6 HST.out).2.2.2.2.1; go_simp; try with_reducible rfl)
        refine zqT 4 ?_ ?_ ?_; rotate_left; · (intro w' hSw; go_simp; try with_reducible rfl)
        refine zqT 5 ?_ ?_ ?_; rotate_left; · (intro w' hSw; obtain ⟨q00, q01, q02, q03, q04, q05, q06, q07, q08, q09⟩ := bx9 (hSw.at 0 rfl); have k4 := (World.cell?_of_block (a := ⟨gc, 4, none⟩) ((hSw.at 1 rfl).2 gc (Array.getElem?_eq_some_iff.1 HST.out).1 HNE.out.2.2.2.2.1)).trans (bx6 HST.out).2.2.2.2.1; go_simp; try with_reducible rfl)
        try simp only [Act.put, zq1, zq2, zq3]
        try simp only [Act.put, zq1, zq2, zq3]
        clear hHeld
        refine zqR [6] ?_
        refine zqC (fun Kn hK => ?_) AllReadyH.nil
        go_simp
        have hbw := below_rest HBW.out HF.out 2 rfl HNE.out.2.1
        with_reducible refine (apart_fm HF.out o f ep A c rs B d ws (vr : Int) R T e ss false (HSR.out.1.below hbw zl) (HSR.out.2.1.below hbw zl) (HSR.out.2.2.below hbw zl) hb1 hb2 hb3).mono ?_
        rintro en w3 ⟨a, b, gs, rfl, hF2, hlo, hne⟩
        have HNL : Hid ((w2.heap.size ≤ a ∧ w2.heap.size ≤ b ∧ w2.heap.size ≤ gs) ∧ a ≠ gs ∧ b ≠ gs) := zh (by have := (HF.out.at 2 rfl).1; omega)
        replace HF := zh hF2
        clear hF2 hlo hne hbw
        generalize w3 = w1 at HF ⊢
        try dsimp only
        refine hK.out _ _ (HF.out.tail.tail.tail.hide 1) (fun hHeld => ?_)
        try simp only [Act.put, zq1, zq2, zq3]
        clear hHeld
        refine zqR [7] ?_
        refine zqC (fun Kn hK => ?_) AllReadyH.nil
        refine step_put rfl _ _ _ rfl rfl (HF.out.at 4 rfl) Tryz.underlying94 rfl (by omega) ((lives_nodup HFI.out).filter fun t => !left (.string t)) (fun t => by rw [List.mem_filter, mem_lives]; simp) (Nat.le_trans (List.length_filter_le _ _) (Nat.le_trans HFI.out.eight (by decide))) rfl ?_
        intro w3 hm3 hg3 hz3
        have hF := HF.out.turn (q := mapP me2 _ _) 4 rfl (Grown.fr hg3) hm3 (fun b hb => .inl hb) (fun b hb => .inl hb)
        simp only [List.set_cons_zero, List.set_cons_succ] at hF
        replace HF := zh hF
        clear hm3 hg3 hz3 hF
        generalize w3 = w1 at HF ⊢
        refine hK.out _ _ (HF.out.tail.tail.tail.hide 1) (fun hHeld => ?_)
        try simp only [Act.put, zq1, zq2, zq3]
        refine wpAnyH_done (by kernel_rfl) ?_ _
        clear hHeld
        go_wp2_with fail
        go_roundw
        case rel => exact ⟨_, cnt2, _, _, trivial, trivial, zh (HRG.out.kept (fr_grown (rest_fr HF.out 5 rfl)) (fun e => HNE.out.1.2.2.2.1 (Option.some.inj e)) (fun e => HNE.out.1.2.2.1 (Option.some.inj e))), zh (HC2.out.step (rest_fr HF.out 5 rfl) HNE.out.1.1 HZ2.out HTK.out HLK.out (held_new (HIS.out.trans (by rfl)) (HF.out.at 2 rfl) (HF.out.at 1 rfl) (HF.out.at 0 rfl) HNL.out.2 _ ⟨HNL.out.1.1, HNL.out.1.2.1⟩) HNL.out.1.2.2 (HF.out.at 4 rfl)), zh (fr_cons HFW2.out (rest_fr HF.out 5 rfl) fun b e _ => .inl e)⟩
        case measure => rw [(HRG.out.kept (fr_grown (rest_fr HF.out 5 rfl)) (fun e => HNE.out.1.2.2.2.1 (Option.some.inj e)) (fun e => HNE.out.1.2.2.1 (Option.some.inj e))).left_eq, HR.out.left_eq]; exact HLT.out
end Go.Proofs.YtbdealddjonobaaGreat.Usr

