/-
  HOW A USER IN MEMORY TURNS; the landed code's Remove (package user). By an AI agent; no person has read it.
-/
import Derived.Test.YtbdealddjonobaaGreatUCAct
import Derived.Test.YtbdealddjonobaaGreatUHelp
import Derived.StillTailTactics
namespace Go.Proofs.YtbdealddjonobaaGreat.Usr
open Go Go.RowKit Wire Rig Draw

set_option linter.unusedVariables false
set_option linter.unusedSimpArgs false
theorem HeldAt.bv {w : World} {v : Value} {b : Nat} {x : Ow} {ok : Nat → Prop} (h : HeldAt w v b x ok) {j : Nat} (hj : Bv v j) : ok j ∨ j = b := by
  obtain ⟨o, f, ep, A, n, c, B, m, d, R, S, e, ss, rfl, h2, h3, h4, h5, h6, h7⟩ := h
  obtain ⟨o', f', A', c', rs, B', d', ws, h1, _, h8, h9, _, _, hA, hB⟩ := h2
  unfold RV at h1
  injection h1 with h1
  simp only [Array.mk.injEq, List.cons.injEq, Value.string.injEq, Value.int.injEq, Value.slice.injEq, and_true, true_and] at h1
  obtain ⟨rfl, rfl, rfl, ⟨rfl, rfl, rfl⟩, rfl, rfl, rfl⟩ := h1
  obtain ⟨vs, e1, off, q, cc, hm, h0⟩ := hj
  have e2 : vs = OV o f x.r.ep A rs.length c B ws.length d (x.ver : Int) R S ss.length e false := by
    injection e1 with e1
    exact (Array.mk.inj e1).symm
  subst e2
  simp only [OV, List.mem_cons, reduceCtorEq, Value.slice.injEq, List.not_mem_nil, or_false, false_or] at hm
  rcases hm with ⟨e1, e2, _⟩ | ⟨e1, e2, _⟩ | ⟨e1, e2, _⟩
  · exact .inl (hA j off e1.symm (by omega))
  · exact .inl (hB j off e1.symm (by omega))
  · rw [← e1] at h7
    exact .inr (Option.some.inj h7)
section
variable {g me mg db dc : Nat} {N C : ByteArray} {V V' : Tm → Value} {sb sb' : Tm → Nat} {w w' : World} {u u' : Us} {X : Nat → Prop}
theorem UserAt.row (h : UserAt g me mg db dc N C V sb w u) {t : Tm} (ht : u.live t = true) (hf : Frm.Fr X w w') (hX : ∀ b, X b → Mb u me mg db dc sb b) (hs : ¬ X (sb t)) (hM : ∀ b, Mb u' me mg db dc sb' b → Mb u me mg db dc sb b ∨ w.heap.size ≤ b) : HeldAt w' (V t) (sb t) (u.of t) (fun b => ¬ Mb u' me mg db dc sb' b) := by
  have hr := h.rows t ht
  refine (hr.mono (ok' := fun b => ¬ Mb u' me mg db dc sb' b) fun j hj hn hm => ?_).move (fun j hj => hf.block j (hr.old hj) fun hx => ?_) (hf.block _ hr.lt hs)
  · rcases hM j hm with h1 | h1
    · exact hn h1
    · omega
  · rcases hr.bv hj with h1 | h1
    · exact h1 (hX j hx)
    · rw [h1] at hx; exact hs hx
theorem UserAt.g_no (h : UserAt g me mg db dc N C V sb w u) : ¬ Mb u me mg db dc sb g := by
  rintro (e | e | e | e | ⟨t, ht, e⟩)
  · have := h.nd; simp [e] at this
  · have := h.nd; simp [e] at this
  · have := h.nd; simp [e] at this
  · have := h.nd; simp [e] at this
  · exact h.off t ht (by simp [e])
theorem UserAt.turn (h : UserAt g me mg db dc N C V sb w u) (hf : Frm.Fr X w w') (hX : ∀ b, X b → Mb u me mg db dc sb b) (hn : u'.nm = u.nm) (hs : u'.sd = u.sd) (hd : DrawAt db dc w' u'.sd u'.dr) (hm : MapIs w' me u'.live V') (hg : MapIs w' mg u'.gn (verV u'))
    (hr : ∀ t, u'.live t = true → HeldAt w' (V' t) (sb' t) (u'.of t) (fun b => ¬ Mb u' me mg db dc sb' b)) (ho : ∀ t, u'.live t = true → sb' t ∉ [g, me, mg, db, dc]) (hi : ∀ t x, u'.live t = true → u'.live x = true → sb' t = sb' x → t = x) : UserAt g me mg db dc N C V' sb' w' u' := by
  have hg0 : w'.heap[g]? = w.heap[g]? := hf.block g h.g_lt fun hx => h.g_no (hX g hx)
  exact ⟨(World.cell?_of_block (a := ⟨g, 0, none⟩) hg0).trans h.c0, (World.cell?_of_block (a := ⟨g, 1, none⟩) hg0).trans h.c1, by rw [hs]; exact (World.cell?_of_block (a := ⟨g, 2, none⟩) hg0).trans h.c2, (World.cell?_of_block (a := ⟨g, 3, none⟩) hg0).trans h.c3, (World.cell?_of_block (a := ⟨g, 4, none⟩) hg0).trans h.c4, (World.cell?_of_block (a := ⟨g, 5, none⟩) hg0).trans h.c5, h.hN.trans hn.symm, by
    rw [h.hC]; unfold Us.sec; rw [hn, hs], hd, hm, hg, hr, h.nd, ho, hi⟩
/-- A user that turned, told as a call's end. -/
theorem turned {S M : Nat → Prop} (hS : ∀ b, S b ↔ Sb u g me mg db dc V sb b) (hMi : ∀ b, M b ↔ Mb u me mg db dc sb b) (h : UserAt g me mg db dc N C V' sb' w' u') (hM : ∀ b, Mb u' me mg db dc sb' b → Mb u me mg db dc sb b ∨ w.heap.size ≤ b) (hB : ∀ t b, u'.live t = true → Bv (V' t) b → Sb u g me mg db dc V sb b ∨ w.heap.size ≤ b)
    (hf : Frm.Fr X w w') (hX : ∀ b, X b → Mb u me mg db dc sb b) {x : Int} {r : Us × Int} (hr : r = (u', x)) : Turn DU ⟨g, 0, none⟩ S M r w (.returned (.int .i64 x)) w' := by
  subst hr
  refine ⟨rfl, ⟨_, _, ⟨g, me, mg, db, dc, N, C, V', sb', rfl, h, fun b => Iff.rfl, fun b => Iff.rfl⟩, fun b hb => ?_, fun b hb => ?_⟩, ⟨hf.os, hf.tape, hf.output, hf.size, fun b hb hn => hf.block b hb fun hx => hn ((hMi b).2 (hX b hx))⟩⟩
  · rcases hb with rfl | hb | ⟨t, ht, hb⟩
    · exact .inl ((hS _).2 (.inl rfl))
    · exact (hM b hb).imp_left fun h => (hS b).2 (.inr (.inl h))
    · exact (hB t b ht hb).imp_left (hS b).2
  · exact (hM b hb).imp_left (hMi b).2
/-- A user beside which nothing turned. -/
theorem stayed {S M : Nat → Prop} (hS : ∀ b, S b ↔ Sb u g me mg db dc V sb b) (hMi : ∀ b, M b ↔ Mb u me mg db dc sb b) (h : UserAt g me mg db dc N C V sb w u) (hb : Below w.heap.size w w') {x : Int} {r : Us × Int} (hr : r = (u, x)) : Turn DU ⟨g, 0, none⟩ S M r w (.returned (.int .i64 x)) w' :=
  turned hS hMi (h.below hb) (fun b => .inl) (fun t b ht hb => .inl (.inr (.inr ⟨t, ht, hb⟩))) (X := fun _ => False) (fr_below hb) (fun b h => h.elim) hr
end
theorem held_look {g me mg db dc : Nat} {N C : ByteArray} {V : Tm → Value} {sb : Tm → Nat} {w : World} {u : Us} (h : UserAt g me mg db dc N C V sb w u) {F : ByteArray} (hF : F.size ≤ 10000) : (Instr.lookup 94 (.map (some me)) (.string F) true).run Tryz.prog w = .ok (.tuple #[if u.live F.data.toList then V F.data.toList else .agg (OV ⟨#[]⟩ ⟨#[]⟩ 0 none 0 0 none 0 0 0 ⟨#[]⟩ none 0 0 false).toArray, .bool (u.live F.data.toList)]) w :=
  h.hm.look_ok Tryz.underlying94 (zero_owned w) (by omega)
theorem fr_maps {me mg : Nat} {w w1 w2 w3 : World} {X : Nat → Prop} (hb1 : Below w.heap.size w w1) (hg2 : w1.grownBy w2 (some mg)) (hg3 : w2.grownBy w3 (some me)) (h1 : X mg) (h2 : X me) : Frm.Fr X w w3 :=
  fr_cons (fr_cons (fr_below hb1) (Grown.fr hg2) (fun b e _ => by rw [e]; exact h1)) (Grown.fr hg3) (fun b e _ => by rw [e]; exact h2)
section
variable {g me mg db dc n : Nat} {N C : ByteArray} {V : Tm → Value} {sb : Tm → Nat} {w : World} {u : Us} {S M : Nat → Prop}
theorem live_set {u : Us} {f : Tm} (hf : f ∈ u.ns) (o : Ow) (dr : Nat) (t : Tm) : (⟨u.nm, u.sd, dr, u.ns, updO u.of f o⟩ : Us).live t = updH u.live f (!o.gone) t := by
  unfold Us.live updH updO
  by_cases e : t = f
  · subst e; simp [hf]
  · simp [e]
theorem gn_set {u : Us} {f : Tm} (hf : f ∈ u.ns) (o : Ow) (dr : Nat) (t : Tm) : (⟨u.nm, u.sd, dr, u.ns, updO u.of f o⟩ : Us).gn t = updH u.gn f o.gone t := by
  unfold Us.gn updH updO
  by_cases e : t = f
  · subst e; simp [hf]
  · simp [e]
theorem removed (h : UserAt g me mg db dc N C V sb w u) (hS : ∀ b, S b ↔ Sb u g me mg db dc V sb b) (hMi : ∀ b, M b ↔ Mb u me mg db dc sb b) {f : Tm} (hl : u.live f = true) {w1 w2 w3 : World} (hb1 : Below w.heap.size w w1) (hg2 : w1.grownBy w2 (some mg)) (hg3 : w2.grownBy w3 (some me))
    (hm2 : MapIs w2 mg (updH u.gn f true) (updV (verV u) f (.int .u64 ((u.of f).ver : Int)))) (hm3 : MapIs w3 me (updH u.live f false) V) {r : Us × Int} (hr : r = (u.set f { u.of f with gone := true }, 0)) : Turn DU ⟨g, 0, none⟩ S M r w (.returned (.int .i64 0)) w3 := by
  have hfr : Frm.Fr (fun b => b = mg ∨ b = me) w w3 := fr_maps hb1 hg2 hg3 (.inl rfl) (.inr rfl)
  have hX : ∀ b, (b = mg ∨ b = me) → Mb u me mg db dc sb b := fun b hb => hb.elim (fun e => .inr (.inl e)) .inl
  have hin := (live_in hl).1
  have hlv := live_set hin { u.of f with gone := true } u.dr
  have hgv := gn_set hin { u.of f with gone := true } u.dr
  have hnd := h.nd
  have hneg : ∀ t, u.live t = true → ¬ (sb t = mg ∨ sb t = me) := fun t ht e => h.off t ht (by rcases e with e | e <;> simp [e])
  have hold : ∀ t, (u.set f { u.of f with gone := true }).live t = true → t ≠ f ∧ u.live t = true := fun t ht => by
    have e := (hlv t).symm.trans ht
    unfold updH at e
    by_cases e2 : t = f
    · rw [if_pos e2] at e; cases e
    · rw [if_neg e2] at e; exact ⟨e2, e⟩
  have hM : ∀ b, Mb (u.set f { u.of f with gone := true }) me mg db dc sb b → Mb u me mg db dc sb b ∨ w.heap.size ≤ b := fun b hb => .inl (by
    rcases hb with e | e | e | e | ⟨t, ht, e⟩
    · exact .inl e
    · exact .inr (.inl e)
    · exact .inr (.inr (.inl e))
    · exact .inr (.inr (.inr (.inl e)))
    · exact .inr (.inr (.inr (.inr ⟨t, (hold t ht).2, e⟩))))
  have hdb : db ≠ mg ∧ db ≠ me ∧ dc ≠ mg ∧ dc ≠ me := by simp at hnd; omega
  have hdl := (Array.getElem?_eq_some_iff.1 h.dr.b).1
  have hdl2 := (Array.getElem?_eq_some_iff.1 h.dr.c).1
  refine turned hS hMi (h.turn (u' := u.set f { u.of f with gone := true }) (V' := V) (sb' := sb) hfr hX rfl rfl (h.dr.block (hfr.block db hdl (by omega)) (hfr.block dc hdl2 (by omega))) (hm3.congr hlv (fun t _ => rfl)) ?_ (fun t ht => ?_) (fun t ht => h.off t (hold t ht).2) (fun t x ht hx => h.inj t x (hold t ht).2 (hold x hx).2)) hM (fun t b ht hb => .inl (.inr (.inr ⟨t, (hold t ht).2, hb⟩))) hfr hX hr
  · refine (hm2.block (hg3.block mg hm2.lt fun e => ?_)).congr hgv fun t ht => ?_
    · have := Option.some.inj e; simp [this] at hnd
    · unfold updV verV Us.set updO
      by_cases e : t = f
      · subst e; simp
      · simp [e]
  · obtain ⟨e, h2⟩ := hold t ht
    have h3 := h.row (u' := u.set f { u.of f with gone := true }) (sb' := sb) h2 hfr hX (hneg t h2) hM
    rw [show (u.set f { u.of f with gone := true }).of t = u.of t from updO_ne e]
    exact h3
end
theorem remove_no {u : Us} {f : Tm} (h : u.live f = false) : remove u f = (u, 4) := by unfold remove; rw [if_pos h]
theorem remove_yes {u : Us} {f : Tm} (h : u.live f = true) : remove u f = (u.set f { u.of f with gone := true }, 0) := by unfold remove; rw [if_neg (by rw [h]; decide)]
set_option maxHeartbeats 4000000 in
set_option maxRecDepth 1000000 in
theorem remove_c (n : Nat) (a : Addr) (S M : Nat → Prop) (u : Us) (F : ByteArray) (w : World) (h : DU w a S M u) (f : Fine n u) (hn : n ≤ 200) (hF : F.size ≤ 10000) : Calls Tryz.prog 18 #[.pointer (some a), .string F] w (Turn DU a S M (remove u F.data.toList) w) := by
  obtain ⟨g, me, mg, db, dc, N, C, V, sb, rfl, h, hS, hM⟩ := h
  have c4 := h.c4
  have c5 := h.c5
  have hl := held_look h hF
  have HH := Lib.hid h
  have HS := Lib.hid (And.intro hS hM)
  have HFI := Lib.hid f
  clear h hS hM f
  cases hb : u.live F.data.toList with
  | false =>
    have HR := Lib.hid (remove_no hb)
    rw [hb] at hl
    simp only [Bool.false_eq_true, if_false, OV] at hl
    clear hb
    go_enter Tryz.func18, Tryz.ntmps18
    go_wp2_with fail
    go_ret
    exact stayed HS.out.1 HS.out.2 HH.out ((Below.refl _ w).alloc (Nat.le_refl _) _) HR.out
  | true =>
    have HR := Lib.hid (remove_yes hb)
    have HB := Lib.hid hb
    rw [hb] at hl
    simp only [if_true] at hl
    obtain ⟨o, f, ep, A, m, c, B, p, d, R, T, e, ss, hv, hrest⟩ := HH.out.rows _ hb
    rw [hv] at hl
    have HV := Lib.hid hv
    have glt := HH.out.g_lt
    simp only [OV] at hl
    clear hb hv hrest
    have HGN := Lib.hid (gns_nodup HFI.out)
    have HGL : Hid (u.gns.length ≤ 1000000) := Nat.le_trans (gns_len HFI.out) (by omega)
    have HAL : ∀ V T, Hid (Below w.heap.size w (w.alloc (.cells V T))) := fun V T => (Below.refl _ w).alloc (Nat.le_refl _) _
    go_enter Tryz.func18, Tryz.ntmps18
    go_wp2_with fail
    have HB1 := HAL #[.string o, .string f, .int .i64 ep, .slice A m c, .slice B p d, .int .u64 ((u.of F.data.toList).ver : Int), .string R, .slice T ss.length e, .bool false] 50
    have hx := heap_alloc_new w (.cells #[.string o, .string f, .int .i64 ep, .slice A m c, .slice B p d, .int .u64 ((u.of F.data.toList).ver : Int), .string R, .slice T ss.length e, .bool false] 50)
    generalize w.alloc (.cells #[.string o, .string f, .int .i64 ep, .slice A m c, .slice B p d, .int .u64 ((u.of F.data.toList).ver : Int), .string R, .slice T ss.length e, .bool false] 50) = w1 at HB1 hx ⊢
    have HU1 := Lib.hid (HH.out.below HB1.out)
    obtain ⟨x0, x1, x2, x3, x4, x5, x6, x7, x8, x9⟩ := bx9 (show (Frm.box _ #[_, _, _, _, _, _, _, _, _] _).P w1 from hx)
    have c4' := HU1.out.c4
    have c5' := HU1.out.c5
    clear c4 c5
    go_still_tail 7, (by kernel_rfl)
    have hnd := HU1.out.nd
    have hn4 : g ≠ mg ∧ me ≠ mg := by simp at hnd; omega
    have HN4 := Lib.hid hn4
    clear hnd hn4
    go_wp2_with (first
      | (at_mapUpdate
         refine wpList_put rfl _ _ _ rfl rfl (HU1.out.gm.block rfl) Tryz.underlying95 rfl (by omega) HGN.out (fun x => mem_gns) HGL.out rfl ?_
         intro w2 hm2 hg2 hz2
         have c4'' : w2.cell? ⟨g, 4, none⟩ = some (.map (some me)) := (World.cell?_of_block (w := w1) (w' := w2) (a := ⟨g, 4, none⟩) (hg2.block g HU1.out.g_lt fun e => HN4.out.1 (Option.some.inj e))).trans c4'
         have HME : Hid (MapIs w2 me u.live V) := HU1.out.hm.block (hg2.block me HU1.out.hm.lt fun e => HN4.out.2 (Option.some.inj e))
         have HM2 := Lib.hid hm2
         have HG2 := Lib.hid hg2
         have HZ2 := Lib.hid hz2
         clear hm2 hg2 hz2 c4' c5' x0 x1 x2 x3 x4 x5 x6 x7 x8 x9 hx)
      | (at_delete
         refine wpList_drop rfl _ _ rfl rfl HME.out Tryz.underlying94 rfl (by omega) ?_
         intro w3 hm3 hg3 hz3
         have HM3 := Lib.hid hm3
         have HG3 := Lib.hid hg3
         have HZ3 := Lib.hid hz3
         clear hm3 hg3 hz3))
    go_ret
    exact removed HH.out HS.out.1 HS.out.2 HB.out HB1.out ⟨HG2.out.os, HG2.out.tape, HG2.out.output, HG2.out.size, HG2.out.block⟩ HG3.out HM2.out HM3.out HR.out
end Go.Proofs.YtbdealddjonobaaGreat.Usr
