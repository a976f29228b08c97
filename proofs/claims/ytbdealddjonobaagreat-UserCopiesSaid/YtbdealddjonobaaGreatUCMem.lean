/-
  WHAT THE LANDED CODE's USER IS IN MEMORY: six cells, draws, a map of what is held, a map of what is gone; whose block is whose. By an AI agent; no person has read it.
-/
import Derived.Test.YtbdealddjonobaaGreatUSpec
import Derived.Test.YtbdealddjonobaaGreatUMap
import Derived.Test.YtbdealddjonobaaGreatD2
import Derived.Test.YtbdealddjonobaaGreatH1
namespace Go.Proofs.YtbdealddjonobaaGreat.Usr
open Go Go.RowKit Wire Rig Draw Frm

set_option linter.unusedVariables false
/-- A value of the map of what is held: its rights' lists in blocks of kind ok, its signers a row of its own in block b. -/
def HeldAt (w : World) (v : Value) (b : Nat) (x : Ow) (ok : Nat → Prop) : Prop :=
  ∃ (o f : ByteArray) (ep : Int) (A : Option Addr) (n c : Nat) (B : Option Addr) (m d : Nat) (R : ByteArray) (S : Option Addr) (e : Nat) (ss : List ByteArray),
    v = .agg (OV o f ep A n c B m d (x.ver : Int) R S ss.length e false).toArray ∧ IsX ok w (RV o f ep A n c B m d) x.r ∧ R.data.toList = x.root ∧ bl ss = x.sg ∧ x.gone = false ∧ w.ownsRow 0 9 1 (.slice S ss.length e) ss.length (sv ss) ∧ (Value.slice S ss.length e).ownBlock = some b
theorem HeldAt.lt {w : World} {v : Value} {b : Nat} {x : Ow} {ok : Nat → Prop} (h : HeldAt w v b x ok) : b < w.heap.size := by
  obtain ⟨o, f, ep, A, n, c, B, m, d, R, S, e, ss, _, _, _, _, _, h6, h7⟩ := h
  exact (h6.lt b h7).2
/-- The blocks that a value's lists lie in. -/
def Bv (v : Value) (b : Nat) : Prop := ∃ vs : List Value, v = .agg vs.toArray ∧ Bk vs b
theorem sreads_move {w w' : World} {A : Option Addr} {ys : List ByteArray} (h : SReads w A ys) (hb : ∀ b off, A = some ⟨b, off, none⟩ → 0 < ys.length → w'.heap[b]? = w.heap[b]?) : SReads w' A ys := fun j hj => by
  obtain ⟨b, off, e, hlt, hc⟩ := h j hj
  have hk := hb b off e (by omega)
  refine ⟨b, off, e, ?_, (World.cell?_of_block (a := ⟨b, off + j, none⟩) hk).trans hc⟩
  have h1 : w'.heap[b]? ≠ none := by rw [hk, Array.getElem?_eq_getElem hlt]; simp
  exact Classical.byContradiction fun h2 => h1 (Array.getElem?_eq_none (by omega))
theorem isX_move {ok : Nat → Prop} {w w' : World} {o f : ByteArray} {ep : Int} {A : Option Addr} {n c : Nat} {B : Option Addr} {m d : Nat} {r : Rt} (h : IsX ok w (RV o f ep A n c B m d) r)
    (hA : ∀ b off, A = some ⟨b, off, none⟩ → 0 < n → w'.heap[b]? = w.heap[b]?) (hB : ∀ b off, B = some ⟨b, off, none⟩ → 0 < m → w'.heap[b]? = w.heap[b]?) : IsX ok w' (RV o f ep A n c B m d) r := by
  obtain ⟨o', f', A', c', rs, B', d', ws, h1, h2, h3, h4, h5, h6, h7, h8⟩ := h
  unfold RV at h1
  injection h1 with h1
  simp only [Array.mk.injEq, List.cons.injEq, Value.string.injEq, Value.int.injEq, Value.slice.injEq, and_true, true_and] at h1
  obtain ⟨rfl, rfl, rfl, ⟨rfl, rfl, rfl⟩, rfl, rfl, rfl⟩ := h1
  exact ⟨o, f, A, c, rs, B, d, ws, rfl, h2, sreads_move h3 hA, sreads_move h4 hB, h5, h6, h7, h8⟩
theorem ownsRow_move {w w' : World} {base n : Nat} {T : TypeId} {v : Value} {zs : List Value} (h : w.ownsRow base T 1 v n zs) (hb : ∀ b, v.ownBlock = some b → w'.heap[b]? = w.heap[b]?) : w'.ownsRow base T 1 v n zs := by
  refine ⟨h.1, ?_⟩
  rcases h.2 with h1 | ⟨x, cap, cur, rfl, a1, a2, a3⟩
  · exact .inl h1
  · exact .inr ⟨x, cap, cur, rfl, a1, (hb x rfl).trans a2, a3⟩
theorem HeldAt.move {w w' : World} {v : Value} {b : Nat} {x : Ow} {ok : Nat → Prop} (h : HeldAt w v b x ok) (hb : ∀ j, Bv v j → w'.heap[j]? = w.heap[j]?) (hs : w'.heap[b]? = w.heap[b]?) : HeldAt w' v b x ok := by
  obtain ⟨o, f, ep, A, n, c, B, m, d, R, S, e, ss, rfl, h2, h3, h4, h5, h6, h7⟩ := h
  refine ⟨o, f, ep, A, n, c, B, m, d, R, S, e, ss, rfl, isX_move h2 (fun b off e h0 => hb b ⟨_, rfl, off, n, c, by simp [OV, e], h0⟩) (fun b off e h0 => hb b ⟨_, rfl, off, m, d, by simp [OV, e], h0⟩), h3, h4, h5, ownsRow_move h6 fun j hj => ?_, h7⟩
  obtain rfl : b = j := Option.some.inj (h7.symm.trans hj)
  exact hs
theorem HeldAt.mono {w : World} {v : Value} {b : Nat} {x : Ow} {ok ok' : Nat → Prop} (h : HeldAt w v b x ok) (hk : ∀ j, j < w.heap.size → ok j → ok' j) : HeldAt w v b x ok' := by
  obtain ⟨o, f, ep, A, n, c, B, m, d, R, S, e, ss, h1, h2, h3⟩ := h
  exact ⟨o, f, ep, A, n, c, B, m, d, R, S, e, ss, h1, h2.mono hk, h3⟩
/-- The draws' two blocks. -/
structure DrawAt (db dc : Nat) (w : World) (s k : Nat) : Prop where
  ne : db ≠ dc
  b : w.heap[db]? = some (.cells #[.func (.func 86) #[] #[.pointer (some ⟨dc, 0, none⟩)], .int .i64 (k : Int)] 133)
  c : w.heap[dc]? = some (.cells #[.int .u64 (s : Int)] 22)
def Us.gn (u : Us) (t : Tm) : Bool := decide (t ∈ u.ns) && (u.of t).gone
def Us.gns (u : Us) : List Tm := u.ns.filter u.gn
def verV (u : Us) (t : Tm) : Value := .int .u64 ((u.of t).ver : Int)
/-- The blocks that are written. -/
def Mb (u : Us) (me mg db dc : Nat) (sb : Tm → Nat) (b : Nat) : Prop := b = me ∨ b = mg ∨ b = db ∨ b = dc ∨ ∃ t, u.live t = true ∧ sb t = b
structure UserAt (g me mg db dc : Nat) (N C : ByteArray) (V : Tm → Value) (sb : Tm → Nat) (w : World) (u : Us) : Prop where
  c0 : w.cell? ⟨g, 0, none⟩ = some (.string N)
  c1 : w.cell? ⟨g, 1, none⟩ = some (.string C)
  c2 : w.cell? ⟨g, 2, none⟩ = some (.int .u64 (u.sd : Int))
  c3 : w.cell? ⟨g, 3, none⟩ = some (.pointer (some ⟨db, 0, none⟩))
  c4 : w.cell? ⟨g, 4, none⟩ = some (.map (some me))
  c5 : w.cell? ⟨g, 5, none⟩ = some (.map (some mg))
  hN : N.data.toList = u.nm
  hC : C.data.toList = u.sec
  dr : DrawAt db dc w u.sd u.dr
  hm : MapIs w me u.live V
  gm : MapIs w mg u.gn (verV u)
  rows : ∀ t, u.live t = true → HeldAt w (V t) (sb t) (u.of t) (fun b => ¬ Mb u me mg db dc sb b)
  nd : [g, me, mg, db, dc].Nodup
  off : ∀ t, u.live t = true → sb t ∉ [g, me, mg, db, dc]
  inj : ∀ t x, u.live t = true → u.live x = true → sb t = sb x → t = x
def Sb (u : Us) (g me mg db dc : Nat) (V : Tm → Value) (sb : Tm → Nat) (b : Nat) : Prop := b = g ∨ Mb u me mg db dc sb b ∨ ∃ t, u.live t = true ∧ Bv (V t) b
/-- The landed code's user. -/
def DU : UPred := fun w a S M u => ∃ g me mg db dc N C V sb, a = ⟨g, 0, none⟩ ∧ UserAt g me mg db dc N C V sb w u ∧ (∀ b, S b ↔ Sb u g me mg db dc V sb b) ∧ ∀ b, M b ↔ Mb u me mg db dc sb b
theorem HeldAt.old {w : World} {v : Value} {b : Nat} {x : Ow} {ok : Nat → Prop} (h : HeldAt w v b x ok) {j : Nat} (hj : Bv v j) : j < w.heap.size := by
  obtain ⟨o, f, ep, A, n, c, B, m, d, R, S, e, ss, rfl, h2, h3, h4, h5, h6, h7⟩ := h
  obtain ⟨o', f', A', c', rs, B', d', ws, h1, _, h8, h9, _⟩ := h2
  unfold RV at h1
  injection h1 with h1
  simp only [Array.mk.injEq, List.cons.injEq, Value.string.injEq, Value.int.injEq, Value.slice.injEq, and_true, true_and] at h1
  obtain ⟨rfl, rfl, rfl, ⟨rfl, rfl, rfl⟩, rfl, rfl, rfl⟩ := h1
  obtain ⟨vs, e1, off, q, cc, hm, h0⟩ := hj
  have e2 : vs = OV o f x.r.ep A rs.length c B ws.length d (x.ver : Int) R S ss.length e false := by
    injection e1 with e1
    exact (Array.mk.inj e1).symm
  subst e2
  simp only [OV, List.mem_cons, reduceCtorEq, Value.slice.injEq, List.not_mem_nil, or_false, false_or] at hm
  rcases hm with ⟨e1, e2, _⟩ | ⟨e1, e2, _⟩ | ⟨e1, e2, _⟩
  · exact sreads_lt h8 e1.symm (by omega)
  · exact sreads_lt h9 e1.symm (by omega)
  · have h10 := h7
    rw [← e1, ← e2] at h7
    refine (h6.lt j ?_).2
    have := h6.2
    rcases this with ⟨h11, h12⟩ | ⟨x', cap, cur, h11, _⟩
    · rw [h11] at h10; cases h10
    · rw [← e1, ← e2] at h11 ⊢
      injection h11 with h11
      injection h11 with h11
      injection h11 with h11 h12
      subst h11 h12
      rfl
section
variable {g me mg db dc : Nat} {N C : ByteArray} {V : Tm → Value} {sb : Tm → Nat} {w : World} {u : Us}
theorem UserAt.g_lt (h : UserAt g me mg db dc N C V sb w u) : g < w.heap.size := World.block_lt_of_cell? w _ h.c0
theorem UserAt.m_lt (h : UserAt g me mg db dc N C V sb w u) {b : Nat} (hb : Mb u me mg db dc sb b) : b < w.heap.size := by
  rcases hb with rfl | rfl | rfl | rfl | ⟨t, ht, rfl⟩
  · exact h.hm.lt
  · exact h.gm.lt
  · exact (Array.getElem?_eq_some_iff.1 h.dr.b).1
  · exact (Array.getElem?_eq_some_iff.1 h.dr.c).1
  · exact (h.rows t ht).lt
theorem UserAt.old (h : UserAt g me mg db dc N C V sb w u) {b : Nat} (hb : Sb u g me mg db dc V sb b) : b < w.heap.size := by
  rcases hb with rfl | hb | ⟨t, ht, hb⟩
  · exact h.g_lt
  · exact h.m_lt hb
  · exact (h.rows t ht).old hb
theorem UserAt.keep (h : UserAt g me mg db dc N C V sb w u) {w' : World} (hb : ∀ b, Sb u g me mg db dc V sb b → w'.heap[b]? = w.heap[b]?) : UserAt g me mg db dc N C V sb w' u := by
  have hg := hb g (.inl rfl)
  exact ⟨(World.cell?_of_block (a := ⟨g, 0, none⟩) hg).trans h.c0, (World.cell?_of_block (a := ⟨g, 1, none⟩) hg).trans h.c1, (World.cell?_of_block (a := ⟨g, 2, none⟩) hg).trans h.c2, (World.cell?_of_block (a := ⟨g, 3, none⟩) hg).trans h.c3, (World.cell?_of_block (a := ⟨g, 4, none⟩) hg).trans h.c4, (World.cell?_of_block (a := ⟨g, 5, none⟩) hg).trans h.c5, h.hN, h.hC,
    ⟨h.dr.ne, (hb db (.inr (.inl (.inr (.inr (.inl rfl)))))).trans h.dr.b, (hb dc (.inr (.inl (.inr (.inr (.inr (.inl rfl))))))).trans h.dr.c⟩, h.hm.block (hb me (.inr (.inl (.inl rfl)))), h.gm.block (hb mg (.inr (.inl (.inr (.inl rfl))))),
    fun t ht => (h.rows t ht).move (fun j hj => hb j (.inr (.inr ⟨t, ht, hj⟩))) (hb _ (.inr (.inl (.inr (.inr (.inr (.inr ⟨t, ht, rfl⟩))))))), h.nd, h.off, h.inj⟩
theorem UserAt.below (h : UserAt g me mg db dc N C V sb w u) {w' : World} (hb : Below w.heap.size w w') : UserAt g me mg db dc N C V sb w' u := h.keep fun b hx => hb.block b (h.old hx)
/-- The written blocks, as a list. -/
def mbl (u : Us) (me mg db dc : Nat) (sb : Tm → Nat) : List Nat := me :: mg :: db :: dc :: u.lives.map sb
theorem mem_lives {u : Us} {t : Tm} : t ∈ u.lives ↔ u.live t = true := by
  unfold Us.lives Us.live
  rw [List.mem_filter]
  constructor
  · intro h; exact h.2
  · intro h; exact ⟨(live_in h).1, h⟩
theorem mem_mbl {b : Nat} : b ∈ mbl u me mg db dc sb ↔ Mb u me mg db dc sb b := by
  unfold mbl Mb
  simp only [List.mem_cons, List.mem_map, mem_lives]
theorem lives_nodup {n : Nat} (f : Fine n u) : u.lives.Nodup := f.one.filter _
theorem mem_gns {t : Tm} : t ∈ u.gns ↔ u.gn t = true := by
  unfold Us.gns Us.gn
  rw [List.mem_filter]
  constructor
  · intro h; exact h.2
  · intro h; exact ⟨by simp at h; exact h.1, h⟩
theorem gns_nodup {n : Nat} (f : Fine n u) : u.gns.Nodup := f.one.filter _
theorem gns_len {n : Nat} (f : Fine n u) : u.gns.length ≤ n := Nat.le_trans (List.length_filter_le _ _) f.few
end
theorem du_old : ∀ {w : World} {a : Addr} {S M : Nat → Prop} {u : Us}, DU w a S M u → ∀ b, S b → b < w.heap.size := fun {w a S M u} h b hb => by
  obtain ⟨g, me, mg, db, dc, N, C, V, sb, _, h, hS, _⟩ := h
  exact h.old ((hS b).1 hb)
theorem du_sub : ∀ {w : World} {a : Addr} {S M : Nat → Prop} {u : Us}, DU w a S M u → ∀ b, M b → S b := fun {w a S M u} h b hb => by
  obtain ⟨g, me, mg, db, dc, N, C, V, sb, _, h, hS, hM⟩ := h
  exact (hS b).2 (.inr (.inl ((hM b).1 hb)))
theorem du_keep : ∀ {w w' : World} {a : Addr} {S M : Nat → Prop} {u : Us}, w.heap.size ≤ w'.heap.size → DU w a S M u → (∀ b, S b → w'.heap[b]? = w.heap[b]?) → DU w' a S M u := fun {w w' a S M u} _ h hk => by
  obtain ⟨g, me, mg, db, dc, N, C, V, sb, e, h, hS, hM⟩ := h
  exact ⟨g, me, mg, db, dc, N, C, V, sb, e, h.keep fun b hb => hk b ((hS b).2 hb), hS, hM⟩
end Go.Proofs.YtbdealddjonobaaGreat.Usr
