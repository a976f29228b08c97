/-
  A USER IN MEMORY AS PARTS OF A FRAME: what stays, the draws, the two maps, a row that is appended to. By an AI agent; no person has read it.
-/
import Derived.Test.YtbdealddjonobaaGreatUCGrant
namespace Go.Proofs.YtbdealddjonobaaGreat.Usr
open Go Go.RowKit Wire Rig Draw Frm

set_option linter.unusedVariables false
set_option linter.unusedSimpArgs false
/-- A world in which nothing is old. -/
def w00 (w : World) : World := { w with heap := #[] }
theorem fm00 (w : World) : Fm (w00 w) w [] := fm_nil ⟨rfl, rfl, rfl, Nat.zero_le _, fun b hb => absurd hb (Nat.not_lt_zero b)⟩
/-- All that was there but for blocks X. -/
def restP (X : Nat → Prop) (w : World) : Part where
  P w' := w.heap.size ≤ w'.heap.size ∧ ∀ b, b < w.heap.size → ¬ X b → w'.heap[b]? = w.heap[b]?
  S b := b < w.heap.size ∧ ¬ X b
  M _ := False
  sub _ h := h.elim
  dep hs h hb := ⟨Nat.le_trans h.1 hs, fun b h1 h2 => (hb b ⟨h1, h2⟩).trans (h.2 b h1 h2)⟩
  old h b hb := Nat.lt_of_lt_of_le hb.1 h.1
def drawP (db dc s k : Nat) : Part where
  P w := DrawAt db dc w s k
  S b := b = db ∨ b = dc
  M b := b = db
  sub _ h := .inl h
  dep _ h hb := h.block (hb _ (.inl rfl)) (hb _ (.inr rfl))
  old h b hb := by
    rcases hb with rfl | rfl
    · exact (Array.getElem?_eq_some_iff.1 h.b).1
    · exact (Array.getElem?_eq_some_iff.1 h.c).1
def mapP (mb : Nat) (H : Tm → Bool) (V : Tm → Value) : Part where
  P w := MapIs w mb H V
  S b := b = mb
  M b := b = mb
  sub _ h := h
  dep _ h hb := h.block (hb _ rfl)
  old h b hb := by rw [show b = mb from hb]; exact h.lt
def rowS (g c : Nat) (ys : List ByteArray) : Part where
  P w := w.ownsRow 0 9 1 (.slice (some ⟨g, 0, none⟩) ys.length c) ys.length (sv ys)
  S b := b = g
  M b := b = g
  sub _ h := h
  dep _ h hs := ownsRow_move h fun b hb => by
    obtain rfl : g = b := Option.some.inj hb
    exact hs _ rfl
  old h b e := by
    subst e
    exact (World.ownsRow.lt h _ rfl).2
theorem rest_fr {X : Nat → Prop} {w w' : World} {l : List Part} (h : Fm (w00 w) w' l) (i : Nat) (hi : l[i]? = some (restP X w)) : Frm.Fr X w w' :=
  ⟨h.bel.os, h.bel.tape, h.bel.output, (h.at i hi).1, fun b h1 h2 => (h.at i hi).2 b h1 h2⟩
section
variable {g me mg db dc : Nat} {N C : ByteArray} {V : Tm → Value} {sb : Tm → Nat} {w : World} {u : Us}
def X3 (me mg db b : Nat) : Prop := b = me ∨ b = mg ∨ b = db
def X4 (me mg db sf b : Nat) : Prop := b = me ∨ b = mg ∨ b = db ∨ b = sf
theorem user_fm (h : UserAt g me mg db dc N C V sb w u) : Fm (w00 w) w [drawP db dc u.sd u.dr, mapP me u.live V, mapP mg u.gn (verV u), restP (X3 me mg db) w] := by
  have hnd := h.nd
  have hne : me ≠ mg ∧ db ≠ me ∧ db ≠ mg ∧ dc ≠ me ∧ dc ≠ mg ∧ db ≠ dc := by simp at hnd; omega
  have hz : ∀ b, (w00 w).heap.size ≤ b := fun b => Nat.zero_le _
  refine ((((fm00 w).add (p := restP (X3 me mg db) w) ⟨Nat.le_refl _, fun _ _ _ => rfl⟩ (fun b h => h.elim) (fun q hq => (List.not_mem_nil hq).elim)).add (p := mapP mg u.gn (verV u)) h.gm (fun b _ => hz b) ?_).add (p := mapP me u.live V) h.hm (fun b _ => hz b) ?_).add (p := drawP db dc u.sd u.dr) h.dr (fun b _ => hz b) ?_
  · intro q hq
    rw [List.mem_singleton.1 hq]
    exact fun b => ⟨fun h2 => h2.2.2 (.inr (.inl h2.1)), fun h2 => h2.2⟩
  · intro q hq
    simp only [List.mem_cons, List.not_mem_nil, or_false] at hq
    rcases hq with rfl | rfl
    · exact fun b => ⟨fun h2 => hne.1 (Eq.trans (Eq.symm h2.1) h2.2), fun h2 => hne.1 (Eq.trans (Eq.symm h2.1) h2.2)⟩
    · exact fun b => ⟨fun h2 => h2.2.2 (.inl h2.1), fun h2 => h2.2⟩
  · intro q hq
    simp only [List.mem_cons, List.not_mem_nil, or_false] at hq
    rcases hq with rfl | rfl | rfl
    · refine fun b => ⟨fun h2 => hne.2.1 (Eq.trans (Eq.symm h2.1) h2.2), fun h2 => ?_⟩
      have e : b = me := h2.2
      rcases h2.1 with e2 | e2
      · exact hne.2.1 (e2.symm.trans e)
      · exact hne.2.2.2.1 (e2.symm.trans e)
    · refine fun b => ⟨fun h2 => hne.2.2.1 (Eq.trans (Eq.symm h2.1) h2.2), fun h2 => ?_⟩
      have e : b = mg := h2.2
      rcases h2.1 with e2 | e2
      · exact hne.2.2.1 (e2.symm.trans e)
      · exact hne.2.2.2.2.1 (e2.symm.trans e)
    · exact fun b => ⟨fun h2 => h2.2.2 (.inr (.inr h2.1)), fun h2 => h2.2⟩
/-- The same, with the row of a file's signers. -/
theorem user_fm4 (h : UserAt g me mg db dc N C V sb w u) {F : Tm} (hl : u.live F = true) {e : Nat} {ss : List ByteArray} (hrow : w.ownsRow 0 9 1 (.slice (some ⟨sb F, 0, none⟩) ss.length e) ss.length (sv ss)) : Fm (w00 w) w [rowS (sb F) e ss, drawP db dc u.sd u.dr, mapP me u.live V, mapP mg u.gn (verV u), restP (X4 me mg db (sb F)) w] := by
  have h3 := user_fm h
  have ho := h.off F hl
  have hne : sb F ≠ me ∧ sb F ≠ mg ∧ sb F ≠ db ∧ sb F ≠ dc := by simp at ho; omega
  have h4 : Fm (w00 w) w [drawP db dc u.sd u.dr, mapP me u.live V, mapP mg u.gn (verV u), restP (X4 me mg db (sb F)) w] := by
    refine ⟨h3.bel, fun p hp => ?_, ?_⟩
    · simp only [List.mem_cons, List.not_mem_nil, or_false] at hp
      rcases hp with rfl | rfl | rfl | rfl
      · exact h3.all _ (by simp)
      · exact h3.all _ (by simp)
      · exact h3.all _ (by simp)
      · exact ⟨⟨Nat.le_refl _, fun _ _ _ => rfl⟩, fun b h => h.elim⟩
    · have hd := h3.dis
      simp only [List.pairwise_cons, List.mem_cons, List.not_mem_nil, or_false, forall_eq_or_imp, forall_eq, List.Pairwise.nil, and_true] at hd ⊢
      obtain ⟨⟨a1, a2, a3⟩, ⟨b1, b2⟩, c1, _⟩ := hd
      have hr : ∀ p : Part, Apart p (restP (X3 me mg db) w) → Apart p (restP (X4 me mg db (sb F)) w) := fun p ha b => ⟨fun h2 => (ha b).1 ⟨h2.1, h2.2.1, fun hx => h2.2.2 (hx.imp_right (.imp_right .inl))⟩, fun h2 => h2.2⟩
      exact ⟨⟨a1, a2, hr _ a3⟩, ⟨b1, hr _ b2⟩, hr _ c1, fun _ h => h.elim⟩
  refine h4.add (p := rowS (sb F) e ss) hrow (fun b _ => Nat.zero_le _) fun q hq => ?_
  simp only [List.mem_cons, List.not_mem_nil, or_false] at hq
  rcases hq with rfl | rfl | rfl | rfl
  · refine fun b => ⟨fun h2 => ?_, fun h2 => hne.2.2.1 (Eq.trans (Eq.symm h2.1) h2.2)⟩
    have e : b = sb F := h2.1
    rcases h2.2 with e2 | e2
    · exact hne.2.2.1 (e.symm.trans e2)
    · exact hne.2.2.2 (e.symm.trans e2)
  · exact fun b => ⟨fun h2 => hne.1 (Eq.trans (Eq.symm h2.1) h2.2), fun h2 => hne.1 (Eq.trans (Eq.symm h2.1) h2.2)⟩
  · exact fun b => ⟨fun h2 => hne.2.1 (Eq.trans (Eq.symm h2.1) h2.2), fun h2 => hne.2.1 (Eq.trans (Eq.symm h2.1) h2.2)⟩
  · exact fun b => ⟨fun h2 => h2.2.2 (.inr (.inr (.inr h2.1))), fun h2 => h2.2⟩
variable {X : Nat → Prop} {w0 w1 : World} {l : List Part}
theorem rest_cell (h : UserAt g me mg db dc N C V sb w u) (hX : ∀ b, X b → Mb u me mg db dc sb b) (hr : (restP X w).P w1) (j : Nat) : w1.cell? ⟨g, j, none⟩ = w.cell? ⟨g, j, none⟩ :=
  World.cell?_of_block (a := ⟨g, j, none⟩) (hr.2 g h.g_lt fun hx => h.g_no (hX g hx))
theorem x3_mb : ∀ b, X3 me mg db b → Mb u me mg db dc sb b := fun b h => h.elim .inl fun h => h.elim (fun h => .inr (.inl h)) fun h => .inr (.inr (.inl h))
theorem x4_mb {F : Tm} (hl : u.live F = true) : ∀ b, X4 me mg db (sb F) b → Mb u me mg db dc sb b := fun b h => h.elim .inl fun h => h.elim (fun h => .inr (.inl h)) fun h => h.elim (fun h => .inr (.inr (.inl h))) fun h => .inr (.inr (.inr (.inr ⟨F, hl, h.symm⟩)))
theorem isX_rest {o f : ByteArray} {ep : Int} {A : Option Addr} {n c : Nat} {B : Option Addr} {m d : Nat} {r : Rt} (hX : ∀ b, X b → Mb u me mg db dc sb b) (hr : (restP X w).P w1) (h : IsX (fun b => ¬ Mb u me mg db dc sb b) w (RV o f ep A n c B m d) r) : IsX (fun b => ¬ Mb u me mg db dc sb b) w1 (RV o f ep A n c B m d) r :=
  isX_move h (fun b off e h0 => have h2 := isX_in h (.inl ⟨h0, off, e⟩); hr.2 b h2.2 fun hx => h2.1 (hX b hx)) (fun b off e h0 => have h2 := isX_in h (.inr ⟨h0, off, e⟩); hr.2 b h2.2 fun hx => h2.1 (hX b hx))
theorem secret_fm (h : Fm w0 w1 l) (i j : Nat) (hi : l[i]? = some (restP X w)) {k : Nat} (hj : l[j]? = some (drawP db dc u.sd k)) (hu : UserAt g me mg db dc N C V sb w u) (hX : ∀ b, X b → Mb u me mg db dc sb b) (hk : k ≤ 1000000) (hn : nm u.nm = true) (U F : ByteArray) (hF : nm F.data.toList = true) (hU : U.size ≤ 1000) :
    Calls Tryz.prog 57 #[.pointer (some ⟨g, 0, none⟩), .string U, .string F] w1 fun e w' => ∃ T : ByteArray, e = .returned (.string T) ∧ T.data.toList = u.sc U.data.toList F.data.toList k ∧ Fm w0 w' (l.set j (drawP db dc u.sd (k + 1))) :=
  (secretFor_c g db dc u.sd k N U F w1 ((rest_cell hu hX (h.at i hi) 0).trans hu.c0) ((rest_cell hu hX (h.at i hi) 3).trans hu.c3) (h.at j hj) hk (by rw [hu.hN]; exact hn) hF hU).mono fun e w' t => by
    obtain ⟨⟨T, h1, rfl⟩, h2, h3⟩ := t
    refine ⟨T, rfl, ?_, h.turn j hj ⟨h3.os, h3.tape, h3.output, h3.size, h3.block⟩ h2 (fun b hb => .inl hb) (fun b hb => .inl hb)⟩
    rw [h1, hu.hN]
    rfl
end
theorem rit_lo {w0 w w' : World} {l : List Part} (h : Fm w0 w l) (lo : Nat) (hlo : w0.heap.size ≤ lo ∧ lo ≤ w.heap.size) (hb : Below w.heap.size w w') {v : Value} {r : Rt} (hx : IsX (fun b => w.heap.size ≤ b) w' v r) : ∃ o f A c B d, v = .agg #[.string o, .string f, .int .i64 r.ep, .slice A r.rs.length c, .slice B r.ws.length d] ∧ Fm w0 w' (ritP lo o f r.ep A r.rs.length c B r.ws.length d r :: l) := by
  obtain ⟨o, f, ep, A, n, c, B, m, d, rfl, rfl, rfl, rfl, _, _, h2⟩ := isX_lit hx
  exact ⟨o, f, A, c, B, d, rfl, h.new hb (p := ritP lo o f r.ep A r.rs.length c B r.ws.length d r) (h2.mono fun b _ hb => Nat.le_trans hlo.2 hb) (fun b hb => (isX_in h2 hb).1) (fun b hb => hb.elim)⟩
/-- A row in a frame, appended to by one text. -/
theorem fmS_append {w0 w : World} {l : List Part} {g c : Nat} {ys : List ByteArray} (i : Nat) (hi : l[i]? = some (rowS g c ys)) (h : Fm w0 w l) {o : Oper} {a : Act} {K : Act → World → Prop} {Q : Exit → Act → World → Prop} (s x : Operand)
    (ho : o.op = .call { callee := .builtin .append, args := #[s, x], argTypes := #[44, 44] }) (z : ByteArray) (gl cc : Nat) (hs : a.eval s = .slice (some ⟨g, 0, none⟩) ys.length c) (hx : a.eval x = .slice (some ⟨gl, 0, none⟩) 1 cc) (hr : w.cell? ⟨gl, 0, none⟩ = some (.string z)) (hlen : ys.length + 1 ≤ 1000)
    (k : ∀ g' c' w', (g' = g ∨ w.heap.size ≤ g') → Fm w0 w' (l.set i (rowS g' c' (ys ++ [z]))) → K (a.put o.dst (.slice (some ⟨g', 0, none⟩) (ys.length + 1) c')) w') : o.wp Tryz.prog a w K Q := by
  obtain ⟨i0, hi0, hz0, hz1, hz2⟩ := info_parts str_info
  have hown : w.ownsRow 0 9 1 (.slice (some ⟨g, 0, none⟩) ys.length c) ys.length (sv ys) := h.at i hi
  refine wp_append_lies w s x 44 ho 0 9 i0 _ 1 16 Tryz.underlying44 hi0 hz0 hz1 hz2 rfl (by decide) (.slice (some ⟨g, 0, none⟩) ys.length c) ys.length (sv ys) hs hown ⟨gl, 0, none⟩ 1 cc [.string z] hx (by simp) ?_ (sv_one [z]) (by decide) (by simp only [maxLen]; omega) (by omega) (Nat.zero_le _) _ rfl ?_
  · intro j v hj
    have hj0 : j = 0 := by have := (List.getElem?_eq_some_iff.1 hj).1; simp at this; exact this
    subst hj0
    simp at hj
    subst hj
    exact hr
  · intro g' c' w' hown' hgr hat _
    have hgg : g' = g ∨ w.heap.size ≤ g' := by
      rcases hat with h2 | h2
      · exact .inl (Option.some.inj h2).symm
      · exact .inr (by omega)
    refine k g' c' w' hgg (h.turn i hi ⟨hgr.os, hgr.tape, hgr.output, hgr.size, fun b hb hne => hgr.block b hb fun e => hne (Option.some.inj e)⟩ (show w'.ownsRow 0 9 1 (.slice (some ⟨g', 0, none⟩) (ys ++ [z]).length c') (ys ++ [z]).length (sv (ys ++ [z])) by rw [List.length_append]; simpa [sv] using hown') (fun b hb => ?_) (fun b hb => ?_))
    · rw [show b = g' from hb]
      exact hgg
    · rw [show b = g' from hb]
      exact hgg
end Go.Proofs.YtbdealddjonobaaGreat.Usr
