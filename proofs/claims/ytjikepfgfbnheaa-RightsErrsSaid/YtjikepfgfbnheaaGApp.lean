/-
  A ROW OF TEXTS APPENDED to a row of one's own; one cell of a variable that holds rights changed. By an AI agent; no person has read it.
-/
import Derived.Test.YtjikepfgfbnheaaGTo
import Derived.Laws.AppendOwnNone
namespace Go.Proofs.Ytjikepfgfbnheaa.Rig
open Go.RowKit Wire

theorem own_empty (w : World) : (w.alloc (.cells #[] 9)).ownsRow w.heap.size 9 1 (.slice (some ⟨w.heap.size, 0, none⟩) 0 0) 0 (sv []) := by
  have := World.ownsRow_lit (base := w.heap.size) (e := 9) (size := 1) w #[] 0 (Nat.le_refl _) (by decide) (by decide)
  simpa [sv] using this
theorem own_empty_at (w : World) (g : Nat) (hg : g = w.heap.size) : (w.alloc (.cells #[] 9)).ownsRow w.heap.size 9 1 (.slice (some ⟨g, 0, none⟩) 0 0) 0 (sv []) := by
  subst hg; exact own_empty w
theorem own_lit (w : World) (ys : List ByteArray) (n : Nat) (hn : n = ys.length) (h : n ≤ 100) : (w.alloc (.cells (sv ys).toArray 9)).ownsRow w.heap.size 9 1 (.slice (some ⟨w.heap.size, 0, none⟩) n n) n (sv ys) := by
  subst hn
  have := World.ownsRow_lit (base := w.heap.size) (e := 9) (size := 1) w (sv ys).toArray ys.length (Nat.le_refl _) (by unfold maxLen; omega) (by simp [sv])
  simpa using this
/-- 'append(own, others...)', the others nil or not: an own row of both; below the base all stands. -/
theorem append_strs {w : World} {ops : Array Oper} {rest : List Oper} {o : Oper} {a : Act} {Q : Exit → Act → World → Prop} (hgd : o.guard = none) (s x : Operand)
    (ho : o.op = .call { callee := .builtin .append, args := #[s, x], argTypes := #[22, 22] }) (base : Nat)
    (v : Value) (k : Nat) (xs zs : List ByteArray) (hs : a.eval s = v) (hown : w.ownsRow base 9 1 v k (sv xs)) (hk : k = xs.length)
    (b : Option Addr) (n c : Nat) (hx : a.eval x = .slice b n c) (hn : n = zs.length) (hnil : b = none → c = 0) (hr : SReads w b zs)
    (hlen : k + zs.length ≤ 1000) (hbase : base ≤ w.heap.size)
    (h : ∀ v' w', w'.ownsRow base 9 1 v' (k + n) (sv (xs ++ zs)) → Below base w w' → wpList Try.prog ops Q rest (a.put o.dst v') w') : wpList Try.prog ops Q (o :: rest) a w := by
  obtain ⟨i0, hi0, hz0, hz1, hz2⟩ := info_parts str_info
  subst hn
  cases b with
  | none =>
    have hz : zs = [] := by
      cases zs with
      | nil => rfl
      | cons z t => obtain ⟨_, _, he, _⟩ := hr 0 (by simp); cases he
    subst hz
    rw [hnil rfl] at hx
    refine wpList_append_own_none hgd s x 22 ho base 9 i0 1 Try.underlying22 hi0 v k (sv xs) hs hown hx ?_
    exact h v w (by simpa [sv] using hown) (Below.refl _ _)
  | some ad =>
    refine wpList_append_own _ hgd s x 22 ho base 9 i0 _ 1 16 Try.underlying22 hi0 hz0 hz1 hz2 rfl (by decide) v k (sv xs) hs hown ad zs.length c (sv zs) hx (by simp [sv]) ?_ (sv_one zs) (by simp only [maxLen]; omega) (by omega) hbase ?_
    · intro j u hj
      have hjl : j < zs.length := by have := (List.getElem?_eq_some_iff.1 hj).1; simpa [sv] using this
      obtain ⟨b', o', he, _, hc⟩ := hr j hjl
      obtain rfl := Option.some.inj he
      have hu : u = .string (zs.getD j ByteArray.empty) := by
        simp [sv, hjl] at hj
        rw [← hj]; simp [List.getD, hjl]
      rw [hu, show ((⟨b', o', none⟩ : Addr).add j) = ⟨b', o' + j, none⟩ from by unfold Addr.add; split <;> simp_all]
      exact hc
    · intro v' w' hown' hgrow _
      exact h v' w' (by simpa [sv] using hown') (Below.grown (Below.refl _ _) hgrow hbase fun q hq => (hown.lt q hq).1)
/-- A row of one's own, as a part of rights. -/
theorem own_part {w : World} {base : Nat} {v : Value} {k : Nat} {ys : List ByteArray} (h : w.ownsRow base 9 1 v k (sv ys)) : ∃ A c, v = .slice A k c ∧ k = ys.length ∧ SReads w A ys ∧ (k ≤ c ∧ (A = none → c = 0)) ∧ ∀ b off, A = some ⟨b, off, none⟩ → base ≤ b := by
  obtain ⟨A, c, rfl⟩ := own_value h
  obtain ⟨h1, h2, h3⟩ := sreads_own h
  exact ⟨A, c, rfl, h2.symm, h1, ⟨h3, own_none h⟩, own_fresh h⟩
section
variable {gs : List Nat} {g : Nat} {w : World} {o f : ByteArray} {ep : Int} {A : Option Addr} {n c : Nat} {B : Option Addr} {m d : Nat} {r r' : Rt}
theorem sreads_off {A : Option Addr} {ys : List ByteArray} {j : Nat} {v : Value} (hG : g ∈ gs) (h : SReads w A ys) (hk : ∀ b off, A = some ⟨b, off, none⟩ → 0 < ys.length → Off gs b) : SReads (w.setCell ⟨g, j, none⟩ v) A ys :=
  sreads_setL h fun b off e h0 e2 => by subst e2; exact hk b off e h0 hG
theorem isX_set1 {j : Nat} {v u : Value} (hG : g ∈ gs) (h : IsX (Off gs) w v r) : IsX (Off gs) (w.setCell ⟨g, j, none⟩ u) v r := by
  obtain ⟨o, f, A, c, rs, B', d, ws, h1, h2, h3, h4, h5, h6, h7, h8⟩ := h
  exact ⟨o, f, A, c, rs, B', d, ws, h1, h2, sreads_off hG h3 h7, sreads_off hG h4 h8, h5, h6, h7, h8⟩
theorem sf_set1 {j : Nat} {u : Value} (h : Sf g w) : Sf g (w.setCell ⟨g, j, none⟩ u) := by
  obtain ⟨f0, f1, f2, f3, f4⟩ := h
  exact ⟨by simpa using f0, by simpa using f1, by simpa using f2, by simpa using f3, by simpa using f4⟩
theorem hold_set0 {o' : ByteArray} (hG : g ∈ gs) (h : HoldL gs g w o f ep A n c B m d r) (hx : IsX (Off gs) w (.agg #[.string o', .string f, .int .i64 ep, .slice A n c, .slice B m d]) r') : HoldL gs g (w.setCell ⟨g, 0, none⟩ (.string o')) o' f ep A n c B m d r' := by
  obtain ⟨⟨b0, b1, b2, b3, b4, b5⟩, h2, _⟩ := h
  exact ⟨⟨by simp [World.cell?_setCell_same', b0], by simp [World.cell?_setCell_other, b1], by simp [World.cell?_setCell_other, b2], by simp [World.cell?_setCell_other, b3], by simp [World.cell?_setCell_other, b4], by simpa [World.setCell] using b5⟩, sf_set1 h2, isX_set1 hG hx⟩
theorem hold_set1 {f' : ByteArray} (hG : g ∈ gs) (h : HoldL gs g w o f ep A n c B m d r) (hx : IsX (Off gs) w (.agg #[.string o, .string f', .int .i64 ep, .slice A n c, .slice B m d]) r') : HoldL gs g (w.setCell ⟨g, 1, none⟩ (.string f')) o f' ep A n c B m d r' := by
  obtain ⟨⟨b0, b1, b2, b3, b4, b5⟩, h2, _⟩ := h
  exact ⟨⟨by simp [World.cell?_setCell_other, b0], by simp [World.cell?_setCell_same', b1], by simp [World.cell?_setCell_other, b2], by simp [World.cell?_setCell_other, b3], by simp [World.cell?_setCell_other, b4], by simpa [World.setCell] using b5⟩, sf_set1 h2, isX_set1 hG hx⟩
theorem hold_set2 {ep' : Int} (hG : g ∈ gs) (h : HoldL gs g w o f ep A n c B m d r) (hx : IsX (Off gs) w (.agg #[.string o, .string f, .int .i64 ep', .slice A n c, .slice B m d]) r') : HoldL gs g (w.setCell ⟨g, 2, none⟩ (.int .i64 ep')) o f ep' A n c B m d r' := by
  obtain ⟨⟨b0, b1, b2, b3, b4, b5⟩, h2, _⟩ := h
  exact ⟨⟨by simp [World.cell?_setCell_other, b0], by simp [World.cell?_setCell_other, b1], by simp [World.cell?_setCell_same', b2], by simp [World.cell?_setCell_other, b3], by simp [World.cell?_setCell_other, b4], by simpa [World.setCell] using b5⟩, sf_set1 h2, isX_set1 hG hx⟩
theorem hold_set3 {A' : Option Addr} {n' c' : Nat} (hG : g ∈ gs) (h : HoldL gs g w o f ep A n c B m d r) (hx : IsX (Off gs) w (.agg #[.string o, .string f, .int .i64 ep, .slice A' n' c', .slice B m d]) r') : HoldL gs g (w.setCell ⟨g, 3, none⟩ (.slice A' n' c')) o f ep A' n' c' B m d r' := by
  obtain ⟨⟨b0, b1, b2, b3, b4, b5⟩, h2, _⟩ := h
  exact ⟨⟨by simp [World.cell?_setCell_other, b0], by simp [World.cell?_setCell_other, b1], by simp [World.cell?_setCell_other, b2], by simp [World.cell?_setCell_same', b3], by simp [World.cell?_setCell_other, b4], by simpa [World.setCell] using b5⟩, sf_set1 h2, isX_set1 hG hx⟩
theorem hold_set4 {B' : Option Addr} {m' d' : Nat} (hG : g ∈ gs) (h : HoldL gs g w o f ep A n c B m d r) (hx : IsX (Off gs) w (.agg #[.string o, .string f, .int .i64 ep, .slice A n c, .slice B' m' d']) r') : HoldL gs g (w.setCell ⟨g, 4, none⟩ (.slice B' m' d')) o f ep A n c B' m' d' r' := by
  obtain ⟨⟨b0, b1, b2, b3, b4, b5⟩, h2, _⟩ := h
  exact ⟨⟨by simp [World.cell?_setCell_other, b0], by simp [World.cell?_setCell_other, b1], by simp [World.cell?_setCell_other, b2], by simp [World.cell?_setCell_other, b3], by simp [World.cell?_setCell_same', b4], by simpa [World.setCell] using b5⟩, sf_set1 h2, isX_set1 hG hx⟩
/-- Its parts, laid open; rights with one part another. -/
theorem isX_parts (h : IsX (Off gs) w (.agg #[.string o, .string f, .int .i64 ep, .slice A n c, .slice B m d]) r) : ∃ (rs ws : List ByteArray), n = rs.length ∧ m = ws.length ∧ r = ⟨o.data.toList, f.data.toList, ep, bl rs, bl ws⟩ ∧ SReads w A rs ∧ SReads w B ws ∧ (n ≤ c ∧ (A = none → c = 0)) ∧ (m ≤ d ∧ (B = none → d = 0)) ∧
    (∀ b off, A = some ⟨b, off, none⟩ → 0 < rs.length → Off gs b) ∧ (∀ b off, B = some ⟨b, off, none⟩ → 0 < ws.length → Off gs b) := by
  obtain ⟨h1', h2', h3', _⟩ := isX_len h
  obtain ⟨o2, f2, A2, c2, rs, B2, d2, ws, h1, h2, h3, h4, h5, h6, h7, h8⟩ := h
  unfold RV at h1
  simp only [Value.agg.injEq, Array.mk.injEq, List.cons.injEq, Value.string.injEq, Value.int.injEq, Value.slice.injEq, true_and, and_true] at h1
  obtain ⟨rfl, rfl, e, ⟨rfl, rfl, rfl⟩, rfl, rfl, rfl⟩ := h1
  exact ⟨rs, ws, rfl, rfl, by rw [h3']; exact h2, h3, h4, h5, h6, h7, h8⟩
theorem isX_make (rs ws : List ByteArray) (hn : n = rs.length) (hm : m = ws.length) (h3 : SReads w A rs) (h4 : SReads w B ws) (h5 : n ≤ c ∧ (A = none → c = 0)) (h6 : m ≤ d ∧ (B = none → d = 0)) (h7 : ∀ b off, A = some ⟨b, off, none⟩ → 0 < rs.length → Off gs b) (h8 : ∀ b off, B = some ⟨b, off, none⟩ → 0 < ws.length → Off gs b) :
    IsX (Off gs) w (.agg #[.string o, .string f, .int .i64 ep, .slice A n c, .slice B m d]) ⟨o.data.toList, f.data.toList, ep, bl rs, bl ws⟩ := by
  subst hn; subst hm
  exact ⟨o, f, A, c, rs, B, d, ws, rfl, rfl, h3, h4, h5, h6, h7, h8⟩
end
end Go.Proofs.Ytjikepfgfbnheaa.Rig
