/-
  THE DOCUMENT'S STORE (letterlockref12) IN MEMORY: a row of cells, each a key, a row of blobs, and whether the last is there. By an AI agent; no person has read it.
-/
import Derived.Test.YtamkepfhlfeiiaaSTMem
import Derived.Laws.OwnMore
import Derived.Laws.Rows
namespace Go.Proofs.Ytamkepfhlfeiiaa.Sto
open Go Go.RowKit Wire

set_option linter.unusedVariables false
set_option linter.unusedSimpArgs false
/-- A cell: its key, its row as a value, whether the last blob is there. -/
structure Cl where
  k : ByteArray
  v : Value
  b : Bool
instance : Inhabited Cl := ⟨⟨⟨#[]⟩, .slice none 0 0, false⟩⟩
def flat (rs : List Cl) : List Value := rs.flatMap fun c => [.string c.k, c.v, .bool c.b]
theorem flat_nil : flat [] = [] := rfl
theorem flat_cons (c : Cl) (rs : List Cl) : flat (c :: rs) = .string c.k :: c.v :: .bool c.b :: flat rs := rfl
theorem flat_len (rs : List Cl) : (flat rs).length = rs.length * 3 := by
  induction rs with
  | nil => rfl
  | cons c rs ih => rw [flat_cons]; simp only [List.length_cons, ih]; omega
theorem flat_app (a b : List Cl) : flat (a ++ b) = flat a ++ flat b := by simp [flat]
theorem flat_get : ∀ {rs : List Cl} {i : Nat} {c : Cl}, rs[i]? = some c → (flat rs)[i * 3]? = some (.string c.k) ∧ (flat rs)[i * 3 + 1]? = some c.v ∧ (flat rs)[i * 3 + 2]? = some (.bool c.b)
  | [], i, c, h => by simp at h
  | d :: rs, 0, c, h => by
    obtain rfl : d = c := by simpa using h
    exact ⟨rfl, rfl, rfl⟩
  | d :: rs, i + 1, c, h => by
    have := flat_get (rs := rs) (i := i) (c := c) (by simpa using h)
    rw [flat_cons, show (i + 1) * 3 = i * 3 + 1 + 1 + 1 by omega, show i * 3 + 1 + 1 + 1 + 1 = (i * 3 + 1) + 1 + 1 + 1 by omega, show i * 3 + 1 + 1 + 1 + 2 = (i * 3 + 2) + 1 + 1 + 1 by omega]
    simpa using this
theorem flat_set : ∀ {rs : List Cl} {i : Nat} (c : Cl), i < rs.length → (((flat rs).set (i * 3) (.string c.k)).set (i * 3 + 1) c.v).set (i * 3 + 2) (.bool c.b) = flat (rs.set i c)
  | [], i, c, h => absurd h (Nat.not_lt_zero _)
  | d :: rs, 0, c, h => rfl
  | d :: rs, i + 1, c, h => by
    have := flat_set (rs := rs) (i := i) c (by simpa using h)
    rw [flat_cons, List.set_cons_succ, flat_cons, ← this, show (i + 1) * 3 = i * 3 + 1 + 1 + 1 by omega, show i * 3 + 1 + 1 + 1 + 1 = (i * 3 + 1) + 1 + 1 + 1 by omega, show i * 3 + 1 + 1 + 1 + 2 = (i * 3 + 2) + 1 + 1 + 1 by omega]
    simp only [List.set_cons_succ]
def ky (c : Cl) : Tm := c.k.data.toList
/-- What the cells say. -/
structure Says (rs : List Cl) (s : Stt) : Prop where
  nodup : (rs.map ky).Nodup
  all : ∀ t, s.ver t ≠ [] ↔ t ∈ rs.map ky
  is : ∀ c ∈ rs, c.b = s.is (ky c)
theorem Says.at {rs : List Cl} {s : Stt} (h : Says rs s) {i j : Nat} {c d : Cl} (hi : rs[i]? = some c) (hj : rs[j]? = some d) (he : ky c = ky d) : i = j := by
  have hil := (List.getElem?_eq_some_iff.1 hi).1
  have hjl := (List.getElem?_eq_some_iff.1 hj).1
  have h1 : (rs.map ky)[i]'(by simpa using hil) = ky c := by simp [(List.getElem?_eq_some_iff.1 hi).2]
  have h2 : (rs.map ky)[j]'(by simpa using hjl) = ky d := by simp [(List.getElem?_eq_some_iff.1 hj).2]
  have hp := List.pairwise_iff_getElem.1 h.nodup
  rcases Nat.lt_trichotomy i j with hlt | h3 | hlt
  · exact absurd (h1.trans (he.trans h2.symm)) (hp i j _ _ hlt)
  · exact h3
  · exact absurd (h2.trans (he.symm.trans h1.symm)) (hp j i _ _ hlt)
/-- The place of a key among the cells; none: how many they are. -/
def place (rs : List Cl) (t : Tm) : Nat := (rs.map ky).idxOf t
theorem place_in {rs : List Cl} {t : Tm} (h : t ∈ rs.map ky) : ∃ c, rs[place rs t]? = some c ∧ ky c = t := by
  have hlt : place rs t < (rs.map ky).length := List.idxOf_lt_length_of_mem h
  have hlt' : place rs t < rs.length := by simpa using hlt
  refine ⟨rs[place rs t], List.getElem?_eq_getElem hlt', ?_⟩
  have h1 : (rs.map ky)[place rs t] = t := List.getElem_idxOf hlt
  exact (List.getElem_map (l := rs) ky (h := hlt)).symm.trans h1
/-- The document's store in memory. -/
structure RefAt (h gC cap : Nat) (nil? : Bool) (rs : List Cl) (rb : Tm → Nat) (w : World) (s : Stt) : Prop where
  c0 : w.cell? ⟨h, 0, none⟩ = some (if nil? then .slice none 0 0 else .slice (some ⟨gC, 0, none⟩) rs.length cap)
  c1 : w.cell? ⟨h, 1, none⟩ = some (.int .i64 (s.n : Int))
  f0 : w.frozen? ⟨h, 0, none⟩ = false
  f1 : w.frozen? ⟨h, 1, none⟩ = false
  own : w.ownsRow 0 75 3 (if nil? then .slice none 0 0 else .slice (some ⟨gC, 0, none⟩) rs.length cap) rs.length (flat rs)
  says : Says rs s
  rows : ∀ c ∈ rs, RowAt w c.v (rb (ky c)) (s.ver (ky c))
  n1 : nil? = false → gC ≠ h
  off : ∀ c ∈ rs, rb (ky c) ≠ h ∧ (nil? = false → rb (ky c) ≠ gC)
  inj : ∀ c ∈ rs, ∀ d ∈ rs, rb (ky c) = rb (ky d) → ky c = ky d
  cnt : rs.length ≤ s.n
def Xr (h gC : Nat) (nil? : Bool) (rs : List Cl) (rb : Tm → Nat) (b : Nat) : Prop := b = h ∨ (nil? = false ∧ b = gC) ∨ ∃ c ∈ rs, rb (ky c) = b
def DR : DPred := fun w a X s => ∃ h gC cap nil? rs rb, a = ⟨h, 0, none⟩ ∧ RefAt h gC cap nil? rs rb w s ∧ ∀ b, X b ↔ Xr h gC nil? rs rb b
section
variable {h gC cap : Nat} {nil? : Bool} {rs : List Cl} {rb : Tm → Nat} {w : World} {s : Stt}
theorem RefAt.h_lt (r : RefAt h gC cap nil? rs rb w s) : h < w.heap.size := World.block_lt_of_cell? w _ r.c0
theorem RefAt.c_lt (r : RefAt h gC cap nil? rs rb w s) (hn : nil? = false) : gC < w.heap.size := by
  have := r.own
  rw [hn] at this
  exact (this.lt gC rfl).2
theorem RefAt.old (r : RefAt h gC cap nil? rs rb w s) {b : Nat} (hb : Xr h gC nil? rs rb b) : b < w.heap.size := by
  rcases hb with rfl | ⟨hn, rfl⟩ | ⟨c, hc, rfl⟩
  · exact r.h_lt
  · exact r.c_lt hn
  · exact (r.rows c hc).lt
theorem RefAt.keep (r : RefAt h gC cap nil? rs rb w s) {w' : World} (hb : ∀ b, Xr h gC nil? rs rb b → w'.heap[b]? = w.heap[b]?) : RefAt h gC cap nil? rs rb w' s := by
  have hg := hb h (.inl rfl)
  refine ⟨(World.cell?_of_block (a := ⟨h, 0, none⟩) hg).trans r.c0, (World.cell?_of_block (a := ⟨h, 1, none⟩) hg).trans r.c1, (World.frozen?_of_block (a := ⟨h, 0, none⟩) hg).trans r.f0, (World.frozen?_of_block (a := ⟨h, 1, none⟩) hg).trans r.f1, ?_, r.says, fun c hc => (r.rows c hc).move (hb _ (.inr (.inr ⟨c, hc, rfl⟩))), r.n1, r.off, r.inj, r.cnt⟩
  refine ⟨r.own.1, ?_⟩
  rcases r.own.2 with h1 | ⟨x, cp, cur, hv, a1, a2, a3⟩
  · exact .inl h1
  · cases hn : nil? with
    | true => rw [hn] at hv; cases hv
    | false =>
      rw [hn] at hv
      simp only [Bool.false_eq_true, if_false] at hv
      injection hv with hv _ hc
      injection hv with hv
      injection hv with hv
      subst hv
      exact .inr ⟨gC, cp, cur, by rw [hc]; rfl, a1, (hb _ (.inr (.inl ⟨hn, rfl⟩))).trans a2, a3⟩
theorem RefAt.below (r : RefAt h gC cap nil? rs rb w s) {w' : World} (hb : Below w.heap.size w w') : RefAt h gC cap nil? rs rb w' s := r.keep fun b hx => hb.block b (r.old hx)
end
theorem dr_old : ∀ {w : World} {a : Addr} {X : Nat → Prop} {s : Stt}, DR w a X s → ∀ b, X b → b < w.heap.size := fun {w a X s} r b hb => by
  obtain ⟨h, gC, cap, nl, rs, rb, _, r, hx⟩ := r
  exact r.old ((hx b).1 hb)
theorem dr_keep : ∀ {w w' : World} {a : Addr} {X : Nat → Prop} {s : Stt}, DR w a X s → w.heap.size ≤ w'.heap.size → (∀ b, X b → w'.heap[b]? = w.heap[b]?) → DR w' a X s := fun {w w' a X s} r _ hk => by
  obtain ⟨h, gC, cap, nl, rs, rb, e, r, hx⟩ := r
  exact ⟨h, gC, cap, nl, rs, rb, e, r.keep fun b hb => hk b ((hx b).2 hb), hx⟩
end Go.Proofs.Ytamkepfhlfeiiaa.Sto
