/-
  WHAT TreeProves LEANS ON: which leaf, which proof, which place is taken. By an AI agent; no person has read it.
-/
import Derived.Test.YtblgcpopcgnncaaELOne
namespace Go.Proofs.Ytblgcpopcgnncaa.Tre
open Go Go.RowKit Wire Term Draw Reg Clo

set_option linter.unusedSimpArgs false
set_option linter.unusedVariables false
def ot (v : Nat) : Tm := lf otB.data.toList v
theorem ot_sm {v : Nat} (hv : v < 9) : (Sz 2 (ot v) ∧ (ot v).length ≤ 121) ∧ isLeaf (ot v) = true := by
  have := lf_sz (f := otB.data.toList) (v := v) (by decide) (by omega)
  exact ⟨⟨this.1, Nat.le_trans this.2 (by decide)⟩, lf_leaf (by decide) (by omega)⟩
theorem ot_non (z : Int) {v : Nat} (hv : v < 9) : lfOf z ≠ ot v := fun h => by
  have h4 := pk_lt (z.tdiv 8) (n := 4) (by decide)
  have h8 := pk_lt z (n := 8) (by decide)
  have := (lf_inj (who_len _) (by decide) (by omega) (by omega) h).1
  have hh : ∀ a : Fin 8, (whoN a.1).data.toList ≠ otB.data.toList := by decide +kernel
  exact hh ⟨pk z 8, h8⟩ this
theorem rowL_non {zs : List Int} : ∀ t ∈ rowL zs, ∀ v, v < 9 → ot v ≠ t := fun t h v hv e => by
  obtain ⟨z, _, rfl⟩ := List.mem_map.1 h
  exact ot_non z hv e.symm
theorem beside_len : ∀ {d : Nat} {l : List Tm} {i : Nat}, d ≤ 3 → 1 ≤ l.length → l.length ≤ 2 ^ d → (besideD (d + 1) l i).length ≤ d
  | 0, l, i, _, h1, h2 => by
    have h2' : l.length ≤ 1 := h2
    rw [besideD_succ, if_pos (by omega)]; exact Nat.le_refl _
  | d + 1, l, i, hd, h1, h2 => by
    rw [besideD_succ]
    by_cases hl : l.length = 1
    · rw [if_pos hl]; exact Nat.zero_le _
    · rw [if_neg hl]
      obtain ⟨p1, p2, p3, _, _⟩ := fst_half (n := l.length) (d := d) (by omega) (by omega) h2
      obtain ⟨k0, k1⟩ := fst_lt (n := l.length) (by omega) p3
      have lt1 : (l.take (fst l.length)).length = fst l.length := by rw [List.length_take]; omega
      have ld1 : (l.drop (fst l.length)).length = l.length - fst l.length := List.length_drop
      split
      · have := beside_len (d := d) (l := l.take (fst l.length)) (i := i) (by omega) (by omega) (by omega)
        rw [List.length_append, List.length_singleton]; omega
      · have := beside_len (d := d) (l := l.drop (fst l.length)) (i := i - fst l.length) (by omega) (by omega) (by omega)
        rw [List.length_append, List.length_singleton]; omega
theorem beside_none {l : List Tm} {i : Nat} : besideD 4 l i = [] ↔ l.length = 1 := by
  rw [besideD_succ]
  constructor
  · intro h
    by_cases hl : l.length = 1
    · exact hl
    · rw [if_neg hl] at h
      split at h <;> exact absurd h (by simp)
  · intro h; rw [if_pos h]
theorem over_grow {a b : Tm} (hb : b ≠ []) (h : (over a b).1 = b) : False := by
  rcases over_or a b with ⟨_, _, _, _, _, h2⟩ | ⟨_, h2⟩
  · rw [h2] at h
    have := congrArg List.length h
    simp only [List.length_cons, List.length_append] at this
    omega
  · rw [h2] at h; exact hb h.symm
theorem ver_twice {x t : Tm} (hx : right x = true) : verifyT x 2 0 t [x] = false := decide_eq_false fun h => by
  have e := h.2.2.2.2.2.2.2
  have hne : x ≠ [] := (right_iff.1 hx).1
  have e2 : upD 4 2 0 t [x] = (over (upD 3 1 0 t []) x).1 := rfl
  exact over_grow hne (e2.symm.trans e)
theorem ver_more {x t : Tm} (hx : right x = true) : verifyT x 1 0 t [x] = false := decide_eq_false fun h => by
  have e := h.2.2.2.2.2.2.2
  have hne : x ≠ [] := (right_iff.1 hx).1
  have e2 : upD 4 1 0 t [x] = [] := rfl
  exact hne (e.symm.trans e2)
theorem ver_place {x t : Tm} {n i : Int} {p : List Tm} (h : ¬ (0 ≤ i ∧ i < n)) : verifyT x n i t p = false := decide_eq_false fun hh => h ⟨hh.2.2.1, hh.2.2.2.1⟩
/-- What the tree of a row of small leaves takes, and what it doesn't. -/
theorem row_proves {l : List Tm} {x : Tm} {k : Nat} (h1 : 1 ≤ l.length) (h8 : l.length ≤ 8) (hs : ∀ t ∈ l, (Sz 2 t ∧ t.length ≤ 121) ∧ isLeaf t = true) (hr : root l = (x, 0)) (hk : k < l.length) :
    ∃ P : List Tm, proofT l (k : Int) = (P, 0) ∧ verifyT x (l.length : Int) (k : Int) (l.getD k []) P = true ∧ (∀ t, t ≠ l.getD k [] → verifyT x (l.length : Int) (k : Int) t P = false) ∧
      (∀ p, p ≠ P → verifyT x (l.length : Int) (k : Int) (l.getD k []) p = false) ∧ verifyT (104 :: x) (l.length : Int) (k : Int) (l.getD k []) P = false ∧ P.length ≤ 3 ∧ (P = [] ↔ l.length = 1) ∧
      (∀ y ∈ P, y.length ≤ 4000) ∧ right x = true ∧ x.length ≤ 4000 := by
  obtain ⟨_, _, hf, ht⟩ := root_ok hr
  have hx := (tree_head ht (by omega)).2
  have only : ∀ t p, verifyT x (l.length : Int) (k : Int) t p = true → t = l.getD k [] ∧ p = besideD 4 l k := fun t p h => verify_only h1 h8 hk ht h
  have no : ∀ {b : Bool}, (b = true → False) → b = false := fun {b} h => by cases b with
    | false => rfl
    | true => exact (h rfl).elim
  refine ⟨besideD 4 l k, good_proof hr (by omega), verify_yes h1 h8 hk hf ht, fun t h => no fun e => h (only _ _ e).1, fun p h => no fun e => h (only _ _ e).2, ?_, beside_len (by omega) h1 h8, beside_none, fun y hy => (right_len (beside_right h1 h8 hk (by rw [ht]) y hy)).2, hx, (right_len hx).2⟩
  refine decide_eq_false fun h => ?_
  have e := h.2.2.2.2.2.2.2
  rw [show ((l.length : Int)).toNat = l.length by omega, show ((k : Int)).toNat = k by omega, up_beside h1 h8 hk (by rw [ht]), ht] at e
  have e1 : x = 104 :: x := e
  have := congrArg List.length e1
  rw [List.length_cons] at this
  omega
theorem set_ne {P : List Tm} {m : Nat} (hm : m < P.length) : P.set m (104 :: P.getD m []) ≠ P := fun e => by
  have h1 := congrArg (fun l => (l[m]?.getD []).length) e
  simp [hm] at h1
theorem tail_ne {P : List Tm} (h : P ≠ []) : P.drop 1 ≠ P := fun e => by
  cases P with
  | nil => exact h rfl
  | cons a t => have := congrArg List.length e; simp at this
theorem snoc_ne {P : List Tm} {x : Tm} : P ++ [x] ≠ P := fun e => by
  have := congrArg List.length e; simp at this
theorem getD_bl {ys : List ByteArray} {j : Nat} : (ys.getD j ByteArray.empty).data.toList = (bl ys).getD j [] := by
  simp only [bl, List.getD, List.getElem?_map]
  cases ys[j]? <;> rfl
theorem cell_at {w : World} {g o j : Nat} {ys : List ByteArray} (h : SReads w (some ⟨g, o, none⟩) ys) (hj : j < ys.length) : w.cell? ⟨g, o + j, none⟩ = some (.string (ys.getD j ByteArray.empty)) := by
  obtain ⟨b, o', e, _, hc⟩ := h j hj
  injection e with e
  injection e with e1 e2 _
  subst e1; subst e2
  exact hc
theorem ver_to {r t : Tm} {n i : Int} {p : List Tm} {v : Bool} (he : verifyT r n i t p = v) {R T : ByteArray} (hR : R.data.toList = r) (hT : T.data.toList = t) {A : Option Addr} {c : Nat} {ys : List ByteArray} (hy : bl ys = p) (hc : ys.length ≤ c ∧ c ≤ 9223372036854775807)
    (hz : ∀ y ∈ ys, y.size ≤ 140737488355328) (hr : R.size ≤ 140737488355328) (ht : T.size ≤ 140737488355328) (w : World) (hs : SReads w A ys) :
    Calls Try.prog 18 #[.string R, .int .i64 n, .int .i64 i, .string T, .slice A ys.length c] w fun e w' => e = .returned (.bool v) ∧ Below w.heap.size w w' := by
  have := cverify_any R n i T A c ys w hs hc.1 hc.2 hz ht hr
  rw [hR, hT, hy, he] at this
  exact this
/-- 'append(own, others...)' as one operation of a region: what else is read stands. -/
theorem wpo_append {w : World} {o : Oper} {a : Act} {K : Act → World → Prop} {Q : Exit → Act → World → Prop} (s x : Operand)
    (ho : o.op = .call { callee := .builtin .append, args := #[s, x], argTypes := #[23, 23] }) (base : Nat)
    (v : Value) (k : Nat) (xs zs : List ByteArray) (hs : a.eval s = v) (hown : w.ownsRow base 9 1 v k (sv xs)) (hk : k = xs.length)
    (ad : Addr) (n c : Nat) (hx : a.eval x = .slice (some ad) n c) (hn : n = zs.length) (hr : SReads w (some ad) zs)
    (hlen : k + zs.length ≤ 1000) (hbase : base ≤ w.heap.size)
    (h : ∀ v' w', w'.ownsRow base 9 1 v' (k + n) (sv (xs ++ zs)) → Below base w w' → (∀ g o ys, SReads w (some ⟨g, o, none⟩) ys → v.ownBlock ≠ some g → SReads w' (some ⟨g, o, none⟩) ys) → K (a.put o.dst v') w') : o.wp Try.prog a w K Q := by
  obtain ⟨i0, hi0, hz0, hz1, hz2⟩ := info_parts str_info
  subst hn
  refine wp_append_own w s x 23 ho base 9 i0 _ 1 16 Try.underlying23 hi0 hz0 hz1 hz2 rfl (by decide) v k (sv xs) hs hown ad zs.length c (sv zs) hx (by simp [sv]) ?_ (sv_one zs) (by simp only [maxLen]; omega) (by omega) hbase ?_
  · intro j u hj
    have hjl : j < zs.length := by have := (List.getElem?_eq_some_iff.1 hj).1; simpa [sv] using this
    obtain ⟨b', o', he, _, hc⟩ := hr j hjl
    obtain rfl := Option.some.inj he
    have hu : u = .string (zs.getD j ByteArray.empty) := by
      simp [sv, hjl] at hj
      rw [← hj]; simp [List.getD, hjl]
    rw [hu, show ((⟨b', o', none⟩ : Addr).add j) = ⟨b', o' + j, none⟩ from by unfold Addr.add; split <;> simp_all]
    exact hc
  · intro v' w' hown' hgrow _
    refine h v' w' (by simpa [sv] using hown') (Below.grown (Below.refl _ _) hgrow hbase fun q hq => (hown.lt q hq).1) fun g o ys hg hne j hj => ?_
    obtain ⟨b', o', he, hlt, hc⟩ := hg j hj
    have he' := he
    injection he' with he'
    injection he' with e1 e2 _
    subst e1; subst e2
    exact ⟨g, o, rfl, Nat.lt_of_lt_of_le hlt hgrow.size, (World.cell?_of_block (w := w) (a := ⟨g, o + j, none⟩) (hgrow.block g hlt (fun e => hne e.symm))).trans hc⟩
end Go.Proofs.Ytblgcpopcgnncaa.Tre
