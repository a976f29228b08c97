/-
  MActs. By an AI agent.
-/
import Derived.Test.YtlkgjceddbclpaaGreatEZ
import Derived.Laws.AppendOwnNone
import Derived.Laws.OwnMore
import Derived.OwnWalk
import Derived.Laws.Rows
import Derived.Test.YtlkgjceddbclpaaGreatEActs
namespace Go.Proofs.YtlkgjceddbclpaaGreat.Acts
open Go.RowKit

set_option linter.unusedSimpArgs false
set_option linter.unusedVariables false
def AP (w : World) (a : Option Addr) (ks : List (Int × Int)) : Prop := ∀ j, j < ks.length → ∃ b off, a = some ⟨b, off, none⟩ ∧ b < w.heap.size ∧ w.cell? ⟨b, off + j * 2, none⟩ = some (.int .i64 (ks.getD j default).1) ∧ w.cell? ⟨b, off + j * 2 + 1, none⟩ = some (.int .i64 (ks.getD j default).2)
theorem AP.nil (w : World) (a : Option Addr) : AP w a [] := fun j hj => absurd hj (Nat.not_lt_zero _)
theorem AP.below {w w' : World} {B : Nat} {a : Option Addr} {ks : List (Int × Int)} (h : AP w a ks) (hb : Below B w w') (hB : w.heap.size ≤ B) : AP w' a ks := fun j hj => by
  obtain ⟨b, off, e, hlt, h1, h2⟩ := h j hj
  exact ⟨b, off, e, Nat.lt_of_lt_of_le hlt hb.size, (hb.cell (p := ⟨b, off + j * 2, none⟩) (Nat.lt_of_lt_of_le hlt hB)).trans h1, (hb.cell (p := ⟨b, off + j * 2 + 1, none⟩) (Nat.lt_of_lt_of_le hlt hB)).trans h2⟩
def prs (n : Nat) (Z : Nat → Nat → Int) : List (Int × Int) := (List.range n).map fun i => (Z i 0, Z i 1)
theorem prs_len (n : Nat) (Z : Nat → Nat → Int) : (prs n Z).length = n := by simp [prs]
theorem prs_at {n j : Nat} {Z : Nat → Nat → Int} (h : j < n) : (prs n Z).getD j default = (Z j 0, Z j 1) := by simp [prs, List.getD, h]
theorem ap_of {w : World} {a : Option Addr} {n : Nat} {Z : Nat → Nat → Int} (h : AReads 2 w a n Z) : AP w a (prs n Z) := fun j hj => by
  rw [prs_len] at hj
  obtain ⟨b, off, e, hlt, hc⟩ := h j hj
  rw [prs_at hj]
  exact ⟨b, off, e, hlt, (hc 0 (by decide)).1, (hc 1 (by decide)).1⟩
def FitP (ks : List (Int × Int)) : Prop := ∀ k ∈ ks, (-9223372036854775808 ≤ k.1 ∧ k.1 ≤ 9223372036854775807) ∧ (-9223372036854775808 ≤ k.2 ∧ k.2 ≤ 9223372036854775807)
theorem fit_of {w : World} {a : Option Addr} {n : Nat} {Z : Nat → Nat → Int} (h : AReads 2 w a n Z) : FitP (prs n Z) := fun k hk => by
  obtain ⟨i, hi, rfl⟩ := List.mem_map.1 hk
  obtain ⟨b, off, e, hlt, hc⟩ := h i (List.mem_range.1 hi)
  exact ⟨(hc 0 (by decide)).2, (hc 1 (by decide)).2⟩
def zOf (ks : List (Int × Int)) (i j : Nat) : Int := if j = 0 then (ks.getD i default).1 else (ks.getD i default).2
theorem areads_of {w : World} {a : Option Addr} {ks : List (Int × Int)} (h : AP w a ks) (hf : FitP ks) : AReads 2 w a ks.length (zOf ks) := fun i hi => by
  obtain ⟨b, off, e, hlt, h1, h2⟩ := h i hi
  refine ⟨b, off, e, hlt, fun j hj => ?_⟩
  have hk : ks.getD i default ∈ ks := by rw [List.getD, List.getElem?_eq_getElem hi]; exact List.getElem_mem hi
  obtain ⟨f1, f2⟩ := hf _ hk
  match j, hj with
  | 0, _ => exact ⟨h1, f1⟩
  | 1, _ => exact ⟨h2, f2⟩
def acs (ks : List (Int × Int)) : List Value := ks.flatMap fun k => [.int .i64 k.1, .int .i64 k.2]
theorem acs_len (ks : List (Int × Int)) : (acs ks).length = ks.length * 2 := by
  induction ks with
  | nil => rfl
  | cons k ks ih => show (Value.int .i64 k.1 :: Value.int .i64 k.2 :: acs ks).length = _; rw [List.length_cons, List.length_cons, ih, List.length_cons]; omega
theorem acs_app (a b : List (Int × Int)) : acs (a ++ b) = acs a ++ acs b := by simp [acs]
theorem acs_one (ks : List (Int × Int)) : ∀ u ∈ acs ks, u.oneCell' = true := fun u hu => by
  obtain ⟨k, _, hk⟩ := List.mem_flatMap.1 hu
  have : u = .int .i64 k.1 ∨ u = .int .i64 k.2 := by simpa using hk
  rcases this with rfl | rfl <;> rfl
theorem acs_get : ∀ (ks : List (Int × Int)) (j : Nat), j < ks.length → (acs ks)[j * 2]? = some (.int .i64 (ks.getD j default).1) ∧ (acs ks)[j * 2 + 1]? = some (.int .i64 (ks.getD j default).2)
  | [], j, h => absurd h (Nat.not_lt_zero _)
  | k :: ks, 0, _ => ⟨rfl, rfl⟩
  | k :: ks, j + 1, h => by
    have := acs_get ks j (by simpa using h)
    show (Value.int .i64 k.1 :: Value.int .i64 k.2 :: acs ks)[(j + 1) * 2]? = _ ∧ (Value.int .i64 k.1 :: Value.int .i64 k.2 :: acs ks)[(j + 1) * 2 + 1]? = _
    rw [show (j + 1) * 2 = j * 2 + 1 + 1 by omega, show j * 2 + 1 + 1 + 1 = (j * 2 + 1) + 1 + 1 by omega, List.getElem?_cons_succ, List.getElem?_cons_succ, List.getElem?_cons_succ, List.getElem?_cons_succ]
    simpa using this
theorem ireads_own {w : World} {base : Nat} {e : TypeId} {a : Option Addr} {n c : Nat} {ks : List (Int × Int)} (h : w.ownsRow base e 2 (.slice a n c) n (acs ks)) : AP w a ks ∧ n = ks.length ∧ (n ≤ c ∧ (a = none → c = 0)) ∧ (∀ b off, a = some ⟨b, off, none⟩ → base ≤ b) := by
  have hl : n = ks.length := by
    have := h.1
    rw [acs_len] at this
    omega
  rcases h.2 with ⟨hv, h0⟩ | ⟨g, cap, cur, hv, hg, hgg, hnc, hcm, hcs, htake⟩
  · injection hv with e1 e2 e3
    subst e1; subst e2; subst e3
    have : ks = [] := List.eq_nil_of_length_eq_zero hl.symm
    subst this
    exact ⟨AP.nil _ _, rfl, ⟨Nat.le_refl _, fun _ => rfl⟩, fun _ _ h => by cases h⟩
  · injection hv with e1 e2 e3
    subst e1; subst e3
    refine ⟨fun j hj => ?_, hl, ⟨hnc, fun h => by cases h⟩, fun b off h => by injection h with h; injection h with h1 _ _; omega⟩
    obtain ⟨p1, p2⟩ := acs_get ks j hj
    have hcell : ∀ i u, (acs ks)[i]? = some u → w.cell? ⟨g, 0 + i, none⟩ = some u := fun i u hu => by
      rw [Nat.zero_add, cell_of_row w g i cur e (0, 0) hgg]
      rw [← htake, List.getElem?_take] at hu
      split at hu
      · simpa using hu
      · cases hu
    exact ⟨g, 0, rfl, (Array.getElem?_eq_some_iff.1 hgg).1, hcell _ _ p1, by have := hcell _ _ p2; rw [← Nat.add_assoc] at this; exact this⟩
theorem ireads_cells {w : World} {b off : Nat} {ks : List (Int × Int)} (h : AP w (some ⟨b, off, none⟩) ks) : ∀ j u, (acs ks)[j]? = some u → w.cell? ((⟨b, off, none⟩ : Addr).add j) = some u := fun j u hj => by
  have hjl : j < ks.length * 2 := by rw [← acs_len]; exact (List.getElem?_eq_some_iff.1 hj).1
  obtain ⟨b', o', he, _, h1, h2⟩ := h (j / 2) (by omega)
  obtain ⟨p1, p2⟩ := acs_get ks (j / 2) (by omega)
  injection he with he
  injection he with e1 e2 _
  subst e1; subst e2
  rw [show ((⟨b, off, none⟩ : Addr).add j) = ⟨b, off + j, none⟩ from by unfold Addr.add; split <;> simp_all]
  rcases Nat.mod_two_eq_zero_or_one j with hm | hm
  · rw [show j / 2 * 2 = j by omega] at p1 h1
    rw [h1, ← p1, hj]
  · rw [show j / 2 * 2 + 1 = j by omega] at p2
    rw [show off + j / 2 * 2 + 1 = off + j by omega] at h2
    rw [h2, ← p2, hj]
theorem append_acts {w : World} {ops : Array Oper} {rest : List Oper} {o : Oper} {a : Act} {Q : Exit → Act → World → Prop} (hgd : o.guard = none) (s x : Operand) (t e : TypeId) (i0 : TypeInfo)
    (ht : Tryz.prog.underlying t = some (.slice e)) (hi0 : Tryz.prog.info? e = some i0) (hz0 : i0.zero = some (.agg #[.int .i64 0, .int .i64 0])) (hz1 : i0.size = 2) (hz2 : i0.bytes = 16)
    (ho : o.op = .call { callee := .builtin .append, args := #[s, x], argTypes := #[t, t] }) (base : Nat)
    (v : Value) (k : Nat) (xs zs : List (Int × Int)) (hs : a.eval s = v) (hown : w.ownsRow base e 2 v k (acs xs))
    (b : Option Addr) (n c : Nat) (hx : a.eval x = .slice b n c) (hn : n = zs.length) (hnil : b = none → c = 0) (hr : AP w b zs)
    (hlen : k + zs.length ≤ 1000) (hbase : base ≤ w.heap.size)
    (h : ∀ v' w', w'.ownsRow base e 2 v' (k + n) (acs (xs ++ zs)) → Below base w w' → wpList Tryz.prog ops Q rest (a.put o.dst v') w') : wpList Tryz.prog ops Q (o :: rest) a w := by
  subst hn
  cases b with
  | none =>
    have hz : zs = [] := by
      cases zs with
      | nil => rfl
      | cons z t => obtain ⟨_, _, he, _⟩ := hr 0 (by simp); cases he
    subst hz
    rw [hnil rfl] at hx
    have hx0 : a.eval x = .slice none 0 0 := hx
    have hrun := run_append_owned_none (P := Tryz.prog) (w := w) base t o.type e i0 2 ht hi0 v k (acs xs) hown
    refine wpList_plain hgd fun K hK => ?_
    unfold Oper.wp
    simp [execOp, ho, resolve, invoke, builtin, hs, hx0, hrun, Result.andThen, Oper.upon]
    exact hK _ _ (h v w (by simpa using hown) (Below.refl _ _))
  | some ad =>
    have had : ad = ⟨ad.block, ad.off, none⟩ ∨ zs = [] := by
      cases zs with
      | nil => exact .inr rfl
      | cons z t => obtain ⟨b', o', he, _⟩ := hr 0 (by simp); injection he with he; subst he; exact .inl rfl
    refine wpList_append_own _ hgd s x t ho base e i0 _ 2 16 ht hi0 hz0 hz1 hz2 rfl (by decide) v k (acs xs) hs hown ad zs.length c (acs zs) hx (acs_len zs) ?_ (acs_one zs) (by simp only [maxLen]; omega) (by omega) hbase ?_
    · rcases had with had | rfl
      · rw [had] at hr ⊢
        exact ireads_cells hr
      · intro j u hj; simp [acs] at hj
    · intro v' w' hown' hgrow _
      exact h v' w' (by rw [acs_app]; exact hown') (Below.grown (Below.refl _ _) hgrow hbase fun q hq => (hown.lt q hq).1)
theorem acts_nil {nf : Nat} {w : World} {a : Option Addr} {len cap : Nat} {Z : Nat → Nat → Int} (h : IsActs nf w a len cap Z) : a = none → cap = 0 := fun e => by
  rcases h with ⟨_, _, hc⟩ | ⟨x, hx, _⟩
  · exact hc
  · rw [e] at hx; cases hx
end Go.Proofs.YtlkgjceddbclpaaGreat.Acts

