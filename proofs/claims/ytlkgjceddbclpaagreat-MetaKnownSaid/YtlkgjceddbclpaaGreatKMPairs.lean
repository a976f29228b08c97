/-
  MPairs. By an AI agent; no person has read it.
-/
import Derived.Test.YtlkgjceddbclpaaGreatKZ
import Derived.Laws.AppendOwnNone
import Derived.Test.YtlkgjceddbclpaaGreatKMKnown
namespace Go.Proofs.YtlkgjceddbclpaaGreat.Mta
open Go.RowKit Wire Term Rig

set_option linter.unusedSimpArgs false
theorem preads_cells {w : World} {b off : Nat} {ks : List (ByteArray × ByteArray)} (h : PReads w (some ⟨b, off, none⟩) ks) : ∀ j u, (pcs ks)[j]? = some u → w.cell? ((⟨b, off, none⟩ : Addr).add j) = some u := fun j u hj => by
  have hjl : j < ks.length * 2 := by rw [← pcs_len]; exact (List.getElem?_eq_some_iff.1 hj).1
  obtain ⟨b', o', he, _, h1, h2⟩ := h (j / 2) (by omega)
  obtain ⟨p1, p2⟩ := pcs_get ks (j / 2) (by omega)
  injection he with he
  injection he with e1 e2 _
  subst e1; subst e2
  rw [show ((⟨b, off, none⟩ : Addr).add j) = ⟨b, off + j, none⟩ from by unfold Addr.add; split <;> simp_all]
  rcases Nat.mod_two_eq_zero_or_one j with hm | hm
  · rw [show j / 2 * 2 = j by omega] at p1 h1
    rw [h1, ← p1, hj]
  · rw [show j / 2 * 2 + 1 = j by omega] at p2
    rw [show off + j / 2 * 2 + 1 = off + j by omega] at h2
    rw [h2, ← p2, hj]
theorem append_prs {w : World} {ops : Array Oper} {rest : List Oper} {o : Oper} {a : Act} {Q : Exit → Act → World → Prop} (hgd : o.guard = none) (s x : Operand) (t e : TypeId) (i0 : TypeInfo)
    (ht : Tryz.prog.underlying t = some (.slice e)) (hi0 : Tryz.prog.info? e = some i0) (hz0 : i0.zero = some (.agg #[.string ⟨#[]⟩, .string ⟨#[]⟩])) (hz1 : i0.size = 2) (hz2 : i0.bytes = 32)
    (ho : o.op = .call { callee := .builtin .append, args := #[s, x], argTypes := #[t, t] }) (base : Nat)
    (v : Value) (k : Nat) (xs zs : List (ByteArray × ByteArray)) (hs : a.eval s = v) (hown : w.ownsRow base e 2 v k (pcs xs))
    (b : Option Addr) (n c : Nat) (hx : a.eval x = .slice b n c) (hn : n = zs.length) (hnil : b = none → c = 0) (hr : PReads w b zs)
    (hlen : k + zs.length ≤ 1000) (hbase : base ≤ w.heap.size)
    (h : ∀ v' w', w'.ownsRow base e 2 v' (k + n) (pcs (xs ++ zs)) → Below base w w' → wpList Tryz.prog ops Q rest (a.put o.dst v') w') : wpList Tryz.prog ops Q (o :: rest) a w := by
  subst hn
  cases b with
  | none =>
    have hz : zs = [] := by
      cases zs with
      | nil => rfl
      | cons z t => obtain ⟨_, _, he, _⟩ := hr 0 (by simp); cases he
    subst hz
    rw [hnil rfl] at hx
    have hx0 : a.eval x = .slice none 0 0 := hx
    have hrun := run_append_owned_none (P := Tryz.prog) (w := w) base t o.type e i0 2 ht hi0 v k (pcs xs) hown
    refine wpList_plain hgd fun K hK => ?_
    unfold Oper.wp
    simp [execOp, ho, resolve, invoke, builtin, hs, hx0, hrun, Result.andThen, Oper.upon]
    exact hK _ _ (h v w (by simpa using hown) (Below.refl _ _))
  | some ad =>
    have had : ad = ⟨ad.block, ad.off, none⟩ ∨ zs = [] := by
      cases zs with
      | nil => exact .inr rfl
      | cons z t => obtain ⟨b', o', he, _⟩ := hr 0 (by simp); injection he with he; subst he; exact .inl rfl
    refine wpList_append_own _ hgd s x t ho base e i0 _ 2 32 ht hi0 hz0 hz1 hz2 rfl (by decide) v k (pcs xs) hs hown ad zs.length c (pcs zs) hx (pcs_len zs) ?_ (pcs_one zs) (by simp only [maxLen]; omega) (by omega) hbase ?_
    · rcases had with had | rfl
      · rw [had] at hr ⊢
        exact preads_cells hr
      · intro j u hj; simp [pcs] at hj
    · intro v' w' hown' hgrow _
      exact h v' w' (by rw [pcs_app]; exact hown') (Below.grown (Below.refl _ _) hgrow hbase fun q hq => (hown.lt q hq).1)
theorem own_lit_prs (w : World) (e : TypeId) (ks : List (ByteArray × ByteArray)) (g : Nat) (hg : g = w.heap.size) (cs : Array Value) (hc : cs = (pcs ks).toArray) (n : Nat) (hn : n = ks.length) (h : n ≤ 100) : (w.alloc (.cells cs e)).ownsRow w.heap.size e 2 (.slice (some ⟨g, 0, none⟩) n n) n (pcs ks) := by
  subst hn hg hc
  have := World.ownsRow_lit (base := w.heap.size) (e := e) (size := 2) w (pcs ks).toArray ks.length zl (by unfold maxLen; omega) (by simp [pcs_len])
  simpa using this
end Go.Proofs.YtlkgjceddbclpaaGreat.Mta

