/-
  'append(own, others...)' OF TEXTS. By an AI agent; no person has read it.
-/
import Derived.Test.YtamkepfhlfeiiaaPPut
import Derived.Laws.AppendOwnNone
import Derived.Laws.OwnMore
import Derived.OneCell
namespace Go.Proofs.Ytamkepfhlfeiiaa.Sto
open Go Go.RowKit Wire

set_option linter.unusedVariables false
theorem own_empty (w : World) : (w.alloc (.cells #[] 9)).ownsRow w.heap.size 9 1 (.slice (some ⟨w.heap.size, 0, none⟩) 0 0) 0 (sv []) := by
  have := World.ownsRow_lit (base := w.heap.size) (e := 9) (size := 1) w #[] 0 (Nat.le_refl _) (by decide) (by decide)
  simpa [sv] using this
/-- 'append(own, others...)' of texts. -/
theorem append_strs {w : World} {ops : Array Oper} {rest : List Oper} {o : Oper} {a : Act} {Q : Exit → Act → World → Prop} (hgd : o.guard = none) (s x : Operand)
    (ho : o.op = .call { callee := .builtin .append, args := #[s, x], argTypes := #[37, 37] }) (base : Nat)
    (v : Value) (k : Nat) (xs zs : List ByteArray) (hs : a.eval s = v) (hown : w.ownsRow base 9 1 v k (sv xs)) (hk : k = xs.length)
    (b : Option Addr) (n c : Nat) (hx : a.eval x = .slice b n c) (hn : n = zs.length) (hnil : b = none → c = 0) (hr : SReads w b zs)
    (hlen : k + zs.length ≤ 100000) (hbase : base ≤ w.heap.size)
    (h : ∀ v' w', w'.ownsRow base 9 1 v' (k + n) (sv (xs ++ zs)) → Below base w w' → wpList Try.prog ops Q rest (a.put o.dst v') w') : wpList Try.prog ops Q (o :: rest) a w := by
  obtain ⟨i0, hi0, hz0, hz1, hz2⟩ := info_parts str_info
  subst hn
  cases b with
  | none =>
    have hz : zs = [] := by
      cases zs with
      | nil => rfl
      | cons z t => obtain ⟨_, _, he, _⟩ := hr 0 (by simp); cases he
    subst hz
    rw [hnil rfl] at hx
    refine wpList_append_own_none hgd s x 37 ho base 9 i0 1 Try.underlying37 hi0 v k (sv xs) hs hown hx ?_
    exact h v w (by simpa [sv] using hown) (Below.refl _ _)
  | some ad =>
    refine wpList_append_own _ hgd s x 37 ho base 9 i0 _ 1 16 Try.underlying37 hi0 hz0 hz1 hz2 rfl (by decide) v k (sv xs) hs hown ad zs.length c (sv zs) hx (by simp [sv]) ?_ (sv_one zs) (by simp only [maxLen]; omega) (by omega) hbase ?_
    · intro j u hj
      have hjl : j < zs.length := by have := (List.getElem?_eq_some_iff.1 hj).1; simpa [sv] using this
      obtain ⟨b', o', he, _, hc⟩ := hr j hjl
      obtain rfl := Option.some.inj he
      have hu : u = .string (zs.getD j ByteArray.empty) := by
        simp [sv, hjl] at hj
        rw [← hj]; simp [List.getD, hjl]
      rw [hu, show ((⟨b', o', none⟩ : Addr).add j) = ⟨b', o' + j, none⟩ from by unfold Addr.add; split <;> simp_all]
      exact hc
    · intro v' w' hown' hgrow _
      exact h v' w' (by simpa [sv] using hown') (Below.grown (Below.refl _ _) hgrow hbase fun q hq => (hown.lt q hq).1)
end Go.Proofs.Ytamkepfhlfeiiaa.Sto
