/-
  PLAIN FACTS, OF NO PROGRAM: the texts of a slice that came in are no greater than what memory bears. By an AI agent; no person has read it.
-/
import Derived.SizedLaws
import Derived.SliceStrings
import Derived.Test.YtamkepfhlfeiiaaQ1
namespace Go.Proofs.Ytamkepfhlfeiiaa.Elm
open Go Go.RowKit Go.ChangeShapes Wire

theorem weights_all {H : Type} {P : Program} {e : TypeId} : ∀ {ds : List (DataW H)} {d : DataW H}, d ∈ ds → ∀ n ∈ d.weights P e, n ∈ DataW.weightsAll P e ds
  | x :: r, d, h, n, hn => by
    simp only [DataW.weightsAll, List.mem_append]
    rcases List.mem_cons.1 h with rfl | h
    · exact .inl hn
    · exact .inr (weights_all h n hn)
theorem sized_elems {H : Type} {P : Program} {ts : List TypeId} {ds : List (DataW H)} (h : (DataW.weightsEach P ts ds).all (· ≤ reachBytes) = true) {j : Nat} {t e : TypeId} {xs ys : List ByteArray} (ht : ts[j]? = some t) (hd : ds[j]? = some (.slice (strs xs) (strs ys))) (hu : P.underlying t = some (.slice e)) :
    ∀ s ∈ xs ++ ys, s.size ≤ reachBytes := fun s hs => by
  have hw : s.data.toList.length ∈ DataW.weights P t (.slice (strs xs) (strs ys) : DataW H) := by
    simp only [DataW.weights, hu, List.mem_cons, List.mem_append]
    right
    rcases List.mem_append.1 hs with h | h
    · exact .inl (weights_all (d := .lit (.string s.data.toList)) (List.mem_map.2 ⟨s, h, rfl⟩) s.data.toList.length (by simp only [DataW.weights]; exact List.mem_singleton.2 rfl))
    · exact .inr (weights_all (d := .lit (.string s.data.toList)) (List.mem_map.2 ⟨s, h, rfl⟩) s.data.toList.length (by simp only [DataW.weights]; exact List.mem_singleton.2 rfl))
  have h2 := List.all_eq_true.1 h _ (DataW.weights_mem_each ht hd _ hw)
  rw [Lib.size_eq]
  simpa using h2
theorem sreads_sized {w : World} {a : Option Addr} {len cap M : Nat} {zs : List ByteArray}
    (h : (a = none ∧ len = 0 ∧ cap = 0 ∧ zs = []) ∨ ∃ x, a = some x ∧ len ≤ cap ∧ cap ≤ maxLen ∧ zs.length = cap ∧ (∀ i, i < zs.length → w.cell? (x.add i) = some (.string (zs.getD i ByteArray.empty))) ∧ ∀ s ∈ zs, s.size ≤ maxLen) (hM : ∀ s ∈ zs, s.size ≤ M) :
    ∃ ys : List ByteArray, ys.length = len ∧ len ≤ cap ∧ cap ≤ maxLen ∧ SReads w a ys ∧ ∀ s ∈ ys, s.size ≤ M := by
  obtain ⟨ys, e1, e2, e3, e4, _⟩ := sreads_of h
  refine ⟨ys, e1, e2, e3, e4, fun s hs => ?_⟩
  obtain ⟨j, hj, rfl⟩ := List.mem_iff_getElem.1 hs
  obtain ⟨b, off, ha, _, hc⟩ := e4 j hj
  rcases h with ⟨h, _⟩ | ⟨x, hx, _, _, hz, hcell, _⟩
  · rw [h] at ha; cases ha
  · rw [hx] at ha
    injection ha with ha
    subst ha
    have h2 := hcell j (by omega)
    rw [add_none, hc] at h2
    injection h2 with h2
    injection h2 with h2
    have h3 : ys[j] = zs.getD j ByteArray.empty := by rw [← h2]; simp [List.getD, hj]
    rw [h3, List.getD, List.getElem?_eq_getElem (show j < zs.length by omega)]
    exact hM _ (List.getElem_mem _)
end Go.Proofs.Ytamkepfhlfeiiaa.Elm
