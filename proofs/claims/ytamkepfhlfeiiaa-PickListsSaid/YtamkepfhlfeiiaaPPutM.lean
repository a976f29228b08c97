/-
  THE DOCUMENT'S STORE BEHIND A PUT, in memory. By an AI agent; no person has read it.
-/
import Derived.Test.YtamkepfhlfeiiaaPSet
import Derived.Test.YtamkepfhlfeiiaaSTPut
namespace Go.Proofs.Ytamkepfhlfeiiaa.Sto
open Go Go.RowKit Wire

set_option linter.unusedVariables false
set_option linter.unusedSimpArgs false
theorem says_put_old {rs : List Cl} {s : Stt} (h : Says rs s) {i : Nat} {c : Cl} (hi : rs[i]? = some c) (v : Value) (B : Tm) : Says (rs.set i ⟨c.k, v, true⟩) (putD s (ky c) B) := by
  have hm := map_set_ky (c' := ⟨c.k, v, true⟩) hi rfl
  refine ⟨by rw [hm]; exact h.nodup, fun t => ?_, fun d hd => ?_⟩
  · rw [hm]
    show (if t = ky c then s.ver (ky c) ++ [B] else s.ver t) ≠ [] ↔ _
    by_cases e : t = ky c
    · rw [if_pos e, e]
      exact ⟨fun _ => List.mem_map_of_mem (List.mem_of_getElem? hi), fun _ => by simp⟩
    · rw [if_neg e]; exact h.all t
  · obtain ⟨j, hj⟩ := List.mem_iff_getElem?.1 hd
    rcases set_at hj with ⟨_, rfl, _⟩ | ⟨hne, hj'⟩
    · show true = (decide (ky c = ky c) || _); simp
    · show d.b = (decide (ky d = ky c) || s.is (ky d))
      rw [decide_eq_false (fun e => hne (h.at hj' hi e)), h.is d (List.mem_of_getElem? hj')]; rfl
theorem says_put_new {rs : List Cl} {s : Stt} (h : Says rs s) (hf : Fine s) {K : ByteArray} (hK : s.ver K.data.toList = []) (v : Value) (B : Tm) : Says (rs ++ [⟨K, v, true⟩]) (putD s K.data.toList B) := by
  have hn : K.data.toList ∉ rs.map ky := fun hm => (h.all _).2 hm hK
  have hmap : (rs ++ [(⟨K, v, true⟩ : Cl)]).map ky = rs.map ky ++ [K.data.toList] := by rw [List.map_append]; rfl
  refine ⟨?_, fun t => ?_, fun d hd => ?_⟩
  · rw [hmap]
    refine List.nodup_append.2 ⟨h.nodup, by simp, fun a ha b hb => ?_⟩
    rw [List.mem_singleton.1 hb]
    exact fun e => hn (e ▸ ha)
  · rw [hmap, List.mem_append, List.mem_singleton]
    show (if t = K.data.toList then s.ver K.data.toList ++ [B] else s.ver t) ≠ [] ↔ _
    by_cases e : t = K.data.toList
    · rw [if_pos e]; simp [e]
    · rw [if_neg e, h.all t]; simp [e]
  · rcases List.mem_append.1 hd with hd | hd
    · show d.b = (decide (ky d = K.data.toList) || s.is (ky d))
      have hne : ¬ ky d = K.data.toList := fun e => hn (by rw [← e]; exact List.mem_map_of_mem hd)
      rw [decide_eq_false hne, h.is d hd]; rfl
    · rw [List.mem_singleton.1 hd]
      show true = (decide (K.data.toList = K.data.toList) || _); simp
def rbN (rb : Tm → Nat) (gg : Nat) (k t : Tm) : Nat := if t = k then gg else rb t
/-- All that a Put of the document's leaves. -/
theorem RefAt.putF {h gC cap gC' cap' gg : Nat} {nl : Bool} {rs rs' : List Cl} {rb : Tm → Nat} {w wF : World} {s : Stt} {k B : Tm} {nv : Value} (r : RefAt h gC cap nl rs rb w s) {X : Nat → Prop} (hx : ∀ b, X b ↔ Xr h gC nl rs rb b)
    (c0 : wF.cell? ⟨h, 0, none⟩ = some (.slice (some ⟨gC', 0, none⟩) rs'.length cap')) (c1 : wF.cell? ⟨h, 1, none⟩ = some (.int .i64 ((s.n : Int) + 1))) (f0 : wF.frozen? ⟨h, 0, none⟩ = false) (f1 : wF.frozen? ⟨h, 1, none⟩ = false)
    (own : wF.ownsRow 0 75 3 (.slice (some ⟨gC', 0, none⟩) rs'.length cap') rs'.length (flat rs')) (says : Says rs' (putD s k B)) (row : RowAt wF nv gg (s.ver k ++ [B]))
    (oth : ∀ c ∈ rs, ky c ≠ k → wF.heap[rb (ky c)]? = w.heap[rb (ky c)]?) (mem : ∀ d ∈ rs', (ky d = k ∧ d.v = nv) ∨ (d ∈ rs ∧ ky d ≠ k))
    (hC : gC' ≠ h) (hg : gg ≠ h) (hgC : gg ≠ gC') (ocC : ∀ c ∈ rs, ky c ≠ k → rb (ky c) ≠ gC' ∧ rb (ky c) ≠ gg)
    (nC : (nl = false ∧ gC' = gC) ∨ w.heap.size ≤ gC') (nG : (∃ c ∈ rs, ky c = k ∧ rb k = gg) ∨ w.heap.size ≤ gg) (len : rs'.length ≤ s.n + 1) :
    ∃ X', DR wF ⟨h, 0, none⟩ X' (putD s k B) ∧ ∀ b, X' b → X b ∨ w.heap.size ≤ b := by
  have keyv : ∀ d, (ky d = k → (rbN rb gg k) (ky d) = gg) ∧ (ky d ≠ k → (rbN rb gg k) (ky d) = rb (ky d)) := fun d => ⟨fun e => if_pos e, fun e => if_neg e⟩
  refine ⟨Xr h gC' false rs' (rbN rb gg k), ⟨h, gC', cap', false, rs', rbN rb gg k, rfl, ⟨by simpa using c0, by rw [c1]; show _ = some (Value.int .i64 ((s.n + 1 : Nat) : Int)); simp, f0, f1, by simpa using own, says, fun d hd => ?_, fun _ => hC, fun d hd => ?_, fun d hd d2 hd2 e => ?_, len⟩, fun b => Iff.rfl⟩, fun b hb => ?_⟩
  · rcases mem d hd with ⟨h1, h2⟩ | ⟨h1, h2⟩
    · rw [(keyv d).1 h1, h2]
      have : (putD s k B).ver (ky d) = s.ver k ++ [B] := by show (if ky d = k then _ else _) = _; rw [if_pos h1]
      rw [this]; exact row
    · rw [(keyv d).2 h2]
      have : (putD s k B).ver (ky d) = s.ver (ky d) := by show (if ky d = k then _ else _) = _; rw [if_neg h2]
      rw [this]; exact (r.rows d h1).move (oth d h1 h2)
  · rcases mem d hd with ⟨h1, _⟩ | ⟨h1, h2⟩
    · rw [(keyv d).1 h1]; exact ⟨hg, fun _ => hgC⟩
    · rw [(keyv d).2 h2]; exact ⟨(r.off d h1).1, fun _ => (ocC d h1 h2).1⟩
  · rcases mem d hd with ⟨h1, _⟩ | ⟨h1, h2⟩
    · rcases mem d2 hd2 with ⟨h3, _⟩ | ⟨h3, h4⟩
      · rw [h1, h3]
      · rw [(keyv d).1 h1, (keyv d2).2 h4] at e
        exact absurd e.symm (ocC d2 h3 h4).2
    · rcases mem d2 hd2 with ⟨h3, _⟩ | ⟨h3, h4⟩
      · rw [(keyv d).2 h2, (keyv d2).1 h3] at e
        exact absurd e (ocC d h1 h2).2
      · rw [(keyv d).2 h2, (keyv d2).2 h4] at e
        exact r.inj d h1 d2 h3 e
  · rcases hb with hb | ⟨_, hb⟩ | ⟨d, hd, hb⟩
    · exact .inl ((hx b).2 (.inl hb))
    · rcases nC with ⟨h1, h2⟩ | h1
      · exact .inl ((hx b).2 (.inr (.inl ⟨h1, hb.trans h2⟩)))
      · exact .inr (by omega)
    · rcases mem d hd with ⟨h1, _⟩ | ⟨h1, h2⟩
      · rw [(keyv d).1 h1] at hb
        rcases nG with ⟨c, hc, hck, hr⟩ | h3
        · exact .inl ((hx b).2 (.inr (.inr ⟨c, hc, by rw [hck, hr, hb]⟩)))
        · exact .inr (by omega)
      · rw [(keyv d).2 h2] at hb
        exact .inl ((hx b).2 (.inr (.inr ⟨d, h1, hb⟩)))
end Go.Proofs.Ytamkepfhlfeiiaa.Sto
