/-
  WHAT THE DOCUMENT's STORE LISTS, pure. By an AI agent; no person has read it.
-/
import Derived.Test.YtamkepfhlfeiiaaPRise
namespace Go.Proofs.Ytamkepfhlfeiiaa.Sto
open Go Go.RowKit Wire

set_option linter.unusedVariables false
def pickd (p : Tm) (rs : List Cl) : List Tm := (rs.filter fun c => c.b && p.isPrefixOf (ky c)).map ky
theorem pickd_len (p : Tm) (rs : List Cl) : (pickd p rs).length ≤ rs.length := by unfold pickd; rw [List.length_map]; exact List.length_filter_le _ _
theorem pickd_step {p : Tm} {rs : List Cl} {j : Nat} {c : Cl} (h : rs[j]? = some c) : pickd p (rs.take (j + 1)) = pickd p (rs.take j) ++ (if (c.b && p.isPrefixOf (ky c)) = true then [ky c] else []) := by
  unfold pickd
  rw [List.take_add_one, h, List.filter_append, List.map_append]
  congr 1
  simp only [Option.toList_some, List.filter_cons, List.filter_nil]
  cases (c.b && p.isPrefixOf (ky c)) <;> rfl
theorem pickd_no {p : Tm} {rs : List Cl} {j : Nat} {c : Cl} (h : rs[j]? = some c) (hb : (c.b && p.isPrefixOf (ky c)) = false) : pickd p (rs.take (j + 1)) = pickd p (rs.take j) := by rw [pickd_step h, hb]; simp
theorem pickd_yes {p : Tm} {rs : List Cl} {j : Nat} {c : Cl} (h : rs[j]? = some c) (hb : (c.b && p.isPrefixOf (ky c)) = true) : pickd p (rs.take (j + 1)) = pickd p (rs.take j) ++ [ky c] := by rw [pickd_step h, if_pos hb]
theorem pickd_mem {rs : List Cl} {s : Stt} (h : Says rs s) (hf : Fine s) (p x : Tm) : x ∈ pickd p rs ↔ (s.is x = true ∧ p <+: x) := by
  unfold pickd
  constructor
  · intro hx
    obtain ⟨c, hc, rfl⟩ := List.mem_map.1 hx
    obtain ⟨h1, h2⟩ := List.mem_filter.1 hc
    rw [Bool.and_eq_true] at h2
    exact ⟨by rw [← h.is c h1]; exact h2.1, List.isPrefixOf_iff_prefix.1 h2.2⟩
  · rintro ⟨h1, h2⟩
    obtain ⟨c, hc, rfl⟩ := List.mem_map.1 ((h.all x).1 (hf.had x h1))
    exact List.mem_map.2 ⟨c, List.mem_filter.2 ⟨hc, by rw [Bool.and_eq_true]; exact ⟨by rw [h.is c hc]; exact h1, List.isPrefixOf_iff_prefix.2 h2⟩⟩, rfl⟩
theorem pickd_nodup {rs : List Cl} {s : Stt} (h : Says rs s) (p : Tm) : (pickd p rs).Nodup := List.Nodup.sublist (List.Sublist.map ky List.filter_sublist) h.nodup
theorem lists_of {rs : List Cl} {s : Stt} (h : Says rs s) (hf : Fine s) {p : Tm} {l : List Tm} (hp : l.Perm (pickd p rs)) (hr : Rising l) : Lists s p l := ⟨hr, fun x => by rw [hp.mem_iff, pickd_mem h hf]⟩
theorem pickd_small {rs : List Cl} {s : Stt} (h : Says rs s) (hf : Fine s) (p : Tm) : ∀ t ∈ pickd p rs, t.length ≤ 1000 := fun t ht => by
  have := (hf.key t (hf.had t ((pickd_mem h hf p t).1 ht).1)).2
  omega
/-- The head of a text, as it is cut. -/
theorem pre_cut {K P : ByteArray} (h : P.size ≤ K.size) : P.data.toList.isPrefixOf K.data.toList = decide ((K.extract 0 P.size).data.toList = P.data.toList) := by
  rw [Lib.extract_data, List.drop_zero, Nat.sub_zero]
  cases hd : decide (K.data.toList.take P.size = P.data.toList) with
  | true =>
    rw [List.isPrefixOf_iff_prefix, List.prefix_iff_eq_take, ← Lib.size_eq]
    exact (of_decide_eq_true hd).symm
  | false =>
    cases hp : P.data.toList.isPrefixOf K.data.toList with
    | false => rfl
    | true =>
      rw [List.isPrefixOf_iff_prefix, List.prefix_iff_eq_take, ← Lib.size_eq] at hp
      exact absurd hp.symm (of_decide_eq_false hd)
theorem pre_long {K P : ByteArray} (h : ¬ P.size ≤ K.size) : P.data.toList.isPrefixOf K.data.toList = false := by
  cases hp : P.data.toList.isPrefixOf K.data.toList with
  | false => rfl
  | true =>
    have := (List.isPrefixOf_iff_prefix.1 hp).length_le
    rw [← Lib.size_eq, ← Lib.size_eq] at this
    exact absurd this h
/-- What the walk reads of a cell. -/
def D4 (h gC i : Nat) (w : World) (V : Value) (k : ByteArray) (b : Bool) : Prop := (h < w.heap.size ∧ gC < w.heap.size) ∧ w.cell? ⟨h, 0, none⟩ = some V ∧ w.cell? ⟨gC, i * 3, none⟩ = some (.string k) ∧ w.cell? ⟨gC, i * 3 + 2, none⟩ = some (.bool b)
theorem D4.below {h gC i : Nat} {w w1 : World} {V : Value} {k : ByteArray} {b : Bool} (hd : D4 h gC i w V k b) (hb : Below w.heap.size w w1) : D4 h gC i w1 V k b := by
  obtain ⟨⟨h0, h1⟩, h2, h3, h4⟩ := hd
  exact ⟨⟨Nat.lt_of_lt_of_le h0 hb.size, Nat.lt_of_lt_of_le h1 hb.size⟩, (hb.cell (p := ⟨h, _, none⟩) h0).trans h2, (hb.cell (p := ⟨gC, _, none⟩) h1).trans h3, (hb.cell (p := ⟨gC, _, none⟩) h1).trans h4⟩
/-- The row on its way. -/
structure LSt (w wr : World) (v : Value) (ls : List ByteArray) : Prop where
  own : wr.ownsRow w.heap.size 9 1 v ls.length (sv ls)
  bel : Below w.heap.size w wr
theorem LSt.below {w wr w1 : World} {v : Value} {ls : List ByteArray} (h : LSt w wr v ls) (hb : Below wr.heap.size wr w1) : LSt w w1 v ls := ⟨own_below h.own hb (Nat.le_refl _), bel_call h.bel hb⟩
set_option maxHeartbeats 2000000 in
set_option maxRecDepth 1000000 in
theorem rising_nil (w : World) : Calls Try.prog 45 #[.slice none 0 0] w fun e w' => e = .returned (.slice none 0 0) ∧ w' = w := by
  go_enter Try.func45, Try.ntmps45
  go_wp2_with fail
  go_loopw [3] (fun i wr => i = .int .i64 1 ∧ wr = w) (fun i _ => 0)
  case atStart => exact ⟨rfl, rfl⟩
  case round =>
    obtain ⟨rfl, rfl⟩ := hrel
    go_wp2_with fail
    go_ret
    exact ⟨rfl, rfl⟩
end Go.Proofs.Ytamkepfhlfeiiaa.Sto
