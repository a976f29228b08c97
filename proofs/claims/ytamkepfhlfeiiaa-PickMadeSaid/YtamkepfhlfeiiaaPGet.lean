/-
  CONTRACTS of the document's store (letterlockref12): New, place, Get. By an AI agent; no person has read it.
-/
import Derived.Test.YtamkepfhlfeiiaaPMem
namespace Go.Proofs.Ytamkepfhlfeiiaa.Sto
open Go Go.RowKit Wire

set_option linter.unusedVariables false
set_option linter.unusedSimpArgs false
theorem RefAt.nil_rs {h gC cap : Nat} {rs : List Cl} {rb : Tm → Nat} {w : World} {s : Stt} (r : RefAt h gC cap true rs rb w s) : rs = [] := by
  rcases r.own.2 with ⟨_, h0⟩ | ⟨x, cp, cur, hv, _⟩
  · exact List.length_eq_zero_iff.1 h0
  · cases hv
theorem RefAt.at {h gC cap : Nat} {rs : List Cl} {rb : Tm → Nat} {w : World} {s : Stt} (r : RefAt h gC cap false rs rb w s) {i : Nat} {c : Cl} (hi : rs[i]? = some c) :
    (w.cell? ⟨gC, i * 3, none⟩ = some (.string c.k) ∧ w.cell? ⟨gC, i * 3 + 1, none⟩ = some c.v ∧ w.cell? ⟨gC, i * 3 + 2, none⟩ = some (.bool c.b)) ∧ ∀ j, w.frozen? ⟨gC, j, none⟩ = false := by
  have hil := (List.getElem?_eq_some_iff.1 hi).1
  obtain ⟨h1, h2, h3⟩ := flat_get hi
  have o := r.own
  simp only [Bool.false_eq_true, if_false] at o
  exact ⟨⟨(o.cellAt (i * 3) (by omega)).trans h1, (o.cellAt (i * 3 + 1) (by omega)).trans h2, (o.cellAt (i * 3 + 2) (by omega)).trans h3⟩, fun j => o.frozenAt j⟩
theorem RefAt.cap_le {h gC cap : Nat} {rs : List Cl} {rb : Tm → Nat} {w : World} {s : Stt} (r : RefAt h gC cap false rs rb w s) : rs.length ≤ cap ∧ cap ≤ 9223372036854775807 := by
  rcases r.own.2 with ⟨h1, _⟩ | ⟨x, cp, cur, hv, _, _, a3, a4, _⟩
  · cases h1
  · simp only [Bool.false_eq_true, if_false] at hv
    injection hv with _ _ hc
    rw [hc]; exact ⟨a3, a4⟩
def plc (rs : List Cl) (t : Tm) : Int := if t ∈ rs.map ky then (place rs t : Int) else -1
theorem plc_none {rs : List Cl} {t : Tm} (h : ∀ (j : Nat) (c : Cl), rs[j]? = some c → ky c ≠ t) : plc rs t = -1 := by
  unfold plc
  rw [if_neg]
  intro hm
  obtain ⟨c, h1, h2⟩ := place_in hm
  exact h _ _ h1 h2
theorem plc_at {rs : List Cl} {s : Stt} (hs : Says rs s) {t : Tm} {j : Nat} {c : Cl} (hj : rs[j]? = some c) (hc : ky c = t) : plc rs t = (j : Int) := by
  have hm : t ∈ rs.map ky := List.mem_map.2 ⟨c, List.mem_of_getElem? hj, hc⟩
  unfold plc
  rw [if_pos hm]
  obtain ⟨d, h1, h2⟩ := place_in hm
  rw [hs.at hj h1 (hc.trans h2.symm)]
set_option maxHeartbeats 4000000 in
set_option maxRecDepth 1000000 in
theorem place_c {h gC cap : Nat} {nl : Bool} {rs : List Cl} {rb : Tm → Nat} {s : Stt} (K : ByteArray) (w : World) (r : RefAt h gC cap nl rs rb w s) (hrs : rs.length ≤ 100000) : Calls Try.prog 37 #[.pointer (some ⟨h, 0, none⟩), .string K] w fun e w' => e = .returned (.int .i64 (plc rs K.data.toList)) ∧ w' = w := by
  have c0 := r.c0
  cases nl with
  | true =>
    obtain rfl := r.nil_rs
    simp only [if_true] at c0
    have HP : Hid (plc [] K.data.toList = -1) := rfl
    clear r
    go_enter Try.func37, Try.ntmps37
    go_wp2_with fail
    go_loopw [5] (fun i wr => i = .int .i64 0 ∧ wr = w) (fun _ _ => 0)
    case atStart => exact ⟨rfl, rfl⟩
    case round =>
      obtain ⟨rfl, rfl⟩ := hrel
      go_wp2
      go_ret
      exact ⟨rfl, rfl⟩
  | false =>
    simp only [Bool.false_eq_true, if_false] at c0
    have HR := Lib.hid r
    clear r
    go_enter Try.func37, Try.ntmps37
    go_wp2_with fail
    go_loopw [5] (fun i wr => ∃ j : Nat, j ≤ rs.length ∧ i = .int .i64 (j : Int) ∧ Hid (∀ (m : Nat) (c : Cl), m < j → rs[m]? = some c → ky c ≠ K.data.toList) ∧ wr = w) (fun i _ => rs.length - (intOf i).toNat)
    case atStart => exact ⟨0, Nat.zero_le _, rfl, Lib.hid (fun m c hm => absurd hm (Nat.not_lt_zero _)), rfl⟩
    case round =>
      obtain ⟨j, hj, rfl, HN, hw⟩ := hrel
      obtain rfl : w = wr := hw.symm
      by_cases hlt : (j : Int) < (rs.length : Int)
      · obtain ⟨c, hc⟩ : ∃ c, rs[j]? = some c := ⟨_, List.getElem?_eq_getElem (by omega)⟩
        obtain ⟨⟨q0, _, _⟩, _⟩ := HR.out.at hc
        have HC := Lib.hid hc
        have hj0 : (0 : Int) ≤ (j : Int) := by omega
        clear hc
        by_cases he : ky c = K.data.toList
        · have hb : (c.k.toList == K.toList) = true := by
            rw [Lib.toList_data, Lib.toList_data]; exact beq_iff_eq.2 he
          have HPL := Lib.hid (plc_at HR.out.says HC.out he)
          clear he
          go_wp2
          go_ret
          exact ⟨by rw [HPL.out]; rfl, rfl⟩
        · have hb : (c.k.toList == K.toList) = false := by
            rw [Lib.toList_data, Lib.toList_data]; exact beq_eq_false_iff_ne.2 he
          have HE := Lib.hid he
          clear he
          go_wp2
          go_roundw
          case rel =>
            refine ⟨j + 1, by omega, by go_num, Lib.hid (fun m d hm hd => ?_), trivial⟩
            rcases Nat.lt_succ_iff_lt_or_eq.1 hm with h1 | rfl
            · exact HN.out m d h1 hd
            · obtain rfl : c = d := Option.some.inj (HC.out.symm.trans hd)
              exact HE.out
          case measure => simp [intOf]; omega
      · have HPL : Hid (plc rs K.data.toList = -1) := plc_none fun m c hm => HN.out m c (by have := (List.getElem?_eq_some_iff.1 hm).1; omega) hm
        go_wp2
        go_ret
        exact ⟨by rw [HPL.out]; rfl, rfl⟩
theorem newr_st (w : World) (T : TypeId) : DR (w.alloc (.cells #[.slice none 0 0, .int .i64 0] T)) ⟨w.heap.size, 0, none⟩ (fun b => b = w.heap.size) s0 := by
  have hh := heap_alloc_new w (.cells #[.slice none 0 0, .int .i64 0] T)
  have hc : ∀ j, (w.alloc (.cells #[.slice none 0 0, .int .i64 0] T)).cell? ⟨w.heap.size, j, none⟩ = (#[.slice none 0 0, .int .i64 0] : Array Value)[j]? := fun j => cell_of_row _ _ _ _ _ _ hh
  have hf : ∀ j, (w.alloc (.cells #[.slice none 0 0, .int .i64 0] T)).frozen? ⟨w.heap.size, j, none⟩ = false := fun j => by
    unfold World.frozen?
    rw [hh]; simp
  refine ⟨w.heap.size, 0, 0, true, [], fun _ => 0, rfl, ⟨(hc 0).trans rfl, (hc 1).trans rfl, hf 0, hf 1, World.ownsRow_nil _ _ _ _, ⟨List.Pairwise.nil, (fun t => ?_), (fun c hc => by cases hc)⟩, (fun c hc => by cases hc), (fun h => by cases h), (fun c hc => by cases hc), (fun c hc => by cases hc), Nat.le_refl _⟩, (fun b => ?_)⟩
  · constructor
    · intro h; exact absurd rfl h
    · intro h; cases h
  · unfold Xr
    constructor
    · exact .inl
    · rintro (h | ⟨h, _⟩ | ⟨c, hc, _⟩)
      · exact h
      · cases h
      · cases hc
set_option maxHeartbeats 4000000 in
set_option maxRecDepth 1000000 in
theorem newr_c (w : World) : Calls Try.prog 26 #[] w fun e w' => ∃ (a : Addr) (X : Nat → Prop), e = .returned (.pointer (some a)) ∧ DR w' a X s0 ∧ (∀ b, X b → w.heap.size ≤ b) ∧ Below w.heap.size w w' := by
  have HN := fun T => Lib.hid (newr_st w T)
  have HB : ∀ o, Hid (Below w.heap.size w (w.alloc o)) := fun o => (Below.refl w.heap.size w).alloc (Nat.le_refl _) o
  go_enter Try.func26, Try.ntmps26
  go_wp2_with fail
  go_ret
  exact ⟨_, _, rfl, (HN _).out, (fun b hb => Nat.le_of_eq hb.symm), (HB _).out⟩
end Go.Proofs.Ytamkepfhlfeiiaa.Sto
