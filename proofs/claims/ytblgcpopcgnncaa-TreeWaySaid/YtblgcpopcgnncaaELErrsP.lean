/-
  WHAT THE LAWS LEAN ON: trees of rows that are none, leaves told. By an AI agent; no person has read it.
-/
import Derived.Test.YtblgcpopcgnncaaEApp
import Derived.Test.YtblgcpopcgnncaaE3
namespace Go.Proofs.Ytblgcpopcgnncaa.Tre
open Go Go.RowKit Wire Term Draw Reg Clo

set_option linter.unusedSimpArgs false
set_option linter.unusedVariables false
theorem bad_root {xs : List Tm} {s : Tm} (h : isLeaf s = false) (hs : s ∈ xs) : root xs = ([], 1) := by
  unfold root
  split
  · rfl
  · rw [if_pos (fun hh => by rw [hh s hs] at h; cases h)]
theorem many_root {xs : List Tm} (h : xs.length < 1 ∨ 8 < xs.length) : root xs = ([], 1) := by
  unfold root
  rw [if_pos h]
theorem bad_proof {xs : List Tm} {i : Int} (h : root xs = ([], 1)) : proofT xs i = ([], 1) := by
  unfold proofT
  rw [h, if_pos (show ¬ (1 : Int) = 0 by decide)]
theorem place_proof {xs : List Tm} {i : Int} {x : Tm} (h : root xs = (x, 0)) (hi : i < 0 ∨ (xs.length : Int) ≤ i) : proofT xs i = ([], 1) := by
  unfold proofT
  rw [h, if_neg (fun h => h rfl), if_pos hi]
theorem good_proof {xs : List Tm} {i : Int} {x : Tm} (h : root xs = (x, 0)) (hi : ¬ (i < 0 ∨ (xs.length : Int) ≤ i)) : proofT xs i = (besideD 4 xs i.toNat, 0) := by
  unfold proofT
  rw [h, if_neg (fun h => h rfl), if_neg hi]
theorem ver_bad {r t : Tm} {n i : Int} {p : List Tm} (h : isLeaf t = false) : verifyT r n i t p = false := decide_eq_false (fun hh => by rw [hh.2.2.2.2.1] at h; cases h)
theorem leaf_cases (s : ByteArray) (hs : s.size ≤ 140737488355328) :
    (isLeaf s.data.toList = false ∧ ∀ w, Calls Try.prog 26 #[.string s] w fun e w' => Ta ([], 1) e w' ∧ Below w.heap.size w w') ∨
    (isLeaf s.data.toList = false ∧ (∃ P, ∀ w, Calls Try.prog 26 #[.string s] w fun e w' => Ta (P, 0) e w' ∧ Below w.heap.size w w') ∧ ∃ k : Nat, k ≠ 112 ∧ ∀ w, Calls Try.prog 22 #[.string s] w fun e w' => e = .returned (.int .u8 (k : Int)) ∧ Below w.heap.size w w') ∨
    (∃ (p q : Tm) (ka kb : Nat), isLeaf s.data.toList = (decide (ka = 116) && decide (kb = 97)) ∧ (∀ w, Calls Try.prog 26 #[.string s] w fun e w' => Ta ([p, q], 0) e w' ∧ Below w.heap.size w w') ∧
      (∀ w, Calls Try.prog 22 #[.string s] w fun e w' => e = .returned (.int .u8 112) ∧ Below w.heap.size w w') ∧
      (∀ (P : ByteArray) w, P.data.toList = p → Calls Try.prog 22 #[.string P] w fun e w' => e = .returned (.int .u8 (ka : Int)) ∧ Below w.heap.size w w') ∧
      (∀ (P : ByteArray) w, P.data.toList = q → Calls Try.prog 22 #[.string P] w fun e w' => e = .returned (.int .u8 (kb : Int)) ∧ Below w.heap.size w w')) := by
  cases hr : right s.data.toList with
  | false =>
    left
    refine ⟨?_, fun w => ?_⟩
    · unfold isLeaf; rw [kind_wrong hr]; rfl
    · have := t_Parts s w hs
      rw [parts_wrong hr] at this
      exact this
  | true =>
    right
    have hpp : parts s.data.toList = (pts s.data.toList, 0) := by unfold pts parts; rw [if_pos hr]
    by_cases hk : kind s.data.toList = 112
    · right
      have hh : s.data.toList.headD 0 = 112 := by
        rw [kind_right hr] at hk
        exact UInt8.toNat_inj.1 hk
      obtain ⟨p, q, hpq, hp, hq⟩ : ∃ a b, pts s.data.toList = [a, b] ∧ right a = true ∧ right b = true := by
        cases hx : s.data.toList with
        | nil => rw [hx] at hh; exact absurd hh (by decide)
        | cons k r =>
          rw [hx] at hh hr
          have h1 : k = 112 := hh
          subst h1
          obtain ⟨y, z, e1, e2, e3, e4, _⟩ := pts_two hr (.inl rfl)
          exact ⟨y, z, e2, e3, e4⟩
      have l1 := right_len hp
      have l2 := right_len hq
      refine ⟨p, q, kind p, kind q, ?_, fun w => ?_, fun w => ?_, fun P w hP => ?_, fun P w hP => ?_⟩
      · unfold isLeaf
        rw [hk, hpq, kind_right hp, kind_right hq]
        have e1 : decide (p.headD 0 = 116) = decide ((p.headD 0).toNat = 116) := decide_eq_decide.2 ⟨fun h => by rw [h]; rfl, fun h => UInt8.toNat_inj.1 h⟩
        have e2 : decide (q.headD 0 = 97) = decide ((q.headD 0).toNat = 97) := decide_eq_decide.2 ⟨fun h => by rw [h]; rfl, fun h => UInt8.toNat_inj.1 h⟩
        rw [← e1, ← e2]
        rfl
      · have := t_Parts s w hs
        rw [hpp, hpq] at this
        exact this
      · have := t_Kind s w hs
        rw [hk] at this
        exact this
      · have := t_Kind P w (by rw [Lib.size_eq, hP]; omega)
        rw [hP] at this
        exact this
      · have := t_Kind P w (by rw [Lib.size_eq, hP]; omega)
        rw [hP] at this
        exact this
    · left
      refine ⟨?_, ⟨pts s.data.toList, fun w => ?_⟩, kind s.data.toList, hk, fun w => t_Kind s w hs⟩
      · unfold isLeaf; rw [decide_eq_false hk]; rfl
      · have := t_Parts s w hs
        rw [hpp] at this
        exact this
theorem sz_snoc {qs : List ByteArray} {s : ByteArray} (h : ∀ y ∈ qs, y.size ≤ 140737488355328) (hs : s.size ≤ 140737488355328) : ∀ y ∈ qs ++ [s], y.size ≤ 140737488355328 := fun y hy => by
  rcases List.mem_append.1 hy with h1 | h1
  · exact h y h1
  · rw [List.mem_singleton.1 h1]; exact hs
theorem sz_cons {qs : List ByteArray} {s : ByteArray} (h : ∀ y ∈ qs, y.size ≤ 140737488355328) (hs : s.size ≤ 140737488355328) : ∀ y ∈ s :: qs, y.size ≤ 140737488355328 := fun y hy => by
  rcases List.mem_cons.1 hy with h1 | h1
  · rw [h1]; exact hs
  · exact h y h1
theorem two_cells {w : World} {g o : Nat} {a b : ByteArray} (h : SReads w (some ⟨g, o, none⟩) [a, b]) : w.cell? ⟨g, o, none⟩ = some (.string a) ∧ w.cell? ⟨g, o + 1, none⟩ = some (.string b) := by
  obtain ⟨g', o', e, _, h0, h1⟩ := two_reads h
  injection e with e
  injection e with e1 e2 _
  subst e1; subst e2
  exact ⟨h0, h1⟩
theorem root_any_to {l : List Tm} {x : Tm × Int} (he : root l = x) {A : Option Addr} {c : Nat} {ys : List ByteArray} (hy : bl ys = l) (hc : ys.length ≤ c ∧ c ≤ 9223372036854775807) (hz : ∀ y ∈ ys, y.size ≤ 140737488355328) (w : World) (hr : SReads w A ys) :
    Calls Try.prog 13 #[.slice A ys.length c] w fun e w' => Sr x e ∧ Below w.heap.size w w' := by
  have := croot_any A c ys w hr hc.1 hc.2 hz
  rw [hy, he] at this
  exact this
theorem proof_any_to {l : List Tm} {i : Int} {x : List Tm × Int} (he : proofT l i = x) {A : Option Addr} {c : Nat} {ys : List ByteArray} (hy : bl ys = l) (hc : ys.length ≤ c ∧ c ≤ 9223372036854775807) (hz : ∀ y ∈ ys, y.size ≤ 140737488355328) (w : World) (hr : SReads w A ys) :
    Calls Try.prog 15 #[.slice A ys.length c, .int .i64 i] w fun e w' => Pb w w' x e ∧ Below w.heap.size w w' := by
  have := cproof_any i A c ys w hr hc.1 hc.2 hz
  rw [hy, he] at this
  exact this
end Go.Proofs.Ytblgcpopcgnncaa.Tre
