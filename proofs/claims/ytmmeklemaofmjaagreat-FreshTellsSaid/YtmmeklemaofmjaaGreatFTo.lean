/-
  WHAT THE LAWS' CALLS COME TO: secrets, public terms, stamps that a user builds, what a check says. By an AI agent; no person has read it.
-/
import Derived.Test.YtmmeklemaofmjaaGreatFHelp
import Derived.Test.YtmmeklemaofmjaaGreatFBuild
import Derived.Test.YtmmeklemaofmjaaGreatFRead
import Derived.Test.YtmmeklemaofmjaaGreatFCheck
namespace Go.Proofs.YtmmeklemaofmjaaGreat.Frs
open Go Go.RowKit Wire Term Draw Reg Clo

set_option linter.unusedSimpArgs false
set_option linter.unusedVariables false
theorem size_al (w : World) (o : Obj) : (w.alloc o).heap.size = w.heap.size + 1 := by simp
/-- Three, or four new variables. -/
theorem c5_three (w : World) (a b c d e a1 b1 c1 d1 e1 a2 b2 c2 d2 e2 : Value) (t : TypeId) : C5 w.heap.size (((w.alloc (.cells #[a, b, c, d, e] t)).alloc (.cells #[a1, b1, c1, d1, e1] t)).alloc (.cells #[a2, b2, c2, d2, e2] t)) a b c d e ∧ C5 (w.heap.size + 1) (((w.alloc (.cells #[a, b, c, d, e] t)).alloc (.cells #[a1, b1, c1, d1, e1] t)).alloc (.cells #[a2, b2, c2, d2, e2] t)) a1 b1 c1 d1 e1 ∧ C5 (w.heap.size + 2) (((w.alloc (.cells #[a, b, c, d, e] t)).alloc (.cells #[a1, b1, c1, d1, e1] t)).alloc (.cells #[a2, b2, c2, d2, e2] t)) a2 b2 c2 d2 e2 ∧ Below w.heap.size w (((w.alloc (.cells #[a, b, c, d, e] t)).alloc (.cells #[a1, b1, c1, d1, e1] t)).alloc (.cells #[a2, b2, c2, d2, e2] t)) := by
  obtain ⟨h1, h2, h3⟩ := c5_pair w a b c d e a1 b1 c1 d1 e1 t t
  have hs : ((w.alloc (.cells #[a, b, c, d, e] t)).alloc (.cells #[a1, b1, c1, d1, e1] t)).heap.size = w.heap.size + 2 := by rw [size_al, size_al]
  generalize (w.alloc (.cells #[a, b, c, d, e] t)).alloc (.cells #[a1, b1, c1, d1, e1] t) = wa at h1 h2 h3 hs
  have h4 := c5_new wa a2 b2 c2 d2 e2 t
  rw [hs] at h4
  have h5 : Below wa.heap.size wa (wa.alloc (.cells #[a2, b2, c2, d2, e2] t)) := (Below.refl _ wa).alloc (Nat.le_refl _) _
  exact ⟨h1.below h5, h2.below h5, h4, Bel.call h3 h5⟩
theorem c5_four (w : World) (a b c d e a1 b1 c1 d1 e1 a2 b2 c2 d2 e2 a3 b3 c3 d3 e3 : Value) (t : TypeId) : C5 w.heap.size ((((w.alloc (.cells #[a, b, c, d, e] t)).alloc (.cells #[a1, b1, c1, d1, e1] t)).alloc (.cells #[a2, b2, c2, d2, e2] t)).alloc (.cells #[a3, b3, c3, d3, e3] t)) a b c d e ∧ C5 (w.heap.size + 1) ((((w.alloc (.cells #[a, b, c, d, e] t)).alloc (.cells #[a1, b1, c1, d1, e1] t)).alloc (.cells #[a2, b2, c2, d2, e2] t)).alloc (.cells #[a3, b3, c3, d3, e3] t)) a1 b1 c1 d1 e1 ∧ C5 (w.heap.size + 2) ((((w.alloc (.cells #[a, b, c, d, e] t)).alloc (.cells #[a1, b1, c1, d1, e1] t)).alloc (.cells #[a2, b2, c2, d2, e2] t)).alloc (.cells #[a3, b3, c3, d3, e3] t)) a2 b2 c2 d2 e2 ∧ C5 (w.heap.size + 3) ((((w.alloc (.cells #[a, b, c, d, e] t)).alloc (.cells #[a1, b1, c1, d1, e1] t)).alloc (.cells #[a2, b2, c2, d2, e2] t)).alloc (.cells #[a3, b3, c3, d3, e3] t)) a3 b3 c3 d3 e3 ∧ Below w.heap.size w ((((w.alloc (.cells #[a, b, c, d, e] t)).alloc (.cells #[a1, b1, c1, d1, e1] t)).alloc (.cells #[a2, b2, c2, d2, e2] t)).alloc (.cells #[a3, b3, c3, d3, e3] t)) := by
  obtain ⟨h1, h2, h2', h3⟩ := c5_three w a b c d e a1 b1 c1 d1 e1 a2 b2 c2 d2 e2 t
  have hs : (((w.alloc (.cells #[a, b, c, d, e] t)).alloc (.cells #[a1, b1, c1, d1, e1] t)).alloc (.cells #[a2, b2, c2, d2, e2] t)).heap.size = w.heap.size + 3 := by rw [size_al, size_al, size_al]
  generalize ((w.alloc (.cells #[a, b, c, d, e] t)).alloc (.cells #[a1, b1, c1, d1, e1] t)).alloc (.cells #[a2, b2, c2, d2, e2] t) = wa at h1 h2 h2' h3 hs
  have h4 := c5_new wa a3 b3 c3 d3 e3 t
  rw [hs] at h4
  have h5 : Below wa.heap.size wa (wa.alloc (.cells #[a3, b3, c3, d3, e3] t)) := (Below.refl _ wa).alloc (Nat.le_refl _) _
  exact ⟨h1.below h5, h2.below h5, h2'.below h5, h4, Bel.call h3 h5⟩
theorem who_right {m : Nat} (h : m < 8) : Txt.right (Tre.whoN m).data.toList = true := by
  have : ∀ a : Fin 8, Txt.right (Tre.whoN a.1).data.toList = true := by decide +kernel
  exact this ⟨m, h⟩
theorem who_l12 (m : Nat) : (Tre.whoN m).data.toList.length ≤ 12 := by have := Tre.who_size m; rw [Lib.size_eq] at this; omega
theorem letter_is (l : Tm) : ∃ S : ByteArray, S.data.toList = l := ⟨⟨⟨l⟩⟩, rfl⟩
theorem sec_to {s K : ByteArray} (hs : s.size ≤ 12) (hK : K.data.toList = secU s.data.toList) (w : World) : Calls Tryz.prog 19 #[.string s] w fun e w' => e = .returned (.string K) ∧ Below w.heap.size w w' :=
  (secretOf_any s w hs).mono fun e w' h => by
    obtain ⟨⟨T, hT, rfl⟩, hb⟩ := h
    rw [str_eq (hT.trans hK.symm)]
    exact ⟨rfl, hb⟩
theorem pub_to {s P : ByteArray} (hs : s.size ≤ 12) (hP : P.data.toList = pubU s.data.toList) (w : World) : Calls Tryz.prog 20 #[.string s] w fun e w' => e = .returned (.string P) ∧ Below w.heap.size w w' :=
  (publicOf_any s w hs).mono fun e w' h => by
    obtain ⟨⟨T, hT, rfl⟩, hb⟩ := h
    rw [str_eq (hT.trans hP.symm)]
    exact ⟨rfl, hb⟩
/-- What a user's stamp of a row is. -/
structure Made (O : ByteArray) (t n : Nat) (l : List Tm) (R G : ByteArray) : Prop where
  own : Txt.right O.data.toList = true
  few : O.data.toList.length ≤ 12
  time : t < 18446744073709551616
  len : n = l.length
  eight : n ≤ 8
  root : rootS l = (R.data.toList, 0)
  rright : right R.data.toList = true
  sig : G.data.toList = sgT O.data.toList O.data.toList t n R.data.toList
  built : buildS (secU O.data.toList) O.data.toList t l = (⟨O.data.toList, t, n, R.data.toList, G.data.toList⟩, 0)
  ok : SR ⟨O.data.toList, t, n, R.data.toList, G.data.toList⟩
theorem made_is {O : ByteArray} (ho : Txt.right O.data.toList = true) (hl : O.data.toList.length ≤ 12) {t : Nat} (ht : t < 18446744073709551616) {l : List Tm} (h8 : l.length ≤ 8) (hs : Smalls l) : ∃ R G : ByteArray, Made O t l.length l R G := by
  obtain ⟨x, e1, e2, e3, e4⟩ := build_row ho hl ht h8 hs
  obtain ⟨R, rfl⟩ := letter_is x
  obtain ⟨G, hG⟩ := letter_is (sgT O.data.toList O.data.toList t l.length R.data.toList)
  rw [← hG] at e3 e4
  exact ⟨R, G, ho, hl, ht, rfl, h8, e1, e2, hG, e3, e4⟩
theorem Made.sizes {O : ByteArray} {t n : Nat} {l : List Tm} {R G : ByteArray} (h : Made O t n l R G) : O.size ≤ 12 ∧ R.size ≤ 4000 ∧ G.size ≤ 4000 := by
  have h1 := sr_lens h.ok
  exact ⟨by rw [Lib.size_eq]; exact h.few, by rw [Lib.size_eq]; exact h1.2.1, by rw [Lib.size_eq]; exact h1.2.2⟩
theorem build_to {O : ByteArray} {t n : Nat} {l : List Tm} {R G : ByteArray} (h : Made O t n l R G) {K : ByteArray} (hK : K.data.toList = secU O.data.toList) {A : Option Addr} {c : Nat} {ys : List ByteArray} (hy : bl ys = l) (hs : Smalls l) (hc : ys.length ≤ c ∧ c ≤ 9223372036854775807) (w : World) (hr : SReads w A ys) :
    Calls Tryz.prog 7 #[.string K, .string O, .int .u64 (t : Int), .slice A ys.length c] w fun e w' => e = .returned (.tuple #[.agg #[.string O, .int .u64 (t : Int), .int .i64 (n : Int), .string R, .string G], .int .i64 0]) ∧ Below w.heap.size w w' := by
  have hz := Tre.bl_sizes hy hs
  have h1 := h.few
  have h2 := (secU_sz h1).2
  have := cbuild_any K O t A c ys w (by rw [Lib.size_eq, hK]; omega) (by rw [Lib.size_eq]; omega) h.time hr hc.1 hc.2 (fun y hy => by have := hz y hy; omega)
  rw [hK, hy, h.built] at this
  refine this.mono fun e w' hh => ?_
  obtain ⟨O', R', G', a1, a2, a3, rfl⟩ := ss_open hh.1
  rw [str_eq a1, str_eq a2, str_eq a3]
  exact ⟨rfl, hh.2⟩
theorem check_is {O : ByteArray} {t : Nat} {m : Int} {R G P Q : ByteArray} {now bound : Nat} {v : Int} (hv : checkS ⟨O.data.toList, t, m, R.data.toList, G.data.toList⟩ P.data.toList Q.data.toList now bound = v) (h1 : O.size ≤ 100000) (h2 : R.size ≤ 100000) (h3 : G.size ≤ 100000) (h4 : P.size ≤ 100000) (ht : t < 18446744073709551616) (hn : now < 18446744073709551616) (hb : bound < 18446744073709551616) (w : World) :
    Calls Tryz.prog 15 #[.agg #[.string O, .int .u64 (t : Int), .int .i64 m, .string R, .string G], .string P, .string Q, .int .u64 (now : Int), .int .u64 (bound : Int)] w fun e w' => e = .returned (.int .i64 v) ∧ Below w.heap.size w w' := by
  have := fcheck_any O t m R G P Q now bound w (by omega) (by omega) (by omega) (by omega) ht hn hb
  rw [hv] at this
  exact this
/-- A stamp of a built one's signature, with any owner's public term, under any name. -/
theorem mix_to {O : ByteArray} {t n : Nat} {l : List Tm} {R G : ByteArray} (h : Made O t n l R G) {t' n' : Nat} {R' : ByteArray} (hs : SR ⟨O.data.toList, t', n', R'.data.toList, G.data.toList⟩) (ht' : t' < 18446744073709551616) {U P Q : ByteArray} (hU : U.data.toList.length ≤ 12) (hP : P.data.toList = pubU U.data.toList) {now bound : Nat} (hn : now < 18446744073709551616) (hb : bound < 18446744073709551616) {v : Int}
    (hv : (if U.data.toList = O.data.toList ∧ t' = t ∧ n' = n ∧ R'.data.toList = R.data.toList then (if O.data.toList ≠ Q.data.toList then 3 else if now < t' ∨ bound < now - t' then 8 else 0) else 7) = v) (w : World) :
    Calls Tryz.prog 15 #[.agg #[.string O, .int .u64 (t' : Int), .int .i64 (n' : Int), .string R', .string G], .string P, .string Q, .int .u64 (now : Int), .int .u64 (bound : Int)] w fun e w' => e = .returned (.int .i64 v) ∧ Below w.heap.size w w' := by
  obtain ⟨z1, z2, z3⟩ := h.sizes
  have z4 := sr_lens hs
  have h2 := (secU_sz hU).2
  have hn8 := h.eight
  have hs2 := hs
  rw [h.sig] at hs2
  refine check_is (v := v) ?_ (by omega) (by rw [Lib.size_eq]; have := z4.2.1; simp only at this; omega) (by omega) (by rw [Lib.size_eq, hP]; unfold pubU; rw [List.length_cons]; omega) ht' hn hb w
  rw [hP, h.sig, check_mix hU h.few h.time ht' (by omega) hs2]
  exact hv
theorem take_nil : takeS [] = (szero, 2) := by
  unfold takeS
  rcases takeM_err (m := 4000) (b := ([] : Tm)) with h | h
  · exfalso
    obtain ⟨x, hx⟩ : ∃ x, takeM 4000 ([] : Tm) = (x, 0) := ⟨(takeM 4000 []).1, by rw [← h]⟩
    have := (takeM_back hx).2.1
    have := congrArg List.length this
    unfold rowS putAll at this
    rw [List.length_append] at this
    have h5 : (put ([x.own, put x.time, put x.many.toNat, x.root, x.sig] : List Tm).length).length ≠ 0 := by
      show (put 5).length ≠ 0
      decide
    simp only [List.length_nil] at this
    omega
  · exact h
theorem take_to {l : Tm} {s : Sp} {f : Int} (h : takeS l = (s, f)) {B : ByteArray} (hB : B.data.toList = l) (hl : B.size ≤ 1000000) (w : World) : Calls Tryz.prog 11 #[.string B] w fun e w' => Ss (s, f) e ∧ Below w.heap.size w w' := by
  have := ftake_any B w hl
  rw [hB, h] at this
  exact this
theorem put_to {O : ByteArray} {t n : Nat} {l : List Tm} {R G : ByteArray} (h : Made O t n l R G) (w : World) : Calls Tryz.prog 9 #[.agg #[.string O, .int .u64 (t : Int), .int .i64 (n : Int), .string R, .string G]] w fun e w' => Sr (rowE O.data.toList t n R.data.toList, 0) e ∧ Below w.heap.size w w' := by
  obtain ⟨z1, z2, z3⟩ := h.sizes
  have := fput_any O t (n : Int) R G w (by omega) (by omega) (by omega) h.time
  unfold putS at this
  rw [if_pos h.ok] at this
  unfold rowS at this
  simp only [show ((n : Int)).toNat = n by omega, h.sig] at this
  exact this
theorem flat_row (l : List Tm) (h : ∀ t ∈ l, t.length ≤ 4000) : (l.flatMap putText).length ≤ l.length * 4009 := by
  induction l with
  | nil => simp
  | cons t l ih =>
    have h1 := ih fun x hx => h x (List.mem_cons_of_mem _ hx)
    have h2 := h t (List.mem_cons_self ..)
    have h3 := (put_le (n := t.length) (by omega)).2
    simp only [List.flatMap_cons, List.length_append, List.length_cons, putText_len]
    omega
theorem Made.bytes {O : ByteArray} {t n : Nat} {l : List Tm} {R G : ByteArray} (h : Made O t n l R G) : (rowE O.data.toList t n R.data.toList).length ≤ 50000 ∧ 0 < (rowE O.data.toList t n R.data.toList).length := by
  have h1 := sr_lens h.ok
  have h2 := (put_le h.time).2
  have h3 := (put_le (n := n) (by have := h.eight; omega)).2
  rw [h.sig] at h1
  simp only at h1
  unfold rowE
  have hall : ∀ x ∈ [O.data.toList, put t, put n, R.data.toList, sgT O.data.toList O.data.toList t n R.data.toList], x.length ≤ 4000 := by
    intro x hx
    simp only [List.mem_cons, List.not_mem_nil, or_false] at hx
    rcases hx with rfl | rfl | rfl | rfl | rfl <;> omega
  have h4 := flat_row _ hall
  have h5 := put_le (n := 5) (by decide)
  unfold putAll
  rw [List.length_append]
  simp only [List.length_cons, List.length_nil] at h4 ⊢
  rw [show 0 + 1 + 1 + 1 + 1 + 1 = 5 from rfl] at h4 ⊢
  omega
end Go.Proofs.YtmmeklemaofmjaaGreat.Frs
