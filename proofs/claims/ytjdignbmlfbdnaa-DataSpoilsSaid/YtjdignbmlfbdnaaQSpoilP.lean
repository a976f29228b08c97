/-
  PLAIN FACTS, OF NO PROGRAM: a blob's bytes with one byte changed are no blob's that opens. By an AI agent; no person has read it.
-/
import Derived.Test.YtjdignbmlfbdnaaQLawP
namespace Go.Proofs.Ytjdignbmlfbdnaa.Dta
open Wire Term Draw Reg Clo

/-- The bytes of a blob of epoch e, signed by its signer. -/
def rowE (e : Nat) (sl : Tm) : Tm := putAll [put e, sl, sigT e e sl]
theorem put_more {a b : Nat} (h : a ≤ b) : (put a).length ≤ (put b).length := by
  rw [put_len, put_len]
  have key : ∀ b a : Nat, a ≤ b → (dig a).length ≤ (dig b).length := by
    intro b
    induction b using Nat.strongRecOn with
    | ind b ih =>
      intro a hab
      by_cases h0 : a = 0
      · subst h0; rw [dig_zero]; exact Nat.zero_le _
      · rw [dig_pos h0, dig_pos (by omega : b ≠ 0), List.length_append, List.length_append]
        have := ih (b / 256) (by omega) (a / 256) (Nat.div_le_div_right hab)
        simp only [List.length_cons, List.length_nil]
        omega
  have := key b a h
  omega
theorem sig_len (e : Nat) (s : Tm) : (sigT e e s).length = 2 + (sgn e).length + (ofAtom e).length + s.length := by
  unfold sigT saidT
  simp only [List.length_cons, List.length_append]
  omega
theorem rowE_eq (e : Nat) (s : Tm) : rowE e s = put 3 ++ putText (put e) ++ put s.length ++ s ++ (put (sigT e e s).length ++ 103 :: sgn e ++ 112 :: ofAtom e) ++ s := by
  unfold rowE putAll
  simp only [List.flatMap_cons, List.flatMap_nil, List.append_nil, List.length_cons, List.length_nil]
  show put 3 ++ (putText (put e) ++ ((put s.length ++ s) ++ (put (sigT e e s).length ++ (103 :: (sgn e ++ (112 :: (ofAtom e ++ s))))))) = _
  simp only [List.append_assoc, List.cons_append]
theorem rowE_len {e : Nat} {s t : Tm} (h : s.length < t.length) : (rowE e s).length < (rowE e t).length := by
  rw [rowE_eq, rowE_eq]
  have h1 := put_more (a := s.length) (b := t.length) (by omega)
  have h3 := put_more (a := (sigT e e s).length) (b := (sigT e e t).length) (by rw [sig_len, sig_len]; omega)
  simp only [List.length_append, List.length_cons] at h3 ⊢
  omega
theorem rowE_one {e : Nat} {s t : Tm} (hl : (rowE e s).length = (rowE e t).length) {k : Nat} (hk : ∀ i, i ≠ k → (rowE e s)[i]? = (rowE e t)[i]?) : s = t := by
  have hlen : s.length = t.length := by
    rcases Nat.lt_trichotomy s.length t.length with h | h | h
    · have := rowE_len (e := e) h; omega
    · exact h
    · have := rowE_len (e := e) h; omega
  rw [rowE_eq, rowE_eq, show (sigT e e s).length = (sigT e e t).length by rw [sig_len, sig_len, hlen], hlen] at hk
  generalize put 3 ++ putText (put e) ++ put t.length = P at hk
  generalize put (sigT e e t).length ++ 103 :: sgn e ++ 112 :: ofAtom e = M at hk
  refine List.ext_getElem? fun i => ?_
  by_cases hi : i < t.length
  · by_cases hik : P.length + i = k
    · have h2 := hk (P.length + t.length + M.length + i) (by omega)
      have g : ∀ X : Tm, X.length = t.length → (P ++ X ++ M ++ X)[P.length + t.length + M.length + i]? = X[i]? := fun X hX => by
        rw [List.getElem?_append_right (by simp only [List.length_append]; omega)]
        congr 1
        simp only [List.length_append]; omega
      rw [g s hlen, g t rfl] at h2
      exact h2
    · have h2 := hk (P.length + i) hik
      have g : ∀ X : Tm, X.length = t.length → (P ++ X ++ M ++ X)[P.length + i]? = X[i]? := fun X hX => by
        rw [List.append_assoc, List.append_assoc, List.getElem?_append_right (by omega), show P.length + i - P.length = i by omega, List.getElem?_append_left (by omega)]
      rw [g s hlen, g t rfl] at h2
      exact h2
  · rw [List.getElem?_eq_none (by omega), List.getElem?_eq_none (by omega)]
theorem row_zero (s : Tm) : rowE 0 s = [1, 3, 1, 1, 0] ++ (putText s ++ putText (sigT 0 0 s)) := by
  unfold rowE putAll
  simp only [List.flatMap_cons, List.flatMap_nil, List.append_nil, List.length_cons, List.length_nil]
  show put 3 ++ (putText (put 0) ++ _) = _
  rw [put_zero, put_byte (n := 3) (by omega) (by omega)]
  show [1, 3] ++ ((put 1 ++ [0]) ++ _) = _
  rw [put_byte (n := 1) (by omega) (by omega)]
  rfl
theorem row_pos {e : Nat} (h0 : 0 < e) (h7 : e ≤ 7) (s : Tm) : rowE e s = [1, 3, 1, 2, 1, e.toUInt8] ++ (putText s ++ putText (sigT e e s)) := by
  unfold rowE putAll
  simp only [List.flatMap_cons, List.flatMap_nil, List.append_nil, List.length_cons, List.length_nil]
  show put 3 ++ (putText (put e) ++ _) = _
  rw [put_byte h0 (by omega), put_byte (n := 3) (by omega) (by omega)]
  show [1, 3] ++ ((put 2 ++ [1, e.toUInt8]) ++ _) = _
  rw [put_byte (n := 2) (by omega) (by omega)]
  rfl
/-- Two blobs' bytes of the same length that differ in at most one byte are the same. -/
theorem rows_one {a b : Nat} (ha : a ≤ 7) (hb : b ≤ 7) {s t : Tm} (hs : s.length ≤ 4000) (ht : t.length ≤ 4000) (hl : (rowE a s).length = (rowE b t).length) {k : Nat} (hk : ∀ i, i ≠ k → (rowE a s)[i]? = (rowE b t)[i]?) : a = b ∧ s = t := by
  by_cases hab : a = b
  · subst hab
    exact ⟨rfl, rowE_one hl hk⟩
  · exfalso
    have mix : ∀ {e : Nat} {s t : Tm}, 0 < e → e ≤ 7 → (∀ i, i ≠ k → (rowE 0 s)[i]? = (rowE e t)[i]?) → False := fun {e s t} h0 h7 h => by
      rw [row_zero, row_pos h0 h7] at h
      by_cases h3 : 3 = k
      · have h4 := h 4 (by omega)
        simp at h4
      · have h4 := h 3 h3
        simp at h4
    rcases Nat.eq_zero_or_pos a with rfl | ha0
    · exact mix (by omega) hb hk
    · rcases Nat.eq_zero_or_pos b with rfl | hb0
      · exact mix ha0 ha fun i hi => (hk i hi).symm
      · rw [row_pos ha0 ha, row_pos hb0 hb] at hk
        have h5 : 5 = k := by
          refine Classical.byContradiction fun h => ?_
          have h6 := hk 5 h
          simp only [List.cons_append, List.getElem?_cons_succ, List.getElem?_cons_zero, List.nil_append] at h6
          have h7 := congrArg UInt8.toNat (Option.some.inj h6)
          rw [u8_nat a (by omega), u8_nat b (by omega)] at h7
          exact hab h7
        have g : ∀ (x : UInt8) (R : Tm) (j : Nat), ([1, 3, 1, 2, 1, x] ++ R)[6 + j]? = R[j]? := fun x R j => by
          rw [List.getElem?_append_right (by simp)]
          simp
        have hR : putText s ++ putText (sigT a a s) = putText t ++ putText (sigT b b t) := by
          refine List.ext_getElem? fun j => ?_
          have h6 := hk (6 + j) (by omega)
          rw [g, g] at h6
          exact h6
        unfold putText at hR
        rw [List.append_assoc, List.append_assoc] at hR
        obtain ⟨e1, e2⟩ := put_inj (by omega) (by omega) hR
        obtain ⟨e3, e4⟩ := List.append_inj e2 e1
        subst e3
        have e5 : (sigT a a s).length = (sigT b b s).length ∧ sigT a a s = sigT b b s := put_inj (by rw [sig_len]; have := (sgn_sz (i := a) (by omega)).2; have := (put_le (n := a) (by omega)).2; unfold ofAtom; rw [List.length_cons]; omega) (by rw [sig_len]; have := (sgn_sz (i := b) (by omega)).2; have := (put_le (n := b) (by omega)).2; unfold ofAtom; rw [List.length_cons]; omega) e4
        have e6 : sgn a ++ saidT a s = sgn b ++ saidT b s := (List.cons.inj e5.2).2
        exact hab (sgn_inj (by omega) (by omega) (right_cut (sgn_right (by omega)) (sgn_right (by omega)) e6).1)
def pN' : Tm := [97, 110, 110, 97, 47, 110, 111, 116, 101, 115]
/-- One byte changed: what is still a blob is not opened. -/
theorem spoilt {n x : Nat} {c T : Tm} {k : Nat} {v : UInt8} (hn : n < 18446744073709551616) (hx : x ≤ 7) (hc : c.length ≤ 64) (hk : k < (row (bOf n x x pN' c)).length) (hv : (row (bOf n x x pN' c))[k]? ≠ some v) (hT : T = (row (bOf n x x pN' c)).set k v) (hp : isPath pN' = true) {b : Bb} (hb : takeB T = (b, 0)) : openB b (sgps 8) (rootS n) 7 pN' = ([], 7) := by
  obtain ⟨hbr, hrow⟩ := takeM_back hb
  have hbd := bOf_right hn hx (i := x) (by omega) hp hc
  obtain ⟨z, hz⟩ : ∃ z : Nat, b.ep = (z : Int) := ⟨b.ep.toNat, by have := hbr.1; omega⟩
  have hz7 : z ≤ 7 := by have := hbr.1; omega
  have hroot : right (rootS n) = true := st_right hn (k := 0) (by omega)
  unfold openB
  rw [if_neg (fun h => h ⟨hbr, hroot, by omega, by rw [sgps_len]; rfl⟩), if_neg (by omega)]
  by_cases hs : (said b.ep b.sl).2 = 0
  · rw [if_neg (fun h => h hs)]
    obtain ⟨h1, h2, h3, h4⟩ := two_ok (k := 112) (a := ofAtom b.ep.toNat) (b := b.sl) hs
    have h2 : (said b.ep b.sl).1 = saidT z b.sl := by
      rw [show (said b.ep b.sl).1 = 112 :: (ofAtom b.ep.toNat ++ b.sl) from h2, hz]; rfl
    rw [if_pos]
    intro hvf
    rw [h2, show (sgps 8).getD b.ep.toNat [] = sgp z by rw [hz, show ((z : Int)).toNat = z by omega]; exact sgps_get (by omega)] at hvf
    have hsd : right (saidT z b.sl) = true := by rw [← h2]; exact h1
    rw [verify_is (sgp_right (by omega)) rfl hsd (br_sg hbr).1] at hvf
    by_cases e : b.sg = 103 :: ((sgp z).tail ++ saidT z b.sl)
    · have hE : row b = rowE z b.sl := by
        unfold row rowE
        rw [hz, show ((z : Int)).toNat = z by omega, e]
        rfl
      have hD : row (bOf n x x pN' c) = rowE x (sealT n x pN' c) := by
        unfold row rowE bOf
        simp only
        rw [show ((x : Int)).toNat = x by omega]
      rw [hD] at hT hk hv
      have h5 := rows_one hz7 hx (br_lens hbr).1 (br_lens hbd).1 (k := k) (by rw [← hE, ← hrow, hT, List.length_set]; rfl) (fun i hi => by
        rw [← hE, ← hrow, hT, List.getElem?_set_ne (fun h => hi h.symm)]; rfl)
      obtain ⟨rfl, h6⟩ := h5
      have h7 : T = rowE z (sealT n z pN' c) := by rw [hrow, hE, h6]; rfl
      rw [hT] at h7
      have h8 := congrArg (fun l => l[k]?) h7
      rw [List.getElem?_set_self hk] at h8
      exact hv h8.symm
    · rw [if_neg e] at hvf
      exact absurd hvf (by decide)
  · rw [if_pos hs]
end Go.Proofs.Ytjdignbmlfbdnaa.Dta
