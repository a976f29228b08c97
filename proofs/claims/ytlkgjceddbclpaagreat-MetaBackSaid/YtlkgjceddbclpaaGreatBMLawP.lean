/-
  MLawP. By an AI agent.
-/
import Derived.Test.YtlkgjceddbclpaaGreatBZ
import Derived.Test.YtlkgjceddbclpaaGreatBMBuilt
namespace Go.Proofs.YtlkgjceddbclpaaGreat.Mta
open Wire Term Rig Draw Reg

theorem made_is {l t : Tm} (h : (made l).2 = 0) (ht : (made l).1 = t) : t = l ∧ right l = true := by
  unfold made at h ht
  split at h
  · rename_i hr
    rw [if_pos hr] at ht
    exact ⟨ht.symm, hr⟩
  · cases h
theorem verify_is {p a s : Tm} (hp : right p = true) (hk : p.headD 0 = 117) (ha : right a = true) (hs : right s = true) : verify p a s = if s = 103 :: (p.tail ++ a) then 0 else 7 := by
  unfold verify
  rw [if_pos ⟨hp, ha, hs⟩]
  by_cases h : s = 103 :: (p.tail ++ a)
  · rw [if_pos ⟨hk, h⟩, if_pos h]
  · rw [if_neg (fun h2 => h h2.2), if_neg h]
theorem kind_right' {t : Tm} {k : Nat} (h : kind t = k) (hk : k ≠ 0) : right t = true := by
  cases hr : right t with
  | true => rfl
  | false => rw [kind_wrong hr] at h; exact absurd h.symm hk
theorem check_sig {m : Mt} (h : MR m) {s t o f : Tm} (hs : s.length ≤ 12) (ht : m.sig = 103 :: (secU s ++ t)) {u : Tm} (hu : u.length ≤ 12) :
    checkM m (pubU u) o f = if right (116 :: putText (bodyB m)) = true ∧ s = u ∧ t = 116 :: putText (bodyB m) then (if m.r.o ≠ o ∨ m.r.f ≠ f then 3 else 0) else 7 := by
  have hsig : right m.sig = true := kind_right' h.2.2.1 (by decide)
  unfold checkM
  rw [if_neg (by rintro (h1 | h1); exact h1 h; exact h1 (pubU_kind hu))]
  by_cases hb : right (116 :: putText (bodyB m)) = true
  · have e1 : ofText (bodyB m) = (116 :: putText (bodyB m), 0) := made_yes hb
    rw [e1]
    simp only
    rw [verify_is (pubU_right hu) rfl hb hsig]
    by_cases h2 : s = u ∧ t = 116 :: putText (bodyB m)
    · obtain ⟨rfl, h3⟩ := h2
      rw [if_pos (show m.sig = 103 :: ((pubU s).tail ++ 116 :: putText (bodyB m)) by rw [ht, h3]; rfl), if_neg (by simp)]
      rw [if_pos (show right (116 :: putText (bodyB m)) = true ∧ s = s ∧ t = 116 :: putText (bodyB m) from ⟨hb, rfl, h3⟩)]
    · rw [if_neg (show ¬ m.sig = 103 :: ((pubU u).tail ++ 116 :: putText (bodyB m)) from fun e => by
        rw [ht] at e
        have e2 : secU s ++ t = secU u ++ 116 :: putText (bodyB m) := (List.cons.inj e).2
        obtain ⟨e3, e4⟩ := right_cut (secU_right hs) (secU_right hu) e2
        exact h2 ⟨secU_inj hs hu e3, e4⟩), if_pos (.inr (by decide)), if_neg (fun h3 => h2 h3.2)]
  · have e1 : ofText (bodyB m) = ([], 10) := made_no hb
    rw [e1, if_pos (.inl (by decide)), if_neg (fun h3 => hb h3.1)]
def benT : Tm := benB.data.toList
theorem check_secret (r : Rt) (n ver : Nat) (o f : Tm) : checkM (mOf r n ver) (secU annaT) o f = 1 := by
  unfold checkM
  rw [if_pos (.inr (by rw [secU_kind anna_len]; decide))]
section
variable {r : Rt} (h : Ann r) {n ver : Nat} (hn : n < 18446744073709551616) (hv : ver < 18446744073709551616)
include h hn hv
theorem check_mOf {u : Tm} (hu : u.length ≤ 12) (o f : Tm) : checkM (mOf r n ver) (pubU u) o f = if annaT = u then (if annaT ≠ o ∨ notesT ≠ f then 3 else 0) else 7 := by
  obtain ⟨t1, t2, t3, t4⟩ := txt_ok h hn hv
  rw [check_sig (mOf_right h hn hv) anna_len rfl hu]
  have e1 : (116 :: putText (bodyB (mOf r n ver))) = txtM r n ver := rfl
  rw [e1]
  have ho : (mOf r n ver).r.o = annaT := h.2.1.1
  have hf : (mOf r n ver).r.f = notesT := h.2.1.2
  rw [ho, hf]
  by_cases hau : annaT = u
  · rw [if_pos ⟨t4, hau, rfl⟩, if_pos hau]
  · rw [if_neg (fun h2 => hau h2.2.1), if_neg hau]
end
def both (B : Tm) : Tm := putAll [B, 103 :: (secU annaT ++ 116 :: putText B)]
theorem both_eq (B : Tm) : both B = put 2 ++ put B.length ++ B ++ (put (103 :: (secU annaT ++ 116 :: putText B)).length ++ 103 :: secU annaT ++ 116 :: put B.length) ++ B := by
  unfold both putAll
  simp only [List.flatMap_cons, List.flatMap_nil, List.append_nil, List.length_cons, List.length_nil]
  show put 2 ++ ((put B.length ++ B) ++ (put (103 :: (secU annaT ++ 116 :: (put B.length ++ B))).length ++ 103 :: (secU annaT ++ 116 :: (put B.length ++ B)))) = _
  simp only [List.append_assoc, List.cons_append, putText, List.length_cons]
theorem put_more {a b : Nat} (h : a ≤ b) : (put a).length ≤ (put b).length := by
  rw [put_len, put_len]
  have key : ∀ b a : Nat, a ≤ b → (dig a).length ≤ (dig b).length := by
    intro b
    induction b using Nat.strongRecOn with
    | ind b ih =>
      intro a hab
      by_cases h0 : a = 0
      · subst h0; rw [dig_zero]; exact Nat.zero_le _
      · rw [dig_pos h0, dig_pos (by omega : b ≠ 0), List.length_append, List.length_append]
        have := ih (b / 256) (by omega) (a / 256) (Nat.div_le_div_right hab)
        simp only [List.length_cons, List.length_nil]
        omega
  have := key b a h
  omega
theorem both_len {a b : Tm} (h : a.length < b.length) : (both a).length < (both b).length := by
  rw [both_eq, both_eq]
  have h1 := put_more (a := a.length) (b := b.length) (by omega)
  have h2 : (103 :: (secU annaT ++ 116 :: putText a)).length ≤ (103 :: (secU annaT ++ 116 :: putText b)).length := by
    simp only [List.length_cons, List.length_append, putText_len]; omega
  have h3 := put_more h2
  simp only [List.length_append, List.length_cons] at h3 ⊢
  omega
theorem both_one {A B : Tm} (hl : (both A).length = (both B).length) {k : Nat} (hk : ∀ i, i ≠ k → (both A)[i]? = (both B)[i]?) : A = B := by
  have hlen : A.length = B.length := by
    rcases Nat.lt_trichotomy A.length B.length with h | h | h
    · have := both_len h; omega
    · exact h
    · have := both_len h; omega
  rw [both_eq, both_eq, show (103 :: (secU annaT ++ 116 :: putText A)).length = (103 :: (secU annaT ++ 116 :: putText B)).length by simp only [List.length_cons, List.length_append, putText_len, hlen], hlen] at hk
  generalize put 2 ++ put B.length = P at hk
  generalize put (103 :: (secU annaT ++ 116 :: putText B)).length ++ 103 :: secU annaT ++ 116 :: put B.length = M at hk
  refine List.ext_getElem? fun i => ?_
  by_cases hi : i < B.length
  · by_cases hik : P.length + i = k
    · have h2 := hk (P.length + B.length + M.length + i) (by omega)
      have g : ∀ X : Tm, X.length = B.length → (P ++ X ++ M ++ X)[P.length + B.length + M.length + i]? = X[i]? := fun X hX => by
        rw [List.getElem?_append_right (by simp only [List.length_append]; omega)]
        congr 1
        simp only [List.length_append]; omega
      rw [g A hlen, g B rfl] at h2
      exact h2
    · have h2 := hk (P.length + i) hik
      have g : ∀ X : Tm, X.length = B.length → (P ++ X ++ M ++ X)[P.length + i]? = X[i]? := fun X hX => by
        rw [List.append_assoc, List.append_assoc, List.getElem?_append_right (by omega), List.getElem?_append_left (by omega)]
        congr 1; omega
      rw [g A hlen, g B rfl] at h2
      exact h2
  · rw [List.getElem?_eq_none (by omega), List.getElem?_eq_none (by omega)]
theorem flip_ne (x : UInt8) : x ^^^ 1 ≠ x := by
  intro h
  have : ∀ y : Fin 256, (UInt8.ofNat y.1) ^^^ 1 ≠ UInt8.ofNat y.1 := by decide +kernel
  have h2 := this ⟨x.toNat, UInt8.toNat_lt x⟩
  rw [UInt8.ofNat_toNat] at h2
  exact h2 h
section
variable {r : Rt} (h : Ann r) {n ver : Nat} (hn : n < 18446744073709551616) (hv : ver < 18446744073709551616)
include h hn hv
theorem put_mOf : putM (mOf r n ver) = (both (bodyB (mOf r n ver)), 0) := by
  unfold putM
  rw [if_pos (mOf_right h hn hv)]
  rfl
theorem take_mOf : takeM (both (bodyB (mOf r n ver))) = (mOf r n ver, 0) := takeM_put (mOf_right h hn hv) hv
end
theorem spoilt (r : Rt) (n ver : Nat) {k : Nat} (hk : k < (both (bodyB (mOf r n ver))).length) {s : Tm} (hs : s = (both (bodyB (mOf r n ver))).set k ((both (bodyB (mOf r n ver)))[k] ^^^ 1)) (o f : Tm) : (takeM s).2 ≠ 0 ∨ checkM (takeM s).1 (pubU annaT) o f ≠ 0 := by
  rcases takeM_cases s with ht | ⟨y, ht, hy, hyv, hsy⟩
  · exact .inl (by rw [ht]; decide)
  refine .inr fun hc => ?_
  rw [ht] at hc
  simp only at hc
  unfold checkM at hc
  rw [if_neg (by rintro (h1 | h1); exact h1 hy; exact h1 (pubU_kind anna_len))] at hc
  by_cases h2 : (ofText (bodyB y)).2 ≠ 0 ∨ verify (pubU annaT) (ofText (bodyB y)).1 y.sig ≠ 0
  · rw [if_pos h2] at hc; cases hc
  have h3 : (ofText (bodyB y)).2 = 0 := Decidable.byContradiction fun e => h2 (.inl e)
  have h4 : verify (pubU annaT) (ofText (bodyB y)).1 y.sig = 0 := Decidable.byContradiction fun e => h2 (.inr e)
  obtain ⟨e1, hr⟩ := made_is (l := 116 :: putText (bodyB y)) h3 rfl
  have e1' : (ofText (bodyB y)).1 = 116 :: putText (bodyB y) := e1
  rw [e1', verify_is (pubU_right anna_len) rfl hr (kind_right' hy.2.2.1 (by decide))] at h4
  have h5 : y.sig = 103 :: (secU annaT ++ 116 :: putText (bodyB y)) := by
    by_cases h6 : y.sig = 103 :: ((pubU annaT).tail ++ 116 :: putText (bodyB y))
    · exact h6
    · rw [if_neg h6] at h4; cases h4
  have hsb : s = both (bodyB y) := by rw [hsy, h5]; rfl
  have hlen : (both (bodyB y)).length = (both (bodyB (mOf r n ver))).length := by rw [← hsb, hs, List.length_set]
  have hone : bodyB y = bodyB (mOf r n ver) := both_one hlen (k := k) fun i hi => by
    rw [← hsb, hs, List.getElem?_set_ne (fun e => hi e.symm)]
  have hkk : s[k]? = some ((both (bodyB (mOf r n ver)))[k] ^^^ 1) := by rw [hs, List.getElem?_set_self hk]
  rw [hsb, hone, List.getElem?_eq_getElem hk] at hkk
  exact flip_ne _ (Option.some.inj hkk).symm
end Go.Proofs.YtlkgjceddbclpaaGreat.Mta

