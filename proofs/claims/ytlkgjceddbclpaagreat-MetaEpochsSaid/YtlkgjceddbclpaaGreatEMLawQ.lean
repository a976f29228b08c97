/-
  MLawP, MLawQ. By an AI agent.
-/
import Derived.Test.YtlkgjceddbclpaaGreatEZ
import Derived.Test.YtlkgjceddbclpaaGreatEMBuilt
namespace Go.Proofs.YtlkgjceddbclpaaGreat.Mta
open Wire Term Rig Draw Reg

theorem verify_is {p a s : Tm} (hp : right p = true) (hk : p.headD 0 = 117) (ha : right a = true) (hs : right s = true) : verify p a s = if s = 103 :: (p.tail ++ a) then 0 else 7 := by
  unfold verify
  rw [if_pos ⟨hp, ha, hs⟩]
  by_cases h : s = 103 :: (p.tail ++ a)
  · rw [if_pos ⟨hk, h⟩, if_pos h]
  · rw [if_neg (fun h2 => h h2.2), if_neg h]
theorem kind_right' {t : Tm} {k : Nat} (h : kind t = k) (hk : k ≠ 0) : right t = true := by
  cases hr : right t with
  | true => rfl
  | false => rw [kind_wrong hr] at h; exact absurd h.symm hk
theorem check_sig {m : Mt} (h : MR m) {s t o f : Tm} (hs : s.length ≤ 12) (ht : m.sig = 103 :: (secU s ++ t)) {u : Tm} (hu : u.length ≤ 12) :
    checkM m (pubU u) o f = if right (116 :: putText (bodyB m)) = true ∧ s = u ∧ t = 116 :: putText (bodyB m) then (if m.r.o ≠ o ∨ m.r.f ≠ f then 3 else 0) else 7 := by
  have hsig : right m.sig = true := kind_right' h.2.2.1 (by decide)
  unfold checkM
  rw [if_neg (by rintro (h1 | h1); exact h1 h; exact h1 (pubU_kind hu))]
  by_cases hb : right (116 :: putText (bodyB m)) = true
  · have e1 : ofText (bodyB m) = (116 :: putText (bodyB m), 0) := made_yes hb
    rw [e1]
    simp only
    rw [verify_is (pubU_right hu) rfl hb hsig]
    by_cases h2 : s = u ∧ t = 116 :: putText (bodyB m)
    · obtain ⟨rfl, h3⟩ := h2
      rw [if_pos (show m.sig = 103 :: ((pubU s).tail ++ 116 :: putText (bodyB m)) by rw [ht, h3]; rfl), if_neg (by simp)]
      rw [if_pos (show right (116 :: putText (bodyB m)) = true ∧ s = s ∧ t = 116 :: putText (bodyB m) from ⟨hb, rfl, h3⟩)]
    · rw [if_neg (show ¬ m.sig = 103 :: ((pubU u).tail ++ 116 :: putText (bodyB m)) from fun e => by
        rw [ht] at e
        have e2 : secU s ++ t = secU u ++ 116 :: putText (bodyB m) := (List.cons.inj e).2
        obtain ⟨e3, e4⟩ := right_cut (secU_right hs) (secU_right hu) e2
        exact h2 ⟨secU_inj hs hu e3, e4⟩), if_pos (.inr (by decide)), if_neg (fun h3 => h2 h3.2)]
  · have e1 : ofText (bodyB m) = ([], 10) := made_no hb
    rw [e1, if_pos (.inl (by decide)), if_neg (fun h3 => hb h3.1)]
section
variable {r : Rt} (h : Ann r) {n ver : Nat} (hn : n < 18446744073709551616) (hv : ver < 18446744073709551616)
include h hn hv
theorem check_mOf {u : Tm} (hu : u.length ≤ 12) (o f : Tm) : checkM (mOf r n ver) (pubU u) o f = if annaT = u then (if annaT ≠ o ∨ notesT ≠ f then 3 else 0) else 7 := by
  obtain ⟨t1, t2, t3, t4⟩ := txt_ok h hn hv
  rw [check_sig (mOf_right h hn hv) anna_len rfl hu]
  have e1 : (116 :: putText (bodyB (mOf r n ver))) = txtM r n ver := rfl
  rw [e1]
  have ho : (mOf r n ver).r.o = annaT := h.2.1.1
  have hf : (mOf r n ver).r.f = notesT := h.2.1.2
  rw [ho, hf]
  by_cases hau : annaT = u
  · rw [if_pos ⟨t4, hau, rfl⟩, if_pos hau]
  · rw [if_neg (fun h2 => hau h2.2.1), if_neg hau]
end
theorem body_inj {a b : Mt} (ha : MR a) (hb : MR b) (hva : a.ver < 18446744073709551616) (hvb : b.ver < 18446744073709551616) (h : bodyB a = bodyB b) : a.r = b.r ∧ a.ver = b.ver ∧ a.vf = b.vf ∧ a.bs = b.bs := by
  have h1 := takeM_put ha hva
  have hb' : MR { b with sig := a.sig } := ⟨hb.1, hb.2.1, ha.2.2.1, hb.2.2.2⟩
  have h2 := takeM_put hb' hvb
  have e : bodyB { b with sig := a.sig } = bodyB a := h.symm
  rw [e] at h2
  have h3 := h1.symm.trans h2
  have h4 := (Prod.mk.inj h3).1
  rw [h4]
  exact ⟨rfl, rfl, rfl, rfl⟩
section
variable {r : Rt} (h : Ann r) {n ver : Nat} (hn : n < 18446744073709551616) (hv : ver < 18446744073709551616)
include h hn hv
end
end Go.Proofs.YtlkgjceddbclpaaGreat.Mta

namespace Go.Proofs.YtlkgjceddbclpaaGreat.Mta
open Wire Term Rig Draw Reg

theorem ann_ep {r : Rt} (h : Ann r) : r.ep.toNat ≤ 7 ∧ ((r.ep.toNat : Nat) : Int) = r.ep := by have := h.1.2.2.1; exact ⟨by omega, by omega⟩
theorem pub_find {k : List (Tm × Tm)} {s : Tm} {b : Tm × Tm} (h : k.find? (fun k => k.1 == s) = some b) (hb : b = (s, pubU s)) (hs : Wn s) : pub k s = (pubU s, 0) := by
  unfold pub
  rw [h, hb]
  simp only
  rw [if_pos (pubU_kind (wn_len hs))]
def kn (i : Nat) : Tm × Tm := ((whoN i).data.toList, pubU (whoN i).data.toList)
theorem knows_of {k : List (Tm × Tm)} (h : ∀ m, m < 8 → ∃ a b, k = a ++ kn m :: b ∧ ∀ x ∈ a, x.1 ≠ (whoN m).data.toList) : Knows k := by
  rintro s ⟨m, hm, rfl⟩
  obtain ⟨a, b, hk, ha⟩ := h m hm
  refine pub_find (b := kn m) ?_ rfl ⟨m, hm, rfl⟩
  rw [hk, List.find?_append]
  have h1 : a.find? (fun k => k.1 == (whoN m).data.toList) = none := List.find?_eq_none.2 fun x hx => by simpa using ha x hx
  rw [h1]
  simp [kn]
theorem knows_perm {P Q : List (Tm × Tm)} {f : Nat → Nat} (hP : ∀ x ∈ P, ¬ Wn x.1) (hf : ∀ i, i < 8 → f i < 8) (hinj : ∀ i j, i < 8 → j < 8 → f i = f j → i = j) (hsur : ∀ m, m < 8 → ∃ i, i < 8 ∧ f i = m) :
    Knows (P ++ (List.range 8).map (fun i => kn (f i)) ++ Q) := by
  refine knows_of fun m hm => ?_
  obtain ⟨i, hi, rfl⟩ := hsur m hm
  refine ⟨P ++ (List.range i).map (fun i => kn (f i)), (List.range' (i + 1) (7 - i)).map (fun i => kn (f i)) ++ Q, ?_, ?_⟩
  · have e : List.range 8 = List.range i ++ i :: List.range' (i + 1) (7 - i) := by
      have : i = 0 ∨ i = 1 ∨ i = 2 ∨ i = 3 ∨ i = 4 ∨ i = 5 ∨ i = 6 ∨ i = 7 := by omega
      rcases this with rfl | rfl | rfl | rfl | rfl | rfl | rfl | rfl <;> rfl
    rw [e, List.map_append, List.map_cons]
    simp only [List.append_assoc, List.cons_append]
  · intro x hx
    rcases List.mem_append.1 hx with hx | hx
    · exact fun e => hP x hx ⟨f i, hf i hi, e⟩
    · obtain ⟨j, hj, rfl⟩ := List.mem_map.1 hx
      have hji := List.mem_range.1 hj
      intro e
      have := who_inj (hf j (by omega)) (hf i hi) e
      have := hinj j i (by omega) hi this
      omega
theorem knows_all : Knows knownL := by
  have := knows_perm (P := []) (Q := []) (f := fun i => i) (by simp) (fun i h => h) (fun i j _ _ h => h) (fun m h => ⟨m, h, rfl⟩)
  simpa [knownL, kn] using this
theorem sig_same {r : Rt} (h : Ann r) {n a b : Nat} (hn : n < 18446744073709551616) (ha : a < 18446744073709551616) (hb : b < 18446744073709551616) : (mOf r n a).sig = (mOf r n b).sig ↔ a = b := by
  refine ⟨fun e => ?_, fun e => by rw [e]⟩
  have e1 : txtM r n a = txtM r n b := List.append_cancel_left (List.cons.inj e).2
  have e2 : putText (bodyB (preM r n a)) = putText (bodyB (preM r n b)) := (List.cons.inj e1).2
  have l1 := body_ann h hn ha
  have l2 := body_ann h hn hb
  have e3 := (put_inj (by omega) (by omega) e2).2
  exact (body_inj (mOf_right h hn ha) (mOf_right h hn hb) ha hb e3).2.1
end Go.Proofs.YtlkgjceddbclpaaGreat.Mta

