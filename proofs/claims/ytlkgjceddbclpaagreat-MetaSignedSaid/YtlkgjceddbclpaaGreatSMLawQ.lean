/-
  MLawP, MLawQ. By an AI agent.
-/
import Derived.Test.YtlkgjceddbclpaaGreatSZ
import Derived.Test.YtlkgjceddbclpaaGreatSMBuilt
namespace Go.Proofs.YtlkgjceddbclpaaGreat.Mta
open Wire Term Rig Draw Reg

theorem verify_is {p a s : Tm} (hp : right p = true) (hk : p.headD 0 = 117) (ha : right a = true) (hs : right s = true) : verify p a s = if s = 103 :: (p.tail ++ a) then 0 else 7 := by
  unfold verify
  rw [if_pos ⟨hp, ha, hs⟩]
  by_cases h : s = 103 :: (p.tail ++ a)
  · rw [if_pos ⟨hk, h⟩, if_pos h]
  · rw [if_neg (fun h2 => h h2.2), if_neg h]
theorem kind_right' {t : Tm} {k : Nat} (h : kind t = k) (hk : k ≠ 0) : right t = true := by
  cases hr : right t with
  | true => rfl
  | false => rw [kind_wrong hr] at h; exact absurd h.symm hk
theorem check_sig {m : Mt} (h : MR m) {s t o f : Tm} (hs : s.length ≤ 12) (ht : m.sig = 103 :: (secU s ++ t)) {u : Tm} (hu : u.length ≤ 12) :
    checkM m (pubU u) o f = if right (116 :: putText (bodyB m)) = true ∧ s = u ∧ t = 116 :: putText (bodyB m) then (if m.r.o ≠ o ∨ m.r.f ≠ f then 3 else 0) else 7 := by
  have hsig : right m.sig = true := kind_right' h.2.2.1 (by decide)
  unfold checkM
  rw [if_neg (by rintro (h1 | h1); exact h1 h; exact h1 (pubU_kind hu))]
  by_cases hb : right (116 :: putText (bodyB m)) = true
  · have e1 : ofText (bodyB m) = (116 :: putText (bodyB m), 0) := made_yes hb
    rw [e1]
    simp only
    rw [verify_is (pubU_right hu) rfl hb hsig]
    by_cases h2 : s = u ∧ t = 116 :: putText (bodyB m)
    · obtain ⟨rfl, h3⟩ := h2
      rw [if_pos (show m.sig = 103 :: ((pubU s).tail ++ 116 :: putText (bodyB m)) by rw [ht, h3]; rfl), if_neg (by simp)]
      rw [if_pos (show right (116 :: putText (bodyB m)) = true ∧ s = s ∧ t = 116 :: putText (bodyB m) from ⟨hb, rfl, h3⟩)]
    · rw [if_neg (show ¬ m.sig = 103 :: ((pubU u).tail ++ 116 :: putText (bodyB m)) from fun e => by
        rw [ht] at e
        have e2 : secU s ++ t = secU u ++ 116 :: putText (bodyB m) := (List.cons.inj e).2
        obtain ⟨e3, e4⟩ := right_cut (secU_right hs) (secU_right hu) e2
        exact h2 ⟨secU_inj hs hu e3, e4⟩), if_pos (.inr (by decide)), if_neg (fun h3 => h2 h3.2)]
  · have e1 : ofText (bodyB m) = ([], 10) := made_no hb
    rw [e1, if_pos (.inl (by decide)), if_neg (fun h3 => hb h3.1)]
def benT : Tm := benB.data.toList
theorem check_signer {m : Mt} (hm : MR m) {s t : Tm} (hs : s.length ≤ 12) (hsa : s ≠ annaT) (ht : m.sig = 103 :: (secU s ++ t)) (o f : Tm) : checkM m (pubU annaT) o f = 7 := by
  rw [check_sig hm hs ht anna_len, if_neg (fun h2 => hsa h2.2.1)]
section
variable {r : Rt} (h : Ann r) {n ver : Nat} (hn : n < 18446744073709551616) (hv : ver < 18446744073709551616)
include h hn hv
theorem check_mOf {u : Tm} (hu : u.length ≤ 12) (o f : Tm) : checkM (mOf r n ver) (pubU u) o f = if annaT = u then (if annaT ≠ o ∨ notesT ≠ f then 3 else 0) else 7 := by
  obtain ⟨t1, t2, t3, t4⟩ := txt_ok h hn hv
  rw [check_sig (mOf_right h hn hv) anna_len rfl hu]
  have e1 : (116 :: putText (bodyB (mOf r n ver))) = txtM r n ver := rfl
  rw [e1]
  have ho : (mOf r n ver).r.o = annaT := h.2.1.1
  have hf : (mOf r n ver).r.f = notesT := h.2.1.2
  rw [ho, hf]
  by_cases hau : annaT = u
  · rw [if_pos ⟨t4, hau, rfl⟩, if_pos hau]
  · rw [if_neg (fun h2 => hau h2.2.1), if_neg hau]
theorem check_other {m : Mt} (hm : MR m) (hs : m.sig = (mOf r n ver).sig) (hb : bodyB m ≠ bodyB (mOf r n ver)) (hl : (bodyB m).length < 18446744073709551616) (o f : Tm) : checkM m (pubU annaT) o f = 7 := by
  obtain ⟨t1, t2, t3, t4⟩ := txt_ok h hn hv
  rw [check_sig hm anna_len (t := txtM r n ver) hs anna_len, if_neg]
  rintro ⟨_, _, h3⟩
  have h4 : putText (bodyB (preM r n ver)) = putText (bodyB m) := (List.cons.inj h3).2
  have hb0 := body_ann h hn hv
  exact hb ((put_inj (by omega) hl h4).2.symm)
end
theorem body_inj {a b : Mt} (ha : MR a) (hb : MR b) (hva : a.ver < 18446744073709551616) (hvb : b.ver < 18446744073709551616) (h : bodyB a = bodyB b) : a.r = b.r ∧ a.ver = b.ver ∧ a.vf = b.vf ∧ a.bs = b.bs := by
  have h1 := takeM_put ha hva
  have hb' : MR { b with sig := a.sig } := ⟨hb.1, hb.2.1, ha.2.2.1, hb.2.2.2⟩
  have h2 := takeM_put hb' hvb
  have e : bodyB { b with sig := a.sig } = bodyB a := h.symm
  rw [e] at h2
  have h3 := h1.symm.trans h2
  have h4 := (Prod.mk.inj h3).1
  rw [h4]
  exact ⟨rfl, rfl, rfl, rfl⟩
section
variable {r : Rt} (h : Ann r) {n ver : Nat} (hn : n < 18446744073709551616) (hv : ver < 18446744073709551616)
include h hn hv
end
end Go.Proofs.YtlkgjceddbclpaaGreat.Mta

namespace Go.Proofs.YtlkgjceddbclpaaGreat.Mta
open Wire Term Rig Draw Reg

def zoeT : Tm := [122, 111, 101]
theorem ann_ep {r : Rt} (h : Ann r) : r.ep.toNat ≤ 7 ∧ ((r.ep.toNat : Nat) : Int) = r.ep := by have := h.1.2.2.1; exact ⟨by omega, by omega⟩
theorem other_ver {r : Rt} (h : Ann r) {n ver v2 : Nat} (hn : n < 18446744073709551616) (hv : ver < 18446744073709551616) (hv2 : v2 < 18446744073709551616) (hne : v2 ≠ ver) (o f : Tm) :
    MR { mOf r n ver with ver := v2 } ∧ checkM { mOf r n ver with ver := v2 } (pubU annaT) o f = 7 := by
  have h0 := mOf_right h hn hv
  have hm : MR { mOf r n ver with ver := v2 } := h0
  refine ⟨hm, check_other h hn hv hm rfl (fun e => ?_) (by have := body_small hm hv2; omega) o f⟩
  exact hne (body_inj hm h0 hv2 hv e).2.1
theorem other_file {r : Rt} (h : Ann r) {n ver : Nat} (hn : n < 18446744073709551616) (hv : ver < 18446744073709551616) {g : Tm} (hg : nm g = true) (hne : g ≠ notesT) (o f : Tm) :
    MR { mOf r n ver with r := { r with f := g } } ∧ checkM { mOf r n ver with r := { r with f := g } } (pubU annaT) o f = 7 := by
  have h0 := mOf_right h hn hv
  have hm : MR { mOf r n ver with r := { r with f := g } } := ⟨⟨h.1.1, hg, h.1.2.2⟩, h0.2⟩
  refine ⟨hm, check_other h hn hv hm rfl (fun e => ?_) (by have := body_small hm hv; omega) o f⟩
  have e1 := congrArg Rt.f (body_inj hm h0 hv hv e).1
  exact hne (e1.trans h.2.1.2)
theorem other_vf {r : Rt} (h : Ann r) {n ver : Nat} (hn : n < 18446744073709551616) (hv : ver < 18446744073709551616) {i : Nat} (hi : i < (vfOf r).length) (o f : Tm) :
    MR { mOf r n ver with vf := (vfOf r).set i (pubU zoeT) } ∧ checkM { mOf r n ver with vf := (vfOf r).set i (pubU zoeT) } (pubU annaT) o f = 7 := by
  have h0 := mOf_right h hn hv
  have hl : (vfOf r).length = r.ep.toNat + 1 := by unfold vfOf; rw [List.length_map, List.length_range]
  have he := (ann_ep h).1
  have hm : MR { mOf r n ver with vf := (vfOf r).set i (pubU zoeT) } := by
    refine ⟨h0.1, ?_, h0.2.2.1, ?_, h0.2.2.2.2⟩
    · show (((vfOf r).set i (pubU zoeT)).length : Int) = _
      rw [List.length_set]; exact h0.2.1
    · intro t ht
      rcases List.mem_or_eq_of_mem_set ht with ht | rfl
      · exact h0.2.2.2.1 t ht
      · exact pubU_kind (by decide)
  refine ⟨hm, check_other h hn hv hm rfl (fun e => ?_) (by have := body_small hm hv; omega) o f⟩
  have e1 : (vfOf r).set i (pubU zoeT) = vfOf r := (body_inj hm h0 hv hv e).2.2.1
  have e2 : ((vfOf r).set i (pubU zoeT))[i]? = some (pubU zoeT) := List.getElem?_set_self hi
  rw [e1] at e2
  have e3 : (vfOf r)[i]? = some (sgp i) := by unfold vfOf; rw [List.getElem?_map, List.getElem?_range (by omega)]; rfl
  rw [e3] at e2
  have e4 : sgp i = pubU zoeT := Option.some.inj e2
  exact sgn_secU (i := i) (by omega) (a := zoeT) (by decide) (List.cons.inj e4).2
def boxA (s : Tm) : Tm := 98 :: (pubU s ++ ofAtom 1)
theorem boxA_is {s : Tm} (hs : s.length ≤ 12) : box (pubU s) (ofAtom 1) = (boxA s, 0) ∧ kind (boxA s) = 98 := by
  obtain ⟨p1, p2⟩ := pubU_sz hs
  have a1 : Sz 4 (ofAtom 1) := sz_up (sz_atom 0 (by omega)) (by omega)
  have a2 : (ofAtom 1).length ≤ 10 := by have := (put_le (n := 1) (by omega)).2; unfold ofAtom; rw [List.length_cons]; omega
  have hr : right (boxA s) = true := sz_right (sz_two (.inr (.inr ⟨rfl, rfl⟩)) p1 a1) (by omega) (by unfold boxA; rw [List.length_cons, List.length_append]; omega)
  refine ⟨?_, by rw [kind_right hr]; rfl⟩
  unfold box
  rw [if_pos ⟨pubU_right hs, rfl⟩]
  unfold two
  rw [if_pos ⟨pubU_right hs, atom_ok (by omega)⟩]
  exact made_yes hr
theorem other_box {r : Rt} (h : Ann r) {n ver : Nat} (hn : n < 18446744073709551616) (hv : ver < 18446744073709551616) {i : Nat} {s : Tm} (hi : (oth r)[i]? = some s) (o f : Tm) :
    MR { mOf r n ver with bs := (bsOf r n).set i (s, boxA s) } ∧ checkM { mOf r n ver with bs := (bsOf r n).set i (s, boxA s) } (pubU annaT) o f = 7 := by
  have h0 := mOf_right h hn hv
  have hs := wn_len (oth_wn h s (List.mem_of_getElem? hi))
  have hil : i < (oth r).length := (List.getElem?_eq_some_iff.1 hi).1
  have hb : (bsOf r n)[i]? = some (s, boxT r n s) := by unfold bsOf; rw [List.getElem?_map, hi]; rfl
  have hm : MR { mOf r n ver with bs := (bsOf r n).set i (s, boxA s) } := by
    refine ⟨h0.1, h0.2.1, h0.2.2.1, h0.2.2.2.1, ?_, ?_⟩
    · show ((bsOf r n).set i (s, boxA s)).map (·.1) = oth r
      rw [List.map_set]
      have e0 : (bsOf r n).map (·.1) = oth r := h0.2.2.2.2.1
      rw [e0]
      show (oth r).set i s = oth r
      have : (oth r)[i] = s := (List.getElem?_eq_some_iff.1 hi).2
      rw [← this, List.set_getElem_self]
    · intro t ht
      obtain ⟨b, hb, rfl⟩ := List.mem_map.1 ht
      rcases List.mem_or_eq_of_mem_set hb with hb | rfl
      · exact h0.2.2.2.2.2 _ (List.mem_map.2 ⟨b, hb, rfl⟩)
      · exact (boxA_is hs).2
  refine ⟨hm, check_other h hn hv hm rfl (fun e => ?_) (by have := body_small hm hv; omega) o f⟩
  have e1 : (bsOf r n).set i (s, boxA s) = bsOf r n := (body_inj hm h0 hv hv e).2.2.2
  have e2 : ((bsOf r n).set i (s, boxA s))[i]? = some (s, boxA s) := List.getElem?_set_self (by unfold bsOf; rw [List.length_map]; exact hil)
  rw [e1, hb] at e2
  have e3 : boxT r n s = boxA s := (Prod.mk.inj (Option.some.inj e2)).2
  have e4 := List.append_cancel_left (List.cons.inj e3).2
  exact absurd (List.cons.inj e4).1 (by decide)
def sigB (r : Rt) (n ver : Nat) : Tm := 103 :: (secU benT ++ txtM r n ver)
theorem other_sig {r : Rt} (h : Ann r) {n ver : Nat} (hn : n < 18446744073709551616) (hv : ver < 18446744073709551616) (o f : Tm) :
    two 103 (secU benT) (txtM r n ver) = (sigB r n ver, 0) ∧ MR { mOf r n ver with sig := sigB r n ver } ∧ checkM { mOf r n ver with sig := sigB r n ver } (pubU annaT) o f = 7 := by
  have h0 := mOf_right h hn hv
  obtain ⟨t1, t2, t3, t4⟩ := txt_ok h hn hv
  obtain ⟨s1, s2⟩ := sig_ok t2 t3 (s := benT) (by decide)
  have hm : MR { mOf r n ver with sig := sigB r n ver } := ⟨h0.1, h0.2.1, by show kind (103 :: (secU benT ++ txtM r n ver)) = 103; rw [kind_right s2]; rfl, h0.2.2.2⟩
  exact ⟨s1, hm, check_signer hm (s := benT) (by decide) (by decide) rfl o f⟩
theorem pub_find {k : List (Tm × Tm)} {s : Tm} {b : Tm × Tm} (h : k.find? (fun k => k.1 == s) = some b) (hb : b = (s, pubU s)) (hs : Wn s) : pub k s = (pubU s, 0) := by
  unfold pub
  rw [h, hb]
  simp only
  rw [if_pos (pubU_kind (wn_len hs))]
def kn (i : Nat) : Tm × Tm := ((whoN i).data.toList, pubU (whoN i).data.toList)
theorem knows_of {k : List (Tm × Tm)} (h : ∀ m, m < 8 → ∃ a b, k = a ++ kn m :: b ∧ ∀ x ∈ a, x.1 ≠ (whoN m).data.toList) : Knows k := by
  rintro s ⟨m, hm, rfl⟩
  obtain ⟨a, b, hk, ha⟩ := h m hm
  refine pub_find (b := kn m) ?_ rfl ⟨m, hm, rfl⟩
  rw [hk, List.find?_append]
  have h1 : a.find? (fun k => k.1 == (whoN m).data.toList) = none := List.find?_eq_none.2 fun x hx => by simpa using ha x hx
  rw [h1]
  simp [kn]
theorem knows_perm {P Q : List (Tm × Tm)} {f : Nat → Nat} (hP : ∀ x ∈ P, ¬ Wn x.1) (hf : ∀ i, i < 8 → f i < 8) (hinj : ∀ i j, i < 8 → j < 8 → f i = f j → i = j) (hsur : ∀ m, m < 8 → ∃ i, i < 8 ∧ f i = m) :
    Knows (P ++ (List.range 8).map (fun i => kn (f i)) ++ Q) := by
  refine knows_of fun m hm => ?_
  obtain ⟨i, hi, rfl⟩ := hsur m hm
  refine ⟨P ++ (List.range i).map (fun i => kn (f i)), (List.range' (i + 1) (7 - i)).map (fun i => kn (f i)) ++ Q, ?_, ?_⟩
  · have e : List.range 8 = List.range i ++ i :: List.range' (i + 1) (7 - i) := by
      have : i = 0 ∨ i = 1 ∨ i = 2 ∨ i = 3 ∨ i = 4 ∨ i = 5 ∨ i = 6 ∨ i = 7 := by omega
      rcases this with rfl | rfl | rfl | rfl | rfl | rfl | rfl | rfl <;> rfl
    rw [e, List.map_append, List.map_cons]
    simp only [List.append_assoc, List.cons_append]
  · intro x hx
    rcases List.mem_append.1 hx with hx | hx
    · exact fun e => hP x hx ⟨f i, hf i hi, e⟩
    · obtain ⟨j, hj, rfl⟩ := List.mem_map.1 hx
      have hji := List.mem_range.1 hj
      intro e
      have := who_inj (hf j (by omega)) (hf i hi) e
      have := hinj j i (by omega) hi this
      omega
theorem knows_all : Knows knownL := by
  have := knows_perm (P := []) (Q := []) (f := fun i => i) (by simp) (fun i h => h) (fun i j _ _ h => h) (fun m h => ⟨m, h, rfl⟩)
  simpa [knownL, kn] using this
theorem who_notes {m : Nat} (hm : m < 8) : (whoN m).data.toList ≠ notesT := by
  have : ∀ a : Fin 8, (whoN a.1).data.toList ≠ notesT := by decide +kernel
  exact this ⟨m, hm⟩
end Go.Proofs.YtlkgjceddbclpaaGreat.Mta

