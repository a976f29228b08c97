/-
  MBuilt. By an AI agent.
-/
import Derived.Test.YtlkgjceddbclpaaGreatEZ
import Derived.Test.YtlkgjceddbclpaaGreatEMConst
namespace Go.Proofs.YtlkgjceddbclpaaGreat.Mta
open Wire Term Rig Draw Reg

def annaT : Tm := annaB.data.toList
def notesT : Tm := notesB.data.toList
def knownL : List (Tm × Tm) := (List.range 8).map fun i => ((whoN i).data.toList, pubU (whoN i).data.toList)
def Knows (k : List (Tm × Tm)) : Prop := ∀ s, Wn s → pub k s = (pubU s, 0)
def boxT (r : Rt) (n : Nat) (s : Tm) : Tm := 98 :: (pubU s ++ (112 :: (hs (7 - r.ep.toNat) (rootS n) ++ (if s ∈ r.ws then sgn r.ep.toNat else emptyT))))
def bsOf (r : Rt) (n : Nat) : List (Tm × Tm) := (oth r).map fun s => (s, boxT r n s)
def vfOf (r : Rt) : List Tm := (List.range (r.ep.toNat + 1)).map sgp
def preM (r : Rt) (n ver : Nat) : Mt := ⟨r, ver, vfOf r, bsOf r n, []⟩
def txtM (r : Rt) (n ver : Nat) : Tm := 116 :: putText (bodyB (preM r n ver))
def mOf (r : Rt) (n ver : Nat) : Mt := ⟨r, ver, vfOf r, bsOf r n, 103 :: (secU annaT ++ txtM r n ver)⟩
theorem oth_wn {r : Rt} (h : Ann r) : ∀ s ∈ oth r, Wn s := fun s hs => h.2.2 s (mem_oth.1 hs)
theorem pubs_ok {k : List (Tm × Tm)} : ∀ {l : List Tm}, (∀ s ∈ l, pub k s = (pubU s, 0)) → pubs k l = (l.map pubU, 0)
  | [], _ => rfl
  | s :: l, h => by
    have h1 := h s (by simp)
    have h2 := pubs_ok (l := l) fun x hx => h x (by simp [hx])
    unfold pubs
    rw [h1, h2, if_neg (by simp), if_neg (by simp)]
    rfl
theorem vfs_ok : ∀ {l : List Nat}, (∀ i ∈ l, i ≤ 1000) → vfs (l.map sgn) = (l.map sgp, 0)
  | [], _ => rfl
  | i :: l, h => by
    have h1 := sgp_is (i := i) (by have := h i (by simp); omega)
    have h2 := vfs_ok (l := l) fun x hx => h x (by simp [hx])
    show (if (one 117 (sgn i)).2 ≠ 0 then ([], (one 117 (sgn i)).2) else if (vfs (l.map sgn)).2 ≠ 0 then ([], (vfs (l.map sgn)).2) else ((one 117 (sgn i)).1 :: (vfs (l.map sgn)).1, 0)) = _
    rw [h1, h2, if_neg (by simp), if_neg (by simp)]
    rfl
theorem emptyT_eq : 116 :: putText [] = emptyT := by unfold putText put; rw [show dig ([] : Tm).length = [] by unfold dig; rfl]; rfl
theorem emptyT_sz (d : Nat) : Sz (d + 1) emptyT := by rw [← emptyT_eq]; exact sz_text d (s := []) (by simp)
theorem st_sz {n k : Nat} (hn : n < 18446744073709551616) (hk : k ≤ 7) : Sz 10 (hs k (rootS n)) ∧ (hs k (rootS n)).length ≤ 47 := by
  obtain ⟨h1, h2⟩ := root_sz hn
  exact ⟨sz_up (sz_hs h1 k) (by omega), by rw [hs_len]; omega⟩
theorem sec_sz {r : Rt} (he : r.ep.toNat ≤ 7) (s : Tm) : Sz 10 (if s ∈ r.ws then sgn r.ep.toNat else emptyT) ∧ (if s ∈ r.ws then sgn r.ep.toNat else emptyT).length ≤ 50 := by
  split
  · have := sgn_sz (i := r.ep.toNat) (by omega)
    exact ⟨sz_up this.1 (by omega), this.2⟩
  · exact ⟨emptyT_sz 9, by decide⟩
theorem pair_sz {r : Rt} {n : Nat} (hn : n < 18446744073709551616) (he : r.ep.toNat ≤ 7) (s : Tm) : Sz 11 (112 :: (hs (7 - r.ep.toNat) (rootS n) ++ (if s ∈ r.ws then sgn r.ep.toNat else emptyT))) ∧
    (112 :: (hs (7 - r.ep.toNat) (rootS n) ++ (if s ∈ r.ws then sgn r.ep.toNat else emptyT))).length ≤ 98 := by
  have h1 := st_sz hn (k := 7 - r.ep.toNat) (by omega)
  have h2 := sec_sz he s
  exact ⟨sz_two (.inl rfl) h1.1 h2.1, by rw [List.length_cons, List.length_append]; omega⟩
theorem box_sz {r : Rt} {n : Nat} (hn : n < 18446744073709551616) (he : r.ep.toNat ≤ 7) {s : Tm} (hs : s.length ≤ 12) : Sz 12 (boxT r n s) ∧ (boxT r n s).length ≤ 150 := by
  have h1 := pubU_sz hs
  have h2 := pair_sz hn he s
  refine ⟨sz_two (.inr (.inr ⟨rfl, rfl⟩)) (sz_up h1.1 (by omega)) h2.1, ?_⟩
  unfold boxT
  rw [List.length_cons, List.length_append]
  omega
theorem box_right {r : Rt} {n : Nat} (hn : n < 18446744073709551616) (he : r.ep.toNat ≤ 7) {s : Tm} (hs : s.length ≤ 12) : right (boxT r n s) = true := sz_right (box_sz hn he hs).1 (by omega) (by have := (box_sz hn he hs).2; omega)
theorem blk_ok {r : Rt} {n : Nat} (hn : n < 18446744073709551616) (he : r.ep.toNat ≤ 7) {s : Tm} (hl : s.length ≤ 12) : blk r s (hs (7 - r.ep.toNat) (rootS n)) (sgn r.ep.toNat) (pubU s) = ((s, boxT r n s), 0) := by
  have h1 := st_sz hn (k := 7 - r.ep.toNat) (by omega)
  have h2 := sec_sz he s
  have h3 := pair_sz hn he s
  have r1 : right (hs (7 - r.ep.toNat) (rootS n)) = true := sz_right h1.1 (by omega) (by omega)
  have r2 : right (if s ∈ r.ws then sgn r.ep.toNat else emptyT) = true := sz_right h2.1 (by omega) (by omega)
  have r3 := sz_right h3.1 (by omega) (by omega)
  have e1 : two 112 (hs (7 - r.ep.toNat) (rootS n)) (if s ∈ r.ws then sgn r.ep.toNat else emptyT) = (112 :: (hs (7 - r.ep.toNat) (rootS n) ++ (if s ∈ r.ws then sgn r.ep.toNat else emptyT)), 0) := by
    unfold two
    rw [if_pos ⟨r1, r2⟩]
    exact made_yes r3
  have e2 : box (pubU s) (112 :: (hs (7 - r.ep.toNat) (rootS n) ++ (if s ∈ r.ws then sgn r.ep.toNat else emptyT))) = (boxT r n s, 0) := by
    unfold box
    rw [if_pos ⟨pubU_right hl, rfl⟩]
    unfold two
    rw [if_pos ⟨pubU_right hl, r3⟩]
    exact made_yes (box_right hn he hl)
  unfold blk
  rw [e1, if_neg (by simp), e2]
theorem blkAll_ok {r : Rt} {n : Nat} (hn : n < 18446744073709551616) (he : r.ep.toNat ≤ 7) : ∀ {l : List Tm}, (∀ s ∈ l, Wn s) → blkAll r (hs (7 - r.ep.toNat) (rootS n)) (sgn r.ep.toNat) l (l.map pubU) = (l.map fun s => (s, boxT r n s), 0)
  | [], _ => rfl
  | s :: l, h => by
    have h1 := blk_ok hn he (wn_len (h s (by simp)))
    have h2 := blkAll_ok hn he (l := l) fun x hx => h x (by simp [hx])
    rw [List.map_cons]
    unfold blkAll
    rw [h1, h2, if_neg (by simp), if_neg (by simp)]
    rfl
theorem name_len {r : Rt} (h : Ann r) : (∀ x ∈ r.rs, x.length ≤ 12) ∧ (∀ x ∈ r.ws, x.length ≤ 12) := ⟨fun x hx => wn_len (h.2.2 x (.inl hx)), fun x hx => wn_len (h.2.2 x (.inr hx))⟩
theorem row_ann {r : Rt} (h : Ann r) : (rowR r).length ≤ 500 := by
  obtain ⟨n1, n2⟩ := name_len h
  obtain ⟨⟨_, _, a3, a4, _⟩, ⟨h1, h2⟩, _⟩ := h
  have l1 := putAll_most (k := 12) (n := 5) (l := r.rs) (by omega) (by omega) (by omega) n1
  have l2 := putAll_most (k := 12) (n := 5) (l := r.ws) (by omega) (by omega) (by omega) n2
  have p0 := (put_le (n := r.ep.toNat) (by omega)).2
  unfold rowR
  rw [h1, h2]
  have o1 : annaB.data.toList.length = 4 := rfl
  have o2 : notesB.data.toList.length = 5 := rfl
  generalize putAll r.rs = y at l1 ⊢
  generalize putAll r.ws = z at l2 ⊢
  generalize put r.ep.toNat = u at p0 ⊢
  have p1 := (put_le (n := annaB.data.toList.length) (by omega)).2
  have p2 := (put_le (n := notesB.data.toList.length) (by omega)).2
  have p3 := (put_le (n := u.length) (by omega)).2
  have p4 := (put_le (n := y.length) (by omega)).2
  have p5 := (put_le (n := z.length) (by omega)).2
  have p6 := (put_le (n := 0 + 1 + 1 + 1 + 1 + 1) (by omega)).2
  simp only [putAll, List.length_append, List.flatMap_cons, List.flatMap_nil, putText_len, List.length_cons, List.length_nil]
  omega
theorem body_ann {r : Rt} (h : Ann r) {n ver : Nat} (hn : n < 18446744073709551616) (hv : ver < 18446744073709551616) : (bodyB (preM r n ver)).length ≤ 3800 := by
  have h0 := row_ann h
  have he : r.ep.toNat ≤ 7 := by have := h.1.2.2.1; omega
  have h1 := (put_le hv).2
  have h2 : (putAll (vfOf r)).length ≤ 8 * (51 + 9) + 9 := putAll_most (k := 51) (n := 8) (by omega) (by unfold vfOf; rw [List.length_map, List.length_range]; omega) (by omega) fun t ht => by
    obtain ⟨i, hi, rfl⟩ := List.mem_map.1 ht
    exact (sgp_sz (by have := List.mem_range.1 hi; omega)).2
  have h3 : (putAll ((bsOf r n).map fun b => putAll [b.1, b.2])).length ≤ 5 * (327 + 9) + 9 := putAll_most (k := 327) (n := 5) (by omega) (by unfold bsOf; rw [List.length_map, List.length_map, oth_len]; exact h.1.2.2.2.1) (by omega) fun t ht => by
    obtain ⟨b, hb, rfl⟩ := List.mem_map.1 ht
    obtain ⟨s, hs, rfl⟩ := List.mem_map.1 hb
    have hl := wn_len (oth_wn h s hs)
    have := putAll_most (k := 150) (n := 2) (l := [s, boxT r n s]) (by omega) (by simp) (by omega) fun t ht => by
      have : t = s ∨ t = boxT r n s := by simpa using ht
      rcases this with rfl | rfl
      · omega
      · exact (box_sz hn he hl).2
    simp only
    omega
  unfold bodyB preM
  simp only
  generalize putAll ((bsOf r n).map fun b => putAll [b.1, b.2]) = y at h3 ⊢
  generalize putAll (vfOf r) = z at h2 ⊢
  generalize put ver = u at h1 ⊢
  have p1 := (put_le (n := (rowR r).length) (by omega)).2
  have p2 := (put_le (n := u.length) (by omega)).2
  have p3 := (put_le (n := z.length) (by omega)).2
  have p4 := (put_le (n := y.length) (by omega)).2
  have p5 := (put_le (n := 0 + 1 + 1 + 1 + 1) (by omega)).2
  simp only [putAll, List.length_append, List.flatMap_cons, List.flatMap_nil, putText_len, List.length_cons, List.length_nil]
  omega
theorem anna_len : annaT.length ≤ 12 := by decide
theorem txt_ok {r : Rt} (h : Ann r) {n ver : Nat} (hn : n < 18446744073709551616) (hv : ver < 18446744073709551616) : ofText (bodyB (preM r n ver)) = (txtM r n ver, 0) ∧ Sz 1 (txtM r n ver) ∧ (txtM r n ver).length ≤ 3810 ∧ right (txtM r n ver) = true := by
  have hb := body_ann h hn hv
  have h1 : Sz 1 (txtM r n ver) := sz_text 0 (by omega)
  have hl : (txtM r n ver).length ≤ 3810 := by
    have := (put_le (n := (bodyB (preM r n ver)).length) (by omega)).2
    unfold txtM
    rw [List.length_cons, putText_len]
    omega
  have hr : right (txtM r n ver) = true := sz_right h1 (by omega) (by omega)
  exact ⟨made_yes hr, h1, hl, hr⟩
theorem sig_ok {t : Tm} (h1 : Sz 1 t) (hl : t.length ≤ 3810) {s : Tm} (hs : s.length ≤ 12) : two 103 (secU s) t = (103 :: (secU s ++ t), 0) ∧ right (103 :: (secU s ++ t)) = true := by
  obtain ⟨z1, z2⟩ := secU_sz hs
  have hr : right (103 :: (secU s ++ t)) = true := sz_right (sz_two (.inr (.inl rfl)) z1 (sz_up h1 (by omega))) (by omega) (by rw [List.length_cons, List.length_append]; omega)
  refine ⟨?_, hr⟩
  unfold two
  rw [if_pos ⟨secU_right hs, sz_right h1 (by omega) (by omega)⟩]
  exact made_yes hr
theorem build_with {r : Rt} (h : Ann r) {n ver : Nat} (hn : n < 18446744073709551616) (hv : ver < 18446744073709551616) {k : List (Tm × Tm)} (hk : ∀ s ∈ oth r, pub k s = (pubU s, 0)) : build (secU annaT) r ver (rootS n) (sgs (r.ep.toNat + 1)) k = (mOf r n ver, 0) := by
  have he : r.ep.toNat ≤ 7 := by have := h.1.2.2.1; omega
  have hee : ((r.ep.toNat : Nat) : Int) = r.ep := by have := h.1.2.2.1; omega
  have e1 := pubs_ok hk
  have e2 : vfs (sgs (r.ep.toNat + 1)) = (vfOf r, 0) := vfs_ok fun i hi => by have := List.mem_range.1 hi; omega
  have e3 : Reg.state (rootS n) r.ep = (hs (7 - r.ep.toNat) (rootS n), 0) := by
    have := st_state hn (e := r.ep.toNat) he
    rw [hee] at this
    exact this
  have e4 := blkAll_ok (r := r) hn he (oth_wn h)
  have e5 : (sgs (r.ep.toNat + 1)).getD r.ep.toNat [] = sgn r.ep.toNat := sgs_get (by omega)
  obtain ⟨t1, t2, t3, t4⟩ := txt_ok h hn hv
  obtain ⟨s1, s2⟩ := sig_ok t2 t3 anna_len
  unfold build
  rw [if_neg, e1, if_neg (by simp), e2, if_neg (by simp), e3, if_neg (by simp), e5]
  · simp only
    rw [e4, if_neg (by simp)]
    simp only
    unfold built
    show (if (ofText (bodyB (preM r n ver))).2 ≠ 0 then (mzero, (ofText (bodyB (preM r n ver))).2) else if (two 103 (secU annaT) (ofText (bodyB (preM r n ver))).1).2 ≠ 0 then (mzero, (two 103 (secU annaT) (ofText (bodyB (preM r n ver))).1).2)
      else ((⟨r, ver, vfOf r, bsOf r n, (two 103 (secU annaT) (ofText (bodyB (preM r n ver))).1).1⟩ : Mt), (0 : Int))) = _
    rw [t1, if_neg (by simp)]
    simp only
    rw [s1, if_neg (by simp)]
    rfl
  · rintro (h1 | h1 | h1 | h1 | h1)
    · exact h1 (secU_right anna_len)
    · exact h1 (st_right hn (k := 0) (by omega))
    · exact h1 h.1
    · rw [sgs_len] at h1; omega
    · exact h1 (sgs_right (by omega))
theorem mOf_right {r : Rt} (h : Ann r) {n ver : Nat} (hn : n < 18446744073709551616) (hv : ver < 18446744073709551616) : MR (mOf r n ver) := by
  have he : r.ep.toNat ≤ 7 := by have := h.1.2.2.1; omega
  have hee : ((r.ep.toNat : Nat) : Int) = r.ep := by have := h.1.2.2.1; omega
  obtain ⟨t1, t2, t3, t4⟩ := txt_ok h hn hv
  obtain ⟨s1, s2⟩ := sig_ok t2 t3 anna_len
  refine ⟨h.1, ?_, ?_, ?_, ?_, ?_⟩
  · show ((vfOf r).length : Int) = r.ep + 1
    unfold vfOf
    rw [List.length_map, List.length_range]; omega
  · show kind (103 :: (secU annaT ++ txtM r n ver)) = 103
    rw [kind_right s2]; rfl
  · intro t ht
    obtain ⟨i, hi, rfl⟩ := List.mem_map.1 ht
    exact sgp_kind (by have := List.mem_range.1 hi; omega)
  · show (bsOf r n).map (·.1) = oth r
    unfold bsOf
    rw [List.map_map]
    exact List.map_id _
  · intro t ht
    obtain ⟨b, hb, rfl⟩ := List.mem_map.1 ht
    obtain ⟨s, hs, rfl⟩ := List.mem_map.1 hb
    have hl := wn_len (oth_wn h s hs)
    show kind (boxT r n s) = 98
    rw [kind_right (box_right hn he hl)]; rfl
end Go.Proofs.YtlkgjceddbclpaaGreat.Mta

