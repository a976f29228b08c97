/-
  B2. By an AI agent.
-/
import Derived.Test.YtbdealddjonobaaGreatYZ
import Derived.Test.YtbdealddjonobaaGreatYH1
import Derived.Test.YtbdealddjonobaaGreatYB1
import Derived.Test.YtbdealddjonobaaGreatYD1
namespace Go.Proofs.YtbdealddjonobaaGreat.Rig
open Go.RowKit Wire

def annaB : ByteArray := ⟨#[97, 110, 110, 97]⟩
def notesB : ByteArray := ⟨#[110, 111, 116, 101, 115]⟩
end Go.Proofs.YtbdealddjonobaaGreat.Rig

namespace Go.Proofs.YtbdealddjonobaaGreat.Rig
open Go.RowKit Wire

set_option linter.unusedSimpArgs false
def Wn (u : Tm) : Prop := ∃ m, m < 8 ∧ u = (whoN m).data.toList
theorem Wn.nm {u : Tm} (h : Wn u) : nm u = true := by obtain ⟨m, hm, rfl⟩ := h; exact who_right hm
def Ann (r : Rt) : Prop := RR r ∧ (r.o = annaB.data.toList ∧ r.f = notesB.data.toList) ∧ ∀ x, x ∈ r.rs ∨ x ∈ r.ws → Wn x
end Go.Proofs.YtbdealddjonobaaGreat.Rig

namespace Go.Proofs.YtbdealddjonobaaGreat.Mta
open Wire Term Rig Draw Reg

def userT : Tm := [117, 115, 101, 114]
def signT : Tm := [115, 105, 103, 110]
def xT : Tm := [120]
def secU (who : Tm) : Tm := sech userT who 1
def pubU (who : Tm) : Tm := 117 :: secU who
def sgn (i : Nat) : Tm := sech signT xT i
def sgp (i : Nat) : Tm := 117 :: sgn i
def sgs (n : Nat) : List Tm := (List.range n).map sgn
theorem size_two {d : Nat} {k : UInt8} {a b : List UInt8} (hk : k = 112 ∨ k = 103 ∨ (k = 98 ∧ a.head? = some 117)) (ha : size d a = a.length) (ha0 : a ≠ []) (hb : size d b = b.length) (hb0 : b ≠ []) : size (d + 1) (k :: (a ++ b)) = (k :: (a ++ b)).length := by
  have hal : a.length ≠ 0 := fun h => ha0 (List.eq_nil_of_length_eq_zero h)
  have hbl : b.length ≠ 0 := fun h => hb0 (List.eq_nil_of_length_eq_zero h)
  show up (body (size d) k (a ++ b)) = _
  have har : arity k = some 2 := by rcases hk with rfl | rfl | ⟨rfl, _⟩ <;> rfl
  have h1 : body (size d) k (a ++ b) = sizes (size d) 2 (a ++ b) := by
    unfold body
    rw [har]
    show (if k = 98 ∧ (a ++ b).head? ≠ some 117 then none else sizes (size d) 2 (a ++ b)) = _
    rw [if_neg]
    rintro ⟨h98, hh⟩
    rcases hk with rfl | rfl | ⟨rfl, h117⟩
    · exact absurd h98 (by decide)
    · exact absurd h98 (by decide)
    · refine hh ?_
      cases a with
      | nil => exact absurd rfl ha0
      | cons x t => exact h117
  have h2 : size d (a ++ b) = a.length := by
    have := size_ext d a b (by rw [ha]; exact hal)
    rw [ha, List.take_length] at this
    exact this
  have h3 : sizes (size d) 1 b = some b.length := by
    unfold sizes
    rw [hb, if_neg hbl]
    unfold sizes
    rfl
  have h4 : sizes (size d) 2 (a ++ b) = some (a.length + b.length) := by
    unfold sizes
    rw [h2, if_neg hal, List.drop_left, h3]
    rfl
  rw [h1, h4]
  simp only [up, List.length_cons, List.length_append]; omega
theorem sz_two {d : Nat} {k : UInt8} {a b : List UInt8} (hk : k = 112 ∨ k = 103 ∨ (k = 98 ∧ a.head? = some 117)) (ha : Sz d a) (hb : Sz d b) : Sz (d + 1) (k :: (a ++ b)) := ⟨List.cons_ne_nil _ _, size_two hk ha.2 ha.1 hb.2 hb.1⟩
theorem sz_text (d : Nat) {s : Tm} (h : s.length ≤ 3900) : Sz (d + 1) (116 :: putText s) := by
  refine ⟨List.cons_ne_nil _ _, ?_⟩
  have h1 : text (putText s) 4000 = (s, [], 0) := by
    have := text_put (t := s) (by omega) [] 4000 (by omega)
    rw [List.append_nil] at this
    exact this
  show up (body (size d) 116 (putText s)) = _
  have h2 : body (size d) 116 (putText s) = some (putText s).length := by
    show leaf 116 (putText s) = _
    unfold leaf
    rw [if_neg (by decide), h1, if_pos rfl]
    rfl
  rw [h2]
  simp only [up, List.length_cons]; omega
theorem secU_sz {who : Tm} (h : who.length ≤ 12) : Sz 3 (secU who) ∧ (secU who).length ≤ 50 := by
  have hl : (userT ++ 58 :: who).length ≤ 17 := by rw [List.length_append, List.length_cons]; show 4 + (who.length + 1) ≤ 17; omega
  have h1 : Sz 1 (txt userT who) := sz_txt 0 (by omega)
  have h2 : Sz 1 (ofAtom 1) := sz_atom 0 (by omega)
  refine ⟨sz_one (.inl rfl) (sz_pair h1 h2), ?_⟩
  have h3 := (put_le (n := 1) (by omega)).2
  have h4 := (put_le (n := (userT ++ 58 :: who).length) (by omega)).2
  unfold secU sech prs ofAtom txt
  simp only [List.length_cons, List.length_append, putText_len] at hl h4 ⊢
  omega
theorem sgn_sz {i : Nat} (h : i < 18446744073709551616) : Sz 3 (sgn i) ∧ (sgn i).length ≤ 50 := by
  have hl : (signT ++ 58 :: xT).length = 6 := rfl
  have h1 : Sz 1 (txt signT xT) := sz_txt 0 (by rw [hl]; omega)
  have h2 : Sz 1 (ofAtom i) := sz_atom 0 h
  refine ⟨sz_one (.inl rfl) (sz_pair h1 h2), ?_⟩
  have h3 := (put_le h).2
  have h4 := (put_le (n := (signT ++ 58 :: xT).length) (by omega)).2
  unfold sgn sech prs ofAtom txt
  simp only [List.length_cons, List.length_append, putText_len] at hl h4 ⊢
  omega
theorem secU_right {who : Tm} (h : who.length ≤ 12) : right (secU who) = true := sz_right (secU_sz h).1 (by omega) (by have := (secU_sz h).2; omega)
theorem pubU_sz {who : Tm} (h : who.length ≤ 12) : Sz 4 (pubU who) ∧ (pubU who).length ≤ 51 := ⟨sz_one (.inr rfl) (secU_sz h).1, by have := (secU_sz h).2; unfold pubU; rw [List.length_cons]; omega⟩
theorem pubU_right {who : Tm} (h : who.length ≤ 12) : right (pubU who) = true := sz_right (pubU_sz h).1 (by omega) (by have := (pubU_sz h).2; omega)
theorem pubU_kind {who : Tm} (h : who.length ≤ 12) : kind (pubU who) = 117 := by rw [kind_right (pubU_right h)]; rfl
theorem sgp_sz {i : Nat} (h : i < 18446744073709551616) : Sz 4 (sgp i) ∧ (sgp i).length ≤ 51 := ⟨sz_one (.inr rfl) (sgn_sz h).1, by have := (sgn_sz h).2; unfold sgp; rw [List.length_cons]; omega⟩
theorem sgp_right {i : Nat} (h : i < 18446744073709551616) : right (sgp i) = true := sz_right (sgp_sz h).1 (by omega) (by have := (sgp_sz h).2; omega)
theorem sgp_kind {i : Nat} (h : i < 18446744073709551616) : kind (sgp i) = 117 := by rw [kind_right (sgp_right h)]; rfl
theorem secU_is {who : Tm} (h : who.length ≤ 12) : secret userT who 1 = (secU who, 0) := by
  obtain ⟨h1, h2, h3, _⟩ := secret_small (use := userT) (who := who) (n := 1) (by show 4 + who.length ≤ 1000; omega) (by omega)
  exact secret_ok (by omega) h1 h2 h3
theorem pubU_is {who : Tm} (h : who.length ≤ 12) : one 117 (secU who) = (pubU who, 0) := by
  unfold one
  rw [if_pos (secU_right h)]
  exact made_yes (pubU_right h)
theorem wn_len {u : Tm} (h : Wn u) : u.length ≤ 12 := by
  obtain ⟨m, _, rfl⟩ := h
  have := who_size m
  rw [Lib.size_eq] at this
  omega
end Go.Proofs.YtbdealddjonobaaGreat.Mta

namespace Go.Proofs.YtbdealddjonobaaGreat.Mta
open Wire Term Rig Draw Reg

def annaT : Tm := annaB.data.toList
def knownL : List (Tm × Tm) := (List.range 8).map fun i => ((whoN i).data.toList, pubU (whoN i).data.toList)
def Knows (k : List (Tm × Tm)) : Prop := ∀ s, Wn s → pub k s = (pubU s, 0)
def boxT (r : Rt) (n : Nat) (s : Tm) : Tm := 98 :: (pubU s ++ (112 :: (hs (7 - r.ep.toNat) (rootS n) ++ (if s ∈ r.ws then sgn r.ep.toNat else emptyT))))
def bsOf (r : Rt) (n : Nat) : List (Tm × Tm) := (oth r).map fun s => (s, boxT r n s)
def vfOf (r : Rt) : List Tm := (List.range (r.ep.toNat + 1)).map sgp
def preM (r : Rt) (n ver : Nat) : Mt := ⟨r, ver, vfOf r, bsOf r n, []⟩
def txtM (r : Rt) (n ver : Nat) : Tm := 116 :: putText (bodyB (preM r n ver))
def mOf (r : Rt) (n ver : Nat) : Mt := ⟨r, ver, vfOf r, bsOf r n, 103 :: (secU annaT ++ txtM r n ver)⟩
theorem oth_wn {r : Rt} (h : Ann r) : ∀ s ∈ oth r, Wn s := fun s hs => h.2.2 s (mem_oth.1 hs)
theorem pubs_ok {k : List (Tm × Tm)} : ∀ {l : List Tm}, (∀ s ∈ l, pub k s = (pubU s, 0)) → pubs k l = (l.map pubU, 0)
  | [], _ => rfl
  | s :: l, h => by
    have h1 := h s (by simp)
    have h2 := pubs_ok (l := l) fun x hx => h x (by simp [hx])
    unfold pubs
    rw [h1, h2, if_neg (by simp), if_neg (by simp)]
    rfl
theorem emptyT_eq : 116 :: putText [] = emptyT := by unfold putText put; rw [show dig ([] : Tm).length = [] by unfold dig; rfl]; rfl
theorem emptyT_sz (d : Nat) : Sz (d + 1) emptyT := by rw [← emptyT_eq]; exact sz_text d (s := []) (by simp)
theorem st_sz {n k : Nat} (hn : n < 18446744073709551616) (hk : k ≤ 7) : Sz 10 (hs k (rootS n)) ∧ (hs k (rootS n)).length ≤ 47 := by
  obtain ⟨h1, h2⟩ := root_sz hn
  exact ⟨sz_up (sz_hs h1 k) (by omega), by rw [hs_len]; omega⟩
theorem sec_sz {r : Rt} (he : r.ep.toNat ≤ 7) (s : Tm) : Sz 10 (if s ∈ r.ws then sgn r.ep.toNat else emptyT) ∧ (if s ∈ r.ws then sgn r.ep.toNat else emptyT).length ≤ 50 := by
  split
  · have := sgn_sz (i := r.ep.toNat) (by omega)
    exact ⟨sz_up this.1 (by omega), this.2⟩
  · exact ⟨emptyT_sz 9, by decide⟩
theorem pair_sz {r : Rt} {n : Nat} (hn : n < 18446744073709551616) (he : r.ep.toNat ≤ 7) (s : Tm) : Sz 11 (112 :: (hs (7 - r.ep.toNat) (rootS n) ++ (if s ∈ r.ws then sgn r.ep.toNat else emptyT))) ∧
    (112 :: (hs (7 - r.ep.toNat) (rootS n) ++ (if s ∈ r.ws then sgn r.ep.toNat else emptyT))).length ≤ 98 := by
  have h1 := st_sz hn (k := 7 - r.ep.toNat) (by omega)
  have h2 := sec_sz he s
  exact ⟨sz_two (.inl rfl) h1.1 h2.1, by rw [List.length_cons, List.length_append]; omega⟩
theorem box_sz {r : Rt} {n : Nat} (hn : n < 18446744073709551616) (he : r.ep.toNat ≤ 7) {s : Tm} (hs : s.length ≤ 12) : Sz 12 (boxT r n s) ∧ (boxT r n s).length ≤ 150 := by
  have h1 := pubU_sz hs
  have h2 := pair_sz hn he s
  refine ⟨sz_two (.inr (.inr ⟨rfl, rfl⟩)) (sz_up h1.1 (by omega)) h2.1, ?_⟩
  unfold boxT
  rw [List.length_cons, List.length_append]
  omega
theorem box_right {r : Rt} {n : Nat} (hn : n < 18446744073709551616) (he : r.ep.toNat ≤ 7) {s : Tm} (hs : s.length ≤ 12) : right (boxT r n s) = true := sz_right (box_sz hn he hs).1 (by omega) (by have := (box_sz hn he hs).2; omega)
theorem blk_ok {r : Rt} {n : Nat} (hn : n < 18446744073709551616) (he : r.ep.toNat ≤ 7) {s : Tm} (hl : s.length ≤ 12) : blk r s (hs (7 - r.ep.toNat) (rootS n)) (sgn r.ep.toNat) (pubU s) = ((s, boxT r n s), 0) := by
  have h1 := st_sz hn (k := 7 - r.ep.toNat) (by omega)
  have h2 := sec_sz he s
  have h3 := pair_sz hn he s
  have r1 : right (hs (7 - r.ep.toNat) (rootS n)) = true := sz_right h1.1 (by omega) (by omega)
  have r2 : right (if s ∈ r.ws then sgn r.ep.toNat else emptyT) = true := sz_right h2.1 (by omega) (by omega)
  have r3 := sz_right h3.1 (by omega) (by omega)
  have e1 : two 112 (hs (7 - r.ep.toNat) (rootS n)) (if s ∈ r.ws then sgn r.ep.toNat else emptyT) = (112 :: (hs (7 - r.ep.toNat) (rootS n) ++ (if s ∈ r.ws then sgn r.ep.toNat else emptyT)), 0) := by
    unfold two
    rw [if_pos ⟨r1, r2⟩]
    exact made_yes r3
  have e2 : box (pubU s) (112 :: (hs (7 - r.ep.toNat) (rootS n) ++ (if s ∈ r.ws then sgn r.ep.toNat else emptyT))) = (boxT r n s, 0) := by
    unfold box
    rw [if_pos ⟨pubU_right hl, rfl⟩]
    unfold two
    rw [if_pos ⟨pubU_right hl, r3⟩]
    exact made_yes (box_right hn he hl)
  unfold blk
  rw [e1, if_neg (by simp), e2]
theorem blkAll_ok {r : Rt} {n : Nat} (hn : n < 18446744073709551616) (he : r.ep.toNat ≤ 7) : ∀ {l : List Tm}, (∀ s ∈ l, Wn s) → blkAll r (hs (7 - r.ep.toNat) (rootS n)) (sgn r.ep.toNat) l (l.map pubU) = (l.map fun s => (s, boxT r n s), 0)
  | [], _ => rfl
  | s :: l, h => by
    have h1 := blk_ok hn he (wn_len (h s (by simp)))
    have h2 := blkAll_ok hn he (l := l) fun x hx => h x (by simp [hx])
    rw [List.map_cons]
    unfold blkAll
    rw [h1, h2, if_neg (by simp), if_neg (by simp)]
    rfl
theorem name_len {r : Rt} (h : Ann r) : (∀ x ∈ r.rs, x.length ≤ 12) ∧ (∀ x ∈ r.ws, x.length ≤ 12) := ⟨fun x hx => wn_len (h.2.2 x (.inl hx)), fun x hx => wn_len (h.2.2 x (.inr hx))⟩
theorem row_ann {r : Rt} (h : Ann r) : (rowR r).length ≤ 500 := by
  obtain ⟨n1, n2⟩ := name_len h
  obtain ⟨⟨_, _, a3, a4, _⟩, ⟨h1, h2⟩, _⟩ := h
  have l1 := putAll_most (k := 12) (n := 5) (l := r.rs) (by omega) (by omega) (by omega) n1
  have l2 := putAll_most (k := 12) (n := 5) (l := r.ws) (by omega) (by omega) (by omega) n2
  have p0 := (put_le (n := r.ep.toNat) (by omega)).2
  unfold rowR
  rw [h1, h2]
  have o1 : annaB.data.toList.length = 4 := rfl
  have o2 : notesB.data.toList.length = 5 := rfl
  generalize putAll r.rs = y at l1 ⊢
  generalize putAll r.ws = z at l2 ⊢
  generalize put r.ep.toNat = u at p0 ⊢
  have p1 := (put_le (n := annaB.data.toList.length) (by omega)).2
  have p2 := (put_le (n := notesB.data.toList.length) (by omega)).2
  have p3 := (put_le (n := u.length) (by omega)).2
  have p4 := (put_le (n := y.length) (by omega)).2
  have p5 := (put_le (n := z.length) (by omega)).2
  have p6 := (put_le (n := 0 + 1 + 1 + 1 + 1 + 1) (by omega)).2
  simp only [putAll, List.length_append, List.flatMap_cons, List.flatMap_nil, putText_len, List.length_cons, List.length_nil]
  omega
theorem body_ann {r : Rt} (h : Ann r) {n ver : Nat} (hn : n < 18446744073709551616) (hv : ver < 18446744073709551616) : (bodyB (preM r n ver)).length ≤ 3800 := by
  have h0 := row_ann h
  have he : r.ep.toNat ≤ 7 := by have := h.1.2.2.1; omega
  have h1 := (put_le hv).2
  have h2 : (putAll (vfOf r)).length ≤ 8 * (51 + 9) + 9 := putAll_most (k := 51) (n := 8) (by omega) (by unfold vfOf; rw [List.length_map, List.length_range]; omega) (by omega) fun t ht => by
    obtain ⟨i, hi, rfl⟩ := List.mem_map.1 ht
    exact (sgp_sz (by have := List.mem_range.1 hi; omega)).2
  have h3 : (putAll ((bsOf r n).map fun b => putAll [b.1, b.2])).length ≤ 5 * (327 + 9) + 9 := putAll_most (k := 327) (n := 5) (by omega) (by unfold bsOf; rw [List.length_map, List.length_map, oth_len]; exact h.1.2.2.2.1) (by omega) fun t ht => by
    obtain ⟨b, hb, rfl⟩ := List.mem_map.1 ht
    obtain ⟨s, hs, rfl⟩ := List.mem_map.1 hb
    have hl := wn_len (oth_wn h s hs)
    have := putAll_most (k := 150) (n := 2) (l := [s, boxT r n s]) (by omega) (by simp) (by omega) fun t ht => by
      have : t = s ∨ t = boxT r n s := by simpa using ht
      rcases this with rfl | rfl
      · omega
      · exact (box_sz hn he hl).2
    simp only
    omega
  unfold bodyB preM
  simp only
  generalize putAll ((bsOf r n).map fun b => putAll [b.1, b.2]) = y at h3 ⊢
  generalize putAll (vfOf r) = z at h2 ⊢
  generalize put ver = u at h1 ⊢
  have p1 := (put_le (n := (rowR r).length) (by omega)).2
  have p2 := (put_le (n := u.length) (by omega)).2
  have p3 := (put_le (n := z.length) (by omega)).2
  have p4 := (put_le (n := y.length) (by omega)).2
  have p5 := (put_le (n := 0 + 1 + 1 + 1 + 1) (by omega)).2
  simp only [putAll, List.length_append, List.flatMap_cons, List.flatMap_nil, putText_len, List.length_cons, List.length_nil]
  omega
theorem anna_len : annaT.length ≤ 12 := by decide
theorem txt_ok {r : Rt} (h : Ann r) {n ver : Nat} (hn : n < 18446744073709551616) (hv : ver < 18446744073709551616) : ofText (bodyB (preM r n ver)) = (txtM r n ver, 0) ∧ Sz 1 (txtM r n ver) ∧ (txtM r n ver).length ≤ 3810 ∧ right (txtM r n ver) = true := by
  have hb := body_ann h hn hv
  have h1 : Sz 1 (txtM r n ver) := sz_text 0 (by omega)
  have hl : (txtM r n ver).length ≤ 3810 := by
    have := (put_le (n := (bodyB (preM r n ver)).length) (by omega)).2
    unfold txtM
    rw [List.length_cons, putText_len]
    omega
  have hr : right (txtM r n ver) = true := sz_right h1 (by omega) (by omega)
  exact ⟨made_yes hr, h1, hl, hr⟩
theorem sig_ok {t : Tm} (h1 : Sz 1 t) (hl : t.length ≤ 3810) {s : Tm} (hs : s.length ≤ 12) : two 103 (secU s) t = (103 :: (secU s ++ t), 0) ∧ right (103 :: (secU s ++ t)) = true := by
  obtain ⟨z1, z2⟩ := secU_sz hs
  have hr : right (103 :: (secU s ++ t)) = true := sz_right (sz_two (.inr (.inl rfl)) z1 (sz_up h1 (by omega))) (by omega) (by rw [List.length_cons, List.length_append]; omega)
  refine ⟨?_, hr⟩
  unfold two
  rw [if_pos ⟨secU_right hs, sz_right h1 (by omega) (by omega)⟩]
  exact made_yes hr
theorem mOf_right {r : Rt} (h : Ann r) {n ver : Nat} (hn : n < 18446744073709551616) (hv : ver < 18446744073709551616) : MR (mOf r n ver) := by
  have he : r.ep.toNat ≤ 7 := by have := h.1.2.2.1; omega
  have hee : ((r.ep.toNat : Nat) : Int) = r.ep := by have := h.1.2.2.1; omega
  obtain ⟨t1, t2, t3, t4⟩ := txt_ok h hn hv
  obtain ⟨s1, s2⟩ := sig_ok t2 t3 anna_len
  refine ⟨h.1, ?_, ?_, ?_, ?_, ?_⟩
  · show ((vfOf r).length : Int) = r.ep + 1
    unfold vfOf
    rw [List.length_map, List.length_range]; omega
  · show kind (103 :: (secU annaT ++ txtM r n ver)) = 103
    rw [kind_right s2]; rfl
  · intro t ht
    obtain ⟨i, hi, rfl⟩ := List.mem_map.1 ht
    exact sgp_kind (by have := List.mem_range.1 hi; omega)
  · show (bsOf r n).map (·.1) = oth r
    unfold bsOf
    rw [List.map_map]
    exact List.map_id _
  · intro t ht
    obtain ⟨b, hb, rfl⟩ := List.mem_map.1 ht
    obtain ⟨s, hs, rfl⟩ := List.mem_map.1 hb
    have hl := wn_len (oth_wn h s hs)
    show kind (boxT r n s) = 98
    rw [kind_right (box_right hn he hl)]; rfl
end Go.Proofs.YtbdealddjonobaaGreat.Mta

namespace Go.Proofs.YtbdealddjonobaaGreat.Mta
open Wire Term Rig Draw Reg

theorem verify_is {p a s : Tm} (hp : right p = true) (hk : p.headD 0 = 117) (ha : right a = true) (hs : right s = true) : verify p a s = if s = 103 :: (p.tail ++ a) then 0 else 7 := by
  unfold verify
  rw [if_pos ⟨hp, ha, hs⟩]
  by_cases h : s = 103 :: (p.tail ++ a)
  · rw [if_pos ⟨hk, h⟩, if_pos h]
  · rw [if_neg (fun h2 => h h2.2), if_neg h]
section
variable {r : Rt} (h : Ann r) {n ver : Nat} (hn : n < 18446744073709551616) (hv : ver < 18446744073709551616)
include h hn hv
end
section
variable {r : Rt} (h : Ann r) {n ver : Nat} (hn : n < 18446744073709551616) (hv : ver < 18446744073709551616)
include h hn hv
end
end Go.Proofs.YtbdealddjonobaaGreat.Mta

namespace Go.Proofs.YtbdealddjonobaaGreat.Mta
open Wire Term Rig Draw Reg

theorem ann_ep {r : Rt} (h : Ann r) : r.ep.toNat ≤ 7 ∧ ((r.ep.toNat : Nat) : Int) = r.ep := by have := h.1.2.2.1; exact ⟨by omega, by omega⟩
theorem pub_find {k : List (Tm × Tm)} {s : Tm} {b : Tm × Tm} (h : k.find? (fun k => k.1 == s) = some b) (hb : b = (s, pubU s)) (hs : Wn s) : pub k s = (pubU s, 0) := by
  unfold pub
  rw [h, hb]
  simp only
  rw [if_pos (pubU_kind (wn_len hs))]
def kn (i : Nat) : Tm × Tm := ((whoN i).data.toList, pubU (whoN i).data.toList)
theorem knows_of {k : List (Tm × Tm)} (h : ∀ m, m < 8 → ∃ a b, k = a ++ kn m :: b ∧ ∀ x ∈ a, x.1 ≠ (whoN m).data.toList) : Knows k := by
  rintro s ⟨m, hm, rfl⟩
  obtain ⟨a, b, hk, ha⟩ := h m hm
  refine pub_find (b := kn m) ?_ rfl ⟨m, hm, rfl⟩
  rw [hk, List.find?_append]
  have h1 : a.find? (fun k => k.1 == (whoN m).data.toList) = none := List.find?_eq_none.2 fun x hx => by simpa using ha x hx
  rw [h1]
  simp [kn]
theorem knows_perm {P Q : List (Tm × Tm)} {f : Nat → Nat} (hP : ∀ x ∈ P, ¬ Wn x.1) (hf : ∀ i, i < 8 → f i < 8) (hinj : ∀ i j, i < 8 → j < 8 → f i = f j → i = j) (hsur : ∀ m, m < 8 → ∃ i, i < 8 ∧ f i = m) :
    Knows (P ++ (List.range 8).map (fun i => kn (f i)) ++ Q) := by
  refine knows_of fun m hm => ?_
  obtain ⟨i, hi, rfl⟩ := hsur m hm
  refine ⟨P ++ (List.range i).map (fun i => kn (f i)), (List.range' (i + 1) (7 - i)).map (fun i => kn (f i)) ++ Q, ?_, ?_⟩
  · have e : List.range 8 = List.range i ++ i :: List.range' (i + 1) (7 - i) := by
      have : i = 0 ∨ i = 1 ∨ i = 2 ∨ i = 3 ∨ i = 4 ∨ i = 5 ∨ i = 6 ∨ i = 7 := by omega
      rcases this with rfl | rfl | rfl | rfl | rfl | rfl | rfl | rfl <;> rfl
    rw [e, List.map_append, List.map_cons]
    simp only [List.append_assoc, List.cons_append]
  · intro x hx
    rcases List.mem_append.1 hx with hx | hx
    · exact fun e => hP x hx ⟨f i, hf i hi, e⟩
    · obtain ⟨j, hj, rfl⟩ := List.mem_map.1 hx
      have hji := List.mem_range.1 hj
      intro e
      have := who_inj (hf j (by omega)) (hf i hi) e
      have := hinj j i (by omega) hi this
      omega
theorem knows_all : Knows knownL := by
  have := knows_perm (P := []) (Q := []) (f := fun i => i) (by simp) (fun i h => h) (fun i j _ _ h => h) (fun m h => ⟨m, h, rfl⟩)
  simpa [knownL, kn] using this
end Go.Proofs.YtbdealddjonobaaGreat.Mta

namespace Go.Proofs.YtbdealddjonobaaGreat.Mta
open Wire Term Rig Draw Reg Clo

def stT (r : Rt) (n : Nat) : Tm := hs (7 - r.ep.toNat) (rootS n)
def secT (r : Rt) (s : Tm) : Tm := if s ∈ r.ws then sgn r.ep.toNat else emptyT
def pairT (r : Rt) (n : Nat) (s : Tm) : Tm := 112 :: (stT r n ++ secT r s)
theorem boxT_eq (r : Rt) (n : Nat) (s : Tm) : boxT r n s = 98 :: (pubU s ++ pairT r n s) := rfl
theorem pts_box {r : Rt} (h : Ann r) {n : Nat} (hn : n < 18446744073709551616) {s : Tm} (hs : s.length ≤ 12) : pts (boxT r n s) = [pubU s, pairT r n s] := by
  have he := (ann_ep h).1
  have hr := box_right (r := r) hn he hs
  obtain ⟨x, y, e1, e2, rx, ry, _⟩ := pts_two (b := 98) (t := pubU s ++ pairT r n s) hr (.inr (.inr (.inl rfl)))
  obtain ⟨e3, e4⟩ := right_cut (pubU_right hs) rx e1
  rw [boxT_eq, e2, e3, e4]
theorem pair_right {r : Rt} (h : Ann r) {n : Nat} (hn : n < 18446744073709551616) (s : Tm) : right (pairT r n s) = true ∧ right (stT r n) = true ∧ right (secT r s) = true := by
  have he := (ann_ep h).1
  have h1 := st_sz hn (k := 7 - r.ep.toNat) (by omega)
  have h2 := sec_sz he s
  have h3 := pair_sz hn he s
  exact ⟨sz_right h3.1 (by decide) (Nat.le_trans h3.2 (by decide)), sz_right h1.1 (by decide) (Nat.le_trans h1.2 (by decide)), sz_right h2.1 (by decide) (Nat.le_trans h2.2 (by decide))⟩
theorem pts_pair {r : Rt} (h : Ann r) {n : Nat} (hn : n < 18446744073709551616) (s : Tm) : pts (pairT r n s) = [stT r n, secT r s] := by
  obtain ⟨r1, r2, r3⟩ := pair_right h hn s
  obtain ⟨x, y, e1, e2, rx, ry, _⟩ := pts_two (b := 112) (t := stT r n ++ secT r s) r1 (.inl rfl)
  obtain ⟨e3, e4⟩ := right_cut r2 rx e1
  show pts (112 :: (stT r n ++ secT r s)) = _
  rw [e2, e3, e4]
theorem parts_of {t : Tm} (h : right t = true) : parts t = (pts t, 0) := by unfold pts parts; rw [if_pos h]
theorem told_ok {r : Rt} (h : Ann r) {n : Nat} (hn : n < 18446744073709551616) {s : Tm} (hs : s.length ≤ 12) : told (secU s) (boxT r n s) = (stT r n, if s ∈ r.ws then sgn r.ep.toNat else [], 0) := by
  have he := (ann_ep h).1
  obtain ⟨r1, r2, r3⟩ := pair_right h hn s
  have hb := box_right (r := r) hn he hs
  have hu : unbox (secU s) (boxT r n s) = (pairT r n s, 0) := by
    unfold unbox
    rw [if_pos ⟨secU_right hs, hb⟩]
    unfold opens
    rw [if_pos (show (boxT r n s).headD 0 = 98 from rfl), parts_of hb, pts_box h hn hs]
    rw [if_pos (show ([pubU s, pairT r n s], (0 : Int)).1.headD [] = 117 :: secU s from rfl)]
    rfl
  unfold told
  rw [hu, parts_of r1, pts_pair h hn s]
  simp only [List.getD_cons_zero, List.getD_cons_succ]
  rw [if_neg (by rintro (h1 | h1); exact h1 rfl; exact h1 rfl)]
  unfold secT
  by_cases hw : s ∈ r.ws
  · rw [if_pos hw, if_pos hw, if_neg (show ¬ (sgn r.ep.toNat).headD 0 = 116 by show ¬ (104 : UInt8) = 116; decide)]
  · rw [if_neg hw, if_neg hw, if_pos (show emptyT.headD 0 = 116 from rfl)]
theorem find_bs {r : Rt} {n : Nat} {u : Tm} (hu : u ∈ oth r) : (bsOf r n).find? (fun b => b.1 == u) = some (u, boxT r n u) := by
  unfold bsOf
  rw [List.find?_map]
  have : ∀ l : List Tm, u ∈ l → l.find? ((fun b : Tm × Tm => b.1 == u) ∘ fun s => (s, boxT r n s)) = some u := fun l => by
    induction l with
    | nil => intro h; cases h
    | cons x l ih =>
      intro hm
      by_cases hx : x = u
      · subst hx; simp
      · have hm' : u ∈ l := by
          rcases List.mem_cons.1 hm with e | e
          · exact absurd e.symm hx
          · exact e
        rw [List.find?_cons_of_neg (by simpa using hx)]
        exact ih hm'
  rw [this _ hu]; rfl
theorem find_no {r : Rt} {n : Nat} {u : Tm} (hu : u ∉ oth r) : (bsOf r n).find? (fun b => b.1 == u) = none := by
  refine List.find?_eq_none.2 fun b hb => ?_
  unfold bsOf at hb
  obtain ⟨s, hs, rfl⟩ := List.mem_map.1 hb
  simp only [beq_iff_eq]
  exact fun e => hu (by rw [← e]; exact hs)
theorem open_in {r : Rt} (h : Ann r) {n ver : Nat} (hn : n < 18446744073709551616) (hv : ver < 18446744073709551616) {u : Tm} (hu : u ∈ oth r) : openM (mOf r n ver) u (secU u) = (stT r n, if u ∈ r.ws then sgn r.ep.toNat else [], 0) := by
  have hl := wn_len (oth_wn h u hu)
  unfold openM
  rw [if_neg (by rintro (h1 | h1); exact h1 (mOf_right h hn hv); exact h1 (secU_right hl))]
  show (match (bsOf r n).find? (fun b => b.1 == u) with | none => ([], [], 6) | some b => told (secU u) b.2) = _
  rw [find_bs hu]
  exact told_ok h hn hl
section
variable {r : Rt} (h : Ann r) {n ver : Nat} (hn : n < 18446744073709551616) (hv : ver < 18446744073709551616)
include h hn hv
end
end Go.Proofs.YtbdealddjonobaaGreat.Mta

namespace Go.Proofs.YtbdealddjonobaaGreat.Mga
open Wire Term Rig Draw Reg Mta Clo

set_option linter.unusedVariables false
structure Kt where
  S : Tm
  R : Tm
  g : List Tm
def Kt.last (k : Kt) (r : Rt) : Tm := k.g.getD r.ep.toNat []
def Kt.st (k : Kt) (r : Rt) : Tm := hs (7 - r.ep.toNat) k.R
structure KOk (k : Kt) (r : Rt) : Prop where
  rr : RR r
  wn : ∀ s, s ∈ r.rs ∨ s ∈ r.ws → Wn s
  ol : r.o.length ≤ 12
  fl : r.f.length ≤ 12
  S : Sz 3 k.S ∧ k.S.length ≤ 50
  R : Sz 3 k.R ∧ k.R.length ≤ 40
  g : ∀ t ∈ k.g, Sz 3 t ∧ t.length ≤ 50 ∧ t.headD 0 = 104
  len : k.g.length = r.ep.toNat + 1
section
variable {k : Kt} {r : Rt}
theorem KOk.ep (h : KOk k r) : r.ep.toNat ≤ 7 ∧ ((r.ep.toNat : Nat) : Int) = r.ep := by have := h.rr.2.2.1; exact ⟨by omega, by omega⟩
theorem KOk.last (h : KOk k r) : Sz 3 (k.last r) ∧ (k.last r).length ≤ 50 ∧ (k.last r).headD 0 = 104 := by
  have hl : r.ep.toNat < k.g.length := by rw [h.len]; omega
  have : k.last r ∈ k.g := by
    unfold Kt.last
    rw [List.getD_eq_getElem?_getD, List.getElem?_eq_getElem hl]
    exact List.getElem_mem hl
  exact h.g _ this
theorem KOk.Sr (h : KOk k r) : right k.S = true := sz_right h.S.1 (by omega) (by have := h.S.2; omega)
theorem KOk.oth (h : KOk k r) : ∀ s ∈ oth r, Wn s := fun s hs => h.wn s (mem_oth.1 hs)
def secG (k : Kt) (r : Rt) (s : Tm) : Tm := if s ∈ r.ws then k.last r else emptyT
def pairG (k : Kt) (r : Rt) (s : Tm) : Tm := 112 :: (k.st r ++ secG k r s)
def boxG (k : Kt) (r : Rt) (s : Tm) : Tm := 98 :: (pubU s ++ pairG k r s)
def bsG (k : Kt) (r : Rt) : List (Tm × Tm) := (oth r).map fun s => (s, boxG k r s)
def vfG (k : Kt) : List Tm := k.g.map fun t => 117 :: t
def preG (k : Kt) (r : Rt) (ver : Nat) : Mt := ⟨r, ver, vfG k, bsG k r, []⟩
def txtG (k : Kt) (r : Rt) (ver : Nat) : Tm := 116 :: putText (bodyB (preG k r ver))
def mG (k : Kt) (r : Rt) (ver : Nat) : Mt := ⟨r, ver, vfG k, bsG k r, 103 :: (k.S ++ txtG k r ver)⟩
theorem one_u {t : Tm} (h : Sz 3 t) (hl : t.length ≤ 50) : one 117 t = (117 :: t, 0) ∧ Sz 4 (117 :: t) ∧ (117 :: t).length ≤ 51 ∧ right (117 :: t) = true := by
  have h1 : Sz 4 (117 :: t) := sz_one (.inr rfl) h
  have h2 : (117 :: t).length ≤ 51 := by rw [List.length_cons]; omega
  have h3 := sz_right h1 (by omega) (by omega)
  refine ⟨?_, h1, h2, h3⟩
  unfold one
  rw [if_pos (sz_right h (by omega) (by omega))]
  exact made_yes h3
theorem vfs_g : ∀ {l : List Tm}, (∀ t ∈ l, Sz 3 t ∧ t.length ≤ 50 ∧ t.headD 0 = 104) → vfs l = (l.map (fun t => 117 :: t), 0)
  | [], _ => rfl
  | t :: l, h => by
    have h0 := h t (by simp)
    have h1 := (one_u h0.1 h0.2.1).1
    have h2 := vfs_g (l := l) fun x hx => h x (by simp [hx])
    show (if (one 117 t).2 ≠ 0 then ([], (one 117 t).2) else if (vfs l).2 ≠ 0 then ([], (vfs l).2) else ((one 117 t).1 :: (vfs l).1, 0)) = _
    rw [h1, h2, if_neg (by simp), if_neg (by simp)]
    rfl
theorem st_g (h : KOk k r) : Sz 10 (k.st r) ∧ (k.st r).length ≤ 47 := by
  obtain ⟨h1, h2⟩ := h.R
  have h3 := h.ep.1
  exact ⟨sz_up (sz_hs h1 _) (by omega), by unfold Kt.st; rw [hs_len]; omega⟩
theorem sec_g (h : KOk k r) (s : Tm) : Sz 10 (secG k r s) ∧ (secG k r s).length ≤ 50 := by
  unfold secG
  split
  · exact ⟨sz_up h.last.1 (by omega), h.last.2.1⟩
  · exact ⟨emptyT_sz 9, by decide⟩
theorem pair_g (h : KOk k r) (s : Tm) : Sz 11 (pairG k r s) ∧ (pairG k r s).length ≤ 98 := by
  have h1 := st_g h
  have h2 := sec_g h s
  exact ⟨sz_two (.inl rfl) h1.1 h2.1, by unfold pairG; rw [List.length_cons, List.length_append]; omega⟩
theorem box_g (h : KOk k r) {s : Tm} (hs : s.length ≤ 12) : Sz 12 (boxG k r s) ∧ (boxG k r s).length ≤ 150 := by
  have h1 := pubU_sz hs
  have h2 := pair_g h s
  refine ⟨sz_two (.inr (.inr ⟨rfl, rfl⟩)) (sz_up h1.1 (by omega)) h2.1, ?_⟩
  unfold boxG
  rw [List.length_cons, List.length_append]
  omega
theorem boxg_right (h : KOk k r) {s : Tm} (hs : s.length ≤ 12) : right (boxG k r s) = true := sz_right (box_g h hs).1 (by omega) (by have := (box_g h hs).2; omega)
theorem pairg_right (h : KOk k r) (s : Tm) : right (pairG k r s) = true ∧ right (k.st r) = true ∧ right (secG k r s) = true := by
  have h1 := st_g h
  have h2 := sec_g h s
  have h3 := pair_g h s
  exact ⟨sz_right h3.1 (by decide) (Nat.le_trans h3.2 (by decide)), sz_right h1.1 (by decide) (Nat.le_trans h1.2 (by decide)), sz_right h2.1 (by decide) (Nat.le_trans h2.2 (by decide))⟩
theorem blk_g (h : KOk k r) {s : Tm} (hl : s.length ≤ 12) : blk r s (k.st r) (k.last r) (pubU s) = ((s, boxG k r s), 0) := by
  obtain ⟨r3, r1, r2⟩ := pairg_right h s
  have e1 : two 112 (k.st r) (if s ∈ r.ws then k.last r else emptyT) = (pairG k r s, 0) := by
    unfold two
    rw [if_pos ⟨r1, r2⟩]
    exact made_yes r3
  have e2 : box (pubU s) (pairG k r s) = (boxG k r s, 0) := by
    unfold box
    rw [if_pos ⟨pubU_right hl, rfl⟩]
    unfold two
    rw [if_pos ⟨pubU_right hl, r3⟩]
    exact made_yes (boxg_right h hl)
  unfold blk
  rw [e1, if_neg (by simp), e2]
theorem blkAll_g (h : KOk k r) : ∀ {l : List Tm}, (∀ s ∈ l, Wn s) → blkAll r (k.st r) (k.last r) l (l.map pubU) = (l.map fun s => (s, boxG k r s), 0)
  | [], _ => rfl
  | s :: l, hw => by
    have h1 := blk_g h (wn_len (hw s (by simp)))
    have h2 := blkAll_g h (l := l) fun x hx => hw x (by simp [hx])
    rw [List.map_cons]
    unfold blkAll
    rw [h1, h2, if_neg (by simp), if_neg (by simp)]
    rfl
theorem row_g (h : KOk k r) : (rowR r).length ≤ 500 := by
  have n1 : ∀ x ∈ r.rs, x.length ≤ 12 := fun x hx => wn_len (h.wn x (.inl hx))
  have n2 : ∀ x ∈ r.ws, x.length ≤ 12 := fun x hx => wn_len (h.wn x (.inr hx))
  obtain ⟨_, _, a3, a4, _⟩ := h.rr
  have l1 := putAll_most (k := 12) (n := 5) (l := r.rs) (by omega) (by omega) (by omega) n1
  have l2 := putAll_most (k := 12) (n := 5) (l := r.ws) (by omega) (by omega) (by omega) n2
  have p0 := (put_le (n := r.ep.toNat) (by omega)).2
  have o1 := h.ol
  have o2 := h.fl
  unfold rowR
  generalize putAll r.rs = y at l1 ⊢
  generalize putAll r.ws = z at l2 ⊢
  generalize put r.ep.toNat = u at p0 ⊢
  have p1 := (put_le (n := r.o.length) (by omega)).2
  have p2 := (put_le (n := r.f.length) (by omega)).2
  have p3 := (put_le (n := u.length) (by omega)).2
  have p4 := (put_le (n := y.length) (by omega)).2
  have p5 := (put_le (n := z.length) (by omega)).2
  have p6 := (put_le (n := 0 + 1 + 1 + 1 + 1 + 1) (by omega)).2
  simp only [putAll, List.length_append, List.flatMap_cons, List.flatMap_nil, putText_len, List.length_cons, List.length_nil]
  omega
theorem body_g (h : KOk k r) {ver : Nat} (hv : ver < 18446744073709551616) : (bodyB (preG k r ver)).length ≤ 3800 := by
  have h0 := row_g h
  have he := h.ep.1
  have h1 := (put_le hv).2
  have h2 : (putAll (vfG k)).length ≤ 8 * (51 + 9) + 9 := putAll_most (k := 51) (n := 8) (by omega) (by unfold vfG; rw [List.length_map, h.len]; omega) (by omega) fun t ht => by
    obtain ⟨i, hi, rfl⟩ := List.mem_map.1 ht
    exact (one_u (h.g i hi).1 (h.g i hi).2.1).2.2.1
  have h3 : (putAll ((bsG k r).map fun b => putAll [b.1, b.2])).length ≤ 5 * (327 + 9) + 9 := putAll_most (k := 327) (n := 5) (by omega) (by unfold bsG; rw [List.length_map, List.length_map, oth_len]; exact h.rr.2.2.2.1) (by omega) fun t ht => by
    obtain ⟨b, hb, rfl⟩ := List.mem_map.1 ht
    obtain ⟨s, hs, rfl⟩ := List.mem_map.1 hb
    have hl := wn_len (h.oth s hs)
    have := putAll_most (k := 150) (n := 2) (l := [s, boxG k r s]) (by omega) (by simp) (by omega) fun t ht => by
      have : t = s ∨ t = boxG k r s := by simpa using ht
      rcases this with rfl | rfl
      · omega
      · exact (box_g h hl).2
    simp only
    omega
  unfold bodyB preG
  simp only
  generalize putAll ((bsG k r).map fun b => putAll [b.1, b.2]) = y at h3 ⊢
  generalize putAll (vfG k) = z at h2 ⊢
  generalize put ver = u at h1 ⊢
  have p1 := (put_le (n := (rowR r).length) (by omega)).2
  have p2 := (put_le (n := u.length) (by omega)).2
  have p3 := (put_le (n := z.length) (by omega)).2
  have p4 := (put_le (n := y.length) (by omega)).2
  have p5 := (put_le (n := 0 + 1 + 1 + 1 + 1) (by omega)).2
  simp only [putAll, List.length_append, List.flatMap_cons, List.flatMap_nil, putText_len, List.length_cons, List.length_nil]
  omega
theorem txt_g (h : KOk k r) {ver : Nat} (hv : ver < 18446744073709551616) : ofText (bodyB (preG k r ver)) = (txtG k r ver, 0) ∧ Sz 1 (txtG k r ver) ∧ (txtG k r ver).length ≤ 3810 ∧ right (txtG k r ver) = true := by
  have hb := body_g h hv
  have h1 : Sz 1 (txtG k r ver) := sz_text 0 (by omega)
  have hl : (txtG k r ver).length ≤ 3810 := by
    have := (put_le (n := (bodyB (preG k r ver)).length) (by omega)).2
    unfold txtG
    rw [List.length_cons, putText_len]
    omega
  have hr : right (txtG k r ver) = true := sz_right h1 (by omega) (by omega)
  exact ⟨made_yes hr, h1, hl, hr⟩
theorem sig_g (h : KOk k r) {t : Tm} (h1 : Sz 1 t) (hl : t.length ≤ 3810) : two 103 k.S t = (103 :: (k.S ++ t), 0) ∧ right (103 :: (k.S ++ t)) = true := by
  obtain ⟨z1, z2⟩ := h.S
  have hr : right (103 :: (k.S ++ t)) = true := sz_right (sz_two (.inr (.inl rfl)) z1 (sz_up h1 (by omega))) (by omega) (by rw [List.length_cons, List.length_append]; omega)
  refine ⟨?_, hr⟩
  unfold two
  rw [if_pos ⟨h.Sr, sz_right h1 (by omega) (by omega)⟩]
  exact made_yes hr
theorem build_g (h : KOk k r) {ver : Nat} (hv : ver < 18446744073709551616) {kn : List (Tm × Tm)} (hk : ∀ s ∈ oth r, pub kn s = (pubU s, 0)) : build k.S r ver k.R k.g kn = (mG k r ver, 0) := by
  obtain ⟨he, hee⟩ := h.ep
  have e1 := pubs_ok hk
  have e2 : vfs k.g = (vfG k, 0) := vfs_g h.g
  have hR : right k.R = true := sz_right h.R.1 (by omega) (by have := h.R.2; omega)
  have e3 : Reg.state k.R r.ep = (k.st r, 0) := by
    unfold Reg.state
    rw [if_pos hR, if_pos (by omega), show (7 - r.ep).toNat = 7 - r.ep.toNat by omega]
    exact backN_yes (pairg_right h []).2.1
  have e4 := blkAll_g h h.oth
  obtain ⟨t1, t2, t3, t4⟩ := txt_g h hv
  obtain ⟨s1, s2⟩ := sig_g h t2 t3
  unfold build
  rw [if_neg, e1, if_neg (by simp), e2, if_neg (by simp), e3, if_neg (by simp), show k.g.getD r.ep.toNat [] = k.last r from rfl]
  · simp only
    rw [e4, if_neg (by simp)]
    simp only
    unfold built
    show (if (ofText (bodyB (preG k r ver))).2 ≠ 0 then (mzero, (ofText (bodyB (preG k r ver))).2) else if (two 103 k.S (ofText (bodyB (preG k r ver))).1).2 ≠ 0 then (mzero, (two 103 k.S (ofText (bodyB (preG k r ver))).1).2)
      else ((⟨r, ver, vfG k, bsG k r, (two 103 k.S (ofText (bodyB (preG k r ver))).1).1⟩ : Mt), (0 : Int))) = _
    rw [t1, if_neg (by simp)]
    simp only
    rw [s1, if_neg (by simp)]
    rfl
  · rintro (h1 | h1 | h1 | h1 | h1)
    · exact h1 h.Sr
    · exact h1 hR
    · exact h1 h.rr
    · rw [h.len] at h1; omega
    · exact h1 fun t ht => sz_right (h.g t ht).1 (by omega) (by have := (h.g t ht).2.1; omega)
theorem mG_right (h : KOk k r) {ver : Nat} (hv : ver < 18446744073709551616) : MR (mG k r ver) := by
  obtain ⟨he, hee⟩ := h.ep
  obtain ⟨t1, t2, t3, t4⟩ := txt_g h hv
  obtain ⟨s1, s2⟩ := sig_g h t2 t3
  refine ⟨h.rr, ?_, ?_, ?_, ?_, ?_⟩
  · show ((vfG k).length : Int) = r.ep + 1
    unfold vfG
    rw [List.length_map, h.len]; omega
  · show kind (103 :: (k.S ++ txtG k r ver)) = 103
    rw [kind_right s2]; rfl
  · intro t ht
    obtain ⟨i, hi, rfl⟩ := List.mem_map.1 ht
    rw [kind_right (one_u (h.g i hi).1 (h.g i hi).2.1).2.2.2]; rfl
  · show (bsG k r).map (·.1) = oth r
    unfold bsG
    rw [List.map_map]
    exact List.map_id _
  · intro t ht
    obtain ⟨b, hb, rfl⟩ := List.mem_map.1 ht
    obtain ⟨s, hs, rfl⟩ := List.mem_map.1 hb
    have hl := wn_len (h.oth s hs)
    show kind (boxG k r s) = 98
    rw [kind_right (boxg_right h hl)]; rfl
theorem check_g (h : KOk k r) {ver : Nat} (hv : ver < 18446744073709551616) : checkM (mG k r ver) (117 :: k.S) r.o r.f = 0 := by
  have hm := mG_right h hv
  obtain ⟨t1, t2, t3, t4⟩ := txt_g h hv
  obtain ⟨s1, s2⟩ := sig_g h t2 t3
  obtain ⟨_, p2, p3, p4⟩ := one_u h.S.1 h.S.2
  unfold checkM
  rw [if_neg (by rintro (h1 | h1); exact h1 hm; exact h1 (by rw [kind_right p4]; rfl))]
  rw [show bodyB (mG k r ver) = bodyB (preG k r ver) from rfl, t1]
  simp only
  rw [show (mG k r ver).sig = 103 :: (k.S ++ txtG k r ver) from rfl, verify_is p4 rfl t4 s2]
  rw [if_pos (show 103 :: (k.S ++ txtG k r ver) = 103 :: ((117 :: k.S).tail ++ txtG k r ver) from rfl), if_neg (by simp)]
  rw [if_neg (by rintro (h1 | h1); exact h1 rfl; exact h1 rfl)]
theorem pts_boxg (h : KOk k r) {s : Tm} (hs : s.length ≤ 12) : pts (boxG k r s) = [pubU s, pairG k r s] := by
  have hr := boxg_right h hs
  obtain ⟨x, y, e1, e2, rx, ry, _⟩ := pts_two (b := 98) (t := pubU s ++ pairG k r s) hr (.inr (.inr (.inl rfl)))
  obtain ⟨e3, e4⟩ := right_cut (pubU_right hs) rx e1
  show pts (98 :: (pubU s ++ pairG k r s)) = _
  rw [e2, e3, e4]
theorem pts_pairg (h : KOk k r) (s : Tm) : pts (pairG k r s) = [k.st r, secG k r s] := by
  obtain ⟨r1, r2, r3⟩ := pairg_right h s
  obtain ⟨x, y, e1, e2, rx, ry, _⟩ := pts_two (b := 112) (t := k.st r ++ secG k r s) r1 (.inl rfl)
  obtain ⟨e3, e4⟩ := right_cut r2 rx e1
  show pts (112 :: (k.st r ++ secG k r s)) = _
  rw [e2, e3, e4]
theorem told_g (h : KOk k r) {s : Tm} (hs : s.length ≤ 12) : told (secU s) (boxG k r s) = (k.st r, if s ∈ r.ws then k.last r else [], 0) := by
  obtain ⟨r1, r2, r3⟩ := pairg_right h s
  have hb := boxg_right h hs
  have hu : unbox (secU s) (boxG k r s) = (pairG k r s, 0) := by
    unfold unbox
    rw [if_pos ⟨secU_right hs, hb⟩]
    unfold opens
    rw [if_pos (show (boxG k r s).headD 0 = 98 from rfl), parts_of hb, pts_boxg h hs]
    rw [if_pos (show ([pubU s, pairG k r s], (0 : Int)).1.headD [] = 117 :: secU s from rfl)]
    rfl
  unfold told
  rw [hu, parts_of r1, pts_pairg h s]
  simp only [List.getD_cons_zero, List.getD_cons_succ]
  rw [if_neg (by rintro (h1 | h1); exact h1 rfl; exact h1 rfl)]
  unfold secG
  by_cases hw : s ∈ r.ws
  · rw [if_pos hw, if_pos hw, if_neg (show ¬ (k.last r).headD 0 = 116 by rw [h.last.2.2]; decide)]
  · rw [if_neg hw, if_neg hw, if_pos (show emptyT.headD 0 = 116 from rfl)]
theorem open_g (h : KOk k r) {ver : Nat} (hv : ver < 18446744073709551616) {u : Tm} (hu : u ∈ oth r) : openM (mG k r ver) u (secU u) = (k.st r, if u ∈ r.ws then k.last r else [], 0) := by
  have hl := wn_len (h.oth u hu)
  have hf : (bsG k r).find? (fun b => b.1 == u) = some (u, boxG k r u) := by
    unfold bsG
    rw [List.find?_map]
    have : ∀ l : List Tm, u ∈ l → l.find? ((fun b : Tm × Tm => b.1 == u) ∘ fun s => (s, boxG k r s)) = some u := fun l => by
      induction l with
      | nil => intro h; cases h
      | cons x l ih =>
        intro hm
        by_cases hx : x = u
        · subst hx; simp
        · have hm' : u ∈ l := by
            rcases List.mem_cons.1 hm with e | e
            · exact absurd e.symm hx
            · exact e
          rw [List.find?_cons_of_neg (by simpa using hx)]
          exact ih hm'
    rw [this _ hu]; rfl
  unfold openM
  rw [if_neg (by rintro (h1 | h1); exact h1 (mG_right h hv); exact h1 (secU_right hl))]
  show (match (bsG k r).find? (fun b => b.1 == u) with | none => ([], [], 6) | some b => told (secU u) b.2) = _
  rw [hf]
  exact told_g h hl
theorem open_gout (h : KOk k r) {ver : Nat} (hv : ver < 18446744073709551616) {u : Tm} (hu : u ∉ oth r) (hz : u.length ≤ 12) : openM (mG k r ver) u (secU u) = ([], [], 6) := by
  have hf : (bsG k r).find? (fun b => b.1 == u) = none := by
    refine List.find?_eq_none.2 fun b hb => ?_
    unfold bsG at hb
    obtain ⟨s, hs, rfl⟩ := List.mem_map.1 hb
    simp only [beq_iff_eq]
    exact fun e => hu (by rw [← e]; exact hs)
  unfold openM
  rw [if_neg (by rintro (h1 | h1); exact h1 (mG_right h hv); exact h1 (secU_right hz))]
  show (match (bsG k r).find? (fun b => b.1 == u) with | none => ([], [], 6) | some b => told (secU u) b.2) = _
  rw [hf]
end
end Go.Proofs.YtbdealddjonobaaGreat.Mga

namespace Go.Proofs.YtbdealddjonobaaGreat.Mta
open Go.RowKit Wire Term Rig

def Apt (w : World) (V : Option Addr) (nv : Nat) (A : Option Addr) (B : Option Addr) (K : Option Addr) : Prop := ∀ b off, V = some ⟨b, off, none⟩ → 0 < nv →
  b < w.heap.size ∧ (∀ j, w.frozen? ⟨b, j, none⟩ = false) ∧ (∀ b' off', A = some ⟨b', off', none⟩ → b' ≠ b) ∧ (∀ b' off', B = some ⟨b', off', none⟩ → b' ≠ b) ∧ (∀ b' off', K = some ⟨b', off', none⟩ → b' ≠ b)
def SepM (w : World) (v : Value) : Prop := ∀ (o f sig : ByteArray) (ep ver : Int) (A : Option Addr) (n c : Nat) (B : Option Addr) (m d : Nat) (V : Option Addr) (nv cv : Nat) (K : Option Addr) (nk ck : Nat),
  v = .agg #[.string o, .string f, .int .i64 ep, .slice A n c, .slice B m d, .int .u64 ver, .slice V nv cv, .slice K nk ck, .string sig] → Apt w V nv A B K ∧ Apt w K nk A B V
def Mb (gs : List Nat) (x : Mt × Int) (e : Ending) (w' : World) : Prop := ∃ v, IsM (Off gs) w' v x.1 ∧ SepM w' v ∧ e = .returned (.tuple #[v, .int .i64 x.2])
abbrev AnyB : Nat → Prop := fun _ => True
def MCheckOK : Prop := ∀ (v : Value) (m : Mt) (p o f : ByteArray) (w : World), IsM AnyB w v m → FewM m → p.size ≤ 10000 → o.size ≤ 10000 → f.size ≤ 10000 → Calls Tryz.prog 37 #[v, .string p, .string o, .string f] w fun e w' => e = .returned (.int .i64 (checkM m p.data.toList o.data.toList f.data.toList)) ∧ Below w.heap.size w w'
def MOpenOK : Prop := ∀ (v : Value) (m : Mt) (u s : ByteArray) (w : World), IsM AnyB w v m → FewM m → u.size ≤ 10000 → s.size ≤ 10000 → Calls Tryz.prog 39 #[v, .string u, .string s] w fun e w' => So (openM m u.data.toList s.data.toList) e ∧ Below w.heap.size w w'
def MBuildOK : Prop := ∀ (gs : List Nat) (secret : ByteArray) (vr : Value) (r : Rt) (ver : Nat) (root : ByteArray) (S : Option Addr) (cs : Nat) (ss : List ByteArray) (K : Option Addr) (ck : Nat) (ks : List (ByteArray × ByteArray)) (w : World),
  (∀ g ∈ gs, g < w.heap.size) → IsX (Off gs) w vr r → Few r → ver < 18446744073709551616 → secret.size ≤ 10000 → root.size ≤ 10000 →
  SReads w S ss → (ss.length ≤ cs ∧ (S = none → cs = 0)) → ss.length ≤ 40 → (∀ s ∈ ss, s.size ≤ 10000) →
  PReads w K ks → (ks.length ≤ ck ∧ (K = none → ck = 0)) → ks.length ≤ 40 → (∀ k ∈ ks, k.1.size ≤ 10000 ∧ k.2.size ≤ 10000) →
  Calls Tryz.prog 68 #[.string secret, vr, .int .u64 (ver : Int), .string root, .slice S ss.length cs, .slice K ks.length ck] w fun e w' =>
    Mb gs (build secret.data.toList r ver root.data.toList (bl ss) (pl ks)) e w' ∧ Below w.heap.size w w'
theorem IsM.any {ok : Nat → Prop} {w : World} {v : Value} {m : Mt} (h : IsM ok w v m) : IsM AnyB w v m := h.mono fun _ _ _ => trivial
end Go.Proofs.YtbdealddjonobaaGreat.Mta

namespace Go.Proofs.YtbdealddjonobaaGreat.Mta
open Go.RowKit Wire Term Rig Draw

set_option linter.unusedSimpArgs false
set_option maxHeartbeats 2000000 in
set_option maxRecDepth 1000000 in
theorem secretOf_any (s : ByteArray) (w : World) (hs : s.size ≤ 12) : Calls Tryz.prog 41 #[.string s] w fun e w' => St (secU s.data.toList) e ∧ Below w.heap.size w w' := by
  have HS : Hid (∀ w, Calls Tryz.prog 49 #[.string ⟨#[117, 115, 101, 114]⟩, .string s, .int .u64 1] w fun e w' => Sr (secU s.data.toList, 0) e ∧ Below w.heap.size w w') := fun w => by
    have h := rsecret_any ⟨#[117, 115, 101, 114]⟩ s 1 w (by decide) (by omega) (by show 4 + s.size ≤ _; omega) (by omega)
    rw [show secret (ByteArray.mk #[117, 115, 101, 114]).data.toList s.data.toList 1 = (secU s.data.toList, 0) from secU_is (by rw [← Lib.size_eq]; exact hs)] at h
    exact h
  go_enter Tryz.func41, Tryz.ntmps41
  go_wp2_with fail
  with_reducible refine (HS.out _).mono ?_
  rintro e w1 ⟨⟨T, hT, rfl⟩, hb1⟩
  try dsimp only at hT
  have HT := zh hT
  have HB := zh hb1
  clear hT hb1
  dsimp only
  go_wp2
  go_ret
  exact ⟨⟨T, HT.out, rfl⟩, HB.out⟩
end Go.Proofs.YtbdealddjonobaaGreat.Mta

namespace Go.Proofs.YtbdealddjonobaaGreat.Mta
open Go.RowKit Wire Term Rig Draw

set_option linter.unusedSimpArgs false
def pcs (ks : List (ByteArray × ByteArray)) : List Value := ks.flatMap fun k => [.string k.1, .string k.2]
theorem pcs_len (ks : List (ByteArray × ByteArray)) : (pcs ks).length = ks.length * 2 := by
  induction ks with
  | nil => rfl
  | cons k ks ih => show (Value.string k.1 :: Value.string k.2 :: pcs ks).length = _; rw [List.length_cons, List.length_cons, ih, List.length_cons]; omega
theorem pcs_app (a b : List (ByteArray × ByteArray)) : pcs (a ++ b) = pcs a ++ pcs b := by simp [pcs]
theorem pcs_one (ks : List (ByteArray × ByteArray)) : ∀ u ∈ pcs ks, u.oneCell' = true := fun u hu => by
  obtain ⟨k, _, hk⟩ := List.mem_flatMap.1 hu
  have : u = .string k.1 ∨ u = .string k.2 := by simpa using hk
  rcases this with rfl | rfl <;> rfl
theorem pcs_get : ∀ (ks : List (ByteArray × ByteArray)) (j : Nat), j < ks.length → (pcs ks)[j * 2]? = some (.string (ks.getD j default).1) ∧ (pcs ks)[j * 2 + 1]? = some (.string (ks.getD j default).2)
  | [], j, h => absurd h (Nat.not_lt_zero _)
  | k :: ks, 0, _ => ⟨rfl, rfl⟩
  | k :: ks, j + 1, h => by
    have := pcs_get ks j (by simpa using h)
    show (Value.string k.1 :: Value.string k.2 :: pcs ks)[(j + 1) * 2]? = _ ∧ (Value.string k.1 :: Value.string k.2 :: pcs ks)[(j + 1) * 2 + 1]? = _
    rw [show (j + 1) * 2 = j * 2 + 1 + 1 by omega, show j * 2 + 1 + 1 + 1 = (j * 2 + 1) + 1 + 1 by omega, List.getElem?_cons_succ, List.getElem?_cons_succ, List.getElem?_cons_succ, List.getElem?_cons_succ]
    simpa using this
theorem preads_own {w : World} {base : Nat} {e : TypeId} {a : Option Addr} {n c : Nat} {ks : List (ByteArray × ByteArray)} (h : w.ownsRow base e 2 (.slice a n c) n (pcs ks)) : PReads w a ks ∧ n = ks.length ∧ (n ≤ c ∧ (a = none → c = 0)) ∧ (∀ b off, a = some ⟨b, off, none⟩ → base ≤ b) := by
  have hl : n = ks.length := by
    have := h.1
    rw [pcs_len] at this
    omega
  rcases h.2 with ⟨hv, h0⟩ | ⟨g, cap, cur, hv, hg, hgg, hnc, hcm, hcs, htake⟩
  · injection hv with e1 e2 e3
    subst e1; subst e2; subst e3
    have : ks = [] := List.eq_nil_of_length_eq_zero hl.symm
    subst this
    exact ⟨PReads.nil _ _, rfl, ⟨Nat.le_refl _, fun _ => rfl⟩, fun _ _ h => by cases h⟩
  · injection hv with e1 e2 e3
    subst e1; subst e3
    refine ⟨fun j hj => ?_, hl, ⟨hnc, fun h => by cases h⟩, fun b off h => by injection h with h; injection h with h1 _ _; omega⟩
    obtain ⟨p1, p2⟩ := pcs_get ks j hj
    have hcell : ∀ i u, (pcs ks)[i]? = some u → w.cell? ⟨g, 0 + i, none⟩ = some u := fun i u hu => by
      rw [Nat.zero_add, cell_of_row w g i cur e (0, 0) hgg]
      rw [← htake, List.getElem?_take] at hu
      split at hu
      · simpa using hu
      · cases hu
    exact ⟨g, 0, rfl, (Array.getElem?_eq_some_iff.1 hgg).1, hcell _ _ p1, by have := hcell _ _ p2; rw [← Nat.add_assoc] at this; exact this⟩
def Plst (B : Nat) (x : List (Tm × Tm)) (e : Ending) (w' : World) : Prop := ∃ (A : Option Addr) (c : Nat) (ks : List (ByteArray × ByteArray)), pl ks = x ∧ (ks.length ≤ c ∧ (A = none → c = 0)) ∧ PReads w' A ks ∧ (∀ b off, A = some ⟨b, off, none⟩ → B ≤ b) ∧ e = .returned (.slice A ks.length c)
def OwnsP (t : TypeId) (w0 : World) (x : List (Tm × Tm)) (v : Value) (wr : World) : Prop := ∃ ks : List (ByteArray × ByteArray), pl ks = x ∧ wr.ownsRow w0.heap.size t 2 v ks.length (pcs ks) ∧ Below w0.heap.size w0 wr
theorem ownsP_nil (t : TypeId) (w : World) {wr : World} (h : Below w.heap.size w wr) : OwnsP t w [] (.slice none 0 0) wr := ⟨[], rfl, World.ownsRow_nil _ _ _ _, h⟩
theorem ownsP_lst {t : TypeId} {w0 wr : World} {x : List (Tm × Tm)} {v : Value} (h : OwnsP t w0 x v wr) : Plst w0.heap.size x (.returned v) wr := by
  obtain ⟨ks, h1, h2, _⟩ := h
  obtain ⟨A, c, rfl⟩ := own_value h2
  obtain ⟨h3, h4, h5, h6⟩ := preads_own h2
  exact ⟨A, c, ks, h1, h5, h3, h6, rfl⟩
theorem known_info : (Tryz.prog.info? 115).map (fun i => (i.zero, i.size, i.bytes)) = some (some (.agg #[.string ⟨#[]⟩, .string ⟨#[]⟩]), 2, 32) := by kernel_rfl
end Go.Proofs.YtbdealddjonobaaGreat.Mta

namespace Go.Proofs.YtbdealddjonobaaGreat.Mta
open Go.RowKit Wire Term Rig Draw

theorem few_MR {m : Mt} (h : MR m) (hv : m.ver < 18446744073709551616) : FewM m := by
  obtain ⟨v1, v2⟩ := vf_small h
  obtain ⟨b1, b2⟩ := bs_small h
  exact ⟨few_right h.1, by omega, by omega, fun t ht => by have := v2 t ht; omega, fun b hb => by have := b2 b hb; omega, by have := kd_len h.2.2.1 (by decide); omega, hv⟩
def Fit (k : List (Tm × Tm)) : Prop := k.length ≤ 40 ∧ ∀ b ∈ k, b.1.length ≤ 10000 ∧ b.2.length ≤ 10000
theorem fit_sizes {ks : List (ByteArray × ByteArray)} (h : Fit (pl ks)) : ks.length ≤ 40 ∧ ∀ k ∈ ks, k.1.size ≤ 10000 ∧ k.2.size ≤ 10000 := by
  refine ⟨by have := h.1; rw [pl_len] at this; exact this, fun k hk => ?_⟩
  have := h.2 (k.1.data.toList, k.2.data.toList) (List.mem_map.2 ⟨k, hk, rfl⟩)
  rw [Lib.size_eq, Lib.size_eq]
  exact this
theorem fit_kn {m : Nat} (hm : m < 8) : (kn m).1.length ≤ 10000 ∧ (kn m).2.length ≤ 10000 := by
  have h1 := wn_len (u := (whoN m).data.toList) ⟨m, hm, rfl⟩
  have h2 := (pubU_sz h1).2
  exact ⟨by show (whoN m).data.toList.length ≤ 10000; omega, by show (pubU (whoN m).data.toList).length ≤ 10000; omega⟩
theorem fit_known : Fit knownL := ⟨by decide, fun b hb => by
  obtain ⟨m, hm, rfl⟩ := List.mem_map.1 hb
  exact fit_kn (List.mem_range.1 hm)⟩
theorem check_to (MC : MCheckOK) {v : Value} {m : Mt} {P O F : ByteArray} {c : Int} (hc : checkM m P.data.toList O.data.toList F.data.toList = c) (hf : FewM m) (hp : P.size ≤ 10000) (ho : O.size ≤ 10000) (hfl : F.size ≤ 10000) (w : World) (hm : IsM AnyB w v m) :
    Calls Tryz.prog 37 #[v, .string P, .string O, .string F] w fun e w' => e = .returned (.int .i64 c) ∧ Below w.heap.size w w' := by
  have := MC v m P O F w hm hf hp ho hfl
  rw [hc] at this
  exact this
end Go.Proofs.YtbdealddjonobaaGreat.Mta

