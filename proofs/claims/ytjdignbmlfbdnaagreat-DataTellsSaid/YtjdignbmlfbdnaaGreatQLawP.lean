/-
  PLAIN FACTS, OF NO PROGRAM: the blob that is built of a root's state, which terms and states open it, and which do not. By an AI agent; no person has read it.
-/
import Derived.Test.YtjdignbmlfbdnaaGreatQPure
namespace Go.Proofs.YtjdignbmlfbdnaaGreat.Dta
open Wire Term Draw Reg Clo

def sealT (n x : Nat) (p c : Tm) : Tm := 115 :: (keyh (hs (7 - x) (rootS n)) ++ inner p c)
def saidT (x : Nat) (sl : Tm) : Tm := 112 :: (ofAtom x ++ sl)
def sigT (i x : Nat) (sl : Tm) : Tm := 103 :: (sgn i ++ saidT x sl)
/-- The blob of epoch x, signed by signer i. -/
def bOf (n x i : Nat) (p c : Tm) : Bb := ⟨(x : Int), sealT n x p c, sigT i x (sealT n x p c)⟩
def sgps (m : Nat) : List Tm := (List.range m).map sgp
theorem sgps_len (m : Nat) : (sgps m).length = m := by simp [sgps]
theorem sgps_get {m i : Nat} (h : i < m) : (sgps m).getD i [] = sgp i := by simp [sgps, List.getD, h]
theorem sgps_succ (k : Nat) : sgps (k + 1) = sgps k ++ [sgp k] := by unfold sgps; rw [List.range_succ, List.map_append]; rfl
/-- The two parts of a term that is put together of two. -/
theorem pts_cut {k : UInt8} {a b : Tm} (hk : k = 112 ∨ k = 115 ∨ k = 98 ∨ k = 103) (h : right (k :: (a ++ b)) = true) (ha : right a = true) : pts (k :: (a ++ b)) = [a, b] := by
  obtain ⟨x, y, e1, e2, e3, _, _⟩ := pts_two h hk
  obtain ⟨e5, e6⟩ := right_cut ha e3 e1
  rw [e2, ← e5, ← e6]
theorem keyh_sz {n k : Nat} (hn : n < 18446744073709551616) (hk : k ≤ 7) : Sz 12 (keyh (hs k (rootS n))) ∧ (keyh (hs k (rootS n))).length ≤ 55 := by
  obtain ⟨h1, h2⟩ := st_sz hn hk
  have h3 : Sz 10 keyT := ⟨by decide, by decide⟩
  refine ⟨sz_one (.inl rfl) (sz_two (.inl rfl) h3 h1), ?_⟩
  unfold keyh keyp
  rw [List.length_cons, List.length_cons, List.length_append]
  have : keyT.length = 6 := rfl
  omega
theorem keyh_right {n k : Nat} (hn : n < 18446744073709551616) (hk : k ≤ 7) : right (keyh (hs k (rootS n))) = true := (st_key hn hk).2
theorem sealT_sz {n x : Nat} {p c : Tm} (hn : n < 18446744073709551616) (hx : x ≤ 7) (hp : p.length ≤ 257) (hc : c.length ≤ 64) : Sz 13 (sealT n x p c) ∧ (sealT n x p c).length ≤ 398 := by
  obtain ⟨h1, h2⟩ := keyh_sz hn (k := 7 - x) (by omega)
  obtain ⟨h3, h4⟩ := inner_sz 10 hp hc
  refine ⟨sz_two (.inr (.inr (.inl rfl))) h1 h3, ?_⟩
  unfold sealT
  rw [List.length_cons, List.length_append]
  omega
theorem sealT_right {n x : Nat} {p c : Tm} (hn : n < 18446744073709551616) (hx : x ≤ 7) (hp : p.length ≤ 257) (hc : c.length ≤ 64) : right (sealT n x p c) = true := sz_right (sealT_sz hn hx hp hc).1 (by omega) (by have := (sealT_sz hn hx hp hc).2; omega)
theorem seal_is {n x : Nat} {p c : Tm} (hn : n < 18446744073709551616) (hx : x ≤ 7) (hp : p.length ≤ 257) (hc : c.length ≤ 64) : sealB (hs (7 - x) (rootS n)) p c = (sealT n x p c, 0) := by
  unfold sealB
  rw [st_keyed hn (k := 7 - x) (by omega), if_neg (fun h => h rfl)]
  have e : two 115 (keyh (hs (7 - x) (rootS n))) (inner p c) = (sealT n x p c, 0) := by
    unfold two
    rw [if_pos ⟨keyh_right hn (by omega), inner_right hp hc⟩]
    exact made_yes (sealT_right hn hx hp hc)
  simp only
  rw [e, if_neg (fun h => h rfl)]
theorem pts_seal {n x : Nat} {p c : Tm} (hn : n < 18446744073709551616) (hx : x ≤ 7) (hp : p.length ≤ 257) (hc : c.length ≤ 64) : pts (sealT n x p c) = [keyh (hs (7 - x) (rootS n)), inner p c] := pts_cut (.inr (.inl rfl)) (sealT_right hn hx hp hc) (keyh_right hn (by omega))
theorem said_sz {z : Nat} (hz : z ≤ 7) {sl : Tm} (h : Sz 13 sl) (hl : sl.length ≤ 398) : Sz 14 (saidT z sl) ∧ (saidT z sl).length ≤ 409 := by
  refine ⟨sz_two (.inl rfl) (sz_atom 12 (by omega)) h, ?_⟩
  have := (put_le (n := z) (by omega)).2
  unfold saidT ofAtom
  rw [List.length_cons, List.length_append, List.length_cons]
  omega
theorem said_right {z : Nat} (hz : z ≤ 7) {sl : Tm} (h : Sz 13 sl) (hl : sl.length ≤ 398) : right (saidT z sl) = true := sz_right (said_sz hz h hl).1 (by omega) (by have := (said_sz hz h hl).2; omega)
theorem sz_is_right {d : Nat} {l : Tm} (h : Sz d l) (hd : d ≤ 40) (hl : l.length ≤ 4000) : right l = true := sz_right h hd hl
theorem said_is {z : Nat} (hz : z ≤ 7) {sl : Tm} (h : Sz 13 sl) (hl : sl.length ≤ 398) : said (z : Int) sl = (saidT z sl, 0) := by
  unfold said two
  rw [show ((z : Int)).toNat = z by omega, if_pos ⟨atom_ok (by omega), sz_right h (by omega) (by omega)⟩]
  exact made_yes (said_right hz h hl)
theorem sig_sz {i z : Nat} (hi : i < 18446744073709551616) (hz : z ≤ 7) {sl : Tm} (h : Sz 13 sl) (hl : sl.length ≤ 398) : Sz 15 (sigT i z sl) ∧ (sigT i z sl).length ≤ 460 := by
  obtain ⟨h1, h2⟩ := said_sz hz h hl
  obtain ⟨h3, h4⟩ := sgn_sz hi
  refine ⟨sz_two (.inr (.inl rfl)) (sz_up h3 (by omega)) h1, ?_⟩
  unfold sigT
  rw [List.length_cons, List.length_append]
  omega
theorem sig_right {i z : Nat} (hi : i < 18446744073709551616) (hz : z ≤ 7) {sl : Tm} (h : Sz 13 sl) (hl : sl.length ≤ 398) : right (sigT i z sl) = true := sz_right (sig_sz hi hz h hl).1 (by omega) (by have := (sig_sz hi hz h hl).2; omega)
theorem sign_is {i z : Nat} (hi : i < 18446744073709551616) (hz : z ≤ 7) {sl : Tm} (h : Sz 13 sl) (hl : sl.length ≤ 398) : signB (z : Int) (sgn i) sl = (sigT i z sl, 0) := by
  unfold signB
  rw [said_is hz h hl, if_neg (fun h => h rfl)]
  have e : two 103 (sgn i) (saidT z sl) = (sigT i z sl, 0) := by
    unfold two
    rw [if_pos ⟨sgn_right hi, said_right hz h hl⟩]
    exact made_yes (sig_right hi hz h hl)
  simp only
  rw [e, if_neg (fun h => h rfl)]
theorem argB_ok {n x i : Nat} {p : Tm} (hn : n < 18446744073709551616) (hx : x ≤ 7) (hi : i < 18446744073709551616) (hp : isPath p = true) : ArgB (hs (7 - x) (rootS n)) (x : Int) (sgn i) p := ⟨by omega, st_right hn (by omega), sgn_right hi, hp⟩
theorem build_big {n x i : Nat} {p c : Tm} (hn : n < 18446744073709551616) (hx : x ≤ 7) (hi : i < 18446744073709551616) (hp : isPath p = true) (hb : 64 < c.length) : build (hs (7 - x) (rootS n)) (x : Int) (sgn i) p c = (bzero, 10) := by
  unfold build
  rw [if_neg (fun h => h (argB_ok hn hx hi hp)), if_pos hb]
theorem build_ok {n x i : Nat} {p c : Tm} (hn : n < 18446744073709551616) (hx : x ≤ 7) (hi : i < 18446744073709551616) (hp : isPath p = true) (hc : c.length ≤ 64) : build (hs (7 - x) (rootS n)) (x : Int) (sgn i) p c = (bOf n x i p c, 0) := by
  have hpl := path_len hp
  obtain ⟨h1, h2⟩ := sealT_sz hn hx hpl hc
  unfold build
  rw [if_neg (fun h => h (argB_ok hn hx hi hp)), if_neg (by omega), seal_is hn hx hpl hc, if_neg (fun h => h rfl)]
  simp only
  rw [sign_is hi hx h1 h2, if_neg (fun h => h rfl)]
  rfl
theorem bOf_right {n x i : Nat} {p c : Tm} (hn : n < 18446744073709551616) (hx : x ≤ 7) (hi : i < 18446744073709551616) (hp : isPath p = true) (hc : c.length ≤ 64) : BR (bOf n x i p c) := by
  have hpl := path_len hp
  obtain ⟨h1, h2⟩ := sealT_sz hn hx hpl hc
  refine ⟨⟨by show (0 : Int) ≤ (x : Int); omega, by show (x : Int) ≤ 7; omega⟩, ?_, ?_⟩
  · show kind (sealT n x p c) = 115
    rw [kind_right (sealT_right hn hx hpl hc)]; rfl
  · show kind (sigT i x (sealT n x p c)) = 103
    rw [kind_right (sig_right hi hx h1 h2)]; rfl
theorem verify_is {p a s : Tm} (hp : right p = true) (hk : p.headD 0 = 117) (ha : right a = true) (hs : right s = true) : verify p a s = if s = 103 :: (p.tail ++ a) then 0 else 7 := by
  unfold verify
  rw [if_pos ⟨hp, ha, hs⟩]
  by_cases h : s = 103 :: (p.tail ++ a)
  · rw [if_pos ⟨hk, h⟩, if_pos h]
  · rw [if_neg (fun h2 => h h2.2), if_neg h]
theorem ofAtom_inj {a b : Nat} (ha : a < 18446744073709551616) (hb : b < 18446744073709551616) {r q : Tm} (h : ofAtom a ++ r = ofAtom b ++ q) : a = b ∧ r = q := put_inj ha hb (List.cons.inj h).2
/-- Who signed what: the signature of signer i, of epoch x, verifies as signer j's, of epoch z, if both are the same. -/
theorem verify_sig {i j x z : Nat} (hi : i < 18446744073709551616) (hj : j < 18446744073709551616) (hx : x ≤ 7) (hz : z ≤ 7) {sl : Tm} (h : Sz 13 sl) (hl : sl.length ≤ 398) : verify (sgp j) (saidT z sl) (sigT i x sl) = if i = j ∧ x = z then 0 else 7 := by
  rw [verify_is (sgp_right hj) rfl (said_right hz h hl) (sig_right hi hx h hl)]
  by_cases e : i = j ∧ x = z
  · obtain ⟨rfl, rfl⟩ := e
    rw [if_pos (show sigT i x sl = 103 :: ((sgp i).tail ++ saidT x sl) from rfl), if_pos ⟨rfl, rfl⟩]
  · rw [if_neg e, if_neg]
    intro h2
    have e2 : sgn i ++ saidT x sl = sgn j ++ saidT z sl := (List.cons.inj h2).2
    obtain ⟨e3, e4⟩ := right_cut (sgn_right hi) (sgn_right hj) e2
    have e5 : ofAtom x ++ sl = ofAtom z ++ sl := (List.cons.inj e4).2
    exact e ⟨sgn_inj hi hj e3, (ofAtom_inj (by omega) (by omega) e5).1⟩
theorem parts_of' {t : Tm} (h : right t = true) : parts t = (pts t, 0) := by unfold pts parts; rw [if_pos h]
theorem words_txt {s : Tm} (h : s.length ≤ 3000) : words (txtT s) = (s, 0) := by
  unfold words
  rw [if_pos (txtT_right h), if_pos (show (txtT s).headD 0 = 116 from rfl)]
  have h1 := text_put (t := s) (by omega) [] 4000 (by omega)
  rw [List.append_nil] at h1
  show ((text (putText s) 4000).1, (text (putText s) 4000).2.2) = _
  rw [h1]
/-- What is sealed for one path is unsealed with its state's key, and for that path. -/
theorem unseal_is {n x : Nat} {p q c : Tm} (hn : n < 18446744073709551616) (hx : x ≤ 7) (hp : p.length ≤ 257) (hc : c.length ≤ 64) : unsealB (hs (7 - x) (rootS n)) q (sealT n x p c) = if p = q then (c, 0) else ([], 7) := by
  have hk := st_keyed hn (k := 7 - x) (by omega)
  have hkr := keyh_right hn (k := 7 - x) (by omega)
  have hsr := sealT_right hn hx hp hc
  have ho : open' (keyh (hs (7 - x) (rootS n))) (sealT n x p c) = (inner p c, 0) := by
    unfold open'
    rw [if_pos ⟨hkr, hsr⟩]
    unfold opens
    rw [if_pos (show (sealT n x p c).headD 0 = 115 from rfl), parts_of' hsr, pts_seal hn hx hp hc]
    rw [if_pos (show ([keyh (hs (7 - x) (rootS n)), inner p c], (0 : Int)).1.headD [] = keyh (hs (7 - x) (rootS n)) from rfl)]
    rfl
  have hpi : pts (inner p c) = [txtT p, txtT c] := pts_cut (.inl rfl) (inner_right hp hc) (txtT_right (by omega))
  unfold unsealB
  rw [hk, if_neg (fun h => h rfl)]
  simp only
  rw [ho, if_neg (fun h => h rfl), if_neg (fun h => h rfl), hpi]
  simp only [List.getD_cons_zero, List.getD_cons_succ]
  rw [words_txt (s := p) (by omega), words_txt (s := c) (by omega), if_neg (by rintro (h | h); exact h rfl; exact h rfl)]
  by_cases e : p = q
  · rw [if_neg (by rintro (h | h); exact h e; exact absurd h (by simp only; omega)), if_pos e]
  · rw [if_pos (.inl e), if_neg e]
/-- Another key unseals nothing. -/
theorem unseal_no {n x : Nat} {st p q c : Tm} (hn : n < 18446744073709551616) (hx : x ≤ 7) (hp : p.length ≤ 257) (hc : c.length ≤ 64) (hne : keyh st ≠ keyh (hs (7 - x) (rootS n))) : unsealB st q (sealT n x p c) = ([], 7) := by
  have hsr := sealT_right hn hx hp hc
  unfold unsealB
  by_cases hk : (key st).2 = 0
  · rw [if_neg (fun h => h hk)]
    obtain ⟨hkr, hke⟩ := key_ok hk
    have ho : open' (key st).1 (sealT n x p c) = ([], 6) := by
      unfold open'
      rw [if_pos ⟨hkr, hsr⟩]
      unfold opens
      rw [if_pos (show (sealT n x p c).headD 0 = 115 from rfl), parts_of' hsr, pts_seal hn hx hp hc]
      rw [if_neg (show ¬ ([keyh (hs (7 - x) (rootS n)), inner p c], (0 : Int)).1.headD [] = (key st).1 from fun e => hne (by rw [← hke]; exact e.symm))]
    rw [ho, if_pos (by decide)]
  · rw [if_pos hk]
/-- Ahead of all that is asked of keys. -/
theorem open_front {n x i y : Nat} {p c : Tm} (hn : n < 18446744073709551616) (hx : x ≤ 7) (hi : i < 18446744073709551616) (hp : isPath p = true) (hc : c.length ≤ 64) (hy : y ≤ 7) {z j : Nat} (hz : z ≤ 7) (hj : j < 18446744073709551616) {vs : List Tm} (hl : vs.length = y + 1) {st q : Tm} (hst : right st = true) (hzy : z ≤ y) (hv : vs.getD z [] = sgp j) :
    openB ⟨(z : Int), sealT n x p c, sigT i x (sealT n x p c)⟩ vs st (y : Int) q = if i = j ∧ x = z then (if (back st ((y : Int) - z)).2 ≠ 0 then ([], 7) else unsealB (back st ((y : Int) - z)).1 q (sealT n x p c)) else ([], 7) := by
  have hpl := path_len hp
  obtain ⟨h1, h2⟩ := sealT_sz hn hx hpl hc
  have hbr : BR ⟨(z : Int), sealT n x p c, sigT i x (sealT n x p c)⟩ := by
    have := bOf_right hn hx hi hp hc
    exact ⟨⟨by show (0 : Int) ≤ (z : Int); omega, by show (z : Int) ≤ 7; omega⟩, this.2⟩
  unfold openB
  rw [if_neg (fun h => h ⟨hbr, hst, by omega, by rw [hl]; omega⟩)]
  simp only
  rw [if_neg (by omega), said_is hz h1 h2, if_neg (fun h => h rfl), show ((z : Int)).toNat = z by omega, hv]
  simp only
  rw [verify_sig hi hj hx hz h1 h2]
  by_cases e : i = j ∧ x = z
  · rw [if_pos e, if_neg (fun h => h rfl), if_pos e]
  · rw [if_neg e, if_pos (by decide), if_neg e]
theorem open_late {n x i y : Nat} {p c : Tm} (hn : n < 18446744073709551616) (hx : x ≤ 7) (hi : i < 18446744073709551616) (hp : isPath p = true) (hc : c.length ≤ 64) (hy : y ≤ 7) {z : Nat} (hz : z ≤ 7) {vs : List Tm} (hl : vs.length = y + 1) {st q : Tm} (hst : right st = true) (hzy : y < z) :
    openB ⟨(z : Int), sealT n x p c, sigT i x (sealT n x p c)⟩ vs st (y : Int) q = ([], 7) := by
  have hbr : BR ⟨(z : Int), sealT n x p c, sigT i x (sealT n x p c)⟩ := by
    have := bOf_right hn hx hi hp hc
    exact ⟨⟨by show (0 : Int) ≤ (z : Int); omega, by show (z : Int) ≤ 7; omega⟩, this.2⟩
  unfold openB
  rw [if_neg (fun h => h ⟨hbr, hst, by omega, by rw [hl]; omega⟩)]
  simp only
  rw [if_pos (by omega)]
/-- With a state of the same root that is this epoch's. -/
theorem open_is {n x i y : Nat} {p c : Tm} (hn : n < 18446744073709551616) (hx : x ≤ 7) (hi : i < 18446744073709551616) (hp : isPath p = true) (hc : c.length ≤ 64) (hy : y ≤ 7) {j : Nat} (hj : j < 18446744073709551616) {vs : List Tm} (hl : vs.length = y + 1) (hxy : x ≤ y) (hv : vs.getD x [] = sgp j) (q : Tm) :
    openB (bOf n x i p c) vs (hs (7 - y) (rootS n)) (y : Int) q = if i = j ∧ p = q then (c, 0) else ([], 7) := by
  have hpl := path_len hp
  unfold bOf
  rw [open_front hn hx hi hp hc hy hx hj hl (st_right hn (by omega)) hxy hv]
  have hb : back (hs (7 - y) (rootS n)) ((y : Int) - x) = (hs (7 - x) (rootS n), 0) := by
    rw [back_of (st_right hn (by omega)) (by omega), show ((y : Int) - x).toNat = y - x by omega, backN_yes (by rw [← hs_add]; exact st_right hn (by omega)), ← hs_add, show y - x + (7 - y) = 7 - x by omega]
  rw [hb, unseal_is hn hx hpl hc]
  by_cases e1 : i = j
  · rw [if_pos ⟨e1, rfl⟩, if_neg (fun h => h rfl)]
    by_cases e2 : p = q
    · rw [if_pos e2, if_pos ⟨e1, e2⟩]
    · rw [if_neg e2, if_neg (fun h => e2 h.2)]
  · rw [if_neg (fun h => e1 h.1), if_neg (fun h => e1 h.1)]
/-- With another epoch's state. -/
theorem open_state {n x i y : Nat} {p c : Tm} (hn : n < 18446744073709551616) (hx : x ≤ 7) (hi : i < 18446744073709551616) (hp : isPath p = true) (hc : c.length ≤ 64) (hy : y ≤ 7) {z j : Nat} (hz : z ≤ 7) (hj : j < 18446744073709551616) {vs : List Tm} (hl : vs.length = y + 1) (hxy : x ≤ y) (hzy : z ≠ y) (hv : vs.getD x [] = sgp j) (q : Tm) :
    openB (bOf n x i p c) vs (hs (7 - z) (rootS n)) (y : Int) q = ([], 7) := by
  have hpl := path_len hp
  unfold bOf
  rw [open_front hn hx hi hp hc hy hx hj hl (st_right hn (by omega)) hxy hv]
  by_cases e : i = j ∧ x = x
  · rw [if_pos e]
    by_cases hb : (back (hs (7 - z) (rootS n)) ((y : Int) - x)).2 = 0
    · rw [if_neg (fun h => h hb), (back_ok hb).2, show ((y : Int) - x).toNat = y - x by omega, ← hs_add]
      refine unseal_no hn hx hpl hc fun h => ?_
      have := hs_inj (keyh_inj h)
      omega
    · rw [if_pos hb]
  · rw [if_neg e]
/-- Of another epoch, signed as it was. -/
theorem open_moved {n x i y : Nat} {p c : Tm} (hn : n < 18446744073709551616) (hx : x ≤ 7) (hi : i < 18446744073709551616) (hp : isPath p = true) (hc : c.length ≤ 64) (hy : y ≤ 7) {z j : Nat} (hz : z ≤ 7) (hj : j < 18446744073709551616) {vs : List Tm} (hl : vs.length = y + 1) (hzy : z ≤ y) (hxz : x ≠ z) (hv : vs.getD z [] = sgp j) {st : Tm} (hst : right st = true) (q : Tm) :
    openB ⟨(z : Int), sealT n x p c, sigT i x (sealT n x p c)⟩ vs st (y : Int) q = ([], 7) := by
  rw [open_front hn hx hi hp hc hy hz hj hl hst hzy hv, if_neg (fun h => hxz h.2)]
theorem open_arg {b : Bb} {vs : List Tm} {st : Tm} {ep : Int} {q : Tm} (h : ¬ ArgO b vs.length st ep) : openB b vs st ep q = ([], 1) := by unfold openB; rw [if_pos h]
theorem build_arg {st sn p c : Tm} {ep : Int} (h : ¬ ArgB st ep sn p) : build st ep sn p c = (bzero, 1) := by unfold build; rw [if_pos h]
end Go.Proofs.YtjdignbmlfbdnaaGreat.Dta
