/-
  PACKAGE data's CALLS, as the laws of layer 9 make them: of a root's states and its signers. By an AI agent; no person has read it.
-/
import Derived.Test.YtjdignbmlfbdnaaGreatQHelp
import Derived.Test.YtjdignbmlfbdnaaGreatQOpen
namespace Go.Proofs.YtjdignbmlfbdnaaGreat.Dta
open Go.RowKit Wire Term Draw Reg Clo

def notesB : ByteArray := ⟨#[97, 110, 110, 97, 47, 110, 111, 116, 101, 115]⟩
def noteB : ByteArray := ⟨#[97, 110, 110, 97, 47, 110, 111, 116, 101]⟩
def annaB : ByteArray := ⟨#[97, 110, 110, 97]⟩
def hiB : ByteArray := ⟨#[104, 105]⟩
def pN : Tm := notesB.data.toList
def pT : Tm := noteB.data.toList
theorem pN_path : isPath pN = true := by decide +kernel
theorem pT_path : isPath pT = true := by decide +kernel
theorem anna_path : isPath annaB.data.toList = false := by decide +kernel
theorem pN_ne : pN ≠ pT := by decide
theorem takeB_nil : takeB [] = (bzero, 2) := by
  have e : all [] 3 4000 = ([], 2) := all_none rfl
  unfold takeB takeM
  rw [e, if_pos (.inl (by decide))]
/-- The state of an epoch of a root. -/
theorem state_to {n x : Nat} (hn : n < 18446744073709551616) (hx : x ≤ 7) {R : ByteArray} (hR : R.data.toList = rootS n) (w : World) :
    Calls Tryz.prog 18 #[.string R, .int .i64 (x : Int)] w fun e w' => Sr (hs (7 - x) (rootS n), 0) e ∧ Below w.heap.size w w' := by
  have h := rstate_any R (x : Int) w (by rw [Lib.size_eq, hR]; have := (root_sz hn).2; omega) (by omega)
  rw [hR, st_state hn hx] at h
  exact h
theorem st_len {n k : Nat} (hn : n < 18446744073709551616) (hk : k ≤ 7) {S : ByteArray} (h : S.data.toList = hs k (rootS n)) : S.size ≤ 100 := by rw [Lib.size_eq, h]; have := (st_sz hn hk).2; omega
theorem sg_len {i : Nat} (hi : i < 18446744073709551616) {S : ByteArray} (h : S.data.toList = sgn i) : S.size ≤ 100 := by rw [Lib.size_eq, h]; have := (sgn_sz hi).2; omega
/-- What is built. -/
theorem build_to {n x i : Nat} (hn : n < 18446744073709551616) (hx : x ≤ 7) (hi : i < 18446744073709551616) {S G P C : ByteArray} (hS : S.data.toList = hs (7 - x) (rootS n)) (hG : G.data.toList = sgn i) (hp : isPath P.data.toList = true) (hc : C.size ≤ 64) (w : World) :
    Calls Tryz.prog 11 #[.string S, .int .i64 (x : Int), .string G, .string P, .string C] w fun e w' => Bs (bOf n x i P.data.toList C.data.toList, 0) e ∧ Below w.heap.size w w' := by
  have h := cbuild_any S (x : Int) G P C w (by have := st_len hn (by omega) hS; omega) (by have := sg_len hi hG; omega) (by rw [Lib.size_eq]; have := path_len hp; omega) (by omega)
  rw [hS, hG, build_ok hn hx hi hp (by rw [← Lib.size_eq]; exact hc)] at h
  exact h
theorem build_no {n x i : Nat} (hn : n < 18446744073709551616) (hx : x ≤ 7) (hi : i < 18446744073709551616) {S G P C : ByteArray} (hS : S.data.toList = hs (7 - x) (rootS n)) (hG : G.data.toList = sgn i) (hp : isPath P.data.toList = true) (hc : ¬ C.size ≤ 64) (hc2 : C.size ≤ 100000) (w : World) :
    Calls Tryz.prog 11 #[.string S, .int .i64 (x : Int), .string G, .string P, .string C] w fun e w' => Bs (bzero, 10) e ∧ Below w.heap.size w w' := by
  have h := cbuild_any S (x : Int) G P C w (by have := st_len hn (by omega) hS; omega) (by have := sg_len hi hG; omega) (by rw [Lib.size_eq]; have := path_len hp; omega) hc2
  rw [hS, hG, build_big hn hx hi hp (by rw [← Lib.size_eq]; omega)] at h
  exact h
/-- What is no argument. -/
theorem build_na {st sn : Tm} {ep : Int} {S G P C : ByteArray} (hS : S.data.toList = st) (hG : G.data.toList = sn) (h : ¬ ArgB st ep sn P.data.toList) (h1 : S.size ≤ 100000) (h2 : G.size ≤ 100000) (h3 : P.size ≤ 100000) (h4 : C.size ≤ 100000) (w : World) :
    Calls Tryz.prog 11 #[.string S, .int .i64 ep, .string G, .string P, .string C] w fun e w' => Bs (bzero, 1) e ∧ Below w.heap.size w w' := by
  have := cbuild_any S ep G P C w h1 h2 h3 h4
  rw [hS, hG, build_arg h] at this
  exact this
theorem bs_open {b : Bb} {f : Int} {e : Ending} (h : Bs (b, f) e) : ∃ S G : ByteArray, S.data.toList = b.sl ∧ G.data.toList = b.sg ∧ e = .returned (.tuple #[.agg #[.int .i64 b.ep, .string S, .string G], .int .i64 f]) := by
  obtain ⟨v, ⟨S, G, hS, hG, rfl⟩, he⟩ := h
  exact ⟨S, G, hS, hG, he⟩
theorem bs_zero {f : Int} {e : Ending} (h : Bs (bzero, f) e) : e = .returned (.tuple #[.agg #[.int .i64 0, .string ⟨#[]⟩, .string ⟨#[]⟩], .int .i64 f]) := by
  obtain ⟨S, G, hS, hG, rfl⟩ := bs_open h
  obtain rfl : S = ⟨#[]⟩ := str_eq hS
  obtain rfl : G = ⟨#[]⟩ := str_eq hG
  rfl
theorem bs_bOf {n x i : Nat} {p c : Tm} {f : Int} {e : Ending} (h : Bs (bOf n x i p c, f) e) : ∃ S G : ByteArray, S.data.toList = (bOf n x i p c).sl ∧ G.data.toList = (bOf n x i p c).sg ∧ e = .returned (.tuple #[.agg #[.int .i64 (x : Int), .string S, .string G], .int .i64 f]) := bs_open h
/-- The bytes. -/
theorem put_to {b : Bb} (hb : BR b) {S G : ByteArray} (hS : S.data.toList = b.sl) (hG : G.data.toList = b.sg) (w : World) :
    Calls Tryz.prog 7 #[.agg #[.int .i64 b.ep, .string S, .string G]] w fun e w' => Sr (row b, 0) e ∧ Below w.heap.size w w' := by
  obtain ⟨h1, h2⟩ := br_lens hb
  have h := cput_any b.ep S G w (by rw [Lib.size_eq, hS]; omega) (by rw [Lib.size_eq, hG]; omega)
  rw [hS, hG] at h
  rw [show putB ⟨b.ep, b.sl, b.sg⟩ = (row b, 0) from if_pos hb] at h
  exact h
theorem flat_row (l : List Tm) (h : ∀ t ∈ l, t.length ≤ 4000) : (l.flatMap putText).length ≤ l.length * 4009 := by
  induction l with
  | nil => simp
  | cons t l ih =>
    have h1 := ih fun x hx => h x (List.mem_cons_of_mem _ hx)
    have h2 := h t (List.mem_cons_self ..)
    have h3 := (put_le (n := t.length) (by omega)).2
    simp only [List.flatMap_cons, List.length_append, List.length_cons, putText_len]
    omega
theorem row_small {b : Bb} (hb : BR b) : (row b).length ≤ 13000 := by
  obtain ⟨h1, h2⟩ := br_lens hb
  have h4 := flat_row [put b.ep.toNat, b.sl, b.sg] fun t ht => by
    rcases List.mem_cons.1 ht with rfl | ht
    · have := (ep_put hb.1.1 hb.1.2).1; omega
    · rcases List.mem_cons.1 ht with rfl | ht
      · omega
      · rw [List.mem_singleton.1 ht]; omega
  have h5 := (put_le (n := ([put b.ep.toNat, b.sl, b.sg] : List Tm).length) (by simp)).2
  unfold row putAll
  rw [List.length_append]
  simp only [List.length_cons, List.length_nil] at h4 h5 ⊢
  omega
/-- What is taken. -/
theorem take_to {s : Tm} {x : Bb × Int} (h : takeB s = x) {P : ByteArray} (hP : P.data.toList = s) (hl : P.size ≤ 1000000) (w : World) :
    Calls Tryz.prog 9 #[.string P] w fun e w' => Bs x e ∧ Below w.heap.size w w' := by
  have := ctake_any P w hl
  rw [hP, h] at this
  exact this
/-- What is opened. -/
theorem open_to {b : Bb} {L : List Tm} {st : Tm} {ep : Int} {q : Tm} {x : Tm × Int} (h : openB b L st ep q = x) {ep0 : Int} {S G T Q : ByteArray} {A : Option Addr} {n c : Nat} {vs : List ByteArray} (he : ep0 = b.ep) (hS : S.data.toList = b.sl) (hG : G.data.toList = b.sg) (hv : bl vs = L) (hvn : vs.length = n) (hT : T.data.toList = st) (hQ : Q.data.toList = q)
    (l1 : S.size ≤ 100000) (l2 : G.size ≤ 100000) (l3 : T.size ≤ 100000) (l4 : Q.size ≤ 100000) (l5 : n ≤ 100000) (l6 : ∀ v ∈ vs, v.size ≤ 100000) (l7 : -9223372036854775808 ≤ ep ∧ ep ≤ 9223372036854775807) (w : World) (hr : SReads w A vs) :
    Calls Tryz.prog 13 #[.agg #[.int .i64 ep0, .string S, .string G], .slice A n c, .string T, .int .i64 ep, .string Q] w fun e w' => Sr x e ∧ Below w.heap.size w w' := by
  subst hvn he
  have := copen_any b.ep S G A c vs T ep Q w l1 l2 l3 l4 l5 l6 l7 hr
  rw [hS, hG, hT, hQ, hv, h] at this
  exact this
theorem sgps_sizes {vs : List ByteArray} {m : Nat} (h : bl vs = sgps m) (hm : m ≤ 40) : ∀ v ∈ vs, v.size ≤ 100000 := fun v hv => by
  have h1 : v.data.toList ∈ bl vs := List.mem_map.2 ⟨v, hv, rfl⟩
  rw [h] at h1
  obtain ⟨i, hi, he⟩ := List.mem_map.1 h1
  rw [Lib.size_eq, ← he]
  have := (sgp_sz (i := i) (by have := List.mem_range.1 hi; omega)).2
  omega
theorem seal_size {b : Bb} (hb : BR b) {S : ByteArray} (h : S.data.toList = b.sl) : S.size ≤ 100000 := by rw [Lib.size_eq, h]; have := (br_lens hb).1; omega
theorem sig_size {b : Bb} (hb : BR b) {S : ByteArray} (h : S.data.toList = b.sg) : S.size ≤ 100000 := by rw [Lib.size_eq, h]; have := (br_lens hb).2; omega
end Go.Proofs.YtjdignbmlfbdnaaGreat.Dta
