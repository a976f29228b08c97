/-
  THE LAW DataMoves, walked over the landed code. By an AI agent; no person has read it.
-/
import Derived.Test.YtjdignbmlfbdnaaQShown
import Derived.Test.YtjdignbmlfbdnaaQSet
namespace Go.Proofs.Ytjdignbmlfbdnaa.Dta
open Go.RowKit Wire Term Draw Reg Clo

set_option linter.unusedSimpArgs false
set_option linter.unusedVariables false
def nmB : List ByteArray := [⟨#[97, 110, 110, 97]⟩, ⟨#[98, 101, 110]⟩, ⟨#[97]⟩, ⟨#[98]⟩, ⟨#[110, 111, 116, 101, 115]⟩, ⟨#[97, 110, 110, 97, 45, 110, 111, 116, 101, 115]⟩, ⟨#[110, 111]⟩, ⟨#[116, 101, 115]⟩]
def nmN (m : Nat) : ByteArray := nmB.getD m ByteArray.empty
theorem nm_right {m : Nat} (h : m < 8) : Txt.right (nmN m).data.toList = true ∧ (nmN m).size ≤ 10 := by
  have : m = 0 ∨ m = 1 ∨ m = 2 ∨ m = 3 ∨ m = 4 ∨ m = 5 ∨ m = 6 ∨ m = 7 := by omega
  rcases this with rfl | rfl | rfl | rfl | rfl | rfl | rfl | rfl <;> exact ⟨by decide +kernel, by decide⟩
/-- The names' row. -/
def Nm (g : Nat) (w : World) : Prop := g < w.heap.size ∧ ∀ m, m < 8 → w.cell? ⟨g, m, none⟩ = some (.string (nmN m))
theorem Nm.below {g : Nat} {w w1 : World} (h : Nm g w) (hb : Below w.heap.size w w1) : Nm g w1 := ⟨Nat.lt_of_lt_of_le h.1 hb.size, fun m hm => (hb.cell (p := ⟨g, m, none⟩) h.1).trans (h.2 m hm)⟩
theorem nm_new (w : World) : Nm w.heap.size (w.alloc (.cells #[.string ⟨#[97, 110, 110, 97]⟩, .string ⟨#[98, 101, 110]⟩, .string ⟨#[97]⟩, .string ⟨#[98]⟩, .string ⟨#[110, 111, 116, 101, 115]⟩, .string ⟨#[97, 110, 110, 97, 45, 110, 111, 116, 101, 115]⟩, .string ⟨#[110, 111]⟩, .string ⟨#[116, 101, 115]⟩] 9)) := by
  refine ⟨by simp, fun m hm => ?_⟩
  have : m = 0 ∨ m = 1 ∨ m = 2 ∨ m = 3 ∨ m = 4 ∨ m = 5 ∨ m = 6 ∨ m = 7 := by omega
  rcases this with rfl | rfl | rfl | rfl | rfl | rfl | rfl | rfl <;> simp [go_sem, nmN, nmB]
theorem nm_path {a b : ByteArray} (ha : Txt.right a.data.toList = true) (hb : Txt.right b.data.toList = true) {P : ByteArray} (h : a ++ ⟨#[47]⟩ ++ b = P) : isPath P.data.toList = true ∧ P.size = a.size + 1 + b.size := by
  refine ⟨?_, by rw [← h, ByteArray.size_append, ByteArray.size_append]; rfl⟩
  have e : P.data.toList = a.data.toList ++ 47 :: b.data.toList := by rw [← h, app_data, app_data, List.append_assoc]; rfl
  unfold isPath
  rw [e, Txt.split_some.2 ⟨rfl, ha, hb⟩]
  rfl
theorem wrap_in {z : Int} (h1 : -9223372036854775808 ≤ z ∧ z ≤ 9223372036854775807) : IntKind.i64.wrap z = z := by rw [IntKind.wrap_i64]; omega
theorem tdiv8_in {z : Int} (h1 : -9223372036854775808 ≤ z) (h2 : z ≤ 9223372036854775807) : -9223372036854775808 ≤ z.tdiv 8 ∧ z.tdiv 8 ≤ 9223372036854775807 := by
  rcases Int.le_total 0 z with h | h
  · have : z.tdiv 8 = z / 8 := Int.tdiv_eq_ediv_of_nonneg h
    rw [this]; omega
  · obtain ⟨q, rfl⟩ : ∃ q : Int, z = -q := ⟨-z, by omega⟩
    rw [Int.neg_tdiv, Int.tdiv_eq_ediv_of_nonneg (by omega)]; omega
set_option maxHeartbeats 8000000 in
set_option maxRecDepth 1000000 in
theorem moves_walk (root a other l k : Int) (w : World) (h1 : -9223372036854775808 ≤ root ∧ root ≤ 9223372036854775807) (h2 : -9223372036854775808 ≤ a ∧ a ≤ 9223372036854775807) (h3 : -9223372036854775808 ≤ other ∧ other ≤ 9223372036854775807) (h4 : -9223372036854775808 ≤ l ∧ l ≤ 9223372036854775807) (h5 : -9223372036854775808 ≤ k ∧ k ≤ 9223372036854775807) :
    Calls Try.prog 6 #[.int .i64 root, .int .i64 a, .int .i64 other, .int .i64 l, .int .i64 k] w fun e w' => e = .returned (.bool true) ∧ Below w.heap.size w w' := by
  have HSH := Lib.hid fun w => shown9_any w
  have PK : ∀ (c : Int), -9223372036854775808 ≤ c ∧ c ≤ 9223372036854775807 → ∀ w, Calls Try.prog 9 #[.int .i64 c, .int .i64 8] w fun e w' => e = .returned (.int .i64 (pk c 8 : Int)) ∧ w' = w := fun c hc w => pick9_any c 8 w hc (by decide) (by decide)
  have HPA := Lib.hid (PK a h2)
  have HPB := Lib.hid (PK other h3)
  have HP1 := Lib.hid (PK l h4)
  have HP2 := Lib.hid (PK (l.tdiv 8) (tdiv8_in h4.1 h4.2))
  have HP3 := Lib.hid (PK k h5)
  have HP4 := Lib.hid (PK (k.tdiv 8) (tdiv8_in h5.1 h5.2))
  have HRT := Lib.hid fun w => rootOf_any root w h1
  have hX := pk_lt a (n := 8) (by decide)
  have hY := pk_lt other (n := 8) (by decide)
  have hN := pk_lt root (n := 5) (by decide)
  have hI1 := pk_lt l (n := 8) (by decide)
  have hI2 := pk_lt (l.tdiv 8) (n := 8) (by decide)
  have hI3 := pk_lt k (n := 8) (by decide)
  have hI4 := pk_lt (k.tdiv 8) (n := 8) (by decide)
  clear PK
  generalize pk a 8 = X at HPA hX
  generalize pk other 8 = Y at HPB hY
  generalize pk root 5 = N at HRT hN
  generalize pk l 8 = I1 at HP1 hI1
  generalize pk (l.tdiv 8) 8 = I2 at HP2 hI2
  generalize pk k 8 = I3 at HP3 hI3
  generalize pk (k.tdiv 8) 8 = I4 at HP4 hI4
  have hn : N < 18446744073709551616 := by omega
  have J1 : (I1 : Int) < 8 := by omega
  have J2 : (I2 : Int) < 8 := by omega
  have J3 : (I3 : Int) < 8 := by omega
  have J4 : (I4 : Int) < 8 := by omega
  obtain ⟨r1, z1⟩ := nm_right hI1
  obtain ⟨A1, hA1⟩ : ∃ A, nmN I1 = A := ⟨_, rfl⟩
  rw [hA1] at r1 z1
  obtain ⟨r2, z2⟩ := nm_right hI2
  obtain ⟨A2, hA2⟩ : ∃ A, nmN I2 = A := ⟨_, rfl⟩
  rw [hA2] at r2 z2
  obtain ⟨r3, z3⟩ := nm_right hI3
  obtain ⟨A3, hA3⟩ : ∃ A, nmN I3 = A := ⟨_, rfl⟩
  rw [hA3] at r3 z3
  obtain ⟨r4, z4⟩ := nm_right hI4
  obtain ⟨A4, hA4⟩ : ∃ A, nmN I4 = A := ⟨_, rfl⟩
  rw [hA4] at r4 z4
  have s1 : ¬ (9223372036854775807 < A1.size + 1) := by omega
  have s2 : ¬ (9223372036854775807 < A1.size + 1 + A2.size) := by omega
  have s3 : ¬ (9223372036854775807 < A3.size + 1) := by omega
  have s4 : ¬ (9223372036854775807 < A3.size + 1 + A4.size) := by omega
  have hv1 : IntKind.i64.wrap (l.tdiv 8) = l.tdiv 8 := wrap_in (tdiv8_in h4.1 h4.2)
  have hv2 : IntKind.i64.wrap (k.tdiv 8) = k.tdiv 8 := wrap_in (tdiv8_in h5.1 h5.2)
  obtain ⟨P, hP⟩ : ∃ P, A1 ++ ⟨#[47]⟩ ++ A2 = P := ⟨_, rfl⟩
  obtain ⟨Q, hQ⟩ : ∃ Q, A3 ++ ⟨#[47]⟩ ++ A4 = Q := ⟨_, rfl⟩
  have hpp := nm_path r1 r2 hP
  have hqq := nm_path r3 r4 hQ
  have HST : Hid (∀ (R : ByteArray) (w : World), R.data.toList = rootS N → Calls Try.prog 10 #[.string R, .int .i64 (X : Int)] w fun e w' => Sr (hs (7 - X) (rootS N), 0) e ∧ Below w.heap.size w w') := Lib.hid fun R w hR => state_to hn (x := X) (by omega) hR w
  have HSL : Hid (∀ (R : ByteArray) (w : World), R.data.toList = rootS N → Calls Try.prog 10 #[.string R, .int .i64 7] w fun e w' => Sr (hs (7 - 7) (rootS N), 0) e ∧ Below w.heap.size w w') := Lib.hid fun R w hR => state_to hn (x := 7) (by omega) hR w
  have HSG : Hid (∀ (w : World), Calls Try.prog 13 #[.int .i64 (X : Int)] w fun e w' => St (sgn X) e ∧ Below w.heap.size w w') := Lib.hid fun w => signerOf_any X w (by omega)
  have HSY : Hid (∀ (w : World), Calls Try.prog 13 #[.int .i64 (Y : Int)] w fun e w' => St (sgn Y) e ∧ Below w.heap.size w w') := Lib.hid fun w => signerOf_any Y w (by omega)
  have HVF : Hid (∀ (w : World), Calls Try.prog 18 #[.int .i64 7] w fun e w' => Vf 8 e w' ∧ Below w.heap.size w w') := Lib.hid fun w => by
    have := verifyOf_any 8 w (by omega)
    rw [show ((8 : Nat) : Int) - 1 = 7 by omega] at this
    exact this
  have HBB : Hid (∀ (S G : ByteArray) (w : World), S.data.toList = hs (7 - X) (rootS N) → G.data.toList = sgn X → Calls Try.prog 12 #[.string S, .int .i64 (X : Int), .string G, .string P, .string ⟨#[104, 105]⟩] w fun e w' => Bs (bOf N X X (P : ByteArray).data.toList (⟨#[104, 105]⟩ : ByteArray).data.toList, 0) e ∧ Below w.heap.size w w') := Lib.hid fun S G w hS hG => build_to hn (x := X) (i := X) (by omega) (by omega) hS hG (P := P) (C := ⟨#[104, 105]⟩) (hpp.1) (by decide) w
  have HBC : Hid (∀ (S G : ByteArray) (w : World), S.data.toList = hs (7 - X) (rootS N) → G.data.toList = sgn Y → Calls Try.prog 12 #[.string S, .int .i64 (X : Int), .string G, .string P, .string ⟨#[104, 105]⟩] w fun e w' => Bs (bOf N X Y (P : ByteArray).data.toList (⟨#[104, 105]⟩ : ByteArray).data.toList, 0) e ∧ Below w.heap.size w w') := Lib.hid fun S G w hS hG => build_to hn (x := X) (i := Y) (by omega) (by omega) hS hG (P := P) (C := ⟨#[104, 105]⟩) (hpp.1) (by decide) w
  have stl : ∀ k, k ≤ 7 → (hs k (rootS N)).length ≤ 100000 := fun k hk => by have := (st_sz hn hk).2; omega
  have hPz : P.size ≤ 100 := by omega
  have hQz : Q.size ≤ 100 := by omega
  clear r1 r2 r3 r4
  by_cases hPQ : P = Q
  · subst hPQ
    by_cases hXY : X = Y
    · subst hXY
      have HO1 : Hid (∀ (S G T : ByteArray) (A : Option Addr) (c : Nat) (vs : List ByteArray) (w : World), S.data.toList = (bOf N X X (P : ByteArray).data.toList (⟨#[104, 105]⟩ : ByteArray).data.toList).sl → G.data.toList = (bOf N X X (P : ByteArray).data.toList (⟨#[104, 105]⟩ : ByteArray).data.toList).sg → T.data.toList = hs (7 - 7) (rootS N) → bl vs = sgps 8 → SReads w A vs → Calls Try.prog 17 #[.agg #[.int .i64 (X : Int), .string S, .string G], .slice A vs.length c, .string T, .int .i64 7, .string P] w fun e w' => Sr ([104, 105], 0) e ∧ Below w.heap.size w w') := Lib.hid fun S G T A c vs w hS hG hT hv hr => by
        have hbr : BR (bOf N X X (P : ByteArray).data.toList (⟨#[104, 105]⟩ : ByteArray).data.toList) := bOf_right hn (by omega) (by omega) hpp.1 (by decide)
        have hvl : vs.length ≤ 40 := by
          have := congrArg List.length hv
          simp only [bl_len', sgps_len, List.length_map, List.length_range, List.length_tail] at this
          omega
        exact open_to (b := bOf N X X (P : ByteArray).data.toList (⟨#[104, 105]⟩ : ByteArray).data.toList) (L := sgps 8) (q := (P : ByteArray).data.toList) (by
          show openB (bOf N X X (P : ByteArray).data.toList (⟨#[104, 105]⟩ : ByteArray).data.toList) (sgps 8) (hs (7 - 7) (rootS N)) ((7 : Nat) : Int) P.data.toList = _
          rw [open_is hn (by omega) (by omega) hpp.1 (by decide) (by omega) (j := X) (by omega) (sgps_len _) (by omega) (sgps_get (by omega)), if_pos ⟨rfl, rfl⟩]) rfl hS hG hv rfl hT rfl (seal_size hbr hS) (sig_size hbr hG) (by rw [Lib.size_eq, hT]; exact stl _ (by omega)) (by omega) (by omega) (sgps_sizes hv (by omega)) (by omega) w hr
      have HO2 : Hid (∀ (S G T : ByteArray) (A : Option Addr) (c : Nat) (vs : List ByteArray) (w : World), S.data.toList = (bOf N X X (P : ByteArray).data.toList (⟨#[104, 105]⟩ : ByteArray).data.toList).sl → G.data.toList = (bOf N X X (P : ByteArray).data.toList (⟨#[104, 105]⟩ : ByteArray).data.toList).sg → T.data.toList = hs (7 - 7) (rootS N) → bl vs = sgps 8 → SReads w A vs → Calls Try.prog 17 #[.agg #[.int .i64 (X : Int), .string S, .string G], .slice A vs.length c, .string T, .int .i64 7, .string P] w fun e w' => Sr ([104, 105], 0) e ∧ Below w.heap.size w w') := Lib.hid fun S G T A c vs w hS hG hT hv hr => by
        have hbr : BR (bOf N X X (P : ByteArray).data.toList (⟨#[104, 105]⟩ : ByteArray).data.toList) := bOf_right hn (by omega) (by omega) hpp.1 (by decide)
        have hvl : vs.length ≤ 40 := by
          have := congrArg List.length hv
          simp only [bl_len', sgps_len, List.length_map, List.length_range, List.length_tail] at this
          omega
        exact open_to (b := bOf N X X (P : ByteArray).data.toList (⟨#[104, 105]⟩ : ByteArray).data.toList) (L := sgps 8) (q := (P : ByteArray).data.toList) (by
          show openB (bOf N X X (P : ByteArray).data.toList (⟨#[104, 105]⟩ : ByteArray).data.toList) (sgps 8) (hs (7 - 7) (rootS N)) ((7 : Nat) : Int) P.data.toList = _
          rw [open_is hn (by omega) (by omega) hpp.1 (by decide) (by omega) (j := X) (by omega) (sgps_len _) (by omega) (sgps_get (by omega)), if_pos ⟨rfl, rfl⟩]) rfl hS hG hv rfl hT rfl (seal_size hbr hS) (sig_size hbr hG) (by rw [Lib.size_eq, hT]; exact stl _ (by omega)) (by omega) (by omega) (sgps_sizes hv (by omega)) (by omega) w hr
      have HO3 : Hid (∀ (S G T : ByteArray) (A : Option Addr) (c : Nat) (vs : List ByteArray) (w : World), S.data.toList = ((⟨(X : Int), (bOf N X X (P : ByteArray).data.toList (⟨#[104, 105]⟩ : ByteArray).data.toList).sl, (bOf N X X (P : ByteArray).data.toList (⟨#[104, 105]⟩ : ByteArray).data.toList).sg⟩ : Bb)).sl → G.data.toList = ((⟨(X : Int), (bOf N X X (P : ByteArray).data.toList (⟨#[104, 105]⟩ : ByteArray).data.toList).sl, (bOf N X X (P : ByteArray).data.toList (⟨#[104, 105]⟩ : ByteArray).data.toList).sg⟩ : Bb)).sg → T.data.toList = hs (7 - 7) (rootS N) → bl vs = sgps 8 → SReads w A vs → Calls Try.prog 17 #[.agg #[.int .i64 (X : Int), .string S, .string G], .slice A vs.length c, .string T, .int .i64 7, .string P] w fun e w' => Sr ([104, 105], 0) e ∧ Below w.heap.size w w') := Lib.hid fun S G T A c vs w hS hG hT hv hr => by
        have hbr : BR ((⟨(X : Int), (bOf N X X (P : ByteArray).data.toList (⟨#[104, 105]⟩ : ByteArray).data.toList).sl, (bOf N X X (P : ByteArray).data.toList (⟨#[104, 105]⟩ : ByteArray).data.toList).sg⟩ : Bb)) := ⟨by constructor <;> (show _ ≤ _; simp only; omega), (bOf_right (i := X) hn (show X ≤ 7 by omega) (by omega) hpp.1 (by decide)).2⟩
        have hvl : vs.length ≤ 40 := by
          have := congrArg List.length hv
          simp only [bl_len', sgps_len, List.length_map, List.length_range, List.length_tail] at this
          omega
        exact open_to (b := (⟨(X : Int), (bOf N X X (P : ByteArray).data.toList (⟨#[104, 105]⟩ : ByteArray).data.toList).sl, (bOf N X X (P : ByteArray).data.toList (⟨#[104, 105]⟩ : ByteArray).data.toList).sg⟩ : Bb)) (L := sgps 8) (q := (P : ByteArray).data.toList) (by
          show openB (bOf N X X (P : ByteArray).data.toList (⟨#[104, 105]⟩ : ByteArray).data.toList) (sgps 8) (hs (7 - 7) (rootS N)) ((7 : Nat) : Int) P.data.toList = _
          rw [open_is hn (by omega) (by omega) hpp.1 (by decide) (by omega) (j := X) (by omega) (sgps_len _) (by omega) (sgps_get (by omega)), if_pos ⟨rfl, rfl⟩]) rfl hS hG hv rfl hT rfl (seal_size hbr hS) (sig_size hbr hG) (by rw [Lib.size_eq, hT]; exact stl _ (by omega)) (by omega) (by omega) (sgps_sizes hv (by omega)) (by omega) w hr
      have HB3S : Hid (∀ S : ByteArray, S.data.toList = (bOf N X X (P : ByteArray).data.toList (⟨#[104, 105]⟩ : ByteArray).data.toList).sl → Hid (S.data.toList = ((⟨(X : Int), (bOf N X X (P : ByteArray).data.toList (⟨#[104, 105]⟩ : ByteArray).data.toList).sl, (bOf N X X (P : ByteArray).data.toList (⟨#[104, 105]⟩ : ByteArray).data.toList).sg⟩ : Bb)).sl)) := Lib.hid fun S h => Lib.hid h
      have HB3G : Hid (∀ S : ByteArray, S.data.toList = (bOf N X X (P : ByteArray).data.toList (⟨#[104, 105]⟩ : ByteArray).data.toList).sg → Hid (S.data.toList = ((⟨(X : Int), (bOf N X X (P : ByteArray).data.toList (⟨#[104, 105]⟩ : ByteArray).data.toList).sl, (bOf N X X (P : ByteArray).data.toList (⟨#[104, 105]⟩ : ByteArray).data.toList).sg⟩ : Bb)).sg)) := Lib.hid fun S h => Lib.hid h
      go_enter Try.func6, Try.ntmps6
      go_wp2_with fail
      with_reducible refine (HSH.out _).mono ?_
      rintro e w1 ⟨rfl, hb1⟩
      have HB1 := Lib.hid hb1
      clear hb1
      dsimp only
      go_wp2_with fail
      with_reducible refine (HPA.out _).mono ?_
      rintro e v1 ⟨rfl, hv1⟩
      obtain rfl : w1 = v1 := hv1.symm
      dsimp only
      go_wp2_with fail
      with_reducible refine (HPB.out _).mono ?_
      rintro e v2 ⟨rfl, hv2⟩
      obtain rfl : w1 = v2 := hv2.symm
      dsimp only
      go_wp2_with fail
      have hbS : Below w1.heap.size w1 (w1.alloc (.cells #[.string ⟨#[97, 110, 110, 97]⟩, .string ⟨#[98, 101, 110]⟩, .string ⟨#[97]⟩, .string ⟨#[98]⟩, .string ⟨#[110, 111, 116, 101, 115]⟩, .string ⟨#[97, 110, 110, 97, 45, 110, 111, 116, 101, 115]⟩, .string ⟨#[110, 111]⟩, .string ⟨#[116, 101, 115]⟩] 9)) := (Below.refl w1.heap.size w1).alloc (Nat.le_refl _) _
      have hxS := nm_new w1
      generalize w1.alloc (.cells #[.string ⟨#[97, 110, 110, 97]⟩, .string ⟨#[98, 101, 110]⟩, .string ⟨#[97]⟩, .string ⟨#[98]⟩, .string ⟨#[110, 111, 116, 101, 115]⟩, .string ⟨#[97, 110, 110, 97, 45, 110, 111, 116, 101, 115]⟩, .string ⟨#[110, 111]⟩, .string ⟨#[116, 101, 115]⟩] 9) = wN at hbS hxS ⊢
      have HB2 := Lib.hid (Bel.call HB1.out hbS)
      have HNM := Lib.hid hxS
      clear hbS hxS
      refine Ord.region_lit (S := fun w' => Nm w1.heap.size w' ∧ Below w.heap.size w w') (by kernel_rfl) (by kernel_rfl) ⟨HNM.out.below (Below.drewN' (Below.refl wN.heap.size wN) 1), Bel.call HB2.out (Below.drewN' (Below.refl wN.heap.size wN) 1)⟩ ?_
      refine Ord.stepR (v := ?_) (by rfl) ?_ ?_
      rotate_left
      · intro w' hSw
        have hk1 := hSw.1.2 I1 hI1
        have hk2 := hSw.1.2 I2 hI2
        rw [hA1] at hk1
        rw [hA2] at hk2
        go_simp
        try with_reducible rfl
      try simp only [Act.put, List.setIfInBounds_toArray, List.set_cons_zero, List.set_cons_succ]
      refine Ord.stepR (v := ?_) (by rfl) ?_ ?_
      rotate_left
      · intro w' hSw
        have hk1 := hSw.1.2 I1 hI1
        have hk2 := hSw.1.2 I2 hI2
        rw [hA1] at hk1
        rw [hA2] at hk2
        go_simp
        try with_reducible rfl
      try simp only [Act.put, List.setIfInBounds_toArray, List.set_cons_zero, List.set_cons_succ]
      refine Ord.stepC (v := .int .i64 (I1 : Int)) (by rfl) ?_ (fun w1 hS => (HP1.out w1).mono fun e w2 h => ⟨h.1, by rw [h.2]; exact hS⟩) ?_
      · intro w' hSw
        go_simp
        try with_reducible rfl
      try simp only [Act.put, List.setIfInBounds_toArray, List.set_cons_zero, List.set_cons_succ]
      refine Ord.stepR (v := ?_) (by rfl) ?_ ?_
      rotate_left
      · intro w' hSw
        have hk1 := hSw.1.2 I1 hI1
        have hk2 := hSw.1.2 I2 hI2
        rw [hA1] at hk1
        rw [hA2] at hk2
        go_simp
        try with_reducible rfl
      try simp only [Act.put, List.setIfInBounds_toArray, List.set_cons_zero, List.set_cons_succ]
      refine Ord.stepR (v := ?_) (by rfl) ?_ ?_
      rotate_left
      · intro w' hSw
        have hk1 := hSw.1.2 I1 hI1
        have hk2 := hSw.1.2 I2 hI2
        rw [hA1] at hk1
        rw [hA2] at hk2
        go_simp
        try with_reducible rfl
      try simp only [Act.put, List.setIfInBounds_toArray, List.set_cons_zero, List.set_cons_succ]
      refine Ord.stepR (v := ?_) (by rfl) ?_ ?_
      rotate_left
      · intro w' hSw
        have hk1 := hSw.1.2 I1 hI1
        have hk2 := hSw.1.2 I2 hI2
        rw [hA1] at hk1
        rw [hA2] at hk2
        go_simp
        try with_reducible rfl
      try simp only [Act.put, List.setIfInBounds_toArray, List.set_cons_zero, List.set_cons_succ]
      refine Ord.stepR (v := ?_) (by rfl) ?_ ?_
      rotate_left
      · intro w' hSw
        have hk1 := hSw.1.2 I1 hI1
        have hk2 := hSw.1.2 I2 hI2
        rw [hA1] at hk1
        rw [hA2] at hk2
        go_simp
        try with_reducible rfl
      try simp only [Act.put, List.setIfInBounds_toArray, List.set_cons_zero, List.set_cons_succ]
      refine Ord.stepR (v := ?_) (by rfl) ?_ ?_
      rotate_left
      · intro w' hSw
        have hk1 := hSw.1.2 I1 hI1
        have hk2 := hSw.1.2 I2 hI2
        rw [hA1] at hk1
        rw [hA2] at hk2
        go_simp
        try with_reducible rfl
      try simp only [Act.put, List.setIfInBounds_toArray, List.set_cons_zero, List.set_cons_succ]
      refine Ord.stepR (v := ?_) (by rfl) ?_ ?_
      rotate_left
      · intro w' hSw
        have hk1 := hSw.1.2 I1 hI1
        have hk2 := hSw.1.2 I2 hI2
        rw [hA1] at hk1
        rw [hA2] at hk2
        go_simp
        try with_reducible rfl
      try simp only [Act.put, List.setIfInBounds_toArray, List.set_cons_zero, List.set_cons_succ]
      refine Ord.stepC (v := .int .i64 (I2 : Int)) (by rfl) ?_ (fun w1 hS => (HP2.out w1).mono fun e w2 h => ⟨h.1, by rw [h.2]; exact hS⟩) ?_
      · intro w' hSw
        go_simp
        try with_reducible rfl
      try simp only [Act.put, List.setIfInBounds_toArray, List.set_cons_zero, List.set_cons_succ]
      refine Ord.stepR (v := ?_) (by rfl) ?_ ?_
      rotate_left
      · intro w' hSw
        have hk1 := hSw.1.2 I1 hI1
        have hk2 := hSw.1.2 I2 hI2
        rw [hA1] at hk1
        rw [hA2] at hk2
        go_simp
        try with_reducible rfl
      try simp only [Act.put, List.setIfInBounds_toArray, List.set_cons_zero, List.set_cons_succ]
      refine Ord.stepR (v := ?_) (by rfl) ?_ ?_
      rotate_left
      · intro w' hSw
        have hk1 := hSw.1.2 I1 hI1
        have hk2 := hSw.1.2 I2 hI2
        rw [hA1] at hk1
        rw [hA2] at hk2
        go_simp
        try with_reducible rfl
      try simp only [Act.put, List.setIfInBounds_toArray, List.set_cons_zero, List.set_cons_succ]
      refine Ord.stepR (v := ?_) (by rfl) ?_ ?_
      rotate_left
      · intro w' hSw
        have hk1 := hSw.1.2 I1 hI1
        have hk2 := hSw.1.2 I2 hI2
        rw [hA1] at hk1
        rw [hA2] at hk2
        go_simp
        try with_reducible rfl
      try simp only [Act.put, List.setIfInBounds_toArray, List.set_cons_zero, List.set_cons_succ]
      refine Ord.stepR (v := ?_) (by rfl) ?_ ?_
      rotate_left
      · intro w' hSw
        have hk1 := hSw.1.2 I1 hI1
        have hk2 := hSw.1.2 I2 hI2
        rw [hA1] at hk1
        rw [hA2] at hk2
        go_simp
        try with_reducible rfl
      try simp only [Act.put, List.setIfInBounds_toArray, List.set_cons_zero, List.set_cons_succ]
      refine Ord.stepD ?_
      rintro w10 hS9
      have HNM := Lib.hid hS9.1
      have HB3 := Lib.hid hS9.2
      clear hS9
      go_wp2_with fail
      refine Ord.region_lit (S := fun w' => Nm w1.heap.size w' ∧ Below w.heap.size w w') (by kernel_rfl) (by kernel_rfl) ⟨HNM.out.below (Below.drewN' (Below.refl w10.heap.size w10) 1), Bel.call HB3.out (Below.drewN' (Below.refl w10.heap.size w10) 1)⟩ ?_
      refine Ord.stepR (v := ?_) (by rfl) ?_ ?_
      rotate_left
      · intro w' hSw
        have hk1 := hSw.1.2 I3 hI3
        have hk2 := hSw.1.2 I4 hI4
        rw [hA3] at hk1
        rw [hA4] at hk2
        go_simp
        try with_reducible rfl
      try simp only [Act.put, List.setIfInBounds_toArray, List.set_cons_zero, List.set_cons_succ]
      refine Ord.stepR (v := ?_) (by rfl) ?_ ?_
      rotate_left
      · intro w' hSw
        have hk1 := hSw.1.2 I3 hI3
        have hk2 := hSw.1.2 I4 hI4
        rw [hA3] at hk1
        rw [hA4] at hk2
        go_simp
        try with_reducible rfl
      try simp only [Act.put, List.setIfInBounds_toArray, List.set_cons_zero, List.set_cons_succ]
      refine Ord.stepC (v := .int .i64 (I3 : Int)) (by rfl) ?_ (fun w1 hS => (HP3.out w1).mono fun e w2 h => ⟨h.1, by rw [h.2]; exact hS⟩) ?_
      · intro w' hSw
        go_simp
        try with_reducible rfl
      try simp only [Act.put, List.setIfInBounds_toArray, List.set_cons_zero, List.set_cons_succ]
      refine Ord.stepR (v := ?_) (by rfl) ?_ ?_
      rotate_left
      · intro w' hSw
        have hk1 := hSw.1.2 I3 hI3
        have hk2 := hSw.1.2 I4 hI4
        rw [hA3] at hk1
        rw [hA4] at hk2
        go_simp
        try with_reducible rfl
      try simp only [Act.put, List.setIfInBounds_toArray, List.set_cons_zero, List.set_cons_succ]
      refine Ord.stepR (v := ?_) (by rfl) ?_ ?_
      rotate_left
      · intro w' hSw
        have hk1 := hSw.1.2 I3 hI3
        have hk2 := hSw.1.2 I4 hI4
        rw [hA3] at hk1
        rw [hA4] at hk2
        go_simp
        try with_reducible rfl
      try simp only [Act.put, List.setIfInBounds_toArray, List.set_cons_zero, List.set_cons_succ]
      refine Ord.stepR (v := ?_) (by rfl) ?_ ?_
      rotate_left
      · intro w' hSw
        have hk1 := hSw.1.2 I3 hI3
        have hk2 := hSw.1.2 I4 hI4
        rw [hA3] at hk1
        rw [hA4] at hk2
        go_simp
        try with_reducible rfl
      try simp only [Act.put, List.setIfInBounds_toArray, List.set_cons_zero, List.set_cons_succ]
      refine Ord.stepR (v := ?_) (by rfl) ?_ ?_
      rotate_left
      · intro w' hSw
        have hk1 := hSw.1.2 I3 hI3
        have hk2 := hSw.1.2 I4 hI4
        rw [hA3] at hk1
        rw [hA4] at hk2
        go_simp
        try with_reducible rfl
      try simp only [Act.put, List.setIfInBounds_toArray, List.set_cons_zero, List.set_cons_succ]
      refine Ord.stepR (v := ?_) (by rfl) ?_ ?_
      rotate_left
      · intro w' hSw
        have hk1 := hSw.1.2 I3 hI3
        have hk2 := hSw.1.2 I4 hI4
        rw [hA3] at hk1
        rw [hA4] at hk2
        go_simp
        try with_reducible rfl
      try simp only [Act.put, List.setIfInBounds_toArray, List.set_cons_zero, List.set_cons_succ]
      refine Ord.stepR (v := ?_) (by rfl) ?_ ?_
      rotate_left
      · intro w' hSw
        have hk1 := hSw.1.2 I3 hI3
        have hk2 := hSw.1.2 I4 hI4
        rw [hA3] at hk1
        rw [hA4] at hk2
        go_simp
        try with_reducible rfl
      try simp only [Act.put, List.setIfInBounds_toArray, List.set_cons_zero, List.set_cons_succ]
      refine Ord.stepC (v := .int .i64 (I4 : Int)) (by rfl) ?_ (fun w1 hS => (HP4.out w1).mono fun e w2 h => ⟨h.1, by rw [h.2]; exact hS⟩) ?_
      · intro w' hSw
        go_simp
        try with_reducible rfl
      try simp only [Act.put, List.setIfInBounds_toArray, List.set_cons_zero, List.set_cons_succ]
      refine Ord.stepR (v := ?_) (by rfl) ?_ ?_
      rotate_left
      · intro w' hSw
        have hk1 := hSw.1.2 I3 hI3
        have hk2 := hSw.1.2 I4 hI4
        rw [hA3] at hk1
        rw [hA4] at hk2
        go_simp
        try with_reducible rfl
      try simp only [Act.put, List.setIfInBounds_toArray, List.set_cons_zero, List.set_cons_succ]
      refine Ord.stepR (v := ?_) (by rfl) ?_ ?_
      rotate_left
      · intro w' hSw
        have hk1 := hSw.1.2 I3 hI3
        have hk2 := hSw.1.2 I4 hI4
        rw [hA3] at hk1
        rw [hA4] at hk2
        go_simp
        try with_reducible rfl
      try simp only [Act.put, List.setIfInBounds_toArray, List.set_cons_zero, List.set_cons_succ]
      refine Ord.stepR (v := ?_) (by rfl) ?_ ?_
      rotate_left
      · intro w' hSw
        have hk1 := hSw.1.2 I3 hI3
        have hk2 := hSw.1.2 I4 hI4
        rw [hA3] at hk1
        rw [hA4] at hk2
        go_simp
        try with_reducible rfl
      try simp only [Act.put, List.setIfInBounds_toArray, List.set_cons_zero, List.set_cons_succ]
      refine Ord.stepR (v := ?_) (by rfl) ?_ ?_
      rotate_left
      · intro w' hSw
        have hk1 := hSw.1.2 I3 hI3
        have hk2 := hSw.1.2 I4 hI4
        rw [hA3] at hk1
        rw [hA4] at hk2
        go_simp
        try with_reducible rfl
      try simp only [Act.put, List.setIfInBounds_toArray, List.set_cons_zero, List.set_cons_succ]
      refine Ord.stepD ?_
      rintro w30 hS9
      have HNM := Lib.hid hS9.1
      have HB4 := Lib.hid hS9.2
      clear hS9
      clear HNM
      go_wp2_with fail
      with_reducible refine (HRT.out _).mono ?_
      rintro e w5 ⟨⟨R, hR, rfl⟩, hb5⟩
      have HB5 := Lib.hid (Bel.call HB4.out hb5)
      clear hb5
      try dsimp only at hR
      have HR := Lib.hid hR
      clear hR
      dsimp only
      go_wp2_with fail
      with_reducible refine (HST.out R _ HR.out).mono ?_
      rintro e w6 ⟨⟨S, hS, rfl⟩, hb6⟩
      have HB6 := Lib.hid (Bel.call HB5.out hb6)
      clear hb6
      try dsimp only at hS
      have HS := Lib.hid hS
      clear hS
      dsimp only
      go_wp2_with fail
      with_reducible refine (HRT.out _).mono ?_
      rintro e w7 ⟨⟨V, hV, rfl⟩, hb7⟩
      have HB7 := Lib.hid (Bel.call HB6.out hb7)
      clear hb7
      try dsimp only at hV
      have HV := Lib.hid hV
      clear hV
      dsimp only
      go_wp2_with fail
      with_reducible refine (HSL.out V _ HV.out).mono ?_
      rintro e w8 ⟨⟨L, hL, rfl⟩, hb8⟩
      have HB8 := Lib.hid (Bel.call HB7.out hb8)
      clear hb8
      try dsimp only at hL
      have HL := Lib.hid hL
      clear hL
      dsimp only
      go_wp2_with fail
      with_reducible refine (HSG.out _).mono ?_
      rintro e w9 ⟨⟨G, hG, rfl⟩, hb9⟩
      have HB9 := Lib.hid (Bel.call HB8.out hb9)
      clear hb9
      try dsimp only at hG
      have HG := Lib.hid hG
      clear hG
      dsimp only
      go_wp2_with fail
      with_reducible refine (HBB.out S G _ HS.out HG.out).mono ?_
      rintro e w10 ⟨hx, hb10⟩
      have HB10 := Lib.hid (Bel.call HB9.out hb10)
      clear hb10
      obtain ⟨SB, GB, hSB, hGB, rfl⟩ := bs_bOf hx
      have HSB := Lib.hid hSB
      have HGB := Lib.hid hGB
      clear hx hSB hGB
      dsimp only
      go_wp2_with fail
      have hbS : Below w10.heap.size w10 (w10.alloc (.cells #[.int .i64 (X : Int), .string SB, .string GB] 29)) := (Below.refl w10.heap.size w10).alloc (Nat.le_refl _) _
      have hxS := r3_new w10 ((X : Int)) SB GB 29
      generalize w10.alloc (.cells #[.int .i64 (X : Int), .string SB, .string GB] 29) = wSB at hbS hxS ⊢
      have HB11 := Lib.hid (Bel.call HB10.out hbS)
      have HXB := Lib.hid hxS
      clear hbS hxS
      with_reducible refine (HSY.out _).mono ?_
      rintro e w12 ⟨⟨H, hH, rfl⟩, hb12⟩
      have HB12 := Lib.hid (Bel.call HB11.out hb12)
      replace HXB := Lib.hid (HXB.out.below hb12)
      clear hb12
      try dsimp only at hH
      have HH := Lib.hid hH
      clear hH
      dsimp only
      go_wp2_with fail
      with_reducible refine (HBC.out S H _ HS.out HH.out).mono ?_
      rintro e w13 ⟨hx, hb13⟩
      have HB13 := Lib.hid (Bel.call HB12.out hb13)
      replace HXB := Lib.hid (HXB.out.below hb13)
      clear hb13
      obtain ⟨SC, GC, hSC, hGC, rfl⟩ := bs_bOf hx
      have HSC := Lib.hid hSC
      have HGC := Lib.hid hGC
      clear hx hSC hGC
      dsimp only
      go_wp2_with fail
      have hbS : Below w13.heap.size w13 (w13.alloc (.cells #[.int .i64 (X : Int), .string SC, .string GC] 29)) := (Below.refl w13.heap.size w13).alloc (Nat.le_refl _) _
      have hxS := r3_new w13 ((X : Int)) SC GC 29
      generalize w13.alloc (.cells #[.int .i64 (X : Int), .string SC, .string GC] 29) = wSC at hbS hxS ⊢
      have HB14 := Lib.hid (Bel.call HB13.out hbS)
      replace HXB := Lib.hid (HXB.out.below hbS)
      have HXC := Lib.hid hxS
      clear hbS hxS
      refine wp_region_held_drew (S := fun w' => R3 w10.heap.size w' (X : Int) SB GB) (by kernel_rfl) (HXB.out.below (Below.drewN' (Below.refl wSC.heap.size wSC) 1)) (fun hHeld => ?_)
      refine wpAnyH_take (i := 0) (v := ?_) (by rw [List.getElem?_toArray]; rfl) (by kernel_rfl) (by kernel_rfl) (by kernel_rfl) (by exact fun _ _ _ h => h) (Or.inl ⟨by rfl, ?_⟩) (by assumption) ?_
      rotate_left
      · intro w' hSw
        obtain ⟨⟨_, c0, c1, c2⟩, _⟩ := hSw
        go_simp
        try with_reducible rfl
      try simp only [Act.put, List.setIfInBounds_toArray, List.set_cons_zero, List.set_cons_succ]
      refine wpAnyH_take (i := 2) (v := ?_) (by rw [List.getElem?_toArray]; rfl) (by kernel_rfl) (by kernel_rfl) (by kernel_rfl) (by exact fun _ _ _ h => h) (Or.inl ⟨by rfl, ?_⟩) (by assumption) ?_
      rotate_left
      · intro w' hSw
        obtain ⟨⟨_, c0, c1, c2⟩, _⟩ := hSw
        go_simp
        try with_reducible rfl
      try simp only [Act.put, List.setIfInBounds_toArray, List.set_cons_zero, List.set_cons_succ]
      refine wpAnyH_take (i := 3) (v := ?_) (by rw [List.getElem?_toArray]; rfl) (by kernel_rfl) (by kernel_rfl) (by kernel_rfl) (by exact fun _ _ _ h => h) (Or.inl ⟨by rfl, ?_⟩) (by assumption) ?_
      rotate_left
      · intro w' hSw
        obtain ⟨⟨_, c0, c1, c2⟩, _⟩ := hSw
        go_simp
        try with_reducible rfl
      try simp only [Act.put, List.setIfInBounds_toArray, List.set_cons_zero, List.set_cons_succ]
      have hdr : Below wSC.heap.size wSC wSC.drew := Below.drewN' (Below.refl wSC.heap.size wSC) 1
      clear hHeld
      generalize wSC.drew = wd15 at hdr ⊢
      have HB15 := Lib.hid (Bel.call HB14.out hdr)
      replace HXB := Lib.hid (HXB.out.below hdr)
      replace HXC := Lib.hid (HXC.out.below hdr)
      clear hdr
      refine wpAnyH_ready (rs := [1]) (by kernel_rfl) (by simp) ?_
      refine AllReadyH.cons (by rw [List.getElem?_toArray]; rfl) (fun K hK => ?_) AllReadyH.nil
      go_simp
      go_at_call 18
      with_reducible refine (HVF.out _).mono ?_
      rintro e w16 ⟨⟨AW1, cW1, vsW1, hvs, hvn, hvc, hvr, hvz, rfl⟩, hb16⟩
      have HB16 := Lib.hid (Bel.call HB15.out hb16)
      replace HXB := Lib.hid (HXB.out.below hb16)
      replace HXC := Lib.hid (HXC.out.below hb16)
      clear hb16
      have HSW1 := Lib.hid hvs
      have HNW1 := Lib.hid hvn
      have HRW1 := Lib.hid hvr
      have HCW1 := Lib.hid hvc
      clear hvs hvn hvc hvr hvz
      dsimp only
      refine hK.out _ _ HXB.out (fun hHeld => ?_)
      try simp only [Act.put, List.setIfInBounds_toArray, List.set_cons_zero, List.set_cons_succ]
      clear hHeld
      refine wpAnyH_ready (rs := [4]) (by kernel_rfl) (by simp) ?_
      refine AllReadyH.cons (by rw [List.getElem?_toArray]; rfl) (fun K hK => ?_) AllReadyH.nil
      go_simp
      go_at_call 17
      with_reducible refine (HO1.out SB GB L _ _ _ _ HSB.out HGB.out HL.out HSW1.out HRW1.out).mono ?_
      rintro e w17 ⟨⟨C1, hC1, rfl⟩, hb17⟩
      have HB17 := Lib.hid (Bel.call HB16.out hb17)
      replace HXB := Lib.hid (HXB.out.below hb17)
      replace HXC := Lib.hid (HXC.out.below hb17)
      replace HRW1 := Lib.hid (HRW1.out.below hb17 (Nat.le_refl _))
      clear hb17
      try dsimp only at hC1
      have HC1 := Lib.hid hC1
      clear hC1
      dsimp only
      refine hK.out _ _ HXB.out (fun hHeld => ?_)
      try simp only [Act.put, List.setIfInBounds_toArray, List.set_cons_zero, List.set_cons_succ]
      refine wpAnyH_take (i := 5) (v := ?_) (by rw [List.getElem?_toArray]; rfl) (by kernel_rfl) (by kernel_rfl) (by kernel_rfl) (by exact fun _ _ _ h => h) (Or.inl ⟨by rfl, ?_⟩) (by assumption) ?_
      rotate_left
      · intro w' hSw
        obtain ⟨⟨_, c0, c1, c2⟩, _⟩ := hSw
        go_simp
        try with_reducible rfl
      try simp only [Act.put, List.setIfInBounds_toArray, List.set_cons_zero, List.set_cons_succ]
      refine wpAnyH_take (i := 6) (v := ?_) (by rw [List.getElem?_toArray]; rfl) (by kernel_rfl) (by kernel_rfl) (by kernel_rfl) (by exact fun _ _ _ h => h) (Or.inl ⟨by rfl, ?_⟩) (by assumption) ?_
      rotate_left
      · intro w' hSw
        obtain ⟨⟨_, c0, c1, c2⟩, _⟩ := hSw
        go_simp
        try with_reducible rfl
      try simp only [Act.put, List.setIfInBounds_toArray, List.set_cons_zero, List.set_cons_succ]
      refine wpAnyH_take (i := 7) (v := ?_) (by rw [List.getElem?_toArray]; rfl) (by kernel_rfl) (by kernel_rfl) (by kernel_rfl) (by exact fun _ _ _ h => h) (Or.inl ⟨by rfl, ?_⟩) (by assumption) ?_
      rotate_left
      · intro w' hSw
        obtain ⟨⟨_, c0, c1, c2⟩, _⟩ := hSw
        go_simp
        try with_reducible rfl
      try simp only [Act.put, List.setIfInBounds_toArray, List.set_cons_zero, List.set_cons_succ]
      refine wpAnyH_take (i := 8) (v := ?_) (by rw [List.getElem?_toArray]; rfl) (by kernel_rfl) (by kernel_rfl) (by kernel_rfl) (by exact fun _ _ _ h => h) (Or.inl ⟨by rfl, ?_⟩) (by assumption) ?_
      rotate_left
      · intro w' hSw
        obtain ⟨⟨_, c0, c1, c2⟩, _⟩ := hSw
        go_simp
        try with_reducible rfl
      try simp only [Act.put, List.setIfInBounds_toArray, List.set_cons_zero, List.set_cons_succ]
      refine wpAnyH_take (i := 9) (v := ?_) (by rw [List.getElem?_toArray]; rfl) (by kernel_rfl) (by kernel_rfl) (by kernel_rfl) (by exact fun _ _ _ h => h) (Or.inl ⟨by rfl, ?_⟩) (by assumption) ?_
      rotate_left
      · intro w' hSw
        obtain ⟨⟨_, c0, c1, c2⟩, _⟩ := hSw
        go_simp
        try with_reducible rfl
      try simp only [Act.put, List.setIfInBounds_toArray, List.set_cons_zero, List.set_cons_succ]
      refine wpAnyH_done (by kernel_rfl) ?_ _
      clear hHeld HRW1
      go_wp2_with fail
      refine wp_region_held_drew (S := fun w' => R3 w13.heap.size w' (X : Int) SC GC) (by kernel_rfl) (HXC.out.below (Below.drewN' (Below.refl w17.heap.size w17) 1)) (fun hHeld => ?_)
      refine wpAnyH_take (i := 0) (v := ?_) (by rw [List.getElem?_toArray]; rfl) (by kernel_rfl) (by kernel_rfl) (by kernel_rfl) (by exact fun _ _ _ h => h) (Or.inl ⟨by rfl, ?_⟩) (by assumption) ?_
      rotate_left
      · intro w' hSw
        obtain ⟨⟨_, c0, c1, c2⟩, _⟩ := hSw
        go_simp
        try with_reducible rfl
      try simp only [Act.put, List.setIfInBounds_toArray, List.set_cons_zero, List.set_cons_succ]
      refine wpAnyH_take (i := 2) (v := ?_) (by rw [List.getElem?_toArray]; rfl) (by kernel_rfl) (by kernel_rfl) (by kernel_rfl) (by exact fun _ _ _ h => h) (Or.inl ⟨by rfl, ?_⟩) (by assumption) ?_
      rotate_left
      · intro w' hSw
        obtain ⟨⟨_, c0, c1, c2⟩, _⟩ := hSw
        go_simp
        try with_reducible rfl
      try simp only [Act.put, List.setIfInBounds_toArray, List.set_cons_zero, List.set_cons_succ]
      refine wpAnyH_take (i := 3) (v := ?_) (by rw [List.getElem?_toArray]; rfl) (by kernel_rfl) (by kernel_rfl) (by kernel_rfl) (by exact fun _ _ _ h => h) (Or.inl ⟨by rfl, ?_⟩) (by assumption) ?_
      rotate_left
      · intro w' hSw
        obtain ⟨⟨_, c0, c1, c2⟩, _⟩ := hSw
        go_simp
        try with_reducible rfl
      try simp only [Act.put, List.setIfInBounds_toArray, List.set_cons_zero, List.set_cons_succ]
      have hdr : Below w17.heap.size w17 w17.drew := Below.drewN' (Below.refl w17.heap.size w17) 1
      clear hHeld
      generalize w17.drew = wd18 at hdr ⊢
      have HB18 := Lib.hid (Bel.call HB17.out hdr)
      replace HXB := Lib.hid (HXB.out.below hdr)
      replace HXC := Lib.hid (HXC.out.below hdr)
      clear hdr
      refine wpAnyH_ready (rs := [1]) (by kernel_rfl) (by simp) ?_
      refine AllReadyH.cons (by rw [List.getElem?_toArray]; rfl) (fun K hK => ?_) AllReadyH.nil
      go_simp
      go_at_call 18
      with_reducible refine (HVF.out _).mono ?_
      rintro e w19 ⟨⟨AW2, cW2, vsW2, hvs, hvn, hvc, hvr, hvz, rfl⟩, hb19⟩
      have HB19 := Lib.hid (Bel.call HB18.out hb19)
      replace HXB := Lib.hid (HXB.out.below hb19)
      replace HXC := Lib.hid (HXC.out.below hb19)
      clear hb19
      have HSW2 := Lib.hid hvs
      have HNW2 := Lib.hid hvn
      have HRW2 := Lib.hid hvr
      have HCW2 := Lib.hid hvc
      clear hvs hvn hvc hvr hvz
      dsimp only
      refine hK.out _ _ HXC.out (fun hHeld => ?_)
      try simp only [Act.put, List.setIfInBounds_toArray, List.set_cons_zero, List.set_cons_succ]
      clear hHeld
      refine wpAnyH_ready (rs := [4]) (by kernel_rfl) (by simp) ?_
      refine AllReadyH.cons (by rw [List.getElem?_toArray]; rfl) (fun K hK => ?_) AllReadyH.nil
      go_simp
      go_at_call 17
      with_reducible refine (HO2.out SC GC L _ _ _ _ HSC.out HGC.out HL.out HSW2.out HRW2.out).mono ?_
      rintro e w20 ⟨⟨C2, hC2, rfl⟩, hb20⟩
      have HB20 := Lib.hid (Bel.call HB19.out hb20)
      replace HXB := Lib.hid (HXB.out.below hb20)
      replace HXC := Lib.hid (HXC.out.below hb20)
      replace HRW2 := Lib.hid (HRW2.out.below hb20 (Nat.le_refl _))
      clear hb20
      try dsimp only at hC2
      have HC2 := Lib.hid hC2
      clear hC2
      dsimp only
      refine hK.out _ _ HXC.out (fun hHeld => ?_)
      try simp only [Act.put, List.setIfInBounds_toArray, List.set_cons_zero, List.set_cons_succ]
      refine wpAnyH_take (i := 5) (v := ?_) (by rw [List.getElem?_toArray]; rfl) (by kernel_rfl) (by kernel_rfl) (by kernel_rfl) (by exact fun _ _ _ h => h) (Or.inl ⟨by rfl, ?_⟩) (by assumption) ?_
      rotate_left
      · intro w' hSw
        obtain ⟨⟨_, c0, c1, c2⟩, _⟩ := hSw
        go_simp
        try with_reducible rfl
      try simp only [Act.put, List.setIfInBounds_toArray, List.set_cons_zero, List.set_cons_succ]
      refine wpAnyH_take (i := 6) (v := ?_) (by rw [List.getElem?_toArray]; rfl) (by kernel_rfl) (by kernel_rfl) (by kernel_rfl) (by exact fun _ _ _ h => h) (Or.inl ⟨by rfl, ?_⟩) (by assumption) ?_
      rotate_left
      · intro w' hSw
        obtain ⟨⟨_, c0, c1, c2⟩, _⟩ := hSw
        go_simp
        try with_reducible rfl
      try simp only [Act.put, List.setIfInBounds_toArray, List.set_cons_zero, List.set_cons_succ]
      refine wpAnyH_take (i := 7) (v := ?_) (by rw [List.getElem?_toArray]; rfl) (by kernel_rfl) (by kernel_rfl) (by kernel_rfl) (by exact fun _ _ _ h => h) (Or.inl ⟨by rfl, ?_⟩) (by assumption) ?_
      rotate_left
      · intro w' hSw
        obtain ⟨⟨_, c0, c1, c2⟩, _⟩ := hSw
        go_simp
        try with_reducible rfl
      try simp only [Act.put, List.setIfInBounds_toArray, List.set_cons_zero, List.set_cons_succ]
      refine wpAnyH_take (i := 8) (v := ?_) (by rw [List.getElem?_toArray]; rfl) (by kernel_rfl) (by kernel_rfl) (by kernel_rfl) (by exact fun _ _ _ h => h) (Or.inl ⟨by rfl, ?_⟩) (by assumption) ?_
      rotate_left
      · intro w' hSw
        obtain ⟨⟨_, c0, c1, c2⟩, _⟩ := hSw
        go_simp
        try with_reducible rfl
      try simp only [Act.put, List.setIfInBounds_toArray, List.set_cons_zero, List.set_cons_succ]
      refine wpAnyH_take (i := 9) (v := ?_) (by rw [List.getElem?_toArray]; rfl) (by kernel_rfl) (by kernel_rfl) (by kernel_rfl) (by exact fun _ _ _ h => h) (Or.inl ⟨by rfl, ?_⟩) (by assumption) ?_
      rotate_left
      · intro w' hSw
        obtain ⟨⟨_, c0, c1, c2⟩, _⟩ := hSw
        go_simp
        try with_reducible rfl
      try simp only [Act.put, List.setIfInBounds_toArray, List.set_cons_zero, List.set_cons_succ]
      refine wpAnyH_done (by kernel_rfl) ?_ _
      clear hHeld HRW2
      obtain ⟨⟨_, dB0, dB1, dB2⟩, kB0, kB1, kB2⟩ := HXB.out
      go_wp2_with fail
      clear dB0 dB1 dB2 kB0 kB1 kB2
      have hxS := r3_set0 (e := (X : Int)) HXB.out
      have HB21 : Hid (Below w.heap.size w (w20.setCell ⟨w10.heap.size, 0, none⟩ (.int .i64 (X : Int)))) := Lib.hid (HB20.out.setCell HB10.out.size _)
      generalize w20.setCell ⟨w10.heap.size, 0, none⟩ (.int .i64 (X : Int)) = wE21 at hxS HB21 ⊢
      replace HXB := Lib.hid hxS
      clear hxS
      clear HXC
      have HSB3 := HB3S.out SB HSB.out
      have HGB3 := HB3G.out GB HGB.out
      refine wp_region_held_drew (S := fun w' => R3 w10.heap.size w' (X : Int) SB GB) (by kernel_rfl) (HXB.out.below (Below.drewN' (Below.refl wE21.heap.size wE21) 1)) (fun hHeld => ?_)
      refine wpAnyH_take (i := 0) (v := ?_) (by rw [List.getElem?_toArray]; rfl) (by kernel_rfl) (by kernel_rfl) (by kernel_rfl) (by exact fun _ _ _ h => h) (Or.inl ⟨by rfl, ?_⟩) (by assumption) ?_
      rotate_left
      · intro w' hSw
        obtain ⟨⟨_, c0, c1, c2⟩, _⟩ := hSw
        go_simp
        try with_reducible rfl
      try simp only [Act.put, List.setIfInBounds_toArray, List.set_cons_zero, List.set_cons_succ]
      refine wpAnyH_take (i := 2) (v := ?_) (by rw [List.getElem?_toArray]; rfl) (by kernel_rfl) (by kernel_rfl) (by kernel_rfl) (by exact fun _ _ _ h => h) (Or.inl ⟨by rfl, ?_⟩) (by assumption) ?_
      rotate_left
      · intro w' hSw
        obtain ⟨⟨_, c0, c1, c2⟩, _⟩ := hSw
        go_simp
        try with_reducible rfl
      try simp only [Act.put, List.setIfInBounds_toArray, List.set_cons_zero, List.set_cons_succ]
      refine wpAnyH_take (i := 3) (v := ?_) (by rw [List.getElem?_toArray]; rfl) (by kernel_rfl) (by kernel_rfl) (by kernel_rfl) (by exact fun _ _ _ h => h) (Or.inl ⟨by rfl, ?_⟩) (by assumption) ?_
      rotate_left
      · intro w' hSw
        obtain ⟨⟨_, c0, c1, c2⟩, _⟩ := hSw
        go_simp
        try with_reducible rfl
      try simp only [Act.put, List.setIfInBounds_toArray, List.set_cons_zero, List.set_cons_succ]
      have hdr : Below wE21.heap.size wE21 wE21.drew := Below.drewN' (Below.refl wE21.heap.size wE21) 1
      clear hHeld
      generalize wE21.drew = wd22 at hdr ⊢
      have HB22 := Lib.hid (Bel.call HB21.out hdr)
      replace HXB := Lib.hid (HXB.out.below hdr)
      clear hdr
      refine wpAnyH_ready (rs := [1]) (by kernel_rfl) (by simp) ?_
      refine AllReadyH.cons (by rw [List.getElem?_toArray]; rfl) (fun K hK => ?_) AllReadyH.nil
      go_simp
      go_at_call 18
      with_reducible refine (HVF.out _).mono ?_
      rintro e w23 ⟨⟨AW3, cW3, vsW3, hvs, hvn, hvc, hvr, hvz, rfl⟩, hb23⟩
      have HB23 := Lib.hid (Bel.call HB22.out hb23)
      replace HXB := Lib.hid (HXB.out.below hb23)
      clear hb23
      have HSW3 := Lib.hid hvs
      have HNW3 := Lib.hid hvn
      have HRW3 := Lib.hid hvr
      have HCW3 := Lib.hid hvc
      clear hvs hvn hvc hvr hvz
      dsimp only
      refine hK.out _ _ HXB.out (fun hHeld => ?_)
      try simp only [Act.put, List.setIfInBounds_toArray, List.set_cons_zero, List.set_cons_succ]
      clear hHeld
      refine wpAnyH_ready (rs := [4]) (by kernel_rfl) (by simp) ?_
      refine AllReadyH.cons (by rw [List.getElem?_toArray]; rfl) (fun K hK => ?_) AllReadyH.nil
      go_simp
      go_at_call 17
      with_reducible refine (HO3.out SB GB L _ _ _ _ HSB3.out HGB3.out HL.out HSW3.out HRW3.out).mono ?_
      rintro e w24 ⟨⟨C3, hC3, rfl⟩, hb24⟩
      have HB24 := Lib.hid (Bel.call HB23.out hb24)
      replace HXB := Lib.hid (HXB.out.below hb24)
      replace HRW3 := Lib.hid (HRW3.out.below hb24 (Nat.le_refl _))
      clear hb24
      try dsimp only at hC3
      have HC3 := Lib.hid hC3
      clear hC3
      dsimp only
      refine hK.out _ _ HXB.out (fun hHeld => ?_)
      try simp only [Act.put, List.setIfInBounds_toArray, List.set_cons_zero, List.set_cons_succ]
      refine wpAnyH_take (i := 5) (v := ?_) (by rw [List.getElem?_toArray]; rfl) (by kernel_rfl) (by kernel_rfl) (by kernel_rfl) (by exact fun _ _ _ h => h) (Or.inl ⟨by rfl, ?_⟩) (by assumption) ?_
      rotate_left
      · intro w' hSw
        obtain ⟨⟨_, c0, c1, c2⟩, _⟩ := hSw
        go_simp
        try with_reducible rfl
      try simp only [Act.put, List.setIfInBounds_toArray, List.set_cons_zero, List.set_cons_succ]
      refine wpAnyH_take (i := 6) (v := ?_) (by rw [List.getElem?_toArray]; rfl) (by kernel_rfl) (by kernel_rfl) (by kernel_rfl) (by exact fun _ _ _ h => h) (Or.inl ⟨by rfl, ?_⟩) (by assumption) ?_
      rotate_left
      · intro w' hSw
        obtain ⟨⟨_, c0, c1, c2⟩, _⟩ := hSw
        go_simp
        try with_reducible rfl
      try simp only [Act.put, List.setIfInBounds_toArray, List.set_cons_zero, List.set_cons_succ]
      refine wpAnyH_take (i := 7) (v := ?_) (by rw [List.getElem?_toArray]; rfl) (by kernel_rfl) (by kernel_rfl) (by kernel_rfl) (by exact fun _ _ _ h => h) (Or.inl ⟨by rfl, ?_⟩) (by assumption) ?_
      rotate_left
      · intro w' hSw
        obtain ⟨⟨_, c0, c1, c2⟩, _⟩ := hSw
        go_simp
        try with_reducible rfl
      try simp only [Act.put, List.setIfInBounds_toArray, List.set_cons_zero, List.set_cons_succ]
      refine wpAnyH_take (i := 8) (v := ?_) (by rw [List.getElem?_toArray]; rfl) (by kernel_rfl) (by kernel_rfl) (by kernel_rfl) (by exact fun _ _ _ h => h) (Or.inl ⟨by rfl, ?_⟩) (by assumption) ?_
      rotate_left
      · intro w' hSw
        obtain ⟨⟨_, c0, c1, c2⟩, _⟩ := hSw
        go_simp
        try with_reducible rfl
      try simp only [Act.put, List.setIfInBounds_toArray, List.set_cons_zero, List.set_cons_succ]
      refine wpAnyH_take (i := 9) (v := ?_) (by rw [List.getElem?_toArray]; rfl) (by kernel_rfl) (by kernel_rfl) (by kernel_rfl) (by exact fun _ _ _ h => h) (Or.inl ⟨by rfl, ?_⟩) (by assumption) ?_
      rotate_left
      · intro w' hSw
        obtain ⟨⟨_, c0, c1, c2⟩, _⟩ := hSw
        go_simp
        try with_reducible rfl
      try simp only [Act.put, List.setIfInBounds_toArray, List.set_cons_zero, List.set_cons_succ]
      refine wpAnyH_done (by kernel_rfl) ?_ _
      clear hHeld HRW3
      obtain rfl : C1 = ⟨#[104, 105]⟩ := str_eq HC1.out
      obtain rfl : C2 = ⟨#[104, 105]⟩ := str_eq HC2.out
      obtain rfl : C3 = ⟨#[104, 105]⟩ := str_eq HC3.out
      go_wp2
      go_ret
      exact ⟨rfl, HB24.out⟩
    · have HO1 : Hid (∀ (S G T : ByteArray) (A : Option Addr) (c : Nat) (vs : List ByteArray) (w : World), S.data.toList = (bOf N X X (P : ByteArray).data.toList (⟨#[104, 105]⟩ : ByteArray).data.toList).sl → G.data.toList = (bOf N X X (P : ByteArray).data.toList (⟨#[104, 105]⟩ : ByteArray).data.toList).sg → T.data.toList = hs (7 - 7) (rootS N) → bl vs = sgps 8 → SReads w A vs → Calls Try.prog 17 #[.agg #[.int .i64 (X : Int), .string S, .string G], .slice A vs.length c, .string T, .int .i64 7, .string P] w fun e w' => Sr ([104, 105], 0) e ∧ Below w.heap.size w w') := Lib.hid fun S G T A c vs w hS hG hT hv hr => by
        have hbr : BR (bOf N X X (P : ByteArray).data.toList (⟨#[104, 105]⟩ : ByteArray).data.toList) := bOf_right hn (by omega) (by omega) hpp.1 (by decide)
        have hvl : vs.length ≤ 40 := by
          have := congrArg List.length hv
          simp only [bl_len', sgps_len, List.length_map, List.length_range, List.length_tail] at this
          omega
        exact open_to (b := bOf N X X (P : ByteArray).data.toList (⟨#[104, 105]⟩ : ByteArray).data.toList) (L := sgps 8) (q := (P : ByteArray).data.toList) (by
          show openB (bOf N X X (P : ByteArray).data.toList (⟨#[104, 105]⟩ : ByteArray).data.toList) (sgps 8) (hs (7 - 7) (rootS N)) ((7 : Nat) : Int) P.data.toList = _
          rw [open_is hn (by omega) (by omega) hpp.1 (by decide) (by omega) (j := X) (by omega) (sgps_len _) (by omega) (sgps_get (by omega)), if_pos ⟨rfl, rfl⟩]) rfl hS hG hv rfl hT rfl (seal_size hbr hS) (sig_size hbr hG) (by rw [Lib.size_eq, hT]; exact stl _ (by omega)) (by omega) (by omega) (sgps_sizes hv (by omega)) (by omega) w hr
      have HO2 : Hid (∀ (S G T : ByteArray) (A : Option Addr) (c : Nat) (vs : List ByteArray) (w : World), S.data.toList = (bOf N X Y (P : ByteArray).data.toList (⟨#[104, 105]⟩ : ByteArray).data.toList).sl → G.data.toList = (bOf N X Y (P : ByteArray).data.toList (⟨#[104, 105]⟩ : ByteArray).data.toList).sg → T.data.toList = hs (7 - 7) (rootS N) → bl vs = sgps 8 → SReads w A vs → Calls Try.prog 17 #[.agg #[.int .i64 (X : Int), .string S, .string G], .slice A vs.length c, .string T, .int .i64 7, .string P] w fun e w' => Sr ([], 7) e ∧ Below w.heap.size w w') := Lib.hid fun S G T A c vs w hS hG hT hv hr => by
        have hbr : BR (bOf N X Y (P : ByteArray).data.toList (⟨#[104, 105]⟩ : ByteArray).data.toList) := bOf_right hn (by omega) (by omega) hpp.1 (by decide)
        have hvl : vs.length ≤ 40 := by
          have := congrArg List.length hv
          simp only [bl_len', sgps_len, List.length_map, List.length_range, List.length_tail] at this
          omega
        exact open_to (b := bOf N X Y (P : ByteArray).data.toList (⟨#[104, 105]⟩ : ByteArray).data.toList) (L := sgps 8) (q := (P : ByteArray).data.toList) (by
          show openB (bOf N X Y (P : ByteArray).data.toList (⟨#[104, 105]⟩ : ByteArray).data.toList) (sgps 8) (hs (7 - 7) (rootS N)) ((7 : Nat) : Int) P.data.toList = _
          rw [open_is hn (by omega) (by omega) hpp.1 (by decide) (by omega) (j := X) (by omega) (sgps_len _) (by omega) (sgps_get (by omega)), if_neg (fun h => hXY h.1.symm)]) rfl hS hG hv rfl hT rfl (seal_size hbr hS) (sig_size hbr hG) (by rw [Lib.size_eq, hT]; exact stl _ (by omega)) (by omega) (by omega) (sgps_sizes hv (by omega)) (by omega) w hr
      have HO3 : Hid (∀ (S G T : ByteArray) (A : Option Addr) (c : Nat) (vs : List ByteArray) (w : World), S.data.toList = ((⟨(Y : Int), (bOf N X X (P : ByteArray).data.toList (⟨#[104, 105]⟩ : ByteArray).data.toList).sl, (bOf N X X (P : ByteArray).data.toList (⟨#[104, 105]⟩ : ByteArray).data.toList).sg⟩ : Bb)).sl → G.data.toList = ((⟨(Y : Int), (bOf N X X (P : ByteArray).data.toList (⟨#[104, 105]⟩ : ByteArray).data.toList).sl, (bOf N X X (P : ByteArray).data.toList (⟨#[104, 105]⟩ : ByteArray).data.toList).sg⟩ : Bb)).sg → T.data.toList = hs (7 - 7) (rootS N) → bl vs = sgps 8 → SReads w A vs → Calls Try.prog 17 #[.agg #[.int .i64 (Y : Int), .string S, .string G], .slice A vs.length c, .string T, .int .i64 7, .string P] w fun e w' => Sr ([], 7) e ∧ Below w.heap.size w w') := Lib.hid fun S G T A c vs w hS hG hT hv hr => by
        have hbr : BR ((⟨(Y : Int), (bOf N X X (P : ByteArray).data.toList (⟨#[104, 105]⟩ : ByteArray).data.toList).sl, (bOf N X X (P : ByteArray).data.toList (⟨#[104, 105]⟩ : ByteArray).data.toList).sg⟩ : Bb)) := ⟨by constructor <;> (show _ ≤ _; simp only; omega), (bOf_right (i := X) hn (show X ≤ 7 by omega) (by omega) hpp.1 (by decide)).2⟩
        have hvl : vs.length ≤ 40 := by
          have := congrArg List.length hv
          simp only [bl_len', sgps_len, List.length_map, List.length_range, List.length_tail] at this
          omega
        exact open_to (b := (⟨(Y : Int), (bOf N X X (P : ByteArray).data.toList (⟨#[104, 105]⟩ : ByteArray).data.toList).sl, (bOf N X X (P : ByteArray).data.toList (⟨#[104, 105]⟩ : ByteArray).data.toList).sg⟩ : Bb)) (L := sgps 8) (q := (P : ByteArray).data.toList) (by
          show openB ⟨(Y : Int), sealT N X P.data.toList hiB.data.toList, sigT X X (sealT N X P.data.toList hiB.data.toList)⟩ (sgps 8) (hs (7 - 7) (rootS N)) ((7 : Nat) : Int) P.data.toList = _
          exact open_moved hn (by omega) (by omega) hpp.1 (by decide) (by omega) (z := Y) (j := Y) (by omega) (by omega) (sgps_len _) (by omega) (by omega) (sgps_get (by omega)) (st_right hn (by omega)) _) rfl hS hG hv rfl hT rfl (seal_size hbr hS) (sig_size hbr hG) (by rw [Lib.size_eq, hT]; exact stl _ (by omega)) (by omega) (by omega) (sgps_sizes hv (by omega)) (by omega) w hr
      have HB3S : Hid (∀ S : ByteArray, S.data.toList = (bOf N X X (P : ByteArray).data.toList (⟨#[104, 105]⟩ : ByteArray).data.toList).sl → Hid (S.data.toList = ((⟨(Y : Int), (bOf N X X (P : ByteArray).data.toList (⟨#[104, 105]⟩ : ByteArray).data.toList).sl, (bOf N X X (P : ByteArray).data.toList (⟨#[104, 105]⟩ : ByteArray).data.toList).sg⟩ : Bb)).sl)) := Lib.hid fun S h => Lib.hid h
      have HB3G : Hid (∀ S : ByteArray, S.data.toList = (bOf N X X (P : ByteArray).data.toList (⟨#[104, 105]⟩ : ByteArray).data.toList).sg → Hid (S.data.toList = ((⟨(Y : Int), (bOf N X X (P : ByteArray).data.toList (⟨#[104, 105]⟩ : ByteArray).data.toList).sl, (bOf N X X (P : ByteArray).data.toList (⟨#[104, 105]⟩ : ByteArray).data.toList).sg⟩ : Bb)).sg)) := Lib.hid fun S h => Lib.hid h
      have hxyb : ((X : Int) == (Y : Int)) = false := by rw [beq_eq_false_iff_ne]; omega
      go_enter Try.func6, Try.ntmps6
      go_wp2_with fail
      with_reducible refine (HSH.out _).mono ?_
      rintro e w1 ⟨rfl, hb1⟩
      have HB1 := Lib.hid hb1
      clear hb1
      dsimp only
      go_wp2_with fail
      with_reducible refine (HPA.out _).mono ?_
      rintro e v1 ⟨rfl, hv1⟩
      obtain rfl : w1 = v1 := hv1.symm
      dsimp only
      go_wp2_with fail
      with_reducible refine (HPB.out _).mono ?_
      rintro e v2 ⟨rfl, hv2⟩
      obtain rfl : w1 = v2 := hv2.symm
      dsimp only
      go_wp2_with fail
      have hbS : Below w1.heap.size w1 (w1.alloc (.cells #[.string ⟨#[97, 110, 110, 97]⟩, .string ⟨#[98, 101, 110]⟩, .string ⟨#[97]⟩, .string ⟨#[98]⟩, .string ⟨#[110, 111, 116, 101, 115]⟩, .string ⟨#[97, 110, 110, 97, 45, 110, 111, 116, 101, 115]⟩, .string ⟨#[110, 111]⟩, .string ⟨#[116, 101, 115]⟩] 9)) := (Below.refl w1.heap.size w1).alloc (Nat.le_refl _) _
      have hxS := nm_new w1
      generalize w1.alloc (.cells #[.string ⟨#[97, 110, 110, 97]⟩, .string ⟨#[98, 101, 110]⟩, .string ⟨#[97]⟩, .string ⟨#[98]⟩, .string ⟨#[110, 111, 116, 101, 115]⟩, .string ⟨#[97, 110, 110, 97, 45, 110, 111, 116, 101, 115]⟩, .string ⟨#[110, 111]⟩, .string ⟨#[116, 101, 115]⟩] 9) = wN at hbS hxS ⊢
      have HB2 := Lib.hid (Bel.call HB1.out hbS)
      have HNM := Lib.hid hxS
      clear hbS hxS
      refine Ord.region_lit (S := fun w' => Nm w1.heap.size w' ∧ Below w.heap.size w w') (by kernel_rfl) (by kernel_rfl) ⟨HNM.out.below (Below.drewN' (Below.refl wN.heap.size wN) 1), Bel.call HB2.out (Below.drewN' (Below.refl wN.heap.size wN) 1)⟩ ?_
      refine Ord.stepR (v := ?_) (by rfl) ?_ ?_
      rotate_left
      · intro w' hSw
        have hk1 := hSw.1.2 I1 hI1
        have hk2 := hSw.1.2 I2 hI2
        rw [hA1] at hk1
        rw [hA2] at hk2
        go_simp
        try with_reducible rfl
      try simp only [Act.put, List.setIfInBounds_toArray, List.set_cons_zero, List.set_cons_succ]
      refine Ord.stepR (v := ?_) (by rfl) ?_ ?_
      rotate_left
      · intro w' hSw
        have hk1 := hSw.1.2 I1 hI1
        have hk2 := hSw.1.2 I2 hI2
        rw [hA1] at hk1
        rw [hA2] at hk2
        go_simp
        try with_reducible rfl
      try simp only [Act.put, List.setIfInBounds_toArray, List.set_cons_zero, List.set_cons_succ]
      refine Ord.stepC (v := .int .i64 (I1 : Int)) (by rfl) ?_ (fun w1 hS => (HP1.out w1).mono fun e w2 h => ⟨h.1, by rw [h.2]; exact hS⟩) ?_
      · intro w' hSw
        go_simp
        try with_reducible rfl
      try simp only [Act.put, List.setIfInBounds_toArray, List.set_cons_zero, List.set_cons_succ]
      refine Ord.stepR (v := ?_) (by rfl) ?_ ?_
      rotate_left
      · intro w' hSw
        have hk1 := hSw.1.2 I1 hI1
        have hk2 := hSw.1.2 I2 hI2
        rw [hA1] at hk1
        rw [hA2] at hk2
        go_simp
        try with_reducible rfl
      try simp only [Act.put, List.setIfInBounds_toArray, List.set_cons_zero, List.set_cons_succ]
      refine Ord.stepR (v := ?_) (by rfl) ?_ ?_
      rotate_left
      · intro w' hSw
        have hk1 := hSw.1.2 I1 hI1
        have hk2 := hSw.1.2 I2 hI2
        rw [hA1] at hk1
        rw [hA2] at hk2
        go_simp
        try with_reducible rfl
      try simp only [Act.put, List.setIfInBounds_toArray, List.set_cons_zero, List.set_cons_succ]
      refine Ord.stepR (v := ?_) (by rfl) ?_ ?_
      rotate_left
      · intro w' hSw
        have hk1 := hSw.1.2 I1 hI1
        have hk2 := hSw.1.2 I2 hI2
        rw [hA1] at hk1
        rw [hA2] at hk2
        go_simp
        try with_reducible rfl
      try simp only [Act.put, List.setIfInBounds_toArray, List.set_cons_zero, List.set_cons_succ]
      refine Ord.stepR (v := ?_) (by rfl) ?_ ?_
      rotate_left
      · intro w' hSw
        have hk1 := hSw.1.2 I1 hI1
        have hk2 := hSw.1.2 I2 hI2
        rw [hA1] at hk1
        rw [hA2] at hk2
        go_simp
        try with_reducible rfl
      try simp only [Act.put, List.setIfInBounds_toArray, List.set_cons_zero, List.set_cons_succ]
      refine Ord.stepR (v := ?_) (by rfl) ?_ ?_
      rotate_left
      · intro w' hSw
        have hk1 := hSw.1.2 I1 hI1
        have hk2 := hSw.1.2 I2 hI2
        rw [hA1] at hk1
        rw [hA2] at hk2
        go_simp
        try with_reducible rfl
      try simp only [Act.put, List.setIfInBounds_toArray, List.set_cons_zero, List.set_cons_succ]
      refine Ord.stepR (v := ?_) (by rfl) ?_ ?_
      rotate_left
      · intro w' hSw
        have hk1 := hSw.1.2 I1 hI1
        have hk2 := hSw.1.2 I2 hI2
        rw [hA1] at hk1
        rw [hA2] at hk2
        go_simp
        try with_reducible rfl
      try simp only [Act.put, List.setIfInBounds_toArray, List.set_cons_zero, List.set_cons_succ]
      refine Ord.stepC (v := .int .i64 (I2 : Int)) (by rfl) ?_ (fun w1 hS => (HP2.out w1).mono fun e w2 h => ⟨h.1, by rw [h.2]; exact hS⟩) ?_
      · intro w' hSw
        go_simp
        try with_reducible rfl
      try simp only [Act.put, List.setIfInBounds_toArray, List.set_cons_zero, List.set_cons_succ]
      refine Ord.stepR (v := ?_) (by rfl) ?_ ?_
      rotate_left
      · intro w' hSw
        have hk1 := hSw.1.2 I1 hI1
        have hk2 := hSw.1.2 I2 hI2
        rw [hA1] at hk1
        rw [hA2] at hk2
        go_simp
        try with_reducible rfl
      try simp only [Act.put, List.setIfInBounds_toArray, List.set_cons_zero, List.set_cons_succ]
      refine Ord.stepR (v := ?_) (by rfl) ?_ ?_
      rotate_left
      · intro w' hSw
        have hk1 := hSw.1.2 I1 hI1
        have hk2 := hSw.1.2 I2 hI2
        rw [hA1] at hk1
        rw [hA2] at hk2
        go_simp
        try with_reducible rfl
      try simp only [Act.put, List.setIfInBounds_toArray, List.set_cons_zero, List.set_cons_succ]
      refine Ord.stepR (v := ?_) (by rfl) ?_ ?_
      rotate_left
      · intro w' hSw
        have hk1 := hSw.1.2 I1 hI1
        have hk2 := hSw.1.2 I2 hI2
        rw [hA1] at hk1
        rw [hA2] at hk2
        go_simp
        try with_reducible rfl
      try simp only [Act.put, List.setIfInBounds_toArray, List.set_cons_zero, List.set_cons_succ]
      refine Ord.stepR (v := ?_) (by rfl) ?_ ?_
      rotate_left
      · intro w' hSw
        have hk1 := hSw.1.2 I1 hI1
        have hk2 := hSw.1.2 I2 hI2
        rw [hA1] at hk1
        rw [hA2] at hk2
        go_simp
        try with_reducible rfl
      try simp only [Act.put, List.setIfInBounds_toArray, List.set_cons_zero, List.set_cons_succ]
      refine Ord.stepD ?_
      rintro w10 hS9
      have HNM := Lib.hid hS9.1
      have HB3 := Lib.hid hS9.2
      clear hS9
      go_wp2_with fail
      refine Ord.region_lit (S := fun w' => Nm w1.heap.size w' ∧ Below w.heap.size w w') (by kernel_rfl) (by kernel_rfl) ⟨HNM.out.below (Below.drewN' (Below.refl w10.heap.size w10) 1), Bel.call HB3.out (Below.drewN' (Below.refl w10.heap.size w10) 1)⟩ ?_
      refine Ord.stepR (v := ?_) (by rfl) ?_ ?_
      rotate_left
      · intro w' hSw
        have hk1 := hSw.1.2 I3 hI3
        have hk2 := hSw.1.2 I4 hI4
        rw [hA3] at hk1
        rw [hA4] at hk2
        go_simp
        try with_reducible rfl
      try simp only [Act.put, List.setIfInBounds_toArray, List.set_cons_zero, List.set_cons_succ]
      refine Ord.stepR (v := ?_) (by rfl) ?_ ?_
      rotate_left
      · intro w' hSw
        have hk1 := hSw.1.2 I3 hI3
        have hk2 := hSw.1.2 I4 hI4
        rw [hA3] at hk1
        rw [hA4] at hk2
        go_simp
        try with_reducible rfl
      try simp only [Act.put, List.setIfInBounds_toArray, List.set_cons_zero, List.set_cons_succ]
      refine Ord.stepC (v := .int .i64 (I3 : Int)) (by rfl) ?_ (fun w1 hS => (HP3.out w1).mono fun e w2 h => ⟨h.1, by rw [h.2]; exact hS⟩) ?_
      · intro w' hSw
        go_simp
        try with_reducible rfl
      try simp only [Act.put, List.setIfInBounds_toArray, List.set_cons_zero, List.set_cons_succ]
      refine Ord.stepR (v := ?_) (by rfl) ?_ ?_
      rotate_left
      · intro w' hSw
        have hk1 := hSw.1.2 I3 hI3
        have hk2 := hSw.1.2 I4 hI4
        rw [hA3] at hk1
        rw [hA4] at hk2
        go_simp
        try with_reducible rfl
      try simp only [Act.put, List.setIfInBounds_toArray, List.set_cons_zero, List.set_cons_succ]
      refine Ord.stepR (v := ?_) (by rfl) ?_ ?_
      rotate_left
      · intro w' hSw
        have hk1 := hSw.1.2 I3 hI3
        have hk2 := hSw.1.2 I4 hI4
        rw [hA3] at hk1
        rw [hA4] at hk2
        go_simp
        try with_reducible rfl
      try simp only [Act.put, List.setIfInBounds_toArray, List.set_cons_zero, List.set_cons_succ]
      refine Ord.stepR (v := ?_) (by rfl) ?_ ?_
      rotate_left
      · intro w' hSw
        have hk1 := hSw.1.2 I3 hI3
        have hk2 := hSw.1.2 I4 hI4
        rw [hA3] at hk1
        rw [hA4] at hk2
        go_simp
        try with_reducible rfl
      try simp only [Act.put, List.setIfInBounds_toArray, List.set_cons_zero, List.set_cons_succ]
      refine Ord.stepR (v := ?_) (by rfl) ?_ ?_
      rotate_left
      · intro w' hSw
        have hk1 := hSw.1.2 I3 hI3
        have hk2 := hSw.1.2 I4 hI4
        rw [hA3] at hk1
        rw [hA4] at hk2
        go_simp
        try with_reducible rfl
      try simp only [Act.put, List.setIfInBounds_toArray, List.set_cons_zero, List.set_cons_succ]
      refine Ord.stepR (v := ?_) (by rfl) ?_ ?_
      rotate_left
      · intro w' hSw
        have hk1 := hSw.1.2 I3 hI3
        have hk2 := hSw.1.2 I4 hI4
        rw [hA3] at hk1
        rw [hA4] at hk2
        go_simp
        try with_reducible rfl
      try simp only [Act.put, List.setIfInBounds_toArray, List.set_cons_zero, List.set_cons_succ]
      refine Ord.stepR (v := ?_) (by rfl) ?_ ?_
      rotate_left
      · intro w' hSw
        have hk1 := hSw.1.2 I3 hI3
        have hk2 := hSw.1.2 I4 hI4
        rw [hA3] at hk1
        rw [hA4] at hk2
        go_simp
        try with_reducible rfl
      try simp only [Act.put, List.setIfInBounds_toArray, List.set_cons_zero, List.set_cons_succ]
      refine Ord.stepC (v := .int .i64 (I4 : Int)) (by rfl) ?_ (fun w1 hS => (HP4.out w1).mono fun e w2 h => ⟨h.1, by rw [h.2]; exact hS⟩) ?_
      · intro w' hSw
        go_simp
        try with_reducible rfl
      try simp only [Act.put, List.setIfInBounds_toArray, List.set_cons_zero, List.set_cons_succ]
      refine Ord.stepR (v := ?_) (by rfl) ?_ ?_
      rotate_left
      · intro w' hSw
        have hk1 := hSw.1.2 I3 hI3
        have hk2 := hSw.1.2 I4 hI4
        rw [hA3] at hk1
        rw [hA4] at hk2
        go_simp
        try with_reducible rfl
      try simp only [Act.put, List.setIfInBounds_toArray, List.set_cons_zero, List.set_cons_succ]
      refine Ord.stepR (v := ?_) (by rfl) ?_ ?_
      rotate_left
      · intro w' hSw
        have hk1 := hSw.1.2 I3 hI3
        have hk2 := hSw.1.2 I4 hI4
        rw [hA3] at hk1
        rw [hA4] at hk2
        go_simp
        try with_reducible rfl
      try simp only [Act.put, List.setIfInBounds_toArray, List.set_cons_zero, List.set_cons_succ]
      refine Ord.stepR (v := ?_) (by rfl) ?_ ?_
      rotate_left
      · intro w' hSw
        have hk1 := hSw.1.2 I3 hI3
        have hk2 := hSw.1.2 I4 hI4
        rw [hA3] at hk1
        rw [hA4] at hk2
        go_simp
        try with_reducible rfl
      try simp only [Act.put, List.setIfInBounds_toArray, List.set_cons_zero, List.set_cons_succ]
      refine Ord.stepR (v := ?_) (by rfl) ?_ ?_
      rotate_left
      · intro w' hSw
        have hk1 := hSw.1.2 I3 hI3
        have hk2 := hSw.1.2 I4 hI4
        rw [hA3] at hk1
        rw [hA4] at hk2
        go_simp
        try with_reducible rfl
      try simp only [Act.put, List.setIfInBounds_toArray, List.set_cons_zero, List.set_cons_succ]
      refine Ord.stepD ?_
      rintro w30 hS9
      have HNM := Lib.hid hS9.1
      have HB4 := Lib.hid hS9.2
      clear hS9
      clear HNM
      go_wp2_with fail
      with_reducible refine (HRT.out _).mono ?_
      rintro e w5 ⟨⟨R, hR, rfl⟩, hb5⟩
      have HB5 := Lib.hid (Bel.call HB4.out hb5)
      clear hb5
      try dsimp only at hR
      have HR := Lib.hid hR
      clear hR
      dsimp only
      go_wp2_with fail
      with_reducible refine (HST.out R _ HR.out).mono ?_
      rintro e w6 ⟨⟨S, hS, rfl⟩, hb6⟩
      have HB6 := Lib.hid (Bel.call HB5.out hb6)
      clear hb6
      try dsimp only at hS
      have HS := Lib.hid hS
      clear hS
      dsimp only
      go_wp2_with fail
      with_reducible refine (HRT.out _).mono ?_
      rintro e w7 ⟨⟨V, hV, rfl⟩, hb7⟩
      have HB7 := Lib.hid (Bel.call HB6.out hb7)
      clear hb7
      try dsimp only at hV
      have HV := Lib.hid hV
      clear hV
      dsimp only
      go_wp2_with fail
      with_reducible refine (HSL.out V _ HV.out).mono ?_
      rintro e w8 ⟨⟨L, hL, rfl⟩, hb8⟩
      have HB8 := Lib.hid (Bel.call HB7.out hb8)
      clear hb8
      try dsimp only at hL
      have HL := Lib.hid hL
      clear hL
      dsimp only
      go_wp2_with fail
      with_reducible refine (HSG.out _).mono ?_
      rintro e w9 ⟨⟨G, hG, rfl⟩, hb9⟩
      have HB9 := Lib.hid (Bel.call HB8.out hb9)
      clear hb9
      try dsimp only at hG
      have HG := Lib.hid hG
      clear hG
      dsimp only
      go_wp2_with fail
      with_reducible refine (HBB.out S G _ HS.out HG.out).mono ?_
      rintro e w10 ⟨hx, hb10⟩
      have HB10 := Lib.hid (Bel.call HB9.out hb10)
      clear hb10
      obtain ⟨SB, GB, hSB, hGB, rfl⟩ := bs_bOf hx
      have HSB := Lib.hid hSB
      have HGB := Lib.hid hGB
      clear hx hSB hGB
      dsimp only
      go_wp2_with fail
      have hbS : Below w10.heap.size w10 (w10.alloc (.cells #[.int .i64 (X : Int), .string SB, .string GB] 29)) := (Below.refl w10.heap.size w10).alloc (Nat.le_refl _) _
      have hxS := r3_new w10 ((X : Int)) SB GB 29
      generalize w10.alloc (.cells #[.int .i64 (X : Int), .string SB, .string GB] 29) = wSB at hbS hxS ⊢
      have HB11 := Lib.hid (Bel.call HB10.out hbS)
      have HXB := Lib.hid hxS
      clear hbS hxS
      with_reducible refine (HSY.out _).mono ?_
      rintro e w12 ⟨⟨H, hH, rfl⟩, hb12⟩
      have HB12 := Lib.hid (Bel.call HB11.out hb12)
      replace HXB := Lib.hid (HXB.out.below hb12)
      clear hb12
      try dsimp only at hH
      have HH := Lib.hid hH
      clear hH
      dsimp only
      go_wp2_with fail
      with_reducible refine (HBC.out S H _ HS.out HH.out).mono ?_
      rintro e w13 ⟨hx, hb13⟩
      have HB13 := Lib.hid (Bel.call HB12.out hb13)
      replace HXB := Lib.hid (HXB.out.below hb13)
      clear hb13
      obtain ⟨SC, GC, hSC, hGC, rfl⟩ := bs_bOf hx
      have HSC := Lib.hid hSC
      have HGC := Lib.hid hGC
      clear hx hSC hGC
      dsimp only
      go_wp2_with fail
      have hbS : Below w13.heap.size w13 (w13.alloc (.cells #[.int .i64 (X : Int), .string SC, .string GC] 29)) := (Below.refl w13.heap.size w13).alloc (Nat.le_refl _) _
      have hxS := r3_new w13 ((X : Int)) SC GC 29
      generalize w13.alloc (.cells #[.int .i64 (X : Int), .string SC, .string GC] 29) = wSC at hbS hxS ⊢
      have HB14 := Lib.hid (Bel.call HB13.out hbS)
      replace HXB := Lib.hid (HXB.out.below hbS)
      have HXC := Lib.hid hxS
      clear hbS hxS
      refine wp_region_held_drew (S := fun w' => R3 w10.heap.size w' (X : Int) SB GB) (by kernel_rfl) (HXB.out.below (Below.drewN' (Below.refl wSC.heap.size wSC) 1)) (fun hHeld => ?_)
      refine wpAnyH_take (i := 0) (v := ?_) (by rw [List.getElem?_toArray]; rfl) (by kernel_rfl) (by kernel_rfl) (by kernel_rfl) (by exact fun _ _ _ h => h) (Or.inl ⟨by rfl, ?_⟩) (by assumption) ?_
      rotate_left
      · intro w' hSw
        obtain ⟨⟨_, c0, c1, c2⟩, _⟩ := hSw
        go_simp
        try with_reducible rfl
      try simp only [Act.put, List.setIfInBounds_toArray, List.set_cons_zero, List.set_cons_succ]
      refine wpAnyH_take (i := 2) (v := ?_) (by rw [List.getElem?_toArray]; rfl) (by kernel_rfl) (by kernel_rfl) (by kernel_rfl) (by exact fun _ _ _ h => h) (Or.inl ⟨by rfl, ?_⟩) (by assumption) ?_
      rotate_left
      · intro w' hSw
        obtain ⟨⟨_, c0, c1, c2⟩, _⟩ := hSw
        go_simp
        try with_reducible rfl
      try simp only [Act.put, List.setIfInBounds_toArray, List.set_cons_zero, List.set_cons_succ]
      refine wpAnyH_take (i := 3) (v := ?_) (by rw [List.getElem?_toArray]; rfl) (by kernel_rfl) (by kernel_rfl) (by kernel_rfl) (by exact fun _ _ _ h => h) (Or.inl ⟨by rfl, ?_⟩) (by assumption) ?_
      rotate_left
      · intro w' hSw
        obtain ⟨⟨_, c0, c1, c2⟩, _⟩ := hSw
        go_simp
        try with_reducible rfl
      try simp only [Act.put, List.setIfInBounds_toArray, List.set_cons_zero, List.set_cons_succ]
      have hdr : Below wSC.heap.size wSC wSC.drew := Below.drewN' (Below.refl wSC.heap.size wSC) 1
      clear hHeld
      generalize wSC.drew = wd15 at hdr ⊢
      have HB15 := Lib.hid (Bel.call HB14.out hdr)
      replace HXB := Lib.hid (HXB.out.below hdr)
      replace HXC := Lib.hid (HXC.out.below hdr)
      clear hdr
      refine wpAnyH_ready (rs := [1]) (by kernel_rfl) (by simp) ?_
      refine AllReadyH.cons (by rw [List.getElem?_toArray]; rfl) (fun K hK => ?_) AllReadyH.nil
      go_simp
      go_at_call 18
      with_reducible refine (HVF.out _).mono ?_
      rintro e w16 ⟨⟨AW1, cW1, vsW1, hvs, hvn, hvc, hvr, hvz, rfl⟩, hb16⟩
      have HB16 := Lib.hid (Bel.call HB15.out hb16)
      replace HXB := Lib.hid (HXB.out.below hb16)
      replace HXC := Lib.hid (HXC.out.below hb16)
      clear hb16
      have HSW1 := Lib.hid hvs
      have HNW1 := Lib.hid hvn
      have HRW1 := Lib.hid hvr
      have HCW1 := Lib.hid hvc
      clear hvs hvn hvc hvr hvz
      dsimp only
      refine hK.out _ _ HXB.out (fun hHeld => ?_)
      try simp only [Act.put, List.setIfInBounds_toArray, List.set_cons_zero, List.set_cons_succ]
      clear hHeld
      refine wpAnyH_ready (rs := [4]) (by kernel_rfl) (by simp) ?_
      refine AllReadyH.cons (by rw [List.getElem?_toArray]; rfl) (fun K hK => ?_) AllReadyH.nil
      go_simp
      go_at_call 17
      with_reducible refine (HO1.out SB GB L _ _ _ _ HSB.out HGB.out HL.out HSW1.out HRW1.out).mono ?_
      rintro e w17 ⟨⟨C1, hC1, rfl⟩, hb17⟩
      have HB17 := Lib.hid (Bel.call HB16.out hb17)
      replace HXB := Lib.hid (HXB.out.below hb17)
      replace HXC := Lib.hid (HXC.out.below hb17)
      replace HRW1 := Lib.hid (HRW1.out.below hb17 (Nat.le_refl _))
      clear hb17
      try dsimp only at hC1
      have HC1 := Lib.hid hC1
      clear hC1
      dsimp only
      refine hK.out _ _ HXB.out (fun hHeld => ?_)
      try simp only [Act.put, List.setIfInBounds_toArray, List.set_cons_zero, List.set_cons_succ]
      refine wpAnyH_take (i := 5) (v := ?_) (by rw [List.getElem?_toArray]; rfl) (by kernel_rfl) (by kernel_rfl) (by kernel_rfl) (by exact fun _ _ _ h => h) (Or.inl ⟨by rfl, ?_⟩) (by assumption) ?_
      rotate_left
      · intro w' hSw
        obtain ⟨⟨_, c0, c1, c2⟩, _⟩ := hSw
        go_simp
        try with_reducible rfl
      try simp only [Act.put, List.setIfInBounds_toArray, List.set_cons_zero, List.set_cons_succ]
      refine wpAnyH_take (i := 6) (v := ?_) (by rw [List.getElem?_toArray]; rfl) (by kernel_rfl) (by kernel_rfl) (by kernel_rfl) (by exact fun _ _ _ h => h) (Or.inl ⟨by rfl, ?_⟩) (by assumption) ?_
      rotate_left
      · intro w' hSw
        obtain ⟨⟨_, c0, c1, c2⟩, _⟩ := hSw
        go_simp
        try with_reducible rfl
      try simp only [Act.put, List.setIfInBounds_toArray, List.set_cons_zero, List.set_cons_succ]
      refine wpAnyH_take (i := 7) (v := ?_) (by rw [List.getElem?_toArray]; rfl) (by kernel_rfl) (by kernel_rfl) (by kernel_rfl) (by exact fun _ _ _ h => h) (Or.inl ⟨by rfl, ?_⟩) (by assumption) ?_
      rotate_left
      · intro w' hSw
        obtain ⟨⟨_, c0, c1, c2⟩, _⟩ := hSw
        go_simp
        try with_reducible rfl
      try simp only [Act.put, List.setIfInBounds_toArray, List.set_cons_zero, List.set_cons_succ]
      refine wpAnyH_take (i := 8) (v := ?_) (by rw [List.getElem?_toArray]; rfl) (by kernel_rfl) (by kernel_rfl) (by kernel_rfl) (by exact fun _ _ _ h => h) (Or.inl ⟨by rfl, ?_⟩) (by assumption) ?_
      rotate_left
      · intro w' hSw
        obtain ⟨⟨_, c0, c1, c2⟩, _⟩ := hSw
        go_simp
        try with_reducible rfl
      try simp only [Act.put, List.setIfInBounds_toArray, List.set_cons_zero, List.set_cons_succ]
      refine wpAnyH_take (i := 9) (v := ?_) (by rw [List.getElem?_toArray]; rfl) (by kernel_rfl) (by kernel_rfl) (by kernel_rfl) (by exact fun _ _ _ h => h) (Or.inl ⟨by rfl, ?_⟩) (by assumption) ?_
      rotate_left
      · intro w' hSw
        obtain ⟨⟨_, c0, c1, c2⟩, _⟩ := hSw
        go_simp
        try with_reducible rfl
      try simp only [Act.put, List.setIfInBounds_toArray, List.set_cons_zero, List.set_cons_succ]
      refine wpAnyH_done (by kernel_rfl) ?_ _
      clear hHeld HRW1
      go_wp2_with fail
      refine wp_region_held_drew (S := fun w' => R3 w13.heap.size w' (X : Int) SC GC) (by kernel_rfl) (HXC.out.below (Below.drewN' (Below.refl w17.heap.size w17) 1)) (fun hHeld => ?_)
      refine wpAnyH_take (i := 0) (v := ?_) (by rw [List.getElem?_toArray]; rfl) (by kernel_rfl) (by kernel_rfl) (by kernel_rfl) (by exact fun _ _ _ h => h) (Or.inl ⟨by rfl, ?_⟩) (by assumption) ?_
      rotate_left
      · intro w' hSw
        obtain ⟨⟨_, c0, c1, c2⟩, _⟩ := hSw
        go_simp
        try with_reducible rfl
      try simp only [Act.put, List.setIfInBounds_toArray, List.set_cons_zero, List.set_cons_succ]
      refine wpAnyH_take (i := 2) (v := ?_) (by rw [List.getElem?_toArray]; rfl) (by kernel_rfl) (by kernel_rfl) (by kernel_rfl) (by exact fun _ _ _ h => h) (Or.inl ⟨by rfl, ?_⟩) (by assumption) ?_
      rotate_left
      · intro w' hSw
        obtain ⟨⟨_, c0, c1, c2⟩, _⟩ := hSw
        go_simp
        try with_reducible rfl
      try simp only [Act.put, List.setIfInBounds_toArray, List.set_cons_zero, List.set_cons_succ]
      refine wpAnyH_take (i := 3) (v := ?_) (by rw [List.getElem?_toArray]; rfl) (by kernel_rfl) (by kernel_rfl) (by kernel_rfl) (by exact fun _ _ _ h => h) (Or.inl ⟨by rfl, ?_⟩) (by assumption) ?_
      rotate_left
      · intro w' hSw
        obtain ⟨⟨_, c0, c1, c2⟩, _⟩ := hSw
        go_simp
        try with_reducible rfl
      try simp only [Act.put, List.setIfInBounds_toArray, List.set_cons_zero, List.set_cons_succ]
      have hdr : Below w17.heap.size w17 w17.drew := Below.drewN' (Below.refl w17.heap.size w17) 1
      clear hHeld
      generalize w17.drew = wd18 at hdr ⊢
      have HB18 := Lib.hid (Bel.call HB17.out hdr)
      replace HXB := Lib.hid (HXB.out.below hdr)
      replace HXC := Lib.hid (HXC.out.below hdr)
      clear hdr
      refine wpAnyH_ready (rs := [1]) (by kernel_rfl) (by simp) ?_
      refine AllReadyH.cons (by rw [List.getElem?_toArray]; rfl) (fun K hK => ?_) AllReadyH.nil
      go_simp
      go_at_call 18
      with_reducible refine (HVF.out _).mono ?_
      rintro e w19 ⟨⟨AW2, cW2, vsW2, hvs, hvn, hvc, hvr, hvz, rfl⟩, hb19⟩
      have HB19 := Lib.hid (Bel.call HB18.out hb19)
      replace HXB := Lib.hid (HXB.out.below hb19)
      replace HXC := Lib.hid (HXC.out.below hb19)
      clear hb19
      have HSW2 := Lib.hid hvs
      have HNW2 := Lib.hid hvn
      have HRW2 := Lib.hid hvr
      have HCW2 := Lib.hid hvc
      clear hvs hvn hvc hvr hvz
      dsimp only
      refine hK.out _ _ HXC.out (fun hHeld => ?_)
      try simp only [Act.put, List.setIfInBounds_toArray, List.set_cons_zero, List.set_cons_succ]
      clear hHeld
      refine wpAnyH_ready (rs := [4]) (by kernel_rfl) (by simp) ?_
      refine AllReadyH.cons (by rw [List.getElem?_toArray]; rfl) (fun K hK => ?_) AllReadyH.nil
      go_simp
      go_at_call 17
      with_reducible refine (HO2.out SC GC L _ _ _ _ HSC.out HGC.out HL.out HSW2.out HRW2.out).mono ?_
      rintro e w20 ⟨⟨C2, hC2, rfl⟩, hb20⟩
      have HB20 := Lib.hid (Bel.call HB19.out hb20)
      replace HXB := Lib.hid (HXB.out.below hb20)
      replace HXC := Lib.hid (HXC.out.below hb20)
      replace HRW2 := Lib.hid (HRW2.out.below hb20 (Nat.le_refl _))
      clear hb20
      try dsimp only at hC2
      have HC2 := Lib.hid hC2
      clear hC2
      dsimp only
      refine hK.out _ _ HXC.out (fun hHeld => ?_)
      try simp only [Act.put, List.setIfInBounds_toArray, List.set_cons_zero, List.set_cons_succ]
      refine wpAnyH_take (i := 5) (v := ?_) (by rw [List.getElem?_toArray]; rfl) (by kernel_rfl) (by kernel_rfl) (by kernel_rfl) (by exact fun _ _ _ h => h) (Or.inl ⟨by rfl, ?_⟩) (by assumption) ?_
      rotate_left
      · intro w' hSw
        obtain ⟨⟨_, c0, c1, c2⟩, _⟩ := hSw
        go_simp
        try with_reducible rfl
      try simp only [Act.put, List.setIfInBounds_toArray, List.set_cons_zero, List.set_cons_succ]
      refine wpAnyH_take (i := 6) (v := ?_) (by rw [List.getElem?_toArray]; rfl) (by kernel_rfl) (by kernel_rfl) (by kernel_rfl) (by exact fun _ _ _ h => h) (Or.inl ⟨by rfl, ?_⟩) (by assumption) ?_
      rotate_left
      · intro w' hSw
        obtain ⟨⟨_, c0, c1, c2⟩, _⟩ := hSw
        go_simp
        try with_reducible rfl
      try simp only [Act.put, List.setIfInBounds_toArray, List.set_cons_zero, List.set_cons_succ]
      refine wpAnyH_take (i := 7) (v := ?_) (by rw [List.getElem?_toArray]; rfl) (by kernel_rfl) (by kernel_rfl) (by kernel_rfl) (by exact fun _ _ _ h => h) (Or.inl ⟨by rfl, ?_⟩) (by assumption) ?_
      rotate_left
      · intro w' hSw
        obtain ⟨⟨_, c0, c1, c2⟩, _⟩ := hSw
        go_simp
        try with_reducible rfl
      try simp only [Act.put, List.setIfInBounds_toArray, List.set_cons_zero, List.set_cons_succ]
      refine wpAnyH_take (i := 8) (v := ?_) (by rw [List.getElem?_toArray]; rfl) (by kernel_rfl) (by kernel_rfl) (by kernel_rfl) (by exact fun _ _ _ h => h) (Or.inl ⟨by rfl, ?_⟩) (by assumption) ?_
      rotate_left
      · intro w' hSw
        obtain ⟨⟨_, c0, c1, c2⟩, _⟩ := hSw
        go_simp
        try with_reducible rfl
      try simp only [Act.put, List.setIfInBounds_toArray, List.set_cons_zero, List.set_cons_succ]
      refine wpAnyH_take (i := 9) (v := ?_) (by rw [List.getElem?_toArray]; rfl) (by kernel_rfl) (by kernel_rfl) (by kernel_rfl) (by exact fun _ _ _ h => h) (Or.inl ⟨by rfl, ?_⟩) (by assumption) ?_
      rotate_left
      · intro w' hSw
        obtain ⟨⟨_, c0, c1, c2⟩, _⟩ := hSw
        go_simp
        try with_reducible rfl
      try simp only [Act.put, List.setIfInBounds_toArray, List.set_cons_zero, List.set_cons_succ]
      refine wpAnyH_done (by kernel_rfl) ?_ _
      clear hHeld HRW2
      obtain ⟨⟨_, dB0, dB1, dB2⟩, kB0, kB1, kB2⟩ := HXB.out
      go_wp2_with fail
      clear dB0 dB1 dB2 kB0 kB1 kB2
      have hxS := r3_set0 (e := (Y : Int)) HXB.out
      have HB21 : Hid (Below w.heap.size w (w20.setCell ⟨w10.heap.size, 0, none⟩ (.int .i64 (Y : Int)))) := Lib.hid (HB20.out.setCell HB10.out.size _)
      generalize w20.setCell ⟨w10.heap.size, 0, none⟩ (.int .i64 (Y : Int)) = wE21 at hxS HB21 ⊢
      replace HXB := Lib.hid hxS
      clear hxS
      clear HXC
      have HSB3 := HB3S.out SB HSB.out
      have HGB3 := HB3G.out GB HGB.out
      refine wp_region_held_drew (S := fun w' => R3 w10.heap.size w' (Y : Int) SB GB) (by kernel_rfl) (HXB.out.below (Below.drewN' (Below.refl wE21.heap.size wE21) 1)) (fun hHeld => ?_)
      refine wpAnyH_take (i := 0) (v := ?_) (by rw [List.getElem?_toArray]; rfl) (by kernel_rfl) (by kernel_rfl) (by kernel_rfl) (by exact fun _ _ _ h => h) (Or.inl ⟨by rfl, ?_⟩) (by assumption) ?_
      rotate_left
      · intro w' hSw
        obtain ⟨⟨_, c0, c1, c2⟩, _⟩ := hSw
        go_simp
        try with_reducible rfl
      try simp only [Act.put, List.setIfInBounds_toArray, List.set_cons_zero, List.set_cons_succ]
      refine wpAnyH_take (i := 2) (v := ?_) (by rw [List.getElem?_toArray]; rfl) (by kernel_rfl) (by kernel_rfl) (by kernel_rfl) (by exact fun _ _ _ h => h) (Or.inl ⟨by rfl, ?_⟩) (by assumption) ?_
      rotate_left
      · intro w' hSw
        obtain ⟨⟨_, c0, c1, c2⟩, _⟩ := hSw
        go_simp
        try with_reducible rfl
      try simp only [Act.put, List.setIfInBounds_toArray, List.set_cons_zero, List.set_cons_succ]
      refine wpAnyH_take (i := 3) (v := ?_) (by rw [List.getElem?_toArray]; rfl) (by kernel_rfl) (by kernel_rfl) (by kernel_rfl) (by exact fun _ _ _ h => h) (Or.inl ⟨by rfl, ?_⟩) (by assumption) ?_
      rotate_left
      · intro w' hSw
        obtain ⟨⟨_, c0, c1, c2⟩, _⟩ := hSw
        go_simp
        try with_reducible rfl
      try simp only [Act.put, List.setIfInBounds_toArray, List.set_cons_zero, List.set_cons_succ]
      have hdr : Below wE21.heap.size wE21 wE21.drew := Below.drewN' (Below.refl wE21.heap.size wE21) 1
      clear hHeld
      generalize wE21.drew = wd22 at hdr ⊢
      have HB22 := Lib.hid (Bel.call HB21.out hdr)
      replace HXB := Lib.hid (HXB.out.below hdr)
      clear hdr
      refine wpAnyH_ready (rs := [1]) (by kernel_rfl) (by simp) ?_
      refine AllReadyH.cons (by rw [List.getElem?_toArray]; rfl) (fun K hK => ?_) AllReadyH.nil
      go_simp
      go_at_call 18
      with_reducible refine (HVF.out _).mono ?_
      rintro e w23 ⟨⟨AW3, cW3, vsW3, hvs, hvn, hvc, hvr, hvz, rfl⟩, hb23⟩
      have HB23 := Lib.hid (Bel.call HB22.out hb23)
      replace HXB := Lib.hid (HXB.out.below hb23)
      clear hb23
      have HSW3 := Lib.hid hvs
      have HNW3 := Lib.hid hvn
      have HRW3 := Lib.hid hvr
      have HCW3 := Lib.hid hvc
      clear hvs hvn hvc hvr hvz
      dsimp only
      refine hK.out _ _ HXB.out (fun hHeld => ?_)
      try simp only [Act.put, List.setIfInBounds_toArray, List.set_cons_zero, List.set_cons_succ]
      clear hHeld
      refine wpAnyH_ready (rs := [4]) (by kernel_rfl) (by simp) ?_
      refine AllReadyH.cons (by rw [List.getElem?_toArray]; rfl) (fun K hK => ?_) AllReadyH.nil
      go_simp
      go_at_call 17
      with_reducible refine (HO3.out SB GB L _ _ _ _ HSB3.out HGB3.out HL.out HSW3.out HRW3.out).mono ?_
      rintro e w24 ⟨⟨C3, hC3, rfl⟩, hb24⟩
      have HB24 := Lib.hid (Bel.call HB23.out hb24)
      replace HXB := Lib.hid (HXB.out.below hb24)
      replace HRW3 := Lib.hid (HRW3.out.below hb24 (Nat.le_refl _))
      clear hb24
      try dsimp only at hC3
      have HC3 := Lib.hid hC3
      clear hC3
      dsimp only
      refine hK.out _ _ HXB.out (fun hHeld => ?_)
      try simp only [Act.put, List.setIfInBounds_toArray, List.set_cons_zero, List.set_cons_succ]
      refine wpAnyH_take (i := 5) (v := ?_) (by rw [List.getElem?_toArray]; rfl) (by kernel_rfl) (by kernel_rfl) (by kernel_rfl) (by exact fun _ _ _ h => h) (Or.inl ⟨by rfl, ?_⟩) (by assumption) ?_
      rotate_left
      · intro w' hSw
        obtain ⟨⟨_, c0, c1, c2⟩, _⟩ := hSw
        go_simp
        try with_reducible rfl
      try simp only [Act.put, List.setIfInBounds_toArray, List.set_cons_zero, List.set_cons_succ]
      refine wpAnyH_take (i := 6) (v := ?_) (by rw [List.getElem?_toArray]; rfl) (by kernel_rfl) (by kernel_rfl) (by kernel_rfl) (by exact fun _ _ _ h => h) (Or.inl ⟨by rfl, ?_⟩) (by assumption) ?_
      rotate_left
      · intro w' hSw
        obtain ⟨⟨_, c0, c1, c2⟩, _⟩ := hSw
        go_simp
        try with_reducible rfl
      try simp only [Act.put, List.setIfInBounds_toArray, List.set_cons_zero, List.set_cons_succ]
      refine wpAnyH_take (i := 7) (v := ?_) (by rw [List.getElem?_toArray]; rfl) (by kernel_rfl) (by kernel_rfl) (by kernel_rfl) (by exact fun _ _ _ h => h) (Or.inl ⟨by rfl, ?_⟩) (by assumption) ?_
      rotate_left
      · intro w' hSw
        obtain ⟨⟨_, c0, c1, c2⟩, _⟩ := hSw
        go_simp
        try with_reducible rfl
      try simp only [Act.put, List.setIfInBounds_toArray, List.set_cons_zero, List.set_cons_succ]
      refine wpAnyH_take (i := 8) (v := ?_) (by rw [List.getElem?_toArray]; rfl) (by kernel_rfl) (by kernel_rfl) (by kernel_rfl) (by exact fun _ _ _ h => h) (Or.inl ⟨by rfl, ?_⟩) (by assumption) ?_
      rotate_left
      · intro w' hSw
        obtain ⟨⟨_, c0, c1, c2⟩, _⟩ := hSw
        go_simp
        try with_reducible rfl
      try simp only [Act.put, List.setIfInBounds_toArray, List.set_cons_zero, List.set_cons_succ]
      refine wpAnyH_take (i := 9) (v := ?_) (by rw [List.getElem?_toArray]; rfl) (by kernel_rfl) (by kernel_rfl) (by kernel_rfl) (by exact fun _ _ _ h => h) (Or.inl ⟨by rfl, ?_⟩) (by assumption) ?_
      rotate_left
      · intro w' hSw
        obtain ⟨⟨_, c0, c1, c2⟩, _⟩ := hSw
        go_simp
        try with_reducible rfl
      try simp only [Act.put, List.setIfInBounds_toArray, List.set_cons_zero, List.set_cons_succ]
      refine wpAnyH_done (by kernel_rfl) ?_ _
      clear hHeld HRW3
      obtain rfl : C1 = ⟨#[104, 105]⟩ := str_eq HC1.out
      obtain rfl : C2 = ⟨#[]⟩ := str_eq HC2.out
      obtain rfl : C3 = ⟨#[]⟩ := str_eq HC3.out
      go_wp2
      go_ret
      exact ⟨rfl, HB24.out⟩
  · by_cases hXY : X = Y
    · subst hXY
      have HO1 : Hid (∀ (S G T : ByteArray) (A : Option Addr) (c : Nat) (vs : List ByteArray) (w : World), S.data.toList = (bOf N X X (P : ByteArray).data.toList (⟨#[104, 105]⟩ : ByteArray).data.toList).sl → G.data.toList = (bOf N X X (P : ByteArray).data.toList (⟨#[104, 105]⟩ : ByteArray).data.toList).sg → T.data.toList = hs (7 - 7) (rootS N) → bl vs = sgps 8 → SReads w A vs → Calls Try.prog 17 #[.agg #[.int .i64 (X : Int), .string S, .string G], .slice A vs.length c, .string T, .int .i64 7, .string Q] w fun e w' => Sr ([], 7) e ∧ Below w.heap.size w w') := Lib.hid fun S G T A c vs w hS hG hT hv hr => by
        have hbr : BR (bOf N X X (P : ByteArray).data.toList (⟨#[104, 105]⟩ : ByteArray).data.toList) := bOf_right hn (by omega) (by omega) hpp.1 (by decide)
        have hvl : vs.length ≤ 40 := by
          have := congrArg List.length hv
          simp only [bl_len', sgps_len, List.length_map, List.length_range, List.length_tail] at this
          omega
        exact open_to (b := bOf N X X (P : ByteArray).data.toList (⟨#[104, 105]⟩ : ByteArray).data.toList) (L := sgps 8) (q := (Q : ByteArray).data.toList) (by
          show openB (bOf N X X (P : ByteArray).data.toList (⟨#[104, 105]⟩ : ByteArray).data.toList) (sgps 8) (hs (7 - 7) (rootS N)) ((7 : Nat) : Int) Q.data.toList = _
          rw [open_is hn (by omega) (by omega) hpp.1 (by decide) (by omega) (j := X) (by omega) (sgps_len _) (by omega) (sgps_get (by omega)), if_neg (fun h => hPQ (str_eq h.2))]) rfl hS hG hv rfl hT rfl (seal_size hbr hS) (sig_size hbr hG) (by rw [Lib.size_eq, hT]; exact stl _ (by omega)) (by omega) (by omega) (sgps_sizes hv (by omega)) (by omega) w hr
      have HO2 : Hid (∀ (S G T : ByteArray) (A : Option Addr) (c : Nat) (vs : List ByteArray) (w : World), S.data.toList = (bOf N X X (P : ByteArray).data.toList (⟨#[104, 105]⟩ : ByteArray).data.toList).sl → G.data.toList = (bOf N X X (P : ByteArray).data.toList (⟨#[104, 105]⟩ : ByteArray).data.toList).sg → T.data.toList = hs (7 - 7) (rootS N) → bl vs = sgps 8 → SReads w A vs → Calls Try.prog 17 #[.agg #[.int .i64 (X : Int), .string S, .string G], .slice A vs.length c, .string T, .int .i64 7, .string P] w fun e w' => Sr ([104, 105], 0) e ∧ Below w.heap.size w w') := Lib.hid fun S G T A c vs w hS hG hT hv hr => by
        have hbr : BR (bOf N X X (P : ByteArray).data.toList (⟨#[104, 105]⟩ : ByteArray).data.toList) := bOf_right hn (by omega) (by omega) hpp.1 (by decide)
        have hvl : vs.length ≤ 40 := by
          have := congrArg List.length hv
          simp only [bl_len', sgps_len, List.length_map, List.length_range, List.length_tail] at this
          omega
        exact open_to (b := bOf N X X (P : ByteArray).data.toList (⟨#[104, 105]⟩ : ByteArray).data.toList) (L := sgps 8) (q := (P : ByteArray).data.toList) (by
          show openB (bOf N X X (P : ByteArray).data.toList (⟨#[104, 105]⟩ : ByteArray).data.toList) (sgps 8) (hs (7 - 7) (rootS N)) ((7 : Nat) : Int) P.data.toList = _
          rw [open_is hn (by omega) (by omega) hpp.1 (by decide) (by omega) (j := X) (by omega) (sgps_len _) (by omega) (sgps_get (by omega)), if_pos ⟨rfl, rfl⟩]) rfl hS hG hv rfl hT rfl (seal_size hbr hS) (sig_size hbr hG) (by rw [Lib.size_eq, hT]; exact stl _ (by omega)) (by omega) (by omega) (sgps_sizes hv (by omega)) (by omega) w hr
      have HO3 : Hid (∀ (S G T : ByteArray) (A : Option Addr) (c : Nat) (vs : List ByteArray) (w : World), S.data.toList = ((⟨(X : Int), (bOf N X X (P : ByteArray).data.toList (⟨#[104, 105]⟩ : ByteArray).data.toList).sl, (bOf N X X (P : ByteArray).data.toList (⟨#[104, 105]⟩ : ByteArray).data.toList).sg⟩ : Bb)).sl → G.data.toList = ((⟨(X : Int), (bOf N X X (P : ByteArray).data.toList (⟨#[104, 105]⟩ : ByteArray).data.toList).sl, (bOf N X X (P : ByteArray).data.toList (⟨#[104, 105]⟩ : ByteArray).data.toList).sg⟩ : Bb)).sg → T.data.toList = hs (7 - 7) (rootS N) → bl vs = sgps 8 → SReads w A vs → Calls Try.prog 17 #[.agg #[.int .i64 (X : Int), .string S, .string G], .slice A vs.length c, .string T, .int .i64 7, .string P] w fun e w' => Sr ([104, 105], 0) e ∧ Below w.heap.size w w') := Lib.hid fun S G T A c vs w hS hG hT hv hr => by
        have hbr : BR ((⟨(X : Int), (bOf N X X (P : ByteArray).data.toList (⟨#[104, 105]⟩ : ByteArray).data.toList).sl, (bOf N X X (P : ByteArray).data.toList (⟨#[104, 105]⟩ : ByteArray).data.toList).sg⟩ : Bb)) := ⟨by constructor <;> (show _ ≤ _; simp only; omega), (bOf_right (i := X) hn (show X ≤ 7 by omega) (by omega) hpp.1 (by decide)).2⟩
        have hvl : vs.length ≤ 40 := by
          have := congrArg List.length hv
          simp only [bl_len', sgps_len, List.length_map, List.length_range, List.length_tail] at this
          omega
        exact open_to (b := (⟨(X : Int), (bOf N X X (P : ByteArray).data.toList (⟨#[104, 105]⟩ : ByteArray).data.toList).sl, (bOf N X X (P : ByteArray).data.toList (⟨#[104, 105]⟩ : ByteArray).data.toList).sg⟩ : Bb)) (L := sgps 8) (q := (P : ByteArray).data.toList) (by
          show openB (bOf N X X (P : ByteArray).data.toList (⟨#[104, 105]⟩ : ByteArray).data.toList) (sgps 8) (hs (7 - 7) (rootS N)) ((7 : Nat) : Int) P.data.toList = _
          rw [open_is hn (by omega) (by omega) hpp.1 (by decide) (by omega) (j := X) (by omega) (sgps_len _) (by omega) (sgps_get (by omega)), if_pos ⟨rfl, rfl⟩]) rfl hS hG hv rfl hT rfl (seal_size hbr hS) (sig_size hbr hG) (by rw [Lib.size_eq, hT]; exact stl _ (by omega)) (by omega) (by omega) (sgps_sizes hv (by omega)) (by omega) w hr
      have HB3S : Hid (∀ S : ByteArray, S.data.toList = (bOf N X X (P : ByteArray).data.toList (⟨#[104, 105]⟩ : ByteArray).data.toList).sl → Hid (S.data.toList = ((⟨(X : Int), (bOf N X X (P : ByteArray).data.toList (⟨#[104, 105]⟩ : ByteArray).data.toList).sl, (bOf N X X (P : ByteArray).data.toList (⟨#[104, 105]⟩ : ByteArray).data.toList).sg⟩ : Bb)).sl)) := Lib.hid fun S h => Lib.hid h
      have HB3G : Hid (∀ S : ByteArray, S.data.toList = (bOf N X X (P : ByteArray).data.toList (⟨#[104, 105]⟩ : ByteArray).data.toList).sg → Hid (S.data.toList = ((⟨(X : Int), (bOf N X X (P : ByteArray).data.toList (⟨#[104, 105]⟩ : ByteArray).data.toList).sl, (bOf N X X (P : ByteArray).data.toList (⟨#[104, 105]⟩ : ByteArray).data.toList).sg⟩ : Bb)).sg)) := Lib.hid fun S h => Lib.hid h
      have hpqb : (P.toList == Q.toList) = false := str_ne hPQ
      go_enter Try.func6, Try.ntmps6
      go_wp2_with fail
      with_reducible refine (HSH.out _).mono ?_
      rintro e w1 ⟨rfl, hb1⟩
      have HB1 := Lib.hid hb1
      clear hb1
      dsimp only
      go_wp2_with fail
      with_reducible refine (HPA.out _).mono ?_
      rintro e v1 ⟨rfl, hv1⟩
      obtain rfl : w1 = v1 := hv1.symm
      dsimp only
      go_wp2_with fail
      with_reducible refine (HPB.out _).mono ?_
      rintro e v2 ⟨rfl, hv2⟩
      obtain rfl : w1 = v2 := hv2.symm
      dsimp only
      go_wp2_with fail
      have hbS : Below w1.heap.size w1 (w1.alloc (.cells #[.string ⟨#[97, 110, 110, 97]⟩, .string ⟨#[98, 101, 110]⟩, .string ⟨#[97]⟩, .string ⟨#[98]⟩, .string ⟨#[110, 111, 116, 101, 115]⟩, .string ⟨#[97, 110, 110, 97, 45, 110, 111, 116, 101, 115]⟩, .string ⟨#[110, 111]⟩, .string ⟨#[116, 101, 115]⟩] 9)) := (Below.refl w1.heap.size w1).alloc (Nat.le_refl _) _
      have hxS := nm_new w1
      generalize w1.alloc (.cells #[.string ⟨#[97, 110, 110, 97]⟩, .string ⟨#[98, 101, 110]⟩, .string ⟨#[97]⟩, .string ⟨#[98]⟩, .string ⟨#[110, 111, 116, 101, 115]⟩, .string ⟨#[97, 110, 110, 97, 45, 110, 111, 116, 101, 115]⟩, .string ⟨#[110, 111]⟩, .string ⟨#[116, 101, 115]⟩] 9) = wN at hbS hxS ⊢
      have HB2 := Lib.hid (Bel.call HB1.out hbS)
      have HNM := Lib.hid hxS
      clear hbS hxS
      refine Ord.region_lit (S := fun w' => Nm w1.heap.size w' ∧ Below w.heap.size w w') (by kernel_rfl) (by kernel_rfl) ⟨HNM.out.below (Below.drewN' (Below.refl wN.heap.size wN) 1), Bel.call HB2.out (Below.drewN' (Below.refl wN.heap.size wN) 1)⟩ ?_
      refine Ord.stepR (v := ?_) (by rfl) ?_ ?_
      rotate_left
      · intro w' hSw
        have hk1 := hSw.1.2 I1 hI1
        have hk2 := hSw.1.2 I2 hI2
        rw [hA1] at hk1
        rw [hA2] at hk2
        go_simp
        try with_reducible rfl
      try simp only [Act.put, List.setIfInBounds_toArray, List.set_cons_zero, List.set_cons_succ]
      refine Ord.stepR (v := ?_) (by rfl) ?_ ?_
      rotate_left
      · intro w' hSw
        have hk1 := hSw.1.2 I1 hI1
        have hk2 := hSw.1.2 I2 hI2
        rw [hA1] at hk1
        rw [hA2] at hk2
        go_simp
        try with_reducible rfl
      try simp only [Act.put, List.setIfInBounds_toArray, List.set_cons_zero, List.set_cons_succ]
      refine Ord.stepC (v := .int .i64 (I1 : Int)) (by rfl) ?_ (fun w1 hS => (HP1.out w1).mono fun e w2 h => ⟨h.1, by rw [h.2]; exact hS⟩) ?_
      · intro w' hSw
        go_simp
        try with_reducible rfl
      try simp only [Act.put, List.setIfInBounds_toArray, List.set_cons_zero, List.set_cons_succ]
      refine Ord.stepR (v := ?_) (by rfl) ?_ ?_
      rotate_left
      · intro w' hSw
        have hk1 := hSw.1.2 I1 hI1
        have hk2 := hSw.1.2 I2 hI2
        rw [hA1] at hk1
        rw [hA2] at hk2
        go_simp
        try with_reducible rfl
      try simp only [Act.put, List.setIfInBounds_toArray, List.set_cons_zero, List.set_cons_succ]
      refine Ord.stepR (v := ?_) (by rfl) ?_ ?_
      rotate_left
      · intro w' hSw
        have hk1 := hSw.1.2 I1 hI1
        have hk2 := hSw.1.2 I2 hI2
        rw [hA1] at hk1
        rw [hA2] at hk2
        go_simp
        try with_reducible rfl
      try simp only [Act.put, List.setIfInBounds_toArray, List.set_cons_zero, List.set_cons_succ]
      refine Ord.stepR (v := ?_) (by rfl) ?_ ?_
      rotate_left
      · intro w' hSw
        have hk1 := hSw.1.2 I1 hI1
        have hk2 := hSw.1.2 I2 hI2
        rw [hA1] at hk1
        rw [hA2] at hk2
        go_simp
        try with_reducible rfl
      try simp only [Act.put, List.setIfInBounds_toArray, List.set_cons_zero, List.set_cons_succ]
      refine Ord.stepR (v := ?_) (by rfl) ?_ ?_
      rotate_left
      · intro w' hSw
        have hk1 := hSw.1.2 I1 hI1
        have hk2 := hSw.1.2 I2 hI2
        rw [hA1] at hk1
        rw [hA2] at hk2
        go_simp
        try with_reducible rfl
      try simp only [Act.put, List.setIfInBounds_toArray, List.set_cons_zero, List.set_cons_succ]
      refine Ord.stepR (v := ?_) (by rfl) ?_ ?_
      rotate_left
      · intro w' hSw
        have hk1 := hSw.1.2 I1 hI1
        have hk2 := hSw.1.2 I2 hI2
        rw [hA1] at hk1
        rw [hA2] at hk2
        go_simp
        try with_reducible rfl
      try simp only [Act.put, List.setIfInBounds_toArray, List.set_cons_zero, List.set_cons_succ]
      refine Ord.stepR (v := ?_) (by rfl) ?_ ?_
      rotate_left
      · intro w' hSw
        have hk1 := hSw.1.2 I1 hI1
        have hk2 := hSw.1.2 I2 hI2
        rw [hA1] at hk1
        rw [hA2] at hk2
        go_simp
        try with_reducible rfl
      try simp only [Act.put, List.setIfInBounds_toArray, List.set_cons_zero, List.set_cons_succ]
      refine Ord.stepC (v := .int .i64 (I2 : Int)) (by rfl) ?_ (fun w1 hS => (HP2.out w1).mono fun e w2 h => ⟨h.1, by rw [h.2]; exact hS⟩) ?_
      · intro w' hSw
        go_simp
        try with_reducible rfl
      try simp only [Act.put, List.setIfInBounds_toArray, List.set_cons_zero, List.set_cons_succ]
      refine Ord.stepR (v := ?_) (by rfl) ?_ ?_
      rotate_left
      · intro w' hSw
        have hk1 := hSw.1.2 I1 hI1
        have hk2 := hSw.1.2 I2 hI2
        rw [hA1] at hk1
        rw [hA2] at hk2
        go_simp
        try with_reducible rfl
      try simp only [Act.put, List.setIfInBounds_toArray, List.set_cons_zero, List.set_cons_succ]
      refine Ord.stepR (v := ?_) (by rfl) ?_ ?_
      rotate_left
      · intro w' hSw
        have hk1 := hSw.1.2 I1 hI1
        have hk2 := hSw.1.2 I2 hI2
        rw [hA1] at hk1
        rw [hA2] at hk2
        go_simp
        try with_reducible rfl
      try simp only [Act.put, List.setIfInBounds_toArray, List.set_cons_zero, List.set_cons_succ]
      refine Ord.stepR (v := ?_) (by rfl) ?_ ?_
      rotate_left
      · intro w' hSw
        have hk1 := hSw.1.2 I1 hI1
        have hk2 := hSw.1.2 I2 hI2
        rw [hA1] at hk1
        rw [hA2] at hk2
        go_simp
        try with_reducible rfl
      try simp only [Act.put, List.setIfInBounds_toArray, List.set_cons_zero, List.set_cons_succ]
      refine Ord.stepR (v := ?_) (by rfl) ?_ ?_
      rotate_left
      · intro w' hSw
        have hk1 := hSw.1.2 I1 hI1
        have hk2 := hSw.1.2 I2 hI2
        rw [hA1] at hk1
        rw [hA2] at hk2
        go_simp
        try with_reducible rfl
      try simp only [Act.put, List.setIfInBounds_toArray, List.set_cons_zero, List.set_cons_succ]
      refine Ord.stepD ?_
      rintro w10 hS9
      have HNM := Lib.hid hS9.1
      have HB3 := Lib.hid hS9.2
      clear hS9
      go_wp2_with fail
      refine Ord.region_lit (S := fun w' => Nm w1.heap.size w' ∧ Below w.heap.size w w') (by kernel_rfl) (by kernel_rfl) ⟨HNM.out.below (Below.drewN' (Below.refl w10.heap.size w10) 1), Bel.call HB3.out (Below.drewN' (Below.refl w10.heap.size w10) 1)⟩ ?_
      refine Ord.stepR (v := ?_) (by rfl) ?_ ?_
      rotate_left
      · intro w' hSw
        have hk1 := hSw.1.2 I3 hI3
        have hk2 := hSw.1.2 I4 hI4
        rw [hA3] at hk1
        rw [hA4] at hk2
        go_simp
        try with_reducible rfl
      try simp only [Act.put, List.setIfInBounds_toArray, List.set_cons_zero, List.set_cons_succ]
      refine Ord.stepR (v := ?_) (by rfl) ?_ ?_
      rotate_left
      · intro w' hSw
        have hk1 := hSw.1.2 I3 hI3
        have hk2 := hSw.1.2 I4 hI4
        rw [hA3] at hk1
        rw [hA4] at hk2
        go_simp
        try with_reducible rfl
      try simp only [Act.put, List.setIfInBounds_toArray, List.set_cons_zero, List.set_cons_succ]
      refine Ord.stepC (v := .int .i64 (I3 : Int)) (by rfl) ?_ (fun w1 hS => (HP3.out w1).mono fun e w2 h => ⟨h.1, by rw [h.2]; exact hS⟩) ?_
      · intro w' hSw
        go_simp
        try with_reducible rfl
      try simp only [Act.put, List.setIfInBounds_toArray, List.set_cons_zero, List.set_cons_succ]
      refine Ord.stepR (v := ?_) (by rfl) ?_ ?_
      rotate_left
      · intro w' hSw
        have hk1 := hSw.1.2 I3 hI3
        have hk2 := hSw.1.2 I4 hI4
        rw [hA3] at hk1
        rw [hA4] at hk2
        go_simp
        try with_reducible rfl
      try simp only [Act.put, List.setIfInBounds_toArray, List.set_cons_zero, List.set_cons_succ]
      refine Ord.stepR (v := ?_) (by rfl) ?_ ?_
      rotate_left
      · intro w' hSw
        have hk1 := hSw.1.2 I3 hI3
        have hk2 := hSw.1.2 I4 hI4
        rw [hA3] at hk1
        rw [hA4] at hk2
        go_simp
        try with_reducible rfl
      try simp only [Act.put, List.setIfInBounds_toArray, List.set_cons_zero, List.set_cons_succ]
      refine Ord.stepR (v := ?_) (by rfl) ?_ ?_
      rotate_left
      · intro w' hSw
        have hk1 := hSw.1.2 I3 hI3
        have hk2 := hSw.1.2 I4 hI4
        rw [hA3] at hk1
        rw [hA4] at hk2
        go_simp
        try with_reducible rfl
      try simp only [Act.put, List.setIfInBounds_toArray, List.set_cons_zero, List.set_cons_succ]
      refine Ord.stepR (v := ?_) (by rfl) ?_ ?_
      rotate_left
      · intro w' hSw
        have hk1 := hSw.1.2 I3 hI3
        have hk2 := hSw.1.2 I4 hI4
        rw [hA3] at hk1
        rw [hA4] at hk2
        go_simp
        try with_reducible rfl
      try simp only [Act.put, List.setIfInBounds_toArray, List.set_cons_zero, List.set_cons_succ]
      refine Ord.stepR (v := ?_) (by rfl) ?_ ?_
      rotate_left
      · intro w' hSw
        have hk1 := hSw.1.2 I3 hI3
        have hk2 := hSw.1.2 I4 hI4
        rw [hA3] at hk1
        rw [hA4] at hk2
        go_simp
        try with_reducible rfl
      try simp only [Act.put, List.setIfInBounds_toArray, List.set_cons_zero, List.set_cons_succ]
      refine Ord.stepR (v := ?_) (by rfl) ?_ ?_
      rotate_left
      · intro w' hSw
        have hk1 := hSw.1.2 I3 hI3
        have hk2 := hSw.1.2 I4 hI4
        rw [hA3] at hk1
        rw [hA4] at hk2
        go_simp
        try with_reducible rfl
      try simp only [Act.put, List.setIfInBounds_toArray, List.set_cons_zero, List.set_cons_succ]
      refine Ord.stepC (v := .int .i64 (I4 : Int)) (by rfl) ?_ (fun w1 hS => (HP4.out w1).mono fun e w2 h => ⟨h.1, by rw [h.2]; exact hS⟩) ?_
      · intro w' hSw
        go_simp
        try with_reducible rfl
      try simp only [Act.put, List.setIfInBounds_toArray, List.set_cons_zero, List.set_cons_succ]
      refine Ord.stepR (v := ?_) (by rfl) ?_ ?_
      rotate_left
      · intro w' hSw
        have hk1 := hSw.1.2 I3 hI3
        have hk2 := hSw.1.2 I4 hI4
        rw [hA3] at hk1
        rw [hA4] at hk2
        go_simp
        try with_reducible rfl
      try simp only [Act.put, List.setIfInBounds_toArray, List.set_cons_zero, List.set_cons_succ]
      refine Ord.stepR (v := ?_) (by rfl) ?_ ?_
      rotate_left
      · intro w' hSw
        have hk1 := hSw.1.2 I3 hI3
        have hk2 := hSw.1.2 I4 hI4
        rw [hA3] at hk1
        rw [hA4] at hk2
        go_simp
        try with_reducible rfl
      try simp only [Act.put, List.setIfInBounds_toArray, List.set_cons_zero, List.set_cons_succ]
      refine Ord.stepR (v := ?_) (by rfl) ?_ ?_
      rotate_left
      · intro w' hSw
        have hk1 := hSw.1.2 I3 hI3
        have hk2 := hSw.1.2 I4 hI4
        rw [hA3] at hk1
        rw [hA4] at hk2
        go_simp
        try with_reducible rfl
      try simp only [Act.put, List.setIfInBounds_toArray, List.set_cons_zero, List.set_cons_succ]
      refine Ord.stepR (v := ?_) (by rfl) ?_ ?_
      rotate_left
      · intro w' hSw
        have hk1 := hSw.1.2 I3 hI3
        have hk2 := hSw.1.2 I4 hI4
        rw [hA3] at hk1
        rw [hA4] at hk2
        go_simp
        try with_reducible rfl
      try simp only [Act.put, List.setIfInBounds_toArray, List.set_cons_zero, List.set_cons_succ]
      refine Ord.stepD ?_
      rintro w30 hS9
      have HNM := Lib.hid hS9.1
      have HB4 := Lib.hid hS9.2
      clear hS9
      clear HNM
      go_wp2_with fail
      with_reducible refine (HRT.out _).mono ?_
      rintro e w5 ⟨⟨R, hR, rfl⟩, hb5⟩
      have HB5 := Lib.hid (Bel.call HB4.out hb5)
      clear hb5
      try dsimp only at hR
      have HR := Lib.hid hR
      clear hR
      dsimp only
      go_wp2_with fail
      with_reducible refine (HST.out R _ HR.out).mono ?_
      rintro e w6 ⟨⟨S, hS, rfl⟩, hb6⟩
      have HB6 := Lib.hid (Bel.call HB5.out hb6)
      clear hb6
      try dsimp only at hS
      have HS := Lib.hid hS
      clear hS
      dsimp only
      go_wp2_with fail
      with_reducible refine (HRT.out _).mono ?_
      rintro e w7 ⟨⟨V, hV, rfl⟩, hb7⟩
      have HB7 := Lib.hid (Bel.call HB6.out hb7)
      clear hb7
      try dsimp only at hV
      have HV := Lib.hid hV
      clear hV
      dsimp only
      go_wp2_with fail
      with_reducible refine (HSL.out V _ HV.out).mono ?_
      rintro e w8 ⟨⟨L, hL, rfl⟩, hb8⟩
      have HB8 := Lib.hid (Bel.call HB7.out hb8)
      clear hb8
      try dsimp only at hL
      have HL := Lib.hid hL
      clear hL
      dsimp only
      go_wp2_with fail
      with_reducible refine (HSG.out _).mono ?_
      rintro e w9 ⟨⟨G, hG, rfl⟩, hb9⟩
      have HB9 := Lib.hid (Bel.call HB8.out hb9)
      clear hb9
      try dsimp only at hG
      have HG := Lib.hid hG
      clear hG
      dsimp only
      go_wp2_with fail
      with_reducible refine (HBB.out S G _ HS.out HG.out).mono ?_
      rintro e w10 ⟨hx, hb10⟩
      have HB10 := Lib.hid (Bel.call HB9.out hb10)
      clear hb10
      obtain ⟨SB, GB, hSB, hGB, rfl⟩ := bs_bOf hx
      have HSB := Lib.hid hSB
      have HGB := Lib.hid hGB
      clear hx hSB hGB
      dsimp only
      go_wp2_with fail
      have hbS : Below w10.heap.size w10 (w10.alloc (.cells #[.int .i64 (X : Int), .string SB, .string GB] 29)) := (Below.refl w10.heap.size w10).alloc (Nat.le_refl _) _
      have hxS := r3_new w10 ((X : Int)) SB GB 29
      generalize w10.alloc (.cells #[.int .i64 (X : Int), .string SB, .string GB] 29) = wSB at hbS hxS ⊢
      have HB11 := Lib.hid (Bel.call HB10.out hbS)
      have HXB := Lib.hid hxS
      clear hbS hxS
      with_reducible refine (HSY.out _).mono ?_
      rintro e w12 ⟨⟨H, hH, rfl⟩, hb12⟩
      have HB12 := Lib.hid (Bel.call HB11.out hb12)
      replace HXB := Lib.hid (HXB.out.below hb12)
      clear hb12
      try dsimp only at hH
      have HH := Lib.hid hH
      clear hH
      dsimp only
      go_wp2_with fail
      with_reducible refine (HBC.out S H _ HS.out HH.out).mono ?_
      rintro e w13 ⟨hx, hb13⟩
      have HB13 := Lib.hid (Bel.call HB12.out hb13)
      replace HXB := Lib.hid (HXB.out.below hb13)
      clear hb13
      obtain ⟨SC, GC, hSC, hGC, rfl⟩ := bs_bOf hx
      have HSC := Lib.hid hSC
      have HGC := Lib.hid hGC
      clear hx hSC hGC
      dsimp only
      go_wp2_with fail
      have hbS : Below w13.heap.size w13 (w13.alloc (.cells #[.int .i64 (X : Int), .string SC, .string GC] 29)) := (Below.refl w13.heap.size w13).alloc (Nat.le_refl _) _
      have hxS := r3_new w13 ((X : Int)) SC GC 29
      generalize w13.alloc (.cells #[.int .i64 (X : Int), .string SC, .string GC] 29) = wSC at hbS hxS ⊢
      have HB14 := Lib.hid (Bel.call HB13.out hbS)
      replace HXB := Lib.hid (HXB.out.below hbS)
      have HXC := Lib.hid hxS
      clear hbS hxS
      refine wp_region_held_drew (S := fun w' => R3 w10.heap.size w' (X : Int) SB GB) (by kernel_rfl) (HXB.out.below (Below.drewN' (Below.refl wSC.heap.size wSC) 1)) (fun hHeld => ?_)
      refine wpAnyH_take (i := 0) (v := ?_) (by rw [List.getElem?_toArray]; rfl) (by kernel_rfl) (by kernel_rfl) (by kernel_rfl) (by exact fun _ _ _ h => h) (Or.inl ⟨by rfl, ?_⟩) (by assumption) ?_
      rotate_left
      · intro w' hSw
        obtain ⟨⟨_, c0, c1, c2⟩, _⟩ := hSw
        go_simp
        try with_reducible rfl
      try simp only [Act.put, List.setIfInBounds_toArray, List.set_cons_zero, List.set_cons_succ]
      refine wpAnyH_take (i := 2) (v := ?_) (by rw [List.getElem?_toArray]; rfl) (by kernel_rfl) (by kernel_rfl) (by kernel_rfl) (by exact fun _ _ _ h => h) (Or.inl ⟨by rfl, ?_⟩) (by assumption) ?_
      rotate_left
      · intro w' hSw
        obtain ⟨⟨_, c0, c1, c2⟩, _⟩ := hSw
        go_simp
        try with_reducible rfl
      try simp only [Act.put, List.setIfInBounds_toArray, List.set_cons_zero, List.set_cons_succ]
      refine wpAnyH_take (i := 3) (v := ?_) (by rw [List.getElem?_toArray]; rfl) (by kernel_rfl) (by kernel_rfl) (by kernel_rfl) (by exact fun _ _ _ h => h) (Or.inl ⟨by rfl, ?_⟩) (by assumption) ?_
      rotate_left
      · intro w' hSw
        obtain ⟨⟨_, c0, c1, c2⟩, _⟩ := hSw
        go_simp
        try with_reducible rfl
      try simp only [Act.put, List.setIfInBounds_toArray, List.set_cons_zero, List.set_cons_succ]
      have hdr : Below wSC.heap.size wSC wSC.drew := Below.drewN' (Below.refl wSC.heap.size wSC) 1
      clear hHeld
      generalize wSC.drew = wd15 at hdr ⊢
      have HB15 := Lib.hid (Bel.call HB14.out hdr)
      replace HXB := Lib.hid (HXB.out.below hdr)
      replace HXC := Lib.hid (HXC.out.below hdr)
      clear hdr
      refine wpAnyH_ready (rs := [1]) (by kernel_rfl) (by simp) ?_
      refine AllReadyH.cons (by rw [List.getElem?_toArray]; rfl) (fun K hK => ?_) AllReadyH.nil
      go_simp
      go_at_call 18
      with_reducible refine (HVF.out _).mono ?_
      rintro e w16 ⟨⟨AW1, cW1, vsW1, hvs, hvn, hvc, hvr, hvz, rfl⟩, hb16⟩
      have HB16 := Lib.hid (Bel.call HB15.out hb16)
      replace HXB := Lib.hid (HXB.out.below hb16)
      replace HXC := Lib.hid (HXC.out.below hb16)
      clear hb16
      have HSW1 := Lib.hid hvs
      have HNW1 := Lib.hid hvn
      have HRW1 := Lib.hid hvr
      have HCW1 := Lib.hid hvc
      clear hvs hvn hvc hvr hvz
      dsimp only
      refine hK.out _ _ HXB.out (fun hHeld => ?_)
      try simp only [Act.put, List.setIfInBounds_toArray, List.set_cons_zero, List.set_cons_succ]
      clear hHeld
      refine wpAnyH_ready (rs := [4]) (by kernel_rfl) (by simp) ?_
      refine AllReadyH.cons (by rw [List.getElem?_toArray]; rfl) (fun K hK => ?_) AllReadyH.nil
      go_simp
      go_at_call 17
      with_reducible refine (HO1.out SB GB L _ _ _ _ HSB.out HGB.out HL.out HSW1.out HRW1.out).mono ?_
      rintro e w17 ⟨⟨C1, hC1, rfl⟩, hb17⟩
      have HB17 := Lib.hid (Bel.call HB16.out hb17)
      replace HXB := Lib.hid (HXB.out.below hb17)
      replace HXC := Lib.hid (HXC.out.below hb17)
      replace HRW1 := Lib.hid (HRW1.out.below hb17 (Nat.le_refl _))
      clear hb17
      try dsimp only at hC1
      have HC1 := Lib.hid hC1
      clear hC1
      dsimp only
      refine hK.out _ _ HXB.out (fun hHeld => ?_)
      try simp only [Act.put, List.setIfInBounds_toArray, List.set_cons_zero, List.set_cons_succ]
      refine wpAnyH_take (i := 5) (v := ?_) (by rw [List.getElem?_toArray]; rfl) (by kernel_rfl) (by kernel_rfl) (by kernel_rfl) (by exact fun _ _ _ h => h) (Or.inl ⟨by rfl, ?_⟩) (by assumption) ?_
      rotate_left
      · intro w' hSw
        obtain ⟨⟨_, c0, c1, c2⟩, _⟩ := hSw
        go_simp
        try with_reducible rfl
      try simp only [Act.put, List.setIfInBounds_toArray, List.set_cons_zero, List.set_cons_succ]
      refine wpAnyH_take (i := 6) (v := ?_) (by rw [List.getElem?_toArray]; rfl) (by kernel_rfl) (by kernel_rfl) (by kernel_rfl) (by exact fun _ _ _ h => h) (Or.inl ⟨by rfl, ?_⟩) (by assumption) ?_
      rotate_left
      · intro w' hSw
        obtain ⟨⟨_, c0, c1, c2⟩, _⟩ := hSw
        go_simp
        try with_reducible rfl
      try simp only [Act.put, List.setIfInBounds_toArray, List.set_cons_zero, List.set_cons_succ]
      refine wpAnyH_take (i := 7) (v := ?_) (by rw [List.getElem?_toArray]; rfl) (by kernel_rfl) (by kernel_rfl) (by kernel_rfl) (by exact fun _ _ _ h => h) (Or.inl ⟨by rfl, ?_⟩) (by assumption) ?_
      rotate_left
      · intro w' hSw
        obtain ⟨⟨_, c0, c1, c2⟩, _⟩ := hSw
        go_simp
        try with_reducible rfl
      try simp only [Act.put, List.setIfInBounds_toArray, List.set_cons_zero, List.set_cons_succ]
      refine wpAnyH_take (i := 8) (v := ?_) (by rw [List.getElem?_toArray]; rfl) (by kernel_rfl) (by kernel_rfl) (by kernel_rfl) (by exact fun _ _ _ h => h) (Or.inl ⟨by rfl, ?_⟩) (by assumption) ?_
      rotate_left
      · intro w' hSw
        obtain ⟨⟨_, c0, c1, c2⟩, _⟩ := hSw
        go_simp
        try with_reducible rfl
      try simp only [Act.put, List.setIfInBounds_toArray, List.set_cons_zero, List.set_cons_succ]
      refine wpAnyH_take (i := 9) (v := ?_) (by rw [List.getElem?_toArray]; rfl) (by kernel_rfl) (by kernel_rfl) (by kernel_rfl) (by exact fun _ _ _ h => h) (Or.inl ⟨by rfl, ?_⟩) (by assumption) ?_
      rotate_left
      · intro w' hSw
        obtain ⟨⟨_, c0, c1, c2⟩, _⟩ := hSw
        go_simp
        try with_reducible rfl
      try simp only [Act.put, List.setIfInBounds_toArray, List.set_cons_zero, List.set_cons_succ]
      refine wpAnyH_done (by kernel_rfl) ?_ _
      clear hHeld HRW1
      go_wp2_with fail
      refine wp_region_held_drew (S := fun w' => R3 w13.heap.size w' (X : Int) SC GC) (by kernel_rfl) (HXC.out.below (Below.drewN' (Below.refl w17.heap.size w17) 1)) (fun hHeld => ?_)
      refine wpAnyH_take (i := 0) (v := ?_) (by rw [List.getElem?_toArray]; rfl) (by kernel_rfl) (by kernel_rfl) (by kernel_rfl) (by exact fun _ _ _ h => h) (Or.inl ⟨by rfl, ?_⟩) (by assumption) ?_
      rotate_left
      · intro w' hSw
        obtain ⟨⟨_, c0, c1, c2⟩, _⟩ := hSw
        go_simp
        try with_reducible rfl
      try simp only [Act.put, List.setIfInBounds_toArray, List.set_cons_zero, List.set_cons_succ]
      refine wpAnyH_take (i := 2) (v := ?_) (by rw [List.getElem?_toArray]; rfl) (by kernel_rfl) (by kernel_rfl) (by kernel_rfl) (by exact fun _ _ _ h => h) (Or.inl ⟨by rfl, ?_⟩) (by assumption) ?_
      rotate_left
      · intro w' hSw
        obtain ⟨⟨_, c0, c1, c2⟩, _⟩ := hSw
        go_simp
        try with_reducible rfl
      try simp only [Act.put, List.setIfInBounds_toArray, List.set_cons_zero, List.set_cons_succ]
      refine wpAnyH_take (i := 3) (v := ?_) (by rw [List.getElem?_toArray]; rfl) (by kernel_rfl) (by kernel_rfl) (by kernel_rfl) (by exact fun _ _ _ h => h) (Or.inl ⟨by rfl, ?_⟩) (by assumption) ?_
      rotate_left
      · intro w' hSw
        obtain ⟨⟨_, c0, c1, c2⟩, _⟩ := hSw
        go_simp
        try with_reducible rfl
      try simp only [Act.put, List.setIfInBounds_toArray, List.set_cons_zero, List.set_cons_succ]
      have hdr : Below w17.heap.size w17 w17.drew := Below.drewN' (Below.refl w17.heap.size w17) 1
      clear hHeld
      generalize w17.drew = wd18 at hdr ⊢
      have HB18 := Lib.hid (Bel.call HB17.out hdr)
      replace HXB := Lib.hid (HXB.out.below hdr)
      replace HXC := Lib.hid (HXC.out.below hdr)
      clear hdr
      refine wpAnyH_ready (rs := [1]) (by kernel_rfl) (by simp) ?_
      refine AllReadyH.cons (by rw [List.getElem?_toArray]; rfl) (fun K hK => ?_) AllReadyH.nil
      go_simp
      go_at_call 18
      with_reducible refine (HVF.out _).mono ?_
      rintro e w19 ⟨⟨AW2, cW2, vsW2, hvs, hvn, hvc, hvr, hvz, rfl⟩, hb19⟩
      have HB19 := Lib.hid (Bel.call HB18.out hb19)
      replace HXB := Lib.hid (HXB.out.below hb19)
      replace HXC := Lib.hid (HXC.out.below hb19)
      clear hb19
      have HSW2 := Lib.hid hvs
      have HNW2 := Lib.hid hvn
      have HRW2 := Lib.hid hvr
      have HCW2 := Lib.hid hvc
      clear hvs hvn hvc hvr hvz
      dsimp only
      refine hK.out _ _ HXC.out (fun hHeld => ?_)
      try simp only [Act.put, List.setIfInBounds_toArray, List.set_cons_zero, List.set_cons_succ]
      clear hHeld
      refine wpAnyH_ready (rs := [4]) (by kernel_rfl) (by simp) ?_
      refine AllReadyH.cons (by rw [List.getElem?_toArray]; rfl) (fun K hK => ?_) AllReadyH.nil
      go_simp
      go_at_call 17
      with_reducible refine (HO2.out SC GC L _ _ _ _ HSC.out HGC.out HL.out HSW2.out HRW2.out).mono ?_
      rintro e w20 ⟨⟨C2, hC2, rfl⟩, hb20⟩
      have HB20 := Lib.hid (Bel.call HB19.out hb20)
      replace HXB := Lib.hid (HXB.out.below hb20)
      replace HXC := Lib.hid (HXC.out.below hb20)
      replace HRW2 := Lib.hid (HRW2.out.below hb20 (Nat.le_refl _))
      clear hb20
      try dsimp only at hC2
      have HC2 := Lib.hid hC2
      clear hC2
      dsimp only
      refine hK.out _ _ HXC.out (fun hHeld => ?_)
      try simp only [Act.put, List.setIfInBounds_toArray, List.set_cons_zero, List.set_cons_succ]
      refine wpAnyH_take (i := 5) (v := ?_) (by rw [List.getElem?_toArray]; rfl) (by kernel_rfl) (by kernel_rfl) (by kernel_rfl) (by exact fun _ _ _ h => h) (Or.inl ⟨by rfl, ?_⟩) (by assumption) ?_
      rotate_left
      · intro w' hSw
        obtain ⟨⟨_, c0, c1, c2⟩, _⟩ := hSw
        go_simp
        try with_reducible rfl
      try simp only [Act.put, List.setIfInBounds_toArray, List.set_cons_zero, List.set_cons_succ]
      refine wpAnyH_take (i := 6) (v := ?_) (by rw [List.getElem?_toArray]; rfl) (by kernel_rfl) (by kernel_rfl) (by kernel_rfl) (by exact fun _ _ _ h => h) (Or.inl ⟨by rfl, ?_⟩) (by assumption) ?_
      rotate_left
      · intro w' hSw
        obtain ⟨⟨_, c0, c1, c2⟩, _⟩ := hSw
        go_simp
        try with_reducible rfl
      try simp only [Act.put, List.setIfInBounds_toArray, List.set_cons_zero, List.set_cons_succ]
      refine wpAnyH_take (i := 7) (v := ?_) (by rw [List.getElem?_toArray]; rfl) (by kernel_rfl) (by kernel_rfl) (by kernel_rfl) (by exact fun _ _ _ h => h) (Or.inl ⟨by rfl, ?_⟩) (by assumption) ?_
      rotate_left
      · intro w' hSw
        obtain ⟨⟨_, c0, c1, c2⟩, _⟩ := hSw
        go_simp
        try with_reducible rfl
      try simp only [Act.put, List.setIfInBounds_toArray, List.set_cons_zero, List.set_cons_succ]
      refine wpAnyH_take (i := 8) (v := ?_) (by rw [List.getElem?_toArray]; rfl) (by kernel_rfl) (by kernel_rfl) (by kernel_rfl) (by exact fun _ _ _ h => h) (Or.inl ⟨by rfl, ?_⟩) (by assumption) ?_
      rotate_left
      · intro w' hSw
        obtain ⟨⟨_, c0, c1, c2⟩, _⟩ := hSw
        go_simp
        try with_reducible rfl
      try simp only [Act.put, List.setIfInBounds_toArray, List.set_cons_zero, List.set_cons_succ]
      refine wpAnyH_take (i := 9) (v := ?_) (by rw [List.getElem?_toArray]; rfl) (by kernel_rfl) (by kernel_rfl) (by kernel_rfl) (by exact fun _ _ _ h => h) (Or.inl ⟨by rfl, ?_⟩) (by assumption) ?_
      rotate_left
      · intro w' hSw
        obtain ⟨⟨_, c0, c1, c2⟩, _⟩ := hSw
        go_simp
        try with_reducible rfl
      try simp only [Act.put, List.setIfInBounds_toArray, List.set_cons_zero, List.set_cons_succ]
      refine wpAnyH_done (by kernel_rfl) ?_ _
      clear hHeld HRW2
      obtain ⟨⟨_, dB0, dB1, dB2⟩, kB0, kB1, kB2⟩ := HXB.out
      go_wp2_with fail
      clear dB0 dB1 dB2 kB0 kB1 kB2
      have hxS := r3_set0 (e := (X : Int)) HXB.out
      have HB21 : Hid (Below w.heap.size w (w20.setCell ⟨w10.heap.size, 0, none⟩ (.int .i64 (X : Int)))) := Lib.hid (HB20.out.setCell HB10.out.size _)
      generalize w20.setCell ⟨w10.heap.size, 0, none⟩ (.int .i64 (X : Int)) = wE21 at hxS HB21 ⊢
      replace HXB := Lib.hid hxS
      clear hxS
      clear HXC
      have HSB3 := HB3S.out SB HSB.out
      have HGB3 := HB3G.out GB HGB.out
      refine wp_region_held_drew (S := fun w' => R3 w10.heap.size w' (X : Int) SB GB) (by kernel_rfl) (HXB.out.below (Below.drewN' (Below.refl wE21.heap.size wE21) 1)) (fun hHeld => ?_)
      refine wpAnyH_take (i := 0) (v := ?_) (by rw [List.getElem?_toArray]; rfl) (by kernel_rfl) (by kernel_rfl) (by kernel_rfl) (by exact fun _ _ _ h => h) (Or.inl ⟨by rfl, ?_⟩) (by assumption) ?_
      rotate_left
      · intro w' hSw
        obtain ⟨⟨_, c0, c1, c2⟩, _⟩ := hSw
        go_simp
        try with_reducible rfl
      try simp only [Act.put, List.setIfInBounds_toArray, List.set_cons_zero, List.set_cons_succ]
      refine wpAnyH_take (i := 2) (v := ?_) (by rw [List.getElem?_toArray]; rfl) (by kernel_rfl) (by kernel_rfl) (by kernel_rfl) (by exact fun _ _ _ h => h) (Or.inl ⟨by rfl, ?_⟩) (by assumption) ?_
      rotate_left
      · intro w' hSw
        obtain ⟨⟨_, c0, c1, c2⟩, _⟩ := hSw
        go_simp
        try with_reducible rfl
      try simp only [Act.put, List.setIfInBounds_toArray, List.set_cons_zero, List.set_cons_succ]
      refine wpAnyH_take (i := 3) (v := ?_) (by rw [List.getElem?_toArray]; rfl) (by kernel_rfl) (by kernel_rfl) (by kernel_rfl) (by exact fun _ _ _ h => h) (Or.inl ⟨by rfl, ?_⟩) (by assumption) ?_
      rotate_left
      · intro w' hSw
        obtain ⟨⟨_, c0, c1, c2⟩, _⟩ := hSw
        go_simp
        try with_reducible rfl
      try simp only [Act.put, List.setIfInBounds_toArray, List.set_cons_zero, List.set_cons_succ]
      have hdr : Below wE21.heap.size wE21 wE21.drew := Below.drewN' (Below.refl wE21.heap.size wE21) 1
      clear hHeld
      generalize wE21.drew = wd22 at hdr ⊢
      have HB22 := Lib.hid (Bel.call HB21.out hdr)
      replace HXB := Lib.hid (HXB.out.below hdr)
      clear hdr
      refine wpAnyH_ready (rs := [1]) (by kernel_rfl) (by simp) ?_
      refine AllReadyH.cons (by rw [List.getElem?_toArray]; rfl) (fun K hK => ?_) AllReadyH.nil
      go_simp
      go_at_call 18
      with_reducible refine (HVF.out _).mono ?_
      rintro e w23 ⟨⟨AW3, cW3, vsW3, hvs, hvn, hvc, hvr, hvz, rfl⟩, hb23⟩
      have HB23 := Lib.hid (Bel.call HB22.out hb23)
      replace HXB := Lib.hid (HXB.out.below hb23)
      clear hb23
      have HSW3 := Lib.hid hvs
      have HNW3 := Lib.hid hvn
      have HRW3 := Lib.hid hvr
      have HCW3 := Lib.hid hvc
      clear hvs hvn hvc hvr hvz
      dsimp only
      refine hK.out _ _ HXB.out (fun hHeld => ?_)
      try simp only [Act.put, List.setIfInBounds_toArray, List.set_cons_zero, List.set_cons_succ]
      clear hHeld
      refine wpAnyH_ready (rs := [4]) (by kernel_rfl) (by simp) ?_
      refine AllReadyH.cons (by rw [List.getElem?_toArray]; rfl) (fun K hK => ?_) AllReadyH.nil
      go_simp
      go_at_call 17
      with_reducible refine (HO3.out SB GB L _ _ _ _ HSB3.out HGB3.out HL.out HSW3.out HRW3.out).mono ?_
      rintro e w24 ⟨⟨C3, hC3, rfl⟩, hb24⟩
      have HB24 := Lib.hid (Bel.call HB23.out hb24)
      replace HXB := Lib.hid (HXB.out.below hb24)
      replace HRW3 := Lib.hid (HRW3.out.below hb24 (Nat.le_refl _))
      clear hb24
      try dsimp only at hC3
      have HC3 := Lib.hid hC3
      clear hC3
      dsimp only
      refine hK.out _ _ HXB.out (fun hHeld => ?_)
      try simp only [Act.put, List.setIfInBounds_toArray, List.set_cons_zero, List.set_cons_succ]
      refine wpAnyH_take (i := 5) (v := ?_) (by rw [List.getElem?_toArray]; rfl) (by kernel_rfl) (by kernel_rfl) (by kernel_rfl) (by exact fun _ _ _ h => h) (Or.inl ⟨by rfl, ?_⟩) (by assumption) ?_
      rotate_left
      · intro w' hSw
        obtain ⟨⟨_, c0, c1, c2⟩, _⟩ := hSw
        go_simp
        try with_reducible rfl
      try simp only [Act.put, List.setIfInBounds_toArray, List.set_cons_zero, List.set_cons_succ]
      refine wpAnyH_take (i := 6) (v := ?_) (by rw [List.getElem?_toArray]; rfl) (by kernel_rfl) (by kernel_rfl) (by kernel_rfl) (by exact fun _ _ _ h => h) (Or.inl ⟨by rfl, ?_⟩) (by assumption) ?_
      rotate_left
      · intro w' hSw
        obtain ⟨⟨_, c0, c1, c2⟩, _⟩ := hSw
        go_simp
        try with_reducible rfl
      try simp only [Act.put, List.setIfInBounds_toArray, List.set_cons_zero, List.set_cons_succ]
      refine wpAnyH_take (i := 7) (v := ?_) (by rw [List.getElem?_toArray]; rfl) (by kernel_rfl) (by kernel_rfl) (by kernel_rfl) (by exact fun _ _ _ h => h) (Or.inl ⟨by rfl, ?_⟩) (by assumption) ?_
      rotate_left
      · intro w' hSw
        obtain ⟨⟨_, c0, c1, c2⟩, _⟩ := hSw
        go_simp
        try with_reducible rfl
      try simp only [Act.put, List.setIfInBounds_toArray, List.set_cons_zero, List.set_cons_succ]
      refine wpAnyH_take (i := 8) (v := ?_) (by rw [List.getElem?_toArray]; rfl) (by kernel_rfl) (by kernel_rfl) (by kernel_rfl) (by exact fun _ _ _ h => h) (Or.inl ⟨by rfl, ?_⟩) (by assumption) ?_
      rotate_left
      · intro w' hSw
        obtain ⟨⟨_, c0, c1, c2⟩, _⟩ := hSw
        go_simp
        try with_reducible rfl
      try simp only [Act.put, List.setIfInBounds_toArray, List.set_cons_zero, List.set_cons_succ]
      refine wpAnyH_take (i := 9) (v := ?_) (by rw [List.getElem?_toArray]; rfl) (by kernel_rfl) (by kernel_rfl) (by kernel_rfl) (by exact fun _ _ _ h => h) (Or.inl ⟨by rfl, ?_⟩) (by assumption) ?_
      rotate_left
      · intro w' hSw
        obtain ⟨⟨_, c0, c1, c2⟩, _⟩ := hSw
        go_simp
        try with_reducible rfl
      try simp only [Act.put, List.setIfInBounds_toArray, List.set_cons_zero, List.set_cons_succ]
      refine wpAnyH_done (by kernel_rfl) ?_ _
      clear hHeld HRW3
      obtain rfl : C1 = ⟨#[]⟩ := str_eq HC1.out
      obtain rfl : C2 = ⟨#[104, 105]⟩ := str_eq HC2.out
      obtain rfl : C3 = ⟨#[104, 105]⟩ := str_eq HC3.out
      go_wp2
      go_ret
      exact ⟨rfl, HB24.out⟩
    · have HO1 : Hid (∀ (S G T : ByteArray) (A : Option Addr) (c : Nat) (vs : List ByteArray) (w : World), S.data.toList = (bOf N X X (P : ByteArray).data.toList (⟨#[104, 105]⟩ : ByteArray).data.toList).sl → G.data.toList = (bOf N X X (P : ByteArray).data.toList (⟨#[104, 105]⟩ : ByteArray).data.toList).sg → T.data.toList = hs (7 - 7) (rootS N) → bl vs = sgps 8 → SReads w A vs → Calls Try.prog 17 #[.agg #[.int .i64 (X : Int), .string S, .string G], .slice A vs.length c, .string T, .int .i64 7, .string Q] w fun e w' => Sr ([], 7) e ∧ Below w.heap.size w w') := Lib.hid fun S G T A c vs w hS hG hT hv hr => by
        have hbr : BR (bOf N X X (P : ByteArray).data.toList (⟨#[104, 105]⟩ : ByteArray).data.toList) := bOf_right hn (by omega) (by omega) hpp.1 (by decide)
        have hvl : vs.length ≤ 40 := by
          have := congrArg List.length hv
          simp only [bl_len', sgps_len, List.length_map, List.length_range, List.length_tail] at this
          omega
        exact open_to (b := bOf N X X (P : ByteArray).data.toList (⟨#[104, 105]⟩ : ByteArray).data.toList) (L := sgps 8) (q := (Q : ByteArray).data.toList) (by
          show openB (bOf N X X (P : ByteArray).data.toList (⟨#[104, 105]⟩ : ByteArray).data.toList) (sgps 8) (hs (7 - 7) (rootS N)) ((7 : Nat) : Int) Q.data.toList = _
          rw [open_is hn (by omega) (by omega) hpp.1 (by decide) (by omega) (j := X) (by omega) (sgps_len _) (by omega) (sgps_get (by omega)), if_neg (fun h => hPQ (str_eq h.2))]) rfl hS hG hv rfl hT rfl (seal_size hbr hS) (sig_size hbr hG) (by rw [Lib.size_eq, hT]; exact stl _ (by omega)) (by omega) (by omega) (sgps_sizes hv (by omega)) (by omega) w hr
      have HO2 : Hid (∀ (S G T : ByteArray) (A : Option Addr) (c : Nat) (vs : List ByteArray) (w : World), S.data.toList = (bOf N X Y (P : ByteArray).data.toList (⟨#[104, 105]⟩ : ByteArray).data.toList).sl → G.data.toList = (bOf N X Y (P : ByteArray).data.toList (⟨#[104, 105]⟩ : ByteArray).data.toList).sg → T.data.toList = hs (7 - 7) (rootS N) → bl vs = sgps 8 → SReads w A vs → Calls Try.prog 17 #[.agg #[.int .i64 (X : Int), .string S, .string G], .slice A vs.length c, .string T, .int .i64 7, .string P] w fun e w' => Sr ([], 7) e ∧ Below w.heap.size w w') := Lib.hid fun S G T A c vs w hS hG hT hv hr => by
        have hbr : BR (bOf N X Y (P : ByteArray).data.toList (⟨#[104, 105]⟩ : ByteArray).data.toList) := bOf_right hn (by omega) (by omega) hpp.1 (by decide)
        have hvl : vs.length ≤ 40 := by
          have := congrArg List.length hv
          simp only [bl_len', sgps_len, List.length_map, List.length_range, List.length_tail] at this
          omega
        exact open_to (b := bOf N X Y (P : ByteArray).data.toList (⟨#[104, 105]⟩ : ByteArray).data.toList) (L := sgps 8) (q := (P : ByteArray).data.toList) (by
          show openB (bOf N X Y (P : ByteArray).data.toList (⟨#[104, 105]⟩ : ByteArray).data.toList) (sgps 8) (hs (7 - 7) (rootS N)) ((7 : Nat) : Int) P.data.toList = _
          rw [open_is hn (by omega) (by omega) hpp.1 (by decide) (by omega) (j := X) (by omega) (sgps_len _) (by omega) (sgps_get (by omega)), if_neg (fun h => hXY h.1.symm)]) rfl hS hG hv rfl hT rfl (seal_size hbr hS) (sig_size hbr hG) (by rw [Lib.size_eq, hT]; exact stl _ (by omega)) (by omega) (by omega) (sgps_sizes hv (by omega)) (by omega) w hr
      have HO3 : Hid (∀ (S G T : ByteArray) (A : Option Addr) (c : Nat) (vs : List ByteArray) (w : World), S.data.toList = ((⟨(Y : Int), (bOf N X X (P : ByteArray).data.toList (⟨#[104, 105]⟩ : ByteArray).data.toList).sl, (bOf N X X (P : ByteArray).data.toList (⟨#[104, 105]⟩ : ByteArray).data.toList).sg⟩ : Bb)).sl → G.data.toList = ((⟨(Y : Int), (bOf N X X (P : ByteArray).data.toList (⟨#[104, 105]⟩ : ByteArray).data.toList).sl, (bOf N X X (P : ByteArray).data.toList (⟨#[104, 105]⟩ : ByteArray).data.toList).sg⟩ : Bb)).sg → T.data.toList = hs (7 - 7) (rootS N) → bl vs = sgps 8 → SReads w A vs → Calls Try.prog 17 #[.agg #[.int .i64 (Y : Int), .string S, .string G], .slice A vs.length c, .string T, .int .i64 7, .string P] w fun e w' => Sr ([], 7) e ∧ Below w.heap.size w w') := Lib.hid fun S G T A c vs w hS hG hT hv hr => by
        have hbr : BR ((⟨(Y : Int), (bOf N X X (P : ByteArray).data.toList (⟨#[104, 105]⟩ : ByteArray).data.toList).sl, (bOf N X X (P : ByteArray).data.toList (⟨#[104, 105]⟩ : ByteArray).data.toList).sg⟩ : Bb)) := ⟨by constructor <;> (show _ ≤ _; simp only; omega), (bOf_right (i := X) hn (show X ≤ 7 by omega) (by omega) hpp.1 (by decide)).2⟩
        have hvl : vs.length ≤ 40 := by
          have := congrArg List.length hv
          simp only [bl_len', sgps_len, List.length_map, List.length_range, List.length_tail] at this
          omega
        exact open_to (b := (⟨(Y : Int), (bOf N X X (P : ByteArray).data.toList (⟨#[104, 105]⟩ : ByteArray).data.toList).sl, (bOf N X X (P : ByteArray).data.toList (⟨#[104, 105]⟩ : ByteArray).data.toList).sg⟩ : Bb)) (L := sgps 8) (q := (P : ByteArray).data.toList) (by
          show openB ⟨(Y : Int), sealT N X P.data.toList hiB.data.toList, sigT X X (sealT N X P.data.toList hiB.data.toList)⟩ (sgps 8) (hs (7 - 7) (rootS N)) ((7 : Nat) : Int) P.data.toList = _
          exact open_moved hn (by omega) (by omega) hpp.1 (by decide) (by omega) (z := Y) (j := Y) (by omega) (by omega) (sgps_len _) (by omega) (by omega) (sgps_get (by omega)) (st_right hn (by omega)) _) rfl hS hG hv rfl hT rfl (seal_size hbr hS) (sig_size hbr hG) (by rw [Lib.size_eq, hT]; exact stl _ (by omega)) (by omega) (by omega) (sgps_sizes hv (by omega)) (by omega) w hr
      have HB3S : Hid (∀ S : ByteArray, S.data.toList = (bOf N X X (P : ByteArray).data.toList (⟨#[104, 105]⟩ : ByteArray).data.toList).sl → Hid (S.data.toList = ((⟨(Y : Int), (bOf N X X (P : ByteArray).data.toList (⟨#[104, 105]⟩ : ByteArray).data.toList).sl, (bOf N X X (P : ByteArray).data.toList (⟨#[104, 105]⟩ : ByteArray).data.toList).sg⟩ : Bb)).sl)) := Lib.hid fun S h => Lib.hid h
      have HB3G : Hid (∀ S : ByteArray, S.data.toList = (bOf N X X (P : ByteArray).data.toList (⟨#[104, 105]⟩ : ByteArray).data.toList).sg → Hid (S.data.toList = ((⟨(Y : Int), (bOf N X X (P : ByteArray).data.toList (⟨#[104, 105]⟩ : ByteArray).data.toList).sl, (bOf N X X (P : ByteArray).data.toList (⟨#[104, 105]⟩ : ByteArray).data.toList).sg⟩ : Bb)).sg)) := Lib.hid fun S h => Lib.hid h
      have hpqb : (P.toList == Q.toList) = false := str_ne hPQ
      have hxyb : ((X : Int) == (Y : Int)) = false := by rw [beq_eq_false_iff_ne]; omega
      go_enter Try.func6, Try.ntmps6
      go_wp2_with fail
      with_reducible refine (HSH.out _).mono ?_
      rintro e w1 ⟨rfl, hb1⟩
      have HB1 := Lib.hid hb1
      clear hb1
      dsimp only
      go_wp2_with fail
      with_reducible refine (HPA.out _).mono ?_
      rintro e v1 ⟨rfl, hv1⟩
      obtain rfl : w1 = v1 := hv1.symm
      dsimp only
      go_wp2_with fail
      with_reducible refine (HPB.out _).mono ?_
      rintro e v2 ⟨rfl, hv2⟩
      obtain rfl : w1 = v2 := hv2.symm
      dsimp only
      go_wp2_with fail
      have hbS : Below w1.heap.size w1 (w1.alloc (.cells #[.string ⟨#[97, 110, 110, 97]⟩, .string ⟨#[98, 101, 110]⟩, .string ⟨#[97]⟩, .string ⟨#[98]⟩, .string ⟨#[110, 111, 116, 101, 115]⟩, .string ⟨#[97, 110, 110, 97, 45, 110, 111, 116, 101, 115]⟩, .string ⟨#[110, 111]⟩, .string ⟨#[116, 101, 115]⟩] 9)) := (Below.refl w1.heap.size w1).alloc (Nat.le_refl _) _
      have hxS := nm_new w1
      generalize w1.alloc (.cells #[.string ⟨#[97, 110, 110, 97]⟩, .string ⟨#[98, 101, 110]⟩, .string ⟨#[97]⟩, .string ⟨#[98]⟩, .string ⟨#[110, 111, 116, 101, 115]⟩, .string ⟨#[97, 110, 110, 97, 45, 110, 111, 116, 101, 115]⟩, .string ⟨#[110, 111]⟩, .string ⟨#[116, 101, 115]⟩] 9) = wN at hbS hxS ⊢
      have HB2 := Lib.hid (Bel.call HB1.out hbS)
      have HNM := Lib.hid hxS
      clear hbS hxS
      refine Ord.region_lit (S := fun w' => Nm w1.heap.size w' ∧ Below w.heap.size w w') (by kernel_rfl) (by kernel_rfl) ⟨HNM.out.below (Below.drewN' (Below.refl wN.heap.size wN) 1), Bel.call HB2.out (Below.drewN' (Below.refl wN.heap.size wN) 1)⟩ ?_
      refine Ord.stepR (v := ?_) (by rfl) ?_ ?_
      rotate_left
      · intro w' hSw
        have hk1 := hSw.1.2 I1 hI1
        have hk2 := hSw.1.2 I2 hI2
        rw [hA1] at hk1
        rw [hA2] at hk2
        go_simp
        try with_reducible rfl
      try simp only [Act.put, List.setIfInBounds_toArray, List.set_cons_zero, List.set_cons_succ]
      refine Ord.stepR (v := ?_) (by rfl) ?_ ?_
      rotate_left
      · intro w' hSw
        have hk1 := hSw.1.2 I1 hI1
        have hk2 := hSw.1.2 I2 hI2
        rw [hA1] at hk1
        rw [hA2] at hk2
        go_simp
        try with_reducible rfl
      try simp only [Act.put, List.setIfInBounds_toArray, List.set_cons_zero, List.set_cons_succ]
      refine Ord.stepC (v := .int .i64 (I1 : Int)) (by rfl) ?_ (fun w1 hS => (HP1.out w1).mono fun e w2 h => ⟨h.1, by rw [h.2]; exact hS⟩) ?_
      · intro w' hSw
        go_simp
        try with_reducible rfl
      try simp only [Act.put, List.setIfInBounds_toArray, List.set_cons_zero, List.set_cons_succ]
      refine Ord.stepR (v := ?_) (by rfl) ?_ ?_
      rotate_left
      · intro w' hSw
        have hk1 := hSw.1.2 I1 hI1
        have hk2 := hSw.1.2 I2 hI2
        rw [hA1] at hk1
        rw [hA2] at hk2
        go_simp
        try with_reducible rfl
      try simp only [Act.put, List.setIfInBounds_toArray, List.set_cons_zero, List.set_cons_succ]
      refine Ord.stepR (v := ?_) (by rfl) ?_ ?_
      rotate_left
      · intro w' hSw
        have hk1 := hSw.1.2 I1 hI1
        have hk2 := hSw.1.2 I2 hI2
        rw [hA1] at hk1
        rw [hA2] at hk2
        go_simp
        try with_reducible rfl
      try simp only [Act.put, List.setIfInBounds_toArray, List.set_cons_zero, List.set_cons_succ]
      refine Ord.stepR (v := ?_) (by rfl) ?_ ?_
      rotate_left
      · intro w' hSw
        have hk1 := hSw.1.2 I1 hI1
        have hk2 := hSw.1.2 I2 hI2
        rw [hA1] at hk1
        rw [hA2] at hk2
        go_simp
        try with_reducible rfl
      try simp only [Act.put, List.setIfInBounds_toArray, List.set_cons_zero, List.set_cons_succ]
      refine Ord.stepR (v := ?_) (by rfl) ?_ ?_
      rotate_left
      · intro w' hSw
        have hk1 := hSw.1.2 I1 hI1
        have hk2 := hSw.1.2 I2 hI2
        rw [hA1] at hk1
        rw [hA2] at hk2
        go_simp
        try with_reducible rfl
      try simp only [Act.put, List.setIfInBounds_toArray, List.set_cons_zero, List.set_cons_succ]
      refine Ord.stepR (v := ?_) (by rfl) ?_ ?_
      rotate_left
      · intro w' hSw
        have hk1 := hSw.1.2 I1 hI1
        have hk2 := hSw.1.2 I2 hI2
        rw [hA1] at hk1
        rw [hA2] at hk2
        go_simp
        try with_reducible rfl
      try simp only [Act.put, List.setIfInBounds_toArray, List.set_cons_zero, List.set_cons_succ]
      refine Ord.stepR (v := ?_) (by rfl) ?_ ?_
      rotate_left
      · intro w' hSw
        have hk1 := hSw.1.2 I1 hI1
        have hk2 := hSw.1.2 I2 hI2
        rw [hA1] at hk1
        rw [hA2] at hk2
        go_simp
        try with_reducible rfl
      try simp only [Act.put, List.setIfInBounds_toArray, List.set_cons_zero, List.set_cons_succ]
      refine Ord.stepC (v := .int .i64 (I2 : Int)) (by rfl) ?_ (fun w1 hS => (HP2.out w1).mono fun e w2 h => ⟨h.1, by rw [h.2]; exact hS⟩) ?_
      · intro w' hSw
        go_simp
        try with_reducible rfl
      try simp only [Act.put, List.setIfInBounds_toArray, List.set_cons_zero, List.set_cons_succ]
      refine Ord.stepR (v := ?_) (by rfl) ?_ ?_
      rotate_left
      · intro w' hSw
        have hk1 := hSw.1.2 I1 hI1
        have hk2 := hSw.1.2 I2 hI2
        rw [hA1] at hk1
        rw [hA2] at hk2
        go_simp
        try with_reducible rfl
      try simp only [Act.put, List.setIfInBounds_toArray, List.set_cons_zero, List.set_cons_succ]
      refine Ord.stepR (v := ?_) (by rfl) ?_ ?_
      rotate_left
      · intro w' hSw
        have hk1 := hSw.1.2 I1 hI1
        have hk2 := hSw.1.2 I2 hI2
        rw [hA1] at hk1
        rw [hA2] at hk2
        go_simp
        try with_reducible rfl
      try simp only [Act.put, List.setIfInBounds_toArray, List.set_cons_zero, List.set_cons_succ]
      refine Ord.stepR (v := ?_) (by rfl) ?_ ?_
      rotate_left
      · intro w' hSw
        have hk1 := hSw.1.2 I1 hI1
        have hk2 := hSw.1.2 I2 hI2
        rw [hA1] at hk1
        rw [hA2] at hk2
        go_simp
        try with_reducible rfl
      try simp only [Act.put, List.setIfInBounds_toArray, List.set_cons_zero, List.set_cons_succ]
      refine Ord.stepR (v := ?_) (by rfl) ?_ ?_
      rotate_left
      · intro w' hSw
        have hk1 := hSw.1.2 I1 hI1
        have hk2 := hSw.1.2 I2 hI2
        rw [hA1] at hk1
        rw [hA2] at hk2
        go_simp
        try with_reducible rfl
      try simp only [Act.put, List.setIfInBounds_toArray, List.set_cons_zero, List.set_cons_succ]
      refine Ord.stepD ?_
      rintro w10 hS9
      have HNM := Lib.hid hS9.1
      have HB3 := Lib.hid hS9.2
      clear hS9
      go_wp2_with fail
      refine Ord.region_lit (S := fun w' => Nm w1.heap.size w' ∧ Below w.heap.size w w') (by kernel_rfl) (by kernel_rfl) ⟨HNM.out.below (Below.drewN' (Below.refl w10.heap.size w10) 1), Bel.call HB3.out (Below.drewN' (Below.refl w10.heap.size w10) 1)⟩ ?_
      refine Ord.stepR (v := ?_) (by rfl) ?_ ?_
      rotate_left
      · intro w' hSw
        have hk1 := hSw.1.2 I3 hI3
        have hk2 := hSw.1.2 I4 hI4
        rw [hA3] at hk1
        rw [hA4] at hk2
        go_simp
        try with_reducible rfl
      try simp only [Act.put, List.setIfInBounds_toArray, List.set_cons_zero, List.set_cons_succ]
      refine Ord.stepR (v := ?_) (by rfl) ?_ ?_
      rotate_left
      · intro w' hSw
        have hk1 := hSw.1.2 I3 hI3
        have hk2 := hSw.1.2 I4 hI4
        rw [hA3] at hk1
        rw [hA4] at hk2
        go_simp
        try with_reducible rfl
      try simp only [Act.put, List.setIfInBounds_toArray, List.set_cons_zero, List.set_cons_succ]
      refine Ord.stepC (v := .int .i64 (I3 : Int)) (by rfl) ?_ (fun w1 hS => (HP3.out w1).mono fun e w2 h => ⟨h.1, by rw [h.2]; exact hS⟩) ?_
      · intro w' hSw
        go_simp
        try with_reducible rfl
      try simp only [Act.put, List.setIfInBounds_toArray, List.set_cons_zero, List.set_cons_succ]
      refine Ord.stepR (v := ?_) (by rfl) ?_ ?_
      rotate_left
      · intro w' hSw
        have hk1 := hSw.1.2 I3 hI3
        have hk2 := hSw.1.2 I4 hI4
        rw [hA3] at hk1
        rw [hA4] at hk2
        go_simp
        try with_reducible rfl
      try simp only [Act.put, List.setIfInBounds_toArray, List.set_cons_zero, List.set_cons_succ]
      refine Ord.stepR (v := ?_) (by rfl) ?_ ?_
      rotate_left
      · intro w' hSw
        have hk1 := hSw.1.2 I3 hI3
        have hk2 := hSw.1.2 I4 hI4
        rw [hA3] at hk1
        rw [hA4] at hk2
        go_simp
        try with_reducible rfl
      try simp only [Act.put, List.setIfInBounds_toArray, List.set_cons_zero, List.set_cons_succ]
      refine Ord.stepR (v := ?_) (by rfl) ?_ ?_
      rotate_left
      · intro w' hSw
        have hk1 := hSw.1.2 I3 hI3
        have hk2 := hSw.1.2 I4 hI4
        rw [hA3] at hk1
        rw [hA4] at hk2
        go_simp
        try with_reducible rfl
      try simp only [Act.put, List.setIfInBounds_toArray, List.set_cons_zero, List.set_cons_succ]
      refine Ord.stepR (v := ?_) (by rfl) ?_ ?_
      rotate_left
      · intro w' hSw
        have hk1 := hSw.1.2 I3 hI3
        have hk2 := hSw.1.2 I4 hI4
        rw [hA3] at hk1
        rw [hA4] at hk2
        go_simp
        try with_reducible rfl
      try simp only [Act.put, List.setIfInBounds_toArray, List.set_cons_zero, List.set_cons_succ]
      refine Ord.stepR (v := ?_) (by rfl) ?_ ?_
      rotate_left
      · intro w' hSw
        have hk1 := hSw.1.2 I3 hI3
        have hk2 := hSw.1.2 I4 hI4
        rw [hA3] at hk1
        rw [hA4] at hk2
        go_simp
        try with_reducible rfl
      try simp only [Act.put, List.setIfInBounds_toArray, List.set_cons_zero, List.set_cons_succ]
      refine Ord.stepR (v := ?_) (by rfl) ?_ ?_
      rotate_left
      · intro w' hSw
        have hk1 := hSw.1.2 I3 hI3
        have hk2 := hSw.1.2 I4 hI4
        rw [hA3] at hk1
        rw [hA4] at hk2
        go_simp
        try with_reducible rfl
      try simp only [Act.put, List.setIfInBounds_toArray, List.set_cons_zero, List.set_cons_succ]
      refine Ord.stepC (v := .int .i64 (I4 : Int)) (by rfl) ?_ (fun w1 hS => (HP4.out w1).mono fun e w2 h => ⟨h.1, by rw [h.2]; exact hS⟩) ?_
      · intro w' hSw
        go_simp
        try with_reducible rfl
      try simp only [Act.put, List.setIfInBounds_toArray, List.set_cons_zero, List.set_cons_succ]
      refine Ord.stepR (v := ?_) (by rfl) ?_ ?_
      rotate_left
      · intro w' hSw
        have hk1 := hSw.1.2 I3 hI3
        have hk2 := hSw.1.2 I4 hI4
        rw [hA3] at hk1
        rw [hA4] at hk2
        go_simp
        try with_reducible rfl
      try simp only [Act.put, List.setIfInBounds_toArray, List.set_cons_zero, List.set_cons_succ]
      refine Ord.stepR (v := ?_) (by rfl) ?_ ?_
      rotate_left
      · intro w' hSw
        have hk1 := hSw.1.2 I3 hI3
        have hk2 := hSw.1.2 I4 hI4
        rw [hA3] at hk1
        rw [hA4] at hk2
        go_simp
        try with_reducible rfl
      try simp only [Act.put, List.setIfInBounds_toArray, List.set_cons_zero, List.set_cons_succ]
      refine Ord.stepR (v := ?_) (by rfl) ?_ ?_
      rotate_left
      · intro w' hSw
        have hk1 := hSw.1.2 I3 hI3
        have hk2 := hSw.1.2 I4 hI4
        rw [hA3] at hk1
        rw [hA4] at hk2
        go_simp
        try with_reducible rfl
      try simp only [Act.put, List.setIfInBounds_toArray, List.set_cons_zero, List.set_cons_succ]
      refine Ord.stepR (v := ?_) (by rfl) ?_ ?_
      rotate_left
      · intro w' hSw
        have hk1 := hSw.1.2 I3 hI3
        have hk2 := hSw.1.2 I4 hI4
        rw [hA3] at hk1
        rw [hA4] at hk2
        go_simp
        try with_reducible rfl
      try simp only [Act.put, List.setIfInBounds_toArray, List.set_cons_zero, List.set_cons_succ]
      refine Ord.stepD ?_
      rintro w30 hS9
      have HNM := Lib.hid hS9.1
      have HB4 := Lib.hid hS9.2
      clear hS9
      clear HNM
      go_wp2_with fail
      with_reducible refine (HRT.out _).mono ?_
      rintro e w5 ⟨⟨R, hR, rfl⟩, hb5⟩
      have HB5 := Lib.hid (Bel.call HB4.out hb5)
      clear hb5
      try dsimp only at hR
      have HR := Lib.hid hR
      clear hR
      dsimp only
      go_wp2_with fail
      with_reducible refine (HST.out R _ HR.out).mono ?_
      rintro e w6 ⟨⟨S, hS, rfl⟩, hb6⟩
      have HB6 := Lib.hid (Bel.call HB5.out hb6)
      clear hb6
      try dsimp only at hS
      have HS := Lib.hid hS
      clear hS
      dsimp only
      go_wp2_with fail
      with_reducible refine (HRT.out _).mono ?_
      rintro e w7 ⟨⟨V, hV, rfl⟩, hb7⟩
      have HB7 := Lib.hid (Bel.call HB6.out hb7)
      clear hb7
      try dsimp only at hV
      have HV := Lib.hid hV
      clear hV
      dsimp only
      go_wp2_with fail
      with_reducible refine (HSL.out V _ HV.out).mono ?_
      rintro e w8 ⟨⟨L, hL, rfl⟩, hb8⟩
      have HB8 := Lib.hid (Bel.call HB7.out hb8)
      clear hb8
      try dsimp only at hL
      have HL := Lib.hid hL
      clear hL
      dsimp only
      go_wp2_with fail
      with_reducible refine (HSG.out _).mono ?_
      rintro e w9 ⟨⟨G, hG, rfl⟩, hb9⟩
      have HB9 := Lib.hid (Bel.call HB8.out hb9)
      clear hb9
      try dsimp only at hG
      have HG := Lib.hid hG
      clear hG
      dsimp only
      go_wp2_with fail
      with_reducible refine (HBB.out S G _ HS.out HG.out).mono ?_
      rintro e w10 ⟨hx, hb10⟩
      have HB10 := Lib.hid (Bel.call HB9.out hb10)
      clear hb10
      obtain ⟨SB, GB, hSB, hGB, rfl⟩ := bs_bOf hx
      have HSB := Lib.hid hSB
      have HGB := Lib.hid hGB
      clear hx hSB hGB
      dsimp only
      go_wp2_with fail
      have hbS : Below w10.heap.size w10 (w10.alloc (.cells #[.int .i64 (X : Int), .string SB, .string GB] 29)) := (Below.refl w10.heap.size w10).alloc (Nat.le_refl _) _
      have hxS := r3_new w10 ((X : Int)) SB GB 29
      generalize w10.alloc (.cells #[.int .i64 (X : Int), .string SB, .string GB] 29) = wSB at hbS hxS ⊢
      have HB11 := Lib.hid (Bel.call HB10.out hbS)
      have HXB := Lib.hid hxS
      clear hbS hxS
      with_reducible refine (HSY.out _).mono ?_
      rintro e w12 ⟨⟨H, hH, rfl⟩, hb12⟩
      have HB12 := Lib.hid (Bel.call HB11.out hb12)
      replace HXB := Lib.hid (HXB.out.below hb12)
      clear hb12
      try dsimp only at hH
      have HH := Lib.hid hH
      clear hH
      dsimp only
      go_wp2_with fail
      with_reducible refine (HBC.out S H _ HS.out HH.out).mono ?_
      rintro e w13 ⟨hx, hb13⟩
      have HB13 := Lib.hid (Bel.call HB12.out hb13)
      replace HXB := Lib.hid (HXB.out.below hb13)
      clear hb13
      obtain ⟨SC, GC, hSC, hGC, rfl⟩ := bs_bOf hx
      have HSC := Lib.hid hSC
      have HGC := Lib.hid hGC
      clear hx hSC hGC
      dsimp only
      go_wp2_with fail
      have hbS : Below w13.heap.size w13 (w13.alloc (.cells #[.int .i64 (X : Int), .string SC, .string GC] 29)) := (Below.refl w13.heap.size w13).alloc (Nat.le_refl _) _
      have hxS := r3_new w13 ((X : Int)) SC GC 29
      generalize w13.alloc (.cells #[.int .i64 (X : Int), .string SC, .string GC] 29) = wSC at hbS hxS ⊢
      have HB14 := Lib.hid (Bel.call HB13.out hbS)
      replace HXB := Lib.hid (HXB.out.below hbS)
      have HXC := Lib.hid hxS
      clear hbS hxS
      refine wp_region_held_drew (S := fun w' => R3 w10.heap.size w' (X : Int) SB GB) (by kernel_rfl) (HXB.out.below (Below.drewN' (Below.refl wSC.heap.size wSC) 1)) (fun hHeld => ?_)
      refine wpAnyH_take (i := 0) (v := ?_) (by rw [List.getElem?_toArray]; rfl) (by kernel_rfl) (by kernel_rfl) (by kernel_rfl) (by exact fun _ _ _ h => h) (Or.inl ⟨by rfl, ?_⟩) (by assumption) ?_
      rotate_left
      · intro w' hSw
        obtain ⟨⟨_, c0, c1, c2⟩, _⟩ := hSw
        go_simp
        try with_reducible rfl
      try simp only [Act.put, List.setIfInBounds_toArray, List.set_cons_zero, List.set_cons_succ]
      refine wpAnyH_take (i := 2) (v := ?_) (by rw [List.getElem?_toArray]; rfl) (by kernel_rfl) (by kernel_rfl) (by kernel_rfl) (by exact fun _ _ _ h => h) (Or.inl ⟨by rfl, ?_⟩) (by assumption) ?_
      rotate_left
      · intro w' hSw
        obtain ⟨⟨_, c0, c1, c2⟩, _⟩ := hSw
        go_simp
        try with_reducible rfl
      try simp only [Act.put, List.setIfInBounds_toArray, List.set_cons_zero, List.set_cons_succ]
      refine wpAnyH_take (i := 3) (v := ?_) (by rw [List.getElem?_toArray]; rfl) (by kernel_rfl) (by kernel_rfl) (by kernel_rfl) (by exact fun _ _ _ h => h) (Or.inl ⟨by rfl, ?_⟩) (by assumption) ?_
      rotate_left
      · intro w' hSw
        obtain ⟨⟨_, c0, c1, c2⟩, _⟩ := hSw
        go_simp
        try with_reducible rfl
      try simp only [Act.put, List.setIfInBounds_toArray, List.set_cons_zero, List.set_cons_succ]
      have hdr : Below wSC.heap.size wSC wSC.drew := Below.drewN' (Below.refl wSC.heap.size wSC) 1
      clear hHeld
      generalize wSC.drew = wd15 at hdr ⊢
      have HB15 := Lib.hid (Bel.call HB14.out hdr)
      replace HXB := Lib.hid (HXB.out.below hdr)
      replace HXC := Lib.hid (HXC.out.below hdr)
      clear hdr
      refine wpAnyH_ready (rs := [1]) (by kernel_rfl) (by simp) ?_
      refine AllReadyH.cons (by rw [List.getElem?_toArray]; rfl) (fun K hK => ?_) AllReadyH.nil
      go_simp
      go_at_call 18
      with_reducible refine (HVF.out _).mono ?_
      rintro e w16 ⟨⟨AW1, cW1, vsW1, hvs, hvn, hvc, hvr, hvz, rfl⟩, hb16⟩
      have HB16 := Lib.hid (Bel.call HB15.out hb16)
      replace HXB := Lib.hid (HXB.out.below hb16)
      replace HXC := Lib.hid (HXC.out.below hb16)
      clear hb16
      have HSW1 := Lib.hid hvs
      have HNW1 := Lib.hid hvn
      have HRW1 := Lib.hid hvr
      have HCW1 := Lib.hid hvc
      clear hvs hvn hvc hvr hvz
      dsimp only
      refine hK.out _ _ HXB.out (fun hHeld => ?_)
      try simp only [Act.put, List.setIfInBounds_toArray, List.set_cons_zero, List.set_cons_succ]
      clear hHeld
      refine wpAnyH_ready (rs := [4]) (by kernel_rfl) (by simp) ?_
      refine AllReadyH.cons (by rw [List.getElem?_toArray]; rfl) (fun K hK => ?_) AllReadyH.nil
      go_simp
      go_at_call 17
      with_reducible refine (HO1.out SB GB L _ _ _ _ HSB.out HGB.out HL.out HSW1.out HRW1.out).mono ?_
      rintro e w17 ⟨⟨C1, hC1, rfl⟩, hb17⟩
      have HB17 := Lib.hid (Bel.call HB16.out hb17)
      replace HXB := Lib.hid (HXB.out.below hb17)
      replace HXC := Lib.hid (HXC.out.below hb17)
      replace HRW1 := Lib.hid (HRW1.out.below hb17 (Nat.le_refl _))
      clear hb17
      try dsimp only at hC1
      have HC1 := Lib.hid hC1
      clear hC1
      dsimp only
      refine hK.out _ _ HXB.out (fun hHeld => ?_)
      try simp only [Act.put, List.setIfInBounds_toArray, List.set_cons_zero, List.set_cons_succ]
      refine wpAnyH_take (i := 5) (v := ?_) (by rw [List.getElem?_toArray]; rfl) (by kernel_rfl) (by kernel_rfl) (by kernel_rfl) (by exact fun _ _ _ h => h) (Or.inl ⟨by rfl, ?_⟩) (by assumption) ?_
      rotate_left
      · intro w' hSw
        obtain ⟨⟨_, c0, c1, c2⟩, _⟩ := hSw
        go_simp
        try with_reducible rfl
      try simp only [Act.put, List.setIfInBounds_toArray, List.set_cons_zero, List.set_cons_succ]
      refine wpAnyH_take (i := 6) (v := ?_) (by rw [List.getElem?_toArray]; rfl) (by kernel_rfl) (by kernel_rfl) (by kernel_rfl) (by exact fun _ _ _ h => h) (Or.inl ⟨by rfl, ?_⟩) (by assumption) ?_
      rotate_left
      · intro w' hSw
        obtain ⟨⟨_, c0, c1, c2⟩, _⟩ := hSw
        go_simp
        try with_reducible rfl
      try simp only [Act.put, List.setIfInBounds_toArray, List.set_cons_zero, List.set_cons_succ]
      refine wpAnyH_take (i := 7) (v := ?_) (by rw [List.getElem?_toArray]; rfl) (by kernel_rfl) (by kernel_rfl) (by kernel_rfl) (by exact fun _ _ _ h => h) (Or.inl ⟨by rfl, ?_⟩) (by assumption) ?_
      rotate_left
      · intro w' hSw
        obtain ⟨⟨_, c0, c1, c2⟩, _⟩ := hSw
        go_simp
        try with_reducible rfl
      try simp only [Act.put, List.setIfInBounds_toArray, List.set_cons_zero, List.set_cons_succ]
      refine wpAnyH_take (i := 8) (v := ?_) (by rw [List.getElem?_toArray]; rfl) (by kernel_rfl) (by kernel_rfl) (by kernel_rfl) (by exact fun _ _ _ h => h) (Or.inl ⟨by rfl, ?_⟩) (by assumption) ?_
      rotate_left
      · intro w' hSw
        obtain ⟨⟨_, c0, c1, c2⟩, _⟩ := hSw
        go_simp
        try with_reducible rfl
      try simp only [Act.put, List.setIfInBounds_toArray, List.set_cons_zero, List.set_cons_succ]
      refine wpAnyH_take (i := 9) (v := ?_) (by rw [List.getElem?_toArray]; rfl) (by kernel_rfl) (by kernel_rfl) (by kernel_rfl) (by exact fun _ _ _ h => h) (Or.inl ⟨by rfl, ?_⟩) (by assumption) ?_
      rotate_left
      · intro w' hSw
        obtain ⟨⟨_, c0, c1, c2⟩, _⟩ := hSw
        go_simp
        try with_reducible rfl
      try simp only [Act.put, List.setIfInBounds_toArray, List.set_cons_zero, List.set_cons_succ]
      refine wpAnyH_done (by kernel_rfl) ?_ _
      clear hHeld HRW1
      go_wp2_with fail
      refine wp_region_held_drew (S := fun w' => R3 w13.heap.size w' (X : Int) SC GC) (by kernel_rfl) (HXC.out.below (Below.drewN' (Below.refl w17.heap.size w17) 1)) (fun hHeld => ?_)
      refine wpAnyH_take (i := 0) (v := ?_) (by rw [List.getElem?_toArray]; rfl) (by kernel_rfl) (by kernel_rfl) (by kernel_rfl) (by exact fun _ _ _ h => h) (Or.inl ⟨by rfl, ?_⟩) (by assumption) ?_
      rotate_left
      · intro w' hSw
        obtain ⟨⟨_, c0, c1, c2⟩, _⟩ := hSw
        go_simp
        try with_reducible rfl
      try simp only [Act.put, List.setIfInBounds_toArray, List.set_cons_zero, List.set_cons_succ]
      refine wpAnyH_take (i := 2) (v := ?_) (by rw [List.getElem?_toArray]; rfl) (by kernel_rfl) (by kernel_rfl) (by kernel_rfl) (by exact fun _ _ _ h => h) (Or.inl ⟨by rfl, ?_⟩) (by assumption) ?_
      rotate_left
      · intro w' hSw
        obtain ⟨⟨_, c0, c1, c2⟩, _⟩ := hSw
        go_simp
        try with_reducible rfl
      try simp only [Act.put, List.setIfInBounds_toArray, List.set_cons_zero, List.set_cons_succ]
      refine wpAnyH_take (i := 3) (v := ?_) (by rw [List.getElem?_toArray]; rfl) (by kernel_rfl) (by kernel_rfl) (by kernel_rfl) (by exact fun _ _ _ h => h) (Or.inl ⟨by rfl, ?_⟩) (by assumption) ?_
      rotate_left
      · intro w' hSw
        obtain ⟨⟨_, c0, c1, c2⟩, _⟩ := hSw
        go_simp
        try with_reducible rfl
      try simp only [Act.put, List.setIfInBounds_toArray, List.set_cons_zero, List.set_cons_succ]
      have hdr : Below w17.heap.size w17 w17.drew := Below.drewN' (Below.refl w17.heap.size w17) 1
      clear hHeld
      generalize w17.drew = wd18 at hdr ⊢
      have HB18 := Lib.hid (Bel.call HB17.out hdr)
      replace HXB := Lib.hid (HXB.out.below hdr)
      replace HXC := Lib.hid (HXC.out.below hdr)
      clear hdr
      refine wpAnyH_ready (rs := [1]) (by kernel_rfl) (by simp) ?_
      refine AllReadyH.cons (by rw [List.getElem?_toArray]; rfl) (fun K hK => ?_) AllReadyH.nil
      go_simp
      go_at_call 18
      with_reducible refine (HVF.out _).mono ?_
      rintro e w19 ⟨⟨AW2, cW2, vsW2, hvs, hvn, hvc, hvr, hvz, rfl⟩, hb19⟩
      have HB19 := Lib.hid (Bel.call HB18.out hb19)
      replace HXB := Lib.hid (HXB.out.below hb19)
      replace HXC := Lib.hid (HXC.out.below hb19)
      clear hb19
      have HSW2 := Lib.hid hvs
      have HNW2 := Lib.hid hvn
      have HRW2 := Lib.hid hvr
      have HCW2 := Lib.hid hvc
      clear hvs hvn hvc hvr hvz
      dsimp only
      refine hK.out _ _ HXC.out (fun hHeld => ?_)
      try simp only [Act.put, List.setIfInBounds_toArray, List.set_cons_zero, List.set_cons_succ]
      clear hHeld
      refine wpAnyH_ready (rs := [4]) (by kernel_rfl) (by simp) ?_
      refine AllReadyH.cons (by rw [List.getElem?_toArray]; rfl) (fun K hK => ?_) AllReadyH.nil
      go_simp
      go_at_call 17
      with_reducible refine (HO2.out SC GC L _ _ _ _ HSC.out HGC.out HL.out HSW2.out HRW2.out).mono ?_
      rintro e w20 ⟨⟨C2, hC2, rfl⟩, hb20⟩
      have HB20 := Lib.hid (Bel.call HB19.out hb20)
      replace HXB := Lib.hid (HXB.out.below hb20)
      replace HXC := Lib.hid (HXC.out.below hb20)
      replace HRW2 := Lib.hid (HRW2.out.below hb20 (Nat.le_refl _))
      clear hb20
      try dsimp only at hC2
      have HC2 := Lib.hid hC2
      clear hC2
      dsimp only
      refine hK.out _ _ HXC.out (fun hHeld => ?_)
      try simp only [Act.put, List.setIfInBounds_toArray, List.set_cons_zero, List.set_cons_succ]
      refine wpAnyH_take (i := 5) (v := ?_) (by rw [List.getElem?_toArray]; rfl) (by kernel_rfl) (by kernel_rfl) (by kernel_rfl) (by exact fun _ _ _ h => h) (Or.inl ⟨by rfl, ?_⟩) (by assumption) ?_
      rotate_left
      · intro w' hSw
        obtain ⟨⟨_, c0, c1, c2⟩, _⟩ := hSw
        go_simp
        try with_reducible rfl
      try simp only [Act.put, List.setIfInBounds_toArray, List.set_cons_zero, List.set_cons_succ]
      refine wpAnyH_take (i := 6) (v := ?_) (by rw [List.getElem?_toArray]; rfl) (by kernel_rfl) (by kernel_rfl) (by kernel_rfl) (by exact fun _ _ _ h => h) (Or.inl ⟨by rfl, ?_⟩) (by assumption) ?_
      rotate_left
      · intro w' hSw
        obtain ⟨⟨_, c0, c1, c2⟩, _⟩ := hSw
        go_simp
        try with_reducible rfl
      try simp only [Act.put, List.setIfInBounds_toArray, List.set_cons_zero, List.set_cons_succ]
      refine wpAnyH_take (i := 7) (v := ?_) (by rw [List.getElem?_toArray]; rfl) (by kernel_rfl) (by kernel_rfl) (by kernel_rfl) (by exact fun _ _ _ h => h) (Or.inl ⟨by rfl, ?_⟩) (by assumption) ?_
      rotate_left
      · intro w' hSw
        obtain ⟨⟨_, c0, c1, c2⟩, _⟩ := hSw
        go_simp
        try with_reducible rfl
      try simp only [Act.put, List.setIfInBounds_toArray, List.set_cons_zero, List.set_cons_succ]
      refine wpAnyH_take (i := 8) (v := ?_) (by rw [List.getElem?_toArray]; rfl) (by kernel_rfl) (by kernel_rfl) (by kernel_rfl) (by exact fun _ _ _ h => h) (Or.inl ⟨by rfl, ?_⟩) (by assumption) ?_
      rotate_left
      · intro w' hSw
        obtain ⟨⟨_, c0, c1, c2⟩, _⟩ := hSw
        go_simp
        try with_reducible rfl
      try simp only [Act.put, List.setIfInBounds_toArray, List.set_cons_zero, List.set_cons_succ]
      refine wpAnyH_take (i := 9) (v := ?_) (by rw [List.getElem?_toArray]; rfl) (by kernel_rfl) (by kernel_rfl) (by kernel_rfl) (by exact fun _ _ _ h => h) (Or.inl ⟨by rfl, ?_⟩) (by assumption) ?_
      rotate_left
      · intro w' hSw
        obtain ⟨⟨_, c0, c1, c2⟩, _⟩ := hSw
        go_simp
        try with_reducible rfl
      try simp only [Act.put, List.setIfInBounds_toArray, List.set_cons_zero, List.set_cons_succ]
      refine wpAnyH_done (by kernel_rfl) ?_ _
      clear hHeld HRW2
      obtain ⟨⟨_, dB0, dB1, dB2⟩, kB0, kB1, kB2⟩ := HXB.out
      go_wp2_with fail
      clear dB0 dB1 dB2 kB0 kB1 kB2
      have hxS := r3_set0 (e := (Y : Int)) HXB.out
      have HB21 : Hid (Below w.heap.size w (w20.setCell ⟨w10.heap.size, 0, none⟩ (.int .i64 (Y : Int)))) := Lib.hid (HB20.out.setCell HB10.out.size _)
      generalize w20.setCell ⟨w10.heap.size, 0, none⟩ (.int .i64 (Y : Int)) = wE21 at hxS HB21 ⊢
      replace HXB := Lib.hid hxS
      clear hxS
      clear HXC
      have HSB3 := HB3S.out SB HSB.out
      have HGB3 := HB3G.out GB HGB.out
      refine wp_region_held_drew (S := fun w' => R3 w10.heap.size w' (Y : Int) SB GB) (by kernel_rfl) (HXB.out.below (Below.drewN' (Below.refl wE21.heap.size wE21) 1)) (fun hHeld => ?_)
      refine wpAnyH_take (i := 0) (v := ?_) (by rw [List.getElem?_toArray]; rfl) (by kernel_rfl) (by kernel_rfl) (by kernel_rfl) (by exact fun _ _ _ h => h) (Or.inl ⟨by rfl, ?_⟩) (by assumption) ?_
      rotate_left
      · intro w' hSw
        obtain ⟨⟨_, c0, c1, c2⟩, _⟩ := hSw
        go_simp
        try with_reducible rfl
      try simp only [Act.put, List.setIfInBounds_toArray, List.set_cons_zero, List.set_cons_succ]
      refine wpAnyH_take (i := 2) (v := ?_) (by rw [List.getElem?_toArray]; rfl) (by kernel_rfl) (by kernel_rfl) (by kernel_rfl) (by exact fun _ _ _ h => h) (Or.inl ⟨by rfl, ?_⟩) (by assumption) ?_
      rotate_left
      · intro w' hSw
        obtain ⟨⟨_, c0, c1, c2⟩, _⟩ := hSw
        go_simp
        try with_reducible rfl
      try simp only [Act.put, List.setIfInBounds_toArray, List.set_cons_zero, List.set_cons_succ]
      refine wpAnyH_take (i := 3) (v := ?_) (by rw [List.getElem?_toArray]; rfl) (by kernel_rfl) (by kernel_rfl) (by kernel_rfl) (by exact fun _ _ _ h => h) (Or.inl ⟨by rfl, ?_⟩) (by assumption) ?_
      rotate_left
      · intro w' hSw
        obtain ⟨⟨_, c0, c1, c2⟩, _⟩ := hSw
        go_simp
        try with_reducible rfl
      try simp only [Act.put, List.setIfInBounds_toArray, List.set_cons_zero, List.set_cons_succ]
      have hdr : Below wE21.heap.size wE21 wE21.drew := Below.drewN' (Below.refl wE21.heap.size wE21) 1
      clear hHeld
      generalize wE21.drew = wd22 at hdr ⊢
      have HB22 := Lib.hid (Bel.call HB21.out hdr)
      replace HXB := Lib.hid (HXB.out.below hdr)
      clear hdr
      refine wpAnyH_ready (rs := [1]) (by kernel_rfl) (by simp) ?_
      refine AllReadyH.cons (by rw [List.getElem?_toArray]; rfl) (fun K hK => ?_) AllReadyH.nil
      go_simp
      go_at_call 18
      with_reducible refine (HVF.out _).mono ?_
      rintro e w23 ⟨⟨AW3, cW3, vsW3, hvs, hvn, hvc, hvr, hvz, rfl⟩, hb23⟩
      have HB23 := Lib.hid (Bel.call HB22.out hb23)
      replace HXB := Lib.hid (HXB.out.below hb23)
      clear hb23
      have HSW3 := Lib.hid hvs
      have HNW3 := Lib.hid hvn
      have HRW3 := Lib.hid hvr
      have HCW3 := Lib.hid hvc
      clear hvs hvn hvc hvr hvz
      dsimp only
      refine hK.out _ _ HXB.out (fun hHeld => ?_)
      try simp only [Act.put, List.setIfInBounds_toArray, List.set_cons_zero, List.set_cons_succ]
      clear hHeld
      refine wpAnyH_ready (rs := [4]) (by kernel_rfl) (by simp) ?_
      refine AllReadyH.cons (by rw [List.getElem?_toArray]; rfl) (fun K hK => ?_) AllReadyH.nil
      go_simp
      go_at_call 17
      with_reducible refine (HO3.out SB GB L _ _ _ _ HSB3.out HGB3.out HL.out HSW3.out HRW3.out).mono ?_
      rintro e w24 ⟨⟨C3, hC3, rfl⟩, hb24⟩
      have HB24 := Lib.hid (Bel.call HB23.out hb24)
      replace HXB := Lib.hid (HXB.out.below hb24)
      replace HRW3 := Lib.hid (HRW3.out.below hb24 (Nat.le_refl _))
      clear hb24
      try dsimp only at hC3
      have HC3 := Lib.hid hC3
      clear hC3
      dsimp only
      refine hK.out _ _ HXB.out (fun hHeld => ?_)
      try simp only [Act.put, List.setIfInBounds_toArray, List.set_cons_zero, List.set_cons_succ]
      refine wpAnyH_take (i := 5) (v := ?_) (by rw [List.getElem?_toArray]; rfl) (by kernel_rfl) (by kernel_rfl) (by kernel_rfl) (by exact fun _ _ _ h => h) (Or.inl ⟨by rfl, ?_⟩) (by assumption) ?_
      rotate_left
      · intro w' hSw
        obtain ⟨⟨_, c0, c1, c2⟩, _⟩ := hSw
        go_simp
        try with_reducible rfl
      try simp only [Act.put, List.setIfInBounds_toArray, List.set_cons_zero, List.set_cons_succ]
      refine wpAnyH_take (i := 6) (v := ?_) (by rw [List.getElem?_toArray]; rfl) (by kernel_rfl) (by kernel_rfl) (by kernel_rfl) (by exact fun _ _ _ h => h) (Or.inl ⟨by rfl, ?_⟩) (by assumption) ?_
      rotate_left
      · intro w' hSw
        obtain ⟨⟨_, c0, c1, c2⟩, _⟩ := hSw
        go_simp
        try with_reducible rfl
      try simp only [Act.put, List.setIfInBounds_toArray, List.set_cons_zero, List.set_cons_succ]
      refine wpAnyH_take (i := 7) (v := ?_) (by rw [List.getElem?_toArray]; rfl) (by kernel_rfl) (by kernel_rfl) (by kernel_rfl) (by exact fun _ _ _ h => h) (Or.inl ⟨by rfl, ?_⟩) (by assumption) ?_
      rotate_left
      · intro w' hSw
        obtain ⟨⟨_, c0, c1, c2⟩, _⟩ := hSw
        go_simp
        try with_reducible rfl
      try simp only [Act.put, List.setIfInBounds_toArray, List.set_cons_zero, List.set_cons_succ]
      refine wpAnyH_take (i := 8) (v := ?_) (by rw [List.getElem?_toArray]; rfl) (by kernel_rfl) (by kernel_rfl) (by kernel_rfl) (by exact fun _ _ _ h => h) (Or.inl ⟨by rfl, ?_⟩) (by assumption) ?_
      rotate_left
      · intro w' hSw
        obtain ⟨⟨_, c0, c1, c2⟩, _⟩ := hSw
        go_simp
        try with_reducible rfl
      try simp only [Act.put, List.setIfInBounds_toArray, List.set_cons_zero, List.set_cons_succ]
      refine wpAnyH_take (i := 9) (v := ?_) (by rw [List.getElem?_toArray]; rfl) (by kernel_rfl) (by kernel_rfl) (by kernel_rfl) (by exact fun _ _ _ h => h) (Or.inl ⟨by rfl, ?_⟩) (by assumption) ?_
      rotate_left
      · intro w' hSw
        obtain ⟨⟨_, c0, c1, c2⟩, _⟩ := hSw
        go_simp
        try with_reducible rfl
      try simp only [Act.put, List.setIfInBounds_toArray, List.set_cons_zero, List.set_cons_succ]
      refine wpAnyH_done (by kernel_rfl) ?_ _
      clear hHeld HRW3
      obtain rfl : C1 = ⟨#[]⟩ := str_eq HC1.out
      obtain rfl : C2 = ⟨#[]⟩ := str_eq HC2.out
      obtain rfl : C3 = ⟨#[]⟩ := str_eq HC3.out
      go_wp2
      go_ret
      exact ⟨rfl, HB24.out⟩
end Go.Proofs.Ytjdignbmlfbdnaa.Dta
