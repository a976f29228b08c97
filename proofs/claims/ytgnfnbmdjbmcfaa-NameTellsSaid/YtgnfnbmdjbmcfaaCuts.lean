/-
  THE WALK OF NameCuts. By an AI agent; no person has read it.
-/
import Derived.Test.YtgnfnbmdjbmcfaaRunes
import Derived.Test.YtgnfnbmdjbmcfaaSplits
namespace Go.Proofs.Ytgnfnbmdjbmcfaa
open Go.RowKit Txt

theorem runes_name (s : ByteArray) (w : World) (h : right s.data.toList = true) :
    Calls Try.prog 13 #[.string s] w fun e w' => ∃ (rs : List Int) (a : Option Addr) (cap : Nat), runes s.data.toList = some rs ∧ 1 ≤ rs.length ∧ rs.length ≤ 32 ∧ (∀ r ∈ rs, letter r = true) ∧ enc rs = s.data.toList ∧
      e = .returned (.tuple #[.slice a rs.length cap, .int .i64 0]) ∧ rs.length ≤ cap ∧ Reads .i32 w' a rs ∧ Below w.heap.size w w' := by
  obtain ⟨rs, h1, h2, h3, h4, h5⟩ := right_runes h
  refine (runes_any s w (by have := right_size h; omega)).mono ?_
  rintro e w' ⟨⟨h0, _⟩ | ⟨qs, v, h0, rfl, hown⟩, hb⟩
  · rw [h1] at h0; cases h0
  · rw [h1] at h0
    obtain rfl := Option.some.inj h0
    obtain ⟨_, a, cap, rfl, hc, hr⟩ := own_reads hown
    exact ⟨rs, a, cap, h1, h2, h3, h4, h5, rfl, hc, hr, hb⟩

theorem pick_is (c n : Int) (w : World) {v : Int} (h : pk c n = v) (h0 : -9223372036854775808 ≤ c) (h1 : c ≤ 9223372036854775807) (hn : 0 < n) (hn2 : n ≤ 1000000) :
    Calls Try.prog 29 #[.int .i64 c, .int .i64 n] w fun e w' => e = .returned (.int .i64 v) ∧ w' = w := by
  subst h
  exact pick_any c n w h0 h1 hn hn2
theorem make_len (a : Option Addr) (cap : Nat) (zs : List Int) {n : Nat} (w : World) (hl : zs.length = n) (hn : n ≤ 35184372088832) (hr : Reads .i32 w a zs) :
    Calls Try.prog 26 #[.slice a n cap] w fun e w' => Made zs e ∧ w = w' := by
  subst hl
  exact make_any a cap zs w hn hr
theorem right_both {a b : List Int} (ha1 : 1 ≤ a.length) (ha : ∀ r ∈ a, letter r = true) (hb : ∀ r ∈ b, letter r = true) : right (enc a ++ enc b) = decide (a.length + b.length ≤ 32) := by
  rw [← enc_append]
  unfold right
  rw [runes_enc fun r hr => by
    rcases List.mem_append.1 hr with h | h
    · exact letter_valid (ha r h)
    · exact letter_valid (hb r h)]
  have : (a ++ b).all letter = true := List.all_eq_true.2 fun r hr => by
    rcases List.mem_append.1 hr with h | h
    · exact ha r h
    · exact hb r h
  simp only [nameOf, this, Bool.and_true, List.length_append]
  exact decide_eq_decide.2 (by omega)
/-- A piece of a slice reads as that piece. -/
theorem Reads.piece {k : IntKind} {w : World} {a : Option Addr} {zs : List Int} (h : Reads k w a zs) (b off : Nat) (ha : a = some ⟨b, off, none⟩) (i j : Nat) (hj : j ≤ zs.length) : Reads k w (some ⟨b, off + i, none⟩) ((zs.take j).drop i) := fun m hm => by
  rw [List.length_drop, List.length_take] at hm
  obtain ⟨b', off', e, hlt, hc⟩ := h (i + m) (by omega)
  rw [ha] at e
  obtain ⟨rfl, rfl⟩ : b = b' ∧ off = off' := by simpa using e
  refine ⟨b, off + i, rfl, hlt, ?_⟩
  rw [Nat.add_assoc, hc]
  simp only [List.getD, List.getElem?_drop, List.getElem?_take_of_lt (show i + m < j by omega)]

set_option maxHeartbeats 800000 in
set_option maxRecDepth 100000 in
theorem cuts_walk (a1 : Option Addr) (cap1 : Nat) (l1 : List Int) (a2 : Option Addr) (cap2 : Nat) (l2 : List Int) (from_ to_ : Int) (w : World)
    (r1 : Reads .i64 w a1 l1) (wf1 : ∀ z ∈ l1, (Lit.int .i64 z).wf = true) (r2 : Reads .i64 w a2 l2) (wf2 : ∀ z ∈ l2, (Lit.int .i64 z).wf = true) (w3 : (Lit.int .i64 from_).wf = true) (w4 : (Lit.int .i64 to_).wf = true) :
    Calls Try.prog 11 #[.slice a1 l1.length cap1, .slice a2 l2.length cap2, .int .i64 from_, .int .i64 to_] w fun e w' => e = .returned (.bool true) ∧ Below w.heap.size w w' := by
  have R1 := Lib.hid r1; have R2 := Lib.hid r2; have W1 := Lib.hid wf1; have W2 := Lib.hid wf2
  obtain ⟨f0, f1⟩ := bounds_i64 w3
  obtain ⟨t0, t1⟩ := bounds_i64 w4
  clear r1 r2 wf1 wf2 w3 w4
  go_enter Try.func11, Try.ntmps11
  go_wp2_with fail
  refine (shown_any _).mono ?_
  rintro e w1 ⟨rfl, B1⟩
  go_wp2_with fail
  refine (named_call a1 cap1 l1 _ (R1.out.below B1) W1.out).mono ?_
  rintro e w4 ⟨X, rfl, hX, sX, b4⟩
  have B4 := B1.trans (b4.mono B1.size)
  clear B1 b4
  have HX := Lib.hid hX
  clear hX
  go_wp2_with fail
  refine (named_call a2 cap2 l2 _ (R2.out.below B4) W2.out).mono ?_
  rintro e w5 ⟨Y, rfl, hY, sY, b5⟩
  have B5 := B4.trans (b5.mono B4.size)
  clear B4 b5
  have HY := Lib.hid hY
  clear hY
  go_wp2_with fail
  refine (runes_name X _ HX.out).mono ?_
  rintro e w6 ⟨rs, ra, rcap, hr1, hr2, hr3, hr4, hr5, rfl, hrc, hrr, b6⟩
  have B6 := B5.trans (b6.mono B5.size)
  clear B5 b6
  go_wp2_with fail
  refine (runes_name Y _ HY.out).mono ?_
  rintro e w7 ⟨qs, qa, qcap, hq1, hq2, hq3, hq4, hq5, rfl, hqc, hqr, b7⟩
  have hrr := hrr.below b7
  have B7 := B6.trans (b7.mono B6.size)
  obtain ⟨b, off, rfl, hz1, hz2⟩ := hrr 0 (by omega)
  clear hz1 hz2
  have HRR := Lib.hid hrr
  have HR1 := Lib.hid hr1; have HR4 := Lib.hid hr4; have HR5 := Lib.hid hr5; have HQ1 := Lib.hid hq1; have HQ4 := Lib.hid hq4; have HQ5 := Lib.hid hq5
  clear B6 b7 hrr hqr hr1 hr4 hr5 hq1 hq4 hq5
  have p0 : (0 : Int) < ↑rs.length := by omega
  have z0 : ((rs.length : Int) == 0) = false := beq_eq_false_iff_ne.2 (by omega)
  obtain ⟨A, hA⟩ : ∃ A : Nat, pk from_ ↑rs.length = A := ⟨(pk from_ ↑rs.length).toNat, by have := pk_bd from_ p0; omega⟩
  have hA1 : A < rs.length := by have := pk_bd from_ p0; omega
  have p1 : (0 : Int) < ↑rs.length - ↑A := by omega
  have p2 : (↑rs.length - ↑A : Int) ≤ 1000000 := by omega
  obtain ⟨D, hD⟩ : ∃ D : Nat, pk to_ (↑rs.length - ↑A) = D := ⟨(pk to_ (↑rs.length - ↑A)).toNat, by have := pk_bd to_ p1; omega⟩
  have hD1 : A + D < rs.length := by have := pk_bd to_ p1; omega
  have HA := Lib.hid hA
  have HD := Lib.hid hD
  clear hA hD
  go_wp2_with fail
  go_fit (pick_is from_ ↑rs.length _ HA.out f0 f1 p0 (by omega))
  rintro e w8 ⟨rfl, rfl⟩
  go_wp2_with fail
  have hpk := fun w => pick_is to_ (↑rs.length - ↑A) w HD.out t0 t1 p1 p2
  refine (hpk _).mono ?_
  rintro e w9 ⟨rfl, rfl⟩
  go_wp2_with fail
  have hpl : ((rs.take (A + 1 + D)).drop A).length = A + 1 + D - A := by rw [List.length_drop, List.length_take]; omega
  have hpr : ∀ r ∈ (rs.take (A + 1 + D)).drop A, letter r = true := fun r hr => HR4.out r (List.mem_of_mem_take (List.mem_of_mem_drop hr))
  have hpp := HRR.out.piece b off rfl A (A + 1 + D) (by omega)
  obtain ⟨ps, hps⟩ : ∃ ps, (rs.take (A + 1 + D)).drop A = ps := ⟨_, rfl⟩
  rw [hps] at hpl hpr hpp
  have hT := right_of (rs := ps) (by omega) (by omega) hpr
  have hB := right_both (b := qs) (by omega) HR4.out HQ4.out
  rw [HR5.out, HQ5.out] at hB
  have hB2 : right (X ++ Y).data.toList = decide (rs.length + qs.length ≤ 32) := by rw [app_data]; exact hB
  have hmk := make_len (some ⟨b, off + A, none⟩) (rcap - A) ps w9 hpl (by omega) hpp
  have HT := Lib.hid hT
  have HB := Lib.hid hB2
  have HPR := Lib.hid hpr
  have hsz3 : X.size + Y.size ≤ 256 := by omega
  clear hps hpl hpr hpp hT hB hB2
  refine hmk.mono ?_
  clear hmk
  rintro e w10 ⟨⟨hv, rfl⟩ | ⟨hv, rfl⟩, rfl⟩
  · exfalso
    rw [List.all_eq_true.2 fun r hr => letter_valid (HPR.out r hr)] at hv
    cases hv
  · clear hv
    go_wp2_with fail
    refine (right_is _ true HT.out _).mono ?_
    rintro e w11 ⟨rfl, b11⟩
    have B11 := B7.trans (b11.mono B7.size)
    clear b11
    by_cases h32 : rs.length + qs.length ≤ 32
    · have h32' : (↑rs.length + ↑qs.length : Int) ≤ 32 := by omega
      go_wp2_with fail
      refine (right_is _ true (by rw [HB.out]; exact decide_eq_true h32) _).mono ?_
      rintro e w12 ⟨rfl, b12⟩
      have B12 := B11.trans (b12.mono B11.size)
      clear b12
      go_wp2_with fail
      refine (right_is _ false right_nil _).mono ?_
      rintro e w13 ⟨rfl, b13⟩
      go_wp2_with fail
      go_ret
      exact ⟨rfl, B12.trans (b13.mono B12.size)⟩
    · have h32' : (32 : Int) < ↑rs.length + ↑qs.length := by omega
      go_wp2_with fail
      refine (right_is _ false (by rw [HB.out]; exact decide_eq_false h32) _).mono ?_
      rintro e w12 ⟨rfl, b12⟩
      have B12 := B11.trans (b12.mono B11.size)
      clear b12
      go_wp2_with fail
      refine (right_is _ false right_nil _).mono ?_
      rintro e w13 ⟨rfl, b13⟩
      go_wp2_with fail
      go_ret
      exact ⟨ret_bool (by rw [decide_eq_false (by omega)]; rfl), B12.trans (b13.mono B12.size)⟩
end Go.Proofs.Ytgnfnbmdjbmcfaa
