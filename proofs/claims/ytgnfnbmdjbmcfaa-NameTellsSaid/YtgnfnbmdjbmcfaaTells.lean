/-
  THE WALK OF NameTells. By an AI agent; no person has read it.
-/
import Derived.Test.YtgnfnbmdjbmcfaaRefFold
import Derived.Test.YtgnfnbmdjbmcfaaBack
namespace Go.Proofs.Ytgnfnbmdjbmcfaa
open Go.RowKit Txt

def spA (l : List UInt8) : ByteArray := match split l with | some (a, _) => ⟨a.toArray⟩ | none => ⟨#[]⟩
def spB (l : List UInt8) : ByteArray := match split l with | some (_, b) => ⟨b.toArray⟩ | none => ⟨#[]⟩
def spG (l : List UInt8) : Int := match split l with | some _ => 0 | none => 3
theorem parted_fn {l : List UInt8} {e : Ending} (h : Parted l e) : e = .returned (.tuple #[.string (spA l), .string (spB l), .int .i64 (spG l)]) := by
  rcases h with ⟨h, rfl⟩ | ⟨a, b, h, rfl⟩ <;> simp only [spA, spB, spG, h]
def paQ (a b : List UInt8) : ByteArray := if right a = true ∧ right b = true then ⟨(a ++ 47 :: b).toArray⟩ else ⟨#[]⟩
def paG (a b : List UInt8) : Int := if right a = true ∧ right b = true then 0 else 3

theorem path_fn (a b : ByteArray) (w : World) : Calls Try.prog 17 #[.string a, .string b] w fun e w' => e = .returned (.tuple #[.string (paQ a.data.toList b.data.toList), .int .i64 (paG a.data.toList b.data.toList)]) ∧ Below w.heap.size w w' := by
  by_cases h : right a.data.toList = true ∧ right b.data.toList = true
  · refine (path_yes a b w h.1 h.2).mono ?_
    rintro e w' ⟨Q, rfl, hQ, _, hb⟩
    refine ⟨?_, hb⟩
    rw [bytes_of hQ, paQ, paG, if_pos h, if_pos h]
  · have h' : right a.data.toList = false ∨ right b.data.toList = false := by
      cases ha : right a.data.toList with
      | false => exact .inl rfl
      | true =>
        cases hb : right b.data.toList with
        | false => exact .inr rfl
        | true => exact absurd ⟨ha, hb⟩ h
    refine (path_no a b w h').mono ?_
    rintro e w' ⟨rfl, hb⟩
    refine ⟨?_, hb⟩
    rw [paQ, paG, if_neg h, if_neg h]
theorem refpath_fn (a b : ByteArray) (w : World) (sa : a.size ≤ 1000000) (sb : b.size ≤ 1000000) : Calls Try.prog 18 #[.string a, .string b] w fun e w' => e = .returned (.tuple #[.string (paQ a.data.toList b.data.toList), .int .i64 (paG a.data.toList b.data.toList)]) ∧ Below w.heap.size w w' := by
  by_cases h : right a.data.toList = true ∧ right b.data.toList = true
  · refine (refpath_yes a b w h.1 h.2).mono ?_
    rintro e w' ⟨Q, rfl, hQ, hb⟩
    refine ⟨?_, hb⟩
    rw [bytes_of hQ, paQ, paG, if_pos h, if_pos h]
  · have h' : right a.data.toList = false ∨ right b.data.toList = false := by
      cases ha : right a.data.toList with
      | false => exact .inl rfl
      | true =>
        cases hb : right b.data.toList with
        | false => exact .inr rfl
        | true => exact absurd ⟨ha, hb⟩ h
    refine (refpath_no a b w sa sb h').mono ?_
    rintro e w' ⟨rfl, hb⟩
    refine ⟨?_, hb⟩
    rw [paQ, paG, if_neg h, if_neg h]
theorem refrunes_yes (s : ByteArray) (rs : List Int) (w : World) (hs : s.size ≤ 1000000) (h : runes s.data.toList = some rs) :
    Calls Try.prog 14 #[.string s] w fun e w' => ∃ (a : Option Addr) (cap : Nat), e = .returned (.tuple #[.slice a rs.length cap, .int .i64 0]) ∧ Reads .i32 w' a rs ∧ Below w.heap.size w w' := by
  refine (refrunes_any s w hs).mono ?_
  rintro e w' ⟨⟨h0, _⟩ | ⟨qs, v, h0, rfl, hown⟩, hb⟩
  · rw [h] at h0; cases h0
  · rw [h] at h0
    obtain rfl := Option.some.inj h0
    obtain ⟨_, a, cap, rfl, _, hr⟩ := own_reads hown
    exact ⟨a, cap, rfl, hr, hb⟩
theorem refrunes_no (s : ByteArray) (w : World) (hs : s.size ≤ 1000000) (h : runes s.data.toList = none) :
    Calls Try.prog 14 #[.string s] w fun e w' => e = .returned (.tuple #[.slice none 0 0, .int .i64 2]) ∧ Below w.heap.size w w' := by
  refine (refrunes_any s w hs).mono ?_
  rintro e w' ⟨⟨_, rfl⟩ | ⟨qs, v, h0, _⟩, hb⟩
  · exact ⟨rfl, hb⟩
  · rw [h] at h0; cases h0

set_option maxHeartbeats 4000000 in
set_option maxRecDepth 1000000 in
theorem tells_walk (s t : ByteArray) (w : World) (hs : s.size ≤ 140737488351232) (ht : t.size ≤ 140737488351232) :
    Calls Try.prog 3 #[.string s, .string t] w fun e w' => e = .returned (.bool true) ∧ Below w.heap.size w w' := by
  by_cases hl : (2000 : Int) < ↑s.size + ↑t.size
  · go_enter Try.func3, Try.ntmps3
    go_wp2_with fail
    refine (shown_any _).mono ?_
    rintro e w1 ⟨rfl, b1⟩
    go_wp2_with fail
    go_ret
    exact ⟨rfl, b1⟩
  have hl' : (↑s.size + ↑t.size : Int) ≤ 2000 := by omega
  have hs' : s.size ≤ 1000000 := by omega
  have ht' : t.size ≤ 1000000 := by omega
  clear hl
  obtain ⟨R, hR⟩ : ∃ R, right s.data.toList = R := ⟨_, rfl⟩
  obtain ⟨L, hL⟩ : ∃ L, Op.bytesLess s.data.toList t.data.toList = L := ⟨_, rfl⟩
  have HR := Lib.hid hR
  have HL := Lib.hid hL
  clear hR hL
  go_enter Try.func3, Try.ntmps3
  go_wp2_with fail
  refine (shown_any _).mono ?_
  rintro e w1 ⟨rfl, B1⟩
  go_wp2_with fail
  cases hru : runes s.data.toList with
  | none =>
    have HU := Lib.hid hru
    clear hru
    refine (runes_no s _ hs' HU.out).mono ?_
    rintro e w2 ⟨rfl, b2⟩
    have B2 := B1.trans (b2.mono B1.size)
    clear b2 B1
    go_wp2_with fail
    refine (refrunes_no s _ hs' HU.out).mono ?_
    rintro e w3 ⟨rfl, b3⟩
    have B3 := B2.trans (b3.mono B2.size)
    clear b3 B2
    go_wp2_with fail
    refine (split_any s _ (by omega)).mono ?_
    rintro e w4 ⟨hp, b4⟩
    obtain rfl := parted_fn hp
    have B4 := B3.trans (b4.mono B3.size)
    clear hp b4 B3
    go_wp2_with fail
    refine (refsplit_any s _ hs').mono ?_
    rintro e w5 ⟨hp, b5⟩
    obtain rfl := parted_fn hp
    have B5 := B4.trans (b5.mono B4.size)
    clear hp b5 B4
    go_wp2_with fail
    refine (path_fn s t _).mono ?_
    rintro e w6 ⟨rfl, b6⟩
    have B6 := B5.trans (b6.mono B5.size)
    clear b6 B5
    go_wp2_with fail
    refine (refpath_fn s t _ hs' ht').mono ?_
    rintro e w7 ⟨rfl, b7⟩
    have B7 := B6.trans (b7.mono B6.size)
    clear b7 B6
    go_wp2_with fail
    refine (right_is s R HR.out _).mono ?_
    rintro e w8 ⟨rfl, b8⟩
    have B8 := B7.trans (b8.mono B7.size)
    clear b8 B7
    go_wp2_with fail
    refine (refright_is s R HR.out _ hs').mono ?_
    rintro e w9 ⟨rfl, b9⟩
    have B9 := B8.trans (b9.mono B8.size)
    clear b9 B8
    go_wp2_with fail
    refine (same_yes none none 0 0 [] _ (by simp) (fun j hj => by simp at hj) (fun j hj => by simp at hj)).mono ?_
    rintro e w10 ⟨rfl, b10⟩
    have B10 := B9.trans (b10.mono B9.size)
    clear b10 B9
    go_wp2_with fail
    refine (fold_call s _ hs').mono ?_
    rintro e w11 ⟨U, rfl, hU, _, b11⟩
    have B11 := B10.trans (b11.mono B10.size)
    have HU1 := Lib.hid hU
    clear b11 B10 hU
    go_wp2_with fail
    refine (reffold_any s _ hs').mono ?_
    rintro e w12 ⟨V, rfl, hV, b12⟩
    have B12 := B11.trans (b12.mono B11.size)
    have heq := eq_bool (s := U) (t := V) (HU1.out.trans hV.symm)
    clear b12 B11 hV
    go_wp2_with fail
    refine (less_call s t L HL.out _).mono ?_
    rintro e w13 ⟨rfl, rfl⟩
    go_wp2_with fail
    have hrl := refless_any s t w12 hs'
    rw [HL.out] at hrl
    refine hrl.mono ?_
    clear hrl
    rintro e w14 ⟨rfl, b14⟩
    have B14 := B12.trans (b14.mono B12.size)
    go_wp2_with fail
    go_ret
    exact ⟨by simp, B14⟩
  | some rs =>
    have HU := Lib.hid hru
    have hlen := runes_len hru
    rw [← Lib.size_eq] at hlen
    clear hru
    refine (runes_yes s rs _ hs' HU.out).mono ?_
    rintro e w2 ⟨ra, rcap, rfl, _, hrr, b2⟩
    have B2 := B1.trans (b2.mono B1.size)
    have HRR := Lib.hid hrr
    clear b2 B1 hrr
    go_wp2_with fail
    refine (refrunes_yes s rs _ hs' HU.out).mono ?_
    rintro e w3 ⟨qa, qcap, rfl, hqr, b3⟩
    have B3 := B2.trans (b3.mono B2.size)
    have HRR3 := Lib.hid (HRR.out.below b3)
    have HQR := Lib.hid hqr
    clear b3 B2 hqr HRR
    go_wp2_with fail
    refine (split_any s _ (by omega)).mono ?_
    rintro e w4 ⟨hp, b4⟩
    obtain rfl := parted_fn hp
    have B4 := B3.trans (b4.mono B3.size)
    have HRR4 := Lib.hid (HRR3.out.below b4)
    have HQR4 := Lib.hid (HQR.out.below b4)
    clear HRR3 HQR
    clear hp b4 B3
    go_wp2_with fail
    refine (refsplit_any s _ hs').mono ?_
    rintro e w5 ⟨hp, b5⟩
    obtain rfl := parted_fn hp
    have B5 := B4.trans (b5.mono B4.size)
    have HRR5 := Lib.hid (HRR4.out.below b5)
    have HQR5 := Lib.hid (HQR4.out.below b5)
    clear HRR4 HQR4
    clear hp b5 B4
    go_wp2_with fail
    refine (path_fn s t _).mono ?_
    rintro e w6 ⟨rfl, b6⟩
    have B6 := B5.trans (b6.mono B5.size)
    have HRR6 := Lib.hid (HRR5.out.below b6)
    have HQR6 := Lib.hid (HQR5.out.below b6)
    clear HRR5 HQR5
    clear b6 B5
    go_wp2_with fail
    refine (refpath_fn s t _ hs' ht').mono ?_
    rintro e w7 ⟨rfl, b7⟩
    have B7 := B6.trans (b7.mono B6.size)
    have HRR7 := Lib.hid (HRR6.out.below b7)
    have HQR7 := Lib.hid (HQR6.out.below b7)
    clear HRR6 HQR6
    clear b7 B6
    go_wp2_with fail
    refine (right_is s R HR.out _).mono ?_
    rintro e w8 ⟨rfl, b8⟩
    have B8 := B7.trans (b8.mono B7.size)
    have HRR8 := Lib.hid (HRR7.out.below b8)
    have HQR8 := Lib.hid (HQR7.out.below b8)
    clear HRR7 HQR7
    clear b8 B7
    go_wp2_with fail
    refine (refright_is s R HR.out _ hs').mono ?_
    rintro e w9 ⟨rfl, b9⟩
    have B9 := B8.trans (b9.mono B8.size)
    have HRR9 := Lib.hid (HRR8.out.below b9)
    have HQR9 := Lib.hid (HQR8.out.below b9)
    clear HRR8 HQR8
    clear b9 B8
    go_wp2_with fail
    refine (same_yes ra qa rcap qcap rs _ (by omega) HRR9.out HQR9.out).mono ?_
    rintro e w10 ⟨rfl, b10⟩
    have B10 := B9.trans (b10.mono B9.size)
    clear b10 B9
    go_wp2_with fail
    refine (fold_call s _ hs').mono ?_
    rintro e w11 ⟨U, rfl, hU, _, b11⟩
    have B11 := B10.trans (b11.mono B10.size)
    have HU1 := Lib.hid hU
    clear b11 B10 hU
    go_wp2_with fail
    refine (reffold_any s _ hs').mono ?_
    rintro e w12 ⟨V, rfl, hV, b12⟩
    have B12 := B11.trans (b12.mono B11.size)
    have heq := eq_bool (s := U) (t := V) (HU1.out.trans hV.symm)
    clear b12 B11 hV
    go_wp2_with fail
    refine (less_call s t L HL.out _).mono ?_
    rintro e w13 ⟨rfl, rfl⟩
    go_wp2_with fail
    have hrl := refless_any s t w12 hs'
    rw [HL.out] at hrl
    refine hrl.mono ?_
    clear hrl
    rintro e w14 ⟨rfl, b14⟩
    have B14 := B12.trans (b14.mono B12.size)
    go_wp2_with fail
    go_ret
    exact ⟨by simp, B14⟩
end Go.Proofs.Ytgnfnbmdjbmcfaa
