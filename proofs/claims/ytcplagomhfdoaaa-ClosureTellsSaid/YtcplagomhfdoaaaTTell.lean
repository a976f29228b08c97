/-
  CONTRACTS of the document's Read, Kind, Number, Words, Parts, opens, Open, Unbox, Verify (letterlockref3) at this program. By an AI agent; no person has read it.
-/
import Derived.Test.YtcplagomhfdoaaaTMake
import Derived.Test.YtcplagomhfdoaaaWStrs
namespace Go.Proofs.Ytcplagomhfdoaaa.Term
open Go.RowKit Wire

/-- What is known of a right text. -/
theorem right_head {s : ByteArray} (h : right s.data.toList = true) : ∃ (h0 : 0 < s.size) (b : UInt8) (t : List UInt8), Head s h0 b t ∧ s.size ≤ 4000 := by
  obtain ⟨h0, h1⟩ := right_sz h
  obtain ⟨b, t, hh⟩ := head_of h0
  exact ⟨h0, b, t, hh, h1⟩

/-! ### Parts -/
theorem arity_of_right {s : ByteArray} (h : right s.data.toList = true) {h0 : 0 < s.size} {b : UInt8} {t : List UInt8} (hh : Head s h0 b t) : ∃ m, arity b = some m ∧ m ≤ 2 := by
  have h3 := (right_iff.1 h).2.2
  rw [hh.all, size_cons] at h3
  cases ha : arity b with
  | none => unfold body at h3; rw [ha] at h3; simp [up] at h3
  | some m =>
    refine ⟨m, rfl, ?_⟩
    unfold arity at ha
    split at ha
    · have := Option.some.inj ha; omega
    · split at ha
      · have := Option.some.inj ha; omega
      · split at ha
        · have := Option.some.inj ha; omega
        · cases ha
/-- Parts' loop: so many parts are taken off. -/
def Parted (w : World) (t : List UInt8) (m k : Nat) (R : ByteArray) (v : Value) (wr : World) : Prop :=
  ∃ ys : List ByteArray, wr.ownsRow w.heap.size 9 1 v k (sv ys) ∧ ys.length = k ∧ cuts m t = bl ys ++ cuts (m - k) R.data.toList ∧ Below w.heap.size w wr

/-- A list that can be read, in memory from B on. -/
def TaF (B : Nat) (x : List (List UInt8) × Int) (e : Ending) (w' : World) : Prop := ∃ (A : Option Addr) (c : Nat) (ys : List ByteArray), bl ys = x.1 ∧ ys.length ≤ c ∧ SReads w' A ys ∧ (∀ b off, A = some ⟨b, off, none⟩ → B ≤ b) ∧ e = .returned (.tuple #[.slice A ys.length c, .int .i64 x.2])
theorem taF_nil (B : Nat) (f : Int) (w' : World) : TaF B ([], f) (.returned (.tuple #[.slice none 0 0, .int .i64 f])) w' := ⟨none, 0, [], rfl, Nat.le_refl _, SReads.nil _ _, (fun _ _ h => by cases h), rfl⟩
theorem own_fresh {w : World} {base : Nat} {e : TypeId} {a : Option Addr} {n c : Nat} {xs : List Value} (h : w.ownsRow base e 1 (.slice a n c) n xs) : ∀ b off, a = some ⟨b, off, none⟩ → base ≤ b := by
  rintro b off rfl
  rcases h.2 with ⟨hv, _⟩ | ⟨g, cap, cur, hv, hg, _⟩
  · injection hv with h1; cases h1
  · injection hv with h1
    injection h1 with h1
    injection h1 with h1
    subst h1
    exact hg
set_option maxHeartbeats 4000000 in
set_option maxRecDepth 1000000 in
theorem partsF_any (s : ByteArray) (w : World) (hs : s.size ≤ 140737488355328) :
    Calls Try.prog 65 #[.string s] w fun e w' => TaF w.heap.size (parts s.data.toList) e w' ∧ Below w.heap.size w w' := by
  cases hr : right s.data.toList with
  | true =>
    have HR := Lib.hid hr
    obtain ⟨h0, b, t, hh, hz⟩ := right_head hr
    obtain ⟨m, ha, hm2⟩ := arity_of_right hr hh
    have hb := hh.first
    have hz1 : (0 : Int) < (s.size : Int) := by omega
    have hz2 : (1 : Int) ≤ (s.size : Int) := by omega
    have HM : Hid (manyI b = (m : Int)) := by show _ = _; unfold manyI; rw [ha]
    have HP : Hid (parts s.data.toList = (cuts m t, 0)) := by
      show _ = _
      unfold parts; rw [if_pos hr, hh.all]; simp [ha]
    have hez : (s.extract 1 s.size).size ≤ 4000 := by
      have h1 := hh.len
      rw [Lib.size_eq, hh.rest]; omega
    have HT := Lib.hid hh.rest
    obtain ⟨i0, hi0, hz0, hzz1, hzz2⟩ := info_parts str_info
    clear hr hh ha
    go_enter Try.func65, Try.ntmps65
    go_wp2_with (first
      | (go_at_call 40; refine (right_any s _ hs).mono ?_; rw [HR.out]; rintro e w1 ⟨rfl, hb1⟩; have HB1 := Lib.hid hb1; clear hb1)
      | (go_at_call 71; refine (many_any b _).mono ?_; rw [HM.out]; rintro e w' ⟨rfl, rfl⟩))
    have hst : Parted w t m 0 (s.extract 1 s.size) (.slice none 0 0) w1 := ⟨[], World.ownsRow_nil _ _ _ _, rfl, by rw [HT.out]; rfl, HB1.out⟩
    have HST := Lib.hid hst
    clear hst
    go_loopw [4, 5, 6] (fun v q i wr => ∃ (k : Nat) (R : ByteArray), k ≤ m ∧ R.size ≤ 4000 ∧ i = .int .i64 k ∧ q = .string R ∧ Hid (Parted w t m k R v wr)) (fun _ _ i _ => m - (intOf i).toNat)
    case atStart => exact ⟨0, _, Nat.zero_le _, hez, rfl, rfl, HST⟩
    case round =>
      obtain ⟨k, R, hk, hRz, rfl, rfl, HPT⟩ := hrel
      obtain ⟨ys, ho, hyl, hcu, hbel⟩ := HPT.out
      clear HST hez
      by_cases hlt : k < m
      · obtain ⟨n, hn⟩ : ∃ n, size 40 R.data.toList = n := ⟨_, rfl⟩
        have hle := size_le 40 R.data.toList
        rw [hn, ← Lib.size_eq] at hle
        have hcu2 : cuts m t = bl ys ++ (R.data.toList.take n :: cuts (m - (k + 1)) (R.data.toList.drop n)) := by
          rw [hcu, show m - k = (m - (k + 1)) + 1 by omega]
          show _ ++ (R.data.toList.take (size 40 R.data.toList) :: cuts _ (R.data.toList.drop (size 40 R.data.toList))) = _
          rw [hn]
        have HN := Lib.hid hn
        have HO := Lib.hid ho
        have HYL := Lib.hid hyl
        have HCU := Lib.hid hcu2
        have HBL := Lib.hid hbel
        have hk0 : (0 : Int) ≤ (n : Int) := by omega
        have hk1 : (n : Int) ≤ (R.size : Int) := by omega
        clear ho hyl hcu hcu2 hbel hn
        go_wp2_with (first
          | (go_at_call 71; refine (many_any b _).mono ?_; rw [HM.out]; rintro e w' ⟨rfl, rfl⟩)
          | (go_at_call 64; refine (size_any 40 R _ (by omega) (by omega)).mono ?_; rw [HN.out]; rintro e w5 ⟨rfl, hb5⟩; have HB5 := Lib.hid (HBL.out.trans (hb5.mono HBL.out.size)); have HB5' := Lib.hid hb5; clear hb5)
          | (at_builtin
             refine wpList_append_own _ rfl _ _ _ rfl w.heap.size 9 i0 _ 1 16 Try.underlying22 hi0 hz0 hzz1 hzz2 rfl (by decide) _ k (sv ys) rfl ?c1 _ 1 1 [.string (R.extract 0 n)] rfl rfl ?c2 ?c3 ?c4 ?c5 ?c6 ?_
             case c1 => exact (own_below HO.out HB5'.out (Nat.le_refl _)).alloc _
             case c2 => exact lit_cells _ _ _
             case c3 => exact sv_one [R.extract 0 n]
             case c4 => simp only [maxLen]; omega
             case c5 => omega
             case c6 =>
               have h := HB5.out.size
               simp only [World.alloc, Array.size_push]
               exact Nat.le_succ_of_le h
             intro v6 w6 hown hgrow _
             have HO6 := Lib.hid hown
             have HG6 := Lib.hid hgrow
             clear hown hgrow))
        go_roundw
        case rel =>
          have hxz : (R.extract n R.size).size ≤ 4000 := by rw [Lib.size_eq, extract_drop, List.length_drop, ← Lib.size_eq]; omega
          refine ⟨k + 1, R.extract n R.size, by omega, hxz, by go_num, rfl, ys ++ [R.extract 0 n], by simpa [sv] using HO6.out, by simp [HYL.out], ?_, ?_⟩
          · rw [HCU.out, extract_drop]
            have e2 : bl (ys ++ [R.extract 0 n]) = bl ys ++ [R.data.toList.take n] := by simp only [bl, List.map_append, List.map_cons, List.map_nil, extract_take]
            rw [e2, List.append_assoc]; rfl
          · refine (HB5.out.alloc HB5.out.size (.cells #[.string (R.extract 0 n)] 9)).grown HG6.out (by
              have := HB5.out.size
              simp only [World.alloc, Array.size_push]
              omega) fun g hg => ?_
            exact (HO.out.lt g hg).1
        case measure => simp [intOf]; omega
      · obtain rfl : k = m := by omega
        rw [Nat.sub_self] at hcu
        obtain ⟨A, c, rfl⟩ := own_value ho
        obtain ⟨h6, _, h7⟩ := sreads_own ho
        have h8 : TaF w.heap.size (cuts k t, 0) (.returned (.tuple #[.slice A k c, .int .i64 0])) wr := by
          subst hyl
          refine ⟨A, c, ys, ?_, h7, h6, own_fresh ho, rfl⟩
          rw [hcu]; show bl ys = bl ys ++ []; rw [List.append_nil]
        have H8 := Lib.hid h8
        have HBL := Lib.hid hbel
        clear ho hyl hcu hbel h6 h8 h7
        go_wp2_with (go_at_call 71; refine (many_any b _).mono ?_; rw [HM.out]; rintro e w' ⟨rfl, rfl⟩)
        go_ret2
        rw [HP.out]
        exact ⟨H8.out, HBL.out⟩
  | false =>
    have HR := Lib.hid hr
    have hm : parts s.data.toList = ([], 1) := by unfold parts; rw [if_neg (by rw [hr]; decide)]
    rw [hm]
    clear hr hm
    go_enter Try.func65, Try.ntmps65
    go_wp2_with (go_at_call 40; refine (right_any s _ hs).mono ?_; rw [HR.out]; rintro e w1 ⟨rfl, hb1⟩; have HB1 := Lib.hid hb1; clear hb1)
    go_ret2
    exact ⟨taF_nil _ _ _, HB1.out⟩
theorem parts_any (s : ByteArray) (w : World) (hs : s.size ≤ 140737488355328) :
    Calls Try.prog 65 #[.string s] w fun e w' => Ta (parts s.data.toList) e w' ∧ Below w.heap.size w w' :=
  (partsF_any s w hs).mono fun _ _ ⟨⟨A, c, ys, h1, h2, h3, _, h5⟩, hb⟩ => ⟨⟨A, c, ys, h1, h2, h3, h5⟩, hb⟩
end Go.Proofs.Ytcplagomhfdoaaa.Term
