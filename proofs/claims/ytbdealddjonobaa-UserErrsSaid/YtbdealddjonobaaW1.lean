/-
  One text of several, in their order: Shelf, WTake, WPut, WAll, WTakeAll, WRAll, WRPutAll. By an AI agent; no person has read it.
-/
import Derived.Shelf.Strings.OnBuilder
import Derived.Test.YtbdealddjonobaaProg
import Derived.Test.YtbdealddjonobaaW0
/-
  LIBRARY CONTRACTS AT THIS PROGRAM, IN PLAIN WORDS (laid by the shelf's own tools off this seat's dump; each by one application).
-/
namespace Go.Proofs
open Go.Shelf
def Try.lays156_ren : Go.Shelf.Ren := ⟨fun | 156 => 65 | 165 => 78 | 166 => 79 | 169 => 80 | 240 => 86 | 241 => 87 | 276 => 89 | 277 => 90 | n => n, fun | 31 => 32 | 9 => 9 | 3 => 3 | 4 => 4 | 0 => 0 | 20 => 20 | 72 => 121 | 76 => 125 | 70 => 119 | 37 => 105 | 75 => 124 | 127 => 153 | 164 => 155 | 5 => 5 | 80 => 127 | n => n, fun | n => n⟩
theorem Try.lays156 : Go.Proofs.Lays.n156 Try.prog Try.lays156_ren := {
  mixed := by kernel_rfl
  f156 := Try.func65.trans (congrArg some (by kernel_rfl))
  f165 := Try.func78.trans (congrArg some (by kernel_rfl))
  f166 := Try.func79.trans (congrArg some (by kernel_rfl))
  f169 := Try.func80.trans (congrArg some (by kernel_rfl))
  f240 := Try.func86.trans (congrArg some (by kernel_rfl))
  f241 := Try.func87.trans (congrArg some (by kernel_rfl))
  f276 := Try.func89.trans (congrArg some (by kernel_rfl))
  f277 := Try.func90.trans (congrArg some (by kernel_rfl))
  t0 := Try.underlying0
  a0 := Try.isAgg0
  z0 := Try.sizeOf0
  v0 := Try.zeroValue0
  t3 := Try.underlying3
  a3 := Try.isAgg3
  z3 := Try.sizeOf3
  v3 := Try.zeroValue3
  t4 := Try.underlying4
  a4 := Try.isAgg4
  z4 := Try.sizeOf4
  v4 := Try.zeroValue4
  t9 := Try.underlying9
  a9 := Try.isAgg9
  z9 := Try.sizeOf9
  v9 := Try.zeroValue9
  t20 := Try.underlying20
  a20 := Try.isAgg20
  z20 := Try.sizeOf20
  v20 := Try.zeroValue20
  t31 := Try.underlying32
  a31 := Try.isAgg32
  z31 := Try.sizeOf32
  v31 := Try.zeroValue32
  t37 := Try.underlying105
  a37 := Try.isAgg105
  z37 := Try.sizeOf105
  v37 := Try.zeroValue105
  t70 := Try.underlying119
  a70 := Try.isAgg119
  z70 := Try.sizeOf119
  v70 := Try.zeroValue119
  t72 := Try.underlying121
  a72 := Try.isAgg121
  z72 := Try.sizeOf121
  v72 := Try.zeroValue121
  t75 := Try.underlying124
  a75 := Try.isAgg124
  z75 := Try.sizeOf124
  v75 := Try.zeroValue124
  t76 := Try.underlying125
  a76 := Try.isAgg125
  z76 := Try.sizeOf125
  v76 := Try.zeroValue125
  t127 := Try.underlying153
  a127 := Try.isAgg153
  z127 := Try.sizeOf153
  v127 := Try.zeroValue153
  t164 := Try.underlying155
  a164 := Try.isAgg155
  z164 := Try.sizeOf155
  v164 := Try.zeroValue155 }
theorem Try.Builder_Extra_156 : Builder.Extra Try.prog Try.lays156_ren := {
  sizeBuilder := by kernel_rfl
  liesBuilder := by kernel_rfl
  t5 := Try.underlying5
  a5 := Try.isAgg5
  z5 := Try.sizeOf5
  v5 := Try.zeroValue5
  infoByte := by kernel_rfl
  cellsByte := by kernel_rfl
  sizeByte := by kernel_rfl
  neB5 := by decide }
open Go.RowKit in
/-- No element: the empty string; the world is as it was. (Whatever the slice's address and capacity: a nil slice too.) (LAID: no walk: one application.) -/
theorem Try.strings_Join_none (a : Option Addr) (c : Nat) (sep : ByteArray) (w : World) :
    Calls Try.prog 65 #[.slice a 0 c, .string sep] w fun e w' => e = .returned (.string ⟨#[]⟩) ∧ w' = w := Any.strings_Join_none Try.lays156 Try.Builder_Extra_156 a c sep w
open Go.RowKit in
/-- strings.Join: "Join concatenates the elements of its first argument to create a single string. The separator string sep is placed between elements in the resulting string.": HOWEVER MANY ELEMENTS. Below the heap's end the world is as it was. (LAID: no walk: one application.) -/
theorem Try.strings_Join (bk o c : Nat) (xs : List ByteArray) (sep : ByteArray) (w : World) (hcells : ∀ (j : Nat) x, xs[j]? = some x → w.cell? ⟨bk, o + j, none⟩ = some (.string x)) (hbk : bk < w.heap.size) (hN : xs.length ≤ 140737488355328) (hcap : xs.length ≤ c) (hlen : (Lib.join (xs.map (·.data.toList)) sep.data.toList).length ≤ 140737488355328) :
    Calls Try.prog 65 #[.slice (some ⟨bk, o, none⟩) xs.length c, .string sep] w fun e w' => e = .returned (.string ⟨(Lib.join (xs.map (·.data.toList)) sep.data.toList).toArray⟩) ∧ Below w.heap.size w w' := Any.strings_Join Try.lays156 Try.Builder_Extra_156 bk o c xs sep w hcells hbk hN hcap hlen
end Go.Proofs

/-
  CONTRACTS of wire.Take, takeUpTo, TakeText at this program. By an AI agent; no person has read it.
-/
namespace Go.Proofs.Ytbdealddjonobaa.Wire
open Go.RowKit

set_option maxHeartbeats 2000000 in
set_option maxRecDepth 1000000 in
theorem take_any (s : ByteArray) (w : World) (hs : s.size ≤ 140737488355328) :
    Calls Try.prog 84 #[.string s] w fun e w' => Tk (tk s.data.toList) e ∧ ∃ k, w' = w.drewN k := by
  by_cases h0 : 0 < s.size
  · have he : s.toList.isEmpty = false := by
      rw [Lib.toList_data, take_hd h0]; rfl
    have hx0 : (0 : Int) < (s.size : Int) := by omega
    have hx1 : (1 : Int) ≤ (s.size : Int) := by omega
    have hsz : (s.extract 1 s.size).size = s.size - 1 := by rw [Lib.size_eq, extract_drop, List.length_drop, ← Lib.size_eq]
    have HZ := Lib.hid hsz
    obtain ⟨t, ht⟩ : ∃ t, (s.extract 1 s.size).data.toList = t := ⟨_, rfl⟩
    have hl : s.data.toList = s[0] :: t := by rw [take_hd h0, ht]
    have htl : t.length = s.size - 1 := by rw [← ht, ← Lib.size_eq, hsz]
    have HL := Lib.hid hl
    have HT := Lib.hid ht
    have HTL := Lib.hid htl
    clear hsz ht hl htl
    obtain ⟨b, hb⟩ : ∃ b : Nat, (s[0]'h0).toNat = b := ⟨_, rfl⟩
    have HB := Lib.hid hb
    have hb1 : (b : Int) < 256 := by have := u8_lt (s[0]'h0); omega
    go_enter Try.func84, Try.ntmps84
    go_wp2
    go_quiet (fail)
    go_wp2
    · rename_i hh
      go_ret3
      refine ⟨⟨⟨#[]⟩, ?_, ?_⟩, nq, rfl⟩ <;> rw [HL.out, tk_no HB.out (by have := HTL.out; omega)] <;> rfl
    · rename_i hh hlt hz
      go_ret3
      have hg : ((s.extract 1 s.size)[0]'(by rw [HZ.out]; omega)) = 0 := u8_zero.2 (by have := beq_iff_eq.1 hz; omega)
      refine ⟨⟨⟨#[]⟩, ?_, ?_⟩, nq, rfl⟩ <;> rw [HL.out, tk_no HB.out (.inr (.inr ⟨by omega, by rw [← HT.out, head_get (by rw [HZ.out]; omega), hg]⟩))] <;> rfl
    rotate_left 2
    · rename_i hh
      go_ret3
      refine ⟨⟨⟨#[]⟩, ?_, ?_⟩, nq, rfl⟩ <;> rw [HL.out, tk_no HB.out (.inl (by omega))] <;> rfl
    all_goals
      have h3 : b = 0 ∨ t.head? ≠ some 0 := by
        first
        | exact .inl (by omega)
        | (have hlt : 0 < s.size - 1 := by assumption
           have hz : ((((s.extract 1 s.size)[0]'(by rw [HZ.out]; exact hlt)).toNat : Int) == 0) = false := by assumption
           refine .inr fun h => ?_
           rw [← HT.out, head_get (by rw [HZ.out]; exact hlt)] at h
           have h := Option.some.inj h
           have := u8_zero.1 h
           rw [this] at hz
           simp at hz)
      have H3 := Lib.hid h3
      clear h3
      go_loop [6, 31] (fun n i => ∃ k : Nat, k ≤ b ∧ i = .int .i64 k ∧ n = .int .u64 (val (t.take k))) (fun _ i => b - (intOf i).toNat)
      case atStart => exact ⟨0, Nat.zero_le _, rfl, rfl⟩
      case round =>
        obtain ⟨k, hk, rfl, rfl⟩ := hrel
        by_cases hlt : k < b
        · have hkl : k < (s.extract 1 s.size).size := by rw [HZ.out]; omega
          have hkt : k < t.length := by rw [HTL.out]; omega
          have hks : (k : Int) < ((s.size - 1 : Nat) : Int) := by omega
          have hv := val_take hkt
          have hvl : val (t.take k) < 72057594037927936 := val_lt7 (by rw [List.length_take]; omega)
          have hgt : (t[k]'hkt) = ((s.extract 1 s.size)[k]'hkl) := by
            have h := HT.out
            subst h
            rfl
          rw [hgt] at hv
          obtain ⟨c, hc⟩ : ∃ c : Nat, ((s.extract 1 s.size)[k]'hkl).toNat = c := ⟨_, rfl⟩
          have hc1 : c < 256 := by have := u8_lt ((s.extract 1 s.size)[k]'hkl); omega
          obtain ⟨v, hvv⟩ : ∃ v : Nat, val (t.take k) = v := ⟨_, rfl⟩
          rw [hvv] at hvl
          rw [hvv, hc] at hv
          have HV := Lib.hid hv
          have HVV := Lib.hid hvv
          rw [hvv]
          clear hv hvv hgt
          have hor := or_add v c hc1 hvl
          have hwr : IntKind.u64.wrap ((v : Int) * 256) = (v : Int) * 256 := by rw [IntKind.wrap_u64]; omega
          go_wp2
          go_round
          case rel => exact ⟨k + 1, by omega, by go_num, by rw [HV.out]; go_num⟩
          case measure => simp [intOf]; omega
        · obtain rfl : k = b := by omega
          have hk0 : (0 : Int) ≤ (k : Int) := by omega
          have hk1 : (k : Int) ≤ ((s.size - 1 : Nat) : Int) := by omega
          go_wp2
          go_quiet (fail)
          go_wp2
          go_ret3
          rw [HL.out, tk_ok HB.out (by omega) (by rw [HTL.out]; omega) H3.out]
          have hd : ((s.extract 1 s.size).extract k (s.size - 1)).data.toList = t.drop k := by
            rw [← HT.out]
            have h := extract_drop (s.extract 1 s.size) k
            rw [HZ.out] at h
            exact h
          exact ⟨⟨_, hd, rfl⟩, _, World.drewN_drewN _ _ _⟩
  · have he : s.toList.isEmpty = true := by
      rw [Lib.toList_data]; rw [Lib.size_eq] at h0
      cases h : s.data.toList with
      | nil => rfl
      | cons a t => rw [h] at h0; simp at h0
    have hn : s.data.toList = [] := by rw [Lib.toList_data] at he; simpa using he
    have HN := Lib.hid hn
    clear hn
    go_enter Try.func84, Try.ntmps84
    go_wp2
    go_ret3
    exact ⟨⟨⟨#[]⟩, by rw [HN.out]; rfl, by rw [HN.out]; rfl⟩, 0, rfl⟩
set_option maxHeartbeats 2000000 in
set_option maxRecDepth 1000000 in
theorem upTo_any (s : ByteArray) (m : Int) (w : World) (hs : s.size ≤ 140737488355328) (hm : -9223372036854775808 ≤ m ∧ m ≤ 9223372036854775807) :
    Calls Try.prog 88 #[.string s, .int .i64 m] w fun e w' => Tk (upTo s.data.toList m) e ∧ ∃ k, w' = w.drewN k := by
  obtain ⟨hm1, hm2⟩ := hm
  rcases take_tk (l := s.data.toList) with ⟨h1, h2⟩ | ⟨n, r, h1, h2, hn⟩
  · have H1 := Lib.hid (upTo_none (m := m) h1)
    have H2 := Lib.hid h2
    clear h1 h2
    go_enter Try.func88, Try.ntmps88
    go_wp2_with (go_at_call 84; refine (take_any _ _ hs).mono ?_; rw [H2.out]; rintro e w' ⟨⟨R, hR, rfl⟩, k, rfl⟩; clear hR; dsimp only)
    go_ret3
    rw [H1.out]
    exact ⟨⟨⟨#[]⟩, rfl, rfl⟩, _, rfl⟩
  · have HN := Lib.hid hn
    clear hn
    have HM : Hid (max m 0 = if m < 0 then 0 else m) := by
      show max m 0 = _
      split <;> omega
    by_cases hb : max m 0 < (n : Int)
    · have H1 := Lib.hid (upTo_big h1 hb)
      have H2 := Lib.hid h2
      clear h1 h2
      by_cases hm0 : m < 0
      · have hb' : (0 : Int) < n := by omega
        clear hb
        go_enter Try.func88, Try.ntmps88
        go_wp2_with (go_at_call 84; refine (take_any _ _ hs).mono ?_; rw [H2.out]; rintro e w' ⟨⟨R, hR, rfl⟩, k, rfl⟩; clear hR; dsimp only)
        go_ret3
        rw [H1.out]
        exact ⟨⟨⟨#[]⟩, rfl, rfl⟩, _, rfl⟩
      · have hb' : m < (n : Int) := by omega
        clear hb
        go_enter Try.func88, Try.ntmps88
        go_wp2_with (go_at_call 84; refine (take_any _ _ hs).mono ?_; rw [H2.out]; rintro e w' ⟨⟨R, hR, rfl⟩, k, rfl⟩; clear hR; dsimp only)
        go_ret3
        rw [H1.out]
        exact ⟨⟨⟨#[]⟩, rfl, rfl⟩, _, rfl⟩
    · have H1 := Lib.hid (upTo_ok h1 hb)
      have H2 := Lib.hid h2
      clear h1 h2
      by_cases hm0 : m < 0
      · have hb' : (n : Int) ≤ 0 := by omega
        clear hb
        go_enter Try.func88, Try.ntmps88
        go_wp2_with (go_at_call 84; refine (take_any _ _ hs).mono ?_; rw [H2.out]; rintro e w' ⟨⟨R, hR, rfl⟩, k, rfl⟩; have HR := Lib.hid hR; clear hR; dsimp only)
        go_ret3
        rw [H1.out]
        exact ⟨⟨R, HR.out, rfl⟩, _, rfl⟩
      · have hb' : (n : Int) ≤ m := by omega
        clear hb
        go_enter Try.func88, Try.ntmps88
        go_wp2_with (go_at_call 84; refine (take_any _ _ hs).mono ?_; rw [H2.out]; rintro e w' ⟨⟨R, hR, rfl⟩, k, rfl⟩; have HR := Lib.hid hR; clear hR; dsimp only)
        go_ret3
        rw [H1.out]
        exact ⟨⟨R, HR.out, rfl⟩, _, rfl⟩
set_option maxHeartbeats 2000000 in
set_option maxRecDepth 1000000 in
theorem text_any (s : ByteArray) (m : Int) (w : World) (hs : s.size ≤ 140737488355328) (hm : -9223372036854775808 ≤ m ∧ m ≤ 9223372036854775807) :
    Calls Try.prog 85 #[.string s, .int .i64 m] w fun e w' => Tx (text s.data.toList m) e ∧ ∃ k, w' = w.drewN k := by
  obtain ⟨n, r, f, hu⟩ : ∃ n r f, upTo s.data.toList m = (n, r, f) := ⟨_, _, _, rfl⟩
  have hf := upTo_err hu
  have HU := Lib.hid hu
  rcases text_upTo hu with ⟨h0, h1⟩ | ⟨rfl, h1⟩
  · have H1 := Lib.hid h1
    have hne : (f != 0) = true := by simpa using h0
    clear h1 hu hf h0
    go_enter Try.func85, Try.ntmps85
    go_wp2_with (go_at_call 88; refine (upTo_any _ _ _ hs hm).mono ?_; rw [HU.out]; rintro e w' ⟨⟨R, hR, rfl⟩, k, rfl⟩; clear hR; dsimp only)
    go_ret3
    rw [H1.out]
    exact ⟨⟨⟨#[]⟩, ⟨#[]⟩, rfl, rfl, rfl⟩, _, rfl⟩
  · have hrl := upTo_len hu
    rw [← Lib.size_eq] at hrl
    clear hu hf
    by_cases hlt : r.length < n
    · rw [if_pos hlt] at h1
      have H1 := Lib.hid h1
      clear h1
      go_enter Try.func85, Try.ntmps85
      go_wp2_with (go_at_call 88; refine (upTo_any _ _ _ hs hm).mono ?_; rw [HU.out]; rintro e w' ⟨⟨R, hR, rfl⟩, k, rfl⟩; have hz : R.size = r.length := (by rw [Lib.size_eq, hR]); have h5 : ((R.size : Nat) : Int) < (n : Int) := (by omega); have h6 : (R.size : Int) ≤ 140737488355328 := (by omega); clear hR hz; dsimp only)
      go_ret3
      rw [H1.out]
      exact ⟨⟨⟨#[]⟩, ⟨#[]⟩, rfl, rfl, rfl⟩, _, rfl⟩
    · rw [if_neg hlt] at h1
      have H1 := Lib.hid h1
      clear h1
      go_enter Try.func85, Try.ntmps85
      go_wp2_with (go_at_call 88; refine (upTo_any _ _ _ hs hm).mono ?_; rw [HU.out]; rintro e w' ⟨⟨R, hR, rfl⟩, k, rfl⟩; have hz : R.size = r.length := (by rw [Lib.size_eq, hR]); have h5 : (n : Int) ≤ ((R.size : Nat) : Int) := (by omega); have h6 : (R.size : Int) ≤ 140737488355328 := (by omega); have HR := Lib.hid hR; clear hR hz; dsimp only)
      have h7 : (0 : Int) ≤ (n : Int) := by omega
      go_quiet (fail)
      go_wp2
      go_ret3
      rw [H1.out]
      refine ⟨⟨_, _, ?_, ?_, rfl⟩, _, World.drewN_drewN _ _ _⟩
      · rw [extract_take, HR.out]
      · rw [extract_drop, HR.out]
theorem take_bel (s : ByteArray) (w : World) (hs : s.size ≤ 140737488355328) :
    Calls Try.prog 84 #[.string s] w fun e w' => Tk (tk s.data.toList) e ∧ Below w.heap.size w w' :=
  (take_any s w hs).mono fun _ _ ⟨h, k, hk⟩ => ⟨h, hk ▸ bdrew w k⟩
theorem text_bel (s : ByteArray) (m : Int) (w : World) (hs : s.size ≤ 140737488355328) (hm : -9223372036854775808 ≤ m ∧ m ≤ 9223372036854775807) :
    Calls Try.prog 85 #[.string s, .int .i64 m] w fun e w' => Tx (text s.data.toList m) e ∧ Below w.heap.size w w' :=
  (text_any s m w hs hm).mono fun _ _ ⟨h, k, hk⟩ => ⟨h, hk ▸ bdrew w k⟩
end Go.Proofs.Ytbdealddjonobaa.Wire

/-
  CONTRACTS of wire.together, Put, PutText at this program. By an AI agent; no person has read it.
-/
namespace Go.Proofs.Ytbdealddjonobaa.Wire
open Go.RowKit

theorem together_any (a : Option Addr) (c : Nat) (ys : List ByteArray) (w : World) (hr : SReads w a ys) (hN : ys.length ≤ 140737488355328) (hcap : ys.length ≤ c) (hlen : (cat ys).length ≤ 140737488355328) :
    Calls Try.prog 63 #[.slice a ys.length c] w fun e w' => St (cat ys) e ∧ Below w.heap.size w w' := by
  have hj : Calls Try.prog 65 #[.slice a ys.length c, .string ⟨#[]⟩] w fun e w' => St (cat ys) e ∧ Below w.heap.size w w' := by
    cases ys with
    | nil => exact (Try.strings_Join_none a c ⟨#[]⟩ w).mono fun e w' ⟨he, hw⟩ => ⟨⟨_, rfl, he⟩, hw ▸ Below.refl _ _⟩
    | cons y r =>
      obtain ⟨b, off, rfl, hb, _⟩ := hr 0 (by simp)
      refine (Try.strings_Join b off c (y :: r) ⟨#[]⟩ w (fun j x hx => ?_) hb hN hcap (by rw [join_cat]; exact hlen)).mono fun e w' ⟨he, hw⟩ => ⟨⟨_, ?_, he⟩, hw⟩
      · have hj := (List.getElem?_eq_some_iff.1 hx).1
        obtain ⟨b', off', e, _, hc⟩ := hr j hj
        injection e with e
        injection e with e1 e2
        subst e1 e2
        rw [hc]
        simp [List.getD, hx]
      · rw [join_cat]
  have HJ := Lib.hid hj
  clear hj
  go_enter Try.func63, Try.ntmps63
  go_wp2_with (go_at_call 65; refine HJ.out.mono ?_; rintro e w' ⟨⟨T, hT, rfl⟩, hb⟩; have HT := Lib.hid hT; have HB := Lib.hid hb; clear hT hb)
  go_ret
  exact ⟨⟨T, HT.out, rfl⟩, HB.out⟩
/-- Put's loop: the number that is left, the place, the bytes behind it. -/
def PutIn (w : World) (n k j : Nat) (wr : World) : Prop := ∃ (cs : List Value) (D : List UInt8), cs.length = 8 ∧ wr.heap[w.heap.size]? = some (.cells cs.toArray 107 (0, 0)) ∧
  cs.drop j = D.map by8 ∧ dig n = dig k ++ D ∧ D.length = 8 - j ∧ Below w.heap.size w wr ∧ wr.heap.size = w.heap.size + 1
theorem putIn_start (w : World) (n : Nat) : PutIn w n n 8 (w.alloc (.cells #[.int .u8 0, .int .u8 0, .int .u8 0, .int .u8 0, .int .u8 0, .int .u8 0, .int .u8 0, .int .u8 0] 107)) :=
  ⟨[.int .u8 0, .int .u8 0, .int .u8 0, .int .u8 0, .int .u8 0, .int .u8 0, .int .u8 0, .int .u8 0], [], rfl, heap_alloc_new w _, rfl, by simp, rfl, (Below.refl _ _).alloc (Nat.le_refl _) _, by simp⟩
theorem putIn_le {w wr : World} {n k j : Nat} (h : PutIn w n k j wr) (hn : n < 18446744073709551616) (hj : j ≤ 8) (hk : k ≠ 0) : 1 ≤ j := by
  obtain ⟨cs, D, _, _, _, h4, h5, _⟩ := h
  have h8 := dig_len8 hn
  rw [h4, List.length_append] at h8
  rw [dig_pos hk, List.length_append] at h8
  simp at h8
  omega
theorem putIn_cell {w wr : World} {n k j i : Nat} (h : PutIn w n k j wr) (hi : i < 8) : (∃ v, wr.cell? ⟨w.heap.size, i, none⟩ = some v) ∧ wr.frozen? ⟨w.heap.size, i, none⟩ = false := by
  obtain ⟨cs, D, h1, h2, _⟩ := h
  refine ⟨⟨cs[i], ?_⟩, ?_⟩
  · rw [cell_of_row wr w.heap.size i cs.toArray _ (0, 0) h2]
    simp [h1, hi]
  · simp [World.frozen?, h2]
theorem putIn_step {w wr : World} {n k j : Nat} (h : PutIn w n k (j + 1) wr) (hj : j < 8) (hk : k ≠ 0) : PutIn w n (k / 256) j (wr.setCell ⟨w.heap.size, j, none⟩ (.int .u8 ((k % 256 : Nat) : Int))) := by
  obtain ⟨cs, D, h1, h2, h3, h4, h5, h6, h7⟩ := h
  refine ⟨cs.set j (.int .u8 ((k % 256 : Nat) : Int)), (k % 256).toUInt8 :: D, by simp [h1], ?_, ?_, ?_, ?_, h6.setCell (Nat.le_refl _) _, by simpa [World.setCell] using h7⟩
  · simp [World.setCell, Array.getElem?_modify, h2]
  · rw [List.map_cons, ← h3, by8, u8_nat _ (by omega)]
    have hlt : j < (cs.set j (.int .u8 ((k % 256 : Nat) : Int))).length := by simp [h1, hj]
    rw [List.drop_eq_getElem_cons hlt]
    congr 1
    · simp
    · rw [List.drop_set_of_lt (by omega)]
  · rw [h4, dig_pos hk, List.append_assoc]; rfl
  · simp [h5]; omega
/-- parts[at:] of the array in block g. -/
theorem cut_eight (g j d : Nat) (hd : 8 - j = d) (hj : j ≤ 8) : ∃ A : Addr, A.block = g ∧ (0 < d → A = ⟨g, j, none⟩) ∧
    ∀ W : World, (Instr.sliceAt 107 (.pointer (some ⟨g, 0, none⟩)) (some (.int .i64 (j : Int))) none none).run Try.prog W = .ok (.slice (some A) d d) W := by
  have ha : Try.prog.arrayLen 107 = 8 := by kernel_rfl
  have he : Try.prog.elem 107 = 5 := by kernel_rfl
  have hu : Try.prog.underlying 107 = some (.array (Try.prog.arrayLen 107) (Try.prog.elem 107)) := by rw [ha, he]; exact Try.underlying107
  refine ⟨if 8 = j then ⟨g, 0, none⟩ else (⟨g, 0, none⟩ : Addr).add (j * 1), ?_, fun h => ?_, fun W => ?_⟩
  · split
    · rfl
    · rw [add_none]
  · rw [if_neg (by omega), add_none]; simp
  · have hz : (sizeOf 5).run Try.prog W = .ok 1 W := by
      rw [Try.sizeOf5]
    rw [run_sliceAt_array_l W 107 ⟨g, 0, none⟩ hu .i64 (j : Int) (by omega) (by rw [ha]; omega), he, hz, ha]
    simp only [Result.andThen_ok, slicedAt, Int.toNat_natCast]
    rw [hd]
theorem put_cells {wr : World} {g j : Nat} {cs : List Value} {D : List UInt8} (h2 : wr.heap[g]? = some (.cells cs.toArray 107 (0, 0))) (h3 : cs.drop j = D.map by8) :
    ∀ i (hi : i < D.length), wr.cell? ⟨g, j + i, none⟩ = some (by8 D[i]) := fun i hi => by
  rw [cell_of_row wr g (j + i) cs.toArray _ (0, 0) h2]
  have h := congrArg (·[i]?) h3
  simp only [List.getElem?_drop, List.getElem?_map, List.getElem?_eq_getElem hi, Option.map_some] at h
  simpa using h
theorem together_two (W : World) (X Y : ByteArray) (g : Nat) (hg : g = W.heap.size) (B : Nat) (w0 : World) (hb : Below B w0 W) (hB : B ≤ W.heap.size) (hlen : X.size + Y.size ≤ 140737488355328) :
    Calls Try.prog 63 #[.slice (some ⟨g, 0, none⟩) 2 2] (W.alloc (.cells #[.string X, .string Y] 9)).drew fun e w' => St (X.data.toList ++ Y.data.toList) e ∧ Below B w0 w' := by
  have h := together_any (some ⟨g, 0, none⟩) 2 [X, Y] (W.alloc (.cells #[.string X, .string Y] 9)).drew (pair_reads W X Y g hg) (by simp) (by simp) (by
    simp only [cat, List.flatMap_cons, List.flatMap_nil, List.append_nil, List.length_append, ← Lib.size_eq]; exact hlen)
  refine h.mono fun e w' ⟨he, hw⟩ => ⟨by simpa [cat] using he, ?_⟩
  exact ((hb.alloc hB _).drew).trans (hw.mono (by simp; omega))
theorem together_two' (W : World) (X Y : ByteArray) (g : Nat) (hg : g = W.heap.size) (B : Nat) (w0 : World) (hb : Below B w0 W) (hB : B ≤ W.heap.size) (hlen : X.size + Y.size ≤ 140737488355328) :
    Calls Try.prog 63 #[.slice (some ⟨g, 0, none⟩) 2 2] (W.alloc (.cells #[.string X, .string Y] 9)) fun e w' => St (X.data.toList ++ Y.data.toList) e ∧ Below B w0 w' := by
  have h := together_any (some ⟨g, 0, none⟩) 2 [X, Y] (W.alloc (.cells #[.string X, .string Y] 9)) (pair_reads' W X Y g hg) (by simp) (by simp) (by
    simp only [cat, List.flatMap_cons, List.flatMap_nil, List.append_nil, List.length_append, ← Lib.size_eq]; exact hlen)
  refine h.mono fun e w' ⟨he, hw⟩ => ⟨by simpa [cat] using he, ?_⟩
  exact (hb.alloc hB _).trans (hw.mono (by simp; omega))
set_option maxHeartbeats 2000000 in
set_option maxRecDepth 1000000 in
theorem put_any (n : Nat) (w : World) (hn : n < 18446744073709551616) :
    Calls Try.prog 47 #[.int .u64 n] w fun e w' => St (put n) e ∧ Below w.heap.size w w' := by
  have HN := Lib.hid hn
  have hn' : (n : Int) ≤ 18446744073709551615 := by omega
  clear hn
  go_enter Try.func47, Try.ntmps47
  go_wp2
  go_loopw [0, 4] (fun m a wr => ∃ k j : Nat, k ≤ n ∧ j ≤ 8 ∧ m = .int .u64 k ∧ a = .int .i64 j ∧ Hid (PutIn w n k j wr)) (fun m _ _ => (intOf m).toNat)
  case atStart => exact ⟨n, 8, Nat.le_refl _, Nat.le_refl _, rfl, rfl, putIn_start w n⟩
  case round =>
    obtain ⟨k, j, hkn, hj, rfl, rfl, HP⟩ := hrel
    by_cases hk : 0 < k
    · have hj1 := putIn_le HP.out HN.out hj (by omega)
      obtain ⟨i, rfl⟩ : ∃ i, j = i + 1 := ⟨j - 1, by omega⟩
      obtain ⟨⟨v, hc⟩, hf⟩ := putIn_cell HP.out (i := i) (by omega)
      have hwr : IntKind.u8.wrap (k : Int) = ((k % 256 : Nat) : Int) := by rw [IntKind.wrap_u8]; omega
      go_wp2
      go_roundw
      case rel => exact ⟨k / 256, i, by omega, by omega, by go_num, by go_num, putIn_step HP.out (by omega) (by omega)⟩
      case measure => simp [intOf]; omega
    · obtain rfl : k = 0 := by omega
      obtain ⟨cs, D, h1, h2, h3, h4, h5, h6, h7⟩ := HP.out
      obtain ⟨d, hd⟩ : ∃ d, D.length = d := ⟨_, rfl⟩
      have hd8 : d ≤ 8 := by omega
      have hjd : (j : Int) = 8 - (d : Int) := by omega
      have hp := put_cells h2 h3
      have hg := (Array.getElem?_eq_some_iff.1 h2).1
      have hw1 : IntKind.i64.wrap (8 - (j : Int)) = (d : Int) := by rw [IntKind.wrap_i64]; omega
      have hw2 : IntKind.u8.wrap (d : Int) = (d : Int) := by rw [IntKind.wrap_u8]; omega
      have hc1 : (convert 105 9 (.slice (some ⟨w.heap.size + 1, 0, none⟩) 1 1)).run Try.prog (wr.alloc (Obj.cells #[Value.int IntKind.u8 (d : Int)] 5)).drew = .ok (.string ⟨#[d.toUInt8]⟩) (wr.alloc (Obj.cells #[Value.int IntKind.u8 (d : Int)] 5)).drew := conv_one _ _ d (by omega) (by rw [← h7]; simp)
      obtain ⟨A, hA1, hA2, hcut⟩ := cut_eight w.heap.size j d (by omega) hj
      have hpA : ∀ i (hi : i < D.length), wr.cell? (A.add i) = some (by8 D[i]) := fun i hi => by
        rw [hA2 (by omega), add_none]; exact hp i hi
      have hc2 := conv_tail wr.drew A d D hpA
      have hc3 := conv_tail (wr.alloc (Obj.cells #[Value.int IntKind.u8 (d : Int)] 5)).drew A d D (fun i hi => by
        rw [← hpA i hi]
        exact World.cell?_alloc_lt wr _ (A.add i) (by rw [hA2 (by omega), add_none]; exact hg))
      rw [hd] at hc2 hc3
      have hcall : Calls Try.prog 63 #[.slice (some ⟨w.heap.size + 1 + 1, 0, none⟩) 2 2] ((wr.alloc (Obj.cells #[Value.int IntKind.u8 (d : Int)] 5)).alloc (.cells #[.string ⟨#[d.toUInt8]⟩, .string ⟨D.toArray⟩] 9)).drew fun e w' => St (put n) e ∧ Below w.heap.size w w' := by
        refine (together_two (wr.alloc (Obj.cells #[Value.int IntKind.u8 (d : Int)] 5)) ⟨#[d.toUInt8]⟩ ⟨D.toArray⟩ _ (by simp [h7]) w.heap.size w (h6.alloc (by omega) _) (by simp only [World.alloc, Array.size_push]; omega) (by
          rw [Lib.size_eq, Lib.size_eq]; simp; omega)).mono fun e w' ⟨he, hw⟩ => ⟨?_, hw⟩
        have e2 : put n = [d.toUInt8] ++ D := by rw [put, h4, dig_zero, List.nil_append, hd]; rfl
        rw [e2]
        exact he
      have HC := Lib.hid hcall
      clear hcall
      have H1 := Lib.hid h1
      have H4 := Lib.hid h4
      have H6 := Lib.hid h6
      have HD := Lib.hid hd
      have HPP := Lib.hid hp
      clear h1 h2 h3 h4 h5 h6 hd hp hjd hA1 hA2 hpA
      go_wp2
      go_region_with (go_at_call 63; refine HC.out.mono ?_; rintro e w' ⟨⟨T, hT, rfl⟩, hb⟩; have HT := Lib.hid hT; have HB := Lib.hid hb; clear hT hb; dsimp only)
      all_goals go_wp2
      all_goals go_ret
      all_goals exact ⟨⟨_, HT.out, rfl⟩, HB.out⟩
set_option maxHeartbeats 2000000 in
set_option maxRecDepth 1000000 in
theorem putText_any (t : ByteArray) (w : World) (ht : t.size ≤ 140737488355000) :
    Calls Try.prog 44 #[.string t] w fun e w' => St (putText t.data.toList) e ∧ Below w.heap.size w w' := by
  have hz : t.data.toList.length = t.size := (Lib.size_eq t).symm
  have HZ := Lib.hid hz
  have hwr : IntKind.u64.wrap (t.size : Int) = (t.size : Int) := by rw [IntKind.wrap_u64]; omega
  clear hz
  go_enter Try.func44, Try.ntmps44
  go_wp2_with (first
    | (go_at_call 47; refine (put_any _ _ (by omega)).mono ?_; rintro e w1 ⟨⟨T, hT, rfl⟩, hb⟩; have HS := put_size hT (by omega); have HT := Lib.hid hT; have HB := Lib.hid hb; clear hT hb)
    | (go_at_call 63; refine (together_two' w1 T t _ rfl w.heap.size w HB.out HB.out.size (by omega)).mono ?_; rintro e w2 ⟨⟨U, hU, rfl⟩, hb⟩; have HU := Lib.hid hU; have HB2 := Lib.hid hb; clear hU hb))
  go_ret
  exact ⟨⟨U, by rw [HU.out, HT.out, ← HZ.out]; rfl, rfl⟩, HB2.out⟩
end Go.Proofs.Ytbdealddjonobaa.Wire

/-
  CONTRACT of wire.PutAll at this program. By an AI agent; no person has read it.
-/
namespace Go.Proofs.Ytbdealddjonobaa.Wire
open Go.RowKit

/-- What PutAll has laid after k texts. -/
def Laid (w : World) (n : Nat) (ys : List ByteArray) (k : Nat) (v : Value) (wr : World) : Prop := ∃ ps : List ByteArray, wr.ownsRow w.heap.size 9 1 v (1 + 2 * k) (sv ps) ∧ cat ps = put n ++ (bl (ys.take k)).flatMap putText ∧ Below w.heap.size w wr
theorem laid_step {w w2 : World} {n k : Nat} {ys : List ByteArray} {v' : Value} {T y : ByteArray} {ps : List ByteArray} (hc : cat ps = put n ++ (bl (ys.take k)).flatMap putText) (hk : k < ys.length) (hy : ys.getD k ByteArray.empty = y)
    (hT : T.data.toList = put y.data.toList.length) (ho : w2.ownsRow w.heap.size 9 1 v' (1 + 2 * k + 2) (sv ps ++ [.string T, .string y])) (hb : Below w.heap.size w w2) : Laid w n ys (k + 1) v' w2 := by
  refine ⟨ps ++ [T, y], ?_, ?_, hb⟩
  · rw [show 1 + 2 * (k + 1) = 1 + 2 * k + 2 by omega]
    simpa [sv] using ho
  · have e : ys[k] = y := by rw [← hy]; simp [List.getD, hk]
    rw [List.take_succ_eq_append_getElem hk, e]
    have h1 : cat (ps ++ [T, y]) = cat ps ++ (T.data.toList ++ y.data.toList) := by simp [cat]
    rw [h1, hc, hT]
    simp [bl, putText]
end Go.Proofs.Ytbdealddjonobaa.Wire

/-
  CONTRACT of wire.TakeAll at this program. By an AI agent; no person has read it.
-/
namespace Go.Proofs.Ytbdealddjonobaa.Wire
open Go.RowKit

end Go.Proofs.Ytbdealddjonobaa.Wire

/-
  CONTRACT of the document's TakeAll (letterlockref2) at this program. By an AI agent; no person has read it.
-/
namespace Go.Proofs.Ytbdealddjonobaa.Wire
open Go.RowKit

end Go.Proofs.Ytbdealddjonobaa.Wire

/-
  CONTRACT of the document's PutAll (letterlockref2) at this program. By an AI agent; no person has read it.
-/
namespace Go.Proofs.Ytbdealddjonobaa.Wire
open Go.RowKit

end Go.Proofs.Ytbdealddjonobaa.Wire
