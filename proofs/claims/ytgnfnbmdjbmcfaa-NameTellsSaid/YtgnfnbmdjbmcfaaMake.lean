/-
  CONTRACTS of name.Make and the document's Make at this program, and the walk of NameMakes. By an AI agent; no person has read it.
-/
import Derived.Test.YtgnfnbmdjbmcfaaCalls
namespace Go.Proofs.Ytgnfnbmdjbmcfaa
open Go.RowKit Txt

/-- A slice's elements: at each place below the length the address is one of a block that lies, and its cell holds the number. -/
def Reads (k : IntKind) (w : World) (a : Option Addr) (zs : List Int) : Prop :=
  ∀ j, j < zs.length → ∃ b off, a = some ⟨b, off, none⟩ ∧ b < w.heap.size ∧ w.cell? ⟨b, off + j, none⟩ = some (.int k (zs.getD j 0))

theorem Reads.below {k : IntKind} {w w' : World} {a : Option Addr} {zs : List Int} (h : Reads k w a zs) (hb : Below w.heap.size w w') : Reads k w' a zs := fun j hj => by
  obtain ⟨b, off, e, hlt, hc⟩ := h j hj
  exact ⟨b, off, e, Nat.lt_of_lt_of_le hlt hb.size, by rw [hb.cell (p := ⟨b, off + j, none⟩) hlt]; exact hc⟩

/-- What the frame tells of a slice of integers that came in. -/
theorem reads_of {k : IntKind} {w : World} {a : Option Addr} {len cap : Nat} {zs : List Int}
    (h : (a = none ∧ len = 0 ∧ cap = 0 ∧ zs = []) ∨ ∃ x, a = some x ∧ len ≤ cap ∧ cap ≤ maxLen ∧ zs.length = cap ∧ (∀ i, i < zs.length → w.cell? (x.add i) = some (.int k (zs.getD i 0))) ∧ ∀ n ∈ zs, (Lit.int k n).wf = true) :
    ∃ ys : List Int, ys.length = len ∧ Reads k w a ys ∧ ∀ n ∈ ys, (Lit.int k n).wf = true := by
  rcases h with ⟨rfl, rfl, rfl, rfl⟩ | ⟨x, rfl, h1, h2, h3, h4, h5⟩
  · exact ⟨[], rfl, fun j hj => by simp at hj, fun n hn => by simp at hn⟩
  · refine ⟨zs.take len, by rw [List.length_take]; omega, fun j hj => ?_, fun n hn => h5 n (List.mem_of_mem_take hn)⟩
    rw [List.length_take] at hj
    have c0 := h4 0 (by omega)
    have cj := h4 j (by omega)
    obtain ⟨b, off, sp⟩ := x
    have hb : sp = none ∧ b < w.heap.size := by
      have e0 : (⟨b, off, sp⟩ : Addr).add 0 = ⟨b, off, sp⟩ := by simp [Addr.add]
      rw [e0] at c0
      unfold World.cell? at c0
      simp only at c0
      split at c0
      · rename_i h0
        refine ⟨?_, (Array.getElem?_eq_some_iff.1 h0).1⟩
        cases sp with
        | none => rfl
        | some q => simp at c0
      · cases c0
    obtain ⟨rfl, hlt⟩ := hb
    refine ⟨b, off, rfl, hlt, ?_⟩
    have e : (⟨b, off, none⟩ : Addr).add j = ⟨b, off + j, none⟩ := by
      unfold Addr.add
      split
      · rename_i h0; rw [h0]; rfl
      · rfl
    rw [e] at cj
    rw [cj]
    simp only [List.getD, List.getElem?_take_of_lt (show j < len by omega)]

theorem all_take {p : Int → Bool} {zs : List Int} {k : Nat} (hk : k < zs.length) (h : (zs.take k).all p = true) (hp : p (zs.getD k 0) = true) : (zs.take (k + 1)).all p = true := by
  rw [List.take_succ_eq_append_getElem hk, List.all_append, h]
  have : zs.getD k 0 = zs[k] := by simp [List.getD, hk]
  rw [this] at hp
  simp [hp]
theorem all_not {p : Int → Bool} {zs : List Int} {k : Nat} (hk : k < zs.length) (hp : p (zs.getD k 0) = false) : zs.all p = false := by
  have : zs.getD k 0 = zs[k] := by simp [List.getD, hk]
  rw [this] at hp
  exact List.all_eq_false.2 ⟨zs[k], List.getElem_mem hk, by simp [hp]⟩

def Made (zs : List Int) (e : Ending) : Prop :=
  (zs.all Lib.validRune = false ∧ e = .returned (.tuple #[.string ⟨#[]⟩, .int .i64 1])) ∨
  (zs.all Lib.validRune = true ∧ e = .returned (.tuple #[.string ⟨(enc zs).toArray⟩, .int .i64 0]))

/-! ### string(runes) -/
theorem encode_data {r : Int} (h : Lib.validRune r = true) : (Utf8.encode r).data.toList = Lib.encodeRune r := by
  obtain ⟨n, rfl, hn⟩ := valid_nat h
  have hv : Utf8.valid (n : Int) = true := by
    simp only [Utf8.valid, Bool.or_eq_true, Bool.and_eq_true, decide_eq_true_eq]; omega
  simp only [Utf8.encode, hv, if_true, Int.toNat_natCast]
  by_cases h1 : n < 128
  · rw [if_pos h1, enc_one h1]
  · by_cases h2 : n < 2048
    · rw [if_neg h1, if_pos h2, enc_two (by omega) h2]
    · by_cases h3 : n < 65536
      · rw [if_neg h1, if_neg h2, if_pos h3, enc_three (by omega)]
      · rw [if_neg h1, if_neg h2, if_neg h3, enc_four (by omega) (by omega)]
theorem runesBytes_go : ∀ (zs : List Int) (s : ByteArray), zs.all Lib.validRune = true → (zs.foldl (fun r n => r ++ Utf8.encode n) s).data.toList = s.data.toList ++ enc zs
  | [], s, _ => by simp [enc]
  | z :: zs, s, h => by
    rw [List.all_cons, Bool.and_eq_true] at h
    rw [List.foldl_cons, runesBytes_go zs _ h.2, app_data, encode_data h.1, enc_cons, List.append_assoc]
theorem runesBytes_enc {zs : List Int} (h : zs.all Lib.validRune = true) : runesBytes zs = ⟨(enc zs).toArray⟩ := by
  have := runesBytes_go zs ByteArray.empty h
  rw [← Lib.mk_data (runesBytes zs)]
  unfold runesBytes
  rw [this]
  simp
theorem convert_runes (w : World) (a : Option Addr) (cap : Nat) (zs : List Int) (hr : Reads .i32 w a zs) (hv : zs.all Lib.validRune = true) :
    (convert 23 9 (.slice a zs.length cap)).run Try.prog w = .ok (.string ⟨(enc zs).toArray⟩) w := by
  cases zs with
  | nil =>
    cases a with
    | none => rw [run_convert_runes_nil w _ _ 21 _ _ Try.underlying23 Try.underlying21 Try.underlying9]; rfl
    | some x =>
      rw [List.length_nil, run_convert_runes w _ _ 21 x 0 cap [] (Nat.le_refl _) Try.underlying23 Try.underlying21 Try.underlying9 (fun j hj => by simp at hj)]
      rfl
  | cons z t =>
    obtain ⟨b, off, rfl, _, _⟩ := hr 0 (by simp)
    rw [run_convert_runes w _ _ 21 _ _ cap (z :: t) (Nat.le_refl _) Try.underlying23 Try.underlying21 Try.underlying9 (fun j hj => ?_)]
    · rw [List.take_length, runesBytes_enc hv]
    · obtain ⟨b', off', he, _, hc⟩ := hr j hj
      obtain ⟨rfl, rfl⟩ : b = b' ∧ off = off' := by simpa using he
      by_cases h0 : j = 0
      · subst h0; exact hc
      · simp only [Addr.add, if_neg h0]; exact hc

/-! ### name.Make -/
theorem valid_lib (r : Int) (v : Bool) (h : Lib.validRune r = v) (w : World) : Calls Try.prog 42 #[.int .i32 r] w fun e w' => e = .returned (.bool v) ∧ w' = w := by
  have := Try.utf8_ValidRune r w
  rw [h] at this
  exact this

set_option maxHeartbeats 2000000 in
set_option maxRecDepth 1000000 in
theorem make_any (a : Option Addr) (cap : Nat) (zs : List Int) (w : World) (hn : zs.length ≤ 35184372088832) (hr : Reads .i32 w a zs) :
    Calls Try.prog 26 #[.slice a zs.length cap] w fun e w' => Made zs e ∧ w = w' := by
  have HR := Lib.hid hr
  clear hr
  go_enter Try.func26, Try.ntmps26
  go_wp2
  go_loop [8] (fun i => ∃ k : Nat, k ≤ zs.length ∧ i = .int .i64 k ∧ (zs.take k).all Lib.validRune = true) (fun i => zs.length - (intOf i).toNat)
  case atStart => exact ⟨0, Nat.zero_le _, rfl, rfl⟩
  case round =>
    obtain ⟨k, hk, rfl, hall⟩ := hrel
    have HL := Lib.hid hall
    clear hall
    by_cases hlt : k < zs.length
    · obtain ⟨b, off, rfl, hblt, hcell⟩ := HR.out k hlt
      obtain ⟨z, hz⟩ : ∃ z, zs.getD k 0 = z := ⟨_, rfl⟩
      rw [hz] at hcell
      have HZ := Lib.hid hz
      clear hz
      cases hv : Lib.validRune z with
      | true =>
        have HV := Lib.hid hv
        clear hv
        go_wp2_with (go_at_call 42; refine (valid_lib z true HV.out _).mono ?_; rintro e w' ⟨rfl, rfl⟩)
        go_round
        case rel => exact ⟨k + 1, by omega, by go_num, all_take hlt HL.out (by rw [HZ.out]; exact HV.out)⟩
        case measure => simp [intOf]; omega
      | false =>
        have HV := Lib.hid hv
        clear hv
        go_wp2_with (go_at_call 42; refine (valid_lib z false HV.out _).mono ?_; rintro e w' ⟨rfl, rfl⟩)
        go_ret2
        exact ⟨.inl ⟨all_not hlt (by rw [HZ.out]; exact HV.out), rfl⟩, rfl⟩
    · obtain rfl : k = zs.length := by omega
      have hv := HL.out
      rw [List.take_length] at hv
      have hcv := convert_runes w a cap zs HR.out hv
      have HV := Lib.hid hv
      clear hv
      go_wp2
      go_ret2
      exact ⟨.inr ⟨HV.out, rfl⟩, rfl⟩

/-! ### the document's valid, one, Make -/
set_option maxHeartbeats 1000000 in
theorem refvalid_any (r : Int) (w : World) : Calls Try.prog 43 #[.int .i32 r] w fun e w' => e = .returned (.bool (Lib.validRune r)) ∧ w = w' := by
  go_enter Try.func43, Try.ntmps43
  go_wp2
  all_goals go_ret
  all_goals refine ⟨ret_bool ?_, rfl⟩
  all_goals unfold Lib.validRune
  all_goals symm
  all_goals first
    | (apply decide_eq_true; omega)
    | (apply decide_eq_false; omega)
    | (rw [← Bool.decide_or]; exact decide_eq_decide.2 (by omega))

theorem conv_ints (w : World) (zs : List Int) (h : ∀ z ∈ zs, 0 ≤ z ∧ z < 256) :
    (convert 55 9 (.slice (some ⟨w.heap.size, 0, none⟩) zs.length zs.length)).run Try.prog (w.alloc (.cells (zs.map (Value.int .u8)).toArray 5)) =
      .ok (.string ⟨(zs.map fun z => z.toNat.toUInt8).toArray⟩) (w.alloc (.cells (zs.map (Value.int .u8)).toArray 5)) := by
  have := run_convert_bytes_back (P := Try.prog) (w.alloc (.cells (zs.map (Value.int .u8)).toArray 5)) 55 9 5 ⟨w.heap.size, 0, none⟩ zs.length (zs.map fun z => z.toNat.toUInt8) Try.underlying55 Try.underlying5 Try.underlying9 (fun j hj => ?_)
  · simpa using this
  · rw [List.length_map] at hj
    have e : (⟨w.heap.size, 0, none⟩ : Addr).add j = ⟨w.heap.size, j, none⟩ := by
      unfold Addr.add
      split
      · rename_i h0; rw [h0]
      · simp
    rw [e, World.cell?_alloc_mark]
    have hz := h zs[j] (List.getElem_mem hj)
    simp [hj]
    omega
theorem ret_str {a b : ByteArray} (h : a = b) : Ending.returned (.string a) = .returned (.string b) := by rw [h]
set_option maxHeartbeats 2000000 in
set_option maxRecDepth 1000000 in
theorem one_any (n : Nat) (w : World) (hn : n < 55296 ∨ (57343 < n ∧ n ≤ 1114111)) : Calls Try.prog 41 #[.int .i32 n] w fun e w' => e = .returned (.string ⟨(Lib.encodeRune n).toArray⟩) ∧ Below w.heap.size w w' := by
  obtain ⟨S, hS⟩ : ∃ S : ByteArray, S = ⟨(Lib.encodeRune n).toArray⟩ := ⟨_, rfl⟩
  rw [← hS]
  by_cases h1 : n < 128
  · have hcv := conv_ints w [(n : Int)] (by simp; omega)
    rw [show (([(n : Int)].map fun z => z.toNat.toUInt8)) = Lib.encodeRune n from by rw [enc_one h1]; rfl, ← hS] at hcv
    simp only [List.map_cons, List.map_nil, List.length_cons, List.length_nil] at hcv
    clear hS
    go_enter Try.func41, Try.ntmps41
    go_wp2
    go_ret
    exact ⟨rfl, (Below.refl _ _).alloc (Nat.le_refl _) _⟩
  · by_cases h2 : n < 2048
    · have hcv := conv_ints w [192 + (n : Int) / 64, 128 + (n : Int) % 64] (by simp; omega)
      rw [show (([192 + (n : Int) / 64, 128 + (n : Int) % 64].map fun z => z.toNat.toUInt8)) = Lib.encodeRune n from by rw [Lib.encodeRune, Lib.encodeRuneZ_two (by omega) (by omega)], ← hS] at hcv
      simp only [List.map_cons, List.map_nil, List.length_cons, List.length_nil] at hcv
      clear hS
      go_enter Try.func41, Try.ntmps41
      go_wp2
      go_ret
      exact ⟨rfl, (Below.refl _ _).alloc (Nat.le_refl _) _⟩
    · by_cases h3 : n < 65536
      · have hcv := conv_ints w [224 + (n : Int) / 4096, 128 + (n : Int) / 64 % 64, 128 + (n : Int) % 64] (by simp; omega)
        rw [show (([224 + (n : Int) / 4096, 128 + (n : Int) / 64 % 64, 128 + (n : Int) % 64].map fun z => z.toNat.toUInt8)) = Lib.encodeRune n from by rw [Lib.encodeRune, Lib.encodeRuneZ_three (by omega)], ← hS] at hcv
        simp only [List.map_cons, List.map_nil, List.length_cons, List.length_nil] at hcv
        clear hS
        go_enter Try.func41, Try.ntmps41
        go_wp2
        go_ret
        exact ⟨rfl, (Below.refl _ _).alloc (Nat.le_refl _) _⟩
      · have hcv := conv_ints w [240 + (n : Int) / 262144, 128 + (n : Int) / 4096 % 64, 128 + (n : Int) / 64 % 64, 128 + (n : Int) % 64] (by simp; omega)
        rw [show (([240 + (n : Int) / 262144, 128 + (n : Int) / 4096 % 64, 128 + (n : Int) / 64 % 64, 128 + (n : Int) % 64].map fun z => z.toNat.toUInt8)) = Lib.encodeRune n from by rw [Lib.encodeRune, Lib.encodeRuneZ_four (by omega) (by omega)], ← hS] at hcv
        simp only [List.map_cons, List.map_nil, List.length_cons, List.length_nil] at hcv
        clear hS
        go_enter Try.func41, Try.ntmps41
        go_wp2
        go_ret
        exact ⟨rfl, (Below.refl _ _).alloc (Nat.le_refl _) _⟩

theorem one_call (z : Int) (hz : Lib.validRune z = true) (w : World) : Calls Try.prog 41 #[.int .i32 z] w fun e w' => ∃ S : ByteArray, e = .returned (.string S) ∧ S.data.toList = Lib.encodeRune z ∧ S.size ≤ 4 ∧ Below w.heap.size w w' := by
  obtain ⟨n, rfl, hn⟩ := valid_nat hz
  refine (one_any n w hn).mono ?_
  rintro e w' ⟨rfl, hb⟩
  exact ⟨_, rfl, rfl, by rw [Lib.size_eq]; exact (enc_len n).2, hb⟩
theorem refvalid_call (r : Int) (v : Bool) (h : Lib.validRune r = v) (w : World) : Calls Try.prog 43 #[.int .i32 r] w fun e w' => e = .returned (.bool v) ∧ w = w' := by
  have := refvalid_any r w
  rw [h] at this
  exact this

theorem enc_take {zs : List Int} {k : Nat} (hk : k < zs.length) : enc (zs.take (k + 1)) = enc (zs.take k) ++ Lib.encodeRune (zs.getD k 0) := by
  have : zs.getD k 0 = zs[k] := by simp [List.getD, hk]
  rw [List.take_succ_eq_append_getElem hk, enc_append, this, enc_cons, enc_nil, List.append_nil]
theorem enc_take_le (zs : List Int) (k : Nat) : (enc (zs.take k)).length ≤ 4 * k := by
  have h := (enc_le (zs.take k)).2
  have : (zs.take k).length ≤ k := List.length_take_le _ _
  omega
theorem bytes_of {s : ByteArray} {l : List UInt8} (h : s.data.toList = l) : s = ⟨l.toArray⟩ := by
  rw [← h]

set_option maxHeartbeats 2000000 in
set_option maxRecDepth 1000000 in
theorem refmake_any (a : Option Addr) (cap : Nat) (zs : List Int) (w : World) (hn : zs.length ≤ 35184372088832) (hr : Reads .i32 w a zs) :
    Calls Try.prog 27 #[.slice a zs.length cap] w fun e w' => Made zs e ∧ Below w.heap.size w w' := by
  have HR := Lib.hid hr
  clear hr
  go_enter Try.func27, Try.ntmps27
  go_wp2
  go_loopw [4, 5] (fun s i wr => ∃ (k : Nat) (acc : ByteArray), k ≤ zs.length ∧ i = .int .i64 k ∧ s = .string acc ∧ acc.data.toList = enc (zs.take k) ∧ (zs.take k).all Lib.validRune = true ∧ Below w.heap.size w wr) (fun _ i _ => zs.length - (intOf i).toNat)
  case atStart => exact ⟨0, ⟨#[]⟩, Nat.zero_le _, rfl, rfl, rfl, rfl, Below.refl _ _⟩
  case round =>
    obtain ⟨k, acc, hk, rfl, rfl, hacc, hall, hb⟩ := hrel
    have HL := Lib.hid hall
    clear hall
    have hsz : acc.size ≤ 4 * k := by rw [Lib.size_eq, hacc]; exact enc_take_le zs k
    have HA := Lib.hid hacc
    clear hacc
    by_cases hlt : k < zs.length
    · obtain ⟨b, off, rfl, hblt, hcell⟩ := (HR.out.below hb) k hlt
      obtain ⟨z, hz⟩ : ∃ z, zs.getD k 0 = z := ⟨_, rfl⟩
      rw [hz] at hcell
      have HZ := Lib.hid hz
      clear hz
      cases hv : Lib.validRune z with
      | true =>
        have HV := Lib.hid hv
        clear hv
        go_wp2_with (go_at_call 43; refine (refvalid_call z true HV.out _).mono ?_; rintro e w' ⟨rfl, rfl⟩)
        refine (one_call z HV.out _).mono ?_
        rintro e w1 ⟨S, rfl, hS, hS4, b1⟩
        have HS := Lib.hid hS
        clear hS
        go_wp2_with fail
        go_roundw
        case rel => exact ⟨k + 1, acc ++ S, by omega, by go_num, rfl, by rw [app_data, HA.out, HS.out, enc_take hlt, HZ.out], all_take hlt HL.out (by rw [HZ.out]; exact HV.out), hb.trans (b1.mono hb.size)⟩
        case measure => simp [intOf]; omega
      | false =>
        have HV := Lib.hid hv
        clear hv
        go_wp2_with (go_at_call 43; refine (refvalid_call z false HV.out _).mono ?_; rintro e w' ⟨rfl, rfl⟩)
        go_ret2
        exact ⟨.inl ⟨all_not hlt (by rw [HZ.out]; exact HV.out), rfl⟩, hb⟩
    · obtain rfl : k = zs.length := by omega
      have hv := HL.out
      rw [List.take_length] at hv
      have hA2 := HA.out
      rw [List.take_length] at hA2
      have HV := Lib.hid hv
      clear hv
      obtain rfl := bytes_of hA2
      clear hA2 HA
      go_wp2
      go_ret2
      exact ⟨.inr ⟨HV.out, rfl⟩, hb⟩


/-! ### NameMakes -/
set_option maxHeartbeats 2000000 in
set_option maxRecDepth 100000 in
theorem makes_walk (a : Option Addr) (cap : Nat) (zs : List Int) (w : World) (hr : Reads .i32 w a zs) :
    Calls Try.prog 4 #[.slice a zs.length cap] w fun e w' => e = .returned (.bool true) ∧ Below w.heap.size w w' := by
  have HR := Lib.hid hr
  clear hr
  by_cases hl : (500 : Int) < ↑zs.length
  · go_enter Try.func4, Try.ntmps4
    go_wp2_with fail
    refine (shown_any _).mono ?_
    rintro e w1 ⟨rfl, b1⟩
    go_wp2_with fail
    go_ret
    exact ⟨rfl, b1⟩
  · have hl' : ↑zs.length ≤ (500 : Int) := by omega
    clear hl
    go_enter Try.func4, Try.ntmps4
    go_wp2_with fail
    refine (shown_any _).mono ?_
    rintro e w1 ⟨rfl, b1⟩
    go_wp2_with fail
    refine (make_any a cap zs _ (by omega) (HR.out.below b1)).mono ?_
    rintro e w2 ⟨⟨hv, rfl⟩ | ⟨hv, rfl⟩, rfl⟩
    · have HV := Lib.hid hv
      clear hv
      go_wp2_with fail
      refine (refmake_any a cap zs _ (by omega) (HR.out.below b1)).mono ?_
      rintro e w3 ⟨⟨hu, rfl⟩ | ⟨hu, rfl⟩, b3⟩
      · clear hu
        go_wp2_with fail
        go_ret
        exact ⟨by simp, b1.trans (b3.mono b1.size)⟩
      · rw [HV.out] at hu; cases hu
    · have HV := Lib.hid hv
      clear hv
      go_wp2_with fail
      refine (refmake_any a cap zs _ (by omega) (HR.out.below b1)).mono ?_
      rintro e w3 ⟨⟨hu, rfl⟩ | ⟨hu, rfl⟩, b3⟩
      · rw [HV.out] at hu; cases hu
      · clear hu
        go_wp2_with fail
        go_ret
        exact ⟨by simp, b1.trans (b3.mono b1.size)⟩
end Go.Proofs.Ytgnfnbmdjbmcfaa
