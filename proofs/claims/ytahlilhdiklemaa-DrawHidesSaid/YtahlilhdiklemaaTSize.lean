/-
  CONTRACTS of the document's many, size, Right (letterlockref3) at this program. By an AI agent; no person has read it.
-/
import Derived.Test.YtahlilhdiklemaaTerm
import Derived.Test.YtahlilhdiklemaaWRTake
namespace Go.Proofs.Ytahlilhdiklemaa.Term
open Go.RowKit Wire

theorem ret_i64 {a b : Int} (h : a = b) : Ending.returned (.int .i64 a) = .returned (.int .i64 b) := by rw [h]
def manyI (b : UInt8) : Int := match arity b with | none => -1 | some n => (n : Int)
theorem arity_nat (b : UInt8) : arity b = if b.toNat = 97 ∨ b.toNat = 116 then some 0 else if b.toNat = 104 ∨ b.toNat = 117 then some 1 else if b.toNat = 112 ∨ b.toNat = 115 ∨ b.toNat = 98 ∨ b.toNat = 103 then some 2 else none := by
  have h : ∀ c : UInt8, b = c ↔ b.toNat = c.toNat := fun c => UInt8.toNat_inj.symm
  unfold arity
  simp only [h]
  rfl
set_option maxHeartbeats 2000000 in
theorem many_any (b : UInt8) (w : World) : Calls Try.prog 67 #[.int .u8 (b.toNat : Int)] w fun e w' => e = .returned (.int .i64 (manyI b)) ∧ w = w' := by
  have HA := Lib.hid (arity_nat b)
  obtain ⟨c, hc⟩ : ∃ c : Nat, b.toNat = c := ⟨_, rfl⟩
  rw [hc] at HA ⊢
  clear hc
  go_enter Try.func67, Try.ntmps67
  go_wp2
  all_goals go_ret
  all_goals refine ⟨ret_i64 ?_, rfl⟩
  all_goals unfold manyI
  all_goals rw [HA.out]
  all_goals simp only [beq_iff_eq, beq_eq_false_iff_ne, ne_eq] at *
  all_goals first
    | (rw [if_pos (by omega)] <;> rfl)
    | (rw [if_neg (by omega), if_pos (by omega)] <;> rfl)
    | (rw [if_neg (by omega), if_neg (by omega), if_pos (by omega)] <;> rfl)
    | (rw [if_neg (by omega), if_neg (by omega), if_neg (by omega)] <;> rfl)

/-! ### size -/
/-- What is known of a text's first byte and what is behind it. -/
structure Head (s : ByteArray) (h0 : 0 < s.size) (b : UInt8) (t : List UInt8) : Prop where
  first : s[0] = b
  all : s.data.toList = b :: t
  rest : (s.extract 1 s.size).data.toList = t
  len : t.length + 1 = s.size
  get : ∀ i (hi : i + 1 < s.size), t[i]? = some (s[i + 1]'hi)
theorem head_of {s : ByteArray} (h0 : 0 < s.size) : ∃ b t, Head s h0 b t := by
  obtain ⟨t, ht⟩ : ∃ t, (s.extract 1 s.size).data.toList = t := ⟨_, rfl⟩
  have hl : s.data.toList = s[0] :: t := by rw [take_hd h0, ht]
  have hlen : t.length + 1 = s.size := by rw [Lib.size_eq, hl]; rfl
  refine ⟨s[0], t, rfl, hl, ht, hlen, fun i hi => ?_⟩
  have h1 : (s.data.toList)[i + 1]? = some (s[i + 1]'hi) := by
    rw [List.getElem?_eq_getElem (by rw [← Lib.size_eq]; exact hi)]; rfl
  rw [hl, List.getElem?_cons_succ] at h1
  exact h1
theorem size_zero (l : List UInt8) : size 0 l = 0 := rfl
theorem size_nil (d : Nat) : size d [] = 0 := by cases d <;> rfl
theorem size_cons (d : Nat) (b : UInt8) (t : List UInt8) : size (d + 1) (b :: t) = up (body (size d) b t) := rfl

set_option maxHeartbeats 4000000 in
set_option maxRecDepth 1000000 in
theorem size_empty (s : ByteArray) (d : Int) (w : World) (h : s.data.toList = []) : Calls Try.prog 62 #[.string s, .int .i64 d] w fun e w' => e = .returned (.int .i64 0) ∧ Below w.heap.size w w' := by
  have he := empty_str h
  clear h
  go_enter Try.func62, Try.ntmps62
  go_wp2_with fail
  go_ret
  exact ⟨rfl, Below.refl _ _⟩
set_option maxHeartbeats 4000000 in
set_option maxRecDepth 1000000 in
theorem size_none (s : ByteArray) (w : World) (h : s.data.toList ≠ []) : Calls Try.prog 62 #[.string s, .int .i64 0] w fun e w' => e = .returned (.int .i64 0) ∧ Below w.heap.size w w' := by
  have he := nonempty_str h
  clear h
  go_enter Try.func62, Try.ntmps62
  go_wp2_with fail
  go_ret
  exact ⟨rfl, Below.refl _ _⟩

set_option maxHeartbeats 1000000 in
set_option maxRecDepth 1000000 in
theorem size_rest (d : Nat) (s : ByteArray) (w : World) (h0 : 0 < s.size) (b : UInt8) (t : List UInt8) (m : Nat) (hd : d + 1 ≤ 40) (hs : s.size ≤ 140737488355328) (hh : Head s h0 b t) (ha : arity b = some m) (hm : ¬ m = 0)
    (ih : ∀ (s : ByteArray) (w : World), s.size ≤ 140737488355328 → Calls Try.prog 62 #[.string s, .int .i64 (d : Int)] w fun e w' => e = .returned (.int .i64 (size d s.data.toList : Nat)) ∧ Below w.heap.size w w') :
    Calls Try.prog 62 #[.string s, .int .i64 ((d + 1 : Nat) : Int)] w fun e w' => e = .returned (.int .i64 (size (d + 1) s.data.toList : Nat)) ∧ Below w.heap.size w w' := by
  have IH := Lib.hid ih
  have HH := Lib.hid hh
  have he := nonempty_str (s := s) (by rw [hh.all]; simp)
  have hb := hh.first
  have hx0 : (0 : Int) < (s.size : Int) := by omega
  have hdd : (((d : Int) + 1) == 0) = false := by rw [beq_eq_false_iff_ne]; omega
  have HM : Hid (manyI b = (m : Int)) := by show _ = _; unfold manyI; rw [ha]
  have hbn : ∀ c : UInt8, b = c ↔ (b.toNat : Int) = (c.toNat : Int) := fun c => ⟨fun h => by rw [h], fun h => UInt8.toNat_inj.1 (by omega)⟩
  have HBN := Lib.hid hbn
  obtain ⟨Z, hZ⟩ : ∃ Z, size (d + 1) s.data.toList = Z := ⟨_, rfl⟩
  rw [hZ]
  have HZ := Lib.hid hZ
  clear hbn ih hh hZ
  have hm2 : 0 < m ∧ m ≤ 2 := by
    unfold arity at ha
    split at ha
    · have := Option.some.inj ha; omega
    · split at ha
      · have := Option.some.inj ha; omega
      · split at ha
        · have := Option.some.inj ha; omega
        · cases ha
  obtain ⟨hm0, hm2⟩ := hm2
  have hc : b ≠ 97 ∧ b ≠ 116 := by
    constructor
    · rintro rfl; have : arity 97 = some 0 := rfl
      rw [this] at ha; have := Option.some.inj ha; omega
    · rintro rfl; have : arity 116 = some 0 := rfl
      rw [this] at ha; have := Option.some.inj ha; omega
  have c1 : ((b.toNat : Int) == 97) = false := by
    rw [beq_eq_false_iff_ne]; intro h; exact hc.1 ((HBN.out 97).2 h)
  have c2 : ((b.toNat : Int) == 116) = false := by
    rw [beq_eq_false_iff_ne]; intro h; exact hc.2 ((HBN.out 116).2 h)
  have hbody : body (size d) b t = if b = 98 ∧ t.head? ≠ some 117 then none else sizes (size d) m t := by
    unfold body; rw [ha]
    obtain ⟨k, rfl⟩ : ∃ k, m = k + 1 := ⟨m - 1, by omega⟩
    rfl
  clear hc ha hm
  by_cases hbx : b = 98
  · have c3 : ((b.toNat : Int) == 98) = true := by rw [hbx]; rfl
    by_cases hu : t.head? = some 117
    · rw [if_neg (by simp [hu])] at hbody
      have HBODY := Lib.hid hbody
      have ht1 : 1 < s.size := by
        have := HH.out.len
        cases t with
        | nil => simp at hu
        | cons x y => simp only [List.length_cons] at this; omega
      have c4 : (((s[1]'ht1).toNat : Int) != 117) = false := by
        have h := HH.out.get 0 ht1
        rw [List.head?_eq_getElem?, h] at hu
        rw [Option.some.inj hu]; rfl
      have ht1' : (1 : Int) < (s.size : Int) := by omega
      clear hbody hbx hu
      go_enter Try.func62, Try.ntmps62
      go_wp2_with (go_at_call 67; refine (many_any b _).mono ?_; rw [HM.out]; rintro e w' ⟨rfl, rfl⟩)
      go_loopw [8, 9] (fun p q wr => ∃ i a : Nat, i ≤ m ∧ 1 ≤ a ∧ a ≤ s.size ∧ q = .int .i64 i ∧ p = .int .i64 a ∧ Hid (i = 0 → a = 1) ∧ Hid (sizes (size d) m t = (sizes (size d) (m - i) (t.drop (a - 1))).map ((a - 1) + ·)) ∧ Hid (Below w.heap.size w wr)) (fun _ q _ => m - (intOf q).toNat)
      case atStart => exact ⟨0, 1, Nat.zero_le _, Nat.le_refl _, by omega, rfl, rfl, fun _ => rfl, by show _ = _; simp, Below.refl _ _⟩
      case round =>
        obtain ⟨i, a, hi, ha1, ha2, rfl, rfl, H0, HS, HW⟩ := hrel
        by_cases hlt : i < m
        · obtain ⟨n, hn⟩ : ∃ n, size d (t.drop (a - 1)) = n := ⟨_, rfl⟩
          have hxd : (s.extract a s.size).data.toList = t.drop (a - 1) := by
            rw [extract_drop, HH.out.all]
            obtain ⟨a', rfl⟩ : ∃ a', a = a' + 1 := ⟨a - 1, by omega⟩
            simp
          have hxz : (s.extract a s.size).size ≤ 140737488355328 := by rw [Lib.size_eq, extract_drop, List.length_drop, ← Lib.size_eq]; omega
          have hnle : a + n ≤ s.size := by
            have h1 := size_le d (t.drop (a - 1))
            rw [hn, List.length_drop] at h1
            have := HH.out.len
            omega
          have hst : sizes (size d) (m - i) (t.drop (a - 1)) = if n = 0 then none else (sizes (size d) (m - (i + 1)) ((t.drop (a - 1)).drop n)).map (n + ·) := by
            rw [show m - i = (m - (i + 1)) + 1 by omega]
            show (if size d (t.drop (a - 1)) = 0 then none else _) = _
            rw [hn]
          have HXD := Lib.hid hxd
          have HN := Lib.hid hn
          have ha3 : (0 : Int) ≤ (a : Int) := by omega
          have ha4 : (a : Int) ≤ (s.size : Int) := by omega
          clear hxd hn
          by_cases hn0 : n = 0
          · subst hn0
            rw [if_pos rfl] at hst
            have HSZ : Hid (size (d + 1) s.data.toList = 0) := by
              show _ = _
              rw [HH.out.all, size_cons, HBODY.out, HS.out, hst]; rfl
            clear hst
            by_cases hi0 : i = 0
            · have ha0 := H0.out hi0
              subst hi0 ha0
              go_wp2_with (first
                | (go_at_call 67; refine (many_any b _).mono ?_; rw [HM.out]; rintro e w' ⟨rfl, rfl⟩)
                | (go_at_call 62; refine (IH.out _ _ hxz).mono ?_; rw [HXD.out, HN.out]; rintro e w5 ⟨rfl, hb5⟩; have HB5 := Lib.hid (HW.out.trans (hb5.mono HW.out.size)); clear hb5))
              go_ret
              exact ⟨ret_i64 (by have h1 := HSZ.out; have h2 := HZ.out; omega), HB5.out⟩
            · have hib : ((i : Int) == 0) = false := by rw [beq_eq_false_iff_ne]; omega
              go_wp2_with (first
                | (go_at_call 67; refine (many_any b _).mono ?_; rw [HM.out]; rintro e w' ⟨rfl, rfl⟩)
                | (go_at_call 62; refine (IH.out _ _ hxz).mono ?_; rw [HXD.out, HN.out]; rintro e w5 ⟨rfl, hb5⟩; have HB5 := Lib.hid (HW.out.trans (hb5.mono HW.out.size)); clear hb5))
              go_ret
              exact ⟨ret_i64 (by have h1 := HSZ.out; have h2 := HZ.out; omega), HB5.out⟩
          · have hnb : ((n : Int) == 0) = false := by rw [beq_eq_false_iff_ne]; omega
            rw [if_neg hn0] at hst
            have HST := Lib.hid hst
            clear hst hn0
            by_cases hi0 : i = 0
            · have ha0 := H0.out hi0
              subst hi0 ha0
              go_wp2_with (first
                | (go_at_call 67; refine (many_any b _).mono ?_; rw [HM.out]; rintro e w' ⟨rfl, rfl⟩)
                | (go_at_call 62; refine (IH.out _ _ hxz).mono ?_; rw [HXD.out, HN.out]; rintro e w5 ⟨rfl, hb5⟩; have HB5 := Lib.hid (HW.out.trans (hb5.mono HW.out.size)); clear hb5))
              go_roundw
              case rel =>
                refine ⟨0 + 1, 1 + n, by omega, by omega, hnle, by go_num, by go_num, fun h => absurd h (by omega), ?_, HB5⟩
                show _ = _
                rw [HS.out, HST.out, List.drop_drop, show 1 - 1 + n = 1 + n - 1 by omega]
                cases sizes (size d) (m - (0 + 1)) (t.drop (1 + n - 1)) with
                | none => rfl
                | some z =>
                  simp only [Option.map_some]
                  congr 1
                  omega
              case measure => simp [intOf]; omega
            · have hib : ((i : Int) == 0) = false := by rw [beq_eq_false_iff_ne]; omega
              go_wp2_with (first
                | (go_at_call 67; refine (many_any b _).mono ?_; rw [HM.out]; rintro e w' ⟨rfl, rfl⟩)
                | (go_at_call 62; refine (IH.out _ _ hxz).mono ?_; rw [HXD.out, HN.out]; rintro e w5 ⟨rfl, hb5⟩; have HB5 := Lib.hid (HW.out.trans (hb5.mono HW.out.size)); clear hb5))
              go_roundw
              case rel =>
                refine ⟨i + 1, a + n, by omega, by omega, hnle, by go_num, by go_num, fun h => absurd h (by omega), ?_, HB5⟩
                show _ = _
                rw [HS.out, HST.out, List.drop_drop, show a - 1 + n = a + n - 1 by omega]
                cases sizes (size d) (m - (i + 1)) (t.drop (a + n - 1)) with
                | none => rfl
                | some z =>
                  simp only [Option.map_some]
                  congr 1
                  omega
              case measure => simp [intOf]; omega
        · obtain rfl : i = m := by omega
          have hsz : size (d + 1) s.data.toList = a := by
            have h := HS.out
            rw [Nat.sub_self] at h
            have h2 : sizes (size d) i t = some (a - 1) := by rw [h]; rfl
            rw [HH.out.all, size_cons, HBODY.out, h2]
            show 1 + (a - 1) = a
            omega
          have HSZ := Lib.hid hsz
          clear hsz
          go_wp2_with (go_at_call 67; refine (many_any b _).mono ?_; rw [HM.out]; rintro e w' ⟨rfl, rfl⟩)
          go_ret
          exact ⟨ret_i64 (by have h1 := HSZ.out; have h2 := HZ.out; omega), HW.out⟩
    · rw [if_pos ⟨hbx, hu⟩] at hbody
      have HSZ : Hid (size (d + 1) s.data.toList = 0) := by
        show _ = _
        rw [HH.out.all, size_cons, hbody]; rfl
      clear hbody hbx
      by_cases ht1 : 1 < s.size
      · have c4 : (((s[1]'ht1).toNat : Int) != 117) = true := by
          have h := HH.out.get 0 ht1
          rw [List.head?_eq_getElem?, h] at hu
          have : (s[1]'ht1).toNat ≠ 117 := fun h => hu (by rw [UInt8.toNat_inj.1 (show (s[1]'ht1).toNat = (117 : UInt8).toNat from h)])
          rw [bne_iff_ne]; omega
        have ht1' : (1 : Int) < (s.size : Int) := by omega
        clear hu
        go_enter Try.func62, Try.ntmps62
        go_wp2_with (go_at_call 67; refine (many_any b _).mono ?_; rw [HM.out]; rintro e w' ⟨rfl, rfl⟩)
        go_loopw [8, 9] (fun p q wr => p = .int .i64 1 ∧ q = .int .i64 0 ∧ wr = w) (fun _ _ _ => 0)
        case atStart => exact ⟨rfl, rfl, rfl⟩
        case round =>
          obtain ⟨rfl, rfl, rfl⟩ := hrel
          go_wp2_with (go_at_call 67; refine (many_any b _).mono ?_; rw [HM.out]; rintro e w' ⟨rfl, rfl⟩)
          go_ret
          exact ⟨ret_i64 (by have h1 := HSZ.out; have h2 := HZ.out; omega), Below.refl _ _⟩
      · have ht1' : (s.size : Int) ≤ 1 := by omega
        clear hu
        go_enter Try.func62, Try.ntmps62
        go_wp2_with (go_at_call 67; refine (many_any b _).mono ?_; rw [HM.out]; rintro e w' ⟨rfl, rfl⟩)
        go_loopw [8, 9] (fun p q wr => p = .int .i64 1 ∧ q = .int .i64 0 ∧ wr = w) (fun _ _ _ => 0)
        case atStart => exact ⟨rfl, rfl, rfl⟩
        case round =>
          obtain ⟨rfl, rfl, rfl⟩ := hrel
          go_wp2_with (go_at_call 67; refine (many_any b _).mono ?_; rw [HM.out]; rintro e w' ⟨rfl, rfl⟩)
          go_ret
          exact ⟨ret_i64 (by have h1 := HSZ.out; have h2 := HZ.out; omega), Below.refl _ _⟩
  · rw [if_neg (fun h => hbx h.1)] at hbody
    have HBODY := Lib.hid hbody
    have c3 : ((b.toNat : Int) == 98) = false := by
      rw [beq_eq_false_iff_ne]; intro h; exact hbx ((HBN.out 98).2 h)
    clear hbody hbx
    go_enter Try.func62, Try.ntmps62
    go_wp2_with (go_at_call 67; refine (many_any b _).mono ?_; rw [HM.out]; rintro e w' ⟨rfl, rfl⟩)
    go_loopw [8, 9] (fun p q wr => ∃ i a : Nat, i ≤ m ∧ 1 ≤ a ∧ a ≤ s.size ∧ q = .int .i64 i ∧ p = .int .i64 a ∧ Hid (i = 0 → a = 1) ∧ Hid (sizes (size d) m t = (sizes (size d) (m - i) (t.drop (a - 1))).map ((a - 1) + ·)) ∧ Hid (Below w.heap.size w wr)) (fun _ q _ => m - (intOf q).toNat)
    case atStart => exact ⟨0, 1, Nat.zero_le _, Nat.le_refl _, by omega, rfl, rfl, fun _ => rfl, by show _ = _; simp, Below.refl _ _⟩
    case round =>
      obtain ⟨i, a, hi, ha1, ha2, rfl, rfl, H0, HS, HW⟩ := hrel
      by_cases hlt : i < m
      · obtain ⟨n, hn⟩ : ∃ n, size d (t.drop (a - 1)) = n := ⟨_, rfl⟩
        have hxd : (s.extract a s.size).data.toList = t.drop (a - 1) := by
          rw [extract_drop, HH.out.all]
          obtain ⟨a', rfl⟩ : ∃ a', a = a' + 1 := ⟨a - 1, by omega⟩
          simp
        have hxz : (s.extract a s.size).size ≤ 140737488355328 := by rw [Lib.size_eq, extract_drop, List.length_drop, ← Lib.size_eq]; omega
        have hnle : a + n ≤ s.size := by
          have h1 := size_le d (t.drop (a - 1))
          rw [hn, List.length_drop] at h1
          have := HH.out.len
          omega
        have hst : sizes (size d) (m - i) (t.drop (a - 1)) = if n = 0 then none else (sizes (size d) (m - (i + 1)) ((t.drop (a - 1)).drop n)).map (n + ·) := by
          rw [show m - i = (m - (i + 1)) + 1 by omega]
          show (if size d (t.drop (a - 1)) = 0 then none else _) = _
          rw [hn]
        have HXD := Lib.hid hxd
        have HN := Lib.hid hn
        have ha3 : (0 : Int) ≤ (a : Int) := by omega
        have ha4 : (a : Int) ≤ (s.size : Int) := by omega
        clear hxd hn
        by_cases hn0 : n = 0
        · subst hn0
          rw [if_pos rfl] at hst
          have HSZ : Hid (size (d + 1) s.data.toList = 0) := by
            show _ = _
            rw [HH.out.all, size_cons, HBODY.out, HS.out, hst]; rfl
          clear hst
          go_wp2_with (first
            | (go_at_call 67; refine (many_any b _).mono ?_; rw [HM.out]; rintro e w' ⟨rfl, rfl⟩)
            | (go_at_call 62; refine (IH.out _ _ hxz).mono ?_; rw [HXD.out, HN.out]; rintro e w5 ⟨rfl, hb5⟩; have HB5 := Lib.hid (HW.out.trans (hb5.mono HW.out.size)); clear hb5))
          go_ret
          exact ⟨ret_i64 (by have h1 := HSZ.out; have h2 := HZ.out; omega), HB5.out⟩
        · have hnb : ((n : Int) == 0) = false := by rw [beq_eq_false_iff_ne]; omega
          rw [if_neg hn0] at hst
          have HST := Lib.hid hst
          clear hst hn0
          go_wp2_with (first
            | (go_at_call 67; refine (many_any b _).mono ?_; rw [HM.out]; rintro e w' ⟨rfl, rfl⟩)
            | (go_at_call 62; refine (IH.out _ _ hxz).mono ?_; rw [HXD.out, HN.out]; rintro e w5 ⟨rfl, hb5⟩; have HB5 := Lib.hid (HW.out.trans (hb5.mono HW.out.size)); clear hb5))
          go_roundw
          case rel =>
            refine ⟨i + 1, a + n, by omega, by omega, hnle, by go_num, by go_num, fun h => absurd h (by omega), ?_, HB5⟩
            show _ = _
            rw [HS.out, HST.out, List.drop_drop, show a - 1 + n = a + n - 1 by omega]
            cases sizes (size d) (m - (i + 1)) (t.drop (a + n - 1)) with
            | none => rfl
            | some z =>
              simp only [Option.map_some]
              congr 1
              omega
          case measure => simp [intOf]; omega
      · obtain rfl : i = m := by omega
        have hsz : size (d + 1) s.data.toList = a := by
          have h := HS.out
          rw [Nat.sub_self] at h
          have h2 : sizes (size d) i t = some (a - 1) := by rw [h]; rfl
          rw [HH.out.all, size_cons, HBODY.out, h2]
          show 1 + (a - 1) = a
          omega
        have HSZ := Lib.hid hsz
        clear hsz
        go_wp2_with (go_at_call 67; refine (many_any b _).mono ?_; rw [HM.out]; rintro e w' ⟨rfl, rfl⟩)
        go_ret
        exact ⟨ret_i64 (by have h1 := HSZ.out; have h2 := HZ.out; omega), HW.out⟩

set_option maxHeartbeats 4000000 in
set_option maxRecDepth 1000000 in
theorem size_any : ∀ (d : Nat) (s : ByteArray) (w : World), d ≤ 40 → s.size ≤ 140737488355328 →
    Calls Try.prog 62 #[.string s, .int .i64 (d : Int)] w fun e w' => e = .returned (.int .i64 (size d s.data.toList : Nat)) ∧ Below w.heap.size w w'
  | 0, s, w, _, hs => by
    by_cases h : s.data.toList = []
    · exact size_empty s _ w h
    · exact size_none s w h
  | d + 1, s, w, hd, hs => by
    by_cases h : s.data.toList = []
    · rw [h, size_nil]; exact size_empty s _ w h
    · have h0 : 0 < s.size := by
        rw [Lib.size_eq]; exact List.length_pos_iff.2 h
      have IH : Hid (∀ (s : ByteArray) (w : World), s.size ≤ 140737488355328 → Calls Try.prog 62 #[.string s, .int .i64 (d : Int)] w fun e w' => e = .returned (.int .i64 (size d s.data.toList : Nat)) ∧ Below w.heap.size w w') := fun s w hs => size_any d s w (by omega) hs
      obtain ⟨b, t, hh⟩ := head_of h0
      have he := nonempty_str h
      have HH := Lib.hid hh
      have hb := hh.first
      have hx0 : (0 : Int) < (s.size : Int) := by omega
      have hx1 : (1 : Int) ≤ (s.size : Int) := by omega
      have hez : (s.extract 1 s.size).size ≤ 140737488355328 := by
        have h1 := hh.len
        rw [Lib.size_eq, hh.rest]; omega
      have hdd : (((d : Int) + 1) == 0) = false := by rw [beq_eq_false_iff_ne]; omega
      clear h hh
      have hbn : ∀ c : UInt8, b = c ↔ (b.toNat : Int) = (c.toNat : Int) := fun c => ⟨fun h => by rw [h], fun h => UInt8.toNat_inj.1 (by omega)⟩
      have HBN := Lib.hid hbn
      clear hbn
      cases ha : arity b with
      | none =>
        have HSZ : Hid (size (d + 1) s.data.toList = 0) := by
          show _ = _
          rw [HH.out.all, size_cons]; unfold body; rw [ha]; rfl
        have HM : Hid (manyI b = -1) := by show _ = _; unfold manyI; rw [ha]
        clear ha
        rw [HSZ.out]
        go_enter Try.func62, Try.ntmps62
        go_wp2_with (go_at_call 67; refine (many_any b _).mono ?_; rw [HM.out]; rintro e w' ⟨rfl, rfl⟩)
        go_ret
        exact ⟨rfl, Below.refl _ _⟩
      | some m =>
        have HM : Hid (manyI b = (m : Int)) := by show _ = _; unfold manyI; rw [ha]
        by_cases hm : m = 0
        · subst hm
          have hc : b = 97 ∨ b = 116 := by
            unfold arity at ha
            split at ha
            · assumption
            · split at ha
              · cases ha
              · split at ha <;> cases ha
          have hbody : body (size d) b t = leaf b t := by unfold body; rw [ha]
          clear ha
          rcases hc with hc | hc
          · have c1 : ((b.toNat : Int) == 97) = true := by rw [hc]; rfl
            have c2 : ((b.toNat : Int) == 116) = false := by rw [hc]; rfl
            rcases take_tk (l := t) with ⟨h1, h2⟩ | ⟨n, r, h1, h2, h3⟩
            · have HSZ : Hid (size (d + 1) s.data.toList = 0) := by
                show _ = _
                rw [HH.out.all, size_cons, hbody]; unfold leaf; rw [if_pos hc, h1]; rfl
              have HTK := Lib.hid h2
              clear hbody hc h1 h2
              rw [HSZ.out]
              go_enter Try.func62, Try.ntmps62
              go_wp2_with (go_at_call 67; refine (many_any b _).mono ?_; rw [HM.out]; rintro e w' ⟨rfl, rfl⟩)
              refine (refTake_any _ _ hez).mono ?_
              rw [HH.out.rest, HTK.out]
              rintro e w1 ⟨⟨R, hR, rfl⟩, hbl⟩
              dsimp only at hR ⊢
              have HBL := Lib.hid hbl
              clear hR hbl
              go_wp2
              go_ret
              exact ⟨rfl, HBL.out⟩
            · have hr := (take_len h1).1
              have HSZ : Hid (size (d + 1) s.data.toList = 1 + (t.length - r.length)) := by
                show _ = _
                rw [HH.out.all, size_cons, hbody]; unfold leaf; rw [if_pos hc, h1]; rfl
              have HTK := Lib.hid h2
              clear hbody hc h1 h2 h3
              rw [HSZ.out]
              go_enter Try.func62, Try.ntmps62
              go_wp2_with (go_at_call 67; refine (many_any b _).mono ?_; rw [HM.out]; rintro e w' ⟨rfl, rfl⟩)
              refine (refTake_any _ _ hez).mono ?_
              rw [HH.out.rest, HTK.out]
              rintro e w1 ⟨⟨R, hR, rfl⟩, hbl⟩
              dsimp only at hR ⊢
              have HBL := Lib.hid hbl
              have hRz : R.size = r.length := by rw [Lib.size_eq, hR]
              have hRle : R.size ≤ s.size := by have := HH.out.len; omega
              have HRZ := Lib.hid hRz
              clear hR hbl hRz
              go_wp2
              go_ret
              exact ⟨ret_i64 (by have := HRZ.out; have := HH.out.len; omega), HBL.out⟩
          · have c1 : ((b.toNat : Int) == 97) = false := by rw [hc]; rfl
            have c2 : ((b.toNat : Int) == 116) = true := by rw [hc]; rfl
            obtain ⟨x, y, f, htk⟩ : ∃ x y f, tk t = (x, y, f) := ⟨_, _, _, rfl⟩
            have HTK := Lib.hid htk
            clear htk
            rcases text_cases t 4000 with h | h | ⟨q, r, h, hl, _⟩
            · have HSZ : Hid (size (d + 1) s.data.toList = 0) := by
                show _ = _
                rw [HH.out.all, size_cons, hbody]; unfold leaf; rw [if_neg (by rw [hc]; decide), h]; rfl
              have HTX := Lib.hid h
              clear hbody hc h
              rw [HSZ.out]
              go_enter Try.func62, Try.ntmps62
              go_wp2_with (go_at_call 67; refine (many_any b _).mono ?_; rw [HM.out]; rintro e w' ⟨rfl, rfl⟩)
              refine (refTake_any _ _ hez).mono ?_
              rw [HH.out.rest, HTK.out]
              rintro e w1 ⟨⟨R0, hR0, rfl⟩, hbl⟩
              dsimp only at hR0 ⊢
              have HBL := Lib.hid hbl
              clear hR0 hbl
              go_wp2_with fail
              refine (refText_any _ 4000 _ hez (by omega)).mono ?_
              rw [HH.out.rest, HTX.out]
              rintro e w2 ⟨⟨Q, R, hQ, hR, rfl⟩, hbl⟩
              dsimp only at hQ hR ⊢
              have HBL2 := Lib.hid (HBL.out.trans (hbl.mono HBL.out.size))
              clear hQ hR hbl
              go_wp2
              go_ret
              exact ⟨rfl, HBL2.out⟩
            · have HSZ : Hid (size (d + 1) s.data.toList = 0) := by
                show _ = _
                rw [HH.out.all, size_cons, hbody]; unfold leaf; rw [if_neg (by rw [hc]; decide), h]; rfl
              have HTX := Lib.hid h
              clear hbody hc h
              rw [HSZ.out]
              go_enter Try.func62, Try.ntmps62
              go_wp2_with (go_at_call 67; refine (many_any b _).mono ?_; rw [HM.out]; rintro e w' ⟨rfl, rfl⟩)
              refine (refTake_any _ _ hez).mono ?_
              rw [HH.out.rest, HTK.out]
              rintro e w1 ⟨⟨R0, hR0, rfl⟩, hbl⟩
              dsimp only at hR0 ⊢
              have HBL := Lib.hid hbl
              clear hR0 hbl
              go_wp2_with fail
              refine (refText_any _ 4000 _ hez (by omega)).mono ?_
              rw [HH.out.rest, HTX.out]
              rintro e w2 ⟨⟨Q, R, hQ, hR, rfl⟩, hbl⟩
              dsimp only at hQ hR ⊢
              have HBL2 := Lib.hid (HBL.out.trans (hbl.mono HBL.out.size))
              clear hQ hR hbl
              go_wp2
              go_ret
              exact ⟨rfl, HBL2.out⟩
            · have hr := text_len h rfl
              have HSZ : Hid (size (d + 1) s.data.toList = 1 + (t.length - r.length)) := by
                show _ = _
                rw [HH.out.all, size_cons, hbody]; unfold leaf; rw [if_neg (by rw [hc]; decide), h]; rfl
              have HTX := Lib.hid h
              clear hbody hc h hl
              rw [HSZ.out]
              go_enter Try.func62, Try.ntmps62
              go_wp2_with (go_at_call 67; refine (many_any b _).mono ?_; rw [HM.out]; rintro e w' ⟨rfl, rfl⟩)
              refine (refTake_any _ _ hez).mono ?_
              rw [HH.out.rest, HTK.out]
              rintro e w1 ⟨⟨R0, hR0, rfl⟩, hbl⟩
              dsimp only at hR0 ⊢
              have HBL := Lib.hid hbl
              clear hR0 hbl
              go_wp2_with fail
              refine (refText_any _ 4000 _ hez (by omega)).mono ?_
              rw [HH.out.rest, HTX.out]
              rintro e w2 ⟨⟨Q, R, hQ, hR, rfl⟩, hbl⟩
              dsimp only at hQ hR ⊢
              have HBL2 := Lib.hid (HBL.out.trans (hbl.mono HBL.out.size))
              have hRz : R.size = r.length := by rw [Lib.size_eq, hR]
              have hRle : R.size ≤ s.size := by have := HH.out.len; omega
              have HRZ := Lib.hid hRz
              clear hQ hR hbl hRz
              go_wp2
              go_ret
              exact ⟨ret_i64 (by have := HRZ.out; have := HH.out.len; omega), HBL2.out⟩
        · exact size_rest d s w h0 b t m hd hs HH.out ha hm IH.out
end Go.Proofs.Ytahlilhdiklemaa.Term
