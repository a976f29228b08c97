/-
  CONTRACTS of the laws' own helpers joined, grown: right terms in which no atom of 5 or more stands. By an AI agent; no person has read it.
-/
import Derived.Test.YtcplagomhfdoaaaClo
import Derived.Test.YtcplagomhfdoaaaTReads
import Derived.Test.YtcplagomhfdoaaaTPick
namespace Go.Proofs.Ytcplagomhfdoaaa.Clo
open Go.RowKit Wire Term

/-- A right term in which no atom of 5 or more stands. -/
def Good (x : List UInt8) : Prop := right x = true ∧ ∀ n, 5 ≤ n → n < 18446744073709551616 → Clean (97 :: put n) x
theorem put_inj {n m : Nat} (hn : n < 18446744073709551616) (hm : m < 18446744073709551616) (h : put n = put m) : n = m := by
  have h1 := take_put hn []
  have h2 := take_put hm []
  rw [h, h2] at h1
  have := Option.some.inj h1
  injection this with h3 _
  exact h3.symm
theorem good_of {x : List UInt8} (h : right x = true) (h97 : x.headD 0 ≠ 97) (hp : ∀ p ∈ pts x, Good p) : Good x := by
  refine ⟨h, fun n h5 hn hs => ?_⟩
  rcases sub_cases hs with h1 | ⟨p, hpp, h1⟩
  · rw [← h1] at h97; exact h97 rfl
  · exact (hp p hpp).2 n h5 hn h1
theorem good_atom {v : Nat} (hv : v < 5) : Good (ofAtom v) := by
  have hr : right (ofAtom v) = true := ofAtom_right (by omega)
  refine ⟨hr, fun n h5 hn hs => ?_⟩
  rcases sub_cases hs with h1 | ⟨p, hpp, _⟩
  · have h2 : put n = put v := by injection h1
    have := put_inj hn (by omega) h2
    omega
  · rw [pts_zero hr (.inl rfl)] at hpp; cases hpp
theorem good_text {s : List UInt8} (h : right (116 :: s) = true) : Good (116 :: s) := good_of h (by simp) (fun p hp => by rw [pts_zero h (.inr rfl)] at hp; cases hp)
theorem pts_bi {k : UInt8} {a b : List UInt8} (hk : k = 112 ∨ k = 115 ∨ k = 98 ∨ k = 103) (h : right (k :: (a ++ b)) = true) (ha : right a = true) : pts (k :: (a ++ b)) = [a, b] := by
  obtain ⟨x, y, h1, h2, h3, h4, _⟩ := pts_two h hk
  obtain ⟨rfl, rfl⟩ := right_cut ha h3 h1
  exact h2
theorem one_made {k : UInt8} {a x : List UInt8} {f : Int} (h : one k a = (x, f)) (h0 : f = 0) : x = k :: a ∧ right (k :: a) = true ∧ right a = true := by
  unfold one at h
  split at h
  · rename_i ha
    rcases made_err h with ⟨_, h1, h2⟩ | ⟨h1, _⟩
    · exact ⟨h1, h2, ha⟩
    · omega
  · simp only [Prod.mk.injEq] at h; omega
theorem two_made {k : UInt8} {a b x : List UInt8} {f : Int} (h : two k a b = (x, f)) (h0 : f = 0) : x = k :: (a ++ b) ∧ right (k :: (a ++ b)) = true ∧ right a = true ∧ right b = true := by
  unfold two at h
  split at h
  · rename_i ha
    rcases made_err h with ⟨_, h1, h2⟩ | ⟨h1, _⟩
    · exact ⟨h1, h2, ha.1, ha.2⟩
    · omega
  · simp only [Prod.mk.injEq] at h; omega
theorem one_good {k : UInt8} {a x : List UInt8} {f : Int} (hk : k = 104 ∨ k = 117) (ha : Good a) (h : one k a = (x, f)) : f = 0 → Good x := fun h0 => by
  obtain ⟨rfl, h1, _⟩ := one_made h h0
  refine good_of h1 (by rcases hk with rfl | rfl <;> simp) fun p hp => ?_
  rw [(pts_one h1 hk).1] at hp
  rw [List.mem_singleton.1 hp]; exact ha
theorem bi_good {k : UInt8} {a b : List UInt8} (hk : k = 112 ∨ k = 115 ∨ k = 98 ∨ k = 103) (h : right (k :: (a ++ b)) = true) (ha : Good a) (hb : Good b) : Good (k :: (a ++ b)) := by
  refine good_of h (by rcases hk with rfl | rfl | rfl | rfl <;> simp) fun p hp => ?_
  rw [pts_bi hk h ha.1] at hp
  have : p = a ∨ p = b := by simpa using hp
  rcases this with rfl | rfl
  · exact ha
  · exact hb
theorem two_good {k : UInt8} {a b x : List UInt8} {f : Int} (hk : k = 112 ∨ k = 115 ∨ k = 98 ∨ k = 103) (ha : Good a) (hb : Good b) (h : two k a b = (x, f)) : f = 0 → Good x := fun h0 => by
  obtain ⟨rfl, h1, _⟩ := two_made h h0
  exact bi_good hk h1 ha hb
theorem one_empty {k : UInt8} {a x : List UInt8} {f : Int} (h : one k a = (x, f)) : f ≠ 0 → right x = false := fun h0 => by
  unfold one at h
  split at h
  · rcases made_err h with ⟨h1, _⟩ | ⟨_, h1, _⟩
    · exact absurd h1 h0
    · rw [h1]; rfl
  · simp only [Prod.mk.injEq] at h; rw [← h.1]; rfl
theorem box_good {y b x : List UInt8} {g f : Int} (hy : g = 0 → Good y) (hye : g ≠ 0 → right y = false) (hb : Good b) (h : box y b = (x, f)) : f = 0 → Good x := fun h0 => by
  unfold box at h
  split at h
  · rename_i hr
    by_cases hg : g = 0
    · exact two_good (by simp) (hy hg) hb h h0
    · have := hye hg
      rw [hr.1] at this; cases this
  · simp only [Prod.mk.injEq] at h; omega
def AGood (e : Ending) : Prop := ∃ T : ByteArray, Good T.data.toList ∧ e = .returned (.string T)
set_option maxHeartbeats 2000000 in
set_option maxRecDepth 1000000 in
theorem joinedG_any (c : Int) (a b : ByteArray) (w : World) (hc : -9223372036854775808 ≤ c ∧ c ≤ 9223372036854775807) (ha : Good a.data.toList) (hb : Good b.data.toList) :
    Calls Try.prog 32 #[.int .i64 c, .string a, .string b] w fun e w' => AGood e ∧ Below w.heap.size w w' := by
  have haz := (right_sz ha.1).2
  have hbz := (right_sz hb.1).2
  have HA := Lib.hid ha
  have HB := Lib.hid hb
  clear ha hb
  go_enter Try.func32, Try.ntmps32
  go_wp2_with fail
  refine (pick_any c 4 _ hc (by omega) (by omega)).mono ?_
  rintro e w' ⟨⟨m, hm, rfl⟩, rfl⟩
  dsimp only
  obtain rfl | rfl | rfl | rfl : m = 0 ∨ m = 1 ∨ m = 2 ∨ m = 3 := by omega
  · obtain ⟨x, f, hx⟩ : ∃ x f, two 112 a.data.toList b.data.toList = (x, f) := ⟨_, _, rfl⟩
    have HX := Lib.hid hx
    have HXR := Lib.hid (two_good (by simp) HA.out HB.out hx)
    clear hx
    go_wp2_with fail
    refine (ofPair_any a b _ (by omega) (by omega)).mono ?_
    rw [HX.out]
    rintro e w1 ⟨⟨T, hT, rfl⟩, hb1⟩
    dsimp only at hT ⊢
    have HB1 := Lib.hid hb1
    have HT := Lib.hid hT
    clear hT hb1
    by_cases hf : f = 0
    · subst hf
      go_wp2
      go_ret
      exact ⟨⟨T, by rw [HT.out]; exact HXR.out (by trivial), rfl⟩, HB1.out⟩
    · have hfb : (f != 0) = true := by simpa using hf
      clear hf
      go_wp2
      go_ret
      exact ⟨⟨a, HA.out, rfl⟩, HB1.out⟩
  · obtain ⟨x, f, hx⟩ : ∃ x f, two 115 a.data.toList b.data.toList = (x, f) := ⟨_, _, rfl⟩
    have HX := Lib.hid hx
    have HXR := Lib.hid (two_good (by simp) HA.out HB.out hx)
    clear hx
    go_wp2_with fail
    refine (seal_any a b _ (by omega) (by omega)).mono ?_
    rw [HX.out]
    rintro e w1 ⟨⟨T, hT, rfl⟩, hb1⟩
    dsimp only at hT ⊢
    have HB1 := Lib.hid hb1
    have HT := Lib.hid hT
    clear hT hb1
    by_cases hf : f = 0
    · subst hf
      go_wp2
      go_ret
      exact ⟨⟨T, by rw [HT.out]; exact HXR.out (by trivial), rfl⟩, HB1.out⟩
    · have hfb : (f != 0) = true := by simpa using hf
      clear hf
      go_wp2
      go_ret
      exact ⟨⟨a, HA.out, rfl⟩, HB1.out⟩
  · obtain ⟨y, g, hy⟩ : ∃ y g, one 117 a.data.toList = (y, g) := ⟨_, _, rfl⟩
    have HY := Lib.hid hy
    have hyz : y.length ≤ 4000 := by
      unfold one at hy
      split at hy
      · rcases made_err hy with ⟨_, rfl, h⟩ | ⟨_, rfl, _⟩
        · exact (right_len h).2
        · simp
      · simp only [Prod.mk.injEq] at hy
        rw [← hy.1]; simp
    have HYG := Lib.hid (one_good (.inr rfl) HA.out hy)
    have HYE := Lib.hid (one_empty hy)
    clear hy
    obtain ⟨x, f, hx⟩ : ∃ x f, box y b.data.toList = (x, f) := ⟨_, _, rfl⟩
    have HX := Lib.hid hx
    have HXR := Lib.hid (box_good HYG.out HYE.out HB.out hx)
    clear hx
    go_wp2_with fail
    refine (ofPublic_any a _ (by omega)).mono ?_
    rw [HY.out]
    rintro e w1 ⟨⟨U, hU, rfl⟩, hb1⟩
    dsimp only at hU ⊢
    have HB1 := Lib.hid hb1
    have hUz : U.size ≤ 4000 := by rw [Lib.size_eq, hU]; exact hyz
    have HU := Lib.hid hU
    clear hU hb1
    go_wp2_with fail
    refine (box_any U b _ (by omega) (by omega)).mono ?_
    rw [HU.out, HX.out]
    rintro e w2 ⟨⟨T, hT, rfl⟩, hb2⟩
    dsimp only at hT ⊢
    have HB2 := Lib.hid (HB1.out.trans (hb2.mono HB1.out.size))
    have HT := Lib.hid hT
    clear hT hb2
    by_cases hf : f = 0
    · subst hf
      go_wp2
      go_ret
      exact ⟨⟨T, by rw [HT.out]; exact HXR.out (by trivial), rfl⟩, HB2.out⟩
    · have hfb : (f != 0) = true := by simpa using hf
      clear hf
      go_wp2
      go_ret
      exact ⟨⟨a, HA.out, rfl⟩, HB2.out⟩
  · obtain ⟨x, f, hx⟩ : ∃ x f, two 103 a.data.toList b.data.toList = (x, f) := ⟨_, _, rfl⟩
    have HX := Lib.hid hx
    have HXR := Lib.hid (two_good (by simp) HA.out HB.out hx)
    clear hx
    go_wp2_with fail
    refine (sign_any a b _ (by omega) (by omega)).mono ?_
    rw [HX.out]
    rintro e w1 ⟨⟨T, hT, rfl⟩, hb1⟩
    dsimp only at hT ⊢
    have HB1 := Lib.hid hb1
    have HT := Lib.hid hT
    clear hT hb1
    by_cases hf : f = 0
    · subst hf
      go_wp2
      go_ret
      exact ⟨⟨T, by rw [HT.out]; exact HXR.out (by trivial), rfl⟩, HB1.out⟩
    · have hfb : (f != 0) = true := by simpa using hf
      clear hf
      go_wp2
      go_ret
      exact ⟨⟨a, HA.out, rfl⟩, HB1.out⟩
/-- The stack of good terms. -/
def GStack (w : World) (n : Nat) (v : Value) (wr : World) : Prop := ∃ ys : List ByteArray, ys.length = n ∧ wr.ownsRow w.heap.size 9 1 v n (sv ys) ∧ (∀ y ∈ ys, Good y.data.toList) ∧ Below w.heap.size w wr
theorem getD_good {ys : List ByteArray} {n j : Nat} (hy : ys.length = n) (hj : j < n) (h : ∀ y ∈ ys, Good y.data.toList) : Good (ys.getD j ByteArray.empty).data.toList :=
  h _ (getD_mem (by omega) rfl)

set_option maxHeartbeats 4000000 in
set_option maxRecDepth 1000000 in
theorem grownG_any (a : Option Addr) (cap : Nat) (zs : List Int) (w : World) (hr : IReads w a zs) :
    Calls Try.prog 13 #[.slice a zs.length cap] w fun e w' => AGood e ∧ Below w.heap.size w w' := by
  have HR := Lib.hid hr
  clear hr
  obtain ⟨i0, hi0, hz0, hz1, hz2⟩ := info_parts str_info
  go_enter Try.func13, Try.ntmps13
  go_wp2_with fail
  refine (ofAtom_any 0 _ (by decide)).mono ?_
  rintro e w1 ⟨⟨T, hT, rfl⟩, hb1⟩
  have HB1 := Lib.hid hb1
  have HTR : Hid (Good T.data.toList) := by show Good _; rw [hT]; exact good_atom (by decide)
  clear hT hb1
  go_wp2
  have hst : GStack w 1 (.slice (some ⟨w1.heap.size, 0, none⟩) 1 1) (w1.alloc (.cells #[.string T] 9)) :=
    ⟨[T], rfl, World.ownsRow_lit (e := 9) (size := 1) (base := w.heap.size) w1 #[.string T] 1 HB1.out.size (by decide) rfl, fun y hy => by rw [List.mem_singleton.1 hy]; exact HTR.out, HB1.out.alloc HB1.out.size _⟩
  have HST := Lib.hid hst
  clear hst
  go_loopw [3, 4] (fun v i wr => ∃ k n : Nat, k ≤ zs.length ∧ k ≤ 40 ∧ 1 ≤ n ∧ n ≤ k + 1 ∧ i = .int .i64 k ∧ Hid (GStack w n v wr)) (fun _ i _ => zs.length - (intOf i).toNat)
  case atStart => exact ⟨0, 1, Nat.zero_le _, Nat.zero_le _, Nat.le_refl _, Nat.le_refl _, rfl, HST⟩
  case round =>
    obtain ⟨k, n, hk, hk40, hn1, hn2, rfl, HS⟩ := hrel
    clear HST HTR HB1
    obtain ⟨ys, hyl, ho, hright, hbel⟩ := HS.out
    obtain ⟨g, c, rfl, _, hg⟩ := ho.form (by omega)
    have HO := Lib.hid ho
    have HYL := Lib.hid hyl
    have HRT := Lib.hid hright
    have HBL := Lib.hid hbel
    clear ho hyl hright hbel HS
    by_cases hlt : k < zs.length
    · by_cases h40 : (k : Int) < 40
      · obtain ⟨b, off, rfl, hblt, hcell, hzl, hzh⟩ := HR.out k hlt
        obtain ⟨z, hz⟩ : ∃ z, zs.getD k 0 = z := ⟨_, rfl⟩
        rw [hz] at hcell hzl hzh
        rw [← HBL.out.cell (p := ⟨b, off + k, none⟩) hblt] at hcell
        obtain ⟨hq1, hq2⟩ := tdiv_in hzl hzh
        clear hz
        have hcy := own_get HO.out HYL.out (j := n - 1) (by omega)
        obtain ⟨y, hy⟩ : ∃ y, ys.getD (n - 1) ByteArray.empty = y := ⟨_, rfl⟩
        have hyr := getD_good HYL.out (j := n - 1) (by omega) HRT.out
        rw [hy] at hcy hyr
        have hyz := (right_sz hyr.1).2
        have hfz := HO.out.frozenAt (n - 1)
        have HYR := Lib.hid hyr
        clear hy hyr
        go_wp2_with fail
        refine (pick_any z 10 _ ⟨hzl, hzh⟩ (by omega) (by omega)).mono ?_
        rintro e w' ⟨⟨m, hm, rfl⟩, rfl⟩
        dsimp only
        go_wp2_with fail
        refine (pick_any (z.tdiv 10) 5 _ ⟨hq1, hq2⟩ (by omega) (by omega)).mono ?_
        rintro e w' ⟨⟨v, hv, rfl⟩, rfl⟩
        dsimp only
        by_cases hm3 : (m : Int) < 3
        · have hwv : IntKind.u64.wrap (v : Int) = (v : Int) := by rw [IntKind.wrap_u64]; omega
          go_wp2_with fail
          refine (ofAtom_any v _ (by omega)).mono ?_
          rintro e w5 ⟨⟨T, hT, rfl⟩, hb5⟩
          have HTR : Hid (Good T.data.toList) := by show Good _; rw [hT]; exact good_atom (by omega)
          have HB5 := Lib.hid (HBL.out.trans (hb5.mono HBL.out.size))
          have HB5' := Lib.hid hb5
          clear hT hb5
          go_wp2_with (
            at_builtin
            refine wpList_append_own _ rfl _ _ _ rfl w.heap.size 9 i0 _ 1 16 Try.underlying22 hi0 hz0 hz1 hz2 rfl (by decide) _ n (sv ys) rfl ?c1 _ 1 1 [.string T] rfl rfl ?c2 ?c3 ?c4 ?c5 ?c6 ?_
            case c1 => exact (own_below HO.out HB5'.out (Nat.le_refl _)).alloc _
            case c2 => exact lit_cells _ _ _
            case c3 => exact sv_one [T]
            case c4 => simp only [maxLen]; omega
            case c5 => omega
            case c6 =>
              have h := HB5.out.size
              simp only [World.alloc, Array.size_push]
              exact Nat.le_succ_of_le h
            intro v6 w6 hown hgrow _
            have HO6 := Lib.hid hown
            have HG6 := Lib.hid hgrow
            clear hown hgrow)
          go_roundw
          case rel =>
            refine ⟨k + 1, n + 1, by omega, by omega, by omega, by omega, by go_num, ys ++ [T], by simp [HYL.out], by simpa [sv] using HO6.out, fun x hx => ?_, ?_⟩
            · rcases List.mem_append.1 hx with hx | hx
              · exact HRT.out x hx
              · rw [List.mem_singleton.1 hx]; exact HTR.out
            · refine (HB5.out.alloc HB5.out.size (.cells #[.string T] 9)).grown HG6.out (by
                have := HB5.out.size
                simp only [World.alloc, Array.size_push]
                omega) fun g' hg' => ?_
              exact (HO.out.lt g' hg').1
          case measure => simp [intOf]; omega
        · have hm3' : (3 : Int) ≤ (m : Int) := by omega
          clear hm3
          by_cases e3 : m = 3
          · have c3 : ((m : Int) == 3) = true := by rw [e3]; rfl
            have hX : ((ByteArray.mk #[97, 98, 99, 100, 101]).extract 0 v).data.toList.length ≤ 5 := by rw [extract_take, List.length_take]; omega
            have hXz : ((ByteArray.mk #[97, 98, 99, 100, 101]).extract 0 v).size ≤ 5 := by rw [Lib.size_eq]; exact hX
            have HOT := Lib.hid (ofText_small (Nat.le_trans hX (by decide)))
            have HOR := Lib.hid (good_text (ofText_small_right (Nat.le_trans hX (by decide))))
            have hv0 : (0 : Int) ≤ (v : Int) := by omega
            have hv5 : (v : Int) ≤ 5 := by omega
            clear hX e3
            go_wp2_with fail
            obtain ⟨X, hXX⟩ : ∃ X, (ByteArray.mk #[97, 98, 99, 100, 101]).extract 0 v = X := ⟨_, rfl⟩
            rw [hXX] at hXz HOT HOR ⊢
            clear hXX
            refine (ofText_any X _ (by omega)).mono ?_
            rw [HOT.out]
            rintro e w5 ⟨⟨T, hT, rfl⟩, hb5⟩
            dsimp only at hT ⊢
            have HTR : Hid (Good T.data.toList) := by show Good _; rw [hT]; exact HOR.out
            have HB5 := Lib.hid (HBL.out.trans (hb5.mono HBL.out.size))
            have HB5' := Lib.hid hb5
            clear hT hb5
            go_wp2_with (
              at_builtin
              refine wpList_append_own _ rfl _ _ _ rfl w.heap.size 9 i0 _ 1 16 Try.underlying22 hi0 hz0 hz1 hz2 rfl (by decide) _ n (sv ys) rfl ?c1 _ 1 1 [.string T] rfl rfl ?c2 ?c3 ?c4 ?c5 ?c6 ?_
              case c1 => exact (own_below HO.out HB5'.out (Nat.le_refl _)).alloc _
              case c2 => exact lit_cells _ _ _
              case c3 => exact sv_one [T]
              case c4 => simp only [maxLen]; omega
              case c5 => omega
              case c6 =>
                have h := HB5.out.size
                simp only [World.alloc, Array.size_push]
                exact Nat.le_succ_of_le h
              intro v6 w6 hown hgrow _
              have HO6 := Lib.hid hown
              have HG6 := Lib.hid hgrow
              clear hown hgrow)
            go_roundw
            case rel =>
              refine ⟨k + 1, n + 1, by omega, by omega, by omega, by omega, by go_num, ys ++ [T], by simp [HYL.out], by simpa [sv] using HO6.out, fun x hx => ?_, ?_⟩
              · rcases List.mem_append.1 hx with hx | hx
                · exact HRT.out x hx
                · rw [List.mem_singleton.1 hx]; exact HTR.out
              · refine (HB5.out.alloc HB5.out.size (.cells #[.string T] 9)).grown HG6.out (by
                  have := HB5.out.size
                  simp only [World.alloc, Array.size_push]
                  omega) fun g' hg' => ?_
                exact (HO.out.lt g' hg').1
            case measure => simp [intOf]; omega
          · have c3 : ((m : Int) == 3) = false := by rw [beq_eq_false_iff_ne]; omega
            by_cases e4 : m = 4
            · have c4 : ((m : Int) == 4) = true := by rw [e4]; rfl
              clear e3 e4
              obtain ⟨x, f, hx⟩ : ∃ x f, one 104 y.data.toList = (x, f) := ⟨_, _, rfl⟩
              have HX := Lib.hid hx
              have HXR := Lib.hid (one_good (.inl rfl) HYR.out hx)
              clear hx
              go_wp2_with fail
              refine (ofHash_any y _ (by omega)).mono ?_
              rw [HX.out]
              rintro e w5 ⟨⟨T, hT, rfl⟩, hb5⟩
              dsimp only at hT ⊢
              have HB5 := Lib.hid (HBL.out.trans (hb5.mono HBL.out.size))
              have HO5 := Lib.hid (own_below HO.out hb5 (Nat.le_refl _))
              have hc5 := own_get HO5.out HYL.out (j := n - 1) (by omega)
              have hf5 := HO5.out.frozenAt (n - 1)
              have HT := Lib.hid hT
              clear hT hb5
              by_cases hf : f = 0
              · subst hf
                have HTR : Hid (Good T.data.toList) := by show Good _; rw [HT.out]; exact HXR.out rfl
                go_wp2
                go_roundw
                case rel =>
                  have h6 := HO5.out.stored (n - 1) (.string T)
                  refine ⟨k + 1, n, by omega, by omega, hn1, by omega, by go_num, ys.set (n - 1) T, by rw [List.length_set]; exact HYL.out, ?_, fun x hx => ?_, ?_⟩
                  · have h7 := h6.1
                    have e : (sv ys).set (n - 1) (.string T) = sv (ys.set (n - 1) T) := by simp only [sv, List.map_set]
                    rw [e] at h7
                    exact h7
                  · rcases List.mem_or_eq_of_mem_set hx with hx | hx
                    · exact HRT.out x hx
                    · rw [hx]; exact HTR.out
                  · exact HB5.out.grown h6.2 HB5.out.size fun g' hg' => by
                      injection hg' with hg'
                      subst hg'
                      exact (HO.out.lt g rfl).1
                case measure => simp [intOf]; omega
              · have hfb : (f == 0) = false := by simpa using hf
                clear hf
                go_wp2
                go_roundw
                case rel => exact ⟨k + 1, n, by omega, by omega, hn1, by omega, by go_num, ys, HYL.out, HO5.out, HRT.out, HB5.out⟩
                case measure => simp [intOf]; omega
            · have c4 : ((m : Int) == 4) = false := by rw [beq_eq_false_iff_ne]; omega
              by_cases e5 : m = 5
              · have c5 : ((m : Int) == 5) = true := by rw [e5]; rfl
                clear e3 e4 e5
                obtain ⟨x, f, hx⟩ : ∃ x f, one 117 y.data.toList = (x, f) := ⟨_, _, rfl⟩
                have HX := Lib.hid hx
                have HXR := Lib.hid (one_good (.inr rfl) HYR.out hx)
                clear hx
                go_wp2_with fail
                refine (ofPublic_any y _ (by omega)).mono ?_
                rw [HX.out]
                rintro e w5 ⟨⟨T, hT, rfl⟩, hb5⟩
                dsimp only at hT ⊢
                have HB5 := Lib.hid (HBL.out.trans (hb5.mono HBL.out.size))
                have HO5 := Lib.hid (own_below HO.out hb5 (Nat.le_refl _))
                have hc5 := own_get HO5.out HYL.out (j := n - 1) (by omega)
                have hf5 := HO5.out.frozenAt (n - 1)
                have HT := Lib.hid hT
                clear hT hb5
                by_cases hf : f = 0
                · subst hf
                  have HTR : Hid (Good T.data.toList) := by show Good _; rw [HT.out]; exact HXR.out rfl
                  go_wp2
                  go_roundw
                  case rel =>
                    have h6 := HO5.out.stored (n - 1) (.string T)
                    refine ⟨k + 1, n, by omega, by omega, hn1, by omega, by go_num, ys.set (n - 1) T, by rw [List.length_set]; exact HYL.out, ?_, fun x hx => ?_, ?_⟩
                    · have h7 := h6.1
                      have e : (sv ys).set (n - 1) (.string T) = sv (ys.set (n - 1) T) := by simp only [sv, List.map_set]
                      rw [e] at h7
                      exact h7
                    · rcases List.mem_or_eq_of_mem_set hx with hx | hx
                      · exact HRT.out x hx
                      · rw [hx]; exact HTR.out
                    · exact HB5.out.grown h6.2 HB5.out.size fun g' hg' => by
                        injection hg' with hg'
                        subst hg'
                        exact (HO.out.lt g rfl).1
                  case measure => simp [intOf]; omega
                · have hfb : (f == 0) = false := by simpa using hf
                  clear hf
                  go_wp2
                  go_roundw
                  case rel => exact ⟨k + 1, n, by omega, by omega, hn1, by omega, by go_num, ys, HYL.out, HO5.out, HRT.out, HB5.out⟩
                  case measure => simp [intOf]; omega
              · have c5 : ((m : Int) == 5) = false := by rw [beq_eq_false_iff_ne]; omega
                clear e3 e4 e5
                by_cases hn2' : (1 : Int) < (n : Int)
                · have hcy2 := own_get HO.out HYL.out (j := n - 2) (by omega)
                  obtain ⟨y2, hy2⟩ : ∃ y2, ys.getD (n - 2) ByteArray.empty = y2 := ⟨_, rfl⟩
                  have hyr2 := getD_good HYL.out (j := n - 2) (by omega) HRT.out
                  rw [hy2] at hcy2 hyr2
                  have HYR2 := Lib.hid hyr2
                  have hyz2 := (right_sz hyr2.1).2
                  obtain ⟨_, _, hnc⟩ := sreads_own HO.out
                  have hi1 : (0 : Int) ≤ (n : Int) - 1 := by omega
                  have hi2 : (n : Int) - 1 < (n : Int) := by omega
                  have hi3 : (0 : Int) ≤ (n : Int) - 2 := by omega
                  have hi4 : (n : Int) - 2 < (n : Int) := by omega
                  have hi5 : IntKind.i64.wrap ((n : Int) - 1) = (n : Int) - 1 := by rw [IntKind.wrap_i64]; omega
                  have hi6 : IntKind.i64.wrap ((n : Int) - 2) = (n : Int) - 2 := by rw [IntKind.wrap_i64]; omega
                  have hi7 : (n : Int) - 2 ≤ (c : Int) := by omega
                  have hi8 : (1 : Int) ≤ (n : Int) := by omega
                  have hi9 : (2 : Int) ≤ (n : Int) := by omega
                  have hia : ((n : Int) - 1).toNat = n - 1 := by omega
                  have hib : ((n : Int) - 2).toNat = n - 2 := by omega
                  clear hy2 hyr2
                  go_wp2
                  go_region_held3 (fun w' => w'.cell? ⟨g, n - 2, none⟩ = some (.string y2) ∧ w'.cell? ⟨g, n - 1, none⟩ = some (.string y))
                    (first | go_keep | exact ⟨hcA, hcB⟩)
                    (first
                      | (go_simp
                         go_at_call 32
                         refine (joinedG_any m y2 y _ (by omega) HYR2.out HYR.out).mono ?_
                         rintro e w5 ⟨⟨T, hT, rfl⟩, hb5⟩
                         have HTR := Lib.hid hT
                         have HB5 := Lib.hid (HBL.out.drew.trans (hb5.mono HBL.out.size))
                         have hcA : w5.cell? ⟨g, n - 2, none⟩ = some (.string y2) := (hb5.cell (p := ⟨g, n - 2, none⟩) hg).trans hcy2
                         have hcB : w5.cell? ⟨g, n - 1, none⟩ = some (.string y) := (hb5.cell (p := ⟨g, n - 1, none⟩) hg).trans hcy
                         have HO5 := Lib.hid (own_below (own_below HO.out ((Below.refl wr.heap.size wr).drew) (Nat.le_refl _)) hb5 (Nat.le_refl _))
                         clear hT hb5
                         dsimp only))
                  have HL0 := Lib.hid (World.ownsRow_lit (e := 9) (size := 1) (base := w.heap.size) w5 #[] 0 HB5.out.size (by decide) rfl)
                  go_wp2_with (first
                    | (at_builtin
                       refine wpList_append_own _ rfl _ _ _ rfl w.heap.size 9 i0 _ 1 16 Try.underlying22 hi0 hz0 hz1 hz2 rfl (by decide) v6 (0 + (n - 2)) ([] ++ sv (ys.take (n - 2))) rfl ?d1 _ 1 1 [.string T] rfl rfl ?d2 ?d3 ?d4 ?d5 ?d6 ?_
                       case d1 => exact HO6.out.alloc _
                       case d2 => exact lit_cells _ _ _
                       case d3 => exact sv_one [T]
                       case d4 => simp only [maxLen]; omega
                       case d5 => omega
                       case d6 =>
                         have h := HB6.out.size
                         simp only [World.alloc, Array.size_push]
                         exact Nat.le_succ_of_le h
                       intro v7 w7 hown hgrow _
                       have HO7 := Lib.hid hown
                       have HG7 := Lib.hid hgrow
                       clear hown hgrow)
                    | (at_builtin
                       refine wpList_append_own _ rfl _ _ _ rfl w.heap.size 9 i0 _ 1 16 Try.underlying22 hi0 hz0 hz1 hz2 rfl (by decide) _ 0 [] rfl ?c1 ⟨g, 0, none⟩ (n - 2) c (sv (ys.take (n - 2))) rfl ?c0 ?c2 ?c3 ?c4 ?c5 ?c6 ?_
                       case c0 => simp only [sv, List.length_map, List.length_take]; have := HYL.out; omega
                       case c1 => exact HL0.out
                       case c2 =>
                         intro j u hu
                         have hj : j < n - 2 := by
                           have := (List.getElem?_eq_some_iff.1 hu).1
                           simp only [sv, List.length_map, List.length_take] at this
                           omega
                         have h9 := own_get (HO5.out.alloc (.cells #[] 9)) HYL.out (j := j) (by omega)
                         rw [add_none, Nat.zero_add, h9]
                         simp only [sv, List.getElem?_map, List.getElem?_take_of_lt hj] at hu
                         rw [List.getElem?_eq_getElem (by have := HYL.out; omega)] at hu
                         rw [← hu]
                         simp [List.getD, List.getElem?_eq_getElem (show j < ys.length by have := HYL.out; omega)]
                       case c3 => exact sv_one _
                       case c4 => simp only [maxLen]; omega
                       case c5 => omega
                       case c6 =>
                         have h := HB5.out.size
                         simp only [World.alloc, Array.size_push]
                         exact Nat.le_succ_of_le h
                       intro v6 w6 hown hgrow _
                       have HO6 := Lib.hid hown
                       have HB6 := Lib.hid ((HB5.out.alloc HB5.out.size (.cells #[] 9)).grown hgrow (by
                         have := HB5.out.size
                         simp only [World.alloc, Array.size_push]
                         omega) fun g' hg' => (HL0.out.lt g' hg').1)
                       clear hown hgrow))
                  go_roundw
                  case rel =>
                    refine ⟨k + 1, 0 + (n - 2) + 1, by omega, by omega, by omega, by omega, by go_num, ys.take (n - 2) ++ [T], ?_, ?_, fun x hx => ?_, ?_⟩
                    · have := HYL.out
                      rw [List.length_append, List.length_take, List.length_singleton]; omega
                    · have h := HO7.out
                      simpa [sv] using h
                    · rcases List.mem_append.1 hx with hx | hx
                      · exact HRT.out x (List.mem_of_mem_take hx)
                      · rw [List.mem_singleton.1 hx]; exact HTR.out
                    · refine (HB6.out.alloc HB6.out.size (.cells #[.string T] 9)).grown HG7.out (by
                        have := HB6.out.size
                        simp only [World.alloc, Array.size_push]
                        omega) fun g' hg' => ?_
                      exact (HO6.out.lt g' hg').1
                  case measure => simp [intOf]; omega
                · go_wp2
                  go_roundw
                  case rel => exact ⟨k + 1, n, by omega, by omega, hn1, by omega, by go_num, ys, HYL.out, HO.out, HRT.out, HBL.out⟩
                  case measure => simp [intOf]; omega
      · have hcy := own_get HO.out HYL.out (j := n - 1) (by omega)
        obtain ⟨y, hy⟩ : ∃ y, ys.getD (n - 1) ByteArray.empty = y := ⟨_, rfl⟩
        have hyr := getD_good HYL.out (j := n - 1) (by omega) HRT.out
        rw [hy] at hcy hyr
        have HYR := Lib.hid hyr
        clear hy hyr
        go_wp2
        go_ret
        exact ⟨⟨_, HYR.out, rfl⟩, HBL.out⟩
    · have hcy := own_get HO.out HYL.out (j := n - 1) (by omega)
      obtain ⟨y, hy⟩ : ∃ y, ys.getD (n - 1) ByteArray.empty = y := ⟨_, rfl⟩
      have hyr := getD_good HYL.out (j := n - 1) (by omega) HRT.out
      rw [hy] at hcy hyr
      have HYR := Lib.hid hyr
      clear hy hyr
      go_wp2
      go_ret
      exact ⟨⟨_, HYR.out, rfl⟩, HBL.out⟩
end Go.Proofs.Ytcplagomhfdoaaa.Clo
