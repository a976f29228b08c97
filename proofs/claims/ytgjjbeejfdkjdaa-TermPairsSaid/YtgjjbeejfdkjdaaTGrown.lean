/-
  CONTRACT of the laws' own helper grown (letterlocklaw3) at this program. By an AI agent; no person has read it.
-/
import Derived.Test.YtgjjbeejfdkjdaaTPick
import Derived.Deep.RegionHeld3
import Derived.IntWalk
namespace Go.Proofs.Ytgjjbeejfdkjdaa.Term
open Go.RowKit Wire

/-- A slice of ints that can be read. -/
def IReads (w : World) (a : Option Addr) (zs : List Int) : Prop :=
  ∀ j, j < zs.length → ∃ b off, a = some ⟨b, off, none⟩ ∧ b < w.heap.size ∧ w.cell? ⟨b, off + j, none⟩ = some (.int .i64 (zs.getD j 0)) ∧ -9223372036854775808 ≤ zs.getD j 0 ∧ zs.getD j 0 ≤ 9223372036854775807
theorem IReads.below {w w' : World} {B : Nat} {a : Option Addr} {zs : List Int} (h : IReads w a zs) (hb : Below B w w') (hB : w.heap.size ≤ B) : IReads w' a zs := fun j hj => by
  obtain ⟨b, off, e, hlt, hc, hz⟩ := h j hj
  exact ⟨b, off, e, Nat.lt_of_lt_of_le hlt hb.size, by rw [hb.cell (p := ⟨b, off + j, none⟩) (Nat.lt_of_lt_of_le hlt hB)]; exact hc, hz⟩
theorem ireads_of {w : World} {a : Option Addr} {len cap : Nat} {zs : List Int}
    (h : (a = none ∧ len = 0 ∧ cap = 0 ∧ zs = []) ∨ ∃ x, a = some x ∧ len ≤ cap ∧ cap ≤ maxLen ∧ zs.length = cap ∧ (∀ i, i < zs.length → w.cell? (x.add i) = some (.int .i64 (zs.getD i 0))) ∧ ∀ n ∈ zs, (Lit.int .i64 n).wf = true) :
    ∃ ys : List Int, ys.length = len ∧ len ≤ cap ∧ cap ≤ maxLen ∧ IReads w a ys := by
  rcases h with ⟨rfl, rfl, rfl, rfl⟩ | ⟨x, rfl, h1, h2, h3, h4, h5⟩
  · exact ⟨[], rfl, Nat.le_refl _, Nat.zero_le _, fun j hj => by simp at hj⟩
  · refine ⟨zs.take len, by rw [List.length_take]; omega, h1, h2, fun j hj => ?_⟩
    rw [List.length_take] at hj
    have c0 := h4 0 (by omega)
    have cj := h4 j (by omega)
    obtain ⟨b, off, sp⟩ := x
    have hb : sp = none ∧ b < w.heap.size := by
      have e0 : (⟨b, off, sp⟩ : Addr).add 0 = ⟨b, off, sp⟩ := by simp [Addr.add]
      rw [e0] at c0
      unfold World.cell? at c0
      simp only at c0
      split at c0
      · rename_i h0
        refine ⟨?_, (Array.getElem?_eq_some_iff.1 h0).1⟩
        cases sp with
        | none => rfl
        | some q => simp at c0
      · cases c0
    obtain ⟨rfl, hlt⟩ := hb
    rw [add_none] at cj
    have e : (zs.take len).getD j 0 = zs.getD j 0 := by simp only [List.getD, List.getElem?_take_of_lt (show j < len by omega)]
    rw [e]
    have hw := int_i64 (h5 (zs.getD j 0) (by simp only [List.getD, List.getElem?_eq_getElem (show j < zs.length by omega), Option.getD_some]; exact List.getElem_mem _))
    exact ⟨b, off, rfl, hlt, cj, hw⟩
theorem tdiv_in {z : Int} (h1 : -9223372036854775808 ≤ z) (h2 : z ≤ 9223372036854775807) : -9223372036854775808 ≤ z.tdiv 10 ∧ z.tdiv 10 ≤ 9223372036854775807 := by
  by_cases h : 0 ≤ z
  · rw [Int.tdiv_eq_ediv_of_nonneg h]; omega
  · obtain ⟨q, rfl⟩ : ∃ q : Int, z = -q := ⟨-z, by omega⟩
    rw [Int.neg_tdiv, Int.tdiv_eq_ediv_of_nonneg (by omega)]; omega
theorem ofText_small {s : List UInt8} (h : s.length ≤ 3000) : ofText s = (116 :: putText s, 0) := by
  have h1 := (put_le (n := s.length) (by omega))
  have hr : right (116 :: putText s) = true := by
    refine right_iff.2 ⟨by simp, by simp only [List.length_cons, putText_len]; omega, ?_⟩
    show up (body (size 39) 116 (putText s)) = _
    have h2 : body (size 39) 116 (putText s) = some (putText s).length := by
      have h3 := text_put (t := s) (by omega) [] 4000 (by omega)
      rw [List.append_nil] at h3
      show leaf 116 (putText s) = _
      unfold leaf
      rw [if_neg (by decide), h3]
      simp
    rw [h2]
    simp only [up, List.length_cons]; omega
  unfold ofText made
  rw [if_pos hr]
theorem ofText_small_right {s : List UInt8} (h : s.length ≤ 3000) : right (116 :: putText s) = true := by
  have h1 := ofText_small h
  exact ofText_right h1 rfl

/-- The stack of right terms. -/
def Stack (w : World) (n : Nat) (v : Value) (wr : World) : Prop := ∃ ys : List ByteArray, ys.length = n ∧ wr.ownsRow w.heap.size 9 1 v n (sv ys) ∧ (∀ y ∈ ys, right y.data.toList = true) ∧ Below w.heap.size w wr
theorem own_get {w : World} {base : Nat} {e : TypeId} {g n c : Nat} {ys : List ByteArray} (h : w.ownsRow base e 1 (.slice (some ⟨g, 0, none⟩) n c) n (sv ys)) (hy : ys.length = n) {j : Nat} (hj : j < n) : w.cell? ⟨g, j, none⟩ = some (.string (ys.getD j ByteArray.empty)) := by
  rw [h.cellAt j (by omega)]
  simp [sv, List.getD, List.getElem?_eq_getElem (show j < ys.length by omega)]
theorem getD_right {ys : List ByteArray} {n j : Nat} (hy : ys.length = n) (hj : j < n) (h : ∀ y ∈ ys, right y.data.toList = true) : right (ys.getD j ByteArray.empty).data.toList = true :=
  h _ (getD_mem (by omega) rfl)

set_option maxHeartbeats 4000000 in
set_option maxRecDepth 1000000 in
theorem grown_any (a : Option Addr) (cap : Nat) (zs : List Int) (w : World) (hr : IReads w a zs) :
    Calls Try.prog 11 #[.slice a zs.length cap] w fun e w' => AText e ∧ Below w.heap.size w w' := by
  have HR := Lib.hid hr
  clear hr
  obtain ⟨i0, hi0, hz0, hz1, hz2⟩ := info_parts str_info
  go_enter Try.func11, Try.ntmps11
  go_wp2_with fail
  refine (ofAtom_any 0 _ (by decide)).mono ?_
  rintro e w1 ⟨⟨T, hT, rfl⟩, hb1⟩
  have HB1 := Lib.hid hb1
  have HTR : Hid (right T.data.toList = true) := by show _ = _; rw [hT]; exact ofAtom_right (by decide)
  clear hT hb1
  go_wp2
  have hst : Stack w 1 (.slice (some ⟨w1.heap.size, 0, none⟩) 1 1) (w1.alloc (.cells #[.string T] 9)) :=
    ⟨[T], rfl, World.ownsRow_lit (e := 9) (size := 1) (base := w.heap.size) w1 #[.string T] 1 HB1.out.size (by decide) rfl, fun y hy => by rw [List.mem_singleton.1 hy]; exact HTR.out, HB1.out.alloc HB1.out.size _⟩
  have HST := Lib.hid hst
  clear hst
  go_loopw [3, 4] (fun v i wr => ∃ k n : Nat, k ≤ zs.length ∧ k ≤ 40 ∧ 1 ≤ n ∧ n ≤ k + 1 ∧ i = .int .i64 k ∧ Hid (Stack w n v wr)) (fun _ i _ => zs.length - (intOf i).toNat)
  case atStart => exact ⟨0, 1, Nat.zero_le _, Nat.zero_le _, Nat.le_refl _, Nat.le_refl _, rfl, HST⟩
  case round =>
    obtain ⟨k, n, hk, hk40, hn1, hn2, rfl, HS⟩ := hrel
    clear HST HTR HB1
    obtain ⟨ys, hyl, ho, hright, hbel⟩ := HS.out
    obtain ⟨g, c, rfl, _, hg⟩ := ho.form (by omega)
    have HO := Lib.hid ho
    have HYL := Lib.hid hyl
    have HRT := Lib.hid hright
    have HBL := Lib.hid hbel
    clear ho hyl hright hbel HS
    by_cases hlt : k < zs.length
    · by_cases h40 : (k : Int) < 40
      · obtain ⟨b, off, rfl, hblt, hcell, hzl, hzh⟩ := HR.out k hlt
        obtain ⟨z, hz⟩ : ∃ z, zs.getD k 0 = z := ⟨_, rfl⟩
        rw [hz] at hcell hzl hzh
        rw [← HBL.out.cell (p := ⟨b, off + k, none⟩) hblt] at hcell
        obtain ⟨hq1, hq2⟩ := tdiv_in hzl hzh
        clear hz
        have hcy := own_get HO.out HYL.out (j := n - 1) (by omega)
        obtain ⟨y, hy⟩ : ∃ y, ys.getD (n - 1) ByteArray.empty = y := ⟨_, rfl⟩
        have hyr := getD_right HYL.out (j := n - 1) (by omega) HRT.out
        rw [hy] at hcy hyr
        have hyz := (right_sz hyr).2
        have hfz := HO.out.frozenAt (n - 1)
        have HYR := Lib.hid hyr
        clear hy hyr
        go_wp2_with fail
        refine (pick_any z 10 _ ⟨hzl, hzh⟩ (by omega) (by omega)).mono ?_
        rintro e w' ⟨⟨m, hm, rfl⟩, rfl⟩
        dsimp only
        go_wp2_with fail
        refine (pick_any (z.tdiv 10) 5 _ ⟨hq1, hq2⟩ (by omega) (by omega)).mono ?_
        rintro e w' ⟨⟨v, hv, rfl⟩, rfl⟩
        dsimp only
        by_cases hm3 : (m : Int) < 3
        · have hwv : IntKind.u64.wrap (v : Int) = (v : Int) := by rw [IntKind.wrap_u64]; omega
          go_wp2_with fail
          refine (ofAtom_any v _ (by omega)).mono ?_
          rintro e w5 ⟨⟨T, hT, rfl⟩, hb5⟩
          have HTR : Hid (right T.data.toList = true) := by show _ = _; rw [hT]; exact ofAtom_right (by omega)
          have HB5 := Lib.hid (HBL.out.trans (hb5.mono HBL.out.size))
          have HB5' := Lib.hid hb5
          clear hT hb5
          go_wp2_with (
            at_builtin
            refine wpList_append_own _ rfl _ _ _ rfl w.heap.size 9 i0 _ 1 16 Try.underlying39 hi0 hz0 hz1 hz2 rfl (by decide) _ n (sv ys) rfl ?c1 _ 1 1 [.string T] rfl rfl ?c2 ?c3 ?c4 ?c5 ?c6 ?_
            case c1 => exact (own_below HO.out HB5'.out (Nat.le_refl _)).alloc _
            case c2 => exact lit_cells _ _ _
            case c3 => exact sv_one [T]
            case c4 => simp only [maxLen]; omega
            case c5 => omega
            case c6 =>
              have h := HB5.out.size
              simp only [World.alloc, Array.size_push]
              exact Nat.le_succ_of_le h
            intro v6 w6 hown hgrow _
            have HO6 := Lib.hid hown
            have HG6 := Lib.hid hgrow
            clear hown hgrow)
          go_roundw
          case rel =>
            refine ⟨k + 1, n + 1, by omega, by omega, by omega, by omega, by go_num, ys ++ [T], by simp [HYL.out], by simpa [sv] using HO6.out, fun x hx => ?_, ?_⟩
            · rcases List.mem_append.1 hx with hx | hx
              · exact HRT.out x hx
              · rw [List.mem_singleton.1 hx]; exact HTR.out
            · refine (HB5.out.alloc HB5.out.size (.cells #[.string T] 9)).grown HG6.out (by
                have := HB5.out.size
                simp only [World.alloc, Array.size_push]
                omega) fun g' hg' => ?_
              exact (HO.out.lt g' hg').1
          case measure => simp [intOf]; omega
        · have hm3' : (3 : Int) ≤ (m : Int) := by omega
          clear hm3
          by_cases e3 : m = 3
          · have c3 : ((m : Int) == 3) = true := by rw [e3]; rfl
            have hX : ((ByteArray.mk #[97, 98, 99, 100, 101]).extract 0 v).data.toList.length ≤ 5 := by rw [extract_take, List.length_take]; omega
            have hXz : ((ByteArray.mk #[97, 98, 99, 100, 101]).extract 0 v).size ≤ 5 := by rw [Lib.size_eq]; exact hX
            have HOT := Lib.hid (ofText_small (Nat.le_trans hX (by decide)))
            have HOR := Lib.hid (ofText_small_right (Nat.le_trans hX (by decide)))
            have hv0 : (0 : Int) ≤ (v : Int) := by omega
            have hv5 : (v : Int) ≤ 5 := by omega
            clear hX e3
            go_wp2_with fail
            obtain ⟨X, hXX⟩ : ∃ X, (ByteArray.mk #[97, 98, 99, 100, 101]).extract 0 v = X := ⟨_, rfl⟩
            rw [hXX] at hXz HOT HOR ⊢
            clear hXX
            refine (ofText_any X _ (by omega)).mono ?_
            rw [HOT.out]
            rintro e w5 ⟨⟨T, hT, rfl⟩, hb5⟩
            dsimp only at hT ⊢
            have HTR : Hid (right T.data.toList = true) := by show _ = _; rw [hT]; exact HOR.out
            have HB5 := Lib.hid (HBL.out.trans (hb5.mono HBL.out.size))
            have HB5' := Lib.hid hb5
            clear hT hb5
            go_wp2_with (
              at_builtin
              refine wpList_append_own _ rfl _ _ _ rfl w.heap.size 9 i0 _ 1 16 Try.underlying39 hi0 hz0 hz1 hz2 rfl (by decide) _ n (sv ys) rfl ?c1 _ 1 1 [.string T] rfl rfl ?c2 ?c3 ?c4 ?c5 ?c6 ?_
              case c1 => exact (own_below HO.out HB5'.out (Nat.le_refl _)).alloc _
              case c2 => exact lit_cells _ _ _
              case c3 => exact sv_one [T]
              case c4 => simp only [maxLen]; omega
              case c5 => omega
              case c6 =>
                have h := HB5.out.size
                simp only [World.alloc, Array.size_push]
                exact Nat.le_succ_of_le h
              intro v6 w6 hown hgrow _
              have HO6 := Lib.hid hown
              have HG6 := Lib.hid hgrow
              clear hown hgrow)
            go_roundw
            case rel =>
              refine ⟨k + 1, n + 1, by omega, by omega, by omega, by omega, by go_num, ys ++ [T], by simp [HYL.out], by simpa [sv] using HO6.out, fun x hx => ?_, ?_⟩
              · rcases List.mem_append.1 hx with hx | hx
                · exact HRT.out x hx
                · rw [List.mem_singleton.1 hx]; exact HTR.out
              · refine (HB5.out.alloc HB5.out.size (.cells #[.string T] 9)).grown HG6.out (by
                  have := HB5.out.size
                  simp only [World.alloc, Array.size_push]
                  omega) fun g' hg' => ?_
                exact (HO.out.lt g' hg').1
            case measure => simp [intOf]; omega
          · have c3 : ((m : Int) == 3) = false := by rw [beq_eq_false_iff_ne]; omega
            by_cases e4 : m = 4
            · have c4 : ((m : Int) == 4) = true := by rw [e4]; rfl
              clear e3 e4
              obtain ⟨x, f, hx⟩ : ∃ x f, one 104 y.data.toList = (x, f) := ⟨_, _, rfl⟩
              have HX := Lib.hid hx
              have HXR := Lib.hid (one_right hx)
              clear hx
              go_wp2_with fail
              refine (ofHash_any y _ (by omega)).mono ?_
              rw [HX.out]
              rintro e w5 ⟨⟨T, hT, rfl⟩, hb5⟩
              dsimp only at hT ⊢
              have HB5 := Lib.hid (HBL.out.trans (hb5.mono HBL.out.size))
              have HO5 := Lib.hid (own_below HO.out hb5 (Nat.le_refl _))
              have hc5 := own_get HO5.out HYL.out (j := n - 1) (by omega)
              have hf5 := HO5.out.frozenAt (n - 1)
              have HT := Lib.hid hT
              clear hT hb5
              by_cases hf : f = 0
              · subst hf
                have HTR : Hid (right T.data.toList = true) := by show _ = _; rw [HT.out]; exact HXR.out rfl
                go_wp2
                go_roundw
                case rel =>
                  have h6 := HO5.out.stored (n - 1) (.string T)
                  refine ⟨k + 1, n, by omega, by omega, hn1, by omega, by go_num, ys.set (n - 1) T, by rw [List.length_set]; exact HYL.out, ?_, fun x hx => ?_, ?_⟩
                  · have h7 := h6.1
                    have e : (sv ys).set (n - 1) (.string T) = sv (ys.set (n - 1) T) := by simp only [sv, List.map_set]
                    rw [e] at h7
                    exact h7
                  · rcases List.mem_or_eq_of_mem_set hx with hx | hx
                    · exact HRT.out x hx
                    · rw [hx]; exact HTR.out
                  · exact HB5.out.grown h6.2 HB5.out.size fun g' hg' => by
                      injection hg' with hg'
                      subst hg'
                      exact (HO.out.lt g rfl).1
                case measure => simp [intOf]; omega
              · have hfb : (f == 0) = false := by simpa using hf
                clear hf
                go_wp2
                go_roundw
                case rel => exact ⟨k + 1, n, by omega, by omega, hn1, by omega, by go_num, ys, HYL.out, HO5.out, HRT.out, HB5.out⟩
                case measure => simp [intOf]; omega
            · have c4 : ((m : Int) == 4) = false := by rw [beq_eq_false_iff_ne]; omega
              by_cases e5 : m = 5
              · have c5 : ((m : Int) == 5) = true := by rw [e5]; rfl
                clear e3 e4 e5
                obtain ⟨x, f, hx⟩ : ∃ x f, one 117 y.data.toList = (x, f) := ⟨_, _, rfl⟩
                have HX := Lib.hid hx
                have HXR := Lib.hid (one_right hx)
                clear hx
                go_wp2_with fail
                refine (ofPublic_any y _ (by omega)).mono ?_
                rw [HX.out]
                rintro e w5 ⟨⟨T, hT, rfl⟩, hb5⟩
                dsimp only at hT ⊢
                have HB5 := Lib.hid (HBL.out.trans (hb5.mono HBL.out.size))
                have HO5 := Lib.hid (own_below HO.out hb5 (Nat.le_refl _))
                have hc5 := own_get HO5.out HYL.out (j := n - 1) (by omega)
                have hf5 := HO5.out.frozenAt (n - 1)
                have HT := Lib.hid hT
                clear hT hb5
                by_cases hf : f = 0
                · subst hf
                  have HTR : Hid (right T.data.toList = true) := by show _ = _; rw [HT.out]; exact HXR.out rfl
                  go_wp2
                  go_roundw
                  case rel =>
                    have h6 := HO5.out.stored (n - 1) (.string T)
                    refine ⟨k + 1, n, by omega, by omega, hn1, by omega, by go_num, ys.set (n - 1) T, by rw [List.length_set]; exact HYL.out, ?_, fun x hx => ?_, ?_⟩
                    · have h7 := h6.1
                      have e : (sv ys).set (n - 1) (.string T) = sv (ys.set (n - 1) T) := by simp only [sv, List.map_set]
                      rw [e] at h7
                      exact h7
                    · rcases List.mem_or_eq_of_mem_set hx with hx | hx
                      · exact HRT.out x hx
                      · rw [hx]; exact HTR.out
                    · exact HB5.out.grown h6.2 HB5.out.size fun g' hg' => by
                        injection hg' with hg'
                        subst hg'
                        exact (HO.out.lt g rfl).1
                  case measure => simp [intOf]; omega
                · have hfb : (f == 0) = false := by simpa using hf
                  clear hf
                  go_wp2
                  go_roundw
                  case rel => exact ⟨k + 1, n, by omega, by omega, hn1, by omega, by go_num, ys, HYL.out, HO5.out, HRT.out, HB5.out⟩
                  case measure => simp [intOf]; omega
              · have c5 : ((m : Int) == 5) = false := by rw [beq_eq_false_iff_ne]; omega
                clear e3 e4 e5
                by_cases hn2' : (1 : Int) < (n : Int)
                · have hcy2 := own_get HO.out HYL.out (j := n - 2) (by omega)
                  obtain ⟨y2, hy2⟩ : ∃ y2, ys.getD (n - 2) ByteArray.empty = y2 := ⟨_, rfl⟩
                  have hyr2 := getD_right HYL.out (j := n - 2) (by omega) HRT.out
                  rw [hy2] at hcy2 hyr2
                  have HYR2 := Lib.hid hyr2
                  have hyz2 := (right_sz hyr2).2
                  obtain ⟨_, _, hnc⟩ := sreads_own HO.out
                  have hi1 : (0 : Int) ≤ (n : Int) - 1 := by omega
                  have hi2 : (n : Int) - 1 < (n : Int) := by omega
                  have hi3 : (0 : Int) ≤ (n : Int) - 2 := by omega
                  have hi4 : (n : Int) - 2 < (n : Int) := by omega
                  have hi5 : IntKind.i64.wrap ((n : Int) - 1) = (n : Int) - 1 := by rw [IntKind.wrap_i64]; omega
                  have hi6 : IntKind.i64.wrap ((n : Int) - 2) = (n : Int) - 2 := by rw [IntKind.wrap_i64]; omega
                  have hi7 : (n : Int) - 2 ≤ (c : Int) := by omega
                  have hi8 : (1 : Int) ≤ (n : Int) := by omega
                  have hi9 : (2 : Int) ≤ (n : Int) := by omega
                  have hia : ((n : Int) - 1).toNat = n - 1 := by omega
                  have hib : ((n : Int) - 2).toNat = n - 2 := by omega
                  clear hy2 hyr2
                  go_wp2
                  go_region_held3 (fun w' => w'.cell? ⟨g, n - 2, none⟩ = some (.string y2) ∧ w'.cell? ⟨g, n - 1, none⟩ = some (.string y))
                    (first | go_keep | exact ⟨hcA, hcB⟩)
                    (first
                      | (go_simp
                         go_at_call 36
                         refine (joined_any m y2 y _ (by omega) HYR2.out HYR.out).mono ?_
                         rintro e w5 ⟨⟨T, hT, rfl⟩, hb5⟩
                         have HTR := Lib.hid hT
                         have HB5 := Lib.hid (HBL.out.drew.trans (hb5.mono HBL.out.size))
                         have hcA : w5.cell? ⟨g, n - 2, none⟩ = some (.string y2) := (hb5.cell (p := ⟨g, n - 2, none⟩) hg).trans hcy2
                         have hcB : w5.cell? ⟨g, n - 1, none⟩ = some (.string y) := (hb5.cell (p := ⟨g, n - 1, none⟩) hg).trans hcy
                         have HO5 := Lib.hid (own_below (own_below HO.out ((Below.refl wr.heap.size wr).drew) (Nat.le_refl _)) hb5 (Nat.le_refl _))
                         clear hT hb5
                         dsimp only))
                  have HL0 := Lib.hid (World.ownsRow_lit (e := 9) (size := 1) (base := w.heap.size) w5 #[] 0 HB5.out.size (by decide) rfl)
                  go_wp2_with (first
                    | (at_builtin
                       refine wpList_append_own _ rfl _ _ _ rfl w.heap.size 9 i0 _ 1 16 Try.underlying39 hi0 hz0 hz1 hz2 rfl (by decide) v6 (0 + (n - 2)) ([] ++ sv (ys.take (n - 2))) rfl ?d1 _ 1 1 [.string T] rfl rfl ?d2 ?d3 ?d4 ?d5 ?d6 ?_
                       case d1 => exact HO6.out.alloc _
                       case d2 => exact lit_cells _ _ _
                       case d3 => exact sv_one [T]
                       case d4 => simp only [maxLen]; omega
                       case d5 => omega
                       case d6 =>
                         have h := HB6.out.size
                         simp only [World.alloc, Array.size_push]
                         exact Nat.le_succ_of_le h
                       intro v7 w7 hown hgrow _
                       have HO7 := Lib.hid hown
                       have HG7 := Lib.hid hgrow
                       clear hown hgrow)
                    | (at_builtin
                       refine wpList_append_own _ rfl _ _ _ rfl w.heap.size 9 i0 _ 1 16 Try.underlying39 hi0 hz0 hz1 hz2 rfl (by decide) _ 0 [] rfl ?c1 ⟨g, 0, none⟩ (n - 2) c (sv (ys.take (n - 2))) rfl ?c0 ?c2 ?c3 ?c4 ?c5 ?c6 ?_
                       case c0 => simp only [sv, List.length_map, List.length_take]; have := HYL.out; omega
                       case c1 => exact HL0.out
                       case c2 =>
                         intro j u hu
                         have hj : j < n - 2 := by
                           have := (List.getElem?_eq_some_iff.1 hu).1
                           simp only [sv, List.length_map, List.length_take] at this
                           omega
                         have h9 := own_get (HO5.out.alloc (.cells #[] 9)) HYL.out (j := j) (by omega)
                         rw [add_none, Nat.zero_add, h9]
                         simp only [sv, List.getElem?_map, List.getElem?_take_of_lt hj] at hu
                         rw [List.getElem?_eq_getElem (by have := HYL.out; omega)] at hu
                         rw [← hu]
                         simp [List.getD, List.getElem?_eq_getElem (show j < ys.length by have := HYL.out; omega)]
                       case c3 => exact sv_one _
                       case c4 => simp only [maxLen]; omega
                       case c5 => omega
                       case c6 =>
                         have h := HB5.out.size
                         simp only [World.alloc, Array.size_push]
                         exact Nat.le_succ_of_le h
                       intro v6 w6 hown hgrow _
                       have HO6 := Lib.hid hown
                       have HB6 := Lib.hid ((HB5.out.alloc HB5.out.size (.cells #[] 9)).grown hgrow (by
                         have := HB5.out.size
                         simp only [World.alloc, Array.size_push]
                         omega) fun g' hg' => (HL0.out.lt g' hg').1)
                       clear hown hgrow))
                  go_roundw
                  case rel =>
                    refine ⟨k + 1, 0 + (n - 2) + 1, by omega, by omega, by omega, by omega, by go_num, ys.take (n - 2) ++ [T], ?_, ?_, fun x hx => ?_, ?_⟩
                    · have := HYL.out
                      rw [List.length_append, List.length_take, List.length_singleton]; omega
                    · have h := HO7.out
                      simpa [sv] using h
                    · rcases List.mem_append.1 hx with hx | hx
                      · exact HRT.out x (List.mem_of_mem_take hx)
                      · rw [List.mem_singleton.1 hx]; exact HTR.out
                    · refine (HB6.out.alloc HB6.out.size (.cells #[.string T] 9)).grown HG7.out (by
                        have := HB6.out.size
                        simp only [World.alloc, Array.size_push]
                        omega) fun g' hg' => ?_
                      exact (HO6.out.lt g' hg').1
                  case measure => simp [intOf]; omega
                · go_wp2
                  go_roundw
                  case rel => exact ⟨k + 1, n, by omega, by omega, hn1, by omega, by go_num, ys, HYL.out, HO.out, HRT.out, HBL.out⟩
                  case measure => simp [intOf]; omega
      · have hcy := own_get HO.out HYL.out (j := n - 1) (by omega)
        obtain ⟨y, hy⟩ : ∃ y, ys.getD (n - 1) ByteArray.empty = y := ⟨_, rfl⟩
        have hyr := getD_right HYL.out (j := n - 1) (by omega) HRT.out
        rw [hy] at hcy hyr
        have HYR := Lib.hid hyr
        clear hy hyr
        go_wp2
        go_ret
        exact ⟨⟨_, HYR.out, rfl⟩, HBL.out⟩
    · have hcy := own_get HO.out HYL.out (j := n - 1) (by omega)
      obtain ⟨y, hy⟩ : ∃ y, ys.getD (n - 1) ByteArray.empty = y := ⟨_, rfl⟩
      have hyr := getD_right HYL.out (j := n - 1) (by omega) HRT.out
      rw [hy] at hcy hyr
      have HYR := Lib.hid hyr
      clear hy hyr
      go_wp2
      go_ret
      exact ⟨⟨_, HYR.out, rfl⟩, HBL.out⟩
end Go.Proofs.Ytgjjbeejfdkjdaa.Term
