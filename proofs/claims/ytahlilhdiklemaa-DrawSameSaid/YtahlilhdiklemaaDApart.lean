/-
  THE LAW DrawApart, walked over what the code is held to. By an AI agent; no person has read it.
-/
import Derived.Test.YtahlilhdiklemaaDSpec
namespace Go.Proofs.Ytahlilhdiklemaa.Draw
open Go.RowKit Wire Term Clo

/-- A slice of truths. -/
def BReads (w : World) (a : Option Addr) (ts : List Bool) : Prop := ∀ j t, ts[j]? = some t → ∃ b off, a = some ⟨b, off, none⟩ ∧ b < w.heap.size ∧ w.cell? ⟨b, off + j, none⟩ = some (.bool t)
theorem breads_of {w : World} {a : Option Addr} {len cap : Nat} {zs : List Bool}
    (h : (a = none ∧ len = 0 ∧ cap = 0 ∧ zs = []) ∨ ∃ x, a = some x ∧ len ≤ cap ∧ cap ≤ maxLen ∧ zs.length = cap ∧ ∀ i, i < zs.length → w.cell? (x.add i) = some (.bool (zs.getD i false))) :
    ∃ ys : List Bool, ys.length = len ∧ len ≤ cap ∧ cap ≤ maxLen ∧ BReads w a ys := by
  rcases h with ⟨rfl, rfl, rfl, rfl⟩ | ⟨x, rfl, h1, h2, h3, h4⟩
  · exact ⟨[], rfl, Nat.le_refl _, Nat.zero_le _, fun j t hj => by simp at hj⟩
  · refine ⟨zs.take len, by rw [List.length_take]; omega, h1, h2, fun j t hj => ?_⟩
    have hjl : j < len := by
      have := (List.getElem?_eq_some_iff.1 hj).1
      rw [List.length_take] at this
      omega
    rw [List.getElem?_take_of_lt hjl] at hj
    have c0 := h4 0 (by omega)
    have cj := h4 j (by omega)
    obtain ⟨b, off, sp⟩ := x
    have hb : sp = none ∧ b < w.heap.size := by
      have e0 : (⟨b, off, sp⟩ : Addr).add 0 = ⟨b, off, sp⟩ := by simp [Addr.add]
      rw [e0] at c0
      unfold World.cell? at c0
      simp only at c0
      split at c0
      · rename_i h0
        refine ⟨?_, (Array.getElem?_eq_some_iff.1 h0).1⟩
        cases sp with
        | none => rfl
        | some q => simp at c0
      · cases c0
    obtain ⟨rfl, hlt⟩ := hb
    rw [add_none] at cj
    have e : zs.getD j false = t := by simp only [List.getD, hj, Option.getD_some]
    rw [e] at cj
    exact ⟨b, off, rfl, hlt, cj⟩
theorem u64_small {n : Nat} (h : n < 18446744073709551616) : IntKind.u64.wrap (n : Int) = (n : Int) := by rw [IntKind.wrap_u64]; omega
set_option maxHeartbeats 8000000 in
set_option maxRecDepth 1000000 in
theorem apart_walk {D : DPred} (MO : MixOK) (d : DrawsOK D) (a b : Nat) (A : Option Addr) (c : Nat) (ts : List Bool) (w : World) (ha : a < 18446744073709551616) (hb : b < 18446744073709551616) (hr : BReads w A ts) :
    Calls Try.prog 8 #[.int .u64 (a : Int), .int .u64 (b : Int), .slice A ts.length c] w fun e w' => e = .returned (.bool true) ∧ Below w.heap.size w w' := by
  have HR := Lib.hid hr
  have HMO := Lib.hid MO
  have HD := Lib.hid d
  clear hr
  by_cases h100 : 100 < ts.length
  · have h1 : (100 : Int) < (ts.length : Int) := by omega
    go_enter Try.func8, Try.ntmps8
    go_wp2_with fail
    refine (shown5_any HMO.out HD.out w).mono ?_
    rintro e w1 ⟨rfl, hb1⟩
    have HB1 := Lib.hid hb1
    clear hb1
    dsimp only
    go_wp2_with fail
    refine (fam_new HD.out (fam_nil D w.heap.size w1) HB1.out.size a ha).mono ?_
    rintro e w2 ⟨x, rfl, _, hb2⟩
    have HB2 := Lib.hid (HB1.out.trans (hb2.mono HB1.out.size))
    clear hb2
    dsimp only
    go_wp2_with fail
    refine (fam_new HD.out (fam_nil D w.heap.size w2) HB2.out.size b hb).mono ?_
    rintro e w3 ⟨y, rfl, _, hb3⟩
    have HB3 := Lib.hid (HB2.out.trans (hb3.mono HB2.out.size))
    clear hb3
    dsimp only
    go_wp2
    go_ret
    exact ⟨rfl, HB3.out⟩
  · have h1 : ¬ (100 : Int) < (ts.length : Int) := by omega
    go_enter Try.func8, Try.ntmps8
    go_wp2_with fail
    refine (shown5_any HMO.out HD.out w).mono ?_
    rintro e w1 ⟨rfl, hb1⟩
    have HB1 := Lib.hid hb1
    clear hb1
    dsimp only
    go_wp2_with fail
    refine (fam_new HD.out (fam_nil D w.heap.size w1) HB1.out.size a ha).mono ?_
    rintro e w2 ⟨x, rfl, hf2, hb2⟩
    have HB2 := Lib.hid (HB1.out.trans (hb2.mono HB1.out.size))
    have HF2 := Lib.hid hf2
    clear hb2 hf2
    dsimp only
    go_wp2_with fail
    refine (fam_new HD.out HF2.out HB2.out.size b hb).mono ?_
    rintro e w3 ⟨y, rfl, hf3, hb3⟩
    have HB3 := Lib.hid (HB2.out.trans (hb3.mono HB2.out.size))
    have HF3 : Hid (Fam D w.heap.size w3 [(x, a, 0), (y, b, 0)]) := hf3
    clear hb3 hf3
    dsimp only
    go_wp2_with fail
    go_loopw [10, 11, 12] (fun n m i wr => ∃ j p q : Nat, j ≤ ts.length ∧ p ≤ j ∧ q ≤ j ∧ n = .int .i64 p ∧ m = .int .i64 q ∧ i = .int .i64 j ∧ Hid (Fam D w.heap.size wr [(x, a, p), (y, b, q)]) ∧ Hid (Below w.heap.size w wr)) (fun _ _ i _ => ts.length - (intOf i).toNat)
    case atStart => exact ⟨0, 0, 0, Nat.zero_le _, Nat.le_refl _, Nat.le_refl _, rfl, rfl, rfl, HF3, HB3⟩
    case round =>
      clear HF3 HB3 HF2 HB2 HB1
      obtain ⟨j, p, q, hj, hp, hq, rfl, rfl, rfl, HF, HB⟩ := hrel
      by_cases hlt : j < ts.length
      · obtain ⟨t, hT⟩ : ∃ t, ts[j]? = some t := ⟨_, List.getElem?_eq_getElem hlt⟩
        obtain ⟨tb, off, rfl, hblt, hc⟩ := HR.out j t hT
        rw [← HB.out.cell (p := ⟨tb, off + j, none⟩) hblt] at hc
        clear hT
        cases t with
        | true =>
          have h0 := u64_small (n := p) (by omega)
          obtain ⟨m, hm⟩ : ∃ m, IntKind.u64.wrap ((p : Int) * 11400714819323198485) = m := ⟨_, rfl⟩
          obtain ⟨z, hz⟩ : ∃ z, (a + p * 11400714819323198485) % 18446744073709551616 = z := ⟨_, rfl⟩
          have h2 : IntKind.u64.wrap ((a : Int) + m) = (z : Int) := by rw [← hm, ← hz]; exact draw_eq
          obtain ⟨v, hv⟩ : ∃ v, mix z = v := ⟨_, rfl⟩
          have HV : Hid (draw a p = v) := by show mix _ = _; rw [hz, hv]
          have HMV := Lib.hid (HMO.out z)
          have hzl : z < 18446744073709551616 := by rw [← hz]; exact Nat.mod_lt _ (by decide)
          rw [hv] at HMV
          clear hz hv
          go_wp2_with fail
          refine (fam_next HD.out HF.out HB.out.size 0 rfl (by omega)).mono ?_
          rw [HV.out]
          rintro e w4 ⟨rfl, hf4, hb4⟩
          have HF4 : Hid (Fam D w.heap.size w4 [(x, a, p + 1), (y, b, q)]) := hf4
          have HB4 := Lib.hid (HB.out.trans hb4)
          clear hf4 hb4
          dsimp only
          go_wp2_with fail
          refine (HMV.out _ hzl).mono ?_
          rintro e w5 ⟨rfl, hb5⟩
          have HF5 := Lib.hid (fam_below HD.out HF4.out hb5)
          have HB5 := Lib.hid (HB4.out.trans (hb5.mono HB4.out.size))
          clear hb5
          dsimp only
          go_wp2
          go_roundw
          case rel => exact ⟨j + 1, p + 1, q, by omega, by omega, by omega, by go_num, rfl, by go_num, HF5, HB5⟩
          case measure => simp [intOf]; omega
        | false =>
          have h0 := u64_small (n := q) (by omega)
          obtain ⟨m, hm⟩ : ∃ m, IntKind.u64.wrap ((q : Int) * 11400714819323198485) = m := ⟨_, rfl⟩
          obtain ⟨z, hz⟩ : ∃ z, (b + q * 11400714819323198485) % 18446744073709551616 = z := ⟨_, rfl⟩
          have h2 : IntKind.u64.wrap ((b : Int) + m) = (z : Int) := by rw [← hm, ← hz]; exact draw_eq
          obtain ⟨v, hv⟩ : ∃ v, mix z = v := ⟨_, rfl⟩
          have HV : Hid (draw b q = v) := by show mix _ = _; rw [hz, hv]
          have HMV := Lib.hid (HMO.out z)
          have hzl : z < 18446744073709551616 := by rw [← hz]; exact Nat.mod_lt _ (by decide)
          rw [hv] at HMV
          clear hz hv
          go_wp2_with fail
          refine (fam_next HD.out HF.out HB.out.size 1 rfl (by omega)).mono ?_
          rw [HV.out]
          rintro e w4 ⟨rfl, hf4, hb4⟩
          have HF4 : Hid (Fam D w.heap.size w4 [(x, a, p), (y, b, q + 1)]) := hf4
          have HB4 := Lib.hid (HB.out.trans hb4)
          clear hf4 hb4
          dsimp only
          go_wp2_with fail
          refine (HMV.out _ hzl).mono ?_
          rintro e w5 ⟨rfl, hb5⟩
          have HF5 := Lib.hid (fam_below HD.out HF4.out hb5)
          have HB5 := Lib.hid (HB4.out.trans (hb5.mono HB4.out.size))
          clear hb5
          dsimp only
          go_wp2
          go_roundw
          case rel => exact ⟨j + 1, p, q + 1, by omega, by omega, by omega, rfl, by go_num, by go_num, HF5, HB5⟩
          case measure => simp [intOf]; omega
      · obtain rfl : j = ts.length := by omega
        go_wp2_with fail
        refine (fam_many HD.out HF.out 0 rfl (by omega)).mono ?_
        rintro e w4 ⟨rfl, hf4, hb4⟩
        have HF4 := Lib.hid hf4
        have HB4 := Lib.hid (HB.out.trans (hb4.mono HB.out.size))
        clear hf4 hb4
        dsimp only
        go_wp2_with fail
        refine (fam_many HD.out HF4.out 1 rfl (by omega)).mono ?_
        rintro e w5 ⟨rfl, hf5, hb5⟩
        have HB5 := Lib.hid (HB4.out.trans (hb5.mono HB4.out.size))
        clear hf5 hb5
        dsimp only
        go_wp2
        go_ret
        exact ⟨rfl, HB5.out⟩
end Go.Proofs.Ytahlilhdiklemaa.Draw
