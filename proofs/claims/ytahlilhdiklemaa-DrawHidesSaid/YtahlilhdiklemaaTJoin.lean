/-
  CONTRACTS of the code's join, and of OfPair, OfHash, Seal, OfPublic, Box, Sign, OfAtom, OfText, Unbox (package term). By an AI agent; no person has read it.
-/
import Derived.Test.YtahlilhdiklemaaTParts1
import Derived.Test.YtahlilhdiklemaaWPut
namespace Go.Proofs.Ytahlilhdiklemaa.Term
open Go.RowKit Wire

theorem strJoin_any (a : Option Addr) (c : Nat) (ys : List ByteArray) (w : World) (hr : SReads w a ys) (hN : ys.length ≤ 140737488355328) (hcap : ys.length ≤ c) (hlen : (cat ys).length ≤ 140737488355328) :
    Calls Try.prog 43 #[.slice a ys.length c, .string ⟨#[]⟩] w fun e w' => St (cat ys) e ∧ Below w.heap.size w w' := by
  cases ys with
  | nil => exact (Try.strings_Join_none a c ⟨#[]⟩ w).mono fun e w' ⟨he, hw⟩ => ⟨⟨_, rfl, he⟩, hw ▸ Below.refl _ _⟩
  | cons y r =>
    obtain ⟨b, off, rfl, hb, _⟩ := hr 0 (by simp)
    refine (Try.strings_Join b off c (y :: r) ⟨#[]⟩ w (fun j x hx => ?_) hb hN hcap (by rw [join_cat]; exact hlen)).mono fun e w' ⟨he, hw⟩ => ⟨⟨_, ?_, he⟩, hw⟩
    · have hj := (List.getElem?_eq_some_iff.1 hx).1
      obtain ⟨b', off', e, _, hc⟩ := hr j hj
      injection e with e
      injection e with e1 e2
      subst e1 e2
      rw [hc]
      simp [List.getD, hx]
    · rw [join_cat]
theorem bdrew1 {B : Nat} {a w : World} (h : Below B a w) : Below B a w.drew := ⟨h.os, h.tape, h.output, h.size, h.block⟩
theorem after_alloc {w w1 w2 : World} {o : Obj} (h : Below w.heap.size w w1) (h2 : Below (w1.alloc o).heap.size (w1.alloc o) w2) : Below w.heap.size w w2 := by
  have h1 := h.alloc h.size o
  exact h1.trans (h2.mono h1.size)
theorem kept_cell {wr w1 : World} {v : Value} {t : TypeId} (h : Below ((wr.alloc (.cells #[v] t)).drew).heap.size ((wr.alloc (.cells #[v] t)).drew) w1) : w1.cell? ⟨wr.heap.size, 0, none⟩ = some v := by
  rw [h.cell (p := ⟨wr.heap.size, 0, none⟩) (by show wr.heap.size < (wr.heap.push _).size; simp)]
  have h2 : ((wr.alloc (.cells #[v] t)).drew).cell? ⟨wr.heap.size, 0, none⟩ = (#[v] : Array Value)[0]? := cell_of_row _ _ _ _ _ (0, 0) (heap_alloc_new wr _)
  rw [h2]; rfl
/-- What join makes of such parts. -/
def glued (k : UInt8) (ys : List ByteArray) : List UInt8 × Int := if ∀ y ∈ ys, right y.data.toList = true then made (k :: cat ys) else ([], 1)
theorem glued_eq {k : UInt8} {ys : List ByteArray} (h : ∀ y ∈ ys, right y.data.toList = true) : glued k ys = made (k :: cat ys) := by unfold glued; rw [if_pos h]
theorem cat_len {ys : List ByteArray} (h : ∀ y ∈ ys, right y.data.toList = true) : (cat ys).length ≤ 4000 * ys.length := by
  induction ys with
  | nil => simp [cat]
  | cons y r ih =>
    have h1 := (right_len (h y (by simp))).2
    have h2 := ih (fun x hx => h x (by simp [hx]))
    have e : cat (y :: r) = y.data.toList ++ cat r := by simp [cat]
    rw [e, List.length_append, List.length_cons]
    omega
set_option maxHeartbeats 2000000 in
set_option maxRecDepth 1000000 in
theorem join_any (k : UInt8) (a : Option Addr) (c : Nat) (ys : List ByteArray) (w : World) (hr : SReads w a ys) (hN : ys.length ≤ 2) (hcap : ys.length ≤ c) :
    Calls Try.prog 29 #[.int .u8 (k.toNat : Int), .slice a ys.length c] w fun e w' => Sr (glued k ys) e ∧ Below w.heap.size w w' := by
  have HR := Lib.hid hr
  have q0 := nil_no
  have q1 := nil_yes
  clear hr
  go_enter Try.func29, Try.ntmps29
  go_wp2_with fail
  go_loopw [11] (fun i wr => ∃ n : Nat, n ≤ ys.length ∧ i = .int .i64 n ∧ Hid (∀ y ∈ ys.take n, right y.data.toList = true) ∧ Hid (Below w.heap.size w wr)) (fun i _ => ys.length - (intOf i).toNat)
  case atStart => exact ⟨0, Nat.zero_le _, rfl, by show ∀ y ∈ ys.take 0, _; simp, Below.refl _ _⟩
  case round =>
    obtain ⟨n, hn, rfl, HA, HW⟩ := hrel
    by_cases hlt : n < ys.length
    · obtain ⟨b, off, rfl, hblt, hcell⟩ := HR.out n hlt
      obtain ⟨y, hy⟩ : ∃ y, ys.getD n ByteArray.empty = y := ⟨_, rfl⟩
      rw [hy] at hcell
      rw [← HW.out.cell (p := ⟨b, off + n, none⟩) hblt] at hcell
      have HY := Lib.hid hy
      clear hy
      cases hry : right y.data.toList with
      | true =>
        have HRY := Lib.hid hry
        clear hry
        go_wp2_with (go_at_call 37; refine (whole_any y _).mono ?_; rintro e w1 ⟨ht, hb1⟩; obtain ⟨T, v, hsh, rfl⟩ := ht.pos HRY.out; have HB1 := Lib.hid (HW.out.trans (hb1.mono HW.out.size)); clear hb1 ht hsh)
        refine ⟨⟨n + 1, by omega, by go_num, ?_, HB1⟩, by simp [intOf]; omega⟩
        exact take_mem_step hlt HY.out HA.out HRY.out
      | false =>
        have HRY := Lib.hid hry
        clear hry
        go_wp2_with (go_at_call 37; refine (whole_any y _).mono ?_; rintro e w1 ⟨ht, hb1⟩; obtain rfl := ht.zero HRY.out; have HB1 := Lib.hid (HW.out.trans (hb1.mono HW.out.size)); clear hb1 ht)
        go_ret2
        have hg : glued k ys = ([], 1) := by
          unfold glued; rw [if_neg]; intro h
          have := h y (getD_mem hlt HY.out)
          rw [HRY.out] at this; cases this
        rw [hg]
        exact ⟨sr_nil _, HB1.out⟩
    · obtain rfl : n = ys.length := by omega
      have hall : ∀ y ∈ ys, right y.data.toList = true := by
        have h := HA.out
        rw [List.take_length] at h
        exact h
      have hlen := cat_len hall
      have HJ : Hid (∀ w', Below w.heap.size w w' → Calls Try.prog 43 #[.slice a ys.length c, .string ⟨#[]⟩] w' fun e w'' => St (cat ys) e ∧ Below w.heap.size w w'' ∧ Below w'.heap.size w' w'') := fun w' hb => (strJoin_any a c ys w' (HR.out.below hb (Nat.le_refl _)) (by omega) hcap (by omega)).mono fun e w'' ⟨h1, h2⟩ => ⟨h1, hb.trans (h2.mono hb.size), h2⟩
      have HALL := Lib.hid hall
      have HLEN := Lib.hid hlen
      obtain ⟨K, hK⟩ : ∃ K : ByteArray, (⟨#[k]⟩ : ByteArray) = K := ⟨_, rfl⟩
      have hK1 : K.data.toList = [k] := by rw [← hK]
      have hK2 : K.size = 1 := by rw [Lib.size_eq, hK1]; rfl
      have cv : ∀ (W : World) (A : Addr), W.cell? A = some (.int .u8 (k.toNat : Int)) → (convert 65 9 (.slice (some A) 1 1)).run Try.prog W = .ok (.string K) W := fun W A h => by
        have h2 := conv_one W A k.toNat (UInt8.toNat_lt k) h
        rw [show k.toNat.toUInt8 = k by simp, hK] at h2
        exact h2
      have HK := Lib.hid hK1
      have HK2 := Lib.hid hK2
      clear hall hlen HA hK hK1 hK2
      go_wp2_with fail
      go_region_with (go_at_call 43; refine (HJ.out _ ?_).mono ?_; (first | exact HW.out | exact bdrew1 HW.out | exact bdrew1 (HW.out.alloc HW.out.size _) | exact HW.out.alloc HW.out.size _); rintro e w1 ⟨⟨T, hT, rfl⟩, hb1, hb2⟩; (first | have hcc := kept_cell hb2 | skip); have hTz : T.size ≤ 8000 := (by rw [Lib.size_eq, hT]; exact Nat.le_trans HLEN.out (by omega)); have hbig : ¬ (9223372036854775807 < K.size + T.size) := (by rw [HK2.out]; omega); have HT := Lib.hid hT; have HB1 := Lib.hid hb1; clear hT hb1 hb2; dsimp only)
      all_goals go_wp2_with fail
      all_goals (
        obtain ⟨S, hS⟩ : ∃ S, K ++ T = S := ⟨_, rfl⟩
        have hSl : S.data.toList = k :: cat ys := by rw [← hS, app_data, HK.out, HT.out]; rfl
        have HS := Lib.hid hSl
        rw [hS]
        clear hS hSl
        cases hrs : right S.data.toList with
        | true =>
          have HRS := Lib.hid hrs
          clear hrs
          go_wp2_with (go_at_call 37; refine (whole_any S _).mono ?_; rintro e w2 ⟨ht, hb2⟩; obtain ⟨T2, v, hsh, rfl⟩ := ht.pos HRS.out; have HB2 : Hid (Below w.heap.size w w2) := (by first | exact HB1.out.trans (hb2.mono HB1.out.size) | exact after_alloc HB1.out hb2); clear hb2 ht hsh)
          go_ret2
          rw [glued_eq HALL.out, ← HS.out]
          unfold made
          rw [if_pos HRS.out]
          exact ⟨⟨S, rfl, rfl⟩, HB2.out⟩
        | false =>
          have HRS := Lib.hid hrs
          clear hrs
          go_wp2_with (go_at_call 37; refine (whole_any S _).mono ?_; rintro e w2 ⟨ht, hb2⟩; obtain rfl := ht.zero HRS.out; have HB2 : Hid (Below w.heap.size w w2) := (by first | exact HB1.out.trans (hb2.mono HB1.out.size) | exact after_alloc HB1.out hb2); clear hb2 ht)
          go_ret2
          rw [glued_eq HALL.out, ← HS.out]
          unfold made
          rw [if_neg (by rw [HRS.out]; decide)]
          exact ⟨sr_nil _, HB2.out⟩)
end Go.Proofs.Ytahlilhdiklemaa.Term
