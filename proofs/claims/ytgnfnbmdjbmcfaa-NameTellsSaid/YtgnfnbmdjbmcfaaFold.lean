/-
  CONTRACTS of name.great and name.Fold at this program. By an AI agent; no person has read it.
-/
import Derived.Test.YtgnfnbmdjbmcfaaFolds
import Derived.Test.YtgnfnbmdjbmcfaaRunes
import Derived.Test.YtgnfnbmdjbmcfaaShelfB
import Derived.Test.YtgnfnbmdjbmcfaaBuilder
namespace Go.Proofs.Ytgnfnbmdjbmcfaa
open Go.RowKit Txt

set_option maxHeartbeats 1000000 in
theorem great_any (r : Int) (w : World) : Calls Try.prog 37 #[.int .i32 r] w fun e w' => e = .returned (.bool (great r)) ∧ w = w' := by
  go_enter Try.func37, Try.ntmps37
  go_wp2
  all_goals go_ret
  all_goals refine ⟨ret_bool ?_, rfl⟩
  all_goals unfold great
  all_goals symm
  all_goals try simp only [beq_iff_eq, beq_eq_false_iff_ne, ne_eq] at *
  all_goals first
    | (apply decide_eq_true; omega)
    | (apply decide_eq_false; omega)
theorem great_is (r : Int) (v : Bool) (h : great r = v) (w : World) : Calls Try.prog 37 #[.int .i32 r] w fun e w' => e = .returned (.bool v) ∧ w = w' := by
  subst h
  exact great_any r w

set_option maxHeartbeats 1000000 in
set_option maxRecDepth 1000000 in
theorem fold_any (s : ByteArray) (w : World) (hs : s.size ≤ 1000000) :
    Calls Try.prog 22 #[.string s] w fun e w' => e = .returned (.string ⟨(fold s.data.toList).toArray⟩) ∧ Below w.heap.size w w' := by
  go_enter Try.func22, Try.ntmps22
  go_wp2_with fail
  refine (Try.Builder_Grow_fresh w.heap.size w.heap.size s.size _ (Nat.le_refl _) (by exact (MapKept.heap_alloc w _).1) (by simp) (by omega)).mono ?_
  rintro e w2 ⟨rfl, hbu, hbe⟩
  have hB2 : Lib.IsBuilderF 57 5 w.heap.size w.heap.size (Lib.byteCells []) w2 := Lib.IsBuilderF.of (.inr hbu)
  have hbw : Below w.heap.size w w2 := ((Below.refl _ w).alloc (Nat.le_refl _) _).trans hbe
  have hlt : w.heap.size < w2.heap.size := by have := hbe.size; simp at this; omega
  have HB2 := Lib.hid hB2
  clear hbu hbe hB2
  obtain ⟨k, hk⟩ : ∃ k, w2.heap.size = k := ⟨_, rfl⟩
  have hit0 : (w2.iter s 0).heap[k]? = some (.stringIter s 0) := by rw [← hk]; exact World.iter_heap w2 s 0
  have HIT0 := Lib.hid hit0
  have HI0 := Lib.hid (HB2.out.alloc (.stringIter s 0))
  have hbw0 : Below w.heap.size w (w2.iter s 0) := hbw.alloc (by omega) _
  rw [hk] at hlt
  clear HB2 hbw hit0
  go_wp2_with fail
  go_loopw [] (fun wr => ∃ (pos : Nat) (acc : List UInt8), Lib.IsBuilderF 57 5 w.heap.size w.heap.size (Lib.byteCells acc) wr ∧ wr.heap[k]? = some (.stringIter s pos) ∧ pos ≤ s.size ∧ Below w.heap.size w wr ∧
      fold s.data.toList = acc ++ fold (s.data.toList.drop pos) ∧ acc.length = pos) (fun wr => s.size - wr.iterPos k)
  case atStart => exact ⟨0, [], HI0.out, HIT0.out, Nat.zero_le _, hbw0, by rw [List.drop_zero]; rfl, rfl⟩
  case round =>
    obtain ⟨pos, acc, hI, hit, hps, hb, hf, hal⟩ := hrel
    have hks : k < wr.heap.size := (Array.getElem?_eq_some_iff.1 hit).1
    clear HIT0 HI0 hbw0 hk
    have HF := Lib.hid hf
    clear hf
    by_cases hp : pos < s.size
    · have hnx : ∀ ty, (Instr.next (.pointer (some ⟨k, 0, none⟩)) true ty).run Try.prog wr = _ := fun ty => Lib.run_next_any_at wr k s pos ty hit hp
      have hwd := Lib.width_pos s pos
      have hd1 := Lib.rune_le s pos
      have hne := drop_ne s hp
      have hdw := dec_le _ hne
      rw [← decode_drop, List.length_drop, ← Lib.size_eq] at hdw
      obtain ⟨⟨r, wd⟩, hd⟩ : ∃ p, Utf8.decode s pos = p := ⟨_, rfl⟩
      rw [hd] at hnx hwd hd1 hdw
      simp only at hnx hwd hd1 hdw
      have hb2 := Lib.below_iterAt hb (k := k) (by omega) s (pos + wd)
      have hI2 := Lib.hid (hI.iterAt hit (pos + wd))
      have hit2 := Lib.hid (Lib.iterAt_heap wr k s pos (pos + wd) hit)
      have hws := Lib.iterAt_size wr k s (pos + wd)
      obtain ⟨wi, hwi⟩ : ∃ wi, wr.iterAt k s (pos + wd) = wi := ⟨_, rfl⟩
      rw [hwi] at hnx hb2 hI2 hit2 hws
      have hsz2 : w.heap.size ≤ wi.heap.size := by omega
      have HPOS := Lib.hid (iterPos_of hit)
      clear hit hwi hws hb hI
      have hdl : Lib.decodeL (s.data.toList.drop pos) = (r, wd) := by rw [← decode_drop]; exact hd
      have hst := fold_step hne
      have hpl := piece_len hne
      rw [hdl] at hst hpl
      rw [List.drop_drop] at hst
      have HDL := Lib.hid hdl
      have HNE := Lib.hid hne
      have HST := Lib.hid hst
      have HPL := Lib.hid hpl
      clear hd hdl hne hst hpl
      have c1 : (0 : Int) ≤ ↑pos := by omega
      have c2 : (↑pos : Int) ≤ ↑s.size := by omega
      by_cases hbad : (r, wd) = (65533, 1)
      · have hpc : piece (s.data.toList.drop pos) = [45] := by unfold piece; rw [HDL.out, if_pos hbad]
        have HB := Lib.hid hbad
        have HPC := Lib.hid hpc
        clear hbad hpc
        go_wp2_with fail
        refine (broken_call _ r true _ (by rw [extract_drop]; exact HNE.out) (by rw [extract_drop, HDL.out]) (by rw [extract_drop, HDL.out]; exact decide_eq_true HB.out)).mono ?_
        rintro e w1 ⟨rfl, rfl⟩
        go_wp2_with fail
        refine (Try.Builder_WriteByte_k w.heap.size w.heap.size _ 45 _ hI2.out (by rw [Lib.byteCells_length]; omega) hsz2).mono ?_
        rintro e w3 ⟨rfl, h1, b1, k1⟩
        have hit3 := Lib.hid (k1.iter hit2.out (by omega))
        have H1 := Lib.hid h1
        have hb3 := hb2.trans b1
        clear h1 k1 b1 hb2
        go_wp2
        go_roundw
        case rel =>
          refine ⟨pos + wd, acc ++ [45], ?_, hit3.out, by omega, hb3, by rw [HF.out, HST.out, HPC.out, List.append_assoc], ?_⟩
          · rw [Lib.byteCells_append]; exact Or.inr H1.out
          · have := HPL.out; rw [HPC.out] at this; simp at this; simp; omega
        case measure =>
          simp only [iterPos_of hit3.out, HPOS.out]
          omega
      · have hpc : piece (s.data.toList.drop pos) = Lib.encodeRune (low r) := by unfold piece; rw [HDL.out, if_neg hbad]
        have HB := Lib.hid hbad
        have HPC := Lib.hid hpc
        clear hbad hpc
        cases hg : great (r : Int) with
        | true =>
          have HG := Lib.hid hg
          have hg1 : (r : Int) ≤ 1071 := by have := of_decide_eq_true hg; omega
          have HLW : Hid (low r = r + 32) := Lib.hid (by unfold low; rw [if_pos hg])
          clear hg
          go_wp2_with fail
          refine (broken_call _ r false _ (by rw [extract_drop]; exact HNE.out) (by rw [extract_drop, HDL.out]) (by rw [extract_drop, HDL.out]; exact decide_eq_false HB.out)).mono ?_
          rintro e w1 ⟨rfl, rfl⟩
          go_wp2_with fail
          refine (great_is r true HG.out _).mono ?_
          rintro e w1 ⟨rfl, rfl⟩
          go_wp2_with fail
          have hwr := Try.Builder_WriteRune_k w.heap.size w.heap.size (Lib.byteCells acc) ((r : Int) + 32) (by omega) (by omega) wi hI2.out (by rw [Lib.byteCells_length]; omega) hsz2
          go_fit hwr
          clear hwr
          rintro e w3 ⟨rfl, h1, b1, k1⟩
          have hit3 := Lib.hid (k1.iter hit2.out (by omega))
          have H1 := Lib.hid h1
          have hb3 := hb2.trans b1
          clear h1 k1 b1 hb2
          go_wp2
          go_roundw
          case rel =>
            refine ⟨pos + wd, acc ++ Lib.encodeRune (r + 32), ?_, hit3.out, by omega, hb3, by rw [HF.out, HST.out, HPC.out, HLW.out, List.append_assoc], ?_⟩
            · rw [Lib.byteCells_append, Lib.byteCells_encodeRune]; exact Or.inr H1.out
            · have h5 := HPL.out
              rw [HPC.out, HLW.out] at h5
              change _ = wd at h5
              rw [List.length_append]; omega
          case measure =>
            simp only [iterPos_of hit3.out, HPOS.out]
            omega
        | false =>
          have HG := Lib.hid hg
          have HLW : Hid (low r = r) := Lib.hid (by unfold low; rw [hg]; simp)
          clear hg
          go_wp2_with fail
          refine (broken_call _ r false _ (by rw [extract_drop]; exact HNE.out) (by rw [extract_drop, HDL.out]) (by rw [extract_drop, HDL.out]; exact decide_eq_false HB.out)).mono ?_
          rintro e w1 ⟨rfl, rfl⟩
          go_wp2_with fail
          refine (great_is r false HG.out _).mono ?_
          rintro e w1 ⟨rfl, rfl⟩
          go_wp2_with fail
          have hwr := Try.Builder_WriteRune_k w.heap.size w.heap.size (Lib.byteCells acc) (r : Int) (by omega) (by omega) wi hI2.out (by rw [Lib.byteCells_length]; omega) hsz2
          go_fit hwr
          clear hwr
          rintro e w3 ⟨rfl, h1, b1, k1⟩
          have hit3 := Lib.hid (k1.iter hit2.out (by omega))
          have H1 := Lib.hid h1
          have hb3 := hb2.trans b1
          clear h1 k1 b1 hb2
          go_wp2
          go_roundw
          case rel =>
            refine ⟨pos + wd, acc ++ Lib.encodeRune r, ?_, hit3.out, by omega, hb3, by rw [HF.out, HST.out, HPC.out, HLW.out, List.append_assoc], ?_⟩
            · rw [Lib.byteCells_append, Lib.byteCells_encodeRune]; exact Or.inr H1.out
            · have h5 := HPL.out
              rw [HPC.out, HLW.out] at h5
              change _ = wd at h5
              rw [List.length_append]; omega
          case measure =>
            simp only [iterPos_of hit3.out, HPOS.out]
            omega
    · have hnx : ∀ ty, (Instr.next (.pointer (some ⟨k, 0, none⟩)) true ty).run Try.prog wr = _ := fun ty => Lib.run_next_end_at wr k s pos ty hit hp
      have hfe := HF.out
      rw [drop_end s hp, fold_nil, List.append_nil] at hfe
      have HFE := Lib.hid hfe
      have HI := Lib.hid hI
      clear hfe HF hI
      go_wp2_with fail
      refine (Try.Builder_String_any_k w.heap.size w.heap.size acc _ HI.out (by omega)).mono ?_
      rintro e w3 ⟨rfl, _, b1, _⟩
      go_wp2
      go_ret
      exact ⟨by rw [HFE.out]; rfl, hb.trans b1⟩
end Go.Proofs.Ytgnfnbmdjbmcfaa
