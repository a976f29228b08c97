/-
  CONTRACT of the document's List (letterlockref12). By an AI agent; no person has read it.
-/
import Derived.Test.YtamkepfhlfeiiaaPListP
import Derived.Test.YtamkepfhlfeiiaaPRead
namespace Go.Proofs.Ytamkepfhlfeiiaa.Sto
open Go Go.RowKit Wire

set_option linter.unusedVariables false
set_option linter.unusedSimpArgs false
theorem Bel.call {w0 w1 w2 : World} (h : Below w0.heap.size w0 w1) (h2 : Below w1.heap.size w1 w2) : Below w0.heap.size w0 w2 := bel_call h h2
set_option maxHeartbeats 8000000 in
set_option maxRecDepth 1000000 in
theorem listr_c (a : Addr) (X : Nat → Prop) (s : Stt) (P : ByteArray) (w : World) (r : DR w a X s) (hf : Fine s) (hP : P.size ≤ 140737488351232) : Calls Try.prog 34 #[.pointer (some a), .string P] w fun e w' => (∃ l, Lists s P.data.toList l ∧ Row w w' l e) ∧ Below w.heap.size w w' := by
  have hfew := hf.few
  obtain ⟨h, gC, cap, nl, rs, rb, rfl, r, hx⟩ := r
  have hrl : rs.length ≤ 2000 := by have := r.cnt; omega
  have HSY := Lib.hid r.says
  have HFI := Lib.hid hf
  obtain ⟨i0, hi0, hz0, hz1, hz2⟩ := info_parts str_info
  have c0 := r.c0
  cases nl with
  | true =>
    have hr0 := r.nil_rs
    simp only [if_true] at c0
    clear hx r hf
    go_enter Try.func34, Try.ntmps34
    go_wp2_with fail
    go_loopw [5, 6] (fun l i wr => l = .slice none 0 0 ∧ i = .int .i64 0 ∧ wr = w) (fun _ _ _ => 0)
    case atStart => exact ⟨rfl, rfl, rfl⟩
    case round =>
      obtain ⟨rfl, rfl, rfl⟩ := hrel
      go_wp2_with fail
      refine (rising_nil _).mono ?_
      rintro e w1 ⟨rfl, rfl⟩
      dsimp only
      go_wp2
      go_ret
      exact ⟨⟨[], lists_of HSY.out HFI.out (by rw [hr0]; exact List.Perm.refl _) List.Pairwise.nil, _, [], rfl, World.ownsRow_nil _ _ _ _, rfl⟩, Below.refl _ _⟩
  | false =>
    simp only [Bool.false_eq_true, if_false] at c0
    have HRF := Lib.hid r
    have hhl : h < w.heap.size := r.h_lt
    have hgl : gC < w.heap.size := r.c_lt rfl
    clear hx r hf
    go_enter Try.func34, Try.ntmps34
    go_wp2_with fail
    go_loopw [5, 6] (fun l i wr => ∃ (j : Nat) (ls : List ByteArray), j ≤ rs.length ∧ i = .int .i64 j ∧ Hid (LSt w wr l ls) ∧ Hid (bl ls = pickd P.data.toList (rs.take j))) (fun _ i _ => rs.length - (intOf i).toNat)
    case atStart => exact ⟨0, [], Nat.zero_le _, rfl, Lib.hid ⟨World.ownsRow_nil _ _ _ _, Below.refl _ _⟩, rfl⟩
    case round =>
      obtain ⟨j, ls, hj, rfl, HL, HQ⟩ := hrel
      obtain ⟨A, cl, hlv⟩ := own_value HL.out.own
      subst hlv
      have hll : ls.length ≤ 2000 := by have h1 := congrArg List.length HQ.out; rw [bl_len] at h1; have h2 := pickd_len P.data.toList (rs.take j); have h3 : (rs.take j).length ≤ rs.length := by rw [List.length_take]; omega
                                        omega
      have hj0 : (0 : Int) ≤ (j : Int) := by omega
      have hwh : wr.cell? ⟨h, 0, none⟩ = some (.slice (some ⟨gC, 0, none⟩) rs.length cap) := (HL.out.bel.cell (p := ⟨h, 0, none⟩) hhl).trans c0
      by_cases hlt : j < rs.length
      · have hji : (j : Int) < (rs.length : Int) := by omega
        obtain ⟨c, hc⟩ : ∃ c, rs[j]? = some c := ⟨rs[j], List.getElem?_eq_getElem hlt⟩
        obtain ⟨⟨q0, _, q2⟩, _⟩ := HRF.out.at hc
        have HC : Hid (D4 h gC j wr (.slice (some ⟨gC, 0, none⟩) rs.length cap) c.k c.b) := Lib.hid ⟨⟨Nat.lt_of_lt_of_le hhl HL.out.bel.size, Nat.lt_of_lt_of_le hgl HL.out.bel.size⟩, hwh, (HL.out.bel.cell (p := ⟨gC, _, none⟩) hgl).trans q0, (HL.out.bel.cell (p := ⟨gC, _, none⟩) hgl).trans q2⟩
        have hck : c.k.size ≤ 200 := by have := HSY.out.few HFI.out c (List.mem_of_getElem? hc); unfold ky at this; rw [← Lib.size_eq] at this; exact this
        have HCC := Lib.hid hc
        obtain ⟨z0, z1, z2⟩ := HC.out.2
        clear hc q0 q2 hwh HC
        obtain ⟨k, v, b⟩ := c
        simp only [ky] at z1 z2 hck
        cases b
        · have HN : Hid (bl ls = pickd P.data.toList (rs.take (j + 1))) := Lib.hid (by rw [pickd_no HCC.out (by rfl)]; exact HQ.out)
          go_wp2_with fail
          go_roundw
          case rel => exact ⟨j + 1, ls, by omega, by go_num, HL, HN⟩
          case measure => simp [intOf]; omega
        · by_cases hge : P.size ≤ k.size
          · have hgi : (P.size : Int) ≤ (k.size : Int) := by omega
            have hPC := pre_cut hge
            by_cases he : (k.extract 0 P.size).data.toList = P.data.toList
            · have hbe := eq_bool he
              rw [decide_eq_true he] at hPC
              have HY : Hid (pickd P.data.toList (rs.take (j + 1)) = pickd P.data.toList (rs.take j) ++ [k.data.toList]) := Lib.hid (pickd_yes HCC.out (by show (true && P.data.toList.isPrefixOf k.data.toList) = true; rw [hPC]; rfl))
              clear hPC he
              have hws := HL.out.bel.size
              go_wp2_with (
                at_builtin
                go_loud (refine wpList_append_lies _ rfl _ _ _ rfl w.heap.size 9 i0 _ 1 16 Try.underlying37 hi0 hz0 hz1 hz2 rfl (by decide) _ ls.length (sv ls) rfl (HL.out.own.alloc _) _ 1 1 [.string k] rfl rfl (lit_cells_at _ _ _ _ (by simp)) (sv_one [k]) (by decide) (by simp only [maxLen]; omega) (by omega) (by simp; omega) _ rfl ?_)
                intro gg cap2 w6 hown6 hgrow6 hat6 hlt6
                have HO6 := Lib.hid hown6
                have HG6 := Lib.hid hgrow6
                clear hown6 hgrow6 hat6 hlt6)
              go_roundw
              case rel =>
                refine ⟨j + 1, ls ++ [k], by omega, by go_num, Lib.hid ⟨?_, ?_⟩, Lib.hid ?_⟩
                · have := HO6.out
                  rw [List.length_append, List.length_singleton]
                  simpa [sv] using this
                · exact ((HL.out.bel.alloc hws _).grown HG6.out (by simp; omega) fun k e => by have := (HL.out.own.lt k e).1; omega)
                · rw [HY.out, ← HQ.out]; simp [bl]
              case measure => simp [intOf]; omega
            · have hbe := ne_bool he
              have HN : Hid (bl ls = pickd P.data.toList (rs.take (j + 1))) := Lib.hid (by rw [pickd_no HCC.out (by show (true && P.data.toList.isPrefixOf k.data.toList) = false; rw [hPC, decide_eq_false he]; rfl)]; exact HQ.out)
              clear hPC he
              go_wp2_with fail
              go_roundw
              case rel => exact ⟨j + 1, ls, by omega, by go_num, HL, HN⟩
              case measure => simp [intOf]; omega
          · have hgi : ¬ (P.size : Int) ≤ (k.size : Int) := by omega
            have HN : Hid (bl ls = pickd P.data.toList (rs.take (j + 1))) := Lib.hid (by rw [pickd_no HCC.out (by show (true && P.data.toList.isPrefixOf k.data.toList) = false; rw [pre_long hge]; rfl)]; exact HQ.out)
            go_wp2_with fail
            go_roundw
            case rel => exact ⟨j + 1, ls, by omega, by go_num, HL, HN⟩
            case measure => simp [intOf]; omega
      · obtain rfl : j = rs.length := by omega
        have hji : ¬ (rs.length : Int) < (rs.length : Int) := by omega
        rw [List.take_length] at HQ
        rcases HL.out.own.2 with ⟨hv, _⟩ | ⟨g, cp, cur, hv, hg, _⟩
        · injection hv with h1 h2 h3
          obtain rfl : ls = [] := List.length_eq_zero_iff.1 h2
          subst h1 h3
          go_wp2_with fail
          refine (rising_nil _).mono ?_
          rintro e w1 ⟨rfl, hw⟩
          obtain rfl : wr = w1 := hw.symm
          dsimp only
          go_wp2
          go_ret
          exact ⟨⟨[], lists_of HSY.out HFI.out (by rw [← HQ.out]; exact List.Perm.refl _) List.Pairwise.nil, _, [], rfl, World.ownsRow_nil _ _ _ _, rfl⟩, HL.out.bel⟩
        · injection hv with h1 _ h3
          subst h1
          have HRC := Lib.hid (risingr_c w.heap.size g cl ls.length ls wr rfl (by omega) HL.out.own hg (by rw [HQ.out]; exact pickd_small HSY.out HFI.out _) (by rw [HQ.out]; exact pickd_nodup HSY.out _))
          clear h3
          go_wp2_with fail
          refine HRC.out.mono ?_
          rintro e w1 ⟨zs, rfl, h1, h2, h3, h4, h5⟩
          have H1 := Lib.hid h1
          have H2 := Lib.hid h2
          have H3 := Lib.hid h3
          have H4 := Lib.hid h4
          have H5 := Lib.hid h5
          clear h1 h2 h3 h4 h5
          dsimp only
          go_wp2
          go_ret
          exact ⟨⟨bl zs, lists_of HSY.out HFI.out (by rw [← HQ.out]; exact H3.out) H4.out, _, zs, rfl, by rw [H2.out]; exact H1.out, rfl⟩, HL.out.bel.trans H5.out⟩
end Go.Proofs.Ytamkepfhlfeiiaa.Sto
