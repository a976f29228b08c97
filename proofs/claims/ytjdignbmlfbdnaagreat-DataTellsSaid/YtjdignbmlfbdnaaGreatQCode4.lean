/-
  THE LANDED CODE (package data): read, Take. By an AI agent; no person has read it.
-/
import Derived.Test.YtjdignbmlfbdnaaGreatQMem
import Derived.Test.YtjdignbmlfbdnaaGreatQTakeF
namespace Go.Proofs.YtjdignbmlfbdnaaGreat.Dta
open Go.RowKit Wire Term Draw Reg Clo

set_option linter.unusedSimpArgs false
set_option linter.unusedVariables false
def Zb : Value := .agg #[.int .i64 0, .string ⟨#[]⟩, .string ⟨#[]⟩]
theorem zb_is : IsB Zb bzero := ⟨⟨#[]⟩, ⟨#[]⟩, rfl, rfl, rfl⟩
/-- What is read: a row that is a blob's, or none. -/
def ReadOK (l : List Tm) (f : Int) : Prop := f = 0 ∧ l.length = 3 ∧ rowOK l
def Rd (l : List Tm) (f : Int) (e : Ending) : Prop := (ReadOK l f ∧ ∃ v, IsB v (blobOf l) ∧ e = .returned (.tuple #[v, .bool true])) ∨ (¬ ReadOK l f ∧ e = .returned (.tuple #[Zb, .bool false]))
theorem bl_three {ys : List ByteArray} {a b c : Tm} (h : bl ys = [a, b, c]) : ∃ A B C : ByteArray, ys = [A, B, C] ∧ A.data.toList = a ∧ B.data.toList = b ∧ C.data.toList = c := by
  match ys, h with
  | [A, B, C], h =>
    have h1 : A.data.toList = a ∧ [B.data.toList, C.data.toList] = [b, c] := List.cons.inj h
    have h2 : B.data.toList = b ∧ [C.data.toList] = [c] := List.cons.inj h1.2
    exact ⟨A, B, C, rfl, h1.1, h2.1, (List.cons.inj h2.2).1⟩
theorem three_reads {w : World} {A : Option Addr} {a b c : ByteArray} (h : SReads w A [a, b, c]) : ∃ (g off : Nat), A = some ⟨g, off, none⟩ ∧ g < w.heap.size ∧ w.cell? ⟨g, off, none⟩ = some (.string a) ∧ w.cell? ⟨g, off + 1, none⟩ = some (.string b) ∧ w.cell? ⟨g, off + 2, none⟩ = some (.string c) := by
  obtain ⟨g, off, e0, hl, c0⟩ := h 0 (by simp)
  have k : ∀ j (hj : j < 3) (y : ByteArray), [a, b, c].getD j ByteArray.empty = y → w.cell? ⟨g, off + j, none⟩ = some (.string y) := fun j hj y hy => by
    obtain ⟨g2, off2, e2, _, c2⟩ := h j (by simpa using hj)
    rw [e0] at e2
    injection e2 with e2
    injection e2 with e3 e4 _
    subst e3; subst e4
    rw [hy] at c2; exact c2
  exact ⟨g, off, e0, hl, k 0 (by decide) a rfl, k 1 (by decide) b rfl, k 2 (by decide) c rfl⟩
theorem tk_lt {l r : Tm} {n : Nat} {g : Int} (h : tk l = (n, r, g)) : n < 18446744073709551616 := by
  cases ht : take l with
  | none => rw [tk_none ht] at h; rw [← (Prod.mk.inj h).1]; decide
  | some p =>
    obtain ⟨m, q⟩ := p
    rw [tk_some ht] at h
    rw [← (Prod.mk.inj h).1]
    exact (take_some ht).2
theorem bl_len {ys : List ByteArray} {l : List Tm} (h : bl ys = l) : ys.length = l.length := by rw [← h]; simp [bl]
set_option maxHeartbeats 4000000 in
set_option maxRecDepth 1000000 in
theorem read_any' (s : ByteArray) (w : World) (hs : s.size ≤ 1000000) :
    Calls Tryz.prog 31 #[.string s] w fun e w' => Rd (all s.data.toList 3 (s.size : Int)).1 (all s.data.toList 3 (s.size : Int)).2 e ∧ Below w.heap.size w w' := by
  have HT := Lib.hid fun w => takeAllF_any s 3 (s.size : Int) w (by omega) (by decide) (by omega)
  obtain ⟨l, f, hl⟩ : ∃ l f, all s.data.toList 3 (s.size : Int) = (l, f) := ⟨_, _, rfl⟩
  have hmem : ∀ t ∈ l, t.length ≤ 1000000 := fun t ht => by
    by_cases hf : f = 0
    · have h1 : s.data.toList = putAll l := ((all_back hl).1 hf).1
      have h2 := mem_flat ht
      have h3 := Lib.size_eq s
      rw [h1] at h3
      unfold putAll at h3
      rw [List.length_append] at h3
      rw [putText_len] at h2
      omega
    · rw [(all_back hl).2 hf] at ht; cases ht
  rw [hl] at HT ⊢
  simp only
  clear hl
  by_cases hf : f = 0
  · subst hf
    by_cases h3 : l.length = 3
    · obtain ⟨a, b, c, rfl⟩ : ∃ a b c, l = [a, b, c] := by
        match l, h3 with
        | [a, b, c], _ => exact ⟨a, b, c, rfl⟩
      clear h3
      have ha := hmem a (by simp)
      have HTK : Hid (∀ (A : ByteArray) (w : World), A.data.toList = a → Calls Tryz.prog 71 #[.string A] w fun e w' => Tk (tk a) e ∧ Below w.heap.size w w') := fun A w hA => by
        have := take_bel A w (by rw [Lib.size_eq, hA]; omega)
        rw [hA] at this
        exact this
      obtain ⟨n, r, g, ht⟩ : ∃ n r g, tk a = (n, r, g) := ⟨_, _, _, rfl⟩
      have hnlt : n < 18446744073709551616 := tk_lt ht
      have hro : ReadOK [a, b, c] 0 ↔ g = 0 ∧ r = [] ∧ n ≤ 7 := by
        unfold ReadOK rowOK
        rw [show ([a, b, c] : List Tm).getD 0 [] = a from rfl, ht]
        exact ⟨fun h => h.2.2, fun h => ⟨rfl, rfl, h⟩⟩
      have hbo : blobOf [a, b, c] = ⟨(n : Int), b, c⟩ := by
        unfold blobOf
        rw [show ([a, b, c] : List Tm).getD 0 [] = a from rfl, ht]
        rfl
      rw [ht] at HTK
      have HRO := Lib.hid hro
      have HBO := Lib.hid hbo
      clear ht ha hmem hro hbo
      by_cases hg : g = 0
      · subst hg
        by_cases hr : r = []
        · subst hr
          by_cases hn : n ≤ 7
          · have HY := Lib.hid (HRO.out.2 ⟨rfl, rfl, hn⟩)
            have cw : IntKind.i64.wrap (n : Int) = (n : Int) := by rw [IntKind.wrap_i64]; omega
            clear HRO
            go_enter Tryz.func31, Tryz.ntmps31
            go_wp2_with fail
            with_reducible refine (HT.out _).mono ?_
            rintro e w1 ⟨⟨A, cc, ys, hys, hlc, hsr, hfr, rfl⟩, hb1⟩
            have HR1 := Lib.hid (r3_first hb1)
            have HB1 := Lib.hid (bel_box hb1)
            obtain ⟨PA, PB, PC, rfl, hPA, hPB, hPC⟩ := bl_three hys
            obtain ⟨g2, off, rfl, hg1, l0, l1, l2⟩ := three_reads hsr
            have hne : g2 ≠ w.heap.size := by have := hfr g2 off rfl; simp at this; omega
            have HPA := Lib.hid hPA
            have HPB := Lib.hid hPB
            have HPC := Lib.hid hPC
            clear hb1 hys hlc hsr hPA hPB hPC hfr
            dsimp only
            go_wp2_with fail
            with_reducible refine (HTK.out PA _ HPA.out).mono ?_
            rintro e w2 ⟨⟨RR, hRR, rfl⟩, hb2⟩
            dsimp only at hRR ⊢
            have hg2 := Nat.lt_of_lt_of_le hg1 hb2.size
            replace l1 := (hb2.cell (p := ⟨g2, off + 1, none⟩) hg1).trans l1
            replace l2 := (hb2.cell (p := ⟨g2, off + 2, none⟩) hg1).trans l2
            have HB2 := Lib.hid (Bel.call HB1.out hb2)
            have HR2 := Lib.hid (HR1.out.below hb2)
            clear l0 hb2 hg1
            obtain rfl : RR = ⟨#[]⟩ := str_eq hRR
            go_wp2_with fail
            have hd := Below.drewN' (Below.refl w2.heap.size w2) 1
            have hS0 : g2 < w2.drew.heap.size ∧ w2.drew.cell? ⟨g2, off + 1, none⟩ = some (.string PB) ∧ w2.drew.cell? ⟨g2, off + 2, none⟩ = some (.string PC) := ⟨hg2, (hd.cell (p := ⟨g2, off + 1, none⟩) hg2).trans l1, (hd.cell (p := ⟨g2, off + 2, none⟩) hg2).trans l2⟩
            refine wp_region_held_drew (S := fun w' => g2 < w'.heap.size ∧ w'.cell? ⟨g2, off + 1, none⟩ = some (.string PB) ∧ w'.cell? ⟨g2, off + 2, none⟩ = some (.string PC)) (by kernel_rfl) hS0 (fun hHeld => ?_)
            clear hS0
            refine wpAnyH_take (i := 0) (v := ?_) (by rw [List.getElem?_toArray]; rfl) (by kernel_rfl) (by kernel_rfl) (by kernel_rfl) (by exact fun _ _ _ h => h) (Or.inl ⟨by rfl, ?_⟩) (by assumption) ?_
            rotate_left
            · intro w' hSw
              obtain ⟨_, k1, k2⟩ := hSw
              go_simp
              try with_reducible rfl
            try simp only [Act.put, List.setIfInBounds_toArray, List.set_cons_zero, List.set_cons_succ]
            refine wpAnyH_take (i := 1) (v := ?_) (by rw [List.getElem?_toArray]; rfl) (by kernel_rfl) (by kernel_rfl) (by kernel_rfl) (by exact fun _ _ _ h => h) (Or.inl ⟨by rfl, ?_⟩) (by assumption) ?_
            rotate_left
            · intro w' hSw
              obtain ⟨_, k1, k2⟩ := hSw
              go_simp
              try with_reducible rfl
            try simp only [Act.put, List.setIfInBounds_toArray, List.set_cons_zero, List.set_cons_succ]
            refine wpAnyH_take (i := 2) (v := ?_) (by rw [List.getElem?_toArray]; rfl) (by kernel_rfl) (by kernel_rfl) (by kernel_rfl) (by exact fun _ _ _ h => h) (Or.inl ⟨by rfl, ?_⟩) (by assumption) ?_
            rotate_left
            · intro w' hSw
              obtain ⟨_, k1, k2⟩ := hSw
              go_simp
              try with_reducible rfl
            try simp only [Act.put, List.setIfInBounds_toArray, List.set_cons_zero, List.set_cons_succ]
            refine wpAnyH_take (i := 3) (v := ?_) (by rw [List.getElem?_toArray]; rfl) (by kernel_rfl) (by kernel_rfl) (by kernel_rfl) (by exact fun _ _ _ h => h) (Or.inl ⟨by rfl, ?_⟩) (by assumption) ?_
            rotate_left
            · intro w' hSw
              obtain ⟨_, k1, k2⟩ := hSw
              go_simp
              try with_reducible rfl
            try simp only [Act.put, List.setIfInBounds_toArray, List.set_cons_zero, List.set_cons_succ]
            refine wpAnyH_take (i := 4) (v := ?_) (by rw [List.getElem?_toArray]; rfl) (by kernel_rfl) (by kernel_rfl) (by kernel_rfl) (by exact fun _ _ _ h => h) (Or.inl ⟨by rfl, ?_⟩) (by assumption) ?_
            rotate_left
            · intro w' hSw
              obtain ⟨_, k1, k2⟩ := hSw
              go_simp
              try with_reducible rfl
            try simp only [Act.put, List.setIfInBounds_toArray, List.set_cons_zero, List.set_cons_succ]
            refine wpAnyH_take (i := 5) (v := ?_) (by rw [List.getElem?_toArray]; rfl) (by kernel_rfl) (by kernel_rfl) (by kernel_rfl) (by exact fun _ _ _ h => h) (Or.inl ⟨by rfl, ?_⟩) (by assumption) ?_
            rotate_left
            · intro w' hSw
              obtain ⟨_, k1, k2⟩ := hSw
              go_simp
              try with_reducible rfl
            try simp only [Act.put, List.setIfInBounds_toArray, List.set_cons_zero, List.set_cons_succ]
            refine wpAnyH_take (i := 6) (v := ?_) (by rw [List.getElem?_toArray]; rfl) (by kernel_rfl) (by kernel_rfl) (by kernel_rfl) (by exact fun _ _ _ h => h) (Or.inl ⟨by rfl, ?_⟩) (by assumption) ?_
            rotate_left
            · intro w' hSw
              obtain ⟨_, k1, k2⟩ := hSw
              go_simp
              try with_reducible rfl
            try simp only [Act.put, List.setIfInBounds_toArray, List.set_cons_zero, List.set_cons_succ]
            refine wpAnyH_take (i := 7) (v := ?_) (by rw [List.getElem?_toArray]; rfl) (by kernel_rfl) (by kernel_rfl) (by kernel_rfl) (by exact fun _ _ _ h => h) (Or.inl ⟨by rfl, ?_⟩) (by assumption) ?_
            rotate_left
            · intro w' hSw
              obtain ⟨_, k1, k2⟩ := hSw
              go_simp
              try with_reducible rfl
            try simp only [Act.put, List.setIfInBounds_toArray, List.set_cons_zero, List.set_cons_succ]
            refine wpAnyH_take (i := 8) (v := ?_) (by rw [List.getElem?_toArray]; rfl) (by kernel_rfl) (by kernel_rfl) (by kernel_rfl) (by exact fun _ _ _ h => h) (Or.inl ⟨by rfl, ?_⟩) (by assumption) ?_
            rotate_left
            · intro w' hSw
              obtain ⟨_, k1, k2⟩ := hSw
              go_simp
              try with_reducible rfl
            try simp only [Act.put, List.setIfInBounds_toArray, List.set_cons_zero, List.set_cons_succ]
            have HB3 := Lib.hid (Bel.call HB2.out hd)
            have hH0 := hHeld
            clear hHeld hd
            obtain ⟨⟨_, c0, c1, c2⟩, f0, f1, f2⟩ := HR2.out
            refine wpAnyH_ready (rs := [9]) (by kernel_rfl) (by simp) ?_
            refine AllReadyH.cons (by rw [List.getElem?_toArray]; rfl) (fun K hK => ?_) AllReadyH.nil
            go_simp
            refine hK.out _ _ (by exact row_set3 (w := w2) ⟨hg2, l1, l2⟩ hne) (fun hHeld => ?_)
            try simp only [Act.put, List.setIfInBounds_toArray, List.set_cons_zero, List.set_cons_succ]
            refine wpAnyH_take (i := 10) (v := ?_) (by rw [List.getElem?_toArray]; rfl) (by kernel_rfl) (by kernel_rfl) (by kernel_rfl) (by exact fun _ _ _ h => h) (Or.inl ⟨by rfl, ?_⟩) (by assumption) ?_
            rotate_left
            · intro w' hSw
              obtain ⟨_, k1, k2⟩ := hSw
              go_simp
              try with_reducible rfl
            try simp only [Act.put, List.setIfInBounds_toArray, List.set_cons_zero, List.set_cons_succ]
            refine wpAnyH_done (by kernel_rfl) ?_ _
            go_wp2
            refine bodyPost_ret (v := .tuple #[.agg #[.int .i64 (n : Int), .string PB, .string PC], .bool true]) (by simp [results, Tryz.results31, go_sem, c0, c1, c2]) rfl ?_
            exact ⟨.inl ⟨HY.out, _, by rw [HBO.out]; exact ⟨PB, PC, HPB.out, HPC.out, rfl⟩, rfl⟩, bel_set3 HB3.out (Nat.le_refl _)⟩
          · have HNO := Lib.hid (fun h => hn (HRO.out.1 h).2.2)
            have hn2 : (7 : Int) < (n : Int) := by omega
            clear HRO hn
            go_enter Tryz.func31, Tryz.ntmps31
            go_wp2_with fail
            with_reducible refine (HT.out _).mono ?_
            rintro e w1 ⟨⟨A, cc, ys, hys, hlc, hsr, hfr, rfl⟩, hb1⟩
            have HR1 := Lib.hid (r3_first hb1)
            have HB1 := Lib.hid (bel_box hb1)
            obtain ⟨PA, PB, PC, rfl, hPA, hPB, hPC⟩ := bl_three hys
            obtain ⟨g2, off, rfl, hg1, l0, l1, l2⟩ := three_reads hsr
            have hne : g2 ≠ w.heap.size := by have := hfr g2 off rfl; simp at this; omega
            have HPA := Lib.hid hPA
            have HPB := Lib.hid hPB
            have HPC := Lib.hid hPC
            clear hb1 hys hlc hsr hPA hPB hPC hfr
            dsimp only
            go_wp2_with fail
            with_reducible refine (HTK.out PA _ HPA.out).mono ?_
            rintro e w2 ⟨⟨RR, hRR, rfl⟩, hb2⟩
            dsimp only at hRR ⊢
            have hg2 := Nat.lt_of_lt_of_le hg1 hb2.size
            replace l1 := (hb2.cell (p := ⟨g2, off + 1, none⟩) hg1).trans l1
            replace l2 := (hb2.cell (p := ⟨g2, off + 2, none⟩) hg1).trans l2
            have HB2 := Lib.hid (Bel.call HB1.out hb2)
            have HR2 := Lib.hid (HR1.out.below hb2)
            clear l0 hb2 hg1
            obtain rfl : RR = ⟨#[]⟩ := str_eq hRR
            obtain ⟨⟨_, c0, c1, c2⟩, f0, f1, f2⟩ := HR2.out
            go_wp2
            refine bodyPost_ret (v := .tuple #[Zb, .bool false]) (by simp [results, Tryz.results31, go_sem, Zb, c0, c1, c2]) rfl ?_
            exact ⟨.inr ⟨HNO.out, rfl⟩, bel_set3 HB2.out (Nat.le_refl _)⟩
        · have HNO := Lib.hid (fun h => hr (HRO.out.1 h).2.1)
          clear HRO
          go_enter Tryz.func31, Tryz.ntmps31
          go_wp2_with fail
          with_reducible refine (HT.out _).mono ?_
          rintro e w1 ⟨⟨A, cc, ys, hys, hlc, hsr, hfr, rfl⟩, hb1⟩
          have HR1 := Lib.hid (r3_first hb1)
          have HB1 := Lib.hid (bel_box hb1)
          obtain ⟨PA, PB, PC, rfl, hPA, hPB, hPC⟩ := bl_three hys
          obtain ⟨g2, off, rfl, hg1, l0, l1, l2⟩ := three_reads hsr
          have hne : g2 ≠ w.heap.size := by have := hfr g2 off rfl; simp at this; omega
          have HPA := Lib.hid hPA
          have HPB := Lib.hid hPB
          have HPC := Lib.hid hPC
          clear hb1 hys hlc hsr hPA hPB hPC hfr
          dsimp only
          go_wp2_with fail
          with_reducible refine (HTK.out PA _ HPA.out).mono ?_
          rintro e w2 ⟨⟨RR, hRR, rfl⟩, hb2⟩
          dsimp only at hRR ⊢
          have hg2 := Nat.lt_of_lt_of_le hg1 hb2.size
          replace l1 := (hb2.cell (p := ⟨g2, off + 1, none⟩) hg1).trans l1
          replace l2 := (hb2.cell (p := ⟨g2, off + 2, none⟩) hg1).trans l2
          have HB2 := Lib.hid (Bel.call HB1.out hb2)
          have HR2 := Lib.hid (HR1.out.below hb2)
          clear l0 hb2 hg1
          have hre : RR.toList.isEmpty = false := by
            rw [Lib.toList_data, hRR]
            cases r with
            | nil => exact absurd rfl hr
            | cons x y => rfl
          obtain ⟨⟨_, c0, c1, c2⟩, f0, f1, f2⟩ := HR2.out
          go_wp2
          refine bodyPost_ret (v := .tuple #[Zb, .bool false]) (by simp [results, Tryz.results31, go_sem, Zb, c0, c1, c2]) rfl ?_
          exact ⟨.inr ⟨HNO.out, rfl⟩, bel_set3 HB2.out (Nat.le_refl _)⟩
      · have HNO := Lib.hid (fun h => hg (HRO.out.1 h).1)
        have hgb : (g == 0) = false := by simpa using hg
        have hgb2 : (g != 0) = true := by simpa using hg
        clear HRO hg
        go_enter Tryz.func31, Tryz.ntmps31
        go_wp2_with fail
        with_reducible refine (HT.out _).mono ?_
        rintro e w1 ⟨⟨A, cc, ys, hys, hlc, hsr, hfr, rfl⟩, hb1⟩
        have HR1 := Lib.hid (r3_first hb1)
        have HB1 := Lib.hid (bel_box hb1)
        obtain ⟨PA, PB, PC, rfl, hPA, hPB, hPC⟩ := bl_three hys
        obtain ⟨g2, off, rfl, hg1, l0, l1, l2⟩ := three_reads hsr
        have hne : g2 ≠ w.heap.size := by have := hfr g2 off rfl; simp at this; omega
        have HPA := Lib.hid hPA
        have HPB := Lib.hid hPB
        have HPC := Lib.hid hPC
        clear hb1 hys hlc hsr hPA hPB hPC hfr
        dsimp only
        go_wp2_with fail
        with_reducible refine (HTK.out PA _ HPA.out).mono ?_
        rintro e w2 ⟨⟨RR, hRR, rfl⟩, hb2⟩
        dsimp only at hRR ⊢
        have hg2 := Nat.lt_of_lt_of_le hg1 hb2.size
        replace l1 := (hb2.cell (p := ⟨g2, off + 1, none⟩) hg1).trans l1
        replace l2 := (hb2.cell (p := ⟨g2, off + 2, none⟩) hg1).trans l2
        have HB2 := Lib.hid (Bel.call HB1.out hb2)
        have HR2 := Lib.hid (HR1.out.below hb2)
        clear l0 hb2 hg1
        clear hRR
        obtain ⟨⟨_, c0, c1, c2⟩, f0, f1, f2⟩ := HR2.out
        go_wp2
        refine bodyPost_ret (v := .tuple #[Zb, .bool false]) (by simp [results, Tryz.results31, go_sem, Zb, c0, c1, c2]) rfl ?_
        exact ⟨.inr ⟨HNO.out, rfl⟩, bel_set3 HB2.out (Nat.le_refl _)⟩
    · have HNO : Hid (¬ ReadOK l 0) := Lib.hid fun h => h3 h.2.1
      go_enter Tryz.func31, Tryz.ntmps31
      go_wp2_with fail
      with_reducible refine (HT.out _).mono ?_
      rintro e w1 ⟨⟨A, cc, ys, hys, hlc, hsr, hfr, rfl⟩, hb1⟩
      have HR1 := Lib.hid (r3_first hb1)
      have HB1 := Lib.hid (bel_box hb1)
      have h3' : ¬ ys.length = 3 := by rw [bl_len hys]; exact h3
      have h3b : ((ys.length : Int) == 3) = false := by rw [beq_eq_false_iff_ne]; omega
      have h3c : ((ys.length : Int) != 3) = true := by simp [bne, h3b]
      clear hb1 hys hlc hsr hfr h3 hmem
      dsimp only
      obtain ⟨⟨_, c0, c1, c2⟩, f0, f1, f2⟩ := HR1.out
      go_wp2
      refine bodyPost_ret (v := .tuple #[Zb, .bool false]) (by simp [results, Tryz.results31, go_sem, Zb, c0, c1, c2]) rfl ?_
      exact ⟨.inr ⟨HNO.out, rfl⟩, bel_set3 HB1.out (Nat.le_refl _)⟩
  · have HNO : Hid (¬ ReadOK l f) := Lib.hid fun h => hf h.1
    have hfb : (f == 0) = false := by simpa using hf
    have hfb2 : (f != 0) = true := by simpa using hf
    clear hf hmem
    go_enter Tryz.func31, Tryz.ntmps31
    go_wp2_with fail
    with_reducible refine (HT.out _).mono ?_
    rintro e w1 ⟨⟨A, cc, ys, hys, hlc, hsr, hfr, rfl⟩, hb1⟩
    have HR1 := Lib.hid (r3_first hb1)
    have HB1 := Lib.hid (bel_box hb1)
    clear hb1 hys hlc hsr hfr
    dsimp only
    obtain ⟨⟨_, c0, c1, c2⟩, f0, f1, f2⟩ := HR1.out
    go_wp2
    refine bodyPost_ret (v := .tuple #[Zb, .bool false]) (by simp [results, Tryz.results31, go_sem, Zb, c0, c1, c2]) rfl ?_
    exact ⟨.inr ⟨HNO.out, rfl⟩, bel_set3 HB1.out (Nat.le_refl _)⟩
set_option maxHeartbeats 4000000 in
set_option maxRecDepth 1000000 in
theorem ctake_any (s : ByteArray) (w : World) (hs : s.size ≤ 1000000) :
    Calls Tryz.prog 9 #[.string s] w fun e w' => (∃ v, IsB v (takeB s.data.toList).1 ∧ e = .returned (.tuple #[v, .int .i64 (takeB s.data.toList).2])) ∧ Below w.heap.size w w' := by
  have HT := Lib.hid fun w => read_any' s w hs
  have hts : takeM (s.size : Int) s.data.toList = takeB s.data.toList := by
    rw [Lib.size_eq]
    exact take_same _ (by rw [← Lib.size_eq]; omega)
  rw [← hts]
  have hlen : ∀ t ∈ (all s.data.toList 3 (s.size : Int)).1, t.length ≤ 1000000 := fun t ht => by
    by_cases hf : (all s.data.toList 3 (s.size : Int)).2 = 0
    · have h1 : s.data.toList = putAll (all s.data.toList 3 (s.size : Int)).1 := ((all_back (x := (all s.data.toList 3 (s.size : Int)).1) (e := (all s.data.toList 3 (s.size : Int)).2) rfl).1 hf).1
      have h2 := mem_flat ht
      have h3 := Lib.size_eq s
      rw [putText_len] at h2
      have h4 := congrArg List.length h1
      unfold putAll at h4
      rw [List.length_append] at h4
      omega
    · rw [(all_back (x := (all s.data.toList 3 (s.size : Int)).1) (e := (all s.data.toList 3 (s.size : Int)).2) rfl).2 hf] at ht; cases ht
  generalize hx : takeM (s.size : Int) s.data.toList = x
  unfold takeM at hx
  obtain ⟨l, f, hl⟩ : ∃ l f, all s.data.toList 3 (s.size : Int) = (l, f) := ⟨_, _, rfl⟩
  rw [hl] at HT hx hlen
  simp only at HT hx hlen
  clear hl hts
  by_cases hr : ReadOK l f
  · obtain ⟨h1, h2, h3⟩ := hr
    subst h1
    rw [if_neg (by rintro (h | h); exact h rfl; exact h h2)] at hx
    have HT2 : Hid (∀ w, Calls Tryz.prog 31 #[.string s] w fun e w' => (∃ v, IsB v (blobOf l) ∧ e = .returned (.tuple #[v, .bool true])) ∧ Below w.heap.size w w') := fun w => (HT.out w).mono fun e w' h => by
      obtain ⟨⟨_, h5⟩ | ⟨h5, _⟩, h6⟩ := h
      · exact ⟨h5, h6⟩
      · exact absurd ⟨rfl, h2, h3⟩ h5
    have hl1 : (blobOf l).sl.length ≤ 1000000 ∧ (blobOf l).sg.length ≤ 1000000 := by
      obtain ⟨a, b, c, rfl⟩ : ∃ a b c, l = [a, b, c] := by
        match l, h2 with
        | [a, b, c], _ => exact ⟨a, b, c, rfl⟩
      exact ⟨hlen b (by simp), hlen c (by simp)⟩
    clear HT
    generalize blobOf l = bb at HT2 hx hl1
    by_cases hb : BR bb
    · rw [if_neg (fun h => h ⟨h3, hb⟩)] at hx
      have HR := Lib.hid fun v (h : IsB v bb) w => right_is h (by omega) (by omega) w
      rw [decide_eq_true hb] at HR
      have HX := Lib.hid hx
      clear hx h2 h3 hlen hl1 hb
      go_enter Tryz.func9, Tryz.ntmps9
      go_wp2_with fail
      with_reducible refine (HT2.out _).mono ?_
      rintro e w1 ⟨⟨v, hv, rfl⟩, hb1⟩
      have HV := Lib.hid hv
      obtain ⟨S, G, hS, hG, rfl⟩ := hv
      have HR1 := Lib.hid (r3_first hb1)
      have HB1 := Lib.hid (bel_box hb1)
      clear hb1 hS hG
      dsimp only
      go_wp2_with fail
      have hbS : Below w1.heap.size w1 (w1.alloc (.cells #[.int .i64 bb.ep, .string S, .string G] 23)) := (Below.refl w1.heap.size w1).alloc (Nat.le_refl _) _
      have hxS := r3_new w1 bb.ep S G 23
      generalize w1.alloc (.cells #[.int .i64 bb.ep, .string S, .string G] 23) = wS at hbS hxS ⊢
      have HBS := Lib.hid (Bel.call HB1.out hbS)
      have HRS := Lib.hid (HR1.out.below hbS)
      have HXS := Lib.hid hxS
      clear hbS hxS
      with_reducible refine (HR.out _ HV.out _).mono ?_
      rintro e w2 ⟨rfl, hb2⟩
      have HB2 := Lib.hid (Bel.call HBS.out hb2)
      obtain ⟨⟨_, r0, r1, r2⟩, f0, f1, f2⟩ := HRS.out.below hb2
      obtain ⟨⟨_, b0, b1, b2⟩, _⟩ := HXS.out.below hb2
      clear hb2
      dsimp only
      go_wp2
      refine bodyPost_ret (v := .tuple #[.agg #[.int .i64 bb.ep, .string S, .string G], .int .i64 0]) (by simp [results, Tryz.results9, go_sem, Zb, r0, r1, r2]) rfl ?_
      exact ⟨⟨_, by rw [← HX.out]; exact HV.out, by rw [← HX.out]⟩, bel_set3 HB2.out (Nat.le_refl _)⟩
    · rw [if_pos (fun h => hb h.2)] at hx
      have HR := Lib.hid fun v (h : IsB v bb) w => right_is h (by omega) (by omega) w
      rw [decide_eq_false hb] at HR
      have HX := Lib.hid hx
      clear hx h2 h3 hlen hl1 hb
      go_enter Tryz.func9, Tryz.ntmps9
      go_wp2_with fail
      with_reducible refine (HT2.out _).mono ?_
      rintro e w1 ⟨⟨v, hv, rfl⟩, hb1⟩
      have HV := Lib.hid hv
      obtain ⟨S, G, hS, hG, rfl⟩ := hv
      have HR1 := Lib.hid (r3_first hb1)
      have HB1 := Lib.hid (bel_box hb1)
      clear hb1 hS hG
      dsimp only
      go_wp2_with fail
      have hbS : Below w1.heap.size w1 (w1.alloc (.cells #[.int .i64 bb.ep, .string S, .string G] 23)) := (Below.refl w1.heap.size w1).alloc (Nat.le_refl _) _
      have hxS := r3_new w1 bb.ep S G 23
      generalize w1.alloc (.cells #[.int .i64 bb.ep, .string S, .string G] 23) = wS at hbS hxS ⊢
      have HBS := Lib.hid (Bel.call HB1.out hbS)
      have HRS := Lib.hid (HR1.out.below hbS)
      have HXS := Lib.hid hxS
      clear hbS hxS
      with_reducible refine (HR.out _ HV.out _).mono ?_
      rintro e w2 ⟨rfl, hb2⟩
      have HB2 := Lib.hid (Bel.call HBS.out hb2)
      obtain ⟨⟨_, r0, r1, r2⟩, f0, f1, f2⟩ := HRS.out.below hb2
      obtain ⟨⟨_, b0, b1, b2⟩, _⟩ := HXS.out.below hb2
      clear hb2
      dsimp only
      go_wp2
      refine bodyPost_ret (v := .tuple #[Zb, .int .i64 2]) (by simp [results, Tryz.results9, go_sem, Zb, r0, r1, r2]) rfl ?_
      exact ⟨⟨_, by rw [← HX.out]; exact zb_is, by rw [← HX.out]⟩, bel_set3 HB2.out (Nat.le_refl _)⟩
  · have HX : Hid ((bzero, 2) = x) := Lib.hid (by
      by_cases h1 : f ≠ 0 ∨ l.length ≠ 3
      · rw [if_pos h1] at hx; exact hx
      · rw [if_neg h1] at hx
        rw [if_pos (fun h => hr ⟨Decidable.not_not.1 fun h2 => h1 (.inl h2), Decidable.not_not.1 fun h2 => h1 (.inr h2), h.1⟩)] at hx
        exact hx)
    have HT2 : Hid (∀ w, Calls Tryz.prog 31 #[.string s] w fun e w' => e = .returned (.tuple #[Zb, .bool false]) ∧ Below w.heap.size w w') := fun w => (HT.out w).mono fun e w' h => by
      obtain ⟨⟨h5, _⟩ | ⟨_, h5⟩, h6⟩ := h
      · exact absurd h5 hr
      · exact ⟨h5, h6⟩
    clear hr hx hlen HT
    go_enter Tryz.func9, Tryz.ntmps9
    go_wp2_with fail
    with_reducible refine (HT2.out _).mono ?_
    rintro e w1 ⟨rfl, hb1⟩
    have HR1 := Lib.hid (r3_first hb1)
    have HB1 := Lib.hid (bel_box hb1)
    clear hb1
    dsimp only [Zb]
    have hbS : Below w1.heap.size w1 (w1.alloc (.cells #[.int .i64 0, .string ⟨#[]⟩, .string ⟨#[]⟩] 23)) := (Below.refl w1.heap.size w1).alloc (Nat.le_refl _) _
    obtain ⟨⟨_, r0, r1, r2⟩, f0, f1, f2⟩ := HR1.out.below hbS
    have HBS := Lib.hid (Bel.call HB1.out hbS)
    clear hbS
    go_wp2
    refine bodyPost_ret (v := .tuple #[Zb, .int .i64 2]) (by simp [results, Tryz.results9, go_sem, Zb, r0, r1, r2]) rfl ?_
    exact ⟨⟨_, by rw [← HX.out]; exact zb_is, by rw [← HX.out]⟩, bel_set3 HBS.out (Nat.le_refl _)⟩
end Go.Proofs.YtjdignbmlfbdnaaGreat.Dta
