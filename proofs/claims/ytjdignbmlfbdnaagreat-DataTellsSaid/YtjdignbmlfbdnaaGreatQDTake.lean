/-
  THE DOCUMENT's ANSWER (letterlockref9): Take. By an AI agent; no person has read it.
-/
import Derived.Test.YtjdignbmlfbdnaaGreatQDRight
import Derived.Test.YtjdignbmlfbdnaaGreatQCode4
import Derived.Test.YtjdignbmlfbdnaaGreatZ6
namespace Go.Proofs.YtjdignbmlfbdnaaGreat.Dta
open Go.RowKit Wire Term Draw Reg Clo

set_option linter.unusedSimpArgs false
set_option linter.unusedVariables false
set_option maxHeartbeats 4000000 in
set_option maxRecDepth 1000000 in
theorem rtake_any (s : ByteArray) (w : World) (hs : s.size ≤ 1000000) :
    Calls Tryz.prog 10 #[.string s] w fun e w' => (∃ v, IsB v (takeB s.data.toList).1 ∧ e = .returned (.tuple #[v, .int .i64 (takeB s.data.toList).2])) ∧ Below w.heap.size w w' := by
  have HT := Lib.hid fun w => refAll_any s 3 4000 w (by omega) (by decide) (by decide)
  have hlen : ∀ t ∈ (all s.data.toList 3 4000).1, t.length ≤ 1000000 := fun t ht => by
    by_cases hf : (all s.data.toList 3 4000).2 = 0
    · have h1 : s.data.toList = putAll (all s.data.toList 3 4000).1 := ((all_back (x := (all s.data.toList 3 4000).1) (e := (all s.data.toList 3 4000).2) rfl).1 hf).1
      have h2 := mem_flat ht
      have h3 := Lib.size_eq s
      rw [putText_len] at h2
      have h4 := congrArg List.length h1
      unfold putAll at h4
      rw [List.length_append] at h4
      omega
    · rw [(all_back (x := (all s.data.toList 3 4000).1) (e := (all s.data.toList 3 4000).2) rfl).2 hf] at ht; cases ht
  generalize hx : takeB s.data.toList = x
  unfold takeB takeM at hx
  obtain ⟨l, f, hl⟩ : ∃ l f, all s.data.toList 3 4000 = (l, f) := ⟨_, _, rfl⟩
  rw [hl] at HT hx hlen
  simp only at HT hx hlen
  clear hl
  by_cases hf : f = 0
  · subst hf
    by_cases h3 : l.length = 3
    · obtain ⟨a, b, c, rfl⟩ : ∃ a b c, l = [a, b, c] := by
        match l, h3 with
        | [a, b, c], _ => exact ⟨a, b, c, rfl⟩
      clear h3
      rw [if_neg (by rintro (h | h); exact h rfl; exact h rfl)] at hx
      have ha := hlen a (by simp)
      have hbL := hlen b (by simp)
      have hcL := hlen c (by simp)
      have HTK : Hid (∀ (A : ByteArray) (w : World), A.data.toList = a → Calls Tryz.prog 33 #[.string A] w fun e w' => Tk (tk a) e ∧ Below w.heap.size w w') := fun A w hA => by
        have := refTake_any A w (by rw [Lib.size_eq, hA]; omega)
        rw [hA] at this
        exact this
      obtain ⟨n, r, g, ht⟩ : ∃ n r g, tk a = (n, r, g) := ⟨_, _, _, rfl⟩
      have hnlt : n < 18446744073709551616 := tk_lt ht
      have hro : rowOK [a, b, c] ↔ g = 0 ∧ r = [] ∧ n ≤ 7 := by
        unfold rowOK
        rw [show ([a, b, c] : List Tm).getD 0 [] = a from rfl, ht]
      have hbo : blobOf [a, b, c] = ⟨(n : Int), b, c⟩ := by
        unfold blobOf
        rw [show ([a, b, c] : List Tm).getD 0 [] = a from rfl, ht]
        rfl
      rw [ht] at HTK
      rw [hbo] at hx
      clear ht ha hlen hbo
      by_cases hg : g = 0
      · subst hg
        by_cases hr : r = []
        · subst hr
          by_cases hn : n ≤ 7
          · have cw : IntKind.i64.wrap (n : Int) = (n : Int) := by rw [IntKind.wrap_i64]; omega
            have hrow := hro.2 ⟨rfl, rfl, hn⟩
            have HR := Lib.hid fun v (h : IsB v ⟨(n : Int), b, c⟩) w => rright_is h (by show b.length ≤ _; omega) (by show c.length ≤ _; omega) w
            by_cases hB : BR ⟨(n : Int), b, c⟩
            · rw [if_neg (fun h => h ⟨hrow, hB⟩)] at hx
              rw [decide_eq_true hB] at HR
              have HX := Lib.hid hx
              clear hx hrow hro hbL hcL hB
              go_enter Tryz.func10, Tryz.ntmps10
              go_wp2_with fail
              with_reducible refine (HT.out _).mono ?_
              rintro e w1 ⟨⟨A, cc, ys, hys, hlc, hsr, rfl⟩, hb1⟩
              have HR1 := Lib.hid (r3_first hb1)
              have HB1 := Lib.hid (bel_box hb1)
              obtain ⟨PA, PB, PC, rfl, hPA, hPB, hPC⟩ := bl_three hys
              obtain ⟨g2, off, rfl, hg1, l0, l1, l2⟩ := three_reads hsr
              have HPA := Lib.hid hPA
              have HPB := Lib.hid hPB
              have HPC := Lib.hid hPC
              clear hb1 hys hlc hsr hPA hPB hPC
              dsimp only
              go_wp2_with fail
              with_reducible refine (HTK.out PA _ HPA.out).mono ?_
              rintro e w2 ⟨⟨RR, hRR, rfl⟩, hb2⟩
              dsimp only at hRR ⊢
              have hg2 := Nat.lt_of_lt_of_le hg1 hb2.size
              replace l1 := (hb2.cell (p := ⟨g2, off + 1, none⟩) hg1).trans l1
              replace l2 := (hb2.cell (p := ⟨g2, off + 2, none⟩) hg1).trans l2
              have HB2 := Lib.hid (Bel.call HB1.out hb2)
              have HR2 := Lib.hid (HR1.out.below hb2)
              clear l0 hb2 hg1
              obtain rfl : RR = ⟨#[]⟩ := str_eq hRR
              go_wp2_with fail
              have hd : Below w2.heap.size w2 w2.drew := Below.drewN' (Below.refl w2.heap.size w2) 1
              have hS0 : g2 < w2.drew.heap.size ∧ w2.drew.cell? ⟨g2, off + 1, none⟩ = some (.string PB) ∧ w2.drew.cell? ⟨g2, off + 2, none⟩ = some (.string PC) := ⟨hg2, (hd.cell (p := ⟨g2, off + 1, none⟩) hg2).trans l1, (hd.cell (p := ⟨g2, off + 2, none⟩) hg2).trans l2⟩
              refine wp_region_held_drew (S := fun w' => g2 < w'.heap.size ∧ w'.cell? ⟨g2, off + 1, none⟩ = some (.string PB) ∧ w'.cell? ⟨g2, off + 2, none⟩ = some (.string PC)) (by kernel_rfl) hS0 (fun hHeld => ?_)
              refine wpAnyH_take (i := 0) (v := ?_) (by rw [List.getElem?_toArray]; rfl) (by kernel_rfl) (by kernel_rfl) (by kernel_rfl) (by exact fun _ _ _ h => h) (Or.inl ⟨by rfl, ?_⟩) (by assumption) ?_
              rotate_left
              · intro w' hSw
                obtain ⟨_, k1, k2⟩ := hSw
                go_simp
                try with_reducible rfl
              try simp only [Act.put, List.setIfInBounds_toArray, List.set_cons_zero, List.set_cons_succ]
              refine wpAnyH_take (i := 1) (v := ?_) (by rw [List.getElem?_toArray]; rfl) (by kernel_rfl) (by kernel_rfl) (by kernel_rfl) (by exact fun _ _ _ h => h) (Or.inl ⟨by rfl, ?_⟩) (by assumption) ?_
              rotate_left
              · intro w' hSw
                obtain ⟨_, k1, k2⟩ := hSw
                go_simp
                try with_reducible rfl
              try simp only [Act.put, List.setIfInBounds_toArray, List.set_cons_zero, List.set_cons_succ]
              refine wpAnyH_take (i := 2) (v := ?_) (by rw [List.getElem?_toArray]; rfl) (by kernel_rfl) (by kernel_rfl) (by kernel_rfl) (by exact fun _ _ _ h => h) (Or.inl ⟨by rfl, ?_⟩) (by assumption) ?_
              rotate_left
              · intro w' hSw
                obtain ⟨_, k1, k2⟩ := hSw
                go_simp
                try with_reducible rfl
              try simp only [Act.put, List.setIfInBounds_toArray, List.set_cons_zero, List.set_cons_succ]
              refine wpAnyH_take (i := 3) (v := ?_) (by rw [List.getElem?_toArray]; rfl) (by kernel_rfl) (by kernel_rfl) (by kernel_rfl) (by exact fun _ _ _ h => h) (Or.inl ⟨by rfl, ?_⟩) (by assumption) ?_
              rotate_left
              · intro w' hSw
                obtain ⟨_, k1, k2⟩ := hSw
                go_simp
                try with_reducible rfl
              try simp only [Act.put, List.setIfInBounds_toArray, List.set_cons_zero, List.set_cons_succ]
              refine wpAnyH_take (i := 4) (v := ?_) (by rw [List.getElem?_toArray]; rfl) (by kernel_rfl) (by kernel_rfl) (by kernel_rfl) (by exact fun _ _ _ h => h) (Or.inl ⟨by rfl, ?_⟩) (by assumption) ?_
              rotate_left
              · intro w' hSw
                obtain ⟨_, k1, k2⟩ := hSw
                go_simp
                try with_reducible rfl
              try simp only [Act.put, List.setIfInBounds_toArray, List.set_cons_zero, List.set_cons_succ]
              refine wpAnyH_take (i := 5) (v := ?_) (by rw [List.getElem?_toArray]; rfl) (by kernel_rfl) (by kernel_rfl) (by kernel_rfl) (by exact fun _ _ _ h => h) (Or.inl ⟨by rfl, ?_⟩) (by assumption) ?_
              rotate_left
              · intro w' hSw
                obtain ⟨_, k1, k2⟩ := hSw
                go_simp
                try with_reducible rfl
              try simp only [Act.put, List.setIfInBounds_toArray, List.set_cons_zero, List.set_cons_succ]
              refine wpAnyH_take (i := 6) (v := ?_) (by rw [List.getElem?_toArray]; rfl) (by kernel_rfl) (by kernel_rfl) (by kernel_rfl) (by exact fun _ _ _ h => h) (Or.inl ⟨by rfl, ?_⟩) (by assumption) ?_
              rotate_left
              · intro w' hSw
                obtain ⟨_, k1, k2⟩ := hSw
                go_simp
                try with_reducible rfl
              try simp only [Act.put, List.setIfInBounds_toArray, List.set_cons_zero, List.set_cons_succ]
              refine wpAnyH_take (i := 7) (v := ?_) (by rw [List.getElem?_toArray]; rfl) (by kernel_rfl) (by kernel_rfl) (by kernel_rfl) (by exact fun _ _ _ h => h) (Or.inl ⟨by rfl, ?_⟩) (by assumption) ?_
              rotate_left
              · intro w' hSw
                obtain ⟨_, k1, k2⟩ := hSw
                go_simp
                try with_reducible rfl
              try simp only [Act.put, List.setIfInBounds_toArray, List.set_cons_zero, List.set_cons_succ]
              refine wpAnyH_take (i := 8) (v := ?_) (by rw [List.getElem?_toArray]; rfl) (by kernel_rfl) (by kernel_rfl) (by kernel_rfl) (by exact fun _ _ _ h => h) (Or.inl ⟨by rfl, ?_⟩) (by assumption) ?_
              rotate_left
              · intro w' hSw
                obtain ⟨_, k1, k2⟩ := hSw
                go_simp
                try with_reducible rfl
              try simp only [Act.put, List.setIfInBounds_toArray, List.set_cons_zero, List.set_cons_succ]
              clear hHeld
              have HB3 := Lib.hid (Bel.call HB2.out hd)
              have HR3 := Lib.hid (HR2.out.below hd)
              generalize w2.drew = wd at hS0 hd HB3 HR3 ⊢
              clear hd HB2 HR2 l1 l2 hg2
              have hbA : Below wd.heap.size wd (wd.alloc (.cells #[.int .i64 0, .string ⟨#[]⟩, .string ⟨#[]⟩] 26)) := (Below.refl wd.heap.size wd).alloc (Nat.le_refl _) _
              have hxA := r3_new wd 0 ⟨#[]⟩ ⟨#[]⟩ 26
              have hgA := Nat.lt_of_lt_of_le hS0.1 hbA.size
              have hS1 : g2 < (wd.alloc (.cells #[.int .i64 0, .string ⟨#[]⟩, .string ⟨#[]⟩] 26)).heap.size ∧ (wd.alloc (.cells #[.int .i64 0, .string ⟨#[]⟩, .string ⟨#[]⟩] 26)).cell? ⟨g2, off + 1, none⟩ = some (.string PB) ∧ (wd.alloc (.cells #[.int .i64 0, .string ⟨#[]⟩, .string ⟨#[]⟩] 26)).cell? ⟨g2, off + 2, none⟩ = some (.string PC) := ⟨hgA, (hbA.cell (p := ⟨g2, off + 1, none⟩) hS0.1).trans hS0.2.1, (hbA.cell (p := ⟨g2, off + 2, none⟩) hS0.1).trans hS0.2.2⟩
              have HB4 := Lib.hid (Bel.call HB3.out hbA)
              have HR4 := Lib.hid (HR3.out.below hbA)
              have hne : g2 ≠ wd.heap.size := Nat.ne_of_lt hS0.1
              have hne2 : w.heap.size ≠ wd.heap.size := Nat.ne_of_lt HR3.out.1.1
              have hge : w.heap.size ≤ wd.heap.size := Nat.le_of_lt HR3.out.1.1
              refine wpAnyH_ready (rs := [9]) (by kernel_rfl) (by simp) ?_
              refine AllReadyH.cons (by rw [List.getElem?_toArray]; rfl) (fun K hK => ?_) AllReadyH.nil
              go_simp
              refine hK.out _ _ (by exact hS1) (fun hHeld => ?_)
              try simp only [Act.put, List.setIfInBounds_toArray, List.set_cons_zero, List.set_cons_succ]
              clear hHeld
              generalize wd.alloc (.cells #[.int .i64 0, .string ⟨#[]⟩, .string ⟨#[]⟩] 26) = wb at hbA hxA hS1 HB4 HR4 ⊢
              have HXA := Lib.hid hxA
              obtain ⟨⟨p0, b0, b1, b2⟩, u0, u1, u2⟩ := hxA
              clear hbA hgA hS0 HB3 HR3
              refine wpAnyH_ready (rs := [10]) (by kernel_rfl) (by simp) ?_
              refine AllReadyH.cons (by rw [List.getElem?_toArray]; rfl) (fun K hK => ?_) AllReadyH.nil
              go_simp
              refine hK.out _ _ (by exact row_set3 (w := wb) hS1 hne) (fun hHeld => ?_)
              try simp only [Act.put, List.setIfInBounds_toArray, List.set_cons_zero, List.set_cons_succ]
              clear hHeld
              refine wpAnyH_done (by kernel_rfl) ?_ _
              rw [set3_eq]
              have HX3 := Lib.hid (r3_set (ep := (n : Int)) (S := PB) (G := PC) HXA.out)
              have HR5 := Lib.hid (r3_other (x := .int .i64 (n : Int)) (y := .string PB) (z := .string PC) HR4.out hne2)
              have HB5 := Lib.hid (bel_set3 (a := .int .i64 (n : Int)) (b := .string PB) (c := .string PC) HB4.out hge)
              generalize set3 wb wd.heap.size (.int .i64 (n : Int)) (.string PB) (.string PC) = wc at HX3 HR5 HB5 ⊢
              clear b0 b1 b2 u0 u1 u2 hS1 HB4 HR4 HXA p0
              obtain ⟨⟨_, e0, e1, e2⟩, _⟩ := HX3.out
              have HIS : Hid (IsB (.agg #[.int .i64 (n : Int), .string PB, .string PC]) ⟨(n : Int), b, c⟩) := Lib.hid ⟨PB, PC, HPB.out, HPC.out, rfl⟩
              go_wp2_with fail
              with_reducible refine (HR.out _ HIS.out _).mono ?_
              rintro e w6 ⟨rfl, hb6⟩
              have HB6 := Lib.hid (Bel.call HB5.out hb6)
              clear e0 e1 e2
              obtain ⟨⟨_, e0, e1, e2⟩, _⟩ := HX3.out.below hb6
              obtain ⟨⟨_, c0, c1, c2⟩, f0, f1, f2⟩ := HR5.out.below hb6
              clear hb6
              dsimp only
              go_wp2
              refine bodyPost_ret (v := .tuple #[.agg #[.int .i64 (n : Int), .string PB, .string PC], .int .i64 0]) (by simp [results, Tryz.results10, go_sem, Zb, c0, c1, c2]) rfl ?_
              exact ⟨⟨_, by rw [← HX.out]; exact ⟨PB, PC, HPB.out, HPC.out, rfl⟩, by rw [← HX.out]⟩, bel_set3 HB6.out (Nat.le_refl _)⟩
            · rw [if_pos (fun h => hB h.2)] at hx
              rw [decide_eq_false hB] at HR
              have HX := Lib.hid hx
              clear hx hrow hro hbL hcL hB
              go_enter Tryz.func10, Tryz.ntmps10
              go_wp2_with fail
              with_reducible refine (HT.out _).mono ?_
              rintro e w1 ⟨⟨A, cc, ys, hys, hlc, hsr, rfl⟩, hb1⟩
              have HR1 := Lib.hid (r3_first hb1)
              have HB1 := Lib.hid (bel_box hb1)
              obtain ⟨PA, PB, PC, rfl, hPA, hPB, hPC⟩ := bl_three hys
              obtain ⟨g2, off, rfl, hg1, l0, l1, l2⟩ := three_reads hsr
              have HPA := Lib.hid hPA
              have HPB := Lib.hid hPB
              have HPC := Lib.hid hPC
              clear hb1 hys hlc hsr hPA hPB hPC
              dsimp only
              go_wp2_with fail
              with_reducible refine (HTK.out PA _ HPA.out).mono ?_
              rintro e w2 ⟨⟨RR, hRR, rfl⟩, hb2⟩
              dsimp only at hRR ⊢
              have hg2 := Nat.lt_of_lt_of_le hg1 hb2.size
              replace l1 := (hb2.cell (p := ⟨g2, off + 1, none⟩) hg1).trans l1
              replace l2 := (hb2.cell (p := ⟨g2, off + 2, none⟩) hg1).trans l2
              have HB2 := Lib.hid (Bel.call HB1.out hb2)
              have HR2 := Lib.hid (HR1.out.below hb2)
              clear l0 hb2 hg1
              obtain rfl : RR = ⟨#[]⟩ := str_eq hRR
              go_wp2_with fail
              have hd : Below w2.heap.size w2 w2.drew := Below.drewN' (Below.refl w2.heap.size w2) 1
              have hS0 : g2 < w2.drew.heap.size ∧ w2.drew.cell? ⟨g2, off + 1, none⟩ = some (.string PB) ∧ w2.drew.cell? ⟨g2, off + 2, none⟩ = some (.string PC) := ⟨hg2, (hd.cell (p := ⟨g2, off + 1, none⟩) hg2).trans l1, (hd.cell (p := ⟨g2, off + 2, none⟩) hg2).trans l2⟩
              refine wp_region_held_drew (S := fun w' => g2 < w'.heap.size ∧ w'.cell? ⟨g2, off + 1, none⟩ = some (.string PB) ∧ w'.cell? ⟨g2, off + 2, none⟩ = some (.string PC)) (by kernel_rfl) hS0 (fun hHeld => ?_)
              refine wpAnyH_take (i := 0) (v := ?_) (by rw [List.getElem?_toArray]; rfl) (by kernel_rfl) (by kernel_rfl) (by kernel_rfl) (by exact fun _ _ _ h => h) (Or.inl ⟨by rfl, ?_⟩) (by assumption) ?_
              rotate_left
              · intro w' hSw
                obtain ⟨_, k1, k2⟩ := hSw
                go_simp
                try with_reducible rfl
              try simp only [Act.put, List.setIfInBounds_toArray, List.set_cons_zero, List.set_cons_succ]
              refine wpAnyH_take (i := 1) (v := ?_) (by rw [List.getElem?_toArray]; rfl) (by kernel_rfl) (by kernel_rfl) (by kernel_rfl) (by exact fun _ _ _ h => h) (Or.inl ⟨by rfl, ?_⟩) (by assumption) ?_
              rotate_left
              · intro w' hSw
                obtain ⟨_, k1, k2⟩ := hSw
                go_simp
                try with_reducible rfl
              try simp only [Act.put, List.setIfInBounds_toArray, List.set_cons_zero, List.set_cons_succ]
              refine wpAnyH_take (i := 2) (v := ?_) (by rw [List.getElem?_toArray]; rfl) (by kernel_rfl) (by kernel_rfl) (by kernel_rfl) (by exact fun _ _ _ h => h) (Or.inl ⟨by rfl, ?_⟩) (by assumption) ?_
              rotate_left
              · intro w' hSw
                obtain ⟨_, k1, k2⟩ := hSw
                go_simp
                try with_reducible rfl
              try simp only [Act.put, List.setIfInBounds_toArray, List.set_cons_zero, List.set_cons_succ]
              refine wpAnyH_take (i := 3) (v := ?_) (by rw [List.getElem?_toArray]; rfl) (by kernel_rfl) (by kernel_rfl) (by kernel_rfl) (by exact fun _ _ _ h => h) (Or.inl ⟨by rfl, ?_⟩) (by assumption) ?_
              rotate_left
              · intro w' hSw
                obtain ⟨_, k1, k2⟩ := hSw
                go_simp
                try with_reducible rfl
              try simp only [Act.put, List.setIfInBounds_toArray, List.set_cons_zero, List.set_cons_succ]
              refine wpAnyH_take (i := 4) (v := ?_) (by rw [List.getElem?_toArray]; rfl) (by kernel_rfl) (by kernel_rfl) (by kernel_rfl) (by exact fun _ _ _ h => h) (Or.inl ⟨by rfl, ?_⟩) (by assumption) ?_
              rotate_left
              · intro w' hSw
                obtain ⟨_, k1, k2⟩ := hSw
                go_simp
                try with_reducible rfl
              try simp only [Act.put, List.setIfInBounds_toArray, List.set_cons_zero, List.set_cons_succ]
              refine wpAnyH_take (i := 5) (v := ?_) (by rw [List.getElem?_toArray]; rfl) (by kernel_rfl) (by kernel_rfl) (by kernel_rfl) (by exact fun _ _ _ h => h) (Or.inl ⟨by rfl, ?_⟩) (by assumption) ?_
              rotate_left
              · intro w' hSw
                obtain ⟨_, k1, k2⟩ := hSw
                go_simp
                try with_reducible rfl
              try simp only [Act.put, List.setIfInBounds_toArray, List.set_cons_zero, List.set_cons_succ]
              refine wpAnyH_take (i := 6) (v := ?_) (by rw [List.getElem?_toArray]; rfl) (by kernel_rfl) (by kernel_rfl) (by kernel_rfl) (by exact fun _ _ _ h => h) (Or.inl ⟨by rfl, ?_⟩) (by assumption) ?_
              rotate_left
              · intro w' hSw
                obtain ⟨_, k1, k2⟩ := hSw
                go_simp
                try with_reducible rfl
              try simp only [Act.put, List.setIfInBounds_toArray, List.set_cons_zero, List.set_cons_succ]
              refine wpAnyH_take (i := 7) (v := ?_) (by rw [List.getElem?_toArray]; rfl) (by kernel_rfl) (by kernel_rfl) (by kernel_rfl) (by exact fun _ _ _ h => h) (Or.inl ⟨by rfl, ?_⟩) (by assumption) ?_
              rotate_left
              · intro w' hSw
                obtain ⟨_, k1, k2⟩ := hSw
                go_simp
                try with_reducible rfl
              try simp only [Act.put, List.setIfInBounds_toArray, List.set_cons_zero, List.set_cons_succ]
              refine wpAnyH_take (i := 8) (v := ?_) (by rw [List.getElem?_toArray]; rfl) (by kernel_rfl) (by kernel_rfl) (by kernel_rfl) (by exact fun _ _ _ h => h) (Or.inl ⟨by rfl, ?_⟩) (by assumption) ?_
              rotate_left
              · intro w' hSw
                obtain ⟨_, k1, k2⟩ := hSw
                go_simp
                try with_reducible rfl
              try simp only [Act.put, List.setIfInBounds_toArray, List.set_cons_zero, List.set_cons_succ]
              clear hHeld
              have HB3 := Lib.hid (Bel.call HB2.out hd)
              have HR3 := Lib.hid (HR2.out.below hd)
              generalize w2.drew = wd at hS0 hd HB3 HR3 ⊢
              clear hd HB2 HR2 l1 l2 hg2
              have hbA : Below wd.heap.size wd (wd.alloc (.cells #[.int .i64 0, .string ⟨#[]⟩, .string ⟨#[]⟩] 26)) := (Below.refl wd.heap.size wd).alloc (Nat.le_refl _) _
              have hxA := r3_new wd 0 ⟨#[]⟩ ⟨#[]⟩ 26
              have hgA := Nat.lt_of_lt_of_le hS0.1 hbA.size
              have hS1 : g2 < (wd.alloc (.cells #[.int .i64 0, .string ⟨#[]⟩, .string ⟨#[]⟩] 26)).heap.size ∧ (wd.alloc (.cells #[.int .i64 0, .string ⟨#[]⟩, .string ⟨#[]⟩] 26)).cell? ⟨g2, off + 1, none⟩ = some (.string PB) ∧ (wd.alloc (.cells #[.int .i64 0, .string ⟨#[]⟩, .string ⟨#[]⟩] 26)).cell? ⟨g2, off + 2, none⟩ = some (.string PC) := ⟨hgA, (hbA.cell (p := ⟨g2, off + 1, none⟩) hS0.1).trans hS0.2.1, (hbA.cell (p := ⟨g2, off + 2, none⟩) hS0.1).trans hS0.2.2⟩
              have HB4 := Lib.hid (Bel.call HB3.out hbA)
              have HR4 := Lib.hid (HR3.out.below hbA)
              have hne : g2 ≠ wd.heap.size := Nat.ne_of_lt hS0.1
              have hne2 : w.heap.size ≠ wd.heap.size := Nat.ne_of_lt HR3.out.1.1
              have hge : w.heap.size ≤ wd.heap.size := Nat.le_of_lt HR3.out.1.1
              refine wpAnyH_ready (rs := [9]) (by kernel_rfl) (by simp) ?_
              refine AllReadyH.cons (by rw [List.getElem?_toArray]; rfl) (fun K hK => ?_) AllReadyH.nil
              go_simp
              refine hK.out _ _ (by exact hS1) (fun hHeld => ?_)
              try simp only [Act.put, List.setIfInBounds_toArray, List.set_cons_zero, List.set_cons_succ]
              clear hHeld
              generalize wd.alloc (.cells #[.int .i64 0, .string ⟨#[]⟩, .string ⟨#[]⟩] 26) = wb at hbA hxA hS1 HB4 HR4 ⊢
              have HXA := Lib.hid hxA
              obtain ⟨⟨p0, b0, b1, b2⟩, u0, u1, u2⟩ := hxA
              clear hbA hgA hS0 HB3 HR3
              refine wpAnyH_ready (rs := [10]) (by kernel_rfl) (by simp) ?_
              refine AllReadyH.cons (by rw [List.getElem?_toArray]; rfl) (fun K hK => ?_) AllReadyH.nil
              go_simp
              refine hK.out _ _ (by exact row_set3 (w := wb) hS1 hne) (fun hHeld => ?_)
              try simp only [Act.put, List.setIfInBounds_toArray, List.set_cons_zero, List.set_cons_succ]
              clear hHeld
              refine wpAnyH_done (by kernel_rfl) ?_ _
              rw [set3_eq]
              have HX3 := Lib.hid (r3_set (ep := (n : Int)) (S := PB) (G := PC) HXA.out)
              have HR5 := Lib.hid (r3_other (x := .int .i64 (n : Int)) (y := .string PB) (z := .string PC) HR4.out hne2)
              have HB5 := Lib.hid (bel_set3 (a := .int .i64 (n : Int)) (b := .string PB) (c := .string PC) HB4.out hge)
              generalize set3 wb wd.heap.size (.int .i64 (n : Int)) (.string PB) (.string PC) = wc at HX3 HR5 HB5 ⊢
              clear b0 b1 b2 u0 u1 u2 hS1 HB4 HR4 HXA p0
              obtain ⟨⟨_, e0, e1, e2⟩, _⟩ := HX3.out
              have HIS : Hid (IsB (.agg #[.int .i64 (n : Int), .string PB, .string PC]) ⟨(n : Int), b, c⟩) := Lib.hid ⟨PB, PC, HPB.out, HPC.out, rfl⟩
              go_wp2_with fail
              with_reducible refine (HR.out _ HIS.out _).mono ?_
              rintro e w6 ⟨rfl, hb6⟩
              have HB6 := Lib.hid (Bel.call HB5.out hb6)
              clear e0 e1 e2
              obtain ⟨⟨_, e0, e1, e2⟩, _⟩ := HX3.out.below hb6
              obtain ⟨⟨_, c0, c1, c2⟩, f0, f1, f2⟩ := HR5.out.below hb6
              clear hb6
              dsimp only
              go_wp2
              refine bodyPost_ret (v := .tuple #[Zb, .int .i64 2]) (by simp [results, Tryz.results10, go_sem, Zb, c0, c1, c2]) rfl ?_
              exact ⟨⟨_, by rw [← HX.out]; exact zb_is, by rw [← HX.out]⟩, bel_set3 HB6.out (Nat.le_refl _)⟩
          · rw [if_pos (fun h => hn (hro.1 h.1).2.2)] at hx
            have HX := Lib.hid hx
            have hn2 : (7 : Int) < (n : Int) := by omega
            clear hx hro hbL hcL hn
            go_enter Tryz.func10, Tryz.ntmps10
            go_wp2_with fail
            with_reducible refine (HT.out _).mono ?_
            rintro e w1 ⟨⟨A, cc, ys, hys, hlc, hsr, rfl⟩, hb1⟩
            have HR1 := Lib.hid (r3_first hb1)
            have HB1 := Lib.hid (bel_box hb1)
            obtain ⟨PA, PB, PC, rfl, hPA, hPB, hPC⟩ := bl_three hys
            obtain ⟨g2, off, rfl, hg1, l0, l1, l2⟩ := three_reads hsr
            have HPA := Lib.hid hPA
            have HPB := Lib.hid hPB
            have HPC := Lib.hid hPC
            clear hb1 hys hlc hsr hPA hPB hPC
            dsimp only
            go_wp2_with fail
            with_reducible refine (HTK.out PA _ HPA.out).mono ?_
            rintro e w2 ⟨⟨RR, hRR, rfl⟩, hb2⟩
            dsimp only at hRR ⊢
            have hg2 := Nat.lt_of_lt_of_le hg1 hb2.size
            replace l1 := (hb2.cell (p := ⟨g2, off + 1, none⟩) hg1).trans l1
            replace l2 := (hb2.cell (p := ⟨g2, off + 2, none⟩) hg1).trans l2
            have HB2 := Lib.hid (Bel.call HB1.out hb2)
            have HR2 := Lib.hid (HR1.out.below hb2)
            clear l0 hb2 hg1
            obtain rfl : RR = ⟨#[]⟩ := str_eq hRR
            obtain ⟨E, cw⟩ : ∃ E, IntKind.i64.wrap (n : Int) = E := ⟨_, rfl⟩
            go_wp2_with fail
            have hd : Below w2.heap.size w2 w2.drew := Below.drewN' (Below.refl w2.heap.size w2) 1
            have hS0 : g2 < w2.drew.heap.size ∧ w2.drew.cell? ⟨g2, off + 1, none⟩ = some (.string PB) ∧ w2.drew.cell? ⟨g2, off + 2, none⟩ = some (.string PC) := ⟨hg2, (hd.cell (p := ⟨g2, off + 1, none⟩) hg2).trans l1, (hd.cell (p := ⟨g2, off + 2, none⟩) hg2).trans l2⟩
            refine wp_region_held_drew (S := fun w' => g2 < w'.heap.size ∧ w'.cell? ⟨g2, off + 1, none⟩ = some (.string PB) ∧ w'.cell? ⟨g2, off + 2, none⟩ = some (.string PC)) (by kernel_rfl) hS0 (fun hHeld => ?_)
            refine wpAnyH_take (i := 0) (v := ?_) (by rw [List.getElem?_toArray]; rfl) (by kernel_rfl) (by kernel_rfl) (by kernel_rfl) (by exact fun _ _ _ h => h) (Or.inl ⟨by rfl, ?_⟩) (by assumption) ?_
            rotate_left
            · intro w' hSw
              obtain ⟨_, k1, k2⟩ := hSw
              go_simp
              try with_reducible rfl
            try simp only [Act.put, List.setIfInBounds_toArray, List.set_cons_zero, List.set_cons_succ]
            refine wpAnyH_take (i := 1) (v := ?_) (by rw [List.getElem?_toArray]; rfl) (by kernel_rfl) (by kernel_rfl) (by kernel_rfl) (by exact fun _ _ _ h => h) (Or.inl ⟨by rfl, ?_⟩) (by assumption) ?_
            rotate_left
            · intro w' hSw
              obtain ⟨_, k1, k2⟩ := hSw
              go_simp
              try with_reducible rfl
            try simp only [Act.put, List.setIfInBounds_toArray, List.set_cons_zero, List.set_cons_succ]
            refine wpAnyH_take (i := 2) (v := ?_) (by rw [List.getElem?_toArray]; rfl) (by kernel_rfl) (by kernel_rfl) (by kernel_rfl) (by exact fun _ _ _ h => h) (Or.inl ⟨by rfl, ?_⟩) (by assumption) ?_
            rotate_left
            · intro w' hSw
              obtain ⟨_, k1, k2⟩ := hSw
              go_simp
              try with_reducible rfl
            try simp only [Act.put, List.setIfInBounds_toArray, List.set_cons_zero, List.set_cons_succ]
            refine wpAnyH_take (i := 3) (v := ?_) (by rw [List.getElem?_toArray]; rfl) (by kernel_rfl) (by kernel_rfl) (by kernel_rfl) (by exact fun _ _ _ h => h) (Or.inl ⟨by rfl, ?_⟩) (by assumption) ?_
            rotate_left
            · intro w' hSw
              obtain ⟨_, k1, k2⟩ := hSw
              go_simp
              try with_reducible rfl
            try simp only [Act.put, List.setIfInBounds_toArray, List.set_cons_zero, List.set_cons_succ]
            refine wpAnyH_take (i := 4) (v := ?_) (by rw [List.getElem?_toArray]; rfl) (by kernel_rfl) (by kernel_rfl) (by kernel_rfl) (by exact fun _ _ _ h => h) (Or.inl ⟨by rfl, ?_⟩) (by assumption) ?_
            rotate_left
            · intro w' hSw
              obtain ⟨_, k1, k2⟩ := hSw
              go_simp
              try with_reducible rfl
            try simp only [Act.put, List.setIfInBounds_toArray, List.set_cons_zero, List.set_cons_succ]
            refine wpAnyH_take (i := 5) (v := ?_) (by rw [List.getElem?_toArray]; rfl) (by kernel_rfl) (by kernel_rfl) (by kernel_rfl) (by exact fun _ _ _ h => h) (Or.inl ⟨by rfl, ?_⟩) (by assumption) ?_
            rotate_left
            · intro w' hSw
              obtain ⟨_, k1, k2⟩ := hSw
              go_simp
              try with_reducible rfl
            try simp only [Act.put, List.setIfInBounds_toArray, List.set_cons_zero, List.set_cons_succ]
            refine wpAnyH_take (i := 6) (v := ?_) (by rw [List.getElem?_toArray]; rfl) (by kernel_rfl) (by kernel_rfl) (by kernel_rfl) (by exact fun _ _ _ h => h) (Or.inl ⟨by rfl, ?_⟩) (by assumption) ?_
            rotate_left
            · intro w' hSw
              obtain ⟨_, k1, k2⟩ := hSw
              go_simp
              try with_reducible rfl
            try simp only [Act.put, List.setIfInBounds_toArray, List.set_cons_zero, List.set_cons_succ]
            refine wpAnyH_take (i := 7) (v := ?_) (by rw [List.getElem?_toArray]; rfl) (by kernel_rfl) (by kernel_rfl) (by kernel_rfl) (by exact fun _ _ _ h => h) (Or.inl ⟨by rfl, ?_⟩) (by assumption) ?_
            rotate_left
            · intro w' hSw
              obtain ⟨_, k1, k2⟩ := hSw
              go_simp
              try with_reducible rfl
            try simp only [Act.put, List.setIfInBounds_toArray, List.set_cons_zero, List.set_cons_succ]
            refine wpAnyH_take (i := 8) (v := ?_) (by rw [List.getElem?_toArray]; rfl) (by kernel_rfl) (by kernel_rfl) (by kernel_rfl) (by exact fun _ _ _ h => h) (Or.inl ⟨by rfl, ?_⟩) (by assumption) ?_
            rotate_left
            · intro w' hSw
              obtain ⟨_, k1, k2⟩ := hSw
              go_simp
              try with_reducible rfl
            try simp only [Act.put, List.setIfInBounds_toArray, List.set_cons_zero, List.set_cons_succ]
            clear hHeld
            have HB3 := Lib.hid (Bel.call HB2.out hd)
            have HR3 := Lib.hid (HR2.out.below hd)
            generalize w2.drew = wd at hS0 hd HB3 HR3 ⊢
            clear hd HB2 HR2 l1 l2 hg2
            have hbA : Below wd.heap.size wd (wd.alloc (.cells #[.int .i64 0, .string ⟨#[]⟩, .string ⟨#[]⟩] 26)) := (Below.refl wd.heap.size wd).alloc (Nat.le_refl _) _
            have hxA := r3_new wd 0 ⟨#[]⟩ ⟨#[]⟩ 26
            have hgA := Nat.lt_of_lt_of_le hS0.1 hbA.size
            have hS1 : g2 < (wd.alloc (.cells #[.int .i64 0, .string ⟨#[]⟩, .string ⟨#[]⟩] 26)).heap.size ∧ (wd.alloc (.cells #[.int .i64 0, .string ⟨#[]⟩, .string ⟨#[]⟩] 26)).cell? ⟨g2, off + 1, none⟩ = some (.string PB) ∧ (wd.alloc (.cells #[.int .i64 0, .string ⟨#[]⟩, .string ⟨#[]⟩] 26)).cell? ⟨g2, off + 2, none⟩ = some (.string PC) := ⟨hgA, (hbA.cell (p := ⟨g2, off + 1, none⟩) hS0.1).trans hS0.2.1, (hbA.cell (p := ⟨g2, off + 2, none⟩) hS0.1).trans hS0.2.2⟩
            have HB4 := Lib.hid (Bel.call HB3.out hbA)
            have HR4 := Lib.hid (HR3.out.below hbA)
            have hne : g2 ≠ wd.heap.size := Nat.ne_of_lt hS0.1
            have hne2 : w.heap.size ≠ wd.heap.size := Nat.ne_of_lt HR3.out.1.1
            have hge : w.heap.size ≤ wd.heap.size := Nat.le_of_lt HR3.out.1.1
            refine wpAnyH_ready (rs := [9]) (by kernel_rfl) (by simp) ?_
            refine AllReadyH.cons (by rw [List.getElem?_toArray]; rfl) (fun K hK => ?_) AllReadyH.nil
            go_simp
            refine hK.out _ _ (by exact hS1) (fun hHeld => ?_)
            try simp only [Act.put, List.setIfInBounds_toArray, List.set_cons_zero, List.set_cons_succ]
            clear hHeld
            generalize wd.alloc (.cells #[.int .i64 0, .string ⟨#[]⟩, .string ⟨#[]⟩] 26) = wb at hbA hxA hS1 HB4 HR4 ⊢
            have HXA := Lib.hid hxA
            obtain ⟨⟨p0, b0, b1, b2⟩, u0, u1, u2⟩ := hxA
            clear hbA hgA hS0 HB3 HR3
            refine wpAnyH_ready (rs := [10]) (by kernel_rfl) (by simp) ?_
            refine AllReadyH.cons (by rw [List.getElem?_toArray]; rfl) (fun K hK => ?_) AllReadyH.nil
            go_simp
            refine hK.out _ _ (by exact row_set3 (w := wb) hS1 hne) (fun hHeld => ?_)
            try simp only [Act.put, List.setIfInBounds_toArray, List.set_cons_zero, List.set_cons_succ]
            clear hHeld
            refine wpAnyH_done (by kernel_rfl) ?_ _
            rw [set3_eq]
            have HX3 := Lib.hid (r3_set (ep := E) (S := PB) (G := PC) HXA.out)
            have HR5 := Lib.hid (r3_other (x := .int .i64 E) (y := .string PB) (z := .string PC) HR4.out hne2)
            have HB5 := Lib.hid (bel_set3 (a := .int .i64 E) (b := .string PB) (c := .string PC) HB4.out hge)
            generalize set3 wb wd.heap.size (.int .i64 E) (.string PB) (.string PC) = wc at HX3 HR5 HB5 ⊢
            clear b0 b1 b2 u0 u1 u2 hS1 HB4 HR4 HXA p0
            obtain ⟨⟨_, e0, e1, e2⟩, _⟩ := HX3.out
            obtain ⟨⟨_, c0, c1, c2⟩, f0, f1, f2⟩ := HR5.out
            go_wp2
            refine bodyPost_ret (v := .tuple #[Zb, .int .i64 2]) (by simp [results, Tryz.results10, go_sem, Zb, c0, c1, c2]) rfl ?_
            exact ⟨⟨_, by rw [← HX.out]; exact zb_is, by rw [← HX.out]⟩, bel_set3 HB5.out (Nat.le_refl _)⟩
        · rw [if_pos (fun h => hr (hro.1 h.1).2.1)] at hx
          have HX := Lib.hid hx
          clear hx hro hbL hcL
          go_enter Tryz.func10, Tryz.ntmps10
          go_wp2_with fail
          with_reducible refine (HT.out _).mono ?_
          rintro e w1 ⟨⟨A, cc, ys, hys, hlc, hsr, rfl⟩, hb1⟩
          have HR1 := Lib.hid (r3_first hb1)
          have HB1 := Lib.hid (bel_box hb1)
          obtain ⟨PA, PB, PC, rfl, hPA, hPB, hPC⟩ := bl_three hys
          obtain ⟨g2, off, rfl, hg1, l0, l1, l2⟩ := three_reads hsr
          have HPA := Lib.hid hPA
          have HPB := Lib.hid hPB
          have HPC := Lib.hid hPC
          clear hb1 hys hlc hsr hPA hPB hPC
          dsimp only
          go_wp2_with fail
          with_reducible refine (HTK.out PA _ HPA.out).mono ?_
          rintro e w2 ⟨⟨RR, hRR, rfl⟩, hb2⟩
          dsimp only at hRR ⊢
          have hg2 := Nat.lt_of_lt_of_le hg1 hb2.size
          replace l1 := (hb2.cell (p := ⟨g2, off + 1, none⟩) hg1).trans l1
          replace l2 := (hb2.cell (p := ⟨g2, off + 2, none⟩) hg1).trans l2
          have HB2 := Lib.hid (Bel.call HB1.out hb2)
          have HR2 := Lib.hid (HR1.out.below hb2)
          clear l0 hb2 hg1
          have hre : RR.toList.isEmpty = false := by
            rw [Lib.toList_data, hRR]
            cases r with
            | nil => exact absurd rfl hr
            | cons x y => rfl
          obtain ⟨E, cw⟩ : ∃ E, IntKind.i64.wrap (n : Int) = E := ⟨_, rfl⟩
          go_wp2_with fail
          have hd : Below w2.heap.size w2 w2.drew := Below.drewN' (Below.refl w2.heap.size w2) 1
          have hS0 : g2 < w2.drew.heap.size ∧ w2.drew.cell? ⟨g2, off + 1, none⟩ = some (.string PB) ∧ w2.drew.cell? ⟨g2, off + 2, none⟩ = some (.string PC) := ⟨hg2, (hd.cell (p := ⟨g2, off + 1, none⟩) hg2).trans l1, (hd.cell (p := ⟨g2, off + 2, none⟩) hg2).trans l2⟩
          refine wp_region_held_drew (S := fun w' => g2 < w'.heap.size ∧ w'.cell? ⟨g2, off + 1, none⟩ = some (.string PB) ∧ w'.cell? ⟨g2, off + 2, none⟩ = some (.string PC)) (by kernel_rfl) hS0 (fun hHeld => ?_)
          refine wpAnyH_take (i := 0) (v := ?_) (by rw [List.getElem?_toArray]; rfl) (by kernel_rfl) (by kernel_rfl) (by kernel_rfl) (by exact fun _ _ _ h => h) (Or.inl ⟨by rfl, ?_⟩) (by assumption) ?_
          rotate_left
          · intro w' hSw
            obtain ⟨_, k1, k2⟩ := hSw
            go_simp
            try with_reducible rfl
          try simp only [Act.put, List.setIfInBounds_toArray, List.set_cons_zero, List.set_cons_succ]
          refine wpAnyH_take (i := 1) (v := ?_) (by rw [List.getElem?_toArray]; rfl) (by kernel_rfl) (by kernel_rfl) (by kernel_rfl) (by exact fun _ _ _ h => h) (Or.inl ⟨by rfl, ?_⟩) (by assumption) ?_
          rotate_left
          · intro w' hSw
            obtain ⟨_, k1, k2⟩ := hSw
            go_simp
            try with_reducible rfl
          try simp only [Act.put, List.setIfInBounds_toArray, List.set_cons_zero, List.set_cons_succ]
          refine wpAnyH_take (i := 2) (v := ?_) (by rw [List.getElem?_toArray]; rfl) (by kernel_rfl) (by kernel_rfl) (by kernel_rfl) (by exact fun _ _ _ h => h) (Or.inl ⟨by rfl, ?_⟩) (by assumption) ?_
          rotate_left
          · intro w' hSw
            obtain ⟨_, k1, k2⟩ := hSw
            go_simp
            try with_reducible rfl
          try simp only [Act.put, List.setIfInBounds_toArray, List.set_cons_zero, List.set_cons_succ]
          refine wpAnyH_take (i := 3) (v := ?_) (by rw [List.getElem?_toArray]; rfl) (by kernel_rfl) (by kernel_rfl) (by kernel_rfl) (by exact fun _ _ _ h => h) (Or.inl ⟨by rfl, ?_⟩) (by assumption) ?_
          rotate_left
          · intro w' hSw
            obtain ⟨_, k1, k2⟩ := hSw
            go_simp
            try with_reducible rfl
          try simp only [Act.put, List.setIfInBounds_toArray, List.set_cons_zero, List.set_cons_succ]
          refine wpAnyH_take (i := 4) (v := ?_) (by rw [List.getElem?_toArray]; rfl) (by kernel_rfl) (by kernel_rfl) (by kernel_rfl) (by exact fun _ _ _ h => h) (Or.inl ⟨by rfl, ?_⟩) (by assumption) ?_
          rotate_left
          · intro w' hSw
            obtain ⟨_, k1, k2⟩ := hSw
            go_simp
            try with_reducible rfl
          try simp only [Act.put, List.setIfInBounds_toArray, List.set_cons_zero, List.set_cons_succ]
          refine wpAnyH_take (i := 5) (v := ?_) (by rw [List.getElem?_toArray]; rfl) (by kernel_rfl) (by kernel_rfl) (by kernel_rfl) (by exact fun _ _ _ h => h) (Or.inl ⟨by rfl, ?_⟩) (by assumption) ?_
          rotate_left
          · intro w' hSw
            obtain ⟨_, k1, k2⟩ := hSw
            go_simp
            try with_reducible rfl
          try simp only [Act.put, List.setIfInBounds_toArray, List.set_cons_zero, List.set_cons_succ]
          refine wpAnyH_take (i := 6) (v := ?_) (by rw [List.getElem?_toArray]; rfl) (by kernel_rfl) (by kernel_rfl) (by kernel_rfl) (by exact fun _ _ _ h => h) (Or.inl ⟨by rfl, ?_⟩) (by assumption) ?_
          rotate_left
          · intro w' hSw
            obtain ⟨_, k1, k2⟩ := hSw
            go_simp
            try with_reducible rfl
          try simp only [Act.put, List.setIfInBounds_toArray, List.set_cons_zero, List.set_cons_succ]
          refine wpAnyH_take (i := 7) (v := ?_) (by rw [List.getElem?_toArray]; rfl) (by kernel_rfl) (by kernel_rfl) (by kernel_rfl) (by exact fun _ _ _ h => h) (Or.inl ⟨by rfl, ?_⟩) (by assumption) ?_
          rotate_left
          · intro w' hSw
            obtain ⟨_, k1, k2⟩ := hSw
            go_simp
            try with_reducible rfl
          try simp only [Act.put, List.setIfInBounds_toArray, List.set_cons_zero, List.set_cons_succ]
          refine wpAnyH_take (i := 8) (v := ?_) (by rw [List.getElem?_toArray]; rfl) (by kernel_rfl) (by kernel_rfl) (by kernel_rfl) (by exact fun _ _ _ h => h) (Or.inl ⟨by rfl, ?_⟩) (by assumption) ?_
          rotate_left
          · intro w' hSw
            obtain ⟨_, k1, k2⟩ := hSw
            go_simp
            try with_reducible rfl
          try simp only [Act.put, List.setIfInBounds_toArray, List.set_cons_zero, List.set_cons_succ]
          clear hHeld
          have HB3 := Lib.hid (Bel.call HB2.out hd)
          have HR3 := Lib.hid (HR2.out.below hd)
          generalize w2.drew = wd at hS0 hd HB3 HR3 ⊢
          clear hd HB2 HR2 l1 l2 hg2
          have hbA : Below wd.heap.size wd (wd.alloc (.cells #[.int .i64 0, .string ⟨#[]⟩, .string ⟨#[]⟩] 26)) := (Below.refl wd.heap.size wd).alloc (Nat.le_refl _) _
          have hxA := r3_new wd 0 ⟨#[]⟩ ⟨#[]⟩ 26
          have hgA := Nat.lt_of_lt_of_le hS0.1 hbA.size
          have hS1 : g2 < (wd.alloc (.cells #[.int .i64 0, .string ⟨#[]⟩, .string ⟨#[]⟩] 26)).heap.size ∧ (wd.alloc (.cells #[.int .i64 0, .string ⟨#[]⟩, .string ⟨#[]⟩] 26)).cell? ⟨g2, off + 1, none⟩ = some (.string PB) ∧ (wd.alloc (.cells #[.int .i64 0, .string ⟨#[]⟩, .string ⟨#[]⟩] 26)).cell? ⟨g2, off + 2, none⟩ = some (.string PC) := ⟨hgA, (hbA.cell (p := ⟨g2, off + 1, none⟩) hS0.1).trans hS0.2.1, (hbA.cell (p := ⟨g2, off + 2, none⟩) hS0.1).trans hS0.2.2⟩
          have HB4 := Lib.hid (Bel.call HB3.out hbA)
          have HR4 := Lib.hid (HR3.out.below hbA)
          have hne : g2 ≠ wd.heap.size := Nat.ne_of_lt hS0.1
          have hne2 : w.heap.size ≠ wd.heap.size := Nat.ne_of_lt HR3.out.1.1
          have hge : w.heap.size ≤ wd.heap.size := Nat.le_of_lt HR3.out.1.1
          refine wpAnyH_ready (rs := [9]) (by kernel_rfl) (by simp) ?_
          refine AllReadyH.cons (by rw [List.getElem?_toArray]; rfl) (fun K hK => ?_) AllReadyH.nil
          go_simp
          refine hK.out _ _ (by exact hS1) (fun hHeld => ?_)
          try simp only [Act.put, List.setIfInBounds_toArray, List.set_cons_zero, List.set_cons_succ]
          clear hHeld
          generalize wd.alloc (.cells #[.int .i64 0, .string ⟨#[]⟩, .string ⟨#[]⟩] 26) = wb at hbA hxA hS1 HB4 HR4 ⊢
          have HXA := Lib.hid hxA
          obtain ⟨⟨p0, b0, b1, b2⟩, u0, u1, u2⟩ := hxA
          clear hbA hgA hS0 HB3 HR3
          refine wpAnyH_ready (rs := [10]) (by kernel_rfl) (by simp) ?_
          refine AllReadyH.cons (by rw [List.getElem?_toArray]; rfl) (fun K hK => ?_) AllReadyH.nil
          go_simp
          refine hK.out _ _ (by exact row_set3 (w := wb) hS1 hne) (fun hHeld => ?_)
          try simp only [Act.put, List.setIfInBounds_toArray, List.set_cons_zero, List.set_cons_succ]
          clear hHeld
          refine wpAnyH_done (by kernel_rfl) ?_ _
          rw [set3_eq]
          have HX3 := Lib.hid (r3_set (ep := E) (S := PB) (G := PC) HXA.out)
          have HR5 := Lib.hid (r3_other (x := .int .i64 E) (y := .string PB) (z := .string PC) HR4.out hne2)
          have HB5 := Lib.hid (bel_set3 (a := .int .i64 E) (b := .string PB) (c := .string PC) HB4.out hge)
          generalize set3 wb wd.heap.size (.int .i64 E) (.string PB) (.string PC) = wc at HX3 HR5 HB5 ⊢
          clear b0 b1 b2 u0 u1 u2 hS1 HB4 HR4 HXA p0
          obtain ⟨⟨_, e0, e1, e2⟩, _⟩ := HX3.out
          obtain ⟨⟨_, c0, c1, c2⟩, f0, f1, f2⟩ := HR5.out
          go_wp2
          refine bodyPost_ret (v := .tuple #[Zb, .int .i64 2]) (by simp [results, Tryz.results10, go_sem, Zb, c0, c1, c2]) rfl ?_
          exact ⟨⟨_, by rw [← HX.out]; exact zb_is, by rw [← HX.out]⟩, bel_set3 HB5.out (Nat.le_refl _)⟩
      · rw [if_pos (fun h => hg (hro.1 h.1).1)] at hx
        have HX := Lib.hid hx
        have hgb : (g == 0) = false := by simpa using hg
        have hgb2 : (g != 0) = true := by simpa using hg
        clear hx hro hbL hcL hg
        go_enter Tryz.func10, Tryz.ntmps10
        go_wp2_with fail
        with_reducible refine (HT.out _).mono ?_
        rintro e w1 ⟨⟨A, cc, ys, hys, hlc, hsr, rfl⟩, hb1⟩
        have HR1 := Lib.hid (r3_first hb1)
        have HB1 := Lib.hid (bel_box hb1)
        obtain ⟨PA, PB, PC, rfl, hPA, hPB, hPC⟩ := bl_three hys
        obtain ⟨g2, off, rfl, hg1, l0, l1, l2⟩ := three_reads hsr
        have HPA := Lib.hid hPA
        have HPB := Lib.hid hPB
        have HPC := Lib.hid hPC
        clear hb1 hys hlc hsr hPA hPB hPC
        dsimp only
        go_wp2_with fail
        with_reducible refine (HTK.out PA _ HPA.out).mono ?_
        rintro e w2 ⟨⟨RR, hRR, rfl⟩, hb2⟩
        dsimp only at hRR ⊢
        have hg2 := Nat.lt_of_lt_of_le hg1 hb2.size
        replace l1 := (hb2.cell (p := ⟨g2, off + 1, none⟩) hg1).trans l1
        replace l2 := (hb2.cell (p := ⟨g2, off + 2, none⟩) hg1).trans l2
        have HB2 := Lib.hid (Bel.call HB1.out hb2)
        have HR2 := Lib.hid (HR1.out.below hb2)
        clear l0 hb2 hg1
        clear hRR
        obtain ⟨E, cw⟩ : ∃ E, IntKind.i64.wrap (n : Int) = E := ⟨_, rfl⟩
        go_wp2_with fail
        have hd : Below w2.heap.size w2 w2.drew := Below.drewN' (Below.refl w2.heap.size w2) 1
        have hS0 : g2 < w2.drew.heap.size ∧ w2.drew.cell? ⟨g2, off + 1, none⟩ = some (.string PB) ∧ w2.drew.cell? ⟨g2, off + 2, none⟩ = some (.string PC) := ⟨hg2, (hd.cell (p := ⟨g2, off + 1, none⟩) hg2).trans l1, (hd.cell (p := ⟨g2, off + 2, none⟩) hg2).trans l2⟩
        refine wp_region_held_drew (S := fun w' => g2 < w'.heap.size ∧ w'.cell? ⟨g2, off + 1, none⟩ = some (.string PB) ∧ w'.cell? ⟨g2, off + 2, none⟩ = some (.string PC)) (by kernel_rfl) hS0 (fun hHeld => ?_)
        refine wpAnyH_take (i := 0) (v := ?_) (by rw [List.getElem?_toArray]; rfl) (by kernel_rfl) (by kernel_rfl) (by kernel_rfl) (by exact fun _ _ _ h => h) (Or.inl ⟨by rfl, ?_⟩) (by assumption) ?_
        rotate_left
        · intro w' hSw
          obtain ⟨_, k1, k2⟩ := hSw
          go_simp
          try with_reducible rfl
        try simp only [Act.put, List.setIfInBounds_toArray, List.set_cons_zero, List.set_cons_succ]
        refine wpAnyH_take (i := 1) (v := ?_) (by rw [List.getElem?_toArray]; rfl) (by kernel_rfl) (by kernel_rfl) (by kernel_rfl) (by exact fun _ _ _ h => h) (Or.inl ⟨by rfl, ?_⟩) (by assumption) ?_
        rotate_left
        · intro w' hSw
          obtain ⟨_, k1, k2⟩ := hSw
          go_simp
          try with_reducible rfl
        try simp only [Act.put, List.setIfInBounds_toArray, List.set_cons_zero, List.set_cons_succ]
        refine wpAnyH_take (i := 2) (v := ?_) (by rw [List.getElem?_toArray]; rfl) (by kernel_rfl) (by kernel_rfl) (by kernel_rfl) (by exact fun _ _ _ h => h) (Or.inl ⟨by rfl, ?_⟩) (by assumption) ?_
        rotate_left
        · intro w' hSw
          obtain ⟨_, k1, k2⟩ := hSw
          go_simp
          try with_reducible rfl
        try simp only [Act.put, List.setIfInBounds_toArray, List.set_cons_zero, List.set_cons_succ]
        refine wpAnyH_take (i := 3) (v := ?_) (by rw [List.getElem?_toArray]; rfl) (by kernel_rfl) (by kernel_rfl) (by kernel_rfl) (by exact fun _ _ _ h => h) (Or.inl ⟨by rfl, ?_⟩) (by assumption) ?_
        rotate_left
        · intro w' hSw
          obtain ⟨_, k1, k2⟩ := hSw
          go_simp
          try with_reducible rfl
        try simp only [Act.put, List.setIfInBounds_toArray, List.set_cons_zero, List.set_cons_succ]
        refine wpAnyH_take (i := 4) (v := ?_) (by rw [List.getElem?_toArray]; rfl) (by kernel_rfl) (by kernel_rfl) (by kernel_rfl) (by exact fun _ _ _ h => h) (Or.inl ⟨by rfl, ?_⟩) (by assumption) ?_
        rotate_left
        · intro w' hSw
          obtain ⟨_, k1, k2⟩ := hSw
          go_simp
          try with_reducible rfl
        try simp only [Act.put, List.setIfInBounds_toArray, List.set_cons_zero, List.set_cons_succ]
        refine wpAnyH_take (i := 5) (v := ?_) (by rw [List.getElem?_toArray]; rfl) (by kernel_rfl) (by kernel_rfl) (by kernel_rfl) (by exact fun _ _ _ h => h) (Or.inl ⟨by rfl, ?_⟩) (by assumption) ?_
        rotate_left
        · intro w' hSw
          obtain ⟨_, k1, k2⟩ := hSw
          go_simp
          try with_reducible rfl
        try simp only [Act.put, List.setIfInBounds_toArray, List.set_cons_zero, List.set_cons_succ]
        refine wpAnyH_take (i := 6) (v := ?_) (by rw [List.getElem?_toArray]; rfl) (by kernel_rfl) (by kernel_rfl) (by kernel_rfl) (by exact fun _ _ _ h => h) (Or.inl ⟨by rfl, ?_⟩) (by assumption) ?_
        rotate_left
        · intro w' hSw
          obtain ⟨_, k1, k2⟩ := hSw
          go_simp
          try with_reducible rfl
        try simp only [Act.put, List.setIfInBounds_toArray, List.set_cons_zero, List.set_cons_succ]
        refine wpAnyH_take (i := 7) (v := ?_) (by rw [List.getElem?_toArray]; rfl) (by kernel_rfl) (by kernel_rfl) (by kernel_rfl) (by exact fun _ _ _ h => h) (Or.inl ⟨by rfl, ?_⟩) (by assumption) ?_
        rotate_left
        · intro w' hSw
          obtain ⟨_, k1, k2⟩ := hSw
          go_simp
          try with_reducible rfl
        try simp only [Act.put, List.setIfInBounds_toArray, List.set_cons_zero, List.set_cons_succ]
        refine wpAnyH_take (i := 8) (v := ?_) (by rw [List.getElem?_toArray]; rfl) (by kernel_rfl) (by kernel_rfl) (by kernel_rfl) (by exact fun _ _ _ h => h) (Or.inl ⟨by rfl, ?_⟩) (by assumption) ?_
        rotate_left
        · intro w' hSw
          obtain ⟨_, k1, k2⟩ := hSw
          go_simp
          try with_reducible rfl
        try simp only [Act.put, List.setIfInBounds_toArray, List.set_cons_zero, List.set_cons_succ]
        clear hHeld
        have HB3 := Lib.hid (Bel.call HB2.out hd)
        have HR3 := Lib.hid (HR2.out.below hd)
        generalize w2.drew = wd at hS0 hd HB3 HR3 ⊢
        clear hd HB2 HR2 l1 l2 hg2
        have hbA : Below wd.heap.size wd (wd.alloc (.cells #[.int .i64 0, .string ⟨#[]⟩, .string ⟨#[]⟩] 26)) := (Below.refl wd.heap.size wd).alloc (Nat.le_refl _) _
        have hxA := r3_new wd 0 ⟨#[]⟩ ⟨#[]⟩ 26
        have hgA := Nat.lt_of_lt_of_le hS0.1 hbA.size
        have hS1 : g2 < (wd.alloc (.cells #[.int .i64 0, .string ⟨#[]⟩, .string ⟨#[]⟩] 26)).heap.size ∧ (wd.alloc (.cells #[.int .i64 0, .string ⟨#[]⟩, .string ⟨#[]⟩] 26)).cell? ⟨g2, off + 1, none⟩ = some (.string PB) ∧ (wd.alloc (.cells #[.int .i64 0, .string ⟨#[]⟩, .string ⟨#[]⟩] 26)).cell? ⟨g2, off + 2, none⟩ = some (.string PC) := ⟨hgA, (hbA.cell (p := ⟨g2, off + 1, none⟩) hS0.1).trans hS0.2.1, (hbA.cell (p := ⟨g2, off + 2, none⟩) hS0.1).trans hS0.2.2⟩
        have HB4 := Lib.hid (Bel.call HB3.out hbA)
        have HR4 := Lib.hid (HR3.out.below hbA)
        have hne : g2 ≠ wd.heap.size := Nat.ne_of_lt hS0.1
        have hne2 : w.heap.size ≠ wd.heap.size := Nat.ne_of_lt HR3.out.1.1
        have hge : w.heap.size ≤ wd.heap.size := Nat.le_of_lt HR3.out.1.1
        refine wpAnyH_ready (rs := [9]) (by kernel_rfl) (by simp) ?_
        refine AllReadyH.cons (by rw [List.getElem?_toArray]; rfl) (fun K hK => ?_) AllReadyH.nil
        go_simp
        refine hK.out _ _ (by exact hS1) (fun hHeld => ?_)
        try simp only [Act.put, List.setIfInBounds_toArray, List.set_cons_zero, List.set_cons_succ]
        clear hHeld
        generalize wd.alloc (.cells #[.int .i64 0, .string ⟨#[]⟩, .string ⟨#[]⟩] 26) = wb at hbA hxA hS1 HB4 HR4 ⊢
        have HXA := Lib.hid hxA
        obtain ⟨⟨p0, b0, b1, b2⟩, u0, u1, u2⟩ := hxA
        clear hbA hgA hS0 HB3 HR3
        refine wpAnyH_ready (rs := [10]) (by kernel_rfl) (by simp) ?_
        refine AllReadyH.cons (by rw [List.getElem?_toArray]; rfl) (fun K hK => ?_) AllReadyH.nil
        go_simp
        refine hK.out _ _ (by exact row_set3 (w := wb) hS1 hne) (fun hHeld => ?_)
        try simp only [Act.put, List.setIfInBounds_toArray, List.set_cons_zero, List.set_cons_succ]
        clear hHeld
        refine wpAnyH_done (by kernel_rfl) ?_ _
        rw [set3_eq]
        have HX3 := Lib.hid (r3_set (ep := E) (S := PB) (G := PC) HXA.out)
        have HR5 := Lib.hid (r3_other (x := .int .i64 E) (y := .string PB) (z := .string PC) HR4.out hne2)
        have HB5 := Lib.hid (bel_set3 (a := .int .i64 E) (b := .string PB) (c := .string PC) HB4.out hge)
        generalize set3 wb wd.heap.size (.int .i64 E) (.string PB) (.string PC) = wc at HX3 HR5 HB5 ⊢
        clear b0 b1 b2 u0 u1 u2 hS1 HB4 HR4 HXA p0
        obtain ⟨⟨_, e0, e1, e2⟩, _⟩ := HX3.out
        obtain ⟨⟨_, c0, c1, c2⟩, f0, f1, f2⟩ := HR5.out
        go_wp2
        refine bodyPost_ret (v := .tuple #[Zb, .int .i64 2]) (by simp [results, Tryz.results10, go_sem, Zb, c0, c1, c2]) rfl ?_
        exact ⟨⟨_, by rw [← HX.out]; exact zb_is, by rw [← HX.out]⟩, bel_set3 HB5.out (Nat.le_refl _)⟩
    · rw [if_pos (.inr h3)] at hx
      have HX := Lib.hid hx
      go_enter Tryz.func10, Tryz.ntmps10
      go_wp2_with fail
      with_reducible refine (HT.out _).mono ?_
      rintro e w1 ⟨⟨A, cc, ys, hys, hlc, hsr, rfl⟩, hb1⟩
      have HR1 := Lib.hid (r3_first hb1)
      have HB1 := Lib.hid (bel_box hb1)
      have h3' : ¬ ys.length = 3 := by rw [bl_len hys]; exact h3
      have h3b : ((ys.length : Int) == 3) = false := by rw [beq_eq_false_iff_ne]; omega
      have h3c : ((ys.length : Int) != 3) = true := by simp [bne, h3b]
      clear hb1 hys hlc hsr h3 hlen hx
      dsimp only
      obtain ⟨⟨_, c0, c1, c2⟩, f0, f1, f2⟩ := HR1.out
      go_wp2
      refine bodyPost_ret (v := .tuple #[Zb, .int .i64 2]) (by simp [results, Tryz.results10, go_sem, Zb, c0, c1, c2]) rfl ?_
      exact ⟨⟨_, by rw [← HX.out]; exact zb_is, by rw [← HX.out]⟩, bel_set3 HB1.out (Nat.le_refl _)⟩
  · rw [if_pos (.inl hf)] at hx
    have HX := Lib.hid hx
    have hfb : (f == 0) = false := by simpa using hf
    have hfb2 : (f != 0) = true := by simpa using hf
    clear hf hlen hx
    go_enter Tryz.func10, Tryz.ntmps10
    go_wp2_with fail
    with_reducible refine (HT.out _).mono ?_
    rintro e w1 ⟨⟨A, cc, ys, hys, hlc, hsr, rfl⟩, hb1⟩
    have HR1 := Lib.hid (r3_first hb1)
    have HB1 := Lib.hid (bel_box hb1)
    clear hb1 hys hlc hsr
    dsimp only
    obtain ⟨⟨_, c0, c1, c2⟩, f0, f1, f2⟩ := HR1.out
    go_wp2
    refine bodyPost_ret (v := .tuple #[Zb, .int .i64 2]) (by simp [results, Tryz.results10, go_sem, Zb, c0, c1, c2]) rfl ?_
    exact ⟨⟨_, by rw [← HX.out]; exact zb_is, by rw [← HX.out]⟩, bel_set3 HB1.out (Nat.le_refl _)⟩
end Go.Proofs.YtjdignbmlfbdnaaGreat.Dta
