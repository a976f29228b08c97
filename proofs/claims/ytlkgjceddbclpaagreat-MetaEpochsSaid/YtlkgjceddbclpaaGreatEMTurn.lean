/-
  MTurn. By an AI agent.
-/
import Derived.Test.YtlkgjceddbclpaaGreatEZ
import Derived.Test.YtlkgjceddbclpaaGreatEActs
namespace Go.Proofs.YtlkgjceddbclpaaGreat.Rig
open Go.RowKit Wire

set_option linter.unusedSimpArgs false
def Wn (u : Tm) : Prop := ∃ m, m < 8 ∧ u = (whoN m).data.toList
theorem Wn.nm {u : Tm} (h : Wn u) : nm u = true := by obtain ⟨m, hm, rfl⟩ := h; exact who_right hm
def Ann (r : Rt) : Prop := RR r ∧ (r.o = annaB.data.toList ∧ r.f = notesB.data.toList) ∧ ∀ x, x ∈ r.rs ∨ x ∈ r.ws → Wn x
theorem ann0 : Ann r0 := ⟨rr0, ⟨rfl, rfl⟩, fun x h => by rcases h with h | h <;> exact (List.not_mem_nil h).elim⟩
theorem ann_gr {r : Rt} (h : Ann r) {u : Tm} {wr : Bool} (hu : Wn u) (h2 : (gr r u wr).2 = 0) : Ann (gr r u wr).1 := by
 rcases gr_cases r u wr h.1 hu.nm with ⟨e, _⟩ | ⟨e, _⟩ | ⟨_, _, e, hr⟩
 · rw [e] at h2; cases h2
 · rw [e] at h2; cases h2
 ·
  refine ⟨hr, ?_, fun x hx => ?_⟩
  · rcases e with ⟨_, e⟩ | ⟨_, e⟩ <;> rw [e] <;> exact h.2.1
  ·
   rcases e with ⟨_, e⟩ | ⟨_, e⟩
   ·
    rw [e] at hx
    rcases hx with hx | hx
    · exact h.2.2 x (.inl hx)
    ·
     rcases mem_ins.1 hx with rfl | hx
     · exact hu
     · exact h.2.2 x (.inr hx)
   ·
    rw [e] at hx
    rcases hx with hx | hx
    ·
     rcases mem_ins.1 hx with rfl | hx
     · exact hu
     · exact h.2.2 x (.inl hx)
    · exact h.2.2 x (.inr hx)
theorem ann_rv {r : Rt} (h : Ann r) {u : Tm} (hu : Wn u) (h2 : (rv r u).2 = 0) : Ann (rv r u).1 := by
 rcases rv_cases r u h.1 hu.nm with ⟨e, _⟩ | ⟨e, _⟩ | ⟨_, _, e, hr⟩
 · rw [e] at h2; cases h2
 · rw [e] at h2; cases h2
 ·
  refine ⟨hr, ?_, fun x hx => ?_⟩
  · rw [e]; exact h.2.1
  ·
   rw [e] at hx
   rcases hx with hx | hx
   · exact h.2.2 x (.inl (mem_del.1 hx).1)
   · exact h.2.2 x (.inr (mem_del.1 hx).1)
theorem gr_out (r : Rt) (u : Tm) (wr : Bool) (hr : RR r) (hu : Wn u) : ∃ s e, gr r u wr = (s, e) ∧ (e = 0 ∨ e = 5 ∨ e = 10) := by
 rcases gr_cases r u wr hr hu.nm with ⟨e, _⟩ | ⟨e, _⟩ | ⟨_, _, e, _⟩
 · exact ⟨_, _, e, .inr (.inl rfl)⟩
 · exact ⟨_, _, e, .inr (.inr rfl)⟩
 · rcases e with ⟨_, e⟩ | ⟨_, e⟩ <;> exact ⟨_, _, e, .inl rfl⟩
theorem rv_out (r : Rt) (u : Tm) (hr : RR r) (hu : Wn u) : ∃ s e, rv r u = (s, e) ∧ (e = 0 ∨ e = 4 ∨ e = 9) := by
 rcases rv_cases r u hr hu.nm with ⟨e, _⟩ | ⟨e, _⟩ | ⟨_, _, e, _⟩
 · exact ⟨_, _, e, .inr (.inl rfl)⟩
 · exact ⟨_, _, e, .inr (.inr rfl)⟩
 · exact ⟨_, _, e, .inl rfl⟩
def TurnE (gs : List Nat) (e : Ending) (w' : World) : Prop := ∃ v r, Ann r ∧ IsX (Off gs) w' v r ∧ e = .returned v
set_option maxHeartbeats 16000000 in
set_option maxRecDepth 1000000 in
theorem turned_any (a : Option Addr) (n c : Nat) (Z : Nat → Nat → Int) (gs : List Nat) (w : World) (ha : Acts.AReads 2 w a n Z) (hg : ∀ g ∈ gs, g < w.heap.size) :
  Calls Tryz.prog 11 #[.slice a n c] w fun e w' => TurnE gs e w' ∧ Below w.heap.size w w' := by
 have HA := zh ha; have HGS := zh hg
 have HN : Hid (∀ w gs, (∀ g ∈ gs, g < w.heap.size) → Calls Tryz.prog 46 #[.string ⟨#[97, 110, 110, 97]⟩, .string ⟨#[110, 111, 116, 101, 115]⟩] w fun e w' => Re (Off gs) (r0, 0) e w' ∧ Below w.heap.size w w') := fun w gs hg => by
  have h := rnew_is gs annaB notesB w hg (by decide) (by decide)
  rw [new0] at h
  exact h
 clear ha hg
 go_enter Tryz.func11, Tryz.ntmps11
 go_wp2_with fail
 have hz : HoldL (w.heap.size :: gs) w.heap.size (w.alloc (.cells #[.string ⟨#[]⟩, .string ⟨#[]⟩, .int .i64 0, .slice none 0 0, .slice none 0 0] 27)) ⟨#[]⟩ ⟨#[]⟩ 0 none 0 0 none 0 0 zero := hold_zero _ _ _
 have hbz := al w (.cells #[.string ⟨#[]⟩, .string ⟨#[]⟩, .int .i64 0, .slice none 0 0, .slice none 0 0] 27)
 obtain ⟨gz, hgz⟩ : ∃ g, w.heap.size = g := ⟨_, rfl⟩
 generalize w.alloc (.cells #[.string ⟨#[]⟩, .string ⟨#[]⟩, .int .i64 0, .slice none 0 0, .slice none 0 0] 27) = wz at hz hbz ⊢
 rw [hgz] at hz ⊢; have HHz := zh hz; have HBz := zh hbz
 have HGZ : Hid (w.heap.size ≤ gz) := Nat.le_of_eq hgz
 clear hz hbz hgz
 go_wp2_with fail
 (with_reducible refine (HN.out _ _ (gs_cons HHz.out.lt (fun b hb => Nat.lt_of_lt_of_le (HGS.out b hb) HBz.out.size))).mono ?_); rintro e1 w1 ⟨⟨v1, hx1, rfl⟩, hb1⟩; obtain ⟨o1, f1, p1, A1, n1, c1, B1, m1, d1, rfl, hp1, hn1, hm1, ho1, hf1, hx1⟩ := isX_lit hx1; have HB1 := zh (Bel.call HBz.out hb1); replace HHz := zh (HHz.out.call hb1); have HX1 := zh hx1; have HO1 := zh ho1; have HF1 := zh hf1; have HP1 := zh hp1; have HN1 := zh hn1; have HM1 := zh hm1; clear hb1 hx1 ho1 hf1 hp1 hn1 hm1; dsimp only at HX1 HO1 HF1 HP1 HN1 HM1 ⊢
 go_wp2_with fail
 obtain ⟨ga, hga⟩ : ∃ g, w1.heap.size = g := ⟨_, rfl⟩
 have HGA : Hid (w.heap.size ≤ ga) := by rw [← hga]; exact HB1.out.size
 have HZA : Hid (gz ≠ ga) := by rw [← hga]; exact Nat.ne_of_lt HHz.out.lt
 have hh2 := hold_alloc (t := 27) HX1.out
 have hba2 := al w1 (.cells #[.string o1, .string f1, .int .i64 p1, .slice A1 n1 c1, .slice B1 m1 d1] 27)
 have hnz2 := HHz.out.new (ob := (.cells #[.string o1, .string f1, .int .i64 p1, .slice A1 n1 c1, .slice B1 m1 d1] 27))
 generalize w1.alloc (.cells #[.string o1, .string f1, .int .i64 p1, .slice A1 n1 c1, .slice B1 m1 d1] 27) = w2 at hh2 hba2 hnz2 ⊢
 rw [hga] at hh2 hnz2 ⊢
 replace HHz := zh hnz2
 have HHa := zh hh2; have HB2 := zh (Bel.call HB1.out hba2); clear hh2 hba2 hga hnz2; have HGAl := zh HHa.out.lt
 go_loopw [5] (fun i wr => ∃ (k : Nat) (r : Rt), k ≤ n ∧ i = .int .i64 (k : Int) ∧ Hid (Ann r ∧ Hold (ga :: gz :: gs) ga wr r ∧ HoldL (ga :: gz :: gs) gz wr ⟨#[]⟩ ⟨#[]⟩ 0 none 0 0 none 0 0 zero ∧ Below w.heap.size w wr)) (fun i _ => n - (intOf i).toNat)
 case atStart => exact ⟨0, r0, Nat.zero_le _, rfl, zh ⟨ann0, HHa.out.shut, HHz.out, HB2.out⟩⟩
 case round =>
  clear HHa HHz HB2 HGAl; obtain ⟨k, r, hk, rfl, HI⟩ := hrel; obtain ⟨hann, hha0, hhz, hbw⟩ := HI.out; have HHz := zh hhz; have HBw := zh hbw; have HAN := zh hann; clear hhz hbw hann HI; obtain ⟨oa, fa, pa, Aa, na, ca, Ba, ma, da, hha, hpa, hna, hma, hoa, hfa⟩ := hha0; have HHa := zh hha; have HOa := zh hoa; have HFa := zh hfa; have HPa := zh hpa; have HNa := zh hna; have HMa := zh hma; clear hha hpa hna hma hoa hfa
  by_cases hlt : (k : Int) < (n : Int)
  ·
   by_cases h40 : (k : Int) < 40
   ·
    obtain ⟨ba, offa, rfl, hba, hc⟩ := HA.out k (by omega); obtain ⟨hc0, hz0⟩ := hc 0 (by decide); obtain ⟨hc1, hz1⟩ := hc 1 (by decide); clear hc; rw [Nat.add_zero] at hc0; obtain ⟨z0, hz⟩ : ∃ z, Z k 0 = z := ⟨_, rfl⟩; rw [hz] at hc0 hz0; clear hz; obtain ⟨z1, hz⟩ : ∃ z, Z k 1 = z := ⟨_, rfl⟩; rw [hz] at hc1 hz1; clear hz
    have hm3 := pk_lt z0 (n := 3) (by decide)
    have HPK : Hid (∀ w, Calls Tryz.prog 12 #[.int .i64 z0, .int .i64 3] w fun e w' => e = .returned (.int .i64 (pk z0 3 : Int)) ∧ w' = w) := fun w => pick7_any z0 3 w hz0 (by decide) (by decide)
    obtain ⟨m, hm⟩ : ∃ m, pk z0 3 = m := ⟨_, rfl⟩; rw [hm] at HPK hm3; clear hm
    have hm8 := pk_lt z1 (n := 8) (by decide)
    have HWHO := zh fun w => who_any z1 w hz1
    have hun : Wn (whoN (pk z1 8)).data.toList := ⟨_, hm8, rfl⟩
    have hus := who_size (pk z1 8)
    obtain ⟨U, hU⟩ : ∃ U, whoN (pk z1 8) = U := ⟨_, rfl⟩; rw [hU] at HWHO hun hus; clear hU hm8 hz0 hz1; have HUN := zh hun
    have hu5 : U.size ≤ 10000 := by omega
    clear hun hus
    have l0 : wr.cell? ⟨ba, offa + k * 2, none⟩ = some (.int .i64 z0) := (HBw.out.cell (p := ⟨ba, offa + k * 2, none⟩) hba).trans hc0
    obtain hm | hm | hm : m = 0 ∨ m = 1 ∨ m = 2 := by omega
    ·
     subst hm
     obtain ⟨s, e, hse, he⟩ := gr_out r U.data.toList false HAN.out.1 HUN.out
     have HCO : Hid (∀ v w gs, (∀ g ∈ gs, g < w.heap.size) → IsX (Off gs) w v r → Calls Tryz.prog 47 #[v, .string U, .bool false] w fun en w' => Re (Off gs) (s, e) en w' ∧ Below w.heap.size w w') := fun v w gs hg hx => by
      have h := rgrant_is gs v r U false w hg hx (few_right HAN.out.1) hu5
      rw [hse] at h
      exact h
     have HAN2 : Hid (e = 0 → Ann s) := fun h0 => by
      have h := ann_gr HAN.out (wr := false) (u := U.data.toList) HUN.out (by rw [hse]; exact h0)
      rw [hse] at h
      exact h
     clear hse
     obtain rfl | rfl | rfl := he
     ·
      replace HAN2 := zh (HAN2.out rfl); obtain ⟨⟨ac0, ac1, ac2, ac3, ac4, _⟩, _, _⟩ := HHa.out; obtain ⟨gq, hgq⟩ : ∃ g, wr.heap.size = g := ⟨_, rfl⟩
      have hq := hold_alloc (t := 27) HHa.out.isX
      have hbq := al wr (.cells #[.string oa, .string fa, .int .i64 pa, .slice Aa na ca, .slice Ba ma da] 27)
      have ha := HHa.out.new (ob := (.cells #[.string oa, .string fa, .int .i64 pa, .slice Aa na ca, .slice Ba ma da] 27))
      have hz := HHz.out.new (ob := (.cells #[.string oa, .string fa, .int .i64 pa, .slice Aa na ca, .slice Ba ma da] 27))
      have HNA : Hid (ga ≠ gq) := by rw [← hgq]; exact Nat.ne_of_lt HHa.out.lt
      have HNZ : Hid (gz ≠ gq) := by rw [← hgq]; exact Nat.ne_of_lt HHz.out.lt
      have HGQ : Hid (w.heap.size ≤ gq) := by rw [← hgq]; exact HBw.out.size
      replace l0 := (hbq.cell (p := ⟨ba, offa + k * 2, none⟩) (Nat.lt_of_lt_of_le hba HBw.out.size)).trans l0
      have HQ := zh hq; have HBQ := zh hbq; have HQA := zh ha; have HQZ := zh hz; have HGG := zh hgq; clear hq hbq ha hz hgq
      go_wp2_with fail
      clear l0
      have hq := HQ.out
      have hbq := HBQ.out
      have ha := HQA.out
      have hz := HQZ.out
      have hgq := HGG.out
      clear HQ HBQ HQA HQZ HGG; clear ac0 ac1 ac2 ac3 ac4
      generalize wr.alloc (.cells #[.string oa, .string fa, .int .i64 pa, .slice Aa na ca, .slice Ba ma da] 27) = w101 at hq hbq ha hz ⊢
      rw [hgq] at hq ha hz ⊢; have HHq := zh hq
      replace HHa := zh ha
      replace HHz := zh hz
      have HB101 := zh (Bel.call HBw.out hbq); clear hq hbq ha hz hgq
      have hm0 : (0 : Int) ≤ (0 : Int) := by decide
      (with_reducible refine (HPK.out _).mono ?_); rintro e102 v102 ⟨rfl, h102⟩
      obtain rfl : w101 = v102 := h102.symm
      dsimp only
      go_wp2_with fail
      have hd103 := Below.drewN' (Below.refl w101.heap.size w101) 1
      obtain ⟨w103, hw103⟩ : ∃ w1, w101.drew = w1 := ⟨_, rfl⟩
      replace hd103 : Below w101.heap.size w101 w103 := by rw [← hw103]; exact hd103
      have HB103 := zh (Bel.call HB101.out hd103); replace HHa := zh (HHa.out.call hd103); replace HHz := zh (HHz.out.call hd103); replace HHq := zh (HHq.out.call hd103)
      refine wp_region_held_drew (S := fun w' => Below w.heap.size w w' ∧ HoldL (gq :: ga :: gz :: gs) ga w' oa fa pa Aa na ca Ba ma da r) (by kernel_rfl) (by rw [hw103]; exact ⟨HB103.out, HHa.out⟩) (fun hHeld => ?_)
      rw [hw103] at hHeld ⊢; clear hw103 hd103; refine zqT 0 ?_ ?_ ?_; rotate_left
      · intro w' hSw; obtain ⟨hs1, ⟨⟨ac0, ac1, ac2, ac3, ac4, _⟩, _⟩⟩ := hSw; have hl := (hs1.cell (p := ⟨ba, offa + k * 2 + 1, none⟩) hba).trans hc1; go_simp; try with_reducible rfl
      (try simp only [Act.put, zq1, zq2, zq3]); refine zqT 1 ?_ ?_ ?_; rotate_left
      · intro w' hSw; obtain ⟨hs1, ⟨⟨ac0, ac1, ac2, ac3, ac4, _⟩, _⟩⟩ := hSw; have hl := (hs1.cell (p := ⟨ba, offa + k * 2 + 1, none⟩) hba).trans hc1; go_simp; try with_reducible rfl
      (try simp only [Act.put, zq1, zq2, zq3]); refine zqT 2 ?_ ?_ ?_; rotate_left
      · intro w' hSw; obtain ⟨hs1, ⟨⟨ac0, ac1, ac2, ac3, ac4, _⟩, _⟩⟩ := hSw; have hl := (hs1.cell (p := ⟨ba, offa + k * 2 + 1, none⟩) hba).trans hc1; go_simp; try with_reducible rfl
      (try simp only [Act.put, zq1, zq2, zq3]); refine zqT 3 ?_ ?_ ?_; rotate_left
      · intro w' hSw; obtain ⟨hs1, ⟨⟨ac0, ac1, ac2, ac3, ac4, _⟩, _⟩⟩ := hSw; have hl := (hs1.cell (p := ⟨ba, offa + k * 2 + 1, none⟩) hba).trans hc1; go_simp; try with_reducible rfl
      (try simp only [Act.put, zq1, zq2, zq3]); refine zqT 4 ?_ ?_ ?_; rotate_left
      · intro w' hSw; obtain ⟨hs1, ⟨⟨ac0, ac1, ac2, ac3, ac4, _⟩, _⟩⟩ := hSw; have hl := (hs1.cell (p := ⟨ba, offa + k * 2 + 1, none⟩) hba).trans hc1; go_simp; try with_reducible rfl
      (try simp only [Act.put, zq1, zq2, zq3]); refine zqT 5 ?_ ?_ ?_; rotate_left
      · intro w' hSw; obtain ⟨hs1, ⟨⟨ac0, ac1, ac2, ac3, ac4, _⟩, _⟩⟩ := hSw; have hl := (hs1.cell (p := ⟨ba, offa + k * 2 + 1, none⟩) hba).trans hc1; go_simp; try with_reducible rfl
      (try simp only [Act.put, zq1, zq2, zq3]); clear hHeld; refine zqR [6] ?_
      refine zqN fun K hK => ?_
      go_simp
      go_at_call 37
      (with_reducible refine (HWHO.out _).mono ?_); rintro e104 w104 ⟨rfl, hb104⟩; have HB104 := zh (Bel.call HB103.out hb104); replace HHa := zh (HHa.out.call hb104); replace HHz := zh (HHz.out.call hb104); replace HHq := zh (HHq.out.call hb104); clear hb104; dsimp only; refine hK.out _ _ ⟨HB104.out, HHa.out⟩ (fun hHeld => ?_); (try simp only [Act.put, zq1, zq2, zq3]); clear hHeld; refine zqR [7] ?_
      refine zqN fun K hK => ?_
      go_simp
      go_at_call 47
      (with_reducible refine (HCO.out _ _ _ (gs_cons HHq.out.lt (gs_cons HHa.out.lt (gs_cons HHz.out.lt (fun b hb => Nat.lt_of_lt_of_le (HGS.out b hb) HB104.out.size)))) HHa.out.isX).mono ?_); rintro e105 w105 ⟨⟨v105, hx105, rfl⟩, hb105⟩; obtain ⟨o105, f105, p105, A105, n105, c105, B105, m105, d105, rfl, hp105, hn105, hm105, ho105, hf105, hx105⟩ := isX_lit hx105; have HB105 := zh (Bel.call HB104.out hb105); replace HHa := zh (HHa.out.call hb105); replace HHz := zh (HHz.out.call hb105); replace HHq := zh (HHq.out.call hb105); have HX105 := zh hx105; clear hb105 hx105 ho105 hf105 hp105 hn105 hm105; dsimp only at HX105 ⊢; refine hK.out _ _ ⟨HB105.out, HHa.out⟩ (fun hHeld => ?_); (try simp only [Act.put, zq1, zq2, zq3]); refine zqT 8 ?_ ?_ ?_; rotate_left
      · intro w' hSw; obtain ⟨hs1, ⟨⟨ac0, ac1, ac2, ac3, ac4, _⟩, _⟩⟩ := hSw; have hl := (hs1.cell (p := ⟨ba, offa + k * 2 + 1, none⟩) hba).trans hc1; go_simp; try with_reducible rfl
      (try simp only [Act.put, zq1, zq2, zq3]); refine zqT 9 ?_ ?_ ?_; rotate_left
      · intro w' hSw; obtain ⟨hs1, ⟨⟨ac0, ac1, ac2, ac3, ac4, _⟩, _⟩⟩ := hSw; have hl := (hs1.cell (p := ⟨ba, offa + k * 2 + 1, none⟩) hba).trans hc1; go_simp; try with_reducible rfl
      (try simp only [Act.put, zq1, zq2, zq3]); refine zqT 10 ?_ ?_ ?_; rotate_left
      · intro w' hSw; obtain ⟨hs1, ⟨⟨ac0, ac1, ac2, ac3, ac4, _⟩, _⟩⟩ := hSw; have hl := (hs1.cell (p := ⟨ba, offa + k * 2 + 1, none⟩) hba).trans hc1; go_simp; try with_reducible rfl
      (try simp only [Act.put, zq1, zq2, zq3]); clear hHeld; obtain ⟨⟨qc0, qc1, qc2, qc3, qc4, _⟩, ⟨qz0, qz1, qz2, qz3, qz4⟩, _⟩ := HHq.out; refine zqR [11] ?_
      refine zqN fun K hK => ?_
      go_simp
      have hq := hold_set5 (List.mem_cons_self ..) HHq.out HX105.out
      have hz := HHz.out.set5 (G := gq) (List.mem_cons_self ..) HNZ.out (v0 := .string o105) (v1 := .string f105) (v2 := .int .i64 p105) (v3 := .slice A105 n105 c105) (v4 := .slice B105 m105 d105)
      have ha := HHa.out.set5 (G := gq) (List.mem_cons_self ..) HNA.out (v0 := .string o105) (v1 := .string f105) (v2 := .int .i64 p105) (v3 := .slice A105 n105 c105) (v4 := .slice B105 m105 d105)
      have hbq : Below w.heap.size w (((((w105.setCell ⟨gq, 0, none⟩ (.string o105)).setCell ⟨gq, 1, none⟩ (.string f105)).setCell ⟨gq, 2, none⟩ (.int .i64 p105)).setCell ⟨gq, 3, none⟩ (.slice A105 n105 c105)).setCell ⟨gq, 4, none⟩ (.slice B105 m105 d105)) := set5 HB105.out HGQ.out
      clear qc0 qc1 qc2 qc3 qc4 qz0 qz1 qz2 qz3 qz4
      generalize (((((w105.setCell ⟨gq, 0, none⟩ (.string o105)).setCell ⟨gq, 1, none⟩ (.string f105)).setCell ⟨gq, 2, none⟩ (.int .i64 p105)).setCell ⟨gq, 3, none⟩ (.slice A105 n105 c105)).setCell ⟨gq, 4, none⟩ (.slice B105 m105 d105)) = w106 at hq hz ha hbq ⊢
      refine hK.out _ _ ⟨hbq, ha⟩ (fun hHeld => ?_); (try simp only [Act.put, zq1, zq2, zq3]); refine zqT 12 ?_ ?_ ?_; rotate_left
      · intro w' hSw; obtain ⟨hs1, ⟨⟨ac0, ac1, ac2, ac3, ac4, _⟩, _⟩⟩ := hSw; have hl := (hs1.cell (p := ⟨ba, offa + k * 2 + 1, none⟩) hba).trans hc1; go_simp; try with_reducible rfl
      (try simp only [Act.put, zq1, zq2, zq3]); clear hHeld
      refine wpAnyH_done (by kernel_rfl) ?_ _
      replace HHa := zh ha
      replace HHz := zh hz
      replace HHq := zh hq
      have HB106 := zh hbq; clear ha hz hq hbq; obtain ⟨⟨qc0, qc1, qc2, qc3, qc4, _⟩, _, _⟩ := HHq.out; obtain ⟨⟨ac0, ac1, ac2, ac3, ac4, _⟩, ⟨az0, az1, az2, az3, az4⟩, _⟩ := HHa.out
      have hne := HNA.out
      have hne' : ¬ gq = ga := fun h => HNA.out h.symm
      go_wp2
      go_roundw
      case rel =>
       refine ⟨k + 1, s, by omega, by go_num, zh ⟨HAN2.out, ((hold_set5 (List.mem_cons_of_mem _ (List.mem_cons_self ..)) HHa.out HHq.out.isX).sub (fun b hb => List.mem_cons_of_mem _ hb)).shut, ?_, ?_⟩⟩
       · exact (HHz.out.set5 (List.mem_cons_of_mem _ (List.mem_cons_self ..)) HZA.out).sub (fun b hb => List.mem_cons_of_mem _ hb)
       · exact set5 HB106.out HGA.out
      case measure => simp [intOf]; omega
     ·
      clear HAN2; obtain ⟨⟨ac0, ac1, ac2, ac3, ac4, _⟩, _, _⟩ := HHa.out; obtain ⟨gq, hgq⟩ : ∃ g, wr.heap.size = g := ⟨_, rfl⟩
      have hq := hold_alloc (t := 27) HHa.out.isX
      have hbq := al wr (.cells #[.string oa, .string fa, .int .i64 pa, .slice Aa na ca, .slice Ba ma da] 27)
      have ha := HHa.out.new (ob := (.cells #[.string oa, .string fa, .int .i64 pa, .slice Aa na ca, .slice Ba ma da] 27))
      have hz := HHz.out.new (ob := (.cells #[.string oa, .string fa, .int .i64 pa, .slice Aa na ca, .slice Ba ma da] 27))
      have HNA : Hid (ga ≠ gq) := by rw [← hgq]; exact Nat.ne_of_lt HHa.out.lt
      have HNZ : Hid (gz ≠ gq) := by rw [← hgq]; exact Nat.ne_of_lt HHz.out.lt
      have HGQ : Hid (w.heap.size ≤ gq) := by rw [← hgq]; exact HBw.out.size
      replace l0 := (hbq.cell (p := ⟨ba, offa + k * 2, none⟩) (Nat.lt_of_lt_of_le hba HBw.out.size)).trans l0
      have HQ := zh hq; have HBQ := zh hbq; have HQA := zh ha; have HQZ := zh hz; have HGG := zh hgq; clear hq hbq ha hz hgq
      go_wp2_with fail
      clear l0
      have hq := HQ.out
      have hbq := HBQ.out
      have ha := HQA.out
      have hz := HQZ.out
      have hgq := HGG.out
      clear HQ HBQ HQA HQZ HGG; clear ac0 ac1 ac2 ac3 ac4
      generalize wr.alloc (.cells #[.string oa, .string fa, .int .i64 pa, .slice Aa na ca, .slice Ba ma da] 27) = w101 at hq hbq ha hz ⊢
      rw [hgq] at hq ha hz ⊢; have HHq := zh hq
      replace HHa := zh ha
      replace HHz := zh hz
      have HB101 := zh (Bel.call HBw.out hbq); clear hq hbq ha hz hgq
      have hm0 : (0 : Int) ≤ (0 : Int) := by decide
      (with_reducible refine (HPK.out _).mono ?_); rintro e102 v102 ⟨rfl, h102⟩
      obtain rfl : w101 = v102 := h102.symm
      dsimp only
      go_wp2_with fail
      have hd103 := Below.drewN' (Below.refl w101.heap.size w101) 1
      obtain ⟨w103, hw103⟩ : ∃ w1, w101.drew = w1 := ⟨_, rfl⟩
      replace hd103 : Below w101.heap.size w101 w103 := by rw [← hw103]; exact hd103
      have HB103 := zh (Bel.call HB101.out hd103); replace HHa := zh (HHa.out.call hd103); replace HHz := zh (HHz.out.call hd103); replace HHq := zh (HHq.out.call hd103)
      refine wp_region_held_drew (S := fun w' => Below w.heap.size w w' ∧ HoldL (gq :: ga :: gz :: gs) ga w' oa fa pa Aa na ca Ba ma da r) (by kernel_rfl) (by rw [hw103]; exact ⟨HB103.out, HHa.out⟩) (fun hHeld => ?_)
      rw [hw103] at hHeld ⊢; clear hw103 hd103; refine zqT 0 ?_ ?_ ?_; rotate_left
      · intro w' hSw; obtain ⟨hs1, ⟨⟨ac0, ac1, ac2, ac3, ac4, _⟩, _⟩⟩ := hSw; have hl := (hs1.cell (p := ⟨ba, offa + k * 2 + 1, none⟩) hba).trans hc1; go_simp; try with_reducible rfl
      (try simp only [Act.put, zq1, zq2, zq3]); refine zqT 1 ?_ ?_ ?_; rotate_left
      · intro w' hSw; obtain ⟨hs1, ⟨⟨ac0, ac1, ac2, ac3, ac4, _⟩, _⟩⟩ := hSw; have hl := (hs1.cell (p := ⟨ba, offa + k * 2 + 1, none⟩) hba).trans hc1; go_simp; try with_reducible rfl
      (try simp only [Act.put, zq1, zq2, zq3]); refine zqT 2 ?_ ?_ ?_; rotate_left
      · intro w' hSw; obtain ⟨hs1, ⟨⟨ac0, ac1, ac2, ac3, ac4, _⟩, _⟩⟩ := hSw; have hl := (hs1.cell (p := ⟨ba, offa + k * 2 + 1, none⟩) hba).trans hc1; go_simp; try with_reducible rfl
      (try simp only [Act.put, zq1, zq2, zq3]); refine zqT 3 ?_ ?_ ?_; rotate_left
      · intro w' hSw; obtain ⟨hs1, ⟨⟨ac0, ac1, ac2, ac3, ac4, _⟩, _⟩⟩ := hSw; have hl := (hs1.cell (p := ⟨ba, offa + k * 2 + 1, none⟩) hba).trans hc1; go_simp; try with_reducible rfl
      (try simp only [Act.put, zq1, zq2, zq3]); refine zqT 4 ?_ ?_ ?_; rotate_left
      · intro w' hSw; obtain ⟨hs1, ⟨⟨ac0, ac1, ac2, ac3, ac4, _⟩, _⟩⟩ := hSw; have hl := (hs1.cell (p := ⟨ba, offa + k * 2 + 1, none⟩) hba).trans hc1; go_simp; try with_reducible rfl
      (try simp only [Act.put, zq1, zq2, zq3]); refine zqT 5 ?_ ?_ ?_; rotate_left
      · intro w' hSw; obtain ⟨hs1, ⟨⟨ac0, ac1, ac2, ac3, ac4, _⟩, _⟩⟩ := hSw; have hl := (hs1.cell (p := ⟨ba, offa + k * 2 + 1, none⟩) hba).trans hc1; go_simp; try with_reducible rfl
      (try simp only [Act.put, zq1, zq2, zq3]); clear hHeld; refine zqR [6] ?_
      refine zqN fun K hK => ?_
      go_simp
      go_at_call 37
      (with_reducible refine (HWHO.out _).mono ?_); rintro e104 w104 ⟨rfl, hb104⟩; have HB104 := zh (Bel.call HB103.out hb104); replace HHa := zh (HHa.out.call hb104); replace HHz := zh (HHz.out.call hb104); replace HHq := zh (HHq.out.call hb104); clear hb104; dsimp only; refine hK.out _ _ ⟨HB104.out, HHa.out⟩ (fun hHeld => ?_); (try simp only [Act.put, zq1, zq2, zq3]); clear hHeld; refine zqR [7] ?_
      refine zqN fun K hK => ?_
      go_simp
      go_at_call 47
      (with_reducible refine (HCO.out _ _ _ (gs_cons HHq.out.lt (gs_cons HHa.out.lt (gs_cons HHz.out.lt (fun b hb => Nat.lt_of_lt_of_le (HGS.out b hb) HB104.out.size)))) HHa.out.isX).mono ?_); rintro e105 w105 ⟨⟨v105, hx105, rfl⟩, hb105⟩; obtain ⟨o105, f105, p105, A105, n105, c105, B105, m105, d105, rfl, hp105, hn105, hm105, ho105, hf105, hx105⟩ := isX_lit hx105; have HB105 := zh (Bel.call HB104.out hb105); replace HHa := zh (HHa.out.call hb105); replace HHz := zh (HHz.out.call hb105); replace HHq := zh (HHq.out.call hb105); have HX105 := zh hx105; clear hb105 hx105 ho105 hf105 hp105 hn105 hm105; dsimp only at HX105 ⊢; refine hK.out _ _ ⟨HB105.out, HHa.out⟩ (fun hHeld => ?_); (try simp only [Act.put, zq1, zq2, zq3]); refine zqT 8 ?_ ?_ ?_; rotate_left
      · intro w' hSw; obtain ⟨hs1, ⟨⟨ac0, ac1, ac2, ac3, ac4, _⟩, _⟩⟩ := hSw; have hl := (hs1.cell (p := ⟨ba, offa + k * 2 + 1, none⟩) hba).trans hc1; go_simp; try with_reducible rfl
      (try simp only [Act.put, zq1, zq2, zq3]); refine zqT 9 ?_ ?_ ?_; rotate_left
      · intro w' hSw; obtain ⟨hs1, ⟨⟨ac0, ac1, ac2, ac3, ac4, _⟩, _⟩⟩ := hSw; have hl := (hs1.cell (p := ⟨ba, offa + k * 2 + 1, none⟩) hba).trans hc1; go_simp; try with_reducible rfl
      (try simp only [Act.put, zq1, zq2, zq3]); refine zqT 10 ?_ ?_ ?_; rotate_left
      · intro w' hSw; obtain ⟨hs1, ⟨⟨ac0, ac1, ac2, ac3, ac4, _⟩, _⟩⟩ := hSw; have hl := (hs1.cell (p := ⟨ba, offa + k * 2 + 1, none⟩) hba).trans hc1; go_simp; try with_reducible rfl
      (try simp only [Act.put, zq1, zq2, zq3]); clear hHeld; obtain ⟨⟨qc0, qc1, qc2, qc3, qc4, _⟩, ⟨qz0, qz1, qz2, qz3, qz4⟩, _⟩ := HHq.out; refine zqR [11] ?_
      refine zqN fun K hK => ?_
      go_simp
      have hq := hold_set5 (List.mem_cons_self ..) HHq.out HX105.out
      have hz := HHz.out.set5 (G := gq) (List.mem_cons_self ..) HNZ.out (v0 := .string o105) (v1 := .string f105) (v2 := .int .i64 p105) (v3 := .slice A105 n105 c105) (v4 := .slice B105 m105 d105)
      have ha := HHa.out.set5 (G := gq) (List.mem_cons_self ..) HNA.out (v0 := .string o105) (v1 := .string f105) (v2 := .int .i64 p105) (v3 := .slice A105 n105 c105) (v4 := .slice B105 m105 d105)
      have hbq : Below w.heap.size w (((((w105.setCell ⟨gq, 0, none⟩ (.string o105)).setCell ⟨gq, 1, none⟩ (.string f105)).setCell ⟨gq, 2, none⟩ (.int .i64 p105)).setCell ⟨gq, 3, none⟩ (.slice A105 n105 c105)).setCell ⟨gq, 4, none⟩ (.slice B105 m105 d105)) := set5 HB105.out HGQ.out
      clear qc0 qc1 qc2 qc3 qc4 qz0 qz1 qz2 qz3 qz4
      generalize (((((w105.setCell ⟨gq, 0, none⟩ (.string o105)).setCell ⟨gq, 1, none⟩ (.string f105)).setCell ⟨gq, 2, none⟩ (.int .i64 p105)).setCell ⟨gq, 3, none⟩ (.slice A105 n105 c105)).setCell ⟨gq, 4, none⟩ (.slice B105 m105 d105)) = w106 at hq hz ha hbq ⊢
      refine hK.out _ _ ⟨hbq, ha⟩ (fun hHeld => ?_); (try simp only [Act.put, zq1, zq2, zq3]); refine zqT 12 ?_ ?_ ?_; rotate_left
      · intro w' hSw; obtain ⟨hs1, ⟨⟨ac0, ac1, ac2, ac3, ac4, _⟩, _⟩⟩ := hSw; have hl := (hs1.cell (p := ⟨ba, offa + k * 2 + 1, none⟩) hba).trans hc1; go_simp; try with_reducible rfl
      (try simp only [Act.put, zq1, zq2, zq3]); clear hHeld
      refine wpAnyH_done (by kernel_rfl) ?_ _
      replace HHa := zh ha
      replace HHz := zh hz
      replace HHq := zh hq
      have HB106 := zh hbq; clear ha hz hq hbq
      go_wp2
      go_roundw
      case rel => exact ⟨k + 1, r, by omega, by go_num, zh ⟨HAN.out, (HHa.out.sub (fun b hb => List.mem_cons_of_mem _ hb)).shut, HHz.out.sub (fun b hb => List.mem_cons_of_mem _ hb), HB106.out⟩⟩
      case measure => simp [intOf]; omega
     ·
      clear HAN2; obtain ⟨⟨ac0, ac1, ac2, ac3, ac4, _⟩, _, _⟩ := HHa.out; obtain ⟨gq, hgq⟩ : ∃ g, wr.heap.size = g := ⟨_, rfl⟩
      have hq := hold_alloc (t := 27) HHa.out.isX
      have hbq := al wr (.cells #[.string oa, .string fa, .int .i64 pa, .slice Aa na ca, .slice Ba ma da] 27)
      have ha := HHa.out.new (ob := (.cells #[.string oa, .string fa, .int .i64 pa, .slice Aa na ca, .slice Ba ma da] 27))
      have hz := HHz.out.new (ob := (.cells #[.string oa, .string fa, .int .i64 pa, .slice Aa na ca, .slice Ba ma da] 27))
      have HNA : Hid (ga ≠ gq) := by rw [← hgq]; exact Nat.ne_of_lt HHa.out.lt
      have HNZ : Hid (gz ≠ gq) := by rw [← hgq]; exact Nat.ne_of_lt HHz.out.lt
      have HGQ : Hid (w.heap.size ≤ gq) := by rw [← hgq]; exact HBw.out.size
      replace l0 := (hbq.cell (p := ⟨ba, offa + k * 2, none⟩) (Nat.lt_of_lt_of_le hba HBw.out.size)).trans l0
      have HQ := zh hq; have HBQ := zh hbq; have HQA := zh ha; have HQZ := zh hz; have HGG := zh hgq; clear hq hbq ha hz hgq
      go_wp2_with fail
      clear l0
      have hq := HQ.out
      have hbq := HBQ.out
      have ha := HQA.out
      have hz := HQZ.out
      have hgq := HGG.out
      clear HQ HBQ HQA HQZ HGG; clear ac0 ac1 ac2 ac3 ac4
      generalize wr.alloc (.cells #[.string oa, .string fa, .int .i64 pa, .slice Aa na ca, .slice Ba ma da] 27) = w101 at hq hbq ha hz ⊢
      rw [hgq] at hq ha hz ⊢; have HHq := zh hq
      replace HHa := zh ha
      replace HHz := zh hz
      have HB101 := zh (Bel.call HBw.out hbq); clear hq hbq ha hz hgq
      have hm0 : (0 : Int) ≤ (0 : Int) := by decide
      (with_reducible refine (HPK.out _).mono ?_); rintro e102 v102 ⟨rfl, h102⟩
      obtain rfl : w101 = v102 := h102.symm
      dsimp only
      go_wp2_with fail
      have hd103 := Below.drewN' (Below.refl w101.heap.size w101) 1
      obtain ⟨w103, hw103⟩ : ∃ w1, w101.drew = w1 := ⟨_, rfl⟩
      replace hd103 : Below w101.heap.size w101 w103 := by rw [← hw103]; exact hd103
      have HB103 := zh (Bel.call HB101.out hd103); replace HHa := zh (HHa.out.call hd103); replace HHz := zh (HHz.out.call hd103); replace HHq := zh (HHq.out.call hd103)
      refine wp_region_held_drew (S := fun w' => Below w.heap.size w w' ∧ HoldL (gq :: ga :: gz :: gs) ga w' oa fa pa Aa na ca Ba ma da r) (by kernel_rfl) (by rw [hw103]; exact ⟨HB103.out, HHa.out⟩) (fun hHeld => ?_)
      rw [hw103] at hHeld ⊢; clear hw103 hd103; refine zqT 0 ?_ ?_ ?_; rotate_left
      · intro w' hSw; obtain ⟨hs1, ⟨⟨ac0, ac1, ac2, ac3, ac4, _⟩, _⟩⟩ := hSw; have hl := (hs1.cell (p := ⟨ba, offa + k * 2 + 1, none⟩) hba).trans hc1; go_simp; try with_reducible rfl
      (try simp only [Act.put, zq1, zq2, zq3]); refine zqT 1 ?_ ?_ ?_; rotate_left
      · intro w' hSw; obtain ⟨hs1, ⟨⟨ac0, ac1, ac2, ac3, ac4, _⟩, _⟩⟩ := hSw; have hl := (hs1.cell (p := ⟨ba, offa + k * 2 + 1, none⟩) hba).trans hc1; go_simp; try with_reducible rfl
      (try simp only [Act.put, zq1, zq2, zq3]); refine zqT 2 ?_ ?_ ?_; rotate_left
      · intro w' hSw; obtain ⟨hs1, ⟨⟨ac0, ac1, ac2, ac3, ac4, _⟩, _⟩⟩ := hSw; have hl := (hs1.cell (p := ⟨ba, offa + k * 2 + 1, none⟩) hba).trans hc1; go_simp; try with_reducible rfl
      (try simp only [Act.put, zq1, zq2, zq3]); refine zqT 3 ?_ ?_ ?_; rotate_left
      · intro w' hSw; obtain ⟨hs1, ⟨⟨ac0, ac1, ac2, ac3, ac4, _⟩, _⟩⟩ := hSw; have hl := (hs1.cell (p := ⟨ba, offa + k * 2 + 1, none⟩) hba).trans hc1; go_simp; try with_reducible rfl
      (try simp only [Act.put, zq1, zq2, zq3]); refine zqT 4 ?_ ?_ ?_; rotate_left
      · intro w' hSw; obtain ⟨hs1, ⟨⟨ac0, ac1, ac2, ac3, ac4, _⟩, _⟩⟩ := hSw; have hl := (hs1.cell (p := ⟨ba, offa + k * 2 + 1, none⟩) hba).trans hc1; go_simp; try with_reducible rfl
      (try simp only [Act.put, zq1, zq2, zq3]); refine zqT 5 ?_ ?_ ?_; rotate_left
      · intro w' hSw; obtain ⟨hs1, ⟨⟨ac0, ac1, ac2, ac3, ac4, _⟩, _⟩⟩ := hSw; have hl := (hs1.cell (p := ⟨ba, offa + k * 2 + 1, none⟩) hba).trans hc1; go_simp; try with_reducible rfl
      (try simp only [Act.put, zq1, zq2, zq3]); clear hHeld; refine zqR [6] ?_
      refine zqN fun K hK => ?_
      go_simp
      go_at_call 37
      (with_reducible refine (HWHO.out _).mono ?_); rintro e104 w104 ⟨rfl, hb104⟩; have HB104 := zh (Bel.call HB103.out hb104); replace HHa := zh (HHa.out.call hb104); replace HHz := zh (HHz.out.call hb104); replace HHq := zh (HHq.out.call hb104); clear hb104; dsimp only; refine hK.out _ _ ⟨HB104.out, HHa.out⟩ (fun hHeld => ?_); (try simp only [Act.put, zq1, zq2, zq3]); clear hHeld; refine zqR [7] ?_
      refine zqN fun K hK => ?_
      go_simp
      go_at_call 47
      (with_reducible refine (HCO.out _ _ _ (gs_cons HHq.out.lt (gs_cons HHa.out.lt (gs_cons HHz.out.lt (fun b hb => Nat.lt_of_lt_of_le (HGS.out b hb) HB104.out.size)))) HHa.out.isX).mono ?_); rintro e105 w105 ⟨⟨v105, hx105, rfl⟩, hb105⟩; obtain ⟨o105, f105, p105, A105, n105, c105, B105, m105, d105, rfl, hp105, hn105, hm105, ho105, hf105, hx105⟩ := isX_lit hx105; have HB105 := zh (Bel.call HB104.out hb105); replace HHa := zh (HHa.out.call hb105); replace HHz := zh (HHz.out.call hb105); replace HHq := zh (HHq.out.call hb105); have HX105 := zh hx105; clear hb105 hx105 ho105 hf105 hp105 hn105 hm105; dsimp only at HX105 ⊢; refine hK.out _ _ ⟨HB105.out, HHa.out⟩ (fun hHeld => ?_); (try simp only [Act.put, zq1, zq2, zq3]); refine zqT 8 ?_ ?_ ?_; rotate_left
      · intro w' hSw; obtain ⟨hs1, ⟨⟨ac0, ac1, ac2, ac3, ac4, _⟩, _⟩⟩ := hSw; have hl := (hs1.cell (p := ⟨ba, offa + k * 2 + 1, none⟩) hba).trans hc1; go_simp; try with_reducible rfl
      (try simp only [Act.put, zq1, zq2, zq3]); refine zqT 9 ?_ ?_ ?_; rotate_left
      · intro w' hSw; obtain ⟨hs1, ⟨⟨ac0, ac1, ac2, ac3, ac4, _⟩, _⟩⟩ := hSw; have hl := (hs1.cell (p := ⟨ba, offa + k * 2 + 1, none⟩) hba).trans hc1; go_simp; try with_reducible rfl
      (try simp only [Act.put, zq1, zq2, zq3]); refine zqT 10 ?_ ?_ ?_; rotate_left
      · intro w' hSw; obtain ⟨hs1, ⟨⟨ac0, ac1, ac2, ac3, ac4, _⟩, _⟩⟩ := hSw; have hl := (hs1.cell (p := ⟨ba, offa + k * 2 + 1, none⟩) hba).trans hc1; go_simp; try with_reducible rfl
      (try simp only [Act.put, zq1, zq2, zq3]); clear hHeld; obtain ⟨⟨qc0, qc1, qc2, qc3, qc4, _⟩, ⟨qz0, qz1, qz2, qz3, qz4⟩, _⟩ := HHq.out; refine zqR [11] ?_
      refine zqN fun K hK => ?_
      go_simp
      have hq := hold_set5 (List.mem_cons_self ..) HHq.out HX105.out
      have hz := HHz.out.set5 (G := gq) (List.mem_cons_self ..) HNZ.out (v0 := .string o105) (v1 := .string f105) (v2 := .int .i64 p105) (v3 := .slice A105 n105 c105) (v4 := .slice B105 m105 d105)
      have ha := HHa.out.set5 (G := gq) (List.mem_cons_self ..) HNA.out (v0 := .string o105) (v1 := .string f105) (v2 := .int .i64 p105) (v3 := .slice A105 n105 c105) (v4 := .slice B105 m105 d105)
      have hbq : Below w.heap.size w (((((w105.setCell ⟨gq, 0, none⟩ (.string o105)).setCell ⟨gq, 1, none⟩ (.string f105)).setCell ⟨gq, 2, none⟩ (.int .i64 p105)).setCell ⟨gq, 3, none⟩ (.slice A105 n105 c105)).setCell ⟨gq, 4, none⟩ (.slice B105 m105 d105)) := set5 HB105.out HGQ.out
      clear qc0 qc1 qc2 qc3 qc4 qz0 qz1 qz2 qz3 qz4
      generalize (((((w105.setCell ⟨gq, 0, none⟩ (.string o105)).setCell ⟨gq, 1, none⟩ (.string f105)).setCell ⟨gq, 2, none⟩ (.int .i64 p105)).setCell ⟨gq, 3, none⟩ (.slice A105 n105 c105)).setCell ⟨gq, 4, none⟩ (.slice B105 m105 d105)) = w106 at hq hz ha hbq ⊢
      refine hK.out _ _ ⟨hbq, ha⟩ (fun hHeld => ?_); (try simp only [Act.put, zq1, zq2, zq3]); refine zqT 12 ?_ ?_ ?_; rotate_left
      · intro w' hSw; obtain ⟨hs1, ⟨⟨ac0, ac1, ac2, ac3, ac4, _⟩, _⟩⟩ := hSw; have hl := (hs1.cell (p := ⟨ba, offa + k * 2 + 1, none⟩) hba).trans hc1; go_simp; try with_reducible rfl
      (try simp only [Act.put, zq1, zq2, zq3]); clear hHeld
      refine wpAnyH_done (by kernel_rfl) ?_ _
      replace HHa := zh ha
      replace HHz := zh hz
      replace HHq := zh hq
      have HB106 := zh hbq; clear ha hz hq hbq
      go_wp2
      go_roundw
      case rel => exact ⟨k + 1, r, by omega, by go_num, zh ⟨HAN.out, (HHa.out.sub (fun b hb => List.mem_cons_of_mem _ hb)).shut, HHz.out.sub (fun b hb => List.mem_cons_of_mem _ hb), HB106.out⟩⟩
      case measure => simp [intOf]; omega
    ·
     subst hm
     obtain ⟨s, e, hse, he⟩ := gr_out r U.data.toList true HAN.out.1 HUN.out
     have HCO : Hid (∀ v w gs, (∀ g ∈ gs, g < w.heap.size) → IsX (Off gs) w v r → Calls Tryz.prog 47 #[v, .string U, .bool true] w fun en w' => Re (Off gs) (s, e) en w' ∧ Below w.heap.size w w') := fun v w gs hg hx => by
      have h := rgrant_is gs v r U true w hg hx (few_right HAN.out.1) hu5
      rw [hse] at h
      exact h
     have HAN2 : Hid (e = 0 → Ann s) := fun h0 => by
      have h := ann_gr HAN.out (wr := true) (u := U.data.toList) HUN.out (by rw [hse]; exact h0)
      rw [hse] at h
      exact h
     clear hse
     obtain rfl | rfl | rfl := he
     ·
      replace HAN2 := zh (HAN2.out rfl); obtain ⟨⟨ac0, ac1, ac2, ac3, ac4, _⟩, _, _⟩ := HHa.out; obtain ⟨gq, hgq⟩ : ∃ g, wr.heap.size = g := ⟨_, rfl⟩
      have hq := hold_alloc (t := 27) HHa.out.isX
      have hbq := al wr (.cells #[.string oa, .string fa, .int .i64 pa, .slice Aa na ca, .slice Ba ma da] 27)
      have ha := HHa.out.new (ob := (.cells #[.string oa, .string fa, .int .i64 pa, .slice Aa na ca, .slice Ba ma da] 27))
      have hz := HHz.out.new (ob := (.cells #[.string oa, .string fa, .int .i64 pa, .slice Aa na ca, .slice Ba ma da] 27))
      have HNA : Hid (ga ≠ gq) := by rw [← hgq]; exact Nat.ne_of_lt HHa.out.lt
      have HNZ : Hid (gz ≠ gq) := by rw [← hgq]; exact Nat.ne_of_lt HHz.out.lt
      have HGQ : Hid (w.heap.size ≤ gq) := by rw [← hgq]; exact HBw.out.size
      replace l0 := (hbq.cell (p := ⟨ba, offa + k * 2, none⟩) (Nat.lt_of_lt_of_le hba HBw.out.size)).trans l0
      have HQ := zh hq; have HBQ := zh hbq; have HQA := zh ha; have HQZ := zh hz; have HGG := zh hgq; clear hq hbq ha hz hgq
      go_wp2_with fail
      clear l0
      have hq := HQ.out
      have hbq := HBQ.out
      have ha := HQA.out
      have hz := HQZ.out
      have hgq := HGG.out
      clear HQ HBQ HQA HQZ HGG; clear ac0 ac1 ac2 ac3 ac4
      generalize wr.alloc (.cells #[.string oa, .string fa, .int .i64 pa, .slice Aa na ca, .slice Ba ma da] 27) = w101 at hq hbq ha hz ⊢
      rw [hgq] at hq ha hz ⊢; have HHq := zh hq
      replace HHa := zh ha
      replace HHz := zh hz
      have HB101 := zh (Bel.call HBw.out hbq); clear hq hbq ha hz hgq
      have hm0 : (0 : Int) ≤ (1 : Int) := by decide
      (with_reducible refine (HPK.out _).mono ?_); rintro e102 v102 ⟨rfl, h102⟩
      obtain rfl : w101 = v102 := h102.symm
      dsimp only
      go_wp2_with fail
      have hd103 := Below.drewN' (Below.refl w101.heap.size w101) 1
      obtain ⟨w103, hw103⟩ : ∃ w1, w101.drew = w1 := ⟨_, rfl⟩
      replace hd103 : Below w101.heap.size w101 w103 := by rw [← hw103]; exact hd103
      have HB103 := zh (Bel.call HB101.out hd103); replace HHa := zh (HHa.out.call hd103); replace HHz := zh (HHz.out.call hd103); replace HHq := zh (HHq.out.call hd103)
      refine wp_region_held_drew (S := fun w' => Below w.heap.size w w' ∧ HoldL (gq :: ga :: gz :: gs) ga w' oa fa pa Aa na ca Ba ma da r) (by kernel_rfl) (by rw [hw103]; exact ⟨HB103.out, HHa.out⟩) (fun hHeld => ?_)
      rw [hw103] at hHeld ⊢; clear hw103 hd103; refine zqT 0 ?_ ?_ ?_; rotate_left
      · intro w' hSw; obtain ⟨hs1, ⟨⟨ac0, ac1, ac2, ac3, ac4, _⟩, _⟩⟩ := hSw; have hl := (hs1.cell (p := ⟨ba, offa + k * 2 + 1, none⟩) hba).trans hc1; go_simp; try with_reducible rfl
      (try simp only [Act.put, zq1, zq2, zq3]); refine zqT 1 ?_ ?_ ?_; rotate_left
      · intro w' hSw; obtain ⟨hs1, ⟨⟨ac0, ac1, ac2, ac3, ac4, _⟩, _⟩⟩ := hSw; have hl := (hs1.cell (p := ⟨ba, offa + k * 2 + 1, none⟩) hba).trans hc1; go_simp; try with_reducible rfl
      (try simp only [Act.put, zq1, zq2, zq3]); refine zqT 2 ?_ ?_ ?_; rotate_left
      · intro w' hSw; obtain ⟨hs1, ⟨⟨ac0, ac1, ac2, ac3, ac4, _⟩, _⟩⟩ := hSw; have hl := (hs1.cell (p := ⟨ba, offa + k * 2 + 1, none⟩) hba).trans hc1; go_simp; try with_reducible rfl
      (try simp only [Act.put, zq1, zq2, zq3]); refine zqT 3 ?_ ?_ ?_; rotate_left
      · intro w' hSw; obtain ⟨hs1, ⟨⟨ac0, ac1, ac2, ac3, ac4, _⟩, _⟩⟩ := hSw; have hl := (hs1.cell (p := ⟨ba, offa + k * 2 + 1, none⟩) hba).trans hc1; go_simp; try with_reducible rfl
      (try simp only [Act.put, zq1, zq2, zq3]); refine zqT 4 ?_ ?_ ?_; rotate_left
      · intro w' hSw; obtain ⟨hs1, ⟨⟨ac0, ac1, ac2, ac3, ac4, _⟩, _⟩⟩ := hSw; have hl := (hs1.cell (p := ⟨ba, offa + k * 2 + 1, none⟩) hba).trans hc1; go_simp; try with_reducible rfl
      (try simp only [Act.put, zq1, zq2, zq3]); refine zqT 5 ?_ ?_ ?_; rotate_left
      · intro w' hSw; obtain ⟨hs1, ⟨⟨ac0, ac1, ac2, ac3, ac4, _⟩, _⟩⟩ := hSw; have hl := (hs1.cell (p := ⟨ba, offa + k * 2 + 1, none⟩) hba).trans hc1; go_simp; try with_reducible rfl
      (try simp only [Act.put, zq1, zq2, zq3]); clear hHeld; refine zqR [6] ?_
      refine zqN fun K hK => ?_
      go_simp
      go_at_call 37
      (with_reducible refine (HWHO.out _).mono ?_); rintro e104 w104 ⟨rfl, hb104⟩; have HB104 := zh (Bel.call HB103.out hb104); replace HHa := zh (HHa.out.call hb104); replace HHz := zh (HHz.out.call hb104); replace HHq := zh (HHq.out.call hb104); clear hb104; dsimp only; refine hK.out _ _ ⟨HB104.out, HHa.out⟩ (fun hHeld => ?_); (try simp only [Act.put, zq1, zq2, zq3]); clear hHeld; refine zqR [7] ?_
      refine zqN fun K hK => ?_
      go_simp
      go_at_call 47
      (with_reducible refine (HCO.out _ _ _ (gs_cons HHq.out.lt (gs_cons HHa.out.lt (gs_cons HHz.out.lt (fun b hb => Nat.lt_of_lt_of_le (HGS.out b hb) HB104.out.size)))) HHa.out.isX).mono ?_); rintro e105 w105 ⟨⟨v105, hx105, rfl⟩, hb105⟩; obtain ⟨o105, f105, p105, A105, n105, c105, B105, m105, d105, rfl, hp105, hn105, hm105, ho105, hf105, hx105⟩ := isX_lit hx105; have HB105 := zh (Bel.call HB104.out hb105); replace HHa := zh (HHa.out.call hb105); replace HHz := zh (HHz.out.call hb105); replace HHq := zh (HHq.out.call hb105); have HX105 := zh hx105; clear hb105 hx105 ho105 hf105 hp105 hn105 hm105; dsimp only at HX105 ⊢; refine hK.out _ _ ⟨HB105.out, HHa.out⟩ (fun hHeld => ?_); (try simp only [Act.put, zq1, zq2, zq3]); refine zqT 8 ?_ ?_ ?_; rotate_left
      · intro w' hSw; obtain ⟨hs1, ⟨⟨ac0, ac1, ac2, ac3, ac4, _⟩, _⟩⟩ := hSw; have hl := (hs1.cell (p := ⟨ba, offa + k * 2 + 1, none⟩) hba).trans hc1; go_simp; try with_reducible rfl
      (try simp only [Act.put, zq1, zq2, zq3]); refine zqT 9 ?_ ?_ ?_; rotate_left
      · intro w' hSw; obtain ⟨hs1, ⟨⟨ac0, ac1, ac2, ac3, ac4, _⟩, _⟩⟩ := hSw; have hl := (hs1.cell (p := ⟨ba, offa + k * 2 + 1, none⟩) hba).trans hc1; go_simp; try with_reducible rfl
      (try simp only [Act.put, zq1, zq2, zq3]); refine zqT 10 ?_ ?_ ?_; rotate_left
      · intro w' hSw; obtain ⟨hs1, ⟨⟨ac0, ac1, ac2, ac3, ac4, _⟩, _⟩⟩ := hSw; have hl := (hs1.cell (p := ⟨ba, offa + k * 2 + 1, none⟩) hba).trans hc1; go_simp; try with_reducible rfl
      (try simp only [Act.put, zq1, zq2, zq3]); clear hHeld; obtain ⟨⟨qc0, qc1, qc2, qc3, qc4, _⟩, ⟨qz0, qz1, qz2, qz3, qz4⟩, _⟩ := HHq.out; refine zqR [11] ?_
      refine zqN fun K hK => ?_
      go_simp
      have hq := hold_set5 (List.mem_cons_self ..) HHq.out HX105.out
      have hz := HHz.out.set5 (G := gq) (List.mem_cons_self ..) HNZ.out (v0 := .string o105) (v1 := .string f105) (v2 := .int .i64 p105) (v3 := .slice A105 n105 c105) (v4 := .slice B105 m105 d105)
      have ha := HHa.out.set5 (G := gq) (List.mem_cons_self ..) HNA.out (v0 := .string o105) (v1 := .string f105) (v2 := .int .i64 p105) (v3 := .slice A105 n105 c105) (v4 := .slice B105 m105 d105)
      have hbq : Below w.heap.size w (((((w105.setCell ⟨gq, 0, none⟩ (.string o105)).setCell ⟨gq, 1, none⟩ (.string f105)).setCell ⟨gq, 2, none⟩ (.int .i64 p105)).setCell ⟨gq, 3, none⟩ (.slice A105 n105 c105)).setCell ⟨gq, 4, none⟩ (.slice B105 m105 d105)) := set5 HB105.out HGQ.out
      clear qc0 qc1 qc2 qc3 qc4 qz0 qz1 qz2 qz3 qz4
      generalize (((((w105.setCell ⟨gq, 0, none⟩ (.string o105)).setCell ⟨gq, 1, none⟩ (.string f105)).setCell ⟨gq, 2, none⟩ (.int .i64 p105)).setCell ⟨gq, 3, none⟩ (.slice A105 n105 c105)).setCell ⟨gq, 4, none⟩ (.slice B105 m105 d105)) = w106 at hq hz ha hbq ⊢
      refine hK.out _ _ ⟨hbq, ha⟩ (fun hHeld => ?_); (try simp only [Act.put, zq1, zq2, zq3]); refine zqT 12 ?_ ?_ ?_; rotate_left
      · intro w' hSw; obtain ⟨hs1, ⟨⟨ac0, ac1, ac2, ac3, ac4, _⟩, _⟩⟩ := hSw; have hl := (hs1.cell (p := ⟨ba, offa + k * 2 + 1, none⟩) hba).trans hc1; go_simp; try with_reducible rfl
      (try simp only [Act.put, zq1, zq2, zq3]); clear hHeld
      refine wpAnyH_done (by kernel_rfl) ?_ _
      replace HHa := zh ha
      replace HHz := zh hz
      replace HHq := zh hq
      have HB106 := zh hbq; clear ha hz hq hbq; obtain ⟨⟨qc0, qc1, qc2, qc3, qc4, _⟩, _, _⟩ := HHq.out; obtain ⟨⟨ac0, ac1, ac2, ac3, ac4, _⟩, ⟨az0, az1, az2, az3, az4⟩, _⟩ := HHa.out
      have hne := HNA.out
      have hne' : ¬ gq = ga := fun h => HNA.out h.symm
      go_wp2
      go_roundw
      case rel =>
       refine ⟨k + 1, s, by omega, by go_num, zh ⟨HAN2.out, ((hold_set5 (List.mem_cons_of_mem _ (List.mem_cons_self ..)) HHa.out HHq.out.isX).sub (fun b hb => List.mem_cons_of_mem _ hb)).shut, ?_, ?_⟩⟩
       · exact (HHz.out.set5 (List.mem_cons_of_mem _ (List.mem_cons_self ..)) HZA.out).sub (fun b hb => List.mem_cons_of_mem _ hb)
       · exact set5 HB106.out HGA.out
      case measure => simp [intOf]; omega
     ·
      clear HAN2; obtain ⟨⟨ac0, ac1, ac2, ac3, ac4, _⟩, _, _⟩ := HHa.out; obtain ⟨gq, hgq⟩ : ∃ g, wr.heap.size = g := ⟨_, rfl⟩
      have hq := hold_alloc (t := 27) HHa.out.isX
      have hbq := al wr (.cells #[.string oa, .string fa, .int .i64 pa, .slice Aa na ca, .slice Ba ma da] 27)
      have ha := HHa.out.new (ob := (.cells #[.string oa, .string fa, .int .i64 pa, .slice Aa na ca, .slice Ba ma da] 27))
      have hz := HHz.out.new (ob := (.cells #[.string oa, .string fa, .int .i64 pa, .slice Aa na ca, .slice Ba ma da] 27))
      have HNA : Hid (ga ≠ gq) := by rw [← hgq]; exact Nat.ne_of_lt HHa.out.lt
      have HNZ : Hid (gz ≠ gq) := by rw [← hgq]; exact Nat.ne_of_lt HHz.out.lt
      have HGQ : Hid (w.heap.size ≤ gq) := by rw [← hgq]; exact HBw.out.size
      replace l0 := (hbq.cell (p := ⟨ba, offa + k * 2, none⟩) (Nat.lt_of_lt_of_le hba HBw.out.size)).trans l0
      have HQ := zh hq; have HBQ := zh hbq; have HQA := zh ha; have HQZ := zh hz; have HGG := zh hgq; clear hq hbq ha hz hgq
      go_wp2_with fail
      clear l0
      have hq := HQ.out
      have hbq := HBQ.out
      have ha := HQA.out
      have hz := HQZ.out
      have hgq := HGG.out
      clear HQ HBQ HQA HQZ HGG; clear ac0 ac1 ac2 ac3 ac4
      generalize wr.alloc (.cells #[.string oa, .string fa, .int .i64 pa, .slice Aa na ca, .slice Ba ma da] 27) = w101 at hq hbq ha hz ⊢
      rw [hgq] at hq ha hz ⊢; have HHq := zh hq
      replace HHa := zh ha
      replace HHz := zh hz
      have HB101 := zh (Bel.call HBw.out hbq); clear hq hbq ha hz hgq
      have hm0 : (0 : Int) ≤ (1 : Int) := by decide
      (with_reducible refine (HPK.out _).mono ?_); rintro e102 v102 ⟨rfl, h102⟩
      obtain rfl : w101 = v102 := h102.symm
      dsimp only
      go_wp2_with fail
      have hd103 := Below.drewN' (Below.refl w101.heap.size w101) 1
      obtain ⟨w103, hw103⟩ : ∃ w1, w101.drew = w1 := ⟨_, rfl⟩
      replace hd103 : Below w101.heap.size w101 w103 := by rw [← hw103]; exact hd103
      have HB103 := zh (Bel.call HB101.out hd103); replace HHa := zh (HHa.out.call hd103); replace HHz := zh (HHz.out.call hd103); replace HHq := zh (HHq.out.call hd103)
      refine wp_region_held_drew (S := fun w' => Below w.heap.size w w' ∧ HoldL (gq :: ga :: gz :: gs) ga w' oa fa pa Aa na ca Ba ma da r) (by kernel_rfl) (by rw [hw103]; exact ⟨HB103.out, HHa.out⟩) (fun hHeld => ?_)
      rw [hw103] at hHeld ⊢; clear hw103 hd103; refine zqT 0 ?_ ?_ ?_; rotate_left
      · intro w' hSw; obtain ⟨hs1, ⟨⟨ac0, ac1, ac2, ac3, ac4, _⟩, _⟩⟩ := hSw; have hl := (hs1.cell (p := ⟨ba, offa + k * 2 + 1, none⟩) hba).trans hc1; go_simp; try with_reducible rfl
      (try simp only [Act.put, zq1, zq2, zq3]); refine zqT 1 ?_ ?_ ?_; rotate_left
      · intro w' hSw; obtain ⟨hs1, ⟨⟨ac0, ac1, ac2, ac3, ac4, _⟩, _⟩⟩ := hSw; have hl := (hs1.cell (p := ⟨ba, offa + k * 2 + 1, none⟩) hba).trans hc1; go_simp; try with_reducible rfl
      (try simp only [Act.put, zq1, zq2, zq3]); refine zqT 2 ?_ ?_ ?_; rotate_left
      · intro w' hSw; obtain ⟨hs1, ⟨⟨ac0, ac1, ac2, ac3, ac4, _⟩, _⟩⟩ := hSw; have hl := (hs1.cell (p := ⟨ba, offa + k * 2 + 1, none⟩) hba).trans hc1; go_simp; try with_reducible rfl
      (try simp only [Act.put, zq1, zq2, zq3]); refine zqT 3 ?_ ?_ ?_; rotate_left
      · intro w' hSw; obtain ⟨hs1, ⟨⟨ac0, ac1, ac2, ac3, ac4, _⟩, _⟩⟩ := hSw; have hl := (hs1.cell (p := ⟨ba, offa + k * 2 + 1, none⟩) hba).trans hc1; go_simp; try with_reducible rfl
      (try simp only [Act.put, zq1, zq2, zq3]); refine zqT 4 ?_ ?_ ?_; rotate_left
      · intro w' hSw; obtain ⟨hs1, ⟨⟨ac0, ac1, ac2, ac3, ac4, _⟩, _⟩⟩ := hSw; have hl := (hs1.cell (p := ⟨ba, offa + k * 2 + 1, none⟩) hba).trans hc1; go_simp; try with_reducible rfl
      (try simp only [Act.put, zq1, zq2, zq3]); refine zqT 5 ?_ ?_ ?_; rotate_left
      · intro w' hSw; obtain ⟨hs1, ⟨⟨ac0, ac1, ac2, ac3, ac4, _⟩, _⟩⟩ := hSw; have hl := (hs1.cell (p := ⟨ba, offa + k * 2 + 1, none⟩) hba).trans hc1; go_simp; try with_reducible rfl
      (try simp only [Act.put, zq1, zq2, zq3]); clear hHeld; refine zqR [6] ?_
      refine zqN fun K hK => ?_
      go_simp
      go_at_call 37
      (with_reducible refine (HWHO.out _).mono ?_); rintro e104 w104 ⟨rfl, hb104⟩; have HB104 := zh (Bel.call HB103.out hb104); replace HHa := zh (HHa.out.call hb104); replace HHz := zh (HHz.out.call hb104); replace HHq := zh (HHq.out.call hb104); clear hb104; dsimp only; refine hK.out _ _ ⟨HB104.out, HHa.out⟩ (fun hHeld => ?_); (try simp only [Act.put, zq1, zq2, zq3]); clear hHeld; refine zqR [7] ?_
      refine zqN fun K hK => ?_
      go_simp
      go_at_call 47
      (with_reducible refine (HCO.out _ _ _ (gs_cons HHq.out.lt (gs_cons HHa.out.lt (gs_cons HHz.out.lt (fun b hb => Nat.lt_of_lt_of_le (HGS.out b hb) HB104.out.size)))) HHa.out.isX).mono ?_); rintro e105 w105 ⟨⟨v105, hx105, rfl⟩, hb105⟩; obtain ⟨o105, f105, p105, A105, n105, c105, B105, m105, d105, rfl, hp105, hn105, hm105, ho105, hf105, hx105⟩ := isX_lit hx105; have HB105 := zh (Bel.call HB104.out hb105); replace HHa := zh (HHa.out.call hb105); replace HHz := zh (HHz.out.call hb105); replace HHq := zh (HHq.out.call hb105); have HX105 := zh hx105; clear hb105 hx105 ho105 hf105 hp105 hn105 hm105; dsimp only at HX105 ⊢; refine hK.out _ _ ⟨HB105.out, HHa.out⟩ (fun hHeld => ?_); (try simp only [Act.put, zq1, zq2, zq3]); refine zqT 8 ?_ ?_ ?_; rotate_left
      · intro w' hSw; obtain ⟨hs1, ⟨⟨ac0, ac1, ac2, ac3, ac4, _⟩, _⟩⟩ := hSw; have hl := (hs1.cell (p := ⟨ba, offa + k * 2 + 1, none⟩) hba).trans hc1; go_simp; try with_reducible rfl
      (try simp only [Act.put, zq1, zq2, zq3]); refine zqT 9 ?_ ?_ ?_; rotate_left
      · intro w' hSw; obtain ⟨hs1, ⟨⟨ac0, ac1, ac2, ac3, ac4, _⟩, _⟩⟩ := hSw; have hl := (hs1.cell (p := ⟨ba, offa + k * 2 + 1, none⟩) hba).trans hc1; go_simp; try with_reducible rfl
      (try simp only [Act.put, zq1, zq2, zq3]); refine zqT 10 ?_ ?_ ?_; rotate_left
      · intro w' hSw; obtain ⟨hs1, ⟨⟨ac0, ac1, ac2, ac3, ac4, _⟩, _⟩⟩ := hSw; have hl := (hs1.cell (p := ⟨ba, offa + k * 2 + 1, none⟩) hba).trans hc1; go_simp; try with_reducible rfl
      (try simp only [Act.put, zq1, zq2, zq3]); clear hHeld; obtain ⟨⟨qc0, qc1, qc2, qc3, qc4, _⟩, ⟨qz0, qz1, qz2, qz3, qz4⟩, _⟩ := HHq.out; refine zqR [11] ?_
      refine zqN fun K hK => ?_
      go_simp
      have hq := hold_set5 (List.mem_cons_self ..) HHq.out HX105.out
      have hz := HHz.out.set5 (G := gq) (List.mem_cons_self ..) HNZ.out (v0 := .string o105) (v1 := .string f105) (v2 := .int .i64 p105) (v3 := .slice A105 n105 c105) (v4 := .slice B105 m105 d105)
      have ha := HHa.out.set5 (G := gq) (List.mem_cons_self ..) HNA.out (v0 := .string o105) (v1 := .string f105) (v2 := .int .i64 p105) (v3 := .slice A105 n105 c105) (v4 := .slice B105 m105 d105)
      have hbq : Below w.heap.size w (((((w105.setCell ⟨gq, 0, none⟩ (.string o105)).setCell ⟨gq, 1, none⟩ (.string f105)).setCell ⟨gq, 2, none⟩ (.int .i64 p105)).setCell ⟨gq, 3, none⟩ (.slice A105 n105 c105)).setCell ⟨gq, 4, none⟩ (.slice B105 m105 d105)) := set5 HB105.out HGQ.out
      clear qc0 qc1 qc2 qc3 qc4 qz0 qz1 qz2 qz3 qz4
      generalize (((((w105.setCell ⟨gq, 0, none⟩ (.string o105)).setCell ⟨gq, 1, none⟩ (.string f105)).setCell ⟨gq, 2, none⟩ (.int .i64 p105)).setCell ⟨gq, 3, none⟩ (.slice A105 n105 c105)).setCell ⟨gq, 4, none⟩ (.slice B105 m105 d105)) = w106 at hq hz ha hbq ⊢
      refine hK.out _ _ ⟨hbq, ha⟩ (fun hHeld => ?_); (try simp only [Act.put, zq1, zq2, zq3]); refine zqT 12 ?_ ?_ ?_; rotate_left
      · intro w' hSw; obtain ⟨hs1, ⟨⟨ac0, ac1, ac2, ac3, ac4, _⟩, _⟩⟩ := hSw; have hl := (hs1.cell (p := ⟨ba, offa + k * 2 + 1, none⟩) hba).trans hc1; go_simp; try with_reducible rfl
      (try simp only [Act.put, zq1, zq2, zq3]); clear hHeld
      refine wpAnyH_done (by kernel_rfl) ?_ _
      replace HHa := zh ha
      replace HHz := zh hz
      replace HHq := zh hq
      have HB106 := zh hbq; clear ha hz hq hbq
      go_wp2
      go_roundw
      case rel => exact ⟨k + 1, r, by omega, by go_num, zh ⟨HAN.out, (HHa.out.sub (fun b hb => List.mem_cons_of_mem _ hb)).shut, HHz.out.sub (fun b hb => List.mem_cons_of_mem _ hb), HB106.out⟩⟩
      case measure => simp [intOf]; omega
     ·
      clear HAN2; obtain ⟨⟨ac0, ac1, ac2, ac3, ac4, _⟩, _, _⟩ := HHa.out; obtain ⟨gq, hgq⟩ : ∃ g, wr.heap.size = g := ⟨_, rfl⟩
      have hq := hold_alloc (t := 27) HHa.out.isX
      have hbq := al wr (.cells #[.string oa, .string fa, .int .i64 pa, .slice Aa na ca, .slice Ba ma da] 27)
      have ha := HHa.out.new (ob := (.cells #[.string oa, .string fa, .int .i64 pa, .slice Aa na ca, .slice Ba ma da] 27))
      have hz := HHz.out.new (ob := (.cells #[.string oa, .string fa, .int .i64 pa, .slice Aa na ca, .slice Ba ma da] 27))
      have HNA : Hid (ga ≠ gq) := by rw [← hgq]; exact Nat.ne_of_lt HHa.out.lt
      have HNZ : Hid (gz ≠ gq) := by rw [← hgq]; exact Nat.ne_of_lt HHz.out.lt
      have HGQ : Hid (w.heap.size ≤ gq) := by rw [← hgq]; exact HBw.out.size
      replace l0 := (hbq.cell (p := ⟨ba, offa + k * 2, none⟩) (Nat.lt_of_lt_of_le hba HBw.out.size)).trans l0
      have HQ := zh hq; have HBQ := zh hbq; have HQA := zh ha; have HQZ := zh hz; have HGG := zh hgq; clear hq hbq ha hz hgq
      go_wp2_with fail
      clear l0
      have hq := HQ.out
      have hbq := HBQ.out
      have ha := HQA.out
      have hz := HQZ.out
      have hgq := HGG.out
      clear HQ HBQ HQA HQZ HGG; clear ac0 ac1 ac2 ac3 ac4
      generalize wr.alloc (.cells #[.string oa, .string fa, .int .i64 pa, .slice Aa na ca, .slice Ba ma da] 27) = w101 at hq hbq ha hz ⊢
      rw [hgq] at hq ha hz ⊢; have HHq := zh hq
      replace HHa := zh ha
      replace HHz := zh hz
      have HB101 := zh (Bel.call HBw.out hbq); clear hq hbq ha hz hgq
      have hm0 : (0 : Int) ≤ (1 : Int) := by decide
      (with_reducible refine (HPK.out _).mono ?_); rintro e102 v102 ⟨rfl, h102⟩
      obtain rfl : w101 = v102 := h102.symm
      dsimp only
      go_wp2_with fail
      have hd103 := Below.drewN' (Below.refl w101.heap.size w101) 1
      obtain ⟨w103, hw103⟩ : ∃ w1, w101.drew = w1 := ⟨_, rfl⟩
      replace hd103 : Below w101.heap.size w101 w103 := by rw [← hw103]; exact hd103
      have HB103 := zh (Bel.call HB101.out hd103); replace HHa := zh (HHa.out.call hd103); replace HHz := zh (HHz.out.call hd103); replace HHq := zh (HHq.out.call hd103)
      refine wp_region_held_drew (S := fun w' => Below w.heap.size w w' ∧ HoldL (gq :: ga :: gz :: gs) ga w' oa fa pa Aa na ca Ba ma da r) (by kernel_rfl) (by rw [hw103]; exact ⟨HB103.out, HHa.out⟩) (fun hHeld => ?_)
      rw [hw103] at hHeld ⊢; clear hw103 hd103; refine zqT 0 ?_ ?_ ?_; rotate_left
      · intro w' hSw; obtain ⟨hs1, ⟨⟨ac0, ac1, ac2, ac3, ac4, _⟩, _⟩⟩ := hSw; have hl := (hs1.cell (p := ⟨ba, offa + k * 2 + 1, none⟩) hba).trans hc1; go_simp; try with_reducible rfl
      (try simp only [Act.put, zq1, zq2, zq3]); refine zqT 1 ?_ ?_ ?_; rotate_left
      · intro w' hSw; obtain ⟨hs1, ⟨⟨ac0, ac1, ac2, ac3, ac4, _⟩, _⟩⟩ := hSw; have hl := (hs1.cell (p := ⟨ba, offa + k * 2 + 1, none⟩) hba).trans hc1; go_simp; try with_reducible rfl
      (try simp only [Act.put, zq1, zq2, zq3]); refine zqT 2 ?_ ?_ ?_; rotate_left
      · intro w' hSw; obtain ⟨hs1, ⟨⟨ac0, ac1, ac2, ac3, ac4, _⟩, _⟩⟩ := hSw; have hl := (hs1.cell (p := ⟨ba, offa + k * 2 + 1, none⟩) hba).trans hc1; go_simp; try with_reducible rfl
      (try simp only [Act.put, zq1, zq2, zq3]); refine zqT 3 ?_ ?_ ?_; rotate_left
      · intro w' hSw; obtain ⟨hs1, ⟨⟨ac0, ac1, ac2, ac3, ac4, _⟩, _⟩⟩ := hSw; have hl := (hs1.cell (p := ⟨ba, offa + k * 2 + 1, none⟩) hba).trans hc1; go_simp; try with_reducible rfl
      (try simp only [Act.put, zq1, zq2, zq3]); refine zqT 4 ?_ ?_ ?_; rotate_left
      · intro w' hSw; obtain ⟨hs1, ⟨⟨ac0, ac1, ac2, ac3, ac4, _⟩, _⟩⟩ := hSw; have hl := (hs1.cell (p := ⟨ba, offa + k * 2 + 1, none⟩) hba).trans hc1; go_simp; try with_reducible rfl
      (try simp only [Act.put, zq1, zq2, zq3]); refine zqT 5 ?_ ?_ ?_; rotate_left
      · intro w' hSw; obtain ⟨hs1, ⟨⟨ac0, ac1, ac2, ac3, ac4, _⟩, _⟩⟩ := hSw; have hl := (hs1.cell (p := ⟨ba, offa + k * 2 + 1, none⟩) hba).trans hc1; go_simp; try with_reducible rfl
      (try simp only [Act.put, zq1, zq2, zq3]); clear hHeld; refine zqR [6] ?_
      refine zqN fun K hK => ?_
      go_simp
      go_at_call 37
      (with_reducible refine (HWHO.out _).mono ?_); rintro e104 w104 ⟨rfl, hb104⟩; have HB104 := zh (Bel.call HB103.out hb104); replace HHa := zh (HHa.out.call hb104); replace HHz := zh (HHz.out.call hb104); replace HHq := zh (HHq.out.call hb104); clear hb104; dsimp only; refine hK.out _ _ ⟨HB104.out, HHa.out⟩ (fun hHeld => ?_); (try simp only [Act.put, zq1, zq2, zq3]); clear hHeld; refine zqR [7] ?_
      refine zqN fun K hK => ?_
      go_simp
      go_at_call 47
      (with_reducible refine (HCO.out _ _ _ (gs_cons HHq.out.lt (gs_cons HHa.out.lt (gs_cons HHz.out.lt (fun b hb => Nat.lt_of_lt_of_le (HGS.out b hb) HB104.out.size)))) HHa.out.isX).mono ?_); rintro e105 w105 ⟨⟨v105, hx105, rfl⟩, hb105⟩; obtain ⟨o105, f105, p105, A105, n105, c105, B105, m105, d105, rfl, hp105, hn105, hm105, ho105, hf105, hx105⟩ := isX_lit hx105; have HB105 := zh (Bel.call HB104.out hb105); replace HHa := zh (HHa.out.call hb105); replace HHz := zh (HHz.out.call hb105); replace HHq := zh (HHq.out.call hb105); have HX105 := zh hx105; clear hb105 hx105 ho105 hf105 hp105 hn105 hm105; dsimp only at HX105 ⊢; refine hK.out _ _ ⟨HB105.out, HHa.out⟩ (fun hHeld => ?_); (try simp only [Act.put, zq1, zq2, zq3]); refine zqT 8 ?_ ?_ ?_; rotate_left
      · intro w' hSw; obtain ⟨hs1, ⟨⟨ac0, ac1, ac2, ac3, ac4, _⟩, _⟩⟩ := hSw; have hl := (hs1.cell (p := ⟨ba, offa + k * 2 + 1, none⟩) hba).trans hc1; go_simp; try with_reducible rfl
      (try simp only [Act.put, zq1, zq2, zq3]); refine zqT 9 ?_ ?_ ?_; rotate_left
      · intro w' hSw; obtain ⟨hs1, ⟨⟨ac0, ac1, ac2, ac3, ac4, _⟩, _⟩⟩ := hSw; have hl := (hs1.cell (p := ⟨ba, offa + k * 2 + 1, none⟩) hba).trans hc1; go_simp; try with_reducible rfl
      (try simp only [Act.put, zq1, zq2, zq3]); refine zqT 10 ?_ ?_ ?_; rotate_left
      · intro w' hSw; obtain ⟨hs1, ⟨⟨ac0, ac1, ac2, ac3, ac4, _⟩, _⟩⟩ := hSw; have hl := (hs1.cell (p := ⟨ba, offa + k * 2 + 1, none⟩) hba).trans hc1; go_simp; try with_reducible rfl
      (try simp only [Act.put, zq1, zq2, zq3]); clear hHeld; obtain ⟨⟨qc0, qc1, qc2, qc3, qc4, _⟩, ⟨qz0, qz1, qz2, qz3, qz4⟩, _⟩ := HHq.out; refine zqR [11] ?_
      refine zqN fun K hK => ?_
      go_simp
      have hq := hold_set5 (List.mem_cons_self ..) HHq.out HX105.out
      have hz := HHz.out.set5 (G := gq) (List.mem_cons_self ..) HNZ.out (v0 := .string o105) (v1 := .string f105) (v2 := .int .i64 p105) (v3 := .slice A105 n105 c105) (v4 := .slice B105 m105 d105)
      have ha := HHa.out.set5 (G := gq) (List.mem_cons_self ..) HNA.out (v0 := .string o105) (v1 := .string f105) (v2 := .int .i64 p105) (v3 := .slice A105 n105 c105) (v4 := .slice B105 m105 d105)
      have hbq : Below w.heap.size w (((((w105.setCell ⟨gq, 0, none⟩ (.string o105)).setCell ⟨gq, 1, none⟩ (.string f105)).setCell ⟨gq, 2, none⟩ (.int .i64 p105)).setCell ⟨gq, 3, none⟩ (.slice A105 n105 c105)).setCell ⟨gq, 4, none⟩ (.slice B105 m105 d105)) := set5 HB105.out HGQ.out
      clear qc0 qc1 qc2 qc3 qc4 qz0 qz1 qz2 qz3 qz4
      generalize (((((w105.setCell ⟨gq, 0, none⟩ (.string o105)).setCell ⟨gq, 1, none⟩ (.string f105)).setCell ⟨gq, 2, none⟩ (.int .i64 p105)).setCell ⟨gq, 3, none⟩ (.slice A105 n105 c105)).setCell ⟨gq, 4, none⟩ (.slice B105 m105 d105)) = w106 at hq hz ha hbq ⊢
      refine hK.out _ _ ⟨hbq, ha⟩ (fun hHeld => ?_); (try simp only [Act.put, zq1, zq2, zq3]); refine zqT 12 ?_ ?_ ?_; rotate_left
      · intro w' hSw; obtain ⟨hs1, ⟨⟨ac0, ac1, ac2, ac3, ac4, _⟩, _⟩⟩ := hSw; have hl := (hs1.cell (p := ⟨ba, offa + k * 2 + 1, none⟩) hba).trans hc1; go_simp; try with_reducible rfl
      (try simp only [Act.put, zq1, zq2, zq3]); clear hHeld
      refine wpAnyH_done (by kernel_rfl) ?_ _
      replace HHa := zh ha
      replace HHz := zh hz
      replace HHq := zh hq
      have HB106 := zh hbq; clear ha hz hq hbq
      go_wp2
      go_roundw
      case rel => exact ⟨k + 1, r, by omega, by go_num, zh ⟨HAN.out, (HHa.out.sub (fun b hb => List.mem_cons_of_mem _ hb)).shut, HHz.out.sub (fun b hb => List.mem_cons_of_mem _ hb), HB106.out⟩⟩
      case measure => simp [intOf]; omega
    ·
     subst hm
     obtain ⟨s, e, hse, he⟩ := rv_out r U.data.toList HAN.out.1 HUN.out
     have HCO : Hid (∀ v w gs, (∀ g ∈ gs, g < w.heap.size) → IsX (Off gs) w v r → Calls Tryz.prog 48 #[v, .string U] w fun en w' => Re (Off gs) (s, e) en w' ∧ Below w.heap.size w w') := fun v w gs hg hx => by
      have h := rrevoke_is gs v r U w hg hx (few_right HAN.out.1) hu5
      rw [hse] at h
      exact h
     have HAN2 : Hid (e = 0 → Ann s) := fun h0 => by
      have h := ann_rv HAN.out (u := U.data.toList) HUN.out (by rw [hse]; exact h0)
      rw [hse] at h
      exact h
     clear hse
     obtain rfl | rfl | rfl := he
     ·
      replace HAN2 := zh (HAN2.out rfl); obtain ⟨⟨ac0, ac1, ac2, ac3, ac4, _⟩, _, _⟩ := HHa.out; obtain ⟨gq, hgq⟩ : ∃ g, wr.heap.size = g := ⟨_, rfl⟩
      have hq := hold_alloc (t := 27) HHa.out.isX
      have hbq := al wr (.cells #[.string oa, .string fa, .int .i64 pa, .slice Aa na ca, .slice Ba ma da] 27)
      have ha := HHa.out.new (ob := (.cells #[.string oa, .string fa, .int .i64 pa, .slice Aa na ca, .slice Ba ma da] 27))
      have hz := HHz.out.new (ob := (.cells #[.string oa, .string fa, .int .i64 pa, .slice Aa na ca, .slice Ba ma da] 27))
      have HNA : Hid (ga ≠ gq) := by rw [← hgq]; exact Nat.ne_of_lt HHa.out.lt
      have HNZ : Hid (gz ≠ gq) := by rw [← hgq]; exact Nat.ne_of_lt HHz.out.lt
      have HGQ : Hid (w.heap.size ≤ gq) := by rw [← hgq]; exact HBw.out.size
      replace l0 := (hbq.cell (p := ⟨ba, offa + k * 2, none⟩) (Nat.lt_of_lt_of_le hba HBw.out.size)).trans l0
      have HQ := zh hq; have HBQ := zh hbq; have HQA := zh ha; have HQZ := zh hz; have HGG := zh hgq; clear hq hbq ha hz hgq
      go_wp2_with fail
      clear l0
      have hq := HQ.out
      have hbq := HBQ.out
      have ha := HQA.out
      have hz := HQZ.out
      have hgq := HGG.out
      clear HQ HBQ HQA HQZ HGG; clear ac0 ac1 ac2 ac3 ac4
      generalize wr.alloc (.cells #[.string oa, .string fa, .int .i64 pa, .slice Aa na ca, .slice Ba ma da] 27) = w101 at hq hbq ha hz ⊢
      rw [hgq] at hq ha hz ⊢; have HHq := zh hq
      replace HHa := zh ha
      replace HHz := zh hz
      have HB101 := zh (Bel.call HBw.out hbq); clear hq hbq ha hz hgq
      have hm0 : (0 : Int) ≤ (2 : Int) := by decide
      (with_reducible refine (HPK.out _).mono ?_); rintro e102 v102 ⟨rfl, h102⟩
      obtain rfl : w101 = v102 := h102.symm
      dsimp only
      go_wp2_with fail
      have hd103 := Below.drewN' (Below.refl w101.heap.size w101) 1
      obtain ⟨w103, hw103⟩ : ∃ w1, w101.drew = w1 := ⟨_, rfl⟩
      replace hd103 : Below w101.heap.size w101 w103 := by rw [← hw103]; exact hd103
      have HB103 := zh (Bel.call HB101.out hd103); replace HHa := zh (HHa.out.call hd103); replace HHz := zh (HHz.out.call hd103); replace HHq := zh (HHq.out.call hd103)
      refine wp_region_held_drew (S := fun w' => Below w.heap.size w w' ∧ HoldL (gq :: ga :: gz :: gs) ga w' oa fa pa Aa na ca Ba ma da r) (by kernel_rfl) (by rw [hw103]; exact ⟨HB103.out, HHa.out⟩) (fun hHeld => ?_)
      rw [hw103] at hHeld ⊢; clear hw103 hd103; refine zqT 0 ?_ ?_ ?_; rotate_left
      · intro w' hSw; obtain ⟨hs1, ⟨⟨ac0, ac1, ac2, ac3, ac4, _⟩, _⟩⟩ := hSw; have hl := (hs1.cell (p := ⟨ba, offa + k * 2 + 1, none⟩) hba).trans hc1; go_simp; try with_reducible rfl
      (try simp only [Act.put, zq1, zq2, zq3]); refine zqT 1 ?_ ?_ ?_; rotate_left
      · intro w' hSw; obtain ⟨hs1, ⟨⟨ac0, ac1, ac2, ac3, ac4, _⟩, _⟩⟩ := hSw; have hl := (hs1.cell (p := ⟨ba, offa + k * 2 + 1, none⟩) hba).trans hc1; go_simp; try with_reducible rfl
      (try simp only [Act.put, zq1, zq2, zq3]); refine zqT 2 ?_ ?_ ?_; rotate_left
      · intro w' hSw; obtain ⟨hs1, ⟨⟨ac0, ac1, ac2, ac3, ac4, _⟩, _⟩⟩ := hSw; have hl := (hs1.cell (p := ⟨ba, offa + k * 2 + 1, none⟩) hba).trans hc1; go_simp; try with_reducible rfl
      (try simp only [Act.put, zq1, zq2, zq3]); refine zqT 3 ?_ ?_ ?_; rotate_left
      · intro w' hSw; obtain ⟨hs1, ⟨⟨ac0, ac1, ac2, ac3, ac4, _⟩, _⟩⟩ := hSw; have hl := (hs1.cell (p := ⟨ba, offa + k * 2 + 1, none⟩) hba).trans hc1; go_simp; try with_reducible rfl
      (try simp only [Act.put, zq1, zq2, zq3]); refine zqT 4 ?_ ?_ ?_; rotate_left
      · intro w' hSw; obtain ⟨hs1, ⟨⟨ac0, ac1, ac2, ac3, ac4, _⟩, _⟩⟩ := hSw; have hl := (hs1.cell (p := ⟨ba, offa + k * 2 + 1, none⟩) hba).trans hc1; go_simp; try with_reducible rfl
      (try simp only [Act.put, zq1, zq2, zq3]); refine zqT 5 ?_ ?_ ?_; rotate_left
      · intro w' hSw; obtain ⟨hs1, ⟨⟨ac0, ac1, ac2, ac3, ac4, _⟩, _⟩⟩ := hSw; have hl := (hs1.cell (p := ⟨ba, offa + k * 2 + 1, none⟩) hba).trans hc1; go_simp; try with_reducible rfl
      (try simp only [Act.put, zq1, zq2, zq3]); clear hHeld; refine zqR [6] ?_
      refine zqN fun K hK => ?_
      go_simp
      go_at_call 37
      (with_reducible refine (HWHO.out _).mono ?_); rintro e104 w104 ⟨rfl, hb104⟩; have HB104 := zh (Bel.call HB103.out hb104); replace HHa := zh (HHa.out.call hb104); replace HHz := zh (HHz.out.call hb104); replace HHq := zh (HHq.out.call hb104); clear hb104; dsimp only; refine hK.out _ _ ⟨HB104.out, HHa.out⟩ (fun hHeld => ?_); (try simp only [Act.put, zq1, zq2, zq3]); clear hHeld; refine zqR [7] ?_
      refine zqN fun K hK => ?_
      go_simp
      go_at_call 48
      (with_reducible refine (HCO.out _ _ _ (gs_cons HHq.out.lt (gs_cons HHa.out.lt (gs_cons HHz.out.lt (fun b hb => Nat.lt_of_lt_of_le (HGS.out b hb) HB104.out.size)))) HHa.out.isX).mono ?_); rintro e105 w105 ⟨⟨v105, hx105, rfl⟩, hb105⟩; obtain ⟨o105, f105, p105, A105, n105, c105, B105, m105, d105, rfl, hp105, hn105, hm105, ho105, hf105, hx105⟩ := isX_lit hx105; have HB105 := zh (Bel.call HB104.out hb105); replace HHa := zh (HHa.out.call hb105); replace HHz := zh (HHz.out.call hb105); replace HHq := zh (HHq.out.call hb105); have HX105 := zh hx105; clear hb105 hx105 ho105 hf105 hp105 hn105 hm105; dsimp only at HX105 ⊢; refine hK.out _ _ ⟨HB105.out, HHa.out⟩ (fun hHeld => ?_); (try simp only [Act.put, zq1, zq2, zq3]); refine zqT 8 ?_ ?_ ?_; rotate_left
      · intro w' hSw; obtain ⟨hs1, ⟨⟨ac0, ac1, ac2, ac3, ac4, _⟩, _⟩⟩ := hSw; have hl := (hs1.cell (p := ⟨ba, offa + k * 2 + 1, none⟩) hba).trans hc1; go_simp; try with_reducible rfl
      (try simp only [Act.put, zq1, zq2, zq3]); refine zqT 9 ?_ ?_ ?_; rotate_left
      · intro w' hSw; obtain ⟨hs1, ⟨⟨ac0, ac1, ac2, ac3, ac4, _⟩, _⟩⟩ := hSw; have hl := (hs1.cell (p := ⟨ba, offa + k * 2 + 1, none⟩) hba).trans hc1; go_simp; try with_reducible rfl
      (try simp only [Act.put, zq1, zq2, zq3]); refine zqT 10 ?_ ?_ ?_; rotate_left
      · intro w' hSw; obtain ⟨hs1, ⟨⟨ac0, ac1, ac2, ac3, ac4, _⟩, _⟩⟩ := hSw; have hl := (hs1.cell (p := ⟨ba, offa + k * 2 + 1, none⟩) hba).trans hc1; go_simp; try with_reducible rfl
      (try simp only [Act.put, zq1, zq2, zq3]); clear hHeld; obtain ⟨⟨qc0, qc1, qc2, qc3, qc4, _⟩, ⟨qz0, qz1, qz2, qz3, qz4⟩, _⟩ := HHq.out; refine zqR [11] ?_
      refine zqN fun K hK => ?_
      go_simp
      have hq := hold_set5 (List.mem_cons_self ..) HHq.out HX105.out
      have hz := HHz.out.set5 (G := gq) (List.mem_cons_self ..) HNZ.out (v0 := .string o105) (v1 := .string f105) (v2 := .int .i64 p105) (v3 := .slice A105 n105 c105) (v4 := .slice B105 m105 d105)
      have ha := HHa.out.set5 (G := gq) (List.mem_cons_self ..) HNA.out (v0 := .string o105) (v1 := .string f105) (v2 := .int .i64 p105) (v3 := .slice A105 n105 c105) (v4 := .slice B105 m105 d105)
      have hbq : Below w.heap.size w (((((w105.setCell ⟨gq, 0, none⟩ (.string o105)).setCell ⟨gq, 1, none⟩ (.string f105)).setCell ⟨gq, 2, none⟩ (.int .i64 p105)).setCell ⟨gq, 3, none⟩ (.slice A105 n105 c105)).setCell ⟨gq, 4, none⟩ (.slice B105 m105 d105)) := set5 HB105.out HGQ.out
      clear qc0 qc1 qc2 qc3 qc4 qz0 qz1 qz2 qz3 qz4
      generalize (((((w105.setCell ⟨gq, 0, none⟩ (.string o105)).setCell ⟨gq, 1, none⟩ (.string f105)).setCell ⟨gq, 2, none⟩ (.int .i64 p105)).setCell ⟨gq, 3, none⟩ (.slice A105 n105 c105)).setCell ⟨gq, 4, none⟩ (.slice B105 m105 d105)) = w106 at hq hz ha hbq ⊢
      refine hK.out _ _ ⟨hbq, ha⟩ (fun hHeld => ?_); (try simp only [Act.put, zq1, zq2, zq3]); refine zqT 12 ?_ ?_ ?_; rotate_left
      · intro w' hSw; obtain ⟨hs1, ⟨⟨ac0, ac1, ac2, ac3, ac4, _⟩, _⟩⟩ := hSw; have hl := (hs1.cell (p := ⟨ba, offa + k * 2 + 1, none⟩) hba).trans hc1; go_simp; try with_reducible rfl
      (try simp only [Act.put, zq1, zq2, zq3]); clear hHeld
      refine wpAnyH_done (by kernel_rfl) ?_ _
      replace HHa := zh ha
      replace HHz := zh hz
      replace HHq := zh hq
      have HB106 := zh hbq; clear ha hz hq hbq; obtain ⟨⟨qc0, qc1, qc2, qc3, qc4, _⟩, _, _⟩ := HHq.out; obtain ⟨⟨ac0, ac1, ac2, ac3, ac4, _⟩, ⟨az0, az1, az2, az3, az4⟩, _⟩ := HHa.out
      have hne := HNA.out
      have hne' : ¬ gq = ga := fun h => HNA.out h.symm
      go_wp2
      go_roundw
      case rel =>
       refine ⟨k + 1, s, by omega, by go_num, zh ⟨HAN2.out, ((hold_set5 (List.mem_cons_of_mem _ (List.mem_cons_self ..)) HHa.out HHq.out.isX).sub (fun b hb => List.mem_cons_of_mem _ hb)).shut, ?_, ?_⟩⟩
       · exact (HHz.out.set5 (List.mem_cons_of_mem _ (List.mem_cons_self ..)) HZA.out).sub (fun b hb => List.mem_cons_of_mem _ hb)
       · exact set5 HB106.out HGA.out
      case measure => simp [intOf]; omega
     ·
      clear HAN2; obtain ⟨⟨ac0, ac1, ac2, ac3, ac4, _⟩, _, _⟩ := HHa.out; obtain ⟨gq, hgq⟩ : ∃ g, wr.heap.size = g := ⟨_, rfl⟩
      have hq := hold_alloc (t := 27) HHa.out.isX
      have hbq := al wr (.cells #[.string oa, .string fa, .int .i64 pa, .slice Aa na ca, .slice Ba ma da] 27)
      have ha := HHa.out.new (ob := (.cells #[.string oa, .string fa, .int .i64 pa, .slice Aa na ca, .slice Ba ma da] 27))
      have hz := HHz.out.new (ob := (.cells #[.string oa, .string fa, .int .i64 pa, .slice Aa na ca, .slice Ba ma da] 27))
      have HNA : Hid (ga ≠ gq) := by rw [← hgq]; exact Nat.ne_of_lt HHa.out.lt
      have HNZ : Hid (gz ≠ gq) := by rw [← hgq]; exact Nat.ne_of_lt HHz.out.lt
      have HGQ : Hid (w.heap.size ≤ gq) := by rw [← hgq]; exact HBw.out.size
      replace l0 := (hbq.cell (p := ⟨ba, offa + k * 2, none⟩) (Nat.lt_of_lt_of_le hba HBw.out.size)).trans l0
      have HQ := zh hq; have HBQ := zh hbq; have HQA := zh ha; have HQZ := zh hz; have HGG := zh hgq; clear hq hbq ha hz hgq
      go_wp2_with fail
      clear l0
      have hq := HQ.out
      have hbq := HBQ.out
      have ha := HQA.out
      have hz := HQZ.out
      have hgq := HGG.out
      clear HQ HBQ HQA HQZ HGG; clear ac0 ac1 ac2 ac3 ac4
      generalize wr.alloc (.cells #[.string oa, .string fa, .int .i64 pa, .slice Aa na ca, .slice Ba ma da] 27) = w101 at hq hbq ha hz ⊢
      rw [hgq] at hq ha hz ⊢; have HHq := zh hq
      replace HHa := zh ha
      replace HHz := zh hz
      have HB101 := zh (Bel.call HBw.out hbq); clear hq hbq ha hz hgq
      have hm0 : (0 : Int) ≤ (2 : Int) := by decide
      (with_reducible refine (HPK.out _).mono ?_); rintro e102 v102 ⟨rfl, h102⟩
      obtain rfl : w101 = v102 := h102.symm
      dsimp only
      go_wp2_with fail
      have hd103 := Below.drewN' (Below.refl w101.heap.size w101) 1
      obtain ⟨w103, hw103⟩ : ∃ w1, w101.drew = w1 := ⟨_, rfl⟩
      replace hd103 : Below w101.heap.size w101 w103 := by rw [← hw103]; exact hd103
      have HB103 := zh (Bel.call HB101.out hd103); replace HHa := zh (HHa.out.call hd103); replace HHz := zh (HHz.out.call hd103); replace HHq := zh (HHq.out.call hd103)
      refine wp_region_held_drew (S := fun w' => Below w.heap.size w w' ∧ HoldL (gq :: ga :: gz :: gs) ga w' oa fa pa Aa na ca Ba ma da r) (by kernel_rfl) (by rw [hw103]; exact ⟨HB103.out, HHa.out⟩) (fun hHeld => ?_)
      rw [hw103] at hHeld ⊢; clear hw103 hd103; refine zqT 0 ?_ ?_ ?_; rotate_left
      · intro w' hSw; obtain ⟨hs1, ⟨⟨ac0, ac1, ac2, ac3, ac4, _⟩, _⟩⟩ := hSw; have hl := (hs1.cell (p := ⟨ba, offa + k * 2 + 1, none⟩) hba).trans hc1; go_simp; try with_reducible rfl
      (try simp only [Act.put, zq1, zq2, zq3]); refine zqT 1 ?_ ?_ ?_; rotate_left
      · intro w' hSw; obtain ⟨hs1, ⟨⟨ac0, ac1, ac2, ac3, ac4, _⟩, _⟩⟩ := hSw; have hl := (hs1.cell (p := ⟨ba, offa + k * 2 + 1, none⟩) hba).trans hc1; go_simp; try with_reducible rfl
      (try simp only [Act.put, zq1, zq2, zq3]); refine zqT 2 ?_ ?_ ?_; rotate_left
      · intro w' hSw; obtain ⟨hs1, ⟨⟨ac0, ac1, ac2, ac3, ac4, _⟩, _⟩⟩ := hSw; have hl := (hs1.cell (p := ⟨ba, offa + k * 2 + 1, none⟩) hba).trans hc1; go_simp; try with_reducible rfl
      (try simp only [Act.put, zq1, zq2, zq3]); refine zqT 3 ?_ ?_ ?_; rotate_left
      · intro w' hSw; obtain ⟨hs1, ⟨⟨ac0, ac1, ac2, ac3, ac4, _⟩, _⟩⟩ := hSw; have hl := (hs1.cell (p := ⟨ba, offa + k * 2 + 1, none⟩) hba).trans hc1; go_simp; try with_reducible rfl
      (try simp only [Act.put, zq1, zq2, zq3]); refine zqT 4 ?_ ?_ ?_; rotate_left
      · intro w' hSw; obtain ⟨hs1, ⟨⟨ac0, ac1, ac2, ac3, ac4, _⟩, _⟩⟩ := hSw; have hl := (hs1.cell (p := ⟨ba, offa + k * 2 + 1, none⟩) hba).trans hc1; go_simp; try with_reducible rfl
      (try simp only [Act.put, zq1, zq2, zq3]); refine zqT 5 ?_ ?_ ?_; rotate_left
      · intro w' hSw; obtain ⟨hs1, ⟨⟨ac0, ac1, ac2, ac3, ac4, _⟩, _⟩⟩ := hSw; have hl := (hs1.cell (p := ⟨ba, offa + k * 2 + 1, none⟩) hba).trans hc1; go_simp; try with_reducible rfl
      (try simp only [Act.put, zq1, zq2, zq3]); clear hHeld; refine zqR [6] ?_
      refine zqN fun K hK => ?_
      go_simp
      go_at_call 37
      (with_reducible refine (HWHO.out _).mono ?_); rintro e104 w104 ⟨rfl, hb104⟩; have HB104 := zh (Bel.call HB103.out hb104); replace HHa := zh (HHa.out.call hb104); replace HHz := zh (HHz.out.call hb104); replace HHq := zh (HHq.out.call hb104); clear hb104; dsimp only; refine hK.out _ _ ⟨HB104.out, HHa.out⟩ (fun hHeld => ?_); (try simp only [Act.put, zq1, zq2, zq3]); clear hHeld; refine zqR [7] ?_
      refine zqN fun K hK => ?_
      go_simp
      go_at_call 48
      (with_reducible refine (HCO.out _ _ _ (gs_cons HHq.out.lt (gs_cons HHa.out.lt (gs_cons HHz.out.lt (fun b hb => Nat.lt_of_lt_of_le (HGS.out b hb) HB104.out.size)))) HHa.out.isX).mono ?_); rintro e105 w105 ⟨⟨v105, hx105, rfl⟩, hb105⟩; obtain ⟨o105, f105, p105, A105, n105, c105, B105, m105, d105, rfl, hp105, hn105, hm105, ho105, hf105, hx105⟩ := isX_lit hx105; have HB105 := zh (Bel.call HB104.out hb105); replace HHa := zh (HHa.out.call hb105); replace HHz := zh (HHz.out.call hb105); replace HHq := zh (HHq.out.call hb105); have HX105 := zh hx105; clear hb105 hx105 ho105 hf105 hp105 hn105 hm105; dsimp only at HX105 ⊢; refine hK.out _ _ ⟨HB105.out, HHa.out⟩ (fun hHeld => ?_); (try simp only [Act.put, zq1, zq2, zq3]); refine zqT 8 ?_ ?_ ?_; rotate_left
      · intro w' hSw; obtain ⟨hs1, ⟨⟨ac0, ac1, ac2, ac3, ac4, _⟩, _⟩⟩ := hSw; have hl := (hs1.cell (p := ⟨ba, offa + k * 2 + 1, none⟩) hba).trans hc1; go_simp; try with_reducible rfl
      (try simp only [Act.put, zq1, zq2, zq3]); refine zqT 9 ?_ ?_ ?_; rotate_left
      · intro w' hSw; obtain ⟨hs1, ⟨⟨ac0, ac1, ac2, ac3, ac4, _⟩, _⟩⟩ := hSw; have hl := (hs1.cell (p := ⟨ba, offa + k * 2 + 1, none⟩) hba).trans hc1; go_simp; try with_reducible rfl
      (try simp only [Act.put, zq1, zq2, zq3]); refine zqT 10 ?_ ?_ ?_; rotate_left
      · intro w' hSw; obtain ⟨hs1, ⟨⟨ac0, ac1, ac2, ac3, ac4, _⟩, _⟩⟩ := hSw; have hl := (hs1.cell (p := ⟨ba, offa + k * 2 + 1, none⟩) hba).trans hc1; go_simp; try with_reducible rfl
      (try simp only [Act.put, zq1, zq2, zq3]); clear hHeld; obtain ⟨⟨qc0, qc1, qc2, qc3, qc4, _⟩, ⟨qz0, qz1, qz2, qz3, qz4⟩, _⟩ := HHq.out; refine zqR [11] ?_
      refine zqN fun K hK => ?_
      go_simp
      have hq := hold_set5 (List.mem_cons_self ..) HHq.out HX105.out
      have hz := HHz.out.set5 (G := gq) (List.mem_cons_self ..) HNZ.out (v0 := .string o105) (v1 := .string f105) (v2 := .int .i64 p105) (v3 := .slice A105 n105 c105) (v4 := .slice B105 m105 d105)
      have ha := HHa.out.set5 (G := gq) (List.mem_cons_self ..) HNA.out (v0 := .string o105) (v1 := .string f105) (v2 := .int .i64 p105) (v3 := .slice A105 n105 c105) (v4 := .slice B105 m105 d105)
      have hbq : Below w.heap.size w (((((w105.setCell ⟨gq, 0, none⟩ (.string o105)).setCell ⟨gq, 1, none⟩ (.string f105)).setCell ⟨gq, 2, none⟩ (.int .i64 p105)).setCell ⟨gq, 3, none⟩ (.slice A105 n105 c105)).setCell ⟨gq, 4, none⟩ (.slice B105 m105 d105)) := set5 HB105.out HGQ.out
      clear qc0 qc1 qc2 qc3 qc4 qz0 qz1 qz2 qz3 qz4
      generalize (((((w105.setCell ⟨gq, 0, none⟩ (.string o105)).setCell ⟨gq, 1, none⟩ (.string f105)).setCell ⟨gq, 2, none⟩ (.int .i64 p105)).setCell ⟨gq, 3, none⟩ (.slice A105 n105 c105)).setCell ⟨gq, 4, none⟩ (.slice B105 m105 d105)) = w106 at hq hz ha hbq ⊢
      refine hK.out _ _ ⟨hbq, ha⟩ (fun hHeld => ?_); (try simp only [Act.put, zq1, zq2, zq3]); refine zqT 12 ?_ ?_ ?_; rotate_left
      · intro w' hSw; obtain ⟨hs1, ⟨⟨ac0, ac1, ac2, ac3, ac4, _⟩, _⟩⟩ := hSw; have hl := (hs1.cell (p := ⟨ba, offa + k * 2 + 1, none⟩) hba).trans hc1; go_simp; try with_reducible rfl
      (try simp only [Act.put, zq1, zq2, zq3]); clear hHeld
      refine wpAnyH_done (by kernel_rfl) ?_ _
      replace HHa := zh ha
      replace HHz := zh hz
      replace HHq := zh hq
      have HB106 := zh hbq; clear ha hz hq hbq
      go_wp2
      go_roundw
      case rel => exact ⟨k + 1, r, by omega, by go_num, zh ⟨HAN.out, (HHa.out.sub (fun b hb => List.mem_cons_of_mem _ hb)).shut, HHz.out.sub (fun b hb => List.mem_cons_of_mem _ hb), HB106.out⟩⟩
      case measure => simp [intOf]; omega
     ·
      clear HAN2; obtain ⟨⟨ac0, ac1, ac2, ac3, ac4, _⟩, _, _⟩ := HHa.out; obtain ⟨gq, hgq⟩ : ∃ g, wr.heap.size = g := ⟨_, rfl⟩
      have hq := hold_alloc (t := 27) HHa.out.isX
      have hbq := al wr (.cells #[.string oa, .string fa, .int .i64 pa, .slice Aa na ca, .slice Ba ma da] 27)
      have ha := HHa.out.new (ob := (.cells #[.string oa, .string fa, .int .i64 pa, .slice Aa na ca, .slice Ba ma da] 27))
      have hz := HHz.out.new (ob := (.cells #[.string oa, .string fa, .int .i64 pa, .slice Aa na ca, .slice Ba ma da] 27))
      have HNA : Hid (ga ≠ gq) := by rw [← hgq]; exact Nat.ne_of_lt HHa.out.lt
      have HNZ : Hid (gz ≠ gq) := by rw [← hgq]; exact Nat.ne_of_lt HHz.out.lt
      have HGQ : Hid (w.heap.size ≤ gq) := by rw [← hgq]; exact HBw.out.size
      replace l0 := (hbq.cell (p := ⟨ba, offa + k * 2, none⟩) (Nat.lt_of_lt_of_le hba HBw.out.size)).trans l0
      have HQ := zh hq; have HBQ := zh hbq; have HQA := zh ha; have HQZ := zh hz; have HGG := zh hgq; clear hq hbq ha hz hgq
      go_wp2_with fail
      clear l0
      have hq := HQ.out
      have hbq := HBQ.out
      have ha := HQA.out
      have hz := HQZ.out
      have hgq := HGG.out
      clear HQ HBQ HQA HQZ HGG; clear ac0 ac1 ac2 ac3 ac4
      generalize wr.alloc (.cells #[.string oa, .string fa, .int .i64 pa, .slice Aa na ca, .slice Ba ma da] 27) = w101 at hq hbq ha hz ⊢
      rw [hgq] at hq ha hz ⊢; have HHq := zh hq
      replace HHa := zh ha
      replace HHz := zh hz
      have HB101 := zh (Bel.call HBw.out hbq); clear hq hbq ha hz hgq
      have hm0 : (0 : Int) ≤ (2 : Int) := by decide
      (with_reducible refine (HPK.out _).mono ?_); rintro e102 v102 ⟨rfl, h102⟩
      obtain rfl : w101 = v102 := h102.symm
      dsimp only
      go_wp2_with fail
      have hd103 := Below.drewN' (Below.refl w101.heap.size w101) 1
      obtain ⟨w103, hw103⟩ : ∃ w1, w101.drew = w1 := ⟨_, rfl⟩
      replace hd103 : Below w101.heap.size w101 w103 := by rw [← hw103]; exact hd103
      have HB103 := zh (Bel.call HB101.out hd103); replace HHa := zh (HHa.out.call hd103); replace HHz := zh (HHz.out.call hd103); replace HHq := zh (HHq.out.call hd103)
      refine wp_region_held_drew (S := fun w' => Below w.heap.size w w' ∧ HoldL (gq :: ga :: gz :: gs) ga w' oa fa pa Aa na ca Ba ma da r) (by kernel_rfl) (by rw [hw103]; exact ⟨HB103.out, HHa.out⟩) (fun hHeld => ?_)
      rw [hw103] at hHeld ⊢; clear hw103 hd103; refine zqT 0 ?_ ?_ ?_; rotate_left
      · intro w' hSw; obtain ⟨hs1, ⟨⟨ac0, ac1, ac2, ac3, ac4, _⟩, _⟩⟩ := hSw; have hl := (hs1.cell (p := ⟨ba, offa + k * 2 + 1, none⟩) hba).trans hc1; go_simp; try with_reducible rfl
      (try simp only [Act.put, zq1, zq2, zq3]); refine zqT 1 ?_ ?_ ?_; rotate_left
      · intro w' hSw; obtain ⟨hs1, ⟨⟨ac0, ac1, ac2, ac3, ac4, _⟩, _⟩⟩ := hSw; have hl := (hs1.cell (p := ⟨ba, offa + k * 2 + 1, none⟩) hba).trans hc1; go_simp; try with_reducible rfl
      (try simp only [Act.put, zq1, zq2, zq3]); refine zqT 2 ?_ ?_ ?_; rotate_left
      · intro w' hSw; obtain ⟨hs1, ⟨⟨ac0, ac1, ac2, ac3, ac4, _⟩, _⟩⟩ := hSw; have hl := (hs1.cell (p := ⟨ba, offa + k * 2 + 1, none⟩) hba).trans hc1; go_simp; try with_reducible rfl
      (try simp only [Act.put, zq1, zq2, zq3]); refine zqT 3 ?_ ?_ ?_; rotate_left
      · intro w' hSw; obtain ⟨hs1, ⟨⟨ac0, ac1, ac2, ac3, ac4, _⟩, _⟩⟩ := hSw; have hl := (hs1.cell (p := ⟨ba, offa + k * 2 + 1, none⟩) hba).trans hc1; go_simp; try with_reducible rfl
      (try simp only [Act.put, zq1, zq2, zq3]); refine zqT 4 ?_ ?_ ?_; rotate_left
      · intro w' hSw; obtain ⟨hs1, ⟨⟨ac0, ac1, ac2, ac3, ac4, _⟩, _⟩⟩ := hSw; have hl := (hs1.cell (p := ⟨ba, offa + k * 2 + 1, none⟩) hba).trans hc1; go_simp; try with_reducible rfl
      (try simp only [Act.put, zq1, zq2, zq3]); refine zqT 5 ?_ ?_ ?_; rotate_left
      · intro w' hSw; obtain ⟨hs1, ⟨⟨ac0, ac1, ac2, ac3, ac4, _⟩, _⟩⟩ := hSw; have hl := (hs1.cell (p := ⟨ba, offa + k * 2 + 1, none⟩) hba).trans hc1; go_simp; try with_reducible rfl
      (try simp only [Act.put, zq1, zq2, zq3]); clear hHeld; refine zqR [6] ?_
      refine zqN fun K hK => ?_
      go_simp
      go_at_call 37
      (with_reducible refine (HWHO.out _).mono ?_); rintro e104 w104 ⟨rfl, hb104⟩; have HB104 := zh (Bel.call HB103.out hb104); replace HHa := zh (HHa.out.call hb104); replace HHz := zh (HHz.out.call hb104); replace HHq := zh (HHq.out.call hb104); clear hb104; dsimp only; refine hK.out _ _ ⟨HB104.out, HHa.out⟩ (fun hHeld => ?_); (try simp only [Act.put, zq1, zq2, zq3]); clear hHeld; refine zqR [7] ?_
      refine zqN fun K hK => ?_
      go_simp
      go_at_call 48
      (with_reducible refine (HCO.out _ _ _ (gs_cons HHq.out.lt (gs_cons HHa.out.lt (gs_cons HHz.out.lt (fun b hb => Nat.lt_of_lt_of_le (HGS.out b hb) HB104.out.size)))) HHa.out.isX).mono ?_); rintro e105 w105 ⟨⟨v105, hx105, rfl⟩, hb105⟩; obtain ⟨o105, f105, p105, A105, n105, c105, B105, m105, d105, rfl, hp105, hn105, hm105, ho105, hf105, hx105⟩ := isX_lit hx105; have HB105 := zh (Bel.call HB104.out hb105); replace HHa := zh (HHa.out.call hb105); replace HHz := zh (HHz.out.call hb105); replace HHq := zh (HHq.out.call hb105); have HX105 := zh hx105; clear hb105 hx105 ho105 hf105 hp105 hn105 hm105; dsimp only at HX105 ⊢; refine hK.out _ _ ⟨HB105.out, HHa.out⟩ (fun hHeld => ?_); (try simp only [Act.put, zq1, zq2, zq3]); refine zqT 8 ?_ ?_ ?_; rotate_left
      · intro w' hSw; obtain ⟨hs1, ⟨⟨ac0, ac1, ac2, ac3, ac4, _⟩, _⟩⟩ := hSw; have hl := (hs1.cell (p := ⟨ba, offa + k * 2 + 1, none⟩) hba).trans hc1; go_simp; try with_reducible rfl
      (try simp only [Act.put, zq1, zq2, zq3]); refine zqT 9 ?_ ?_ ?_; rotate_left
      · intro w' hSw; obtain ⟨hs1, ⟨⟨ac0, ac1, ac2, ac3, ac4, _⟩, _⟩⟩ := hSw; have hl := (hs1.cell (p := ⟨ba, offa + k * 2 + 1, none⟩) hba).trans hc1; go_simp; try with_reducible rfl
      (try simp only [Act.put, zq1, zq2, zq3]); refine zqT 10 ?_ ?_ ?_; rotate_left
      · intro w' hSw; obtain ⟨hs1, ⟨⟨ac0, ac1, ac2, ac3, ac4, _⟩, _⟩⟩ := hSw; have hl := (hs1.cell (p := ⟨ba, offa + k * 2 + 1, none⟩) hba).trans hc1; go_simp; try with_reducible rfl
      (try simp only [Act.put, zq1, zq2, zq3]); clear hHeld; obtain ⟨⟨qc0, qc1, qc2, qc3, qc4, _⟩, ⟨qz0, qz1, qz2, qz3, qz4⟩, _⟩ := HHq.out; refine zqR [11] ?_
      refine zqN fun K hK => ?_
      go_simp
      have hq := hold_set5 (List.mem_cons_self ..) HHq.out HX105.out
      have hz := HHz.out.set5 (G := gq) (List.mem_cons_self ..) HNZ.out (v0 := .string o105) (v1 := .string f105) (v2 := .int .i64 p105) (v3 := .slice A105 n105 c105) (v4 := .slice B105 m105 d105)
      have ha := HHa.out.set5 (G := gq) (List.mem_cons_self ..) HNA.out (v0 := .string o105) (v1 := .string f105) (v2 := .int .i64 p105) (v3 := .slice A105 n105 c105) (v4 := .slice B105 m105 d105)
      have hbq : Below w.heap.size w (((((w105.setCell ⟨gq, 0, none⟩ (.string o105)).setCell ⟨gq, 1, none⟩ (.string f105)).setCell ⟨gq, 2, none⟩ (.int .i64 p105)).setCell ⟨gq, 3, none⟩ (.slice A105 n105 c105)).setCell ⟨gq, 4, none⟩ (.slice B105 m105 d105)) := set5 HB105.out HGQ.out
      clear qc0 qc1 qc2 qc3 qc4 qz0 qz1 qz2 qz3 qz4
      generalize (((((w105.setCell ⟨gq, 0, none⟩ (.string o105)).setCell ⟨gq, 1, none⟩ (.string f105)).setCell ⟨gq, 2, none⟩ (.int .i64 p105)).setCell ⟨gq, 3, none⟩ (.slice A105 n105 c105)).setCell ⟨gq, 4, none⟩ (.slice B105 m105 d105)) = w106 at hq hz ha hbq ⊢
      refine hK.out _ _ ⟨hbq, ha⟩ (fun hHeld => ?_); (try simp only [Act.put, zq1, zq2, zq3]); refine zqT 12 ?_ ?_ ?_; rotate_left
      · intro w' hSw; obtain ⟨hs1, ⟨⟨ac0, ac1, ac2, ac3, ac4, _⟩, _⟩⟩ := hSw; have hl := (hs1.cell (p := ⟨ba, offa + k * 2 + 1, none⟩) hba).trans hc1; go_simp; try with_reducible rfl
      (try simp only [Act.put, zq1, zq2, zq3]); clear hHeld
      refine wpAnyH_done (by kernel_rfl) ?_ _
      replace HHa := zh ha
      replace HHz := zh hz
      replace HHq := zh hq
      have HB106 := zh hbq; clear ha hz hq hbq
      go_wp2
      go_roundw
      case rel => exact ⟨k + 1, r, by omega, by go_num, zh ⟨HAN.out, (HHa.out.sub (fun b hb => List.mem_cons_of_mem _ hb)).shut, HHz.out.sub (fun b hb => List.mem_cons_of_mem _ hb), HB106.out⟩⟩
      case measure => simp [intOf]; omega
   ·
    obtain ⟨⟨ac0, ac1, ac2, ac3, ac4, _⟩, _⟩ := HHa.out; obtain ⟨⟨zc0, zc1, zc2, zc3, zc4, _⟩, ⟨zz0, zz1, zz2, zz3, zz4⟩, _⟩ := HHz.out
    go_wp2
    refine bodyPost_ret (v := .agg #[.string oa, .string fa, .int .i64 pa, .slice Aa na ca, .slice Ba ma da]) (by simp [results, Tryz.results11, go_sem, ac0, ac1, ac2, ac3, ac4, zc0, zc1, zc2, zc3, zc4]) rfl ?_
    exact ⟨⟨_, r, HAN.out, (isX_set5 (List.mem_cons_of_mem _ (List.mem_cons_self ..)) HHa.out.isX).mono (fun b _ hb hm => hb (List.mem_cons_of_mem _ (List.mem_cons_of_mem _ hm))), rfl⟩, set5 HBw.out HGZ.out⟩
  ·
   obtain ⟨⟨ac0, ac1, ac2, ac3, ac4, _⟩, _⟩ := HHa.out; obtain ⟨⟨zc0, zc1, zc2, zc3, zc4, _⟩, ⟨zz0, zz1, zz2, zz3, zz4⟩, _⟩ := HHz.out
   go_wp2
   refine bodyPost_ret (v := .agg #[.string oa, .string fa, .int .i64 pa, .slice Aa na ca, .slice Ba ma da]) (by simp [results, Tryz.results11, go_sem, ac0, ac1, ac2, ac3, ac4, zc0, zc1, zc2, zc3, zc4]) rfl ?_
   exact ⟨⟨_, r, HAN.out, (isX_set5 (List.mem_cons_of_mem _ (List.mem_cons_self ..)) HHa.out.isX).mono (fun b _ hb hm => hb (List.mem_cons_of_mem _ (List.mem_cons_of_mem _ hm))), rfl⟩, set5 HBw.out HGZ.out⟩
end Go.Proofs.YtlkgjceddbclpaaGreat.Rig

