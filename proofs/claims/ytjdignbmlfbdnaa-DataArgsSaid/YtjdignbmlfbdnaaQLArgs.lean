/-
  THE LAW DataArgs, walked over the landed code. By an AI agent; no person has read it.
-/
import Derived.Test.YtjdignbmlfbdnaaQShown
namespace Go.Proofs.Ytjdignbmlfbdnaa.Dta
open Go.RowKit Wire Term Draw Reg Clo

set_option linter.unusedSimpArgs false
set_option linter.unusedVariables false
theorem build_f {st sn p c : Tm} {ep : Int} (h : ArgB st ep sn p) : (build st ep sn p c).2 = 0 ∨ (build st ep sn p c).2 = 10 := by
  unfold build
  rw [if_neg (fun h2 => h2 h)]
  repeat' split
  all_goals first | exact .inl rfl | exact .inr rfl
theorem open_hi {n x m : Nat} (hn : n < 18446744073709551616) (hx : x ≤ 7) (hm : m ≤ 12) (y : Int) : (openB (bOf n x x pN hiB.data.toList) (sgps m) (hs (7 - x) (rootS n)) y pN).2 = if (m : Int) = y + 1 ∧ y = x then 0 else if ¬ (0 ≤ y ∧ y ≤ 7 ∧ (m : Int) = y + 1) then 1 else 7 := by
  by_cases h : 0 ≤ y ∧ y ≤ 7 ∧ (m : Int) = y + 1
  · obtain ⟨h0, h7, hm1⟩ := h
    obtain ⟨z, rfl⟩ : ∃ z : Nat, y = (z : Int) := ⟨y.toNat, by omega⟩
    obtain rfl : m = z + 1 := by omega
    rw [if_neg (show ¬ ¬ (0 ≤ (z : Int) ∧ (z : Int) ≤ 7 ∧ ((z + 1 : Nat) : Int) = (z : Int) + 1) from fun h => h ⟨h0, h7, hm1⟩)]
    by_cases hz : z = x
    · subst hz
      rw [if_pos (show ((z + 1 : Nat) : Int) = (z : Int) + 1 ∧ (z : Int) = (z : Int) from ⟨by omega, rfl⟩), open_is hn hx (by omega) pN_path (by decide) (by omega) (j := z) (by omega) (sgps_len _) (by omega) (sgps_get (by omega)), if_pos ⟨rfl, rfl⟩]
    · rw [if_neg (fun h => hz (by omega))]
      rcases Nat.lt_or_ge z x with hlt | hge
      · unfold bOf
        rw [open_late hn hx (by omega) pN_path (by decide) (by omega) hx (sgps_len _) (st_right hn (by omega)) hlt]
      · rw [open_state hn hx (by omega) pN_path (by decide) (by omega) hx (j := x) (by omega) (sgps_len _) hge (by omega) (sgps_get (by omega)) pN]
  · rw [if_neg (fun h2 => h (by obtain ⟨a, b⟩ := h2; exact ⟨by omega, by omega, a⟩)), if_pos h]
    rw [open_arg]
    rintro ⟨_, _, h3, h4⟩
    rw [sgps_len] at h4
    exact h ⟨h3.1, h3.2, h4⟩
set_option maxHeartbeats 8000000 in
set_option maxRecDepth 1000000 in
theorem args_walk (root a : Int) (U : ByteArray) (epoch many : Int) (w : World) (h1 : -9223372036854775808 ≤ root ∧ root ≤ 9223372036854775807) (h2 : -9223372036854775808 ≤ a ∧ a ≤ 9223372036854775807) (h3 : -9223372036854775808 ≤ epoch ∧ epoch ≤ 9223372036854775807) (h4 : -9223372036854775808 ≤ many ∧ many ≤ 9223372036854775807) :
    Calls Try.prog 7 #[.int .i64 root, .int .i64 a, .string U, .int .i64 epoch, .int .i64 many] w fun e w' => e = .returned (.bool true) ∧ Below w.heap.size w w' := by
  have HSH := Lib.hid fun w => shown9_any w
  by_cases h1000 : 1000 < U.size
  · go_enter Try.func7, Try.ntmps7
    go_wp2_with fail
    with_reducible refine (HSH.out _).mono ?_
    rintro e w1 ⟨rfl, hb1⟩
    dsimp only
    go_wp2
    go_ret
    exact ⟨rfl, hb1⟩
  have HPA : Hid (∀ w, Calls Try.prog 9 #[.int .i64 a, .int .i64 8] w fun e w' => e = .returned (.int .i64 (pk a 8 : Int)) ∧ w' = w) := Lib.hid fun w => pick9_any a 8 w h2 (by decide) (by decide)
  have HPM : Hid (∀ w, Calls Try.prog 9 #[.int .i64 many, .int .i64 12] w fun e w' => e = .returned (.int .i64 (pk many 12 : Int)) ∧ w' = w) := Lib.hid fun w => pick9_any many 12 w h4 (by decide) (by decide)
  have HRT := Lib.hid fun w => rootOf_any root w h1
  have hX := pk_lt a (n := 8) (by decide)
  have hM := pk_lt many (n := 12) (by decide)
  have hN := pk_lt root (n := 5) (by decide)
  generalize pk a 8 = X at HPA hX
  generalize pk many 12 = M at HPM hM
  generalize pk root 5 = N at HRT hN
  have hn : N < 18446744073709551616 := by omega
  have stl : ∀ k, k ≤ 7 → (hs k (rootS N)).length ≤ 100000 := fun k hk => by have := (st_sz hn hk).2; omega
  have hbr : BR (bOf N X X (⟨#[97, 110, 110, 97, 47, 110, 111, 116, 101, 115]⟩ : ByteArray).data.toList (⟨#[104, 105]⟩ : ByteArray).data.toList) := bOf_right hn (by omega) (by omega) pN_path (by decide)
  have hUs : U.data.toList.length ≤ 1000 := by rw [← Lib.size_eq]; omega
  have HST : Hid (∀ (R : ByteArray) (w : World), R.data.toList = rootS N → Calls Try.prog 10 #[.string R, .int .i64 (X : Int)] w fun e w' => Sr (hs (7 - X) (rootS N), 0) e ∧ Below w.heap.size w w') := Lib.hid fun R w hR => state_to hn (x := X) (by omega) hR w
  have HSG : Hid (∀ (w : World), Calls Try.prog 13 #[.int .i64 (X : Int)] w fun e w' => St (sgn X) e ∧ Below w.heap.size w w') := Lib.hid fun w => signerOf_any X w (by omega)
  have HVF : Hid (∀ (w : World), Calls Try.prog 18 #[.int .i64 (X : Int)] w fun e w' => Vf (X + 1) e w' ∧ Below w.heap.size w w') := Lib.hid fun w => by
    have := verifyOf_any (X + 1) w (by omega)
    rw [show (((X + 1) : Nat) : Int) - 1 = (X : Int) by omega] at this
    exact this
  have HVM := Lib.hid fun w => verifyOf_any M w (by omega)
  have HBD : Hid (∀ (S G : ByteArray) (w : World), S.data.toList = hs (7 - X) (rootS N) → G.data.toList = sgn X → Calls Try.prog 12 #[.string S, .int .i64 (X : Int), .string G, .string ⟨#[97, 110, 110, 97, 47, 110, 111, 116, 101, 115]⟩, .string ⟨#[104, 105]⟩] w fun e w' => Bs (bOf N X X (⟨#[97, 110, 110, 97, 47, 110, 111, 116, 101, 115]⟩ : ByteArray).data.toList (⟨#[104, 105]⟩ : ByteArray).data.toList, 0) e ∧ Below w.heap.size w w') := Lib.hid fun S G w hS hG => build_to hn (x := X) (i := X) (by omega) (by omega) hS hG (P := ⟨#[97, 110, 110, 97, 47, 110, 111, 116, 101, 115]⟩) (C := ⟨#[104, 105]⟩) (pN_path) (by decide) w
  obtain ⟨cf, ff, hof⟩ : ∃ cf ff, openB (bOf N X X pN hiB.data.toList) (sgps M) (hs (7 - X) (rootS N)) (X : Int) pN = (cf, ff) := ⟨_, _, rfl⟩
  obtain ⟨ch, fh, hoh⟩ : ∃ ch fh, openB (bOf N X X pN hiB.data.toList) (sgps (X + 1)) (hs (7 - X) (rootS N)) epoch pN = (ch, fh) := ⟨_, _, rfl⟩
  obtain ⟨bg, fg, hbg⟩ : ∃ bg fg, build (hs (7 - X) (rootS N)) epoch (sgn X) pN hiB.data.toList = (bg, fg) := ⟨_, _, rfl⟩
  have HOF : Hid (∀ (S G T : ByteArray) (A : Option Addr) (c : Nat) (vs : List ByteArray) (w : World), S.data.toList = (bOf N X X (⟨#[97, 110, 110, 97, 47, 110, 111, 116, 101, 115]⟩ : ByteArray).data.toList (⟨#[104, 105]⟩ : ByteArray).data.toList).sl → G.data.toList = (bOf N X X (⟨#[97, 110, 110, 97, 47, 110, 111, 116, 101, 115]⟩ : ByteArray).data.toList (⟨#[104, 105]⟩ : ByteArray).data.toList).sg → T.data.toList = hs (7 - X) (rootS N) → bl vs = sgps M → SReads w A vs → Calls Try.prog 17 #[.agg #[.int .i64 (X : Int), .string S, .string G], .slice A vs.length c, .string T, .int .i64 (X : Int), .string ⟨#[97, 110, 110, 97, 47, 110, 111, 116, 101, 115]⟩] w fun e w' => Sr (cf, ff) e ∧ Below w.heap.size w w') := Lib.hid fun S G T A c vs w hS hG hT hv hr => by
    have hbr : BR (bOf N X X (⟨#[97, 110, 110, 97, 47, 110, 111, 116, 101, 115]⟩ : ByteArray).data.toList (⟨#[104, 105]⟩ : ByteArray).data.toList) := hbr
    have hvl : vs.length ≤ 40 := by
      have := congrArg List.length hv
      simp only [bl_len', sgps_len, List.length_map, List.length_range, List.length_tail] at this
      omega
    exact open_to (b := bOf N X X (⟨#[97, 110, 110, 97, 47, 110, 111, 116, 101, 115]⟩ : ByteArray).data.toList (⟨#[104, 105]⟩ : ByteArray).data.toList) (L := sgps M) (q := (⟨#[97, 110, 110, 97, 47, 110, 111, 116, 101, 115]⟩ : ByteArray).data.toList) (hof) rfl hS hG hv rfl hT rfl (seal_size hbr hS) (sig_size hbr hG) (by rw [Lib.size_eq, hT]; exact stl _ (by omega)) (by decide) (by omega) (sgps_sizes hv (by omega)) (by omega) w hr
  have HOH : Hid (∀ (S G T : ByteArray) (A : Option Addr) (c : Nat) (vs : List ByteArray) (w : World), S.data.toList = (bOf N X X (⟨#[97, 110, 110, 97, 47, 110, 111, 116, 101, 115]⟩ : ByteArray).data.toList (⟨#[104, 105]⟩ : ByteArray).data.toList).sl → G.data.toList = (bOf N X X (⟨#[97, 110, 110, 97, 47, 110, 111, 116, 101, 115]⟩ : ByteArray).data.toList (⟨#[104, 105]⟩ : ByteArray).data.toList).sg → T.data.toList = hs (7 - X) (rootS N) → bl vs = sgps (X + 1) → SReads w A vs → Calls Try.prog 17 #[.agg #[.int .i64 (X : Int), .string S, .string G], .slice A vs.length c, .string T, .int .i64 epoch, .string ⟨#[97, 110, 110, 97, 47, 110, 111, 116, 101, 115]⟩] w fun e w' => Sr (ch, fh) e ∧ Below w.heap.size w w') := Lib.hid fun S G T A c vs w hS hG hT hv hr => by
    have hbr : BR (bOf N X X (⟨#[97, 110, 110, 97, 47, 110, 111, 116, 101, 115]⟩ : ByteArray).data.toList (⟨#[104, 105]⟩ : ByteArray).data.toList) := hbr
    have hvl : vs.length ≤ 40 := by
      have := congrArg List.length hv
      simp only [bl_len', sgps_len, List.length_map, List.length_range, List.length_tail] at this
      omega
    exact open_to (b := bOf N X X (⟨#[97, 110, 110, 97, 47, 110, 111, 116, 101, 115]⟩ : ByteArray).data.toList (⟨#[104, 105]⟩ : ByteArray).data.toList) (L := sgps (X + 1)) (q := (⟨#[97, 110, 110, 97, 47, 110, 111, 116, 101, 115]⟩ : ByteArray).data.toList) (hoh) rfl hS hG hv rfl hT rfl (seal_size hbr hS) (sig_size hbr hG) (by rw [Lib.size_eq, hT]; exact stl _ (by omega)) (by decide) (by omega) (sgps_sizes hv (by omega)) (by omega) w hr
  have HBG : Hid (∀ (S G : ByteArray) (w : World), S.data.toList = hs (7 - X) (rootS N) → G.data.toList = sgn X → Calls Try.prog 12 #[.string S, .int .i64 epoch, .string G, .string ⟨#[97, 110, 110, 97, 47, 110, 111, 116, 101, 115]⟩, .string ⟨#[104, 105]⟩] w fun e w' => Bs (bg, fg) e ∧ Below w.heap.size w w') := Lib.hid fun S G w hS hG => by
    have := cbuild_any S epoch G ⟨#[97, 110, 110, 97, 47, 110, 111, 116, 101, 115]⟩ ⟨#[104, 105]⟩ w (by have := st_len hn (by omega) hS; omega) (by have := sg_len (by omega) hG; omega) (by decide) (by decide)
    rw [hS, hG, show (build (hs (7 - X) (rootS N)) epoch (sgn X) (⟨#[97, 110, 110, 97, 47, 110, 111, 116, 101, 115]⟩ : ByteArray).data.toList (⟨#[104, 105]⟩ : ByteArray).data.toList) = (bg, fg) from hbg] at this
    exact this
  have hff : ff = if (M : Int) = (X : Int) + 1 then 0 else 1 := by
    have := open_hi hn (x := X) (m := M) (by omega) (by omega) (X : Int)
    rw [hof] at this
    simp only at this
    rw [this]
    by_cases e : (M : Int) = (X : Int) + 1
    · rw [if_pos ⟨e, by trivial⟩, if_pos e]
    · rw [if_neg (fun h => e h.1), if_pos (fun h => e h.2.2), if_neg e]
  have hfh : fh = if epoch = (X : Int) then 0 else 1 := by
    have := open_hi hn (x := X) (m := X + 1) (by omega) (by omega) epoch
    rw [hoh] at this
    simp only at this
    rw [this]
    by_cases e : epoch = (X : Int)
    · rw [if_pos ⟨by omega, e⟩, if_pos e]
    · rw [if_neg (fun h => e h.2), if_pos (fun h => e (by omega)), if_neg e]
  have hfg : (0 ≤ epoch ∧ epoch ≤ 7 → (fg == 1) = false) ∧ (¬ (0 ≤ epoch ∧ epoch ≤ 7) → fg = 1) := by
    refine ⟨fun h => ?_, fun h => ?_⟩
    · have := build_f (st := hs (7 - X) (rootS N)) (sn := sgn X) (p := pN) (c := hiB.data.toList) (ep := epoch) ⟨h, st_right hn (by omega), sgn_right (by omega), pN_path⟩
      rw [hbg] at this
      have this : fg = 0 ∨ fg = 10 := this
      rcases this with rfl | rfl <;> decide
    · rw [build_arg (fun h2 => h h2.1)] at hbg
      exact (Prod.mk.inj hbg).2.symm
  have hqf : ((ff == 1) : Bool) = ((M : Int) != (X : Int) + 1) := by
    rw [hff]
    by_cases e : (M : Int) = (X : Int) + 1
    · rw [if_pos e, e]; simp
    · rw [if_neg e]; simp [bne, e]
  have hqh : ((fh == 1) : Bool) = (epoch != (X : Int)) := by
    rw [hfh]
    by_cases e : epoch = (X : Int)
    · rw [if_pos e, e]; simp
    · rw [if_neg e]; simp [bne, e]
  generalize hbf : ((M : Int) != (X : Int) + 1) = bf at hqf
  generalize hbh : (epoch != (X : Int)) = bh at hqh
  have hw1 : IntKind.i64.wrap ((M : Int) - 1) = (M : Int) - 1 := by rw [IntKind.wrap_i64]; omega
  have hw2 : IntKind.i64.wrap ((X : Int) + 1) = (X : Int) + 1 := by rw [IntKind.wrap_i64]; omega
  clear hof hoh hbg hff hfh
  obtain ⟨kd, hkd⟩ : ∃ kd, kind U.data.toList = kd := ⟨_, rfl⟩
  have HK := Lib.hid fun w => t_Kind U w (by omega)
  rw [hkd] at HK
  cases hur : right U.data.toList with
  | true =>
    have hk0 : ¬ (kd : Int) = 0 := by have := Term.kind_pos hur; rw [hkd] at this; omega
    have hkb : ((kd : Int) != 0) = true := by simpa using hk0
    clear hkd hur hk0
    rcases Int.lt_or_le epoch 0 with he | he
    · have hfg := hfg.2 (by omega)
      subst hfg
      go_enter Try.func7, Try.ntmps7
      go_wp2_with fail
      with_reducible refine (HSH.out _).mono ?_
      rintro e w1 ⟨rfl, hb1⟩
      have HB1 := Lib.hid hb1
      clear hb1
      dsimp only
      go_wp2_with fail
      with_reducible refine (HPA.out _).mono ?_
      rintro e v1 ⟨rfl, hv1⟩
      obtain rfl : w1 = v1 := hv1.symm
      dsimp only
      go_wp2_with fail
      with_reducible refine (HRT.out _).mono ?_
      rintro e w2 ⟨⟨R, hR, rfl⟩, hb2⟩
      have HB2 := Lib.hid (Bel.call HB1.out hb2)
      clear hb2
      try dsimp only at hR
      have HR := Lib.hid hR
      clear hR
      dsimp only
      go_wp2_with fail
      with_reducible refine (HST.out R _ HR.out).mono ?_
      rintro e w3 ⟨⟨S, hS, rfl⟩, hb3⟩
      have HB3 := Lib.hid (Bel.call HB2.out hb3)
      clear hb3
      try dsimp only at hS
      have HS := Lib.hid hS
      clear hS
      dsimp only
      go_wp2_with fail
      with_reducible refine (HSG.out _).mono ?_
      rintro e w4 ⟨⟨G, hG, rfl⟩, hb4⟩
      have HB4 := Lib.hid (Bel.call HB3.out hb4)
      clear hb4
      try dsimp only at hG
      have HG := Lib.hid hG
      clear hG
      dsimp only
      go_wp2_with fail
      with_reducible refine (HBD.out S G _ HS.out HG.out).mono ?_
      rintro e w5 ⟨hx, hb5⟩
      have HB5 := Lib.hid (Bel.call HB4.out hb5)
      clear hb5
      obtain ⟨SB, GB, hSB, hGB, rfl⟩ := bs_bOf hx
      have HSB := Lib.hid hSB
      have HGB := Lib.hid hGB
      clear hx hSB hGB
      dsimp only
      go_wp2_with fail
      have hbS : Below w5.heap.size w5 (w5.alloc (.cells #[.int .i64 (X : Int), .string SB, .string GB] 29)) := (Below.refl w5.heap.size w5).alloc (Nat.le_refl _) _
      have hxS := r3_new w5 ((X : Int)) SB GB 29
      generalize w5.alloc (.cells #[.int .i64 (X : Int), .string SB, .string GB] 29) = wSB at hbS hxS ⊢
      have HB6 := Lib.hid (Bel.call HB5.out hbS)
      have HXB := Lib.hid hxS
      clear hbS hxS
      with_reducible refine (HPM.out _).mono ?_
      rintro e v2 ⟨rfl, hv2⟩
      obtain rfl : wSB = v2 := hv2.symm
      dsimp only
      go_wp2_with fail
      refine wp_region_held_drew (S := fun w' => R3 w5.heap.size w' (X : Int) SB GB) (by kernel_rfl) (HXB.out.below (Below.drewN' (Below.refl wSB.heap.size wSB) 1)) (fun hHeld => ?_)
      refine wpAnyH_take (i := 0) (v := ?_) (by rw [List.getElem?_toArray]; rfl) (by kernel_rfl) (by kernel_rfl) (by kernel_rfl) (by exact fun _ _ _ h => h) (Or.inl ⟨by rfl, ?_⟩) (by assumption) ?_
      rotate_left
      · intro w' hSw
        obtain ⟨⟨_, c0, c1, c2⟩, _⟩ := hSw
        go_simp
        try with_reducible rfl
      try simp only [Act.put, List.setIfInBounds_toArray, List.set_cons_zero, List.set_cons_succ]
      refine wpAnyH_take (i := 1) (v := ?_) (by rw [List.getElem?_toArray]; rfl) (by kernel_rfl) (by kernel_rfl) (by kernel_rfl) (by exact fun _ _ _ h => h) (Or.inl ⟨by rfl, ?_⟩) (by assumption) ?_
      rotate_left
      · intro w' hSw
        obtain ⟨⟨_, c0, c1, c2⟩, _⟩ := hSw
        go_simp
        try with_reducible rfl
      try simp only [Act.put, List.setIfInBounds_toArray, List.set_cons_zero, List.set_cons_succ]
      refine wpAnyH_take (i := 2) (v := ?_) (by rw [List.getElem?_toArray]; rfl) (by kernel_rfl) (by kernel_rfl) (by kernel_rfl) (by exact fun _ _ _ h => h) (Or.inl ⟨by rfl, ?_⟩) (by assumption) ?_
      rotate_left
      · intro w' hSw
        obtain ⟨⟨_, c0, c1, c2⟩, _⟩ := hSw
        go_simp
        try with_reducible rfl
      try simp only [Act.put, List.setIfInBounds_toArray, List.set_cons_zero, List.set_cons_succ]
      refine wpAnyH_take (i := 4) (v := ?_) (by rw [List.getElem?_toArray]; rfl) (by kernel_rfl) (by kernel_rfl) (by kernel_rfl) (by exact fun _ _ _ h => h) (Or.inl ⟨by rfl, ?_⟩) (by assumption) ?_
      rotate_left
      · intro w' hSw
        obtain ⟨⟨_, c0, c1, c2⟩, _⟩ := hSw
        go_simp
        try with_reducible rfl
      try simp only [Act.put, List.setIfInBounds_toArray, List.set_cons_zero, List.set_cons_succ]
      refine wpAnyH_take (i := 5) (v := ?_) (by rw [List.getElem?_toArray]; rfl) (by kernel_rfl) (by kernel_rfl) (by kernel_rfl) (by exact fun _ _ _ h => h) (Or.inl ⟨by rfl, ?_⟩) (by assumption) ?_
      rotate_left
      · intro w' hSw
        obtain ⟨⟨_, c0, c1, c2⟩, _⟩ := hSw
        go_simp
        try with_reducible rfl
      try simp only [Act.put, List.setIfInBounds_toArray, List.set_cons_zero, List.set_cons_succ]
      have hdr : Below wSB.heap.size wSB wSB.drew := Below.drewN' (Below.refl wSB.heap.size wSB) 1
      clear hHeld
      generalize wSB.drew = wd7 at hdr ⊢
      have HB7 := Lib.hid (Bel.call HB6.out hdr)
      replace HXB := Lib.hid (HXB.out.below hdr)
      clear hdr
      refine wpAnyH_ready (rs := [3]) (by kernel_rfl) (by simp) ?_
      refine AllReadyH.cons (by rw [List.getElem?_toArray]; rfl) (fun K hK => ?_) AllReadyH.nil
      go_simp
      go_at_call 18
      with_reducible refine (HVM.out _).mono ?_
      rintro e w8 ⟨⟨AV, cV, vsV, hvs, hvn, hvc, hvr, hvz, rfl⟩, hb8⟩
      have HB8 := Lib.hid (Bel.call HB7.out hb8)
      replace HXB := Lib.hid (HXB.out.below hb8)
      clear hb8
      have HSV := Lib.hid hvs
      have HNV := Lib.hid hvn
      have HRV := Lib.hid hvr
      have HCV := Lib.hid hvc
      clear hvs hvn hvc hvr hvz
      dsimp only
      refine hK.out _ _ HXB.out (fun hHeld => ?_)
      try simp only [Act.put, List.setIfInBounds_toArray, List.set_cons_zero, List.set_cons_succ]
      clear hHeld
      refine wpAnyH_ready (rs := [6]) (by kernel_rfl) (by simp) ?_
      refine AllReadyH.cons (by rw [List.getElem?_toArray]; rfl) (fun K hK => ?_) AllReadyH.nil
      go_simp
      go_at_call 17
      with_reducible refine (HOF.out SB GB S _ _ _ _ HSB.out HGB.out HS.out HSV.out HRV.out).mono ?_
      rintro e w9 ⟨⟨CF, hCF, rfl⟩, hb9⟩
      have HB9 := Lib.hid (Bel.call HB8.out hb9)
      replace HXB := Lib.hid (HXB.out.below hb9)
      replace HRV := Lib.hid (HRV.out.below hb9 (Nat.le_refl _))
      clear hb9
      try dsimp only at hCF
      have HCF := Lib.hid hCF
      clear hCF
      dsimp only
      refine hK.out _ _ HXB.out (fun hHeld => ?_)
      try simp only [Act.put, List.setIfInBounds_toArray, List.set_cons_zero, List.set_cons_succ]
      refine wpAnyH_take (i := 7) (v := ?_) (by rw [List.getElem?_toArray]; rfl) (by kernel_rfl) (by kernel_rfl) (by kernel_rfl) (by exact fun _ _ _ h => h) (Or.inl ⟨by rfl, ?_⟩) (by assumption) ?_
      rotate_left
      · intro w' hSw
        obtain ⟨⟨_, c0, c1, c2⟩, _⟩ := hSw
        go_simp
        try with_reducible rfl
      try simp only [Act.put, List.setIfInBounds_toArray, List.set_cons_zero, List.set_cons_succ]
      refine wpAnyH_take (i := 8) (v := ?_) (by rw [List.getElem?_toArray]; rfl) (by kernel_rfl) (by kernel_rfl) (by kernel_rfl) (by exact fun _ _ _ h => h) (Or.inl ⟨by rfl, ?_⟩) (by assumption) ?_
      rotate_left
      · intro w' hSw
        obtain ⟨⟨_, c0, c1, c2⟩, _⟩ := hSw
        go_simp
        try with_reducible rfl
      try simp only [Act.put, List.setIfInBounds_toArray, List.set_cons_zero, List.set_cons_succ]
      refine wpAnyH_take (i := 9) (v := ?_) (by rw [List.getElem?_toArray]; rfl) (by kernel_rfl) (by kernel_rfl) (by kernel_rfl) (by exact fun _ _ _ h => h) (Or.inl ⟨by rfl, ?_⟩) (by assumption) ?_
      rotate_left
      · intro w' hSw
        obtain ⟨⟨_, c0, c1, c2⟩, _⟩ := hSw
        go_simp
        try with_reducible rfl
      try simp only [Act.put, List.setIfInBounds_toArray, List.set_cons_zero, List.set_cons_succ]
      refine wpAnyH_take (i := 10) (v := ?_) (by rw [List.getElem?_toArray]; rfl) (by kernel_rfl) (by kernel_rfl) (by kernel_rfl) (by exact fun _ _ _ h => h) (Or.inl ⟨by rfl, ?_⟩) (by assumption) ?_
      rotate_left
      · intro w' hSw
        obtain ⟨⟨_, c0, c1, c2⟩, _⟩ := hSw
        go_simp
        try with_reducible rfl
      try simp only [Act.put, List.setIfInBounds_toArray, List.set_cons_zero, List.set_cons_succ]
      refine wpAnyH_take (i := 11) (v := ?_) (by rw [List.getElem?_toArray]; rfl) (by kernel_rfl) (by kernel_rfl) (by kernel_rfl) (by exact fun _ _ _ h => h) (Or.inl ⟨by rfl, ?_⟩) (by assumption) ?_
      rotate_left
      · intro w' hSw
        obtain ⟨⟨_, c0, c1, c2⟩, _⟩ := hSw
        go_simp
        try with_reducible rfl
      try simp only [Act.put, List.setIfInBounds_toArray, List.set_cons_zero, List.set_cons_succ]
      refine wpAnyH_done (by kernel_rfl) ?_ _
      clear hHeld HRV
      go_wp2_with fail
      with_reducible refine (HSG.out _).mono ?_
      rintro e w10 ⟨⟨G2, hG2, rfl⟩, hb10⟩
      have HB10 := Lib.hid (Bel.call HB9.out hb10)
      replace HXB := Lib.hid (HXB.out.below hb10)
      clear hb10
      try dsimp only at hG2
      have HG2 := Lib.hid hG2
      clear hG2
      dsimp only
      go_wp2_with fail
      with_reducible refine (HBG.out S G2 _ HS.out HG2.out).mono ?_
      rintro e w11 ⟨hx, hb11⟩
      have HB11 := Lib.hid (Bel.call HB10.out hb11)
      replace HXB := Lib.hid (HXB.out.below hb11)
      clear hb11
      obtain ⟨SG, GG, hSG, hGG, rfl⟩ := bs_open hx
      clear hx hSG hGG
      dsimp only
      go_wp2_with fail
      have hbS : Below w11.heap.size w11 (w11.alloc (.cells #[.int .i64 bg.ep, .string SG, .string GG] 29)) := (Below.refl w11.heap.size w11).alloc (Nat.le_refl _) _
      have hxS := r3_new w11 (bg.ep) SG GG 29
      generalize w11.alloc (.cells #[.int .i64 bg.ep, .string SG, .string GG] 29) = wSG at hbS hxS ⊢
      have HB12 := Lib.hid (Bel.call HB11.out hbS)
      replace HXB := Lib.hid (HXB.out.below hbS)
      have HXG := Lib.hid hxS
      clear hbS hxS
      refine wp_region_held_drew (S := fun w' => R3 w5.heap.size w' (X : Int) SB GB) (by kernel_rfl) (HXB.out.below (Below.drewN' (Below.refl wSG.heap.size wSG) 1)) (fun hHeld => ?_)
      refine wpAnyH_take (i := 0) (v := ?_) (by rw [List.getElem?_toArray]; rfl) (by kernel_rfl) (by kernel_rfl) (by kernel_rfl) (by exact fun _ _ _ h => h) (Or.inl ⟨by rfl, ?_⟩) (by assumption) ?_
      rotate_left
      · intro w' hSw
        obtain ⟨⟨_, c0, c1, c2⟩, _⟩ := hSw
        go_simp
        try with_reducible rfl
      try simp only [Act.put, List.setIfInBounds_toArray, List.set_cons_zero, List.set_cons_succ]
      refine wpAnyH_take (i := 1) (v := ?_) (by rw [List.getElem?_toArray]; rfl) (by kernel_rfl) (by kernel_rfl) (by kernel_rfl) (by exact fun _ _ _ h => h) (Or.inl ⟨by rfl, ?_⟩) (by assumption) ?_
      rotate_left
      · intro w' hSw
        obtain ⟨⟨_, c0, c1, c2⟩, _⟩ := hSw
        go_simp
        try with_reducible rfl
      try simp only [Act.put, List.setIfInBounds_toArray, List.set_cons_zero, List.set_cons_succ]
      refine wpAnyH_take (i := 3) (v := ?_) (by rw [List.getElem?_toArray]; rfl) (by kernel_rfl) (by kernel_rfl) (by kernel_rfl) (by exact fun _ _ _ h => h) (Or.inl ⟨by rfl, ?_⟩) (by assumption) ?_
      rotate_left
      · intro w' hSw
        obtain ⟨⟨_, c0, c1, c2⟩, _⟩ := hSw
        go_simp
        try with_reducible rfl
      try simp only [Act.put, List.setIfInBounds_toArray, List.set_cons_zero, List.set_cons_succ]
      refine wpAnyH_take (i := 4) (v := ?_) (by rw [List.getElem?_toArray]; rfl) (by kernel_rfl) (by kernel_rfl) (by kernel_rfl) (by exact fun _ _ _ h => h) (Or.inl ⟨by rfl, ?_⟩) (by assumption) ?_
      rotate_left
      · intro w' hSw
        obtain ⟨⟨_, c0, c1, c2⟩, _⟩ := hSw
        go_simp
        try with_reducible rfl
      try simp only [Act.put, List.setIfInBounds_toArray, List.set_cons_zero, List.set_cons_succ]
      have hdr : Below wSG.heap.size wSG wSG.drew := Below.drewN' (Below.refl wSG.heap.size wSG) 1
      clear hHeld
      generalize wSG.drew = wd13 at hdr ⊢
      have HB13 := Lib.hid (Bel.call HB12.out hdr)
      replace HXB := Lib.hid (HXB.out.below hdr)
      replace HXG := Lib.hid (HXG.out.below hdr)
      clear hdr
      refine wpAnyH_ready (rs := [2]) (by kernel_rfl) (by simp) ?_
      refine AllReadyH.cons (by rw [List.getElem?_toArray]; rfl) (fun K hK => ?_) AllReadyH.nil
      go_simp
      go_at_call 18
      with_reducible refine (HVF.out _).mono ?_
      rintro e w14 ⟨⟨AW, cW, vsW, hvs, hvn, hvc, hvr, hvz, rfl⟩, hb14⟩
      have HB14 := Lib.hid (Bel.call HB13.out hb14)
      replace HXB := Lib.hid (HXB.out.below hb14)
      replace HXG := Lib.hid (HXG.out.below hb14)
      clear hb14
      have HSW := Lib.hid hvs
      have HNW := Lib.hid hvn
      have HRW := Lib.hid hvr
      have HCW := Lib.hid hvc
      clear hvs hvn hvc hvr hvz
      dsimp only
      refine hK.out _ _ HXB.out (fun hHeld => ?_)
      try simp only [Act.put, List.setIfInBounds_toArray, List.set_cons_zero, List.set_cons_succ]
      clear hHeld
      refine wpAnyH_ready (rs := [5]) (by kernel_rfl) (by simp) ?_
      refine AllReadyH.cons (by rw [List.getElem?_toArray]; rfl) (fun K hK => ?_) AllReadyH.nil
      go_simp
      go_at_call 17
      with_reducible refine (HOH.out SB GB S _ _ _ _ HSB.out HGB.out HS.out HSW.out HRW.out).mono ?_
      rintro e w15 ⟨⟨CH, hCH, rfl⟩, hb15⟩
      have HB15 := Lib.hid (Bel.call HB14.out hb15)
      replace HXB := Lib.hid (HXB.out.below hb15)
      replace HXG := Lib.hid (HXG.out.below hb15)
      replace HRW := Lib.hid (HRW.out.below hb15 (Nat.le_refl _))
      clear hb15
      try dsimp only at hCH
      have HCH := Lib.hid hCH
      clear hCH
      dsimp only
      refine hK.out _ _ HXB.out (fun hHeld => ?_)
      try simp only [Act.put, List.setIfInBounds_toArray, List.set_cons_zero, List.set_cons_succ]
      refine wpAnyH_take (i := 6) (v := ?_) (by rw [List.getElem?_toArray]; rfl) (by kernel_rfl) (by kernel_rfl) (by kernel_rfl) (by exact fun _ _ _ h => h) (Or.inl ⟨by rfl, ?_⟩) (by assumption) ?_
      rotate_left
      · intro w' hSw
        obtain ⟨⟨_, c0, c1, c2⟩, _⟩ := hSw
        go_simp
        try with_reducible rfl
      try simp only [Act.put, List.setIfInBounds_toArray, List.set_cons_zero, List.set_cons_succ]
      refine wpAnyH_take (i := 7) (v := ?_) (by rw [List.getElem?_toArray]; rfl) (by kernel_rfl) (by kernel_rfl) (by kernel_rfl) (by exact fun _ _ _ h => h) (Or.inl ⟨by rfl, ?_⟩) (by assumption) ?_
      rotate_left
      · intro w' hSw
        obtain ⟨⟨_, c0, c1, c2⟩, _⟩ := hSw
        go_simp
        try with_reducible rfl
      try simp only [Act.put, List.setIfInBounds_toArray, List.set_cons_zero, List.set_cons_succ]
      refine wpAnyH_take (i := 8) (v := ?_) (by rw [List.getElem?_toArray]; rfl) (by kernel_rfl) (by kernel_rfl) (by kernel_rfl) (by exact fun _ _ _ h => h) (Or.inl ⟨by rfl, ?_⟩) (by assumption) ?_
      rotate_left
      · intro w' hSw
        obtain ⟨⟨_, c0, c1, c2⟩, _⟩ := hSw
        go_simp
        try with_reducible rfl
      try simp only [Act.put, List.setIfInBounds_toArray, List.set_cons_zero, List.set_cons_succ]
      refine wpAnyH_take (i := 9) (v := ?_) (by rw [List.getElem?_toArray]; rfl) (by kernel_rfl) (by kernel_rfl) (by kernel_rfl) (by exact fun _ _ _ h => h) (Or.inl ⟨by rfl, ?_⟩) (by assumption) ?_
      rotate_left
      · intro w' hSw
        obtain ⟨⟨_, c0, c1, c2⟩, _⟩ := hSw
        go_simp
        try with_reducible rfl
      try simp only [Act.put, List.setIfInBounds_toArray, List.set_cons_zero, List.set_cons_succ]
      refine wpAnyH_take (i := 10) (v := ?_) (by rw [List.getElem?_toArray]; rfl) (by kernel_rfl) (by kernel_rfl) (by kernel_rfl) (by exact fun _ _ _ h => h) (Or.inl ⟨by rfl, ?_⟩) (by assumption) ?_
      rotate_left
      · intro w' hSw
        obtain ⟨⟨_, c0, c1, c2⟩, _⟩ := hSw
        go_simp
        try with_reducible rfl
      try simp only [Act.put, List.setIfInBounds_toArray, List.set_cons_zero, List.set_cons_succ]
      refine wpAnyH_done (by kernel_rfl) ?_ _
      clear hHeld HRW
      go_wp2_with fail
      with_reducible refine (HK.out _).mono ?_
      rintro e w16 ⟨rfl, hb16⟩
      have HB16 := Lib.hid (Bel.call HB15.out hb16)
      replace HXB := Lib.hid (HXB.out.below hb16)
      replace HXG := Lib.hid (HXG.out.below hb16)
      clear hb16
      dsimp only
      go_wp2
      go_ret
      exact ⟨rfl, HB16.out⟩
    · by_cases he7 : 7 < epoch
      · have hfg := hfg.2 (by omega)
        subst hfg
        go_enter Try.func7, Try.ntmps7
        go_wp2_with fail
        with_reducible refine (HSH.out _).mono ?_
        rintro e w1 ⟨rfl, hb1⟩
        have HB1 := Lib.hid hb1
        clear hb1
        dsimp only
        go_wp2_with fail
        with_reducible refine (HPA.out _).mono ?_
        rintro e v1 ⟨rfl, hv1⟩
        obtain rfl : w1 = v1 := hv1.symm
        dsimp only
        go_wp2_with fail
        with_reducible refine (HRT.out _).mono ?_
        rintro e w2 ⟨⟨R, hR, rfl⟩, hb2⟩
        have HB2 := Lib.hid (Bel.call HB1.out hb2)
        clear hb2
        try dsimp only at hR
        have HR := Lib.hid hR
        clear hR
        dsimp only
        go_wp2_with fail
        with_reducible refine (HST.out R _ HR.out).mono ?_
        rintro e w3 ⟨⟨S, hS, rfl⟩, hb3⟩
        have HB3 := Lib.hid (Bel.call HB2.out hb3)
        clear hb3
        try dsimp only at hS
        have HS := Lib.hid hS
        clear hS
        dsimp only
        go_wp2_with fail
        with_reducible refine (HSG.out _).mono ?_
        rintro e w4 ⟨⟨G, hG, rfl⟩, hb4⟩
        have HB4 := Lib.hid (Bel.call HB3.out hb4)
        clear hb4
        try dsimp only at hG
        have HG := Lib.hid hG
        clear hG
        dsimp only
        go_wp2_with fail
        with_reducible refine (HBD.out S G _ HS.out HG.out).mono ?_
        rintro e w5 ⟨hx, hb5⟩
        have HB5 := Lib.hid (Bel.call HB4.out hb5)
        clear hb5
        obtain ⟨SB, GB, hSB, hGB, rfl⟩ := bs_bOf hx
        have HSB := Lib.hid hSB
        have HGB := Lib.hid hGB
        clear hx hSB hGB
        dsimp only
        go_wp2_with fail
        have hbS : Below w5.heap.size w5 (w5.alloc (.cells #[.int .i64 (X : Int), .string SB, .string GB] 29)) := (Below.refl w5.heap.size w5).alloc (Nat.le_refl _) _
        have hxS := r3_new w5 ((X : Int)) SB GB 29
        generalize w5.alloc (.cells #[.int .i64 (X : Int), .string SB, .string GB] 29) = wSB at hbS hxS ⊢
        have HB6 := Lib.hid (Bel.call HB5.out hbS)
        have HXB := Lib.hid hxS
        clear hbS hxS
        with_reducible refine (HPM.out _).mono ?_
        rintro e v2 ⟨rfl, hv2⟩
        obtain rfl : wSB = v2 := hv2.symm
        dsimp only
        go_wp2_with fail
        refine wp_region_held_drew (S := fun w' => R3 w5.heap.size w' (X : Int) SB GB) (by kernel_rfl) (HXB.out.below (Below.drewN' (Below.refl wSB.heap.size wSB) 1)) (fun hHeld => ?_)
        refine wpAnyH_take (i := 0) (v := ?_) (by rw [List.getElem?_toArray]; rfl) (by kernel_rfl) (by kernel_rfl) (by kernel_rfl) (by exact fun _ _ _ h => h) (Or.inl ⟨by rfl, ?_⟩) (by assumption) ?_
        rotate_left
        · intro w' hSw
          obtain ⟨⟨_, c0, c1, c2⟩, _⟩ := hSw
          go_simp
          try with_reducible rfl
        try simp only [Act.put, List.setIfInBounds_toArray, List.set_cons_zero, List.set_cons_succ]
        refine wpAnyH_take (i := 1) (v := ?_) (by rw [List.getElem?_toArray]; rfl) (by kernel_rfl) (by kernel_rfl) (by kernel_rfl) (by exact fun _ _ _ h => h) (Or.inl ⟨by rfl, ?_⟩) (by assumption) ?_
        rotate_left
        · intro w' hSw
          obtain ⟨⟨_, c0, c1, c2⟩, _⟩ := hSw
          go_simp
          try with_reducible rfl
        try simp only [Act.put, List.setIfInBounds_toArray, List.set_cons_zero, List.set_cons_succ]
        refine wpAnyH_take (i := 2) (v := ?_) (by rw [List.getElem?_toArray]; rfl) (by kernel_rfl) (by kernel_rfl) (by kernel_rfl) (by exact fun _ _ _ h => h) (Or.inl ⟨by rfl, ?_⟩) (by assumption) ?_
        rotate_left
        · intro w' hSw
          obtain ⟨⟨_, c0, c1, c2⟩, _⟩ := hSw
          go_simp
          try with_reducible rfl
        try simp only [Act.put, List.setIfInBounds_toArray, List.set_cons_zero, List.set_cons_succ]
        refine wpAnyH_take (i := 4) (v := ?_) (by rw [List.getElem?_toArray]; rfl) (by kernel_rfl) (by kernel_rfl) (by kernel_rfl) (by exact fun _ _ _ h => h) (Or.inl ⟨by rfl, ?_⟩) (by assumption) ?_
        rotate_left
        · intro w' hSw
          obtain ⟨⟨_, c0, c1, c2⟩, _⟩ := hSw
          go_simp
          try with_reducible rfl
        try simp only [Act.put, List.setIfInBounds_toArray, List.set_cons_zero, List.set_cons_succ]
        refine wpAnyH_take (i := 5) (v := ?_) (by rw [List.getElem?_toArray]; rfl) (by kernel_rfl) (by kernel_rfl) (by kernel_rfl) (by exact fun _ _ _ h => h) (Or.inl ⟨by rfl, ?_⟩) (by assumption) ?_
        rotate_left
        · intro w' hSw
          obtain ⟨⟨_, c0, c1, c2⟩, _⟩ := hSw
          go_simp
          try with_reducible rfl
        try simp only [Act.put, List.setIfInBounds_toArray, List.set_cons_zero, List.set_cons_succ]
        have hdr : Below wSB.heap.size wSB wSB.drew := Below.drewN' (Below.refl wSB.heap.size wSB) 1
        clear hHeld
        generalize wSB.drew = wd7 at hdr ⊢
        have HB7 := Lib.hid (Bel.call HB6.out hdr)
        replace HXB := Lib.hid (HXB.out.below hdr)
        clear hdr
        refine wpAnyH_ready (rs := [3]) (by kernel_rfl) (by simp) ?_
        refine AllReadyH.cons (by rw [List.getElem?_toArray]; rfl) (fun K hK => ?_) AllReadyH.nil
        go_simp
        go_at_call 18
        with_reducible refine (HVM.out _).mono ?_
        rintro e w8 ⟨⟨AV, cV, vsV, hvs, hvn, hvc, hvr, hvz, rfl⟩, hb8⟩
        have HB8 := Lib.hid (Bel.call HB7.out hb8)
        replace HXB := Lib.hid (HXB.out.below hb8)
        clear hb8
        have HSV := Lib.hid hvs
        have HNV := Lib.hid hvn
        have HRV := Lib.hid hvr
        have HCV := Lib.hid hvc
        clear hvs hvn hvc hvr hvz
        dsimp only
        refine hK.out _ _ HXB.out (fun hHeld => ?_)
        try simp only [Act.put, List.setIfInBounds_toArray, List.set_cons_zero, List.set_cons_succ]
        clear hHeld
        refine wpAnyH_ready (rs := [6]) (by kernel_rfl) (by simp) ?_
        refine AllReadyH.cons (by rw [List.getElem?_toArray]; rfl) (fun K hK => ?_) AllReadyH.nil
        go_simp
        go_at_call 17
        with_reducible refine (HOF.out SB GB S _ _ _ _ HSB.out HGB.out HS.out HSV.out HRV.out).mono ?_
        rintro e w9 ⟨⟨CF, hCF, rfl⟩, hb9⟩
        have HB9 := Lib.hid (Bel.call HB8.out hb9)
        replace HXB := Lib.hid (HXB.out.below hb9)
        replace HRV := Lib.hid (HRV.out.below hb9 (Nat.le_refl _))
        clear hb9
        try dsimp only at hCF
        have HCF := Lib.hid hCF
        clear hCF
        dsimp only
        refine hK.out _ _ HXB.out (fun hHeld => ?_)
        try simp only [Act.put, List.setIfInBounds_toArray, List.set_cons_zero, List.set_cons_succ]
        refine wpAnyH_take (i := 7) (v := ?_) (by rw [List.getElem?_toArray]; rfl) (by kernel_rfl) (by kernel_rfl) (by kernel_rfl) (by exact fun _ _ _ h => h) (Or.inl ⟨by rfl, ?_⟩) (by assumption) ?_
        rotate_left
        · intro w' hSw
          obtain ⟨⟨_, c0, c1, c2⟩, _⟩ := hSw
          go_simp
          try with_reducible rfl
        try simp only [Act.put, List.setIfInBounds_toArray, List.set_cons_zero, List.set_cons_succ]
        refine wpAnyH_take (i := 8) (v := ?_) (by rw [List.getElem?_toArray]; rfl) (by kernel_rfl) (by kernel_rfl) (by kernel_rfl) (by exact fun _ _ _ h => h) (Or.inl ⟨by rfl, ?_⟩) (by assumption) ?_
        rotate_left
        · intro w' hSw
          obtain ⟨⟨_, c0, c1, c2⟩, _⟩ := hSw
          go_simp
          try with_reducible rfl
        try simp only [Act.put, List.setIfInBounds_toArray, List.set_cons_zero, List.set_cons_succ]
        refine wpAnyH_take (i := 9) (v := ?_) (by rw [List.getElem?_toArray]; rfl) (by kernel_rfl) (by kernel_rfl) (by kernel_rfl) (by exact fun _ _ _ h => h) (Or.inl ⟨by rfl, ?_⟩) (by assumption) ?_
        rotate_left
        · intro w' hSw
          obtain ⟨⟨_, c0, c1, c2⟩, _⟩ := hSw
          go_simp
          try with_reducible rfl
        try simp only [Act.put, List.setIfInBounds_toArray, List.set_cons_zero, List.set_cons_succ]
        refine wpAnyH_take (i := 10) (v := ?_) (by rw [List.getElem?_toArray]; rfl) (by kernel_rfl) (by kernel_rfl) (by kernel_rfl) (by exact fun _ _ _ h => h) (Or.inl ⟨by rfl, ?_⟩) (by assumption) ?_
        rotate_left
        · intro w' hSw
          obtain ⟨⟨_, c0, c1, c2⟩, _⟩ := hSw
          go_simp
          try with_reducible rfl
        try simp only [Act.put, List.setIfInBounds_toArray, List.set_cons_zero, List.set_cons_succ]
        refine wpAnyH_take (i := 11) (v := ?_) (by rw [List.getElem?_toArray]; rfl) (by kernel_rfl) (by kernel_rfl) (by kernel_rfl) (by exact fun _ _ _ h => h) (Or.inl ⟨by rfl, ?_⟩) (by assumption) ?_
        rotate_left
        · intro w' hSw
          obtain ⟨⟨_, c0, c1, c2⟩, _⟩ := hSw
          go_simp
          try with_reducible rfl
        try simp only [Act.put, List.setIfInBounds_toArray, List.set_cons_zero, List.set_cons_succ]
        refine wpAnyH_done (by kernel_rfl) ?_ _
        clear hHeld HRV
        go_wp2_with fail
        with_reducible refine (HSG.out _).mono ?_
        rintro e w10 ⟨⟨G2, hG2, rfl⟩, hb10⟩
        have HB10 := Lib.hid (Bel.call HB9.out hb10)
        replace HXB := Lib.hid (HXB.out.below hb10)
        clear hb10
        try dsimp only at hG2
        have HG2 := Lib.hid hG2
        clear hG2
        dsimp only
        go_wp2_with fail
        with_reducible refine (HBG.out S G2 _ HS.out HG2.out).mono ?_
        rintro e w11 ⟨hx, hb11⟩
        have HB11 := Lib.hid (Bel.call HB10.out hb11)
        replace HXB := Lib.hid (HXB.out.below hb11)
        clear hb11
        obtain ⟨SG, GG, hSG, hGG, rfl⟩ := bs_open hx
        clear hx hSG hGG
        dsimp only
        go_wp2_with fail
        have hbS : Below w11.heap.size w11 (w11.alloc (.cells #[.int .i64 bg.ep, .string SG, .string GG] 29)) := (Below.refl w11.heap.size w11).alloc (Nat.le_refl _) _
        have hxS := r3_new w11 (bg.ep) SG GG 29
        generalize w11.alloc (.cells #[.int .i64 bg.ep, .string SG, .string GG] 29) = wSG at hbS hxS ⊢
        have HB12 := Lib.hid (Bel.call HB11.out hbS)
        replace HXB := Lib.hid (HXB.out.below hbS)
        have HXG := Lib.hid hxS
        clear hbS hxS
        refine wp_region_held_drew (S := fun w' => R3 w5.heap.size w' (X : Int) SB GB) (by kernel_rfl) (HXB.out.below (Below.drewN' (Below.refl wSG.heap.size wSG) 1)) (fun hHeld => ?_)
        refine wpAnyH_take (i := 0) (v := ?_) (by rw [List.getElem?_toArray]; rfl) (by kernel_rfl) (by kernel_rfl) (by kernel_rfl) (by exact fun _ _ _ h => h) (Or.inl ⟨by rfl, ?_⟩) (by assumption) ?_
        rotate_left
        · intro w' hSw
          obtain ⟨⟨_, c0, c1, c2⟩, _⟩ := hSw
          go_simp
          try with_reducible rfl
        try simp only [Act.put, List.setIfInBounds_toArray, List.set_cons_zero, List.set_cons_succ]
        refine wpAnyH_take (i := 1) (v := ?_) (by rw [List.getElem?_toArray]; rfl) (by kernel_rfl) (by kernel_rfl) (by kernel_rfl) (by exact fun _ _ _ h => h) (Or.inl ⟨by rfl, ?_⟩) (by assumption) ?_
        rotate_left
        · intro w' hSw
          obtain ⟨⟨_, c0, c1, c2⟩, _⟩ := hSw
          go_simp
          try with_reducible rfl
        try simp only [Act.put, List.setIfInBounds_toArray, List.set_cons_zero, List.set_cons_succ]
        refine wpAnyH_take (i := 3) (v := ?_) (by rw [List.getElem?_toArray]; rfl) (by kernel_rfl) (by kernel_rfl) (by kernel_rfl) (by exact fun _ _ _ h => h) (Or.inl ⟨by rfl, ?_⟩) (by assumption) ?_
        rotate_left
        · intro w' hSw
          obtain ⟨⟨_, c0, c1, c2⟩, _⟩ := hSw
          go_simp
          try with_reducible rfl
        try simp only [Act.put, List.setIfInBounds_toArray, List.set_cons_zero, List.set_cons_succ]
        refine wpAnyH_take (i := 4) (v := ?_) (by rw [List.getElem?_toArray]; rfl) (by kernel_rfl) (by kernel_rfl) (by kernel_rfl) (by exact fun _ _ _ h => h) (Or.inl ⟨by rfl, ?_⟩) (by assumption) ?_
        rotate_left
        · intro w' hSw
          obtain ⟨⟨_, c0, c1, c2⟩, _⟩ := hSw
          go_simp
          try with_reducible rfl
        try simp only [Act.put, List.setIfInBounds_toArray, List.set_cons_zero, List.set_cons_succ]
        have hdr : Below wSG.heap.size wSG wSG.drew := Below.drewN' (Below.refl wSG.heap.size wSG) 1
        clear hHeld
        generalize wSG.drew = wd13 at hdr ⊢
        have HB13 := Lib.hid (Bel.call HB12.out hdr)
        replace HXB := Lib.hid (HXB.out.below hdr)
        replace HXG := Lib.hid (HXG.out.below hdr)
        clear hdr
        refine wpAnyH_ready (rs := [2]) (by kernel_rfl) (by simp) ?_
        refine AllReadyH.cons (by rw [List.getElem?_toArray]; rfl) (fun K hK => ?_) AllReadyH.nil
        go_simp
        go_at_call 18
        with_reducible refine (HVF.out _).mono ?_
        rintro e w14 ⟨⟨AW, cW, vsW, hvs, hvn, hvc, hvr, hvz, rfl⟩, hb14⟩
        have HB14 := Lib.hid (Bel.call HB13.out hb14)
        replace HXB := Lib.hid (HXB.out.below hb14)
        replace HXG := Lib.hid (HXG.out.below hb14)
        clear hb14
        have HSW := Lib.hid hvs
        have HNW := Lib.hid hvn
        have HRW := Lib.hid hvr
        have HCW := Lib.hid hvc
        clear hvs hvn hvc hvr hvz
        dsimp only
        refine hK.out _ _ HXB.out (fun hHeld => ?_)
        try simp only [Act.put, List.setIfInBounds_toArray, List.set_cons_zero, List.set_cons_succ]
        clear hHeld
        refine wpAnyH_ready (rs := [5]) (by kernel_rfl) (by simp) ?_
        refine AllReadyH.cons (by rw [List.getElem?_toArray]; rfl) (fun K hK => ?_) AllReadyH.nil
        go_simp
        go_at_call 17
        with_reducible refine (HOH.out SB GB S _ _ _ _ HSB.out HGB.out HS.out HSW.out HRW.out).mono ?_
        rintro e w15 ⟨⟨CH, hCH, rfl⟩, hb15⟩
        have HB15 := Lib.hid (Bel.call HB14.out hb15)
        replace HXB := Lib.hid (HXB.out.below hb15)
        replace HXG := Lib.hid (HXG.out.below hb15)
        replace HRW := Lib.hid (HRW.out.below hb15 (Nat.le_refl _))
        clear hb15
        try dsimp only at hCH
        have HCH := Lib.hid hCH
        clear hCH
        dsimp only
        refine hK.out _ _ HXB.out (fun hHeld => ?_)
        try simp only [Act.put, List.setIfInBounds_toArray, List.set_cons_zero, List.set_cons_succ]
        refine wpAnyH_take (i := 6) (v := ?_) (by rw [List.getElem?_toArray]; rfl) (by kernel_rfl) (by kernel_rfl) (by kernel_rfl) (by exact fun _ _ _ h => h) (Or.inl ⟨by rfl, ?_⟩) (by assumption) ?_
        rotate_left
        · intro w' hSw
          obtain ⟨⟨_, c0, c1, c2⟩, _⟩ := hSw
          go_simp
          try with_reducible rfl
        try simp only [Act.put, List.setIfInBounds_toArray, List.set_cons_zero, List.set_cons_succ]
        refine wpAnyH_take (i := 7) (v := ?_) (by rw [List.getElem?_toArray]; rfl) (by kernel_rfl) (by kernel_rfl) (by kernel_rfl) (by exact fun _ _ _ h => h) (Or.inl ⟨by rfl, ?_⟩) (by assumption) ?_
        rotate_left
        · intro w' hSw
          obtain ⟨⟨_, c0, c1, c2⟩, _⟩ := hSw
          go_simp
          try with_reducible rfl
        try simp only [Act.put, List.setIfInBounds_toArray, List.set_cons_zero, List.set_cons_succ]
        refine wpAnyH_take (i := 8) (v := ?_) (by rw [List.getElem?_toArray]; rfl) (by kernel_rfl) (by kernel_rfl) (by kernel_rfl) (by exact fun _ _ _ h => h) (Or.inl ⟨by rfl, ?_⟩) (by assumption) ?_
        rotate_left
        · intro w' hSw
          obtain ⟨⟨_, c0, c1, c2⟩, _⟩ := hSw
          go_simp
          try with_reducible rfl
        try simp only [Act.put, List.setIfInBounds_toArray, List.set_cons_zero, List.set_cons_succ]
        refine wpAnyH_take (i := 9) (v := ?_) (by rw [List.getElem?_toArray]; rfl) (by kernel_rfl) (by kernel_rfl) (by kernel_rfl) (by exact fun _ _ _ h => h) (Or.inl ⟨by rfl, ?_⟩) (by assumption) ?_
        rotate_left
        · intro w' hSw
          obtain ⟨⟨_, c0, c1, c2⟩, _⟩ := hSw
          go_simp
          try with_reducible rfl
        try simp only [Act.put, List.setIfInBounds_toArray, List.set_cons_zero, List.set_cons_succ]
        refine wpAnyH_take (i := 10) (v := ?_) (by rw [List.getElem?_toArray]; rfl) (by kernel_rfl) (by kernel_rfl) (by kernel_rfl) (by exact fun _ _ _ h => h) (Or.inl ⟨by rfl, ?_⟩) (by assumption) ?_
        rotate_left
        · intro w' hSw
          obtain ⟨⟨_, c0, c1, c2⟩, _⟩ := hSw
          go_simp
          try with_reducible rfl
        try simp only [Act.put, List.setIfInBounds_toArray, List.set_cons_zero, List.set_cons_succ]
        refine wpAnyH_done (by kernel_rfl) ?_ _
        clear hHeld HRW
        go_wp2_with fail
        with_reducible refine (HK.out _).mono ?_
        rintro e w16 ⟨rfl, hb16⟩
        have HB16 := Lib.hid (Bel.call HB15.out hb16)
        replace HXB := Lib.hid (HXB.out.below hb16)
        replace HXG := Lib.hid (HXG.out.below hb16)
        clear hb16
        dsimp only
        go_wp2
        go_ret
        exact ⟨rfl, HB16.out⟩
      · have hfg := hfg.1 (by omega)
        go_enter Try.func7, Try.ntmps7
        go_wp2_with fail
        with_reducible refine (HSH.out _).mono ?_
        rintro e w1 ⟨rfl, hb1⟩
        have HB1 := Lib.hid hb1
        clear hb1
        dsimp only
        go_wp2_with fail
        with_reducible refine (HPA.out _).mono ?_
        rintro e v1 ⟨rfl, hv1⟩
        obtain rfl : w1 = v1 := hv1.symm
        dsimp only
        go_wp2_with fail
        with_reducible refine (HRT.out _).mono ?_
        rintro e w2 ⟨⟨R, hR, rfl⟩, hb2⟩
        have HB2 := Lib.hid (Bel.call HB1.out hb2)
        clear hb2
        try dsimp only at hR
        have HR := Lib.hid hR
        clear hR
        dsimp only
        go_wp2_with fail
        with_reducible refine (HST.out R _ HR.out).mono ?_
        rintro e w3 ⟨⟨S, hS, rfl⟩, hb3⟩
        have HB3 := Lib.hid (Bel.call HB2.out hb3)
        clear hb3
        try dsimp only at hS
        have HS := Lib.hid hS
        clear hS
        dsimp only
        go_wp2_with fail
        with_reducible refine (HSG.out _).mono ?_
        rintro e w4 ⟨⟨G, hG, rfl⟩, hb4⟩
        have HB4 := Lib.hid (Bel.call HB3.out hb4)
        clear hb4
        try dsimp only at hG
        have HG := Lib.hid hG
        clear hG
        dsimp only
        go_wp2_with fail
        with_reducible refine (HBD.out S G _ HS.out HG.out).mono ?_
        rintro e w5 ⟨hx, hb5⟩
        have HB5 := Lib.hid (Bel.call HB4.out hb5)
        clear hb5
        obtain ⟨SB, GB, hSB, hGB, rfl⟩ := bs_bOf hx
        have HSB := Lib.hid hSB
        have HGB := Lib.hid hGB
        clear hx hSB hGB
        dsimp only
        go_wp2_with fail
        have hbS : Below w5.heap.size w5 (w5.alloc (.cells #[.int .i64 (X : Int), .string SB, .string GB] 29)) := (Below.refl w5.heap.size w5).alloc (Nat.le_refl _) _
        have hxS := r3_new w5 ((X : Int)) SB GB 29
        generalize w5.alloc (.cells #[.int .i64 (X : Int), .string SB, .string GB] 29) = wSB at hbS hxS ⊢
        have HB6 := Lib.hid (Bel.call HB5.out hbS)
        have HXB := Lib.hid hxS
        clear hbS hxS
        with_reducible refine (HPM.out _).mono ?_
        rintro e v2 ⟨rfl, hv2⟩
        obtain rfl : wSB = v2 := hv2.symm
        dsimp only
        go_wp2_with fail
        refine wp_region_held_drew (S := fun w' => R3 w5.heap.size w' (X : Int) SB GB) (by kernel_rfl) (HXB.out.below (Below.drewN' (Below.refl wSB.heap.size wSB) 1)) (fun hHeld => ?_)
        refine wpAnyH_take (i := 0) (v := ?_) (by rw [List.getElem?_toArray]; rfl) (by kernel_rfl) (by kernel_rfl) (by kernel_rfl) (by exact fun _ _ _ h => h) (Or.inl ⟨by rfl, ?_⟩) (by assumption) ?_
        rotate_left
        · intro w' hSw
          obtain ⟨⟨_, c0, c1, c2⟩, _⟩ := hSw
          go_simp
          try with_reducible rfl
        try simp only [Act.put, List.setIfInBounds_toArray, List.set_cons_zero, List.set_cons_succ]
        refine wpAnyH_take (i := 1) (v := ?_) (by rw [List.getElem?_toArray]; rfl) (by kernel_rfl) (by kernel_rfl) (by kernel_rfl) (by exact fun _ _ _ h => h) (Or.inl ⟨by rfl, ?_⟩) (by assumption) ?_
        rotate_left
        · intro w' hSw
          obtain ⟨⟨_, c0, c1, c2⟩, _⟩ := hSw
          go_simp
          try with_reducible rfl
        try simp only [Act.put, List.setIfInBounds_toArray, List.set_cons_zero, List.set_cons_succ]
        refine wpAnyH_take (i := 2) (v := ?_) (by rw [List.getElem?_toArray]; rfl) (by kernel_rfl) (by kernel_rfl) (by kernel_rfl) (by exact fun _ _ _ h => h) (Or.inl ⟨by rfl, ?_⟩) (by assumption) ?_
        rotate_left
        · intro w' hSw
          obtain ⟨⟨_, c0, c1, c2⟩, _⟩ := hSw
          go_simp
          try with_reducible rfl
        try simp only [Act.put, List.setIfInBounds_toArray, List.set_cons_zero, List.set_cons_succ]
        refine wpAnyH_take (i := 4) (v := ?_) (by rw [List.getElem?_toArray]; rfl) (by kernel_rfl) (by kernel_rfl) (by kernel_rfl) (by exact fun _ _ _ h => h) (Or.inl ⟨by rfl, ?_⟩) (by assumption) ?_
        rotate_left
        · intro w' hSw
          obtain ⟨⟨_, c0, c1, c2⟩, _⟩ := hSw
          go_simp
          try with_reducible rfl
        try simp only [Act.put, List.setIfInBounds_toArray, List.set_cons_zero, List.set_cons_succ]
        refine wpAnyH_take (i := 5) (v := ?_) (by rw [List.getElem?_toArray]; rfl) (by kernel_rfl) (by kernel_rfl) (by kernel_rfl) (by exact fun _ _ _ h => h) (Or.inl ⟨by rfl, ?_⟩) (by assumption) ?_
        rotate_left
        · intro w' hSw
          obtain ⟨⟨_, c0, c1, c2⟩, _⟩ := hSw
          go_simp
          try with_reducible rfl
        try simp only [Act.put, List.setIfInBounds_toArray, List.set_cons_zero, List.set_cons_succ]
        have hdr : Below wSB.heap.size wSB wSB.drew := Below.drewN' (Below.refl wSB.heap.size wSB) 1
        clear hHeld
        generalize wSB.drew = wd7 at hdr ⊢
        have HB7 := Lib.hid (Bel.call HB6.out hdr)
        replace HXB := Lib.hid (HXB.out.below hdr)
        clear hdr
        refine wpAnyH_ready (rs := [3]) (by kernel_rfl) (by simp) ?_
        refine AllReadyH.cons (by rw [List.getElem?_toArray]; rfl) (fun K hK => ?_) AllReadyH.nil
        go_simp
        go_at_call 18
        with_reducible refine (HVM.out _).mono ?_
        rintro e w8 ⟨⟨AV, cV, vsV, hvs, hvn, hvc, hvr, hvz, rfl⟩, hb8⟩
        have HB8 := Lib.hid (Bel.call HB7.out hb8)
        replace HXB := Lib.hid (HXB.out.below hb8)
        clear hb8
        have HSV := Lib.hid hvs
        have HNV := Lib.hid hvn
        have HRV := Lib.hid hvr
        have HCV := Lib.hid hvc
        clear hvs hvn hvc hvr hvz
        dsimp only
        refine hK.out _ _ HXB.out (fun hHeld => ?_)
        try simp only [Act.put, List.setIfInBounds_toArray, List.set_cons_zero, List.set_cons_succ]
        clear hHeld
        refine wpAnyH_ready (rs := [6]) (by kernel_rfl) (by simp) ?_
        refine AllReadyH.cons (by rw [List.getElem?_toArray]; rfl) (fun K hK => ?_) AllReadyH.nil
        go_simp
        go_at_call 17
        with_reducible refine (HOF.out SB GB S _ _ _ _ HSB.out HGB.out HS.out HSV.out HRV.out).mono ?_
        rintro e w9 ⟨⟨CF, hCF, rfl⟩, hb9⟩
        have HB9 := Lib.hid (Bel.call HB8.out hb9)
        replace HXB := Lib.hid (HXB.out.below hb9)
        replace HRV := Lib.hid (HRV.out.below hb9 (Nat.le_refl _))
        clear hb9
        try dsimp only at hCF
        have HCF := Lib.hid hCF
        clear hCF
        dsimp only
        refine hK.out _ _ HXB.out (fun hHeld => ?_)
        try simp only [Act.put, List.setIfInBounds_toArray, List.set_cons_zero, List.set_cons_succ]
        refine wpAnyH_take (i := 7) (v := ?_) (by rw [List.getElem?_toArray]; rfl) (by kernel_rfl) (by kernel_rfl) (by kernel_rfl) (by exact fun _ _ _ h => h) (Or.inl ⟨by rfl, ?_⟩) (by assumption) ?_
        rotate_left
        · intro w' hSw
          obtain ⟨⟨_, c0, c1, c2⟩, _⟩ := hSw
          go_simp
          try with_reducible rfl
        try simp only [Act.put, List.setIfInBounds_toArray, List.set_cons_zero, List.set_cons_succ]
        refine wpAnyH_take (i := 8) (v := ?_) (by rw [List.getElem?_toArray]; rfl) (by kernel_rfl) (by kernel_rfl) (by kernel_rfl) (by exact fun _ _ _ h => h) (Or.inl ⟨by rfl, ?_⟩) (by assumption) ?_
        rotate_left
        · intro w' hSw
          obtain ⟨⟨_, c0, c1, c2⟩, _⟩ := hSw
          go_simp
          try with_reducible rfl
        try simp only [Act.put, List.setIfInBounds_toArray, List.set_cons_zero, List.set_cons_succ]
        refine wpAnyH_take (i := 9) (v := ?_) (by rw [List.getElem?_toArray]; rfl) (by kernel_rfl) (by kernel_rfl) (by kernel_rfl) (by exact fun _ _ _ h => h) (Or.inl ⟨by rfl, ?_⟩) (by assumption) ?_
        rotate_left
        · intro w' hSw
          obtain ⟨⟨_, c0, c1, c2⟩, _⟩ := hSw
          go_simp
          try with_reducible rfl
        try simp only [Act.put, List.setIfInBounds_toArray, List.set_cons_zero, List.set_cons_succ]
        refine wpAnyH_take (i := 10) (v := ?_) (by rw [List.getElem?_toArray]; rfl) (by kernel_rfl) (by kernel_rfl) (by kernel_rfl) (by exact fun _ _ _ h => h) (Or.inl ⟨by rfl, ?_⟩) (by assumption) ?_
        rotate_left
        · intro w' hSw
          obtain ⟨⟨_, c0, c1, c2⟩, _⟩ := hSw
          go_simp
          try with_reducible rfl
        try simp only [Act.put, List.setIfInBounds_toArray, List.set_cons_zero, List.set_cons_succ]
        refine wpAnyH_take (i := 11) (v := ?_) (by rw [List.getElem?_toArray]; rfl) (by kernel_rfl) (by kernel_rfl) (by kernel_rfl) (by exact fun _ _ _ h => h) (Or.inl ⟨by rfl, ?_⟩) (by assumption) ?_
        rotate_left
        · intro w' hSw
          obtain ⟨⟨_, c0, c1, c2⟩, _⟩ := hSw
          go_simp
          try with_reducible rfl
        try simp only [Act.put, List.setIfInBounds_toArray, List.set_cons_zero, List.set_cons_succ]
        refine wpAnyH_done (by kernel_rfl) ?_ _
        clear hHeld HRV
        go_wp2_with fail
        with_reducible refine (HSG.out _).mono ?_
        rintro e w10 ⟨⟨G2, hG2, rfl⟩, hb10⟩
        have HB10 := Lib.hid (Bel.call HB9.out hb10)
        replace HXB := Lib.hid (HXB.out.below hb10)
        clear hb10
        try dsimp only at hG2
        have HG2 := Lib.hid hG2
        clear hG2
        dsimp only
        go_wp2_with fail
        with_reducible refine (HBG.out S G2 _ HS.out HG2.out).mono ?_
        rintro e w11 ⟨hx, hb11⟩
        have HB11 := Lib.hid (Bel.call HB10.out hb11)
        replace HXB := Lib.hid (HXB.out.below hb11)
        clear hb11
        obtain ⟨SG, GG, hSG, hGG, rfl⟩ := bs_open hx
        clear hx hSG hGG
        dsimp only
        go_wp2_with fail
        have hbS : Below w11.heap.size w11 (w11.alloc (.cells #[.int .i64 bg.ep, .string SG, .string GG] 29)) := (Below.refl w11.heap.size w11).alloc (Nat.le_refl _) _
        have hxS := r3_new w11 (bg.ep) SG GG 29
        generalize w11.alloc (.cells #[.int .i64 bg.ep, .string SG, .string GG] 29) = wSG at hbS hxS ⊢
        have HB12 := Lib.hid (Bel.call HB11.out hbS)
        replace HXB := Lib.hid (HXB.out.below hbS)
        have HXG := Lib.hid hxS
        clear hbS hxS
        refine wp_region_held_drew (S := fun w' => R3 w5.heap.size w' (X : Int) SB GB) (by kernel_rfl) (HXB.out.below (Below.drewN' (Below.refl wSG.heap.size wSG) 1)) (fun hHeld => ?_)
        refine wpAnyH_take (i := 0) (v := ?_) (by rw [List.getElem?_toArray]; rfl) (by kernel_rfl) (by kernel_rfl) (by kernel_rfl) (by exact fun _ _ _ h => h) (Or.inl ⟨by rfl, ?_⟩) (by assumption) ?_
        rotate_left
        · intro w' hSw
          obtain ⟨⟨_, c0, c1, c2⟩, _⟩ := hSw
          go_simp
          try with_reducible rfl
        try simp only [Act.put, List.setIfInBounds_toArray, List.set_cons_zero, List.set_cons_succ]
        refine wpAnyH_take (i := 1) (v := ?_) (by rw [List.getElem?_toArray]; rfl) (by kernel_rfl) (by kernel_rfl) (by kernel_rfl) (by exact fun _ _ _ h => h) (Or.inl ⟨by rfl, ?_⟩) (by assumption) ?_
        rotate_left
        · intro w' hSw
          obtain ⟨⟨_, c0, c1, c2⟩, _⟩ := hSw
          go_simp
          try with_reducible rfl
        try simp only [Act.put, List.setIfInBounds_toArray, List.set_cons_zero, List.set_cons_succ]
        refine wpAnyH_take (i := 3) (v := ?_) (by rw [List.getElem?_toArray]; rfl) (by kernel_rfl) (by kernel_rfl) (by kernel_rfl) (by exact fun _ _ _ h => h) (Or.inl ⟨by rfl, ?_⟩) (by assumption) ?_
        rotate_left
        · intro w' hSw
          obtain ⟨⟨_, c0, c1, c2⟩, _⟩ := hSw
          go_simp
          try with_reducible rfl
        try simp only [Act.put, List.setIfInBounds_toArray, List.set_cons_zero, List.set_cons_succ]
        refine wpAnyH_take (i := 4) (v := ?_) (by rw [List.getElem?_toArray]; rfl) (by kernel_rfl) (by kernel_rfl) (by kernel_rfl) (by exact fun _ _ _ h => h) (Or.inl ⟨by rfl, ?_⟩) (by assumption) ?_
        rotate_left
        · intro w' hSw
          obtain ⟨⟨_, c0, c1, c2⟩, _⟩ := hSw
          go_simp
          try with_reducible rfl
        try simp only [Act.put, List.setIfInBounds_toArray, List.set_cons_zero, List.set_cons_succ]
        have hdr : Below wSG.heap.size wSG wSG.drew := Below.drewN' (Below.refl wSG.heap.size wSG) 1
        clear hHeld
        generalize wSG.drew = wd13 at hdr ⊢
        have HB13 := Lib.hid (Bel.call HB12.out hdr)
        replace HXB := Lib.hid (HXB.out.below hdr)
        replace HXG := Lib.hid (HXG.out.below hdr)
        clear hdr
        refine wpAnyH_ready (rs := [2]) (by kernel_rfl) (by simp) ?_
        refine AllReadyH.cons (by rw [List.getElem?_toArray]; rfl) (fun K hK => ?_) AllReadyH.nil
        go_simp
        go_at_call 18
        with_reducible refine (HVF.out _).mono ?_
        rintro e w14 ⟨⟨AW, cW, vsW, hvs, hvn, hvc, hvr, hvz, rfl⟩, hb14⟩
        have HB14 := Lib.hid (Bel.call HB13.out hb14)
        replace HXB := Lib.hid (HXB.out.below hb14)
        replace HXG := Lib.hid (HXG.out.below hb14)
        clear hb14
        have HSW := Lib.hid hvs
        have HNW := Lib.hid hvn
        have HRW := Lib.hid hvr
        have HCW := Lib.hid hvc
        clear hvs hvn hvc hvr hvz
        dsimp only
        refine hK.out _ _ HXB.out (fun hHeld => ?_)
        try simp only [Act.put, List.setIfInBounds_toArray, List.set_cons_zero, List.set_cons_succ]
        clear hHeld
        refine wpAnyH_ready (rs := [5]) (by kernel_rfl) (by simp) ?_
        refine AllReadyH.cons (by rw [List.getElem?_toArray]; rfl) (fun K hK => ?_) AllReadyH.nil
        go_simp
        go_at_call 17
        with_reducible refine (HOH.out SB GB S _ _ _ _ HSB.out HGB.out HS.out HSW.out HRW.out).mono ?_
        rintro e w15 ⟨⟨CH, hCH, rfl⟩, hb15⟩
        have HB15 := Lib.hid (Bel.call HB14.out hb15)
        replace HXB := Lib.hid (HXB.out.below hb15)
        replace HXG := Lib.hid (HXG.out.below hb15)
        replace HRW := Lib.hid (HRW.out.below hb15 (Nat.le_refl _))
        clear hb15
        try dsimp only at hCH
        have HCH := Lib.hid hCH
        clear hCH
        dsimp only
        refine hK.out _ _ HXB.out (fun hHeld => ?_)
        try simp only [Act.put, List.setIfInBounds_toArray, List.set_cons_zero, List.set_cons_succ]
        refine wpAnyH_take (i := 6) (v := ?_) (by rw [List.getElem?_toArray]; rfl) (by kernel_rfl) (by kernel_rfl) (by kernel_rfl) (by exact fun _ _ _ h => h) (Or.inl ⟨by rfl, ?_⟩) (by assumption) ?_
        rotate_left
        · intro w' hSw
          obtain ⟨⟨_, c0, c1, c2⟩, _⟩ := hSw
          go_simp
          try with_reducible rfl
        try simp only [Act.put, List.setIfInBounds_toArray, List.set_cons_zero, List.set_cons_succ]
        refine wpAnyH_take (i := 7) (v := ?_) (by rw [List.getElem?_toArray]; rfl) (by kernel_rfl) (by kernel_rfl) (by kernel_rfl) (by exact fun _ _ _ h => h) (Or.inl ⟨by rfl, ?_⟩) (by assumption) ?_
        rotate_left
        · intro w' hSw
          obtain ⟨⟨_, c0, c1, c2⟩, _⟩ := hSw
          go_simp
          try with_reducible rfl
        try simp only [Act.put, List.setIfInBounds_toArray, List.set_cons_zero, List.set_cons_succ]
        refine wpAnyH_take (i := 8) (v := ?_) (by rw [List.getElem?_toArray]; rfl) (by kernel_rfl) (by kernel_rfl) (by kernel_rfl) (by exact fun _ _ _ h => h) (Or.inl ⟨by rfl, ?_⟩) (by assumption) ?_
        rotate_left
        · intro w' hSw
          obtain ⟨⟨_, c0, c1, c2⟩, _⟩ := hSw
          go_simp
          try with_reducible rfl
        try simp only [Act.put, List.setIfInBounds_toArray, List.set_cons_zero, List.set_cons_succ]
        refine wpAnyH_take (i := 9) (v := ?_) (by rw [List.getElem?_toArray]; rfl) (by kernel_rfl) (by kernel_rfl) (by kernel_rfl) (by exact fun _ _ _ h => h) (Or.inl ⟨by rfl, ?_⟩) (by assumption) ?_
        rotate_left
        · intro w' hSw
          obtain ⟨⟨_, c0, c1, c2⟩, _⟩ := hSw
          go_simp
          try with_reducible rfl
        try simp only [Act.put, List.setIfInBounds_toArray, List.set_cons_zero, List.set_cons_succ]
        refine wpAnyH_take (i := 10) (v := ?_) (by rw [List.getElem?_toArray]; rfl) (by kernel_rfl) (by kernel_rfl) (by kernel_rfl) (by exact fun _ _ _ h => h) (Or.inl ⟨by rfl, ?_⟩) (by assumption) ?_
        rotate_left
        · intro w' hSw
          obtain ⟨⟨_, c0, c1, c2⟩, _⟩ := hSw
          go_simp
          try with_reducible rfl
        try simp only [Act.put, List.setIfInBounds_toArray, List.set_cons_zero, List.set_cons_succ]
        refine wpAnyH_done (by kernel_rfl) ?_ _
        clear hHeld HRW
        go_wp2_with fail
        with_reducible refine (HK.out _).mono ?_
        rintro e w16 ⟨rfl, hb16⟩
        have HB16 := Lib.hid (Bel.call HB15.out hb16)
        replace HXB := Lib.hid (HXB.out.below hb16)
        replace HXG := Lib.hid (HXG.out.below hb16)
        clear hb16
        dsimp only
        go_wp2
        go_ret
        exact ⟨rfl, HB16.out⟩
  | false =>
    have HNI : Hid (∀ (G : ByteArray) (w : World), G.data.toList = sgn X → Calls Try.prog 12 #[.string U, .int .i64 (X : Int), .string G, .string ⟨#[97, 110, 110, 97, 47, 110, 111, 116, 101, 115]⟩, .string ⟨#[104, 105]⟩] w fun e w' => Bs (bzero, 1) e ∧ Below w.heap.size w w') := Lib.hid fun G w hG => build_na rfl hG (fun h => absurd (hur.symm.trans h.2.1) Bool.false_ne_true) (by omega) (by have := sg_len (by omega) hG; omega) (by decide) (by decide) w
    have HNJ : Hid (∀ (S : ByteArray) (w : World), S.data.toList = hs (7 - X) (rootS N) → Calls Try.prog 12 #[.string S, .int .i64 (X : Int), .string U, .string ⟨#[97, 110, 110, 97, 47, 110, 111, 116, 101, 115]⟩, .string ⟨#[104, 105]⟩] w fun e w' => Bs (bzero, 1) e ∧ Below w.heap.size w w') := Lib.hid fun S w hS => build_na hS rfl (fun h => absurd (hur.symm.trans h.2.2.1) Bool.false_ne_true) (by have := st_len hn (by omega) hS; omega) (by omega) (by decide) (by decide) w
    have HNK : Hid (∀ (S G : ByteArray) (w : World), S.data.toList = hs (7 - X) (rootS N) → G.data.toList = sgn X → Calls Try.prog 12 #[.string S, .int .i64 (X : Int), .string G, .string ⟨#[97, 110, 110, 97]⟩, .string ⟨#[104, 105]⟩] w fun e w' => Bs (bzero, 1) e ∧ Below w.heap.size w w') := Lib.hid fun S G w hS hG => build_na hS hG (fun h => absurd h.2.2.2 (by rw [show isPath (⟨#[97, 110, 110, 97]⟩ : ByteArray).data.toList = false from anna_path]; decide)) (by have := st_len hn (by omega) hS; omega) (by have := sg_len (by omega) hG; omega) (by decide) (by decide) w
    have HOL : Hid (∀ (S G T : ByteArray) (A : Option Addr) (c : Nat) (vs : List ByteArray) (w : World), S.data.toList = (bOf N X X (⟨#[97, 110, 110, 97, 47, 110, 111, 116, 101, 115]⟩ : ByteArray).data.toList (⟨#[104, 105]⟩ : ByteArray).data.toList).sl → G.data.toList = (bOf N X X (⟨#[97, 110, 110, 97, 47, 110, 111, 116, 101, 115]⟩ : ByteArray).data.toList (⟨#[104, 105]⟩ : ByteArray).data.toList).sg → T.data.toList = U.data.toList → bl vs = sgps (X + 1) → SReads w A vs → Calls Try.prog 17 #[.agg #[.int .i64 (X : Int), .string S, .string G], .slice A vs.length c, .string T, .int .i64 (X : Int), .string ⟨#[97, 110, 110, 97, 47, 110, 111, 116, 101, 115]⟩] w fun e w' => Sr ([], 1) e ∧ Below w.heap.size w w') := Lib.hid fun S G T A c vs w hS hG hT hv hr => by
      have hbr : BR (bOf N X X (⟨#[97, 110, 110, 97, 47, 110, 111, 116, 101, 115]⟩ : ByteArray).data.toList (⟨#[104, 105]⟩ : ByteArray).data.toList) := hbr
      have hvl : vs.length ≤ 40 := by
        have := congrArg List.length hv
        simp only [bl_len', sgps_len, List.length_map, List.length_range, List.length_tail] at this
        omega
      exact open_to (b := bOf N X X (⟨#[97, 110, 110, 97, 47, 110, 111, 116, 101, 115]⟩ : ByteArray).data.toList (⟨#[104, 105]⟩ : ByteArray).data.toList) (L := sgps (X + 1)) (q := (⟨#[97, 110, 110, 97, 47, 110, 111, 116, 101, 115]⟩ : ByteArray).data.toList) (open_arg (fun h => absurd (hur.symm.trans h.2.1) Bool.false_ne_true)) rfl hS hG hv rfl hT rfl (seal_size hbr hS) (sig_size hbr hG) (by rw [Lib.size_eq, hT]; omega) (by decide) (by omega) (sgps_sizes hv (by omega)) (by omega) w hr
    have hk0 : kd = 0 := by rw [← hkd]; exact kind_wrong hur
    subst hk0
    clear hkd hur
    rcases Int.lt_or_le epoch 0 with he | he
    · have hfg := hfg.2 (by omega)
      subst hfg
      go_enter Try.func7, Try.ntmps7
      go_wp2_with fail
      with_reducible refine (HSH.out _).mono ?_
      rintro e w1 ⟨rfl, hb1⟩
      have HB1 := Lib.hid hb1
      clear hb1
      dsimp only
      go_wp2_with fail
      with_reducible refine (HPA.out _).mono ?_
      rintro e v1 ⟨rfl, hv1⟩
      obtain rfl : w1 = v1 := hv1.symm
      dsimp only
      go_wp2_with fail
      with_reducible refine (HRT.out _).mono ?_
      rintro e w2 ⟨⟨R, hR, rfl⟩, hb2⟩
      have HB2 := Lib.hid (Bel.call HB1.out hb2)
      clear hb2
      try dsimp only at hR
      have HR := Lib.hid hR
      clear hR
      dsimp only
      go_wp2_with fail
      with_reducible refine (HST.out R _ HR.out).mono ?_
      rintro e w3 ⟨⟨S, hS, rfl⟩, hb3⟩
      have HB3 := Lib.hid (Bel.call HB2.out hb3)
      clear hb3
      try dsimp only at hS
      have HS := Lib.hid hS
      clear hS
      dsimp only
      go_wp2_with fail
      with_reducible refine (HSG.out _).mono ?_
      rintro e w4 ⟨⟨G, hG, rfl⟩, hb4⟩
      have HB4 := Lib.hid (Bel.call HB3.out hb4)
      clear hb4
      try dsimp only at hG
      have HG := Lib.hid hG
      clear hG
      dsimp only
      go_wp2_with fail
      with_reducible refine (HBD.out S G _ HS.out HG.out).mono ?_
      rintro e w5 ⟨hx, hb5⟩
      have HB5 := Lib.hid (Bel.call HB4.out hb5)
      clear hb5
      obtain ⟨SB, GB, hSB, hGB, rfl⟩ := bs_bOf hx
      have HSB := Lib.hid hSB
      have HGB := Lib.hid hGB
      clear hx hSB hGB
      dsimp only
      go_wp2_with fail
      have hbS : Below w5.heap.size w5 (w5.alloc (.cells #[.int .i64 (X : Int), .string SB, .string GB] 29)) := (Below.refl w5.heap.size w5).alloc (Nat.le_refl _) _
      have hxS := r3_new w5 ((X : Int)) SB GB 29
      generalize w5.alloc (.cells #[.int .i64 (X : Int), .string SB, .string GB] 29) = wSB at hbS hxS ⊢
      have HB6 := Lib.hid (Bel.call HB5.out hbS)
      have HXB := Lib.hid hxS
      clear hbS hxS
      with_reducible refine (HPM.out _).mono ?_
      rintro e v2 ⟨rfl, hv2⟩
      obtain rfl : wSB = v2 := hv2.symm
      dsimp only
      go_wp2_with fail
      refine wp_region_held_drew (S := fun w' => R3 w5.heap.size w' (X : Int) SB GB) (by kernel_rfl) (HXB.out.below (Below.drewN' (Below.refl wSB.heap.size wSB) 1)) (fun hHeld => ?_)
      refine wpAnyH_take (i := 0) (v := ?_) (by rw [List.getElem?_toArray]; rfl) (by kernel_rfl) (by kernel_rfl) (by kernel_rfl) (by exact fun _ _ _ h => h) (Or.inl ⟨by rfl, ?_⟩) (by assumption) ?_
      rotate_left
      · intro w' hSw
        obtain ⟨⟨_, c0, c1, c2⟩, _⟩ := hSw
        go_simp
        try with_reducible rfl
      try simp only [Act.put, List.setIfInBounds_toArray, List.set_cons_zero, List.set_cons_succ]
      refine wpAnyH_take (i := 1) (v := ?_) (by rw [List.getElem?_toArray]; rfl) (by kernel_rfl) (by kernel_rfl) (by kernel_rfl) (by exact fun _ _ _ h => h) (Or.inl ⟨by rfl, ?_⟩) (by assumption) ?_
      rotate_left
      · intro w' hSw
        obtain ⟨⟨_, c0, c1, c2⟩, _⟩ := hSw
        go_simp
        try with_reducible rfl
      try simp only [Act.put, List.setIfInBounds_toArray, List.set_cons_zero, List.set_cons_succ]
      refine wpAnyH_take (i := 2) (v := ?_) (by rw [List.getElem?_toArray]; rfl) (by kernel_rfl) (by kernel_rfl) (by kernel_rfl) (by exact fun _ _ _ h => h) (Or.inl ⟨by rfl, ?_⟩) (by assumption) ?_
      rotate_left
      · intro w' hSw
        obtain ⟨⟨_, c0, c1, c2⟩, _⟩ := hSw
        go_simp
        try with_reducible rfl
      try simp only [Act.put, List.setIfInBounds_toArray, List.set_cons_zero, List.set_cons_succ]
      refine wpAnyH_take (i := 4) (v := ?_) (by rw [List.getElem?_toArray]; rfl) (by kernel_rfl) (by kernel_rfl) (by kernel_rfl) (by exact fun _ _ _ h => h) (Or.inl ⟨by rfl, ?_⟩) (by assumption) ?_
      rotate_left
      · intro w' hSw
        obtain ⟨⟨_, c0, c1, c2⟩, _⟩ := hSw
        go_simp
        try with_reducible rfl
      try simp only [Act.put, List.setIfInBounds_toArray, List.set_cons_zero, List.set_cons_succ]
      refine wpAnyH_take (i := 5) (v := ?_) (by rw [List.getElem?_toArray]; rfl) (by kernel_rfl) (by kernel_rfl) (by kernel_rfl) (by exact fun _ _ _ h => h) (Or.inl ⟨by rfl, ?_⟩) (by assumption) ?_
      rotate_left
      · intro w' hSw
        obtain ⟨⟨_, c0, c1, c2⟩, _⟩ := hSw
        go_simp
        try with_reducible rfl
      try simp only [Act.put, List.setIfInBounds_toArray, List.set_cons_zero, List.set_cons_succ]
      have hdr : Below wSB.heap.size wSB wSB.drew := Below.drewN' (Below.refl wSB.heap.size wSB) 1
      clear hHeld
      generalize wSB.drew = wd7 at hdr ⊢
      have HB7 := Lib.hid (Bel.call HB6.out hdr)
      replace HXB := Lib.hid (HXB.out.below hdr)
      clear hdr
      refine wpAnyH_ready (rs := [3]) (by kernel_rfl) (by simp) ?_
      refine AllReadyH.cons (by rw [List.getElem?_toArray]; rfl) (fun K hK => ?_) AllReadyH.nil
      go_simp
      go_at_call 18
      with_reducible refine (HVM.out _).mono ?_
      rintro e w8 ⟨⟨AV, cV, vsV, hvs, hvn, hvc, hvr, hvz, rfl⟩, hb8⟩
      have HB8 := Lib.hid (Bel.call HB7.out hb8)
      replace HXB := Lib.hid (HXB.out.below hb8)
      clear hb8
      have HSV := Lib.hid hvs
      have HNV := Lib.hid hvn
      have HRV := Lib.hid hvr
      have HCV := Lib.hid hvc
      clear hvs hvn hvc hvr hvz
      dsimp only
      refine hK.out _ _ HXB.out (fun hHeld => ?_)
      try simp only [Act.put, List.setIfInBounds_toArray, List.set_cons_zero, List.set_cons_succ]
      clear hHeld
      refine wpAnyH_ready (rs := [6]) (by kernel_rfl) (by simp) ?_
      refine AllReadyH.cons (by rw [List.getElem?_toArray]; rfl) (fun K hK => ?_) AllReadyH.nil
      go_simp
      go_at_call 17
      with_reducible refine (HOF.out SB GB S _ _ _ _ HSB.out HGB.out HS.out HSV.out HRV.out).mono ?_
      rintro e w9 ⟨⟨CF, hCF, rfl⟩, hb9⟩
      have HB9 := Lib.hid (Bel.call HB8.out hb9)
      replace HXB := Lib.hid (HXB.out.below hb9)
      replace HRV := Lib.hid (HRV.out.below hb9 (Nat.le_refl _))
      clear hb9
      try dsimp only at hCF
      have HCF := Lib.hid hCF
      clear hCF
      dsimp only
      refine hK.out _ _ HXB.out (fun hHeld => ?_)
      try simp only [Act.put, List.setIfInBounds_toArray, List.set_cons_zero, List.set_cons_succ]
      refine wpAnyH_take (i := 7) (v := ?_) (by rw [List.getElem?_toArray]; rfl) (by kernel_rfl) (by kernel_rfl) (by kernel_rfl) (by exact fun _ _ _ h => h) (Or.inl ⟨by rfl, ?_⟩) (by assumption) ?_
      rotate_left
      · intro w' hSw
        obtain ⟨⟨_, c0, c1, c2⟩, _⟩ := hSw
        go_simp
        try with_reducible rfl
      try simp only [Act.put, List.setIfInBounds_toArray, List.set_cons_zero, List.set_cons_succ]
      refine wpAnyH_take (i := 8) (v := ?_) (by rw [List.getElem?_toArray]; rfl) (by kernel_rfl) (by kernel_rfl) (by kernel_rfl) (by exact fun _ _ _ h => h) (Or.inl ⟨by rfl, ?_⟩) (by assumption) ?_
      rotate_left
      · intro w' hSw
        obtain ⟨⟨_, c0, c1, c2⟩, _⟩ := hSw
        go_simp
        try with_reducible rfl
      try simp only [Act.put, List.setIfInBounds_toArray, List.set_cons_zero, List.set_cons_succ]
      refine wpAnyH_take (i := 9) (v := ?_) (by rw [List.getElem?_toArray]; rfl) (by kernel_rfl) (by kernel_rfl) (by kernel_rfl) (by exact fun _ _ _ h => h) (Or.inl ⟨by rfl, ?_⟩) (by assumption) ?_
      rotate_left
      · intro w' hSw
        obtain ⟨⟨_, c0, c1, c2⟩, _⟩ := hSw
        go_simp
        try with_reducible rfl
      try simp only [Act.put, List.setIfInBounds_toArray, List.set_cons_zero, List.set_cons_succ]
      refine wpAnyH_take (i := 10) (v := ?_) (by rw [List.getElem?_toArray]; rfl) (by kernel_rfl) (by kernel_rfl) (by kernel_rfl) (by exact fun _ _ _ h => h) (Or.inl ⟨by rfl, ?_⟩) (by assumption) ?_
      rotate_left
      · intro w' hSw
        obtain ⟨⟨_, c0, c1, c2⟩, _⟩ := hSw
        go_simp
        try with_reducible rfl
      try simp only [Act.put, List.setIfInBounds_toArray, List.set_cons_zero, List.set_cons_succ]
      refine wpAnyH_take (i := 11) (v := ?_) (by rw [List.getElem?_toArray]; rfl) (by kernel_rfl) (by kernel_rfl) (by kernel_rfl) (by exact fun _ _ _ h => h) (Or.inl ⟨by rfl, ?_⟩) (by assumption) ?_
      rotate_left
      · intro w' hSw
        obtain ⟨⟨_, c0, c1, c2⟩, _⟩ := hSw
        go_simp
        try with_reducible rfl
      try simp only [Act.put, List.setIfInBounds_toArray, List.set_cons_zero, List.set_cons_succ]
      refine wpAnyH_done (by kernel_rfl) ?_ _
      clear hHeld HRV
      go_wp2_with fail
      with_reducible refine (HSG.out _).mono ?_
      rintro e w10 ⟨⟨G2, hG2, rfl⟩, hb10⟩
      have HB10 := Lib.hid (Bel.call HB9.out hb10)
      replace HXB := Lib.hid (HXB.out.below hb10)
      clear hb10
      try dsimp only at hG2
      have HG2 := Lib.hid hG2
      clear hG2
      dsimp only
      go_wp2_with fail
      with_reducible refine (HBG.out S G2 _ HS.out HG2.out).mono ?_
      rintro e w11 ⟨hx, hb11⟩
      have HB11 := Lib.hid (Bel.call HB10.out hb11)
      replace HXB := Lib.hid (HXB.out.below hb11)
      clear hb11
      obtain ⟨SG, GG, hSG, hGG, rfl⟩ := bs_open hx
      clear hx hSG hGG
      dsimp only
      go_wp2_with fail
      have hbS : Below w11.heap.size w11 (w11.alloc (.cells #[.int .i64 bg.ep, .string SG, .string GG] 29)) := (Below.refl w11.heap.size w11).alloc (Nat.le_refl _) _
      have hxS := r3_new w11 (bg.ep) SG GG 29
      generalize w11.alloc (.cells #[.int .i64 bg.ep, .string SG, .string GG] 29) = wSG at hbS hxS ⊢
      have HB12 := Lib.hid (Bel.call HB11.out hbS)
      replace HXB := Lib.hid (HXB.out.below hbS)
      have HXG := Lib.hid hxS
      clear hbS hxS
      refine wp_region_held_drew (S := fun w' => R3 w5.heap.size w' (X : Int) SB GB) (by kernel_rfl) (HXB.out.below (Below.drewN' (Below.refl wSG.heap.size wSG) 1)) (fun hHeld => ?_)
      refine wpAnyH_take (i := 0) (v := ?_) (by rw [List.getElem?_toArray]; rfl) (by kernel_rfl) (by kernel_rfl) (by kernel_rfl) (by exact fun _ _ _ h => h) (Or.inl ⟨by rfl, ?_⟩) (by assumption) ?_
      rotate_left
      · intro w' hSw
        obtain ⟨⟨_, c0, c1, c2⟩, _⟩ := hSw
        go_simp
        try with_reducible rfl
      try simp only [Act.put, List.setIfInBounds_toArray, List.set_cons_zero, List.set_cons_succ]
      refine wpAnyH_take (i := 1) (v := ?_) (by rw [List.getElem?_toArray]; rfl) (by kernel_rfl) (by kernel_rfl) (by kernel_rfl) (by exact fun _ _ _ h => h) (Or.inl ⟨by rfl, ?_⟩) (by assumption) ?_
      rotate_left
      · intro w' hSw
        obtain ⟨⟨_, c0, c1, c2⟩, _⟩ := hSw
        go_simp
        try with_reducible rfl
      try simp only [Act.put, List.setIfInBounds_toArray, List.set_cons_zero, List.set_cons_succ]
      refine wpAnyH_take (i := 3) (v := ?_) (by rw [List.getElem?_toArray]; rfl) (by kernel_rfl) (by kernel_rfl) (by kernel_rfl) (by exact fun _ _ _ h => h) (Or.inl ⟨by rfl, ?_⟩) (by assumption) ?_
      rotate_left
      · intro w' hSw
        obtain ⟨⟨_, c0, c1, c2⟩, _⟩ := hSw
        go_simp
        try with_reducible rfl
      try simp only [Act.put, List.setIfInBounds_toArray, List.set_cons_zero, List.set_cons_succ]
      refine wpAnyH_take (i := 4) (v := ?_) (by rw [List.getElem?_toArray]; rfl) (by kernel_rfl) (by kernel_rfl) (by kernel_rfl) (by exact fun _ _ _ h => h) (Or.inl ⟨by rfl, ?_⟩) (by assumption) ?_
      rotate_left
      · intro w' hSw
        obtain ⟨⟨_, c0, c1, c2⟩, _⟩ := hSw
        go_simp
        try with_reducible rfl
      try simp only [Act.put, List.setIfInBounds_toArray, List.set_cons_zero, List.set_cons_succ]
      have hdr : Below wSG.heap.size wSG wSG.drew := Below.drewN' (Below.refl wSG.heap.size wSG) 1
      clear hHeld
      generalize wSG.drew = wd13 at hdr ⊢
      have HB13 := Lib.hid (Bel.call HB12.out hdr)
      replace HXB := Lib.hid (HXB.out.below hdr)
      replace HXG := Lib.hid (HXG.out.below hdr)
      clear hdr
      refine wpAnyH_ready (rs := [2]) (by kernel_rfl) (by simp) ?_
      refine AllReadyH.cons (by rw [List.getElem?_toArray]; rfl) (fun K hK => ?_) AllReadyH.nil
      go_simp
      go_at_call 18
      with_reducible refine (HVF.out _).mono ?_
      rintro e w14 ⟨⟨AW, cW, vsW, hvs, hvn, hvc, hvr, hvz, rfl⟩, hb14⟩
      have HB14 := Lib.hid (Bel.call HB13.out hb14)
      replace HXB := Lib.hid (HXB.out.below hb14)
      replace HXG := Lib.hid (HXG.out.below hb14)
      clear hb14
      have HSW := Lib.hid hvs
      have HNW := Lib.hid hvn
      have HRW := Lib.hid hvr
      have HCW := Lib.hid hvc
      clear hvs hvn hvc hvr hvz
      dsimp only
      refine hK.out _ _ HXB.out (fun hHeld => ?_)
      try simp only [Act.put, List.setIfInBounds_toArray, List.set_cons_zero, List.set_cons_succ]
      clear hHeld
      refine wpAnyH_ready (rs := [5]) (by kernel_rfl) (by simp) ?_
      refine AllReadyH.cons (by rw [List.getElem?_toArray]; rfl) (fun K hK => ?_) AllReadyH.nil
      go_simp
      go_at_call 17
      with_reducible refine (HOH.out SB GB S _ _ _ _ HSB.out HGB.out HS.out HSW.out HRW.out).mono ?_
      rintro e w15 ⟨⟨CH, hCH, rfl⟩, hb15⟩
      have HB15 := Lib.hid (Bel.call HB14.out hb15)
      replace HXB := Lib.hid (HXB.out.below hb15)
      replace HXG := Lib.hid (HXG.out.below hb15)
      replace HRW := Lib.hid (HRW.out.below hb15 (Nat.le_refl _))
      clear hb15
      try dsimp only at hCH
      have HCH := Lib.hid hCH
      clear hCH
      dsimp only
      refine hK.out _ _ HXB.out (fun hHeld => ?_)
      try simp only [Act.put, List.setIfInBounds_toArray, List.set_cons_zero, List.set_cons_succ]
      refine wpAnyH_take (i := 6) (v := ?_) (by rw [List.getElem?_toArray]; rfl) (by kernel_rfl) (by kernel_rfl) (by kernel_rfl) (by exact fun _ _ _ h => h) (Or.inl ⟨by rfl, ?_⟩) (by assumption) ?_
      rotate_left
      · intro w' hSw
        obtain ⟨⟨_, c0, c1, c2⟩, _⟩ := hSw
        go_simp
        try with_reducible rfl
      try simp only [Act.put, List.setIfInBounds_toArray, List.set_cons_zero, List.set_cons_succ]
      refine wpAnyH_take (i := 7) (v := ?_) (by rw [List.getElem?_toArray]; rfl) (by kernel_rfl) (by kernel_rfl) (by kernel_rfl) (by exact fun _ _ _ h => h) (Or.inl ⟨by rfl, ?_⟩) (by assumption) ?_
      rotate_left
      · intro w' hSw
        obtain ⟨⟨_, c0, c1, c2⟩, _⟩ := hSw
        go_simp
        try with_reducible rfl
      try simp only [Act.put, List.setIfInBounds_toArray, List.set_cons_zero, List.set_cons_succ]
      refine wpAnyH_take (i := 8) (v := ?_) (by rw [List.getElem?_toArray]; rfl) (by kernel_rfl) (by kernel_rfl) (by kernel_rfl) (by exact fun _ _ _ h => h) (Or.inl ⟨by rfl, ?_⟩) (by assumption) ?_
      rotate_left
      · intro w' hSw
        obtain ⟨⟨_, c0, c1, c2⟩, _⟩ := hSw
        go_simp
        try with_reducible rfl
      try simp only [Act.put, List.setIfInBounds_toArray, List.set_cons_zero, List.set_cons_succ]
      refine wpAnyH_take (i := 9) (v := ?_) (by rw [List.getElem?_toArray]; rfl) (by kernel_rfl) (by kernel_rfl) (by kernel_rfl) (by exact fun _ _ _ h => h) (Or.inl ⟨by rfl, ?_⟩) (by assumption) ?_
      rotate_left
      · intro w' hSw
        obtain ⟨⟨_, c0, c1, c2⟩, _⟩ := hSw
        go_simp
        try with_reducible rfl
      try simp only [Act.put, List.setIfInBounds_toArray, List.set_cons_zero, List.set_cons_succ]
      refine wpAnyH_take (i := 10) (v := ?_) (by rw [List.getElem?_toArray]; rfl) (by kernel_rfl) (by kernel_rfl) (by kernel_rfl) (by exact fun _ _ _ h => h) (Or.inl ⟨by rfl, ?_⟩) (by assumption) ?_
      rotate_left
      · intro w' hSw
        obtain ⟨⟨_, c0, c1, c2⟩, _⟩ := hSw
        go_simp
        try with_reducible rfl
      try simp only [Act.put, List.setIfInBounds_toArray, List.set_cons_zero, List.set_cons_succ]
      refine wpAnyH_done (by kernel_rfl) ?_ _
      clear hHeld HRW
      go_wp2_with fail
      with_reducible refine (HK.out _).mono ?_
      rintro e w16 ⟨rfl, hb16⟩
      have HB16 := Lib.hid (Bel.call HB15.out hb16)
      replace HXB := Lib.hid (HXB.out.below hb16)
      replace HXG := Lib.hid (HXG.out.below hb16)
      clear hb16
      dsimp only
      go_wp2_with fail
      with_reducible refine (HSG.out _).mono ?_
      rintro e w17 ⟨⟨G3, hG3, rfl⟩, hb17⟩
      have HB17 := Lib.hid (Bel.call HB16.out hb17)
      replace HXB := Lib.hid (HXB.out.below hb17)
      replace HXG := Lib.hid (HXG.out.below hb17)
      clear hb17
      try dsimp only at hG3
      have HG3 := Lib.hid hG3
      clear hG3
      dsimp only
      go_wp2_with fail
      with_reducible refine (HNI.out G3 _ HG3.out).mono ?_
      rintro e w18 ⟨hx, hb18⟩
      have HB18 := Lib.hid (Bel.call HB17.out hb18)
      replace HXB := Lib.hid (HXB.out.below hb18)
      replace HXG := Lib.hid (HXG.out.below hb18)
      clear hb18
      obtain rfl := bs_zero hx
      dsimp only
      go_wp2_with fail
      have hbS : Below w18.heap.size w18 (w18.alloc (.cells #[.int .i64 0, .string ⟨#[]⟩, .string ⟨#[]⟩] 29)) := (Below.refl w18.heap.size w18).alloc (Nat.le_refl _) _
      have hxS := r3_new w18 (0) ⟨#[]⟩ ⟨#[]⟩ 29
      generalize w18.alloc (.cells #[.int .i64 0, .string ⟨#[]⟩, .string ⟨#[]⟩] 29) = wSI at hbS hxS ⊢
      have HB19 := Lib.hid (Bel.call HB18.out hbS)
      replace HXB := Lib.hid (HXB.out.below hbS)
      replace HXG := Lib.hid (HXG.out.below hbS)
      have HXI := Lib.hid hxS
      clear hbS hxS
      with_reducible refine (HNJ.out S _ HS.out).mono ?_
      rintro e w20 ⟨hx, hb20⟩
      have HB20 := Lib.hid (Bel.call HB19.out hb20)
      replace HXB := Lib.hid (HXB.out.below hb20)
      replace HXG := Lib.hid (HXG.out.below hb20)
      replace HXI := Lib.hid (HXI.out.below hb20)
      clear hb20
      obtain rfl := bs_zero hx
      dsimp only
      go_wp2_with fail
      have hbS : Below w20.heap.size w20 (w20.alloc (.cells #[.int .i64 0, .string ⟨#[]⟩, .string ⟨#[]⟩] 29)) := (Below.refl w20.heap.size w20).alloc (Nat.le_refl _) _
      have hxS := r3_new w20 (0) ⟨#[]⟩ ⟨#[]⟩ 29
      generalize w20.alloc (.cells #[.int .i64 0, .string ⟨#[]⟩, .string ⟨#[]⟩] 29) = wSJ at hbS hxS ⊢
      have HB21 := Lib.hid (Bel.call HB20.out hbS)
      replace HXB := Lib.hid (HXB.out.below hbS)
      replace HXG := Lib.hid (HXG.out.below hbS)
      replace HXI := Lib.hid (HXI.out.below hbS)
      have HXJ := Lib.hid hxS
      clear hbS hxS
      with_reducible refine (HSG.out _).mono ?_
      rintro e w22 ⟨⟨G4, hG4, rfl⟩, hb22⟩
      have HB22 := Lib.hid (Bel.call HB21.out hb22)
      replace HXB := Lib.hid (HXB.out.below hb22)
      replace HXG := Lib.hid (HXG.out.below hb22)
      replace HXI := Lib.hid (HXI.out.below hb22)
      replace HXJ := Lib.hid (HXJ.out.below hb22)
      clear hb22
      try dsimp only at hG4
      have HG4 := Lib.hid hG4
      clear hG4
      dsimp only
      go_wp2_with fail
      with_reducible refine (HNK.out S G4 _ HS.out HG4.out).mono ?_
      rintro e w23 ⟨hx, hb23⟩
      have HB23 := Lib.hid (Bel.call HB22.out hb23)
      replace HXB := Lib.hid (HXB.out.below hb23)
      replace HXG := Lib.hid (HXG.out.below hb23)
      replace HXI := Lib.hid (HXI.out.below hb23)
      replace HXJ := Lib.hid (HXJ.out.below hb23)
      clear hb23
      obtain rfl := bs_zero hx
      dsimp only
      go_wp2_with fail
      have hbS : Below w23.heap.size w23 (w23.alloc (.cells #[.int .i64 0, .string ⟨#[]⟩, .string ⟨#[]⟩] 29)) := (Below.refl w23.heap.size w23).alloc (Nat.le_refl _) _
      have hxS := r3_new w23 (0) ⟨#[]⟩ ⟨#[]⟩ 29
      generalize w23.alloc (.cells #[.int .i64 0, .string ⟨#[]⟩, .string ⟨#[]⟩] 29) = wSK at hbS hxS ⊢
      have HB24 := Lib.hid (Bel.call HB23.out hbS)
      replace HXB := Lib.hid (HXB.out.below hbS)
      replace HXG := Lib.hid (HXG.out.below hbS)
      replace HXI := Lib.hid (HXI.out.below hbS)
      replace HXJ := Lib.hid (HXJ.out.below hbS)
      have HXK := Lib.hid hxS
      clear hbS hxS
      refine wp_region_held_drew (S := fun w' => R3 w5.heap.size w' (X : Int) SB GB) (by kernel_rfl) (HXB.out.below (Below.drewN' (Below.refl wSK.heap.size wSK) 1)) (fun hHeld => ?_)
      refine wpAnyH_take (i := 0) (v := ?_) (by rw [List.getElem?_toArray]; rfl) (by kernel_rfl) (by kernel_rfl) (by kernel_rfl) (by exact fun _ _ _ h => h) (Or.inl ⟨by rfl, ?_⟩) (by assumption) ?_
      rotate_left
      · intro w' hSw
        obtain ⟨⟨_, c0, c1, c2⟩, _⟩ := hSw
        go_simp
        try with_reducible rfl
      try simp only [Act.put, List.setIfInBounds_toArray, List.set_cons_zero, List.set_cons_succ]
      refine wpAnyH_take (i := 1) (v := ?_) (by rw [List.getElem?_toArray]; rfl) (by kernel_rfl) (by kernel_rfl) (by kernel_rfl) (by exact fun _ _ _ h => h) (Or.inl ⟨by rfl, ?_⟩) (by assumption) ?_
      rotate_left
      · intro w' hSw
        obtain ⟨⟨_, c0, c1, c2⟩, _⟩ := hSw
        go_simp
        try with_reducible rfl
      try simp only [Act.put, List.setIfInBounds_toArray, List.set_cons_zero, List.set_cons_succ]
      refine wpAnyH_take (i := 3) (v := ?_) (by rw [List.getElem?_toArray]; rfl) (by kernel_rfl) (by kernel_rfl) (by kernel_rfl) (by exact fun _ _ _ h => h) (Or.inl ⟨by rfl, ?_⟩) (by assumption) ?_
      rotate_left
      · intro w' hSw
        obtain ⟨⟨_, c0, c1, c2⟩, _⟩ := hSw
        go_simp
        try with_reducible rfl
      try simp only [Act.put, List.setIfInBounds_toArray, List.set_cons_zero, List.set_cons_succ]
      refine wpAnyH_take (i := 4) (v := ?_) (by rw [List.getElem?_toArray]; rfl) (by kernel_rfl) (by kernel_rfl) (by kernel_rfl) (by exact fun _ _ _ h => h) (Or.inl ⟨by rfl, ?_⟩) (by assumption) ?_
      rotate_left
      · intro w' hSw
        obtain ⟨⟨_, c0, c1, c2⟩, _⟩ := hSw
        go_simp
        try with_reducible rfl
      try simp only [Act.put, List.setIfInBounds_toArray, List.set_cons_zero, List.set_cons_succ]
      have hdr : Below wSK.heap.size wSK wSK.drew := Below.drewN' (Below.refl wSK.heap.size wSK) 1
      clear hHeld
      generalize wSK.drew = wd25 at hdr ⊢
      have HB25 := Lib.hid (Bel.call HB24.out hdr)
      replace HXB := Lib.hid (HXB.out.below hdr)
      replace HXG := Lib.hid (HXG.out.below hdr)
      replace HXI := Lib.hid (HXI.out.below hdr)
      replace HXJ := Lib.hid (HXJ.out.below hdr)
      replace HXK := Lib.hid (HXK.out.below hdr)
      clear hdr
      refine wpAnyH_ready (rs := [2]) (by kernel_rfl) (by simp) ?_
      refine AllReadyH.cons (by rw [List.getElem?_toArray]; rfl) (fun K hK => ?_) AllReadyH.nil
      go_simp
      go_at_call 18
      with_reducible refine (HVF.out _).mono ?_
      rintro e w26 ⟨⟨AZ, cZ, vsZ, hvs, hvn, hvc, hvr, hvz, rfl⟩, hb26⟩
      have HB26 := Lib.hid (Bel.call HB25.out hb26)
      replace HXB := Lib.hid (HXB.out.below hb26)
      replace HXG := Lib.hid (HXG.out.below hb26)
      replace HXI := Lib.hid (HXI.out.below hb26)
      replace HXJ := Lib.hid (HXJ.out.below hb26)
      replace HXK := Lib.hid (HXK.out.below hb26)
      clear hb26
      have HSZ := Lib.hid hvs
      have HNZ := Lib.hid hvn
      have HRZ := Lib.hid hvr
      have HCZ := Lib.hid hvc
      clear hvs hvn hvc hvr hvz
      dsimp only
      refine hK.out _ _ HXB.out (fun hHeld => ?_)
      try simp only [Act.put, List.setIfInBounds_toArray, List.set_cons_zero, List.set_cons_succ]
      clear hHeld
      refine wpAnyH_ready (rs := [5]) (by kernel_rfl) (by simp) ?_
      refine AllReadyH.cons (by rw [List.getElem?_toArray]; rfl) (fun K hK => ?_) AllReadyH.nil
      go_simp
      go_at_call 17
      with_reducible refine (HOL.out SB GB U _ _ _ _ HSB.out HGB.out rfl HSZ.out HRZ.out).mono ?_
      rintro e w27 ⟨⟨CL, hCL, rfl⟩, hb27⟩
      have HB27 := Lib.hid (Bel.call HB26.out hb27)
      replace HXB := Lib.hid (HXB.out.below hb27)
      replace HXG := Lib.hid (HXG.out.below hb27)
      replace HXI := Lib.hid (HXI.out.below hb27)
      replace HXJ := Lib.hid (HXJ.out.below hb27)
      replace HXK := Lib.hid (HXK.out.below hb27)
      replace HRZ := Lib.hid (HRZ.out.below hb27 (Nat.le_refl _))
      clear hb27
      try dsimp only at hCL
      have HCL := Lib.hid hCL
      clear hCL
      dsimp only
      refine hK.out _ _ HXB.out (fun hHeld => ?_)
      try simp only [Act.put, List.setIfInBounds_toArray, List.set_cons_zero, List.set_cons_succ]
      refine wpAnyH_take (i := 6) (v := ?_) (by rw [List.getElem?_toArray]; rfl) (by kernel_rfl) (by kernel_rfl) (by kernel_rfl) (by exact fun _ _ _ h => h) (Or.inl ⟨by rfl, ?_⟩) (by assumption) ?_
      rotate_left
      · intro w' hSw
        obtain ⟨⟨_, c0, c1, c2⟩, _⟩ := hSw
        go_simp
        try with_reducible rfl
      try simp only [Act.put, List.setIfInBounds_toArray, List.set_cons_zero, List.set_cons_succ]
      refine wpAnyH_take (i := 7) (v := ?_) (by rw [List.getElem?_toArray]; rfl) (by kernel_rfl) (by kernel_rfl) (by kernel_rfl) (by exact fun _ _ _ h => h) (Or.inl ⟨by rfl, ?_⟩) (by assumption) ?_
      rotate_left
      · intro w' hSw
        obtain ⟨⟨_, c0, c1, c2⟩, _⟩ := hSw
        go_simp
        try with_reducible rfl
      try simp only [Act.put, List.setIfInBounds_toArray, List.set_cons_zero, List.set_cons_succ]
      refine wpAnyH_take (i := 8) (v := ?_) (by rw [List.getElem?_toArray]; rfl) (by kernel_rfl) (by kernel_rfl) (by kernel_rfl) (by exact fun _ _ _ h => h) (Or.inl ⟨by rfl, ?_⟩) (by assumption) ?_
      rotate_left
      · intro w' hSw
        obtain ⟨⟨_, c0, c1, c2⟩, _⟩ := hSw
        go_simp
        try with_reducible rfl
      try simp only [Act.put, List.setIfInBounds_toArray, List.set_cons_zero, List.set_cons_succ]
      refine wpAnyH_take (i := 9) (v := ?_) (by rw [List.getElem?_toArray]; rfl) (by kernel_rfl) (by kernel_rfl) (by kernel_rfl) (by exact fun _ _ _ h => h) (Or.inl ⟨by rfl, ?_⟩) (by assumption) ?_
      rotate_left
      · intro w' hSw
        obtain ⟨⟨_, c0, c1, c2⟩, _⟩ := hSw
        go_simp
        try with_reducible rfl
      try simp only [Act.put, List.setIfInBounds_toArray, List.set_cons_zero, List.set_cons_succ]
      refine wpAnyH_take (i := 10) (v := ?_) (by rw [List.getElem?_toArray]; rfl) (by kernel_rfl) (by kernel_rfl) (by kernel_rfl) (by exact fun _ _ _ h => h) (Or.inl ⟨by rfl, ?_⟩) (by assumption) ?_
      rotate_left
      · intro w' hSw
        obtain ⟨⟨_, c0, c1, c2⟩, _⟩ := hSw
        go_simp
        try with_reducible rfl
      try simp only [Act.put, List.setIfInBounds_toArray, List.set_cons_zero, List.set_cons_succ]
      refine wpAnyH_done (by kernel_rfl) ?_ _
      clear hHeld HRZ
      go_wp2
      go_ret
      exact ⟨rfl, HB27.out⟩
    · by_cases he7 : 7 < epoch
      · have hfg := hfg.2 (by omega)
        subst hfg
        go_enter Try.func7, Try.ntmps7
        go_wp2_with fail
        with_reducible refine (HSH.out _).mono ?_
        rintro e w1 ⟨rfl, hb1⟩
        have HB1 := Lib.hid hb1
        clear hb1
        dsimp only
        go_wp2_with fail
        with_reducible refine (HPA.out _).mono ?_
        rintro e v1 ⟨rfl, hv1⟩
        obtain rfl : w1 = v1 := hv1.symm
        dsimp only
        go_wp2_with fail
        with_reducible refine (HRT.out _).mono ?_
        rintro e w2 ⟨⟨R, hR, rfl⟩, hb2⟩
        have HB2 := Lib.hid (Bel.call HB1.out hb2)
        clear hb2
        try dsimp only at hR
        have HR := Lib.hid hR
        clear hR
        dsimp only
        go_wp2_with fail
        with_reducible refine (HST.out R _ HR.out).mono ?_
        rintro e w3 ⟨⟨S, hS, rfl⟩, hb3⟩
        have HB3 := Lib.hid (Bel.call HB2.out hb3)
        clear hb3
        try dsimp only at hS
        have HS := Lib.hid hS
        clear hS
        dsimp only
        go_wp2_with fail
        with_reducible refine (HSG.out _).mono ?_
        rintro e w4 ⟨⟨G, hG, rfl⟩, hb4⟩
        have HB4 := Lib.hid (Bel.call HB3.out hb4)
        clear hb4
        try dsimp only at hG
        have HG := Lib.hid hG
        clear hG
        dsimp only
        go_wp2_with fail
        with_reducible refine (HBD.out S G _ HS.out HG.out).mono ?_
        rintro e w5 ⟨hx, hb5⟩
        have HB5 := Lib.hid (Bel.call HB4.out hb5)
        clear hb5
        obtain ⟨SB, GB, hSB, hGB, rfl⟩ := bs_bOf hx
        have HSB := Lib.hid hSB
        have HGB := Lib.hid hGB
        clear hx hSB hGB
        dsimp only
        go_wp2_with fail
        have hbS : Below w5.heap.size w5 (w5.alloc (.cells #[.int .i64 (X : Int), .string SB, .string GB] 29)) := (Below.refl w5.heap.size w5).alloc (Nat.le_refl _) _
        have hxS := r3_new w5 ((X : Int)) SB GB 29
        generalize w5.alloc (.cells #[.int .i64 (X : Int), .string SB, .string GB] 29) = wSB at hbS hxS ⊢
        have HB6 := Lib.hid (Bel.call HB5.out hbS)
        have HXB := Lib.hid hxS
        clear hbS hxS
        with_reducible refine (HPM.out _).mono ?_
        rintro e v2 ⟨rfl, hv2⟩
        obtain rfl : wSB = v2 := hv2.symm
        dsimp only
        go_wp2_with fail
        refine wp_region_held_drew (S := fun w' => R3 w5.heap.size w' (X : Int) SB GB) (by kernel_rfl) (HXB.out.below (Below.drewN' (Below.refl wSB.heap.size wSB) 1)) (fun hHeld => ?_)
        refine wpAnyH_take (i := 0) (v := ?_) (by rw [List.getElem?_toArray]; rfl) (by kernel_rfl) (by kernel_rfl) (by kernel_rfl) (by exact fun _ _ _ h => h) (Or.inl ⟨by rfl, ?_⟩) (by assumption) ?_
        rotate_left
        · intro w' hSw
          obtain ⟨⟨_, c0, c1, c2⟩, _⟩ := hSw
          go_simp
          try with_reducible rfl
        try simp only [Act.put, List.setIfInBounds_toArray, List.set_cons_zero, List.set_cons_succ]
        refine wpAnyH_take (i := 1) (v := ?_) (by rw [List.getElem?_toArray]; rfl) (by kernel_rfl) (by kernel_rfl) (by kernel_rfl) (by exact fun _ _ _ h => h) (Or.inl ⟨by rfl, ?_⟩) (by assumption) ?_
        rotate_left
        · intro w' hSw
          obtain ⟨⟨_, c0, c1, c2⟩, _⟩ := hSw
          go_simp
          try with_reducible rfl
        try simp only [Act.put, List.setIfInBounds_toArray, List.set_cons_zero, List.set_cons_succ]
        refine wpAnyH_take (i := 2) (v := ?_) (by rw [List.getElem?_toArray]; rfl) (by kernel_rfl) (by kernel_rfl) (by kernel_rfl) (by exact fun _ _ _ h => h) (Or.inl ⟨by rfl, ?_⟩) (by assumption) ?_
        rotate_left
        · intro w' hSw
          obtain ⟨⟨_, c0, c1, c2⟩, _⟩ := hSw
          go_simp
          try with_reducible rfl
        try simp only [Act.put, List.setIfInBounds_toArray, List.set_cons_zero, List.set_cons_succ]
        refine wpAnyH_take (i := 4) (v := ?_) (by rw [List.getElem?_toArray]; rfl) (by kernel_rfl) (by kernel_rfl) (by kernel_rfl) (by exact fun _ _ _ h => h) (Or.inl ⟨by rfl, ?_⟩) (by assumption) ?_
        rotate_left
        · intro w' hSw
          obtain ⟨⟨_, c0, c1, c2⟩, _⟩ := hSw
          go_simp
          try with_reducible rfl
        try simp only [Act.put, List.setIfInBounds_toArray, List.set_cons_zero, List.set_cons_succ]
        refine wpAnyH_take (i := 5) (v := ?_) (by rw [List.getElem?_toArray]; rfl) (by kernel_rfl) (by kernel_rfl) (by kernel_rfl) (by exact fun _ _ _ h => h) (Or.inl ⟨by rfl, ?_⟩) (by assumption) ?_
        rotate_left
        · intro w' hSw
          obtain ⟨⟨_, c0, c1, c2⟩, _⟩ := hSw
          go_simp
          try with_reducible rfl
        try simp only [Act.put, List.setIfInBounds_toArray, List.set_cons_zero, List.set_cons_succ]
        have hdr : Below wSB.heap.size wSB wSB.drew := Below.drewN' (Below.refl wSB.heap.size wSB) 1
        clear hHeld
        generalize wSB.drew = wd7 at hdr ⊢
        have HB7 := Lib.hid (Bel.call HB6.out hdr)
        replace HXB := Lib.hid (HXB.out.below hdr)
        clear hdr
        refine wpAnyH_ready (rs := [3]) (by kernel_rfl) (by simp) ?_
        refine AllReadyH.cons (by rw [List.getElem?_toArray]; rfl) (fun K hK => ?_) AllReadyH.nil
        go_simp
        go_at_call 18
        with_reducible refine (HVM.out _).mono ?_
        rintro e w8 ⟨⟨AV, cV, vsV, hvs, hvn, hvc, hvr, hvz, rfl⟩, hb8⟩
        have HB8 := Lib.hid (Bel.call HB7.out hb8)
        replace HXB := Lib.hid (HXB.out.below hb8)
        clear hb8
        have HSV := Lib.hid hvs
        have HNV := Lib.hid hvn
        have HRV := Lib.hid hvr
        have HCV := Lib.hid hvc
        clear hvs hvn hvc hvr hvz
        dsimp only
        refine hK.out _ _ HXB.out (fun hHeld => ?_)
        try simp only [Act.put, List.setIfInBounds_toArray, List.set_cons_zero, List.set_cons_succ]
        clear hHeld
        refine wpAnyH_ready (rs := [6]) (by kernel_rfl) (by simp) ?_
        refine AllReadyH.cons (by rw [List.getElem?_toArray]; rfl) (fun K hK => ?_) AllReadyH.nil
        go_simp
        go_at_call 17
        with_reducible refine (HOF.out SB GB S _ _ _ _ HSB.out HGB.out HS.out HSV.out HRV.out).mono ?_
        rintro e w9 ⟨⟨CF, hCF, rfl⟩, hb9⟩
        have HB9 := Lib.hid (Bel.call HB8.out hb9)
        replace HXB := Lib.hid (HXB.out.below hb9)
        replace HRV := Lib.hid (HRV.out.below hb9 (Nat.le_refl _))
        clear hb9
        try dsimp only at hCF
        have HCF := Lib.hid hCF
        clear hCF
        dsimp only
        refine hK.out _ _ HXB.out (fun hHeld => ?_)
        try simp only [Act.put, List.setIfInBounds_toArray, List.set_cons_zero, List.set_cons_succ]
        refine wpAnyH_take (i := 7) (v := ?_) (by rw [List.getElem?_toArray]; rfl) (by kernel_rfl) (by kernel_rfl) (by kernel_rfl) (by exact fun _ _ _ h => h) (Or.inl ⟨by rfl, ?_⟩) (by assumption) ?_
        rotate_left
        · intro w' hSw
          obtain ⟨⟨_, c0, c1, c2⟩, _⟩ := hSw
          go_simp
          try with_reducible rfl
        try simp only [Act.put, List.setIfInBounds_toArray, List.set_cons_zero, List.set_cons_succ]
        refine wpAnyH_take (i := 8) (v := ?_) (by rw [List.getElem?_toArray]; rfl) (by kernel_rfl) (by kernel_rfl) (by kernel_rfl) (by exact fun _ _ _ h => h) (Or.inl ⟨by rfl, ?_⟩) (by assumption) ?_
        rotate_left
        · intro w' hSw
          obtain ⟨⟨_, c0, c1, c2⟩, _⟩ := hSw
          go_simp
          try with_reducible rfl
        try simp only [Act.put, List.setIfInBounds_toArray, List.set_cons_zero, List.set_cons_succ]
        refine wpAnyH_take (i := 9) (v := ?_) (by rw [List.getElem?_toArray]; rfl) (by kernel_rfl) (by kernel_rfl) (by kernel_rfl) (by exact fun _ _ _ h => h) (Or.inl ⟨by rfl, ?_⟩) (by assumption) ?_
        rotate_left
        · intro w' hSw
          obtain ⟨⟨_, c0, c1, c2⟩, _⟩ := hSw
          go_simp
          try with_reducible rfl
        try simp only [Act.put, List.setIfInBounds_toArray, List.set_cons_zero, List.set_cons_succ]
        refine wpAnyH_take (i := 10) (v := ?_) (by rw [List.getElem?_toArray]; rfl) (by kernel_rfl) (by kernel_rfl) (by kernel_rfl) (by exact fun _ _ _ h => h) (Or.inl ⟨by rfl, ?_⟩) (by assumption) ?_
        rotate_left
        · intro w' hSw
          obtain ⟨⟨_, c0, c1, c2⟩, _⟩ := hSw
          go_simp
          try with_reducible rfl
        try simp only [Act.put, List.setIfInBounds_toArray, List.set_cons_zero, List.set_cons_succ]
        refine wpAnyH_take (i := 11) (v := ?_) (by rw [List.getElem?_toArray]; rfl) (by kernel_rfl) (by kernel_rfl) (by kernel_rfl) (by exact fun _ _ _ h => h) (Or.inl ⟨by rfl, ?_⟩) (by assumption) ?_
        rotate_left
        · intro w' hSw
          obtain ⟨⟨_, c0, c1, c2⟩, _⟩ := hSw
          go_simp
          try with_reducible rfl
        try simp only [Act.put, List.setIfInBounds_toArray, List.set_cons_zero, List.set_cons_succ]
        refine wpAnyH_done (by kernel_rfl) ?_ _
        clear hHeld HRV
        go_wp2_with fail
        with_reducible refine (HSG.out _).mono ?_
        rintro e w10 ⟨⟨G2, hG2, rfl⟩, hb10⟩
        have HB10 := Lib.hid (Bel.call HB9.out hb10)
        replace HXB := Lib.hid (HXB.out.below hb10)
        clear hb10
        try dsimp only at hG2
        have HG2 := Lib.hid hG2
        clear hG2
        dsimp only
        go_wp2_with fail
        with_reducible refine (HBG.out S G2 _ HS.out HG2.out).mono ?_
        rintro e w11 ⟨hx, hb11⟩
        have HB11 := Lib.hid (Bel.call HB10.out hb11)
        replace HXB := Lib.hid (HXB.out.below hb11)
        clear hb11
        obtain ⟨SG, GG, hSG, hGG, rfl⟩ := bs_open hx
        clear hx hSG hGG
        dsimp only
        go_wp2_with fail
        have hbS : Below w11.heap.size w11 (w11.alloc (.cells #[.int .i64 bg.ep, .string SG, .string GG] 29)) := (Below.refl w11.heap.size w11).alloc (Nat.le_refl _) _
        have hxS := r3_new w11 (bg.ep) SG GG 29
        generalize w11.alloc (.cells #[.int .i64 bg.ep, .string SG, .string GG] 29) = wSG at hbS hxS ⊢
        have HB12 := Lib.hid (Bel.call HB11.out hbS)
        replace HXB := Lib.hid (HXB.out.below hbS)
        have HXG := Lib.hid hxS
        clear hbS hxS
        refine wp_region_held_drew (S := fun w' => R3 w5.heap.size w' (X : Int) SB GB) (by kernel_rfl) (HXB.out.below (Below.drewN' (Below.refl wSG.heap.size wSG) 1)) (fun hHeld => ?_)
        refine wpAnyH_take (i := 0) (v := ?_) (by rw [List.getElem?_toArray]; rfl) (by kernel_rfl) (by kernel_rfl) (by kernel_rfl) (by exact fun _ _ _ h => h) (Or.inl ⟨by rfl, ?_⟩) (by assumption) ?_
        rotate_left
        · intro w' hSw
          obtain ⟨⟨_, c0, c1, c2⟩, _⟩ := hSw
          go_simp
          try with_reducible rfl
        try simp only [Act.put, List.setIfInBounds_toArray, List.set_cons_zero, List.set_cons_succ]
        refine wpAnyH_take (i := 1) (v := ?_) (by rw [List.getElem?_toArray]; rfl) (by kernel_rfl) (by kernel_rfl) (by kernel_rfl) (by exact fun _ _ _ h => h) (Or.inl ⟨by rfl, ?_⟩) (by assumption) ?_
        rotate_left
        · intro w' hSw
          obtain ⟨⟨_, c0, c1, c2⟩, _⟩ := hSw
          go_simp
          try with_reducible rfl
        try simp only [Act.put, List.setIfInBounds_toArray, List.set_cons_zero, List.set_cons_succ]
        refine wpAnyH_take (i := 3) (v := ?_) (by rw [List.getElem?_toArray]; rfl) (by kernel_rfl) (by kernel_rfl) (by kernel_rfl) (by exact fun _ _ _ h => h) (Or.inl ⟨by rfl, ?_⟩) (by assumption) ?_
        rotate_left
        · intro w' hSw
          obtain ⟨⟨_, c0, c1, c2⟩, _⟩ := hSw
          go_simp
          try with_reducible rfl
        try simp only [Act.put, List.setIfInBounds_toArray, List.set_cons_zero, List.set_cons_succ]
        refine wpAnyH_take (i := 4) (v := ?_) (by rw [List.getElem?_toArray]; rfl) (by kernel_rfl) (by kernel_rfl) (by kernel_rfl) (by exact fun _ _ _ h => h) (Or.inl ⟨by rfl, ?_⟩) (by assumption) ?_
        rotate_left
        · intro w' hSw
          obtain ⟨⟨_, c0, c1, c2⟩, _⟩ := hSw
          go_simp
          try with_reducible rfl
        try simp only [Act.put, List.setIfInBounds_toArray, List.set_cons_zero, List.set_cons_succ]
        have hdr : Below wSG.heap.size wSG wSG.drew := Below.drewN' (Below.refl wSG.heap.size wSG) 1
        clear hHeld
        generalize wSG.drew = wd13 at hdr ⊢
        have HB13 := Lib.hid (Bel.call HB12.out hdr)
        replace HXB := Lib.hid (HXB.out.below hdr)
        replace HXG := Lib.hid (HXG.out.below hdr)
        clear hdr
        refine wpAnyH_ready (rs := [2]) (by kernel_rfl) (by simp) ?_
        refine AllReadyH.cons (by rw [List.getElem?_toArray]; rfl) (fun K hK => ?_) AllReadyH.nil
        go_simp
        go_at_call 18
        with_reducible refine (HVF.out _).mono ?_
        rintro e w14 ⟨⟨AW, cW, vsW, hvs, hvn, hvc, hvr, hvz, rfl⟩, hb14⟩
        have HB14 := Lib.hid (Bel.call HB13.out hb14)
        replace HXB := Lib.hid (HXB.out.below hb14)
        replace HXG := Lib.hid (HXG.out.below hb14)
        clear hb14
        have HSW := Lib.hid hvs
        have HNW := Lib.hid hvn
        have HRW := Lib.hid hvr
        have HCW := Lib.hid hvc
        clear hvs hvn hvc hvr hvz
        dsimp only
        refine hK.out _ _ HXB.out (fun hHeld => ?_)
        try simp only [Act.put, List.setIfInBounds_toArray, List.set_cons_zero, List.set_cons_succ]
        clear hHeld
        refine wpAnyH_ready (rs := [5]) (by kernel_rfl) (by simp) ?_
        refine AllReadyH.cons (by rw [List.getElem?_toArray]; rfl) (fun K hK => ?_) AllReadyH.nil
        go_simp
        go_at_call 17
        with_reducible refine (HOH.out SB GB S _ _ _ _ HSB.out HGB.out HS.out HSW.out HRW.out).mono ?_
        rintro e w15 ⟨⟨CH, hCH, rfl⟩, hb15⟩
        have HB15 := Lib.hid (Bel.call HB14.out hb15)
        replace HXB := Lib.hid (HXB.out.below hb15)
        replace HXG := Lib.hid (HXG.out.below hb15)
        replace HRW := Lib.hid (HRW.out.below hb15 (Nat.le_refl _))
        clear hb15
        try dsimp only at hCH
        have HCH := Lib.hid hCH
        clear hCH
        dsimp only
        refine hK.out _ _ HXB.out (fun hHeld => ?_)
        try simp only [Act.put, List.setIfInBounds_toArray, List.set_cons_zero, List.set_cons_succ]
        refine wpAnyH_take (i := 6) (v := ?_) (by rw [List.getElem?_toArray]; rfl) (by kernel_rfl) (by kernel_rfl) (by kernel_rfl) (by exact fun _ _ _ h => h) (Or.inl ⟨by rfl, ?_⟩) (by assumption) ?_
        rotate_left
        · intro w' hSw
          obtain ⟨⟨_, c0, c1, c2⟩, _⟩ := hSw
          go_simp
          try with_reducible rfl
        try simp only [Act.put, List.setIfInBounds_toArray, List.set_cons_zero, List.set_cons_succ]
        refine wpAnyH_take (i := 7) (v := ?_) (by rw [List.getElem?_toArray]; rfl) (by kernel_rfl) (by kernel_rfl) (by kernel_rfl) (by exact fun _ _ _ h => h) (Or.inl ⟨by rfl, ?_⟩) (by assumption) ?_
        rotate_left
        · intro w' hSw
          obtain ⟨⟨_, c0, c1, c2⟩, _⟩ := hSw
          go_simp
          try with_reducible rfl
        try simp only [Act.put, List.setIfInBounds_toArray, List.set_cons_zero, List.set_cons_succ]
        refine wpAnyH_take (i := 8) (v := ?_) (by rw [List.getElem?_toArray]; rfl) (by kernel_rfl) (by kernel_rfl) (by kernel_rfl) (by exact fun _ _ _ h => h) (Or.inl ⟨by rfl, ?_⟩) (by assumption) ?_
        rotate_left
        · intro w' hSw
          obtain ⟨⟨_, c0, c1, c2⟩, _⟩ := hSw
          go_simp
          try with_reducible rfl
        try simp only [Act.put, List.setIfInBounds_toArray, List.set_cons_zero, List.set_cons_succ]
        refine wpAnyH_take (i := 9) (v := ?_) (by rw [List.getElem?_toArray]; rfl) (by kernel_rfl) (by kernel_rfl) (by kernel_rfl) (by exact fun _ _ _ h => h) (Or.inl ⟨by rfl, ?_⟩) (by assumption) ?_
        rotate_left
        · intro w' hSw
          obtain ⟨⟨_, c0, c1, c2⟩, _⟩ := hSw
          go_simp
          try with_reducible rfl
        try simp only [Act.put, List.setIfInBounds_toArray, List.set_cons_zero, List.set_cons_succ]
        refine wpAnyH_take (i := 10) (v := ?_) (by rw [List.getElem?_toArray]; rfl) (by kernel_rfl) (by kernel_rfl) (by kernel_rfl) (by exact fun _ _ _ h => h) (Or.inl ⟨by rfl, ?_⟩) (by assumption) ?_
        rotate_left
        · intro w' hSw
          obtain ⟨⟨_, c0, c1, c2⟩, _⟩ := hSw
          go_simp
          try with_reducible rfl
        try simp only [Act.put, List.setIfInBounds_toArray, List.set_cons_zero, List.set_cons_succ]
        refine wpAnyH_done (by kernel_rfl) ?_ _
        clear hHeld HRW
        go_wp2_with fail
        with_reducible refine (HK.out _).mono ?_
        rintro e w16 ⟨rfl, hb16⟩
        have HB16 := Lib.hid (Bel.call HB15.out hb16)
        replace HXB := Lib.hid (HXB.out.below hb16)
        replace HXG := Lib.hid (HXG.out.below hb16)
        clear hb16
        dsimp only
        go_wp2_with fail
        with_reducible refine (HSG.out _).mono ?_
        rintro e w17 ⟨⟨G3, hG3, rfl⟩, hb17⟩
        have HB17 := Lib.hid (Bel.call HB16.out hb17)
        replace HXB := Lib.hid (HXB.out.below hb17)
        replace HXG := Lib.hid (HXG.out.below hb17)
        clear hb17
        try dsimp only at hG3
        have HG3 := Lib.hid hG3
        clear hG3
        dsimp only
        go_wp2_with fail
        with_reducible refine (HNI.out G3 _ HG3.out).mono ?_
        rintro e w18 ⟨hx, hb18⟩
        have HB18 := Lib.hid (Bel.call HB17.out hb18)
        replace HXB := Lib.hid (HXB.out.below hb18)
        replace HXG := Lib.hid (HXG.out.below hb18)
        clear hb18
        obtain rfl := bs_zero hx
        dsimp only
        go_wp2_with fail
        have hbS : Below w18.heap.size w18 (w18.alloc (.cells #[.int .i64 0, .string ⟨#[]⟩, .string ⟨#[]⟩] 29)) := (Below.refl w18.heap.size w18).alloc (Nat.le_refl _) _
        have hxS := r3_new w18 (0) ⟨#[]⟩ ⟨#[]⟩ 29
        generalize w18.alloc (.cells #[.int .i64 0, .string ⟨#[]⟩, .string ⟨#[]⟩] 29) = wSI at hbS hxS ⊢
        have HB19 := Lib.hid (Bel.call HB18.out hbS)
        replace HXB := Lib.hid (HXB.out.below hbS)
        replace HXG := Lib.hid (HXG.out.below hbS)
        have HXI := Lib.hid hxS
        clear hbS hxS
        with_reducible refine (HNJ.out S _ HS.out).mono ?_
        rintro e w20 ⟨hx, hb20⟩
        have HB20 := Lib.hid (Bel.call HB19.out hb20)
        replace HXB := Lib.hid (HXB.out.below hb20)
        replace HXG := Lib.hid (HXG.out.below hb20)
        replace HXI := Lib.hid (HXI.out.below hb20)
        clear hb20
        obtain rfl := bs_zero hx
        dsimp only
        go_wp2_with fail
        have hbS : Below w20.heap.size w20 (w20.alloc (.cells #[.int .i64 0, .string ⟨#[]⟩, .string ⟨#[]⟩] 29)) := (Below.refl w20.heap.size w20).alloc (Nat.le_refl _) _
        have hxS := r3_new w20 (0) ⟨#[]⟩ ⟨#[]⟩ 29
        generalize w20.alloc (.cells #[.int .i64 0, .string ⟨#[]⟩, .string ⟨#[]⟩] 29) = wSJ at hbS hxS ⊢
        have HB21 := Lib.hid (Bel.call HB20.out hbS)
        replace HXB := Lib.hid (HXB.out.below hbS)
        replace HXG := Lib.hid (HXG.out.below hbS)
        replace HXI := Lib.hid (HXI.out.below hbS)
        have HXJ := Lib.hid hxS
        clear hbS hxS
        with_reducible refine (HSG.out _).mono ?_
        rintro e w22 ⟨⟨G4, hG4, rfl⟩, hb22⟩
        have HB22 := Lib.hid (Bel.call HB21.out hb22)
        replace HXB := Lib.hid (HXB.out.below hb22)
        replace HXG := Lib.hid (HXG.out.below hb22)
        replace HXI := Lib.hid (HXI.out.below hb22)
        replace HXJ := Lib.hid (HXJ.out.below hb22)
        clear hb22
        try dsimp only at hG4
        have HG4 := Lib.hid hG4
        clear hG4
        dsimp only
        go_wp2_with fail
        with_reducible refine (HNK.out S G4 _ HS.out HG4.out).mono ?_
        rintro e w23 ⟨hx, hb23⟩
        have HB23 := Lib.hid (Bel.call HB22.out hb23)
        replace HXB := Lib.hid (HXB.out.below hb23)
        replace HXG := Lib.hid (HXG.out.below hb23)
        replace HXI := Lib.hid (HXI.out.below hb23)
        replace HXJ := Lib.hid (HXJ.out.below hb23)
        clear hb23
        obtain rfl := bs_zero hx
        dsimp only
        go_wp2_with fail
        have hbS : Below w23.heap.size w23 (w23.alloc (.cells #[.int .i64 0, .string ⟨#[]⟩, .string ⟨#[]⟩] 29)) := (Below.refl w23.heap.size w23).alloc (Nat.le_refl _) _
        have hxS := r3_new w23 (0) ⟨#[]⟩ ⟨#[]⟩ 29
        generalize w23.alloc (.cells #[.int .i64 0, .string ⟨#[]⟩, .string ⟨#[]⟩] 29) = wSK at hbS hxS ⊢
        have HB24 := Lib.hid (Bel.call HB23.out hbS)
        replace HXB := Lib.hid (HXB.out.below hbS)
        replace HXG := Lib.hid (HXG.out.below hbS)
        replace HXI := Lib.hid (HXI.out.below hbS)
        replace HXJ := Lib.hid (HXJ.out.below hbS)
        have HXK := Lib.hid hxS
        clear hbS hxS
        refine wp_region_held_drew (S := fun w' => R3 w5.heap.size w' (X : Int) SB GB) (by kernel_rfl) (HXB.out.below (Below.drewN' (Below.refl wSK.heap.size wSK) 1)) (fun hHeld => ?_)
        refine wpAnyH_take (i := 0) (v := ?_) (by rw [List.getElem?_toArray]; rfl) (by kernel_rfl) (by kernel_rfl) (by kernel_rfl) (by exact fun _ _ _ h => h) (Or.inl ⟨by rfl, ?_⟩) (by assumption) ?_
        rotate_left
        · intro w' hSw
          obtain ⟨⟨_, c0, c1, c2⟩, _⟩ := hSw
          go_simp
          try with_reducible rfl
        try simp only [Act.put, List.setIfInBounds_toArray, List.set_cons_zero, List.set_cons_succ]
        refine wpAnyH_take (i := 1) (v := ?_) (by rw [List.getElem?_toArray]; rfl) (by kernel_rfl) (by kernel_rfl) (by kernel_rfl) (by exact fun _ _ _ h => h) (Or.inl ⟨by rfl, ?_⟩) (by assumption) ?_
        rotate_left
        · intro w' hSw
          obtain ⟨⟨_, c0, c1, c2⟩, _⟩ := hSw
          go_simp
          try with_reducible rfl
        try simp only [Act.put, List.setIfInBounds_toArray, List.set_cons_zero, List.set_cons_succ]
        refine wpAnyH_take (i := 3) (v := ?_) (by rw [List.getElem?_toArray]; rfl) (by kernel_rfl) (by kernel_rfl) (by kernel_rfl) (by exact fun _ _ _ h => h) (Or.inl ⟨by rfl, ?_⟩) (by assumption) ?_
        rotate_left
        · intro w' hSw
          obtain ⟨⟨_, c0, c1, c2⟩, _⟩ := hSw
          go_simp
          try with_reducible rfl
        try simp only [Act.put, List.setIfInBounds_toArray, List.set_cons_zero, List.set_cons_succ]
        refine wpAnyH_take (i := 4) (v := ?_) (by rw [List.getElem?_toArray]; rfl) (by kernel_rfl) (by kernel_rfl) (by kernel_rfl) (by exact fun _ _ _ h => h) (Or.inl ⟨by rfl, ?_⟩) (by assumption) ?_
        rotate_left
        · intro w' hSw
          obtain ⟨⟨_, c0, c1, c2⟩, _⟩ := hSw
          go_simp
          try with_reducible rfl
        try simp only [Act.put, List.setIfInBounds_toArray, List.set_cons_zero, List.set_cons_succ]
        have hdr : Below wSK.heap.size wSK wSK.drew := Below.drewN' (Below.refl wSK.heap.size wSK) 1
        clear hHeld
        generalize wSK.drew = wd25 at hdr ⊢
        have HB25 := Lib.hid (Bel.call HB24.out hdr)
        replace HXB := Lib.hid (HXB.out.below hdr)
        replace HXG := Lib.hid (HXG.out.below hdr)
        replace HXI := Lib.hid (HXI.out.below hdr)
        replace HXJ := Lib.hid (HXJ.out.below hdr)
        replace HXK := Lib.hid (HXK.out.below hdr)
        clear hdr
        refine wpAnyH_ready (rs := [2]) (by kernel_rfl) (by simp) ?_
        refine AllReadyH.cons (by rw [List.getElem?_toArray]; rfl) (fun K hK => ?_) AllReadyH.nil
        go_simp
        go_at_call 18
        with_reducible refine (HVF.out _).mono ?_
        rintro e w26 ⟨⟨AZ, cZ, vsZ, hvs, hvn, hvc, hvr, hvz, rfl⟩, hb26⟩
        have HB26 := Lib.hid (Bel.call HB25.out hb26)
        replace HXB := Lib.hid (HXB.out.below hb26)
        replace HXG := Lib.hid (HXG.out.below hb26)
        replace HXI := Lib.hid (HXI.out.below hb26)
        replace HXJ := Lib.hid (HXJ.out.below hb26)
        replace HXK := Lib.hid (HXK.out.below hb26)
        clear hb26
        have HSZ := Lib.hid hvs
        have HNZ := Lib.hid hvn
        have HRZ := Lib.hid hvr
        have HCZ := Lib.hid hvc
        clear hvs hvn hvc hvr hvz
        dsimp only
        refine hK.out _ _ HXB.out (fun hHeld => ?_)
        try simp only [Act.put, List.setIfInBounds_toArray, List.set_cons_zero, List.set_cons_succ]
        clear hHeld
        refine wpAnyH_ready (rs := [5]) (by kernel_rfl) (by simp) ?_
        refine AllReadyH.cons (by rw [List.getElem?_toArray]; rfl) (fun K hK => ?_) AllReadyH.nil
        go_simp
        go_at_call 17
        with_reducible refine (HOL.out SB GB U _ _ _ _ HSB.out HGB.out rfl HSZ.out HRZ.out).mono ?_
        rintro e w27 ⟨⟨CL, hCL, rfl⟩, hb27⟩
        have HB27 := Lib.hid (Bel.call HB26.out hb27)
        replace HXB := Lib.hid (HXB.out.below hb27)
        replace HXG := Lib.hid (HXG.out.below hb27)
        replace HXI := Lib.hid (HXI.out.below hb27)
        replace HXJ := Lib.hid (HXJ.out.below hb27)
        replace HXK := Lib.hid (HXK.out.below hb27)
        replace HRZ := Lib.hid (HRZ.out.below hb27 (Nat.le_refl _))
        clear hb27
        try dsimp only at hCL
        have HCL := Lib.hid hCL
        clear hCL
        dsimp only
        refine hK.out _ _ HXB.out (fun hHeld => ?_)
        try simp only [Act.put, List.setIfInBounds_toArray, List.set_cons_zero, List.set_cons_succ]
        refine wpAnyH_take (i := 6) (v := ?_) (by rw [List.getElem?_toArray]; rfl) (by kernel_rfl) (by kernel_rfl) (by kernel_rfl) (by exact fun _ _ _ h => h) (Or.inl ⟨by rfl, ?_⟩) (by assumption) ?_
        rotate_left
        · intro w' hSw
          obtain ⟨⟨_, c0, c1, c2⟩, _⟩ := hSw
          go_simp
          try with_reducible rfl
        try simp only [Act.put, List.setIfInBounds_toArray, List.set_cons_zero, List.set_cons_succ]
        refine wpAnyH_take (i := 7) (v := ?_) (by rw [List.getElem?_toArray]; rfl) (by kernel_rfl) (by kernel_rfl) (by kernel_rfl) (by exact fun _ _ _ h => h) (Or.inl ⟨by rfl, ?_⟩) (by assumption) ?_
        rotate_left
        · intro w' hSw
          obtain ⟨⟨_, c0, c1, c2⟩, _⟩ := hSw
          go_simp
          try with_reducible rfl
        try simp only [Act.put, List.setIfInBounds_toArray, List.set_cons_zero, List.set_cons_succ]
        refine wpAnyH_take (i := 8) (v := ?_) (by rw [List.getElem?_toArray]; rfl) (by kernel_rfl) (by kernel_rfl) (by kernel_rfl) (by exact fun _ _ _ h => h) (Or.inl ⟨by rfl, ?_⟩) (by assumption) ?_
        rotate_left
        · intro w' hSw
          obtain ⟨⟨_, c0, c1, c2⟩, _⟩ := hSw
          go_simp
          try with_reducible rfl
        try simp only [Act.put, List.setIfInBounds_toArray, List.set_cons_zero, List.set_cons_succ]
        refine wpAnyH_take (i := 9) (v := ?_) (by rw [List.getElem?_toArray]; rfl) (by kernel_rfl) (by kernel_rfl) (by kernel_rfl) (by exact fun _ _ _ h => h) (Or.inl ⟨by rfl, ?_⟩) (by assumption) ?_
        rotate_left
        · intro w' hSw
          obtain ⟨⟨_, c0, c1, c2⟩, _⟩ := hSw
          go_simp
          try with_reducible rfl
        try simp only [Act.put, List.setIfInBounds_toArray, List.set_cons_zero, List.set_cons_succ]
        refine wpAnyH_take (i := 10) (v := ?_) (by rw [List.getElem?_toArray]; rfl) (by kernel_rfl) (by kernel_rfl) (by kernel_rfl) (by exact fun _ _ _ h => h) (Or.inl ⟨by rfl, ?_⟩) (by assumption) ?_
        rotate_left
        · intro w' hSw
          obtain ⟨⟨_, c0, c1, c2⟩, _⟩ := hSw
          go_simp
          try with_reducible rfl
        try simp only [Act.put, List.setIfInBounds_toArray, List.set_cons_zero, List.set_cons_succ]
        refine wpAnyH_done (by kernel_rfl) ?_ _
        clear hHeld HRZ
        go_wp2
        go_ret
        exact ⟨rfl, HB27.out⟩
      · have hfg := hfg.1 (by omega)
        go_enter Try.func7, Try.ntmps7
        go_wp2_with fail
        with_reducible refine (HSH.out _).mono ?_
        rintro e w1 ⟨rfl, hb1⟩
        have HB1 := Lib.hid hb1
        clear hb1
        dsimp only
        go_wp2_with fail
        with_reducible refine (HPA.out _).mono ?_
        rintro e v1 ⟨rfl, hv1⟩
        obtain rfl : w1 = v1 := hv1.symm
        dsimp only
        go_wp2_with fail
        with_reducible refine (HRT.out _).mono ?_
        rintro e w2 ⟨⟨R, hR, rfl⟩, hb2⟩
        have HB2 := Lib.hid (Bel.call HB1.out hb2)
        clear hb2
        try dsimp only at hR
        have HR := Lib.hid hR
        clear hR
        dsimp only
        go_wp2_with fail
        with_reducible refine (HST.out R _ HR.out).mono ?_
        rintro e w3 ⟨⟨S, hS, rfl⟩, hb3⟩
        have HB3 := Lib.hid (Bel.call HB2.out hb3)
        clear hb3
        try dsimp only at hS
        have HS := Lib.hid hS
        clear hS
        dsimp only
        go_wp2_with fail
        with_reducible refine (HSG.out _).mono ?_
        rintro e w4 ⟨⟨G, hG, rfl⟩, hb4⟩
        have HB4 := Lib.hid (Bel.call HB3.out hb4)
        clear hb4
        try dsimp only at hG
        have HG := Lib.hid hG
        clear hG
        dsimp only
        go_wp2_with fail
        with_reducible refine (HBD.out S G _ HS.out HG.out).mono ?_
        rintro e w5 ⟨hx, hb5⟩
        have HB5 := Lib.hid (Bel.call HB4.out hb5)
        clear hb5
        obtain ⟨SB, GB, hSB, hGB, rfl⟩ := bs_bOf hx
        have HSB := Lib.hid hSB
        have HGB := Lib.hid hGB
        clear hx hSB hGB
        dsimp only
        go_wp2_with fail
        have hbS : Below w5.heap.size w5 (w5.alloc (.cells #[.int .i64 (X : Int), .string SB, .string GB] 29)) := (Below.refl w5.heap.size w5).alloc (Nat.le_refl _) _
        have hxS := r3_new w5 ((X : Int)) SB GB 29
        generalize w5.alloc (.cells #[.int .i64 (X : Int), .string SB, .string GB] 29) = wSB at hbS hxS ⊢
        have HB6 := Lib.hid (Bel.call HB5.out hbS)
        have HXB := Lib.hid hxS
        clear hbS hxS
        with_reducible refine (HPM.out _).mono ?_
        rintro e v2 ⟨rfl, hv2⟩
        obtain rfl : wSB = v2 := hv2.symm
        dsimp only
        go_wp2_with fail
        refine wp_region_held_drew (S := fun w' => R3 w5.heap.size w' (X : Int) SB GB) (by kernel_rfl) (HXB.out.below (Below.drewN' (Below.refl wSB.heap.size wSB) 1)) (fun hHeld => ?_)
        refine wpAnyH_take (i := 0) (v := ?_) (by rw [List.getElem?_toArray]; rfl) (by kernel_rfl) (by kernel_rfl) (by kernel_rfl) (by exact fun _ _ _ h => h) (Or.inl ⟨by rfl, ?_⟩) (by assumption) ?_
        rotate_left
        · intro w' hSw
          obtain ⟨⟨_, c0, c1, c2⟩, _⟩ := hSw
          go_simp
          try with_reducible rfl
        try simp only [Act.put, List.setIfInBounds_toArray, List.set_cons_zero, List.set_cons_succ]
        refine wpAnyH_take (i := 1) (v := ?_) (by rw [List.getElem?_toArray]; rfl) (by kernel_rfl) (by kernel_rfl) (by kernel_rfl) (by exact fun _ _ _ h => h) (Or.inl ⟨by rfl, ?_⟩) (by assumption) ?_
        rotate_left
        · intro w' hSw
          obtain ⟨⟨_, c0, c1, c2⟩, _⟩ := hSw
          go_simp
          try with_reducible rfl
        try simp only [Act.put, List.setIfInBounds_toArray, List.set_cons_zero, List.set_cons_succ]
        refine wpAnyH_take (i := 2) (v := ?_) (by rw [List.getElem?_toArray]; rfl) (by kernel_rfl) (by kernel_rfl) (by kernel_rfl) (by exact fun _ _ _ h => h) (Or.inl ⟨by rfl, ?_⟩) (by assumption) ?_
        rotate_left
        · intro w' hSw
          obtain ⟨⟨_, c0, c1, c2⟩, _⟩ := hSw
          go_simp
          try with_reducible rfl
        try simp only [Act.put, List.setIfInBounds_toArray, List.set_cons_zero, List.set_cons_succ]
        refine wpAnyH_take (i := 4) (v := ?_) (by rw [List.getElem?_toArray]; rfl) (by kernel_rfl) (by kernel_rfl) (by kernel_rfl) (by exact fun _ _ _ h => h) (Or.inl ⟨by rfl, ?_⟩) (by assumption) ?_
        rotate_left
        · intro w' hSw
          obtain ⟨⟨_, c0, c1, c2⟩, _⟩ := hSw
          go_simp
          try with_reducible rfl
        try simp only [Act.put, List.setIfInBounds_toArray, List.set_cons_zero, List.set_cons_succ]
        refine wpAnyH_take (i := 5) (v := ?_) (by rw [List.getElem?_toArray]; rfl) (by kernel_rfl) (by kernel_rfl) (by kernel_rfl) (by exact fun _ _ _ h => h) (Or.inl ⟨by rfl, ?_⟩) (by assumption) ?_
        rotate_left
        · intro w' hSw
          obtain ⟨⟨_, c0, c1, c2⟩, _⟩ := hSw
          go_simp
          try with_reducible rfl
        try simp only [Act.put, List.setIfInBounds_toArray, List.set_cons_zero, List.set_cons_succ]
        have hdr : Below wSB.heap.size wSB wSB.drew := Below.drewN' (Below.refl wSB.heap.size wSB) 1
        clear hHeld
        generalize wSB.drew = wd7 at hdr ⊢
        have HB7 := Lib.hid (Bel.call HB6.out hdr)
        replace HXB := Lib.hid (HXB.out.below hdr)
        clear hdr
        refine wpAnyH_ready (rs := [3]) (by kernel_rfl) (by simp) ?_
        refine AllReadyH.cons (by rw [List.getElem?_toArray]; rfl) (fun K hK => ?_) AllReadyH.nil
        go_simp
        go_at_call 18
        with_reducible refine (HVM.out _).mono ?_
        rintro e w8 ⟨⟨AV, cV, vsV, hvs, hvn, hvc, hvr, hvz, rfl⟩, hb8⟩
        have HB8 := Lib.hid (Bel.call HB7.out hb8)
        replace HXB := Lib.hid (HXB.out.below hb8)
        clear hb8
        have HSV := Lib.hid hvs
        have HNV := Lib.hid hvn
        have HRV := Lib.hid hvr
        have HCV := Lib.hid hvc
        clear hvs hvn hvc hvr hvz
        dsimp only
        refine hK.out _ _ HXB.out (fun hHeld => ?_)
        try simp only [Act.put, List.setIfInBounds_toArray, List.set_cons_zero, List.set_cons_succ]
        clear hHeld
        refine wpAnyH_ready (rs := [6]) (by kernel_rfl) (by simp) ?_
        refine AllReadyH.cons (by rw [List.getElem?_toArray]; rfl) (fun K hK => ?_) AllReadyH.nil
        go_simp
        go_at_call 17
        with_reducible refine (HOF.out SB GB S _ _ _ _ HSB.out HGB.out HS.out HSV.out HRV.out).mono ?_
        rintro e w9 ⟨⟨CF, hCF, rfl⟩, hb9⟩
        have HB9 := Lib.hid (Bel.call HB8.out hb9)
        replace HXB := Lib.hid (HXB.out.below hb9)
        replace HRV := Lib.hid (HRV.out.below hb9 (Nat.le_refl _))
        clear hb9
        try dsimp only at hCF
        have HCF := Lib.hid hCF
        clear hCF
        dsimp only
        refine hK.out _ _ HXB.out (fun hHeld => ?_)
        try simp only [Act.put, List.setIfInBounds_toArray, List.set_cons_zero, List.set_cons_succ]
        refine wpAnyH_take (i := 7) (v := ?_) (by rw [List.getElem?_toArray]; rfl) (by kernel_rfl) (by kernel_rfl) (by kernel_rfl) (by exact fun _ _ _ h => h) (Or.inl ⟨by rfl, ?_⟩) (by assumption) ?_
        rotate_left
        · intro w' hSw
          obtain ⟨⟨_, c0, c1, c2⟩, _⟩ := hSw
          go_simp
          try with_reducible rfl
        try simp only [Act.put, List.setIfInBounds_toArray, List.set_cons_zero, List.set_cons_succ]
        refine wpAnyH_take (i := 8) (v := ?_) (by rw [List.getElem?_toArray]; rfl) (by kernel_rfl) (by kernel_rfl) (by kernel_rfl) (by exact fun _ _ _ h => h) (Or.inl ⟨by rfl, ?_⟩) (by assumption) ?_
        rotate_left
        · intro w' hSw
          obtain ⟨⟨_, c0, c1, c2⟩, _⟩ := hSw
          go_simp
          try with_reducible rfl
        try simp only [Act.put, List.setIfInBounds_toArray, List.set_cons_zero, List.set_cons_succ]
        refine wpAnyH_take (i := 9) (v := ?_) (by rw [List.getElem?_toArray]; rfl) (by kernel_rfl) (by kernel_rfl) (by kernel_rfl) (by exact fun _ _ _ h => h) (Or.inl ⟨by rfl, ?_⟩) (by assumption) ?_
        rotate_left
        · intro w' hSw
          obtain ⟨⟨_, c0, c1, c2⟩, _⟩ := hSw
          go_simp
          try with_reducible rfl
        try simp only [Act.put, List.setIfInBounds_toArray, List.set_cons_zero, List.set_cons_succ]
        refine wpAnyH_take (i := 10) (v := ?_) (by rw [List.getElem?_toArray]; rfl) (by kernel_rfl) (by kernel_rfl) (by kernel_rfl) (by exact fun _ _ _ h => h) (Or.inl ⟨by rfl, ?_⟩) (by assumption) ?_
        rotate_left
        · intro w' hSw
          obtain ⟨⟨_, c0, c1, c2⟩, _⟩ := hSw
          go_simp
          try with_reducible rfl
        try simp only [Act.put, List.setIfInBounds_toArray, List.set_cons_zero, List.set_cons_succ]
        refine wpAnyH_take (i := 11) (v := ?_) (by rw [List.getElem?_toArray]; rfl) (by kernel_rfl) (by kernel_rfl) (by kernel_rfl) (by exact fun _ _ _ h => h) (Or.inl ⟨by rfl, ?_⟩) (by assumption) ?_
        rotate_left
        · intro w' hSw
          obtain ⟨⟨_, c0, c1, c2⟩, _⟩ := hSw
          go_simp
          try with_reducible rfl
        try simp only [Act.put, List.setIfInBounds_toArray, List.set_cons_zero, List.set_cons_succ]
        refine wpAnyH_done (by kernel_rfl) ?_ _
        clear hHeld HRV
        go_wp2_with fail
        with_reducible refine (HSG.out _).mono ?_
        rintro e w10 ⟨⟨G2, hG2, rfl⟩, hb10⟩
        have HB10 := Lib.hid (Bel.call HB9.out hb10)
        replace HXB := Lib.hid (HXB.out.below hb10)
        clear hb10
        try dsimp only at hG2
        have HG2 := Lib.hid hG2
        clear hG2
        dsimp only
        go_wp2_with fail
        with_reducible refine (HBG.out S G2 _ HS.out HG2.out).mono ?_
        rintro e w11 ⟨hx, hb11⟩
        have HB11 := Lib.hid (Bel.call HB10.out hb11)
        replace HXB := Lib.hid (HXB.out.below hb11)
        clear hb11
        obtain ⟨SG, GG, hSG, hGG, rfl⟩ := bs_open hx
        clear hx hSG hGG
        dsimp only
        go_wp2_with fail
        have hbS : Below w11.heap.size w11 (w11.alloc (.cells #[.int .i64 bg.ep, .string SG, .string GG] 29)) := (Below.refl w11.heap.size w11).alloc (Nat.le_refl _) _
        have hxS := r3_new w11 (bg.ep) SG GG 29
        generalize w11.alloc (.cells #[.int .i64 bg.ep, .string SG, .string GG] 29) = wSG at hbS hxS ⊢
        have HB12 := Lib.hid (Bel.call HB11.out hbS)
        replace HXB := Lib.hid (HXB.out.below hbS)
        have HXG := Lib.hid hxS
        clear hbS hxS
        refine wp_region_held_drew (S := fun w' => R3 w5.heap.size w' (X : Int) SB GB) (by kernel_rfl) (HXB.out.below (Below.drewN' (Below.refl wSG.heap.size wSG) 1)) (fun hHeld => ?_)
        refine wpAnyH_take (i := 0) (v := ?_) (by rw [List.getElem?_toArray]; rfl) (by kernel_rfl) (by kernel_rfl) (by kernel_rfl) (by exact fun _ _ _ h => h) (Or.inl ⟨by rfl, ?_⟩) (by assumption) ?_
        rotate_left
        · intro w' hSw
          obtain ⟨⟨_, c0, c1, c2⟩, _⟩ := hSw
          go_simp
          try with_reducible rfl
        try simp only [Act.put, List.setIfInBounds_toArray, List.set_cons_zero, List.set_cons_succ]
        refine wpAnyH_take (i := 1) (v := ?_) (by rw [List.getElem?_toArray]; rfl) (by kernel_rfl) (by kernel_rfl) (by kernel_rfl) (by exact fun _ _ _ h => h) (Or.inl ⟨by rfl, ?_⟩) (by assumption) ?_
        rotate_left
        · intro w' hSw
          obtain ⟨⟨_, c0, c1, c2⟩, _⟩ := hSw
          go_simp
          try with_reducible rfl
        try simp only [Act.put, List.setIfInBounds_toArray, List.set_cons_zero, List.set_cons_succ]
        refine wpAnyH_take (i := 3) (v := ?_) (by rw [List.getElem?_toArray]; rfl) (by kernel_rfl) (by kernel_rfl) (by kernel_rfl) (by exact fun _ _ _ h => h) (Or.inl ⟨by rfl, ?_⟩) (by assumption) ?_
        rotate_left
        · intro w' hSw
          obtain ⟨⟨_, c0, c1, c2⟩, _⟩ := hSw
          go_simp
          try with_reducible rfl
        try simp only [Act.put, List.setIfInBounds_toArray, List.set_cons_zero, List.set_cons_succ]
        refine wpAnyH_take (i := 4) (v := ?_) (by rw [List.getElem?_toArray]; rfl) (by kernel_rfl) (by kernel_rfl) (by kernel_rfl) (by exact fun _ _ _ h => h) (Or.inl ⟨by rfl, ?_⟩) (by assumption) ?_
        rotate_left
        · intro w' hSw
          obtain ⟨⟨_, c0, c1, c2⟩, _⟩ := hSw
          go_simp
          try with_reducible rfl
        try simp only [Act.put, List.setIfInBounds_toArray, List.set_cons_zero, List.set_cons_succ]
        have hdr : Below wSG.heap.size wSG wSG.drew := Below.drewN' (Below.refl wSG.heap.size wSG) 1
        clear hHeld
        generalize wSG.drew = wd13 at hdr ⊢
        have HB13 := Lib.hid (Bel.call HB12.out hdr)
        replace HXB := Lib.hid (HXB.out.below hdr)
        replace HXG := Lib.hid (HXG.out.below hdr)
        clear hdr
        refine wpAnyH_ready (rs := [2]) (by kernel_rfl) (by simp) ?_
        refine AllReadyH.cons (by rw [List.getElem?_toArray]; rfl) (fun K hK => ?_) AllReadyH.nil
        go_simp
        go_at_call 18
        with_reducible refine (HVF.out _).mono ?_
        rintro e w14 ⟨⟨AW, cW, vsW, hvs, hvn, hvc, hvr, hvz, rfl⟩, hb14⟩
        have HB14 := Lib.hid (Bel.call HB13.out hb14)
        replace HXB := Lib.hid (HXB.out.below hb14)
        replace HXG := Lib.hid (HXG.out.below hb14)
        clear hb14
        have HSW := Lib.hid hvs
        have HNW := Lib.hid hvn
        have HRW := Lib.hid hvr
        have HCW := Lib.hid hvc
        clear hvs hvn hvc hvr hvz
        dsimp only
        refine hK.out _ _ HXB.out (fun hHeld => ?_)
        try simp only [Act.put, List.setIfInBounds_toArray, List.set_cons_zero, List.set_cons_succ]
        clear hHeld
        refine wpAnyH_ready (rs := [5]) (by kernel_rfl) (by simp) ?_
        refine AllReadyH.cons (by rw [List.getElem?_toArray]; rfl) (fun K hK => ?_) AllReadyH.nil
        go_simp
        go_at_call 17
        with_reducible refine (HOH.out SB GB S _ _ _ _ HSB.out HGB.out HS.out HSW.out HRW.out).mono ?_
        rintro e w15 ⟨⟨CH, hCH, rfl⟩, hb15⟩
        have HB15 := Lib.hid (Bel.call HB14.out hb15)
        replace HXB := Lib.hid (HXB.out.below hb15)
        replace HXG := Lib.hid (HXG.out.below hb15)
        replace HRW := Lib.hid (HRW.out.below hb15 (Nat.le_refl _))
        clear hb15
        try dsimp only at hCH
        have HCH := Lib.hid hCH
        clear hCH
        dsimp only
        refine hK.out _ _ HXB.out (fun hHeld => ?_)
        try simp only [Act.put, List.setIfInBounds_toArray, List.set_cons_zero, List.set_cons_succ]
        refine wpAnyH_take (i := 6) (v := ?_) (by rw [List.getElem?_toArray]; rfl) (by kernel_rfl) (by kernel_rfl) (by kernel_rfl) (by exact fun _ _ _ h => h) (Or.inl ⟨by rfl, ?_⟩) (by assumption) ?_
        rotate_left
        · intro w' hSw
          obtain ⟨⟨_, c0, c1, c2⟩, _⟩ := hSw
          go_simp
          try with_reducible rfl
        try simp only [Act.put, List.setIfInBounds_toArray, List.set_cons_zero, List.set_cons_succ]
        refine wpAnyH_take (i := 7) (v := ?_) (by rw [List.getElem?_toArray]; rfl) (by kernel_rfl) (by kernel_rfl) (by kernel_rfl) (by exact fun _ _ _ h => h) (Or.inl ⟨by rfl, ?_⟩) (by assumption) ?_
        rotate_left
        · intro w' hSw
          obtain ⟨⟨_, c0, c1, c2⟩, _⟩ := hSw
          go_simp
          try with_reducible rfl
        try simp only [Act.put, List.setIfInBounds_toArray, List.set_cons_zero, List.set_cons_succ]
        refine wpAnyH_take (i := 8) (v := ?_) (by rw [List.getElem?_toArray]; rfl) (by kernel_rfl) (by kernel_rfl) (by kernel_rfl) (by exact fun _ _ _ h => h) (Or.inl ⟨by rfl, ?_⟩) (by assumption) ?_
        rotate_left
        · intro w' hSw
          obtain ⟨⟨_, c0, c1, c2⟩, _⟩ := hSw
          go_simp
          try with_reducible rfl
        try simp only [Act.put, List.setIfInBounds_toArray, List.set_cons_zero, List.set_cons_succ]
        refine wpAnyH_take (i := 9) (v := ?_) (by rw [List.getElem?_toArray]; rfl) (by kernel_rfl) (by kernel_rfl) (by kernel_rfl) (by exact fun _ _ _ h => h) (Or.inl ⟨by rfl, ?_⟩) (by assumption) ?_
        rotate_left
        · intro w' hSw
          obtain ⟨⟨_, c0, c1, c2⟩, _⟩ := hSw
          go_simp
          try with_reducible rfl
        try simp only [Act.put, List.setIfInBounds_toArray, List.set_cons_zero, List.set_cons_succ]
        refine wpAnyH_take (i := 10) (v := ?_) (by rw [List.getElem?_toArray]; rfl) (by kernel_rfl) (by kernel_rfl) (by kernel_rfl) (by exact fun _ _ _ h => h) (Or.inl ⟨by rfl, ?_⟩) (by assumption) ?_
        rotate_left
        · intro w' hSw
          obtain ⟨⟨_, c0, c1, c2⟩, _⟩ := hSw
          go_simp
          try with_reducible rfl
        try simp only [Act.put, List.setIfInBounds_toArray, List.set_cons_zero, List.set_cons_succ]
        refine wpAnyH_done (by kernel_rfl) ?_ _
        clear hHeld HRW
        go_wp2_with fail
        with_reducible refine (HK.out _).mono ?_
        rintro e w16 ⟨rfl, hb16⟩
        have HB16 := Lib.hid (Bel.call HB15.out hb16)
        replace HXB := Lib.hid (HXB.out.below hb16)
        replace HXG := Lib.hid (HXG.out.below hb16)
        clear hb16
        dsimp only
        go_wp2_with fail
        with_reducible refine (HSG.out _).mono ?_
        rintro e w17 ⟨⟨G3, hG3, rfl⟩, hb17⟩
        have HB17 := Lib.hid (Bel.call HB16.out hb17)
        replace HXB := Lib.hid (HXB.out.below hb17)
        replace HXG := Lib.hid (HXG.out.below hb17)
        clear hb17
        try dsimp only at hG3
        have HG3 := Lib.hid hG3
        clear hG3
        dsimp only
        go_wp2_with fail
        with_reducible refine (HNI.out G3 _ HG3.out).mono ?_
        rintro e w18 ⟨hx, hb18⟩
        have HB18 := Lib.hid (Bel.call HB17.out hb18)
        replace HXB := Lib.hid (HXB.out.below hb18)
        replace HXG := Lib.hid (HXG.out.below hb18)
        clear hb18
        obtain rfl := bs_zero hx
        dsimp only
        go_wp2_with fail
        have hbS : Below w18.heap.size w18 (w18.alloc (.cells #[.int .i64 0, .string ⟨#[]⟩, .string ⟨#[]⟩] 29)) := (Below.refl w18.heap.size w18).alloc (Nat.le_refl _) _
        have hxS := r3_new w18 (0) ⟨#[]⟩ ⟨#[]⟩ 29
        generalize w18.alloc (.cells #[.int .i64 0, .string ⟨#[]⟩, .string ⟨#[]⟩] 29) = wSI at hbS hxS ⊢
        have HB19 := Lib.hid (Bel.call HB18.out hbS)
        replace HXB := Lib.hid (HXB.out.below hbS)
        replace HXG := Lib.hid (HXG.out.below hbS)
        have HXI := Lib.hid hxS
        clear hbS hxS
        with_reducible refine (HNJ.out S _ HS.out).mono ?_
        rintro e w20 ⟨hx, hb20⟩
        have HB20 := Lib.hid (Bel.call HB19.out hb20)
        replace HXB := Lib.hid (HXB.out.below hb20)
        replace HXG := Lib.hid (HXG.out.below hb20)
        replace HXI := Lib.hid (HXI.out.below hb20)
        clear hb20
        obtain rfl := bs_zero hx
        dsimp only
        go_wp2_with fail
        have hbS : Below w20.heap.size w20 (w20.alloc (.cells #[.int .i64 0, .string ⟨#[]⟩, .string ⟨#[]⟩] 29)) := (Below.refl w20.heap.size w20).alloc (Nat.le_refl _) _
        have hxS := r3_new w20 (0) ⟨#[]⟩ ⟨#[]⟩ 29
        generalize w20.alloc (.cells #[.int .i64 0, .string ⟨#[]⟩, .string ⟨#[]⟩] 29) = wSJ at hbS hxS ⊢
        have HB21 := Lib.hid (Bel.call HB20.out hbS)
        replace HXB := Lib.hid (HXB.out.below hbS)
        replace HXG := Lib.hid (HXG.out.below hbS)
        replace HXI := Lib.hid (HXI.out.below hbS)
        have HXJ := Lib.hid hxS
        clear hbS hxS
        with_reducible refine (HSG.out _).mono ?_
        rintro e w22 ⟨⟨G4, hG4, rfl⟩, hb22⟩
        have HB22 := Lib.hid (Bel.call HB21.out hb22)
        replace HXB := Lib.hid (HXB.out.below hb22)
        replace HXG := Lib.hid (HXG.out.below hb22)
        replace HXI := Lib.hid (HXI.out.below hb22)
        replace HXJ := Lib.hid (HXJ.out.below hb22)
        clear hb22
        try dsimp only at hG4
        have HG4 := Lib.hid hG4
        clear hG4
        dsimp only
        go_wp2_with fail
        with_reducible refine (HNK.out S G4 _ HS.out HG4.out).mono ?_
        rintro e w23 ⟨hx, hb23⟩
        have HB23 := Lib.hid (Bel.call HB22.out hb23)
        replace HXB := Lib.hid (HXB.out.below hb23)
        replace HXG := Lib.hid (HXG.out.below hb23)
        replace HXI := Lib.hid (HXI.out.below hb23)
        replace HXJ := Lib.hid (HXJ.out.below hb23)
        clear hb23
        obtain rfl := bs_zero hx
        dsimp only
        go_wp2_with fail
        have hbS : Below w23.heap.size w23 (w23.alloc (.cells #[.int .i64 0, .string ⟨#[]⟩, .string ⟨#[]⟩] 29)) := (Below.refl w23.heap.size w23).alloc (Nat.le_refl _) _
        have hxS := r3_new w23 (0) ⟨#[]⟩ ⟨#[]⟩ 29
        generalize w23.alloc (.cells #[.int .i64 0, .string ⟨#[]⟩, .string ⟨#[]⟩] 29) = wSK at hbS hxS ⊢
        have HB24 := Lib.hid (Bel.call HB23.out hbS)
        replace HXB := Lib.hid (HXB.out.below hbS)
        replace HXG := Lib.hid (HXG.out.below hbS)
        replace HXI := Lib.hid (HXI.out.below hbS)
        replace HXJ := Lib.hid (HXJ.out.below hbS)
        have HXK := Lib.hid hxS
        clear hbS hxS
        refine wp_region_held_drew (S := fun w' => R3 w5.heap.size w' (X : Int) SB GB) (by kernel_rfl) (HXB.out.below (Below.drewN' (Below.refl wSK.heap.size wSK) 1)) (fun hHeld => ?_)
        refine wpAnyH_take (i := 0) (v := ?_) (by rw [List.getElem?_toArray]; rfl) (by kernel_rfl) (by kernel_rfl) (by kernel_rfl) (by exact fun _ _ _ h => h) (Or.inl ⟨by rfl, ?_⟩) (by assumption) ?_
        rotate_left
        · intro w' hSw
          obtain ⟨⟨_, c0, c1, c2⟩, _⟩ := hSw
          go_simp
          try with_reducible rfl
        try simp only [Act.put, List.setIfInBounds_toArray, List.set_cons_zero, List.set_cons_succ]
        refine wpAnyH_take (i := 1) (v := ?_) (by rw [List.getElem?_toArray]; rfl) (by kernel_rfl) (by kernel_rfl) (by kernel_rfl) (by exact fun _ _ _ h => h) (Or.inl ⟨by rfl, ?_⟩) (by assumption) ?_
        rotate_left
        · intro w' hSw
          obtain ⟨⟨_, c0, c1, c2⟩, _⟩ := hSw
          go_simp
          try with_reducible rfl
        try simp only [Act.put, List.setIfInBounds_toArray, List.set_cons_zero, List.set_cons_succ]
        refine wpAnyH_take (i := 3) (v := ?_) (by rw [List.getElem?_toArray]; rfl) (by kernel_rfl) (by kernel_rfl) (by kernel_rfl) (by exact fun _ _ _ h => h) (Or.inl ⟨by rfl, ?_⟩) (by assumption) ?_
        rotate_left
        · intro w' hSw
          obtain ⟨⟨_, c0, c1, c2⟩, _⟩ := hSw
          go_simp
          try with_reducible rfl
        try simp only [Act.put, List.setIfInBounds_toArray, List.set_cons_zero, List.set_cons_succ]
        refine wpAnyH_take (i := 4) (v := ?_) (by rw [List.getElem?_toArray]; rfl) (by kernel_rfl) (by kernel_rfl) (by kernel_rfl) (by exact fun _ _ _ h => h) (Or.inl ⟨by rfl, ?_⟩) (by assumption) ?_
        rotate_left
        · intro w' hSw
          obtain ⟨⟨_, c0, c1, c2⟩, _⟩ := hSw
          go_simp
          try with_reducible rfl
        try simp only [Act.put, List.setIfInBounds_toArray, List.set_cons_zero, List.set_cons_succ]
        have hdr : Below wSK.heap.size wSK wSK.drew := Below.drewN' (Below.refl wSK.heap.size wSK) 1
        clear hHeld
        generalize wSK.drew = wd25 at hdr ⊢
        have HB25 := Lib.hid (Bel.call HB24.out hdr)
        replace HXB := Lib.hid (HXB.out.below hdr)
        replace HXG := Lib.hid (HXG.out.below hdr)
        replace HXI := Lib.hid (HXI.out.below hdr)
        replace HXJ := Lib.hid (HXJ.out.below hdr)
        replace HXK := Lib.hid (HXK.out.below hdr)
        clear hdr
        refine wpAnyH_ready (rs := [2]) (by kernel_rfl) (by simp) ?_
        refine AllReadyH.cons (by rw [List.getElem?_toArray]; rfl) (fun K hK => ?_) AllReadyH.nil
        go_simp
        go_at_call 18
        with_reducible refine (HVF.out _).mono ?_
        rintro e w26 ⟨⟨AZ, cZ, vsZ, hvs, hvn, hvc, hvr, hvz, rfl⟩, hb26⟩
        have HB26 := Lib.hid (Bel.call HB25.out hb26)
        replace HXB := Lib.hid (HXB.out.below hb26)
        replace HXG := Lib.hid (HXG.out.below hb26)
        replace HXI := Lib.hid (HXI.out.below hb26)
        replace HXJ := Lib.hid (HXJ.out.below hb26)
        replace HXK := Lib.hid (HXK.out.below hb26)
        clear hb26
        have HSZ := Lib.hid hvs
        have HNZ := Lib.hid hvn
        have HRZ := Lib.hid hvr
        have HCZ := Lib.hid hvc
        clear hvs hvn hvc hvr hvz
        dsimp only
        refine hK.out _ _ HXB.out (fun hHeld => ?_)
        try simp only [Act.put, List.setIfInBounds_toArray, List.set_cons_zero, List.set_cons_succ]
        clear hHeld
        refine wpAnyH_ready (rs := [5]) (by kernel_rfl) (by simp) ?_
        refine AllReadyH.cons (by rw [List.getElem?_toArray]; rfl) (fun K hK => ?_) AllReadyH.nil
        go_simp
        go_at_call 17
        with_reducible refine (HOL.out SB GB U _ _ _ _ HSB.out HGB.out rfl HSZ.out HRZ.out).mono ?_
        rintro e w27 ⟨⟨CL, hCL, rfl⟩, hb27⟩
        have HB27 := Lib.hid (Bel.call HB26.out hb27)
        replace HXB := Lib.hid (HXB.out.below hb27)
        replace HXG := Lib.hid (HXG.out.below hb27)
        replace HXI := Lib.hid (HXI.out.below hb27)
        replace HXJ := Lib.hid (HXJ.out.below hb27)
        replace HXK := Lib.hid (HXK.out.below hb27)
        replace HRZ := Lib.hid (HRZ.out.below hb27 (Nat.le_refl _))
        clear hb27
        try dsimp only at hCL
        have HCL := Lib.hid hCL
        clear hCL
        dsimp only
        refine hK.out _ _ HXB.out (fun hHeld => ?_)
        try simp only [Act.put, List.setIfInBounds_toArray, List.set_cons_zero, List.set_cons_succ]
        refine wpAnyH_take (i := 6) (v := ?_) (by rw [List.getElem?_toArray]; rfl) (by kernel_rfl) (by kernel_rfl) (by kernel_rfl) (by exact fun _ _ _ h => h) (Or.inl ⟨by rfl, ?_⟩) (by assumption) ?_
        rotate_left
        · intro w' hSw
          obtain ⟨⟨_, c0, c1, c2⟩, _⟩ := hSw
          go_simp
          try with_reducible rfl
        try simp only [Act.put, List.setIfInBounds_toArray, List.set_cons_zero, List.set_cons_succ]
        refine wpAnyH_take (i := 7) (v := ?_) (by rw [List.getElem?_toArray]; rfl) (by kernel_rfl) (by kernel_rfl) (by kernel_rfl) (by exact fun _ _ _ h => h) (Or.inl ⟨by rfl, ?_⟩) (by assumption) ?_
        rotate_left
        · intro w' hSw
          obtain ⟨⟨_, c0, c1, c2⟩, _⟩ := hSw
          go_simp
          try with_reducible rfl
        try simp only [Act.put, List.setIfInBounds_toArray, List.set_cons_zero, List.set_cons_succ]
        refine wpAnyH_take (i := 8) (v := ?_) (by rw [List.getElem?_toArray]; rfl) (by kernel_rfl) (by kernel_rfl) (by kernel_rfl) (by exact fun _ _ _ h => h) (Or.inl ⟨by rfl, ?_⟩) (by assumption) ?_
        rotate_left
        · intro w' hSw
          obtain ⟨⟨_, c0, c1, c2⟩, _⟩ := hSw
          go_simp
          try with_reducible rfl
        try simp only [Act.put, List.setIfInBounds_toArray, List.set_cons_zero, List.set_cons_succ]
        refine wpAnyH_take (i := 9) (v := ?_) (by rw [List.getElem?_toArray]; rfl) (by kernel_rfl) (by kernel_rfl) (by kernel_rfl) (by exact fun _ _ _ h => h) (Or.inl ⟨by rfl, ?_⟩) (by assumption) ?_
        rotate_left
        · intro w' hSw
          obtain ⟨⟨_, c0, c1, c2⟩, _⟩ := hSw
          go_simp
          try with_reducible rfl
        try simp only [Act.put, List.setIfInBounds_toArray, List.set_cons_zero, List.set_cons_succ]
        refine wpAnyH_take (i := 10) (v := ?_) (by rw [List.getElem?_toArray]; rfl) (by kernel_rfl) (by kernel_rfl) (by kernel_rfl) (by exact fun _ _ _ h => h) (Or.inl ⟨by rfl, ?_⟩) (by assumption) ?_
        rotate_left
        · intro w' hSw
          obtain ⟨⟨_, c0, c1, c2⟩, _⟩ := hSw
          go_simp
          try with_reducible rfl
        try simp only [Act.put, List.setIfInBounds_toArray, List.set_cons_zero, List.set_cons_succ]
        refine wpAnyH_done (by kernel_rfl) ?_ _
        clear hHeld HRZ
        go_wp2
        go_ret
        exact ⟨rfl, HB27.out⟩
end Go.Proofs.Ytjdignbmlfbdnaa.Dta
