/-
  One text of several, in their order: CApart, CTogether, CPartsF, ShelfS, CList, CLearn, CSettle, CHold, CCode. By an AI agent; no person has read it.
-/
import Derived.Test.YtjdignbmlfbdnaaGreatZB
import Derived.Test.YtjdignbmlfbdnaaGreatZ8
import Derived.Test.YtjdignbmlfbdnaaGreatProg
import Derived.Sort.OwnSorted
import Derived.Sort.Walk0
import Derived.Deep.LoopGhost
/-
  CONTRACTS of the code's takeApart, putTogether (package closure). By an AI agent; no person has read it.
-/
namespace Go.Proofs.YtjdignbmlfbdnaaGreat.Clo
open Go.RowKit Wire Term

/-- An answer of nothing, the mind turned. -/
def WkE (lv base pb : Nat) (X : Nat → Prop) (K : List Tm) (w : World) (R : (Tm → Fa) → List Tm → Prop) (e : Ending) (w' : World) : Prop :=
  e = .returned (.tuple #[]) ∧ Below base w w' ∧ Kp X w w' ∧ ∃ F' N', MindX lv base pb X K F' N' w' ∧ R F' N'
section
variable (held : List Tm) (lv base pb : Nat) (X : Nat → Prop) (K : List Tm) (F : Tm → Fa) (N : List Tm) (s : ByteArray) (w : World)
set_option maxHeartbeats 2000000 in
set_option maxRecDepth 1000000 in
theorem apart_idle (hlv : 4 ≤ lv ∧ lv ≤ 6) (h : MindX lv base pb X K F N w) (hs : s.size ≤ 4000) (ht : s.data.toList ∈ K) (hf : (F s.data.toList).1 = false) :
    Calls Tryz.prog 97 #[.pointer (some ⟨pb, 0, none⟩), .string s] w fun e w' => WkE lv base pb X K w (Ta1 held K F N s.data.toList) e w' := by
  obtain ⟨mb, kb, a, c, ys, ia, oa, ic, oc, c0, hlt, hbs, hkb, hys, hsr, hyc, _, hrun⟩ := h.look hlv.2 hs ht
  rw [hf] at hrun
  have HA : Hid (∀ o, MindX lv base pb X K F N (w.alloc o) ∧ Kp X w (w.alloc o)) := fun o => h.below ((Below.refl _ _).alloc (Nat.le_refl _) o)
  have HF := Lib.hid hf
  clear h hf hkb hys hsr
  go_enter Tryz.func97, Tryz.ntmps97
  go_wp2
  refine bodyPost_ret (results_none rfl _ _ _) rfl ?_
  exact ⟨rfl, (Below.refl _ _).alloc hbs _, (HA.out _).2, _, _, (HA.out _).1, ta_idle HF.out⟩
set_option maxHeartbeats 2000000 in
set_option maxRecDepth 1000000 in
theorem apart_leaf (hlv : 4 ≤ lv ∧ lv ≤ 6) (h : MindX lv base pb X K F N w) (hs : s.size ≤ 4000) (ht : s.data.toList ∈ K) (hf : (F s.data.toList).1 = true) (h1 : s.data.toList.headD 0 ≠ 112) (h2 : s.data.toList.headD 0 ≠ 103) (h3 : s.data.toList.headD 0 ≠ 115) (h4 : s.data.toList.headD 0 ≠ 98) :
    Calls Tryz.prog 97 #[.pointer (some ⟨pb, 0, none⟩), .string s] w fun e w' => WkE lv base pb X K w (Ta1 held K F N s.data.toList) e w' := by
  obtain ⟨mb, kb, a, c, ys, ia, oa, ic, oc, c0, hlt, hbs, hkb, hys, hsr, hyc, _, hrun⟩ := h.look hlv.2 hs ht
  rw [hf] at hrun
  have ne : ∀ n : UInt8, s.data.toList.headD 0 ≠ n → kb ≠ (n.toNat : Int) := fun n hn e => hn (by rw [hkb] at e; exact UInt8.toNat_inj.1 (by omega))
  have k1 : kb ≠ 112 := ne 112 h1
  have k2 : kb ≠ 103 := ne 103 h2
  have k3 : kb ≠ 115 := ne 115 h3
  have k4 : kb ≠ 98 := ne 98 h4
  have HA : Hid (∀ o, MindX lv base pb X K F N (w.alloc o) ∧ Kp X w (w.alloc o)) := fun o => h.below ((Below.refl _ _).alloc (Nat.le_refl _) o)
  have HT : Hid (Ta1 held K F N s.data.toList F N) := ta_leaf h1 h2 h3 h4
  clear h hf hkb hys hsr h1 h2 h3 h4 ne
  go_enter Tryz.func97, Tryz.ntmps97
  go_wp2
  go_end0
  exact ⟨rfl, (Below.refl _ _).alloc hbs _, (HA.out _).2, _, _, (HA.out _).1, HT.out⟩
/-- A term of two parts, ready for a walk: its look-up, its parts' cells, the mind beside them. -/
theorem MindX.two {lv base pb : Nat} {X : Nat → Prop} {K : List Tm} {F : Tm → Fa} {N : List Tm} {s : ByteArray} {w : World} (h : MindX lv base pb X K F N w) (hlv : lv ≤ 6) (hs : s.size ≤ 4000) (ht : s.data.toList ∈ K) {x y : Tm} (hp : pts s.data.toList = [x, y]) :
    ∃ (mb : Nat) (kb : Int) (b off c : Nat) (X' Y' : ByteArray) (ia oa : Option Addr) (ic oc : Nat), w.cell? ⟨pb, 0, none⟩ = some (.map (some mb)) ∧ pb < w.heap.size ∧ base ≤ w.heap.size ∧ kb = (((s.data.toList).headD 0).toNat : Int) ∧ X'.data.toList = x ∧ Y'.data.toList = y ∧ 2 ≤ c ∧
      SReads w (some ⟨b, off, none⟩) [X', Y'] ∧ b < w.heap.size ∧ w.cell? ⟨b, off, none⟩ = some (.string X') ∧ w.cell? ⟨b, off + 1, none⟩ = some (.string Y') ∧ MindX lv base pb (fun x => X x ∨ x = b) K F N w ∧
      (Instr.lookup 81 (.map (some mb)) (.string s) false).run Tryz.prog w = .ok (.agg #[.int .u8 kb, .slice (some ⟨b, off, none⟩) 2 c, .bool (F s.data.toList).1, .bool (F s.data.toList).2.1, .slice ia (F s.data.toList).2.2.1.length ic, .slice oa (F s.data.toList).2.2.2.length oc]) w := by
  obtain ⟨mb, kb, a, c, ys, ia, oa, ic, oc, c0, hlt, hbs, hkb, hys, hsr, hyc, hX, hrun⟩ := h.look hlv hs ht
  rw [hp] at hys
  obtain ⟨X', Y', rfl, hx, hy⟩ := bl_duo hys
  obtain ⟨b, off, rfl, hb, hc0⟩ := reads_at hsr 0 rfl
  obtain ⟨b2, off2, e, _, hc1⟩ := reads_at hsr 1 rfl
  injection e with e
  injection e with e1 e2 _
  subst e1 e2
  rw [Nat.add_zero] at hc0
  exact ⟨mb, kb, b, off, c, X', Y', ia, oa, ic, oc, c0, hlt, hbs, hkb, hx, hy, hyc, hsr, hb, hc0, hc1, hX b off (by simp) rfl, hrun⟩
theorem duo_of {t : Tm} (h : right t = true) (h1 : t.headD 0 ∈ [112, 115, 98, (103 : UInt8)]) : ∃ x y, pts t = [x, y] := by
  obtain ⟨b, r, rfl, hb⟩ := kinds h
  have h2 : b = 112 ∨ b = 115 ∨ b = 98 ∨ b = 103 := by simpa using h1
  obtain ⟨x, y, _, e, _⟩ := pts_two h h2
  exact ⟨x, y, e⟩
theorem pt_size {t x : Tm} {X : ByteArray} (e : X.data.toList = x) (h : x ∈ pts t) : X.size ≤ 4000 := by
  rw [Lib.size_eq, e]; exact (right_len (pts_right h).1).2
set_option maxHeartbeats 4000000 in
set_option maxRecDepth 1000000 in
theorem apart_pair (hlv : 4 ≤ lv ∧ lv ≤ 6) (h : MindX lv base pb X K F N w) (hs : s.size ≤ 4000) (hkf : Kf K F []) (ht : s.data.toList ∈ K) (hsn : Snd held F) (hK : K.length ≤ 100000000) (hN : N.length + 1 ≤ 100000000) (hf : (F s.data.toList).1 = true) {x y : Tm} (h1 : s.data.toList.headD 0 = 112) (hp : pts s.data.toList = [x, y]) :
    Calls Tryz.prog 97 #[.pointer (some ⟨pb, 0, none⟩), .string s] w fun e w' => WkE lv base pb X K w (Ta1 held K F N s.data.toList) e w' := by
  obtain ⟨mb, kb, b, off, c, X', Y', ia, oa, ic, oc, c0, hlt, hbs, hkb, ex, ey, hyc, _, hb, d0, d1, hX, hrun⟩ := h.two hlv.2 hs ht hp
  have hx : x ∈ pts s.data.toList := by rw [hp]; simp
  have hy : y ∈ pts s.data.toList := by rw [hp]; simp
  have xK := (hkf.parts _ ht List.not_mem_nil x hx).1
  have yK := (hkf.parts _ ht List.not_mem_nil y hy).1
  have HT : Hid (Ta1 held K F N s.data.toList (hvF (hvF F x) y) (hvN (hvF F x) (hvN F N x) y)) := ta_pair h1 hp xK yK (hsn.1 _ hf).1
  have xs := pt_size ex hx
  have ys := pt_size ey hy
  rw [h1] at hkb
  obtain rfl : kb = 112 := hkb
  rw [hf] at hrun
  have HA : Hid (∀ o, MindX lv base pb X K F N (w.alloc o) ∧ Kp X w (w.alloc o)) := fun o => h.below ((Below.refl _ _).alloc (Nat.le_refl _) o)
  have HX1 := Lib.hid (hX.new hlv.2 (.cells #[.int .u8 112, .slice (some ⟨b, off, none⟩) 2 c, .bool true, .bool (F s.data.toList).2.1, .slice ia (F s.data.toList).2.2.1.length ic, .slice oa (F s.data.toList).2.2.2.length oc] 80))
  have HXK : Hid (X'.data.toList ∈ K) := by rw [← ex] at xK; exact xK
  have HYK : Hid (Y'.data.toList ∈ K) := by rw [← ey] at yK; exact yK
  have EX := Lib.hid ex
  have EY := Lib.hid ey
  clear h hX hf hkf ht hsn hp hx hy xK yK ex ey h1
  go_enter Tryz.func97, Tryz.ntmps97
  go_wp2_with fail
  refine (have_any lv base pb hlv.1 _ K F N X' _ HX1.out xs HXK.out hK (by omega)).mono ?_
  rintro e w2 ⟨rfl, hm2, hb2, hk2⟩
  have z1 : w2.cell? ⟨w.heap.size, 1, none⟩ = some (.slice (some ⟨b, off, none⟩) 2 c) := by
    rw [World.cell?_of_block (a := ⟨w.heap.size, 1, none⟩) (hk2 w.heap.size (.inr rfl)), World.cell?_alloc_new]; rfl
  have z2 : w2.cell? ⟨b, off + 1, none⟩ = some (.string Y') := by
    rw [World.cell?_of_block (a := ⟨b, off + 1, none⟩) (hk2 b (.inl (.inr rfl))), World.cell?_alloc_past _ _ _ hb]; exact d1
  have HM2 := Lib.hid hm2
  have HB2 := Lib.hid hb2
  have HK2 := Lib.hid hk2
  have hn2 : (hvN F N X'.data.toList).length ≤ 100000000 := by
    unfold hvN; split
    · omega
    · rw [List.length_append, List.length_singleton]; omega
  clear hm2 hb2 hk2 hrun c0 d0 d1
  dsimp only
  go_wp2_with fail
  refine (have_any lv base pb hlv.1 _ K _ _ Y' _ HM2.out ys HYK.out hK hn2).mono ?_
  rintro e w3 ⟨rfl, hm3, hb3, hk3⟩
  have HM3 := Lib.hid hm3
  have HB3 := Lib.hid hb3
  have HK3 := Lib.hid hk3
  clear hm3 hb3 hk3
  dsimp only
  go_wp2
  go_end0
  refine ⟨rfl, (((Below.refl _ _).alloc hbs _).trans HB2.out).trans HB3.out, ((HA.out _).2.trans (HK2.out.less fun x hx => .inl (.inl hx))).trans (HK3.out.less fun x hx => .inl (.inl hx)), _, _, HM3.out.less (fun x hx => .inl (.inl hx)), ?_⟩
  rw [EX.out, EY.out]
  exact HT.out
set_option maxHeartbeats 4000000 in
set_option maxRecDepth 1000000 in
theorem apart_signed (hlv : 4 ≤ lv ∧ lv ≤ 6) (h : MindX lv base pb X K F N w) (hs : s.size ≤ 4000) (hkf : Kf K F []) (ht : s.data.toList ∈ K) (hsn : Snd held F) (hK : K.length ≤ 100000000) (hN : N.length + 1 ≤ 100000000) (hf : (F s.data.toList).1 = true) {x y : Tm} (h1 : s.data.toList.headD 0 = 103) (hp : pts s.data.toList = [x, y]) :
    Calls Tryz.prog 97 #[.pointer (some ⟨pb, 0, none⟩), .string s] w fun e w' => WkE lv base pb X K w (Ta1 held K F N s.data.toList) e w' := by
  obtain ⟨mb, kb, b, off, c, X', Y', ia, oa, ic, oc, c0, hlt, hbs, hkb, ex, ey, hyc, _, hb, d0, d1, hX, hrun⟩ := h.two hlv.2 hs ht hp
  have hy : y ∈ pts s.data.toList := by rw [hp]; simp
  have yK := (hkf.parts _ ht List.not_mem_nil y hy).1
  have HT : Hid (Ta1 held K F N s.data.toList (hvF F y) (hvN F N y)) := ta_signed h1 hp yK (hsn.1 _ hf).1
  have ys := pt_size ey hy
  rw [h1] at hkb
  obtain rfl : kb = 103 := hkb
  rw [hf] at hrun
  have HA : Hid (∀ o, MindX lv base pb X K F N (w.alloc o) ∧ Kp X w (w.alloc o)) := fun o => h.below ((Below.refl _ _).alloc (Nat.le_refl _) o)
  have HYK : Hid (Y'.data.toList ∈ K) := by rw [← ey] at yK; exact yK
  have EY := Lib.hid ey
  clear h hX hf hkf ht hsn hp hy yK ex ey h1
  go_enter Tryz.func97, Tryz.ntmps97
  go_wp2_with fail
  refine (have_any lv base pb hlv.1 _ K F N Y' _ (HA.out _).1 ys HYK.out hK (by omega)).mono ?_
  rintro e w2 ⟨rfl, hm2, hb2, hk2⟩
  have HM2 := Lib.hid hm2
  have HB2 := Lib.hid hb2
  have HK2 := Lib.hid hk2
  clear hm2 hb2 hk2 hrun c0 d0 d1
  dsimp only
  go_wp2
  go_end0
  refine ⟨rfl, ((Below.refl _ _).alloc hbs _).trans HB2.out, (HA.out _).2.trans HK2.out, _, _, HM2.out, ?_⟩
  rw [EY.out]
  exact HT.out
set_option maxHeartbeats 4000000 in
set_option maxRecDepth 1000000 in
theorem apart_sealed_true (hlv : 4 ≤ lv ∧ lv ≤ 6) (h : MindX lv base pb X K F N w) (hs : s.size ≤ 4000) (hkf : Kf K F []) (ht : s.data.toList ∈ K) (hsn : Snd held F) (hK : K.length ≤ 100000000) (hN : N.length + 1 ≤ 100000000) (hf : (F s.data.toList).1 = true) {x y k : Tm} (h1 : s.data.toList.headD 0 = 115) (hp : pts s.data.toList = [x, y]) (hk : keyT s.data.toList = some k) (hm : (F k).2.1 = true) :
    Calls Tryz.prog 97 #[.pointer (some ⟨pb, 0, none⟩), .string s] w fun e w' => WkE lv base pb X K w (Ta1 held K F N s.data.toList) e w' := by
  obtain ⟨mb, kb, b, off, c, X', Y', ia, oa, ic, oc, c0, hlt, hbs, hkb, ex, ey, hyc, hsr, hb, d0, d1, hX, hrun⟩ := h.two hlv.2 hs ht hp
  have hx : x ∈ pts s.data.toList := by rw [hp]; simp
  have hy : y ∈ pts s.data.toList := by rw [hp]; simp
  have xK := (hkf.parts _ ht List.not_mem_nil x hx).1
  have yK := (hkf.parts _ ht List.not_mem_nil y hy).1
  have kK := hkf.key_in ht hk
  have ks : k.length ≤ 4000 := (right_len (hkf.good k kK)).2
  have HT : Hid (Ta1 held K F N s.data.toList (hvF F y) (hvN F N y)) := ta_opened hk hp (hsn.2 _ hm) yK (hsn.1 _ hf).1
  have xs := pt_size ex hx
  have ys := pt_size ey hy
  rw [h1] at hkb
  obtain rfl : kb = 115 := hkb
  rw [hf] at hrun
  have HA : Hid (∀ o, MindX lv base pb X K F N (w.alloc o) ∧ Kp X w (w.alloc o)) := fun o => h.below ((Below.refl _ _).alloc (Nat.le_refl _) o)
  have HSR : Hid (∀ o, SReads (w.alloc o) (some ⟨b, off, none⟩) [X', Y']) := fun o => hsr.below ((Below.refl w.heap.size w).alloc (Nat.le_refl _) o) (Nat.le_refl _)
  have HXK : Hid (X'.data.toList ∈ K) := by rw [← ex] at xK; exact xK
  have HYK : Hid (Y'.data.toList ∈ K) := by rw [← ey] at yK; exact yK
  have HKK := Lib.hid kK
  have EY := Lib.hid ey
  have HKEY : Hid (X'.data.toList = k) := by
    rcases key_cases (hkf.good _ ht) hk with ⟨_, y', e⟩ | ⟨e, _⟩
    · rw [hp] at e
      injection e with e _
      rw [ex, e]; exact Lib.hid rfl
    · rw [h1] at e; exact absurd e (by decide)
  have HMM : Hid ((F k).2.1 = true) := hm
  have q1 := field_made
  clear h hX hf hkf ht hsn hp hx hy xK yK kK ex ey h1 hk hm hsr
  go_enter Tryz.func97, Tryz.ntmps97
  go_wp2_with fail
  refine (key_sealed pb X' Y' _ c _ _ _ _ _ _ _ _ _ (HSR.out _)).mono ?_
  rintro e w2 ⟨rfl, hb2⟩
  obtain ⟨Z, hZ, eZ⟩ : ∃ Z : ByteArray, Z.data.toList = k ∧ Z = X' := ⟨X', HKEY.out, rfl⟩
  subst eZ
  have HM2 := Lib.hid ((HA.out _).1.below hb2)
  have z1 : w2.cell? ⟨w.heap.size, 1, none⟩ = some (.slice (some ⟨b, off, none⟩) 2 c) := by
    rw [hb2.cell (p := ⟨w.heap.size, 1, none⟩) (by simp), World.cell?_alloc_new]; rfl
  have z2 : w2.cell? ⟨b, off + 1, none⟩ = some (.string Y') := by
    rw [hb2.cell (p := ⟨b, off + 1, none⟩) (by simp; omega), World.cell?_alloc_past _ _ _ hb]; exact d1
  have HB2 : Hid (Below base w w2) := ((Below.refl _ _).alloc hbs _).trans (hb2.mono (by simp; omega))
  clear hb2 hrun c0 d0 d1
  have zs : Z.size ≤ 4000 := by rw [Lib.size_eq, hZ]; exact ks
  have HZK : Hid (Z.data.toList ∈ K) := by rw [hZ]; exact HKK.out
  obtain ⟨mb2, kb2, a2, c2, ys2, ia2, oa2, ic2, oc2, c0, hlt2, hbs2, _, _, _, _, _, hrun⟩ := HM2.out.1.look hlv.2 zs HZK.out
  rw [hZ, HMM.out] at hrun
  have EZ := Lib.hid hZ
  clear hZ
  dsimp only
  go_wp2_with fail
  refine (have_any lv base pb hlv.1 _ K F N Y' _ HM2.out.1 ys HYK.out hK (by omega)).mono ?_
  rintro e w3 ⟨rfl, hm3, hb3, hk3⟩
  have HM3 := Lib.hid hm3
  have HB3 := Lib.hid hb3
  have HK3 := Lib.hid hk3
  clear hm3 hb3 hk3
  dsimp only
  go_wp2
  go_end0
  refine ⟨rfl, HB2.out.trans HB3.out, ((HA.out _).2.trans HM2.out.2).trans HK3.out, _, _, HM3.out, ?_⟩
  rw [EY.out]
  exact HT.out
set_option maxHeartbeats 4000000 in
set_option maxRecDepth 1000000 in
theorem apart_sealed_false (hlv : 4 ≤ lv ∧ lv ≤ 6) (h : MindX lv base pb X K F N w) (hs : s.size ≤ 4000) (hkf : Kf K F []) (ht : s.data.toList ∈ K) (_ : Snd held F) (_ : K.length ≤ 100000000) (_ : N.length + 1 ≤ 100000000) (hf : (F s.data.toList).1 = true) {x y k : Tm} (h1 : s.data.toList.headD 0 = 115) (hp : pts s.data.toList = [x, y]) (hk : keyT s.data.toList = some k) (hm : (F k).2.1 = false) :
    Calls Tryz.prog 97 #[.pointer (some ⟨pb, 0, none⟩), .string s] w fun e w' => WkE lv base pb X K w (Ta1 held K F N s.data.toList) e w' := by
  obtain ⟨mb, kb, b, off, c, X', Y', ia, oa, ic, oc, c0, hlt, hbs, hkb, ex, ey, hyc, hsr, hb, d0, d1, hX, hrun⟩ := h.two hlv.2 hs ht hp
  have hx : x ∈ pts s.data.toList := by rw [hp]; simp
  have hy : y ∈ pts s.data.toList := by rw [hp]; simp
  have xK := (hkf.parts _ ht List.not_mem_nil x hx).1
  have yK := (hkf.parts _ ht List.not_mem_nil y hy).1
  have kK := hkf.key_in ht hk
  have ks : k.length ≤ 4000 := (right_len (hkf.good k kK)).2
  have HT : Hid (Ta1 held K F N s.data.toList F N) := ta_shut hk hm
  have xs := pt_size ex hx
  have ys := pt_size ey hy
  rw [h1] at hkb
  obtain rfl : kb = 115 := hkb
  rw [hf] at hrun
  have HA : Hid (∀ o, MindX lv base pb X K F N (w.alloc o) ∧ Kp X w (w.alloc o)) := fun o => h.below ((Below.refl _ _).alloc (Nat.le_refl _) o)
  have HSR : Hid (∀ o, SReads (w.alloc o) (some ⟨b, off, none⟩) [X', Y']) := fun o => hsr.below ((Below.refl w.heap.size w).alloc (Nat.le_refl _) o) (Nat.le_refl _)
  have HXK : Hid (X'.data.toList ∈ K) := by rw [← ex] at xK; exact xK
  have HYK : Hid (Y'.data.toList ∈ K) := by rw [← ey] at yK; exact yK
  have HKK := Lib.hid kK
  have EY := Lib.hid ey
  have HKEY : Hid (X'.data.toList = k) := by
    rcases key_cases (hkf.good _ ht) hk with ⟨_, y', e⟩ | ⟨e, _⟩
    · rw [hp] at e
      injection e with e _
      rw [ex, e]; exact Lib.hid rfl
    · rw [h1] at e; exact absurd e (by decide)
  have HMM : Hid ((F k).2.1 = false) := hm
  have q1 := field_made
  clear h hX hf hkf ht hp hx hy xK yK kK ex ey h1 hk hm hsr
  go_enter Tryz.func97, Tryz.ntmps97
  go_wp2_with fail
  refine (key_sealed pb X' Y' _ c _ _ _ _ _ _ _ _ _ (HSR.out _)).mono ?_
  rintro e w2 ⟨rfl, hb2⟩
  obtain ⟨Z, hZ, eZ⟩ : ∃ Z : ByteArray, Z.data.toList = k ∧ Z = X' := ⟨X', HKEY.out, rfl⟩
  subst eZ
  have HM2 := Lib.hid ((HA.out _).1.below hb2)
  have z1 : w2.cell? ⟨w.heap.size, 1, none⟩ = some (.slice (some ⟨b, off, none⟩) 2 c) := by
    rw [hb2.cell (p := ⟨w.heap.size, 1, none⟩) (by simp), World.cell?_alloc_new]; rfl
  have z2 : w2.cell? ⟨b, off + 1, none⟩ = some (.string Y') := by
    rw [hb2.cell (p := ⟨b, off + 1, none⟩) (by simp; omega), World.cell?_alloc_past _ _ _ hb]; exact d1
  have HB2 : Hid (Below base w w2) := ((Below.refl _ _).alloc hbs _).trans (hb2.mono (by simp; omega))
  clear hb2 hrun c0 d0 d1
  have zs : Z.size ≤ 4000 := by rw [Lib.size_eq, hZ]; exact ks
  have HZK : Hid (Z.data.toList ∈ K) := by rw [hZ]; exact HKK.out
  obtain ⟨mb2, kb2, a2, c2, ys2, ia2, oa2, ic2, oc2, c0, hlt2, hbs2, _, _, _, _, _, hrun⟩ := HM2.out.1.look hlv.2 zs HZK.out
  rw [hZ, HMM.out] at hrun
  have EZ := Lib.hid hZ
  clear hZ
  dsimp only
  go_wp2
  go_end0
  exact ⟨rfl, HB2.out, (HA.out _).2.trans HM2.out.2, _, _, HM2.out.1, HT.out⟩
set_option maxHeartbeats 4000000 in
set_option maxRecDepth 1000000 in
theorem apart_boxed_true (hlv : 4 ≤ lv ∧ lv ≤ 6) (h : MindX lv base pb X K F N w) (hs : s.size ≤ 4000) (hkf : Kf K F []) (ht : s.data.toList ∈ K) (hsn : Snd held F) (hK : K.length ≤ 100000000) (hN : N.length + 1 ≤ 100000000) (hf : (F s.data.toList).1 = true) {x y k : Tm} (h1 : s.data.toList.headD 0 = 98) (hp : pts s.data.toList = [x, y]) (hk : keyT s.data.toList = some k) (hm : (F k).2.1 = true) :
    Calls Tryz.prog 97 #[.pointer (some ⟨pb, 0, none⟩), .string s] w fun e w' => WkE lv base pb X K w (Ta1 held K F N s.data.toList) e w' := by
  obtain ⟨mb, kb, b, off, c, X', Y', ia, oa, ic, oc, c0, hlt, hbs, hkb, ex, ey, hyc, hsr, hb, d0, d1, hX, hrun⟩ := h.two hlv.2 hs ht hp
  have hx : x ∈ pts s.data.toList := by rw [hp]; simp
  have hy : y ∈ pts s.data.toList := by rw [hp]; simp
  have xK := (hkf.parts _ ht List.not_mem_nil x hx).1
  have yK := (hkf.parts _ ht List.not_mem_nil y hy).1
  have kK := hkf.key_in ht hk
  have ks : k.length ≤ 4000 := (right_len (hkf.good k kK)).2
  have HT : Hid (Ta1 held K F N s.data.toList (hvF F y) (hvN F N y)) := ta_opened hk hp (hsn.2 _ hm) yK (hsn.1 _ hf).1
  have xs := pt_size ex hx
  have ys := pt_size ey hy
  rw [h1] at hkb
  obtain rfl : kb = 98 := hkb
  rw [hf] at hrun
  have HA : Hid (∀ o, MindX lv base pb X K F N (w.alloc o) ∧ Kp X w (w.alloc o)) := fun o => h.below ((Below.refl _ _).alloc (Nat.le_refl _) o)
  have HSR : Hid (∀ o, SReads (w.alloc o) (some ⟨b, off, none⟩) [X', Y']) := fun o => hsr.below ((Below.refl w.heap.size w).alloc (Nat.le_refl _) o) (Nat.le_refl _)
  have HXK : Hid (X'.data.toList ∈ K) := by rw [← ex] at xK; exact xK
  have HYK : Hid (Y'.data.toList ∈ K) := by rw [← ey] at yK; exact yK
  have HKK := Lib.hid kK
  have EY := Lib.hid ey
  have HKEY : Hid (pts X'.data.toList = [k]) := by
    rcases key_cases (hkf.good _ ht) hk with ⟨e, _⟩ | ⟨_, u, y', e, e2, _⟩
    · rw [h1] at e; exact absurd e (by decide)
    · rw [hp] at e
      injection e with e _
      rw [ex, e]; exact e2
  have HMM : Hid ((F k).2.1 = true) := hm
  have q1 := field_made
  clear h hX hf hkf ht hsn hp hx hy xK yK kK ex ey h1 hk hm hsr
  go_enter Tryz.func97, Tryz.ntmps97
  go_wp2_with fail
  refine (key_boxed base pb K F N X' Y' k _ c _ _ _ _ _ _ _ _ _ (HA.out _).1.toE xs HXK.out HKEY.out (HSR.out _)).mono ?_
  rintro e w2 ⟨⟨Z, hZ, rfl⟩, hb2⟩
  have HM2 := Lib.hid ((HA.out _).1.below hb2)
  have z1 : w2.cell? ⟨w.heap.size, 1, none⟩ = some (.slice (some ⟨b, off, none⟩) 2 c) := by
    rw [hb2.cell (p := ⟨w.heap.size, 1, none⟩) (by simp), World.cell?_alloc_new]; rfl
  have z2 : w2.cell? ⟨b, off + 1, none⟩ = some (.string Y') := by
    rw [hb2.cell (p := ⟨b, off + 1, none⟩) (by simp; omega), World.cell?_alloc_past _ _ _ hb]; exact d1
  have HB2 : Hid (Below base w w2) := ((Below.refl _ _).alloc hbs _).trans (hb2.mono (by simp; omega))
  clear hb2 hrun c0 d0 d1
  have zs : Z.size ≤ 4000 := by rw [Lib.size_eq, hZ]; exact ks
  have HZK : Hid (Z.data.toList ∈ K) := by rw [hZ]; exact HKK.out
  obtain ⟨mb2, kb2, a2, c2, ys2, ia2, oa2, ic2, oc2, c0, hlt2, hbs2, _, _, _, _, _, hrun⟩ := HM2.out.1.look hlv.2 zs HZK.out
  rw [hZ, HMM.out] at hrun
  have EZ := Lib.hid hZ
  clear hZ
  dsimp only
  go_wp2_with fail
  refine (have_any lv base pb hlv.1 _ K F N Y' _ HM2.out.1 ys HYK.out hK (by omega)).mono ?_
  rintro e w3 ⟨rfl, hm3, hb3, hk3⟩
  have HM3 := Lib.hid hm3
  have HB3 := Lib.hid hb3
  have HK3 := Lib.hid hk3
  clear hm3 hb3 hk3
  dsimp only
  go_wp2
  go_end0
  refine ⟨rfl, HB2.out.trans HB3.out, ((HA.out _).2.trans HM2.out.2).trans HK3.out, _, _, HM3.out, ?_⟩
  rw [EY.out]
  exact HT.out
set_option maxHeartbeats 4000000 in
set_option maxRecDepth 1000000 in
theorem apart_boxed_false (hlv : 4 ≤ lv ∧ lv ≤ 6) (h : MindX lv base pb X K F N w) (hs : s.size ≤ 4000) (hkf : Kf K F []) (ht : s.data.toList ∈ K) (_ : Snd held F) (_ : K.length ≤ 100000000) (_ : N.length + 1 ≤ 100000000) (hf : (F s.data.toList).1 = true) {x y k : Tm} (h1 : s.data.toList.headD 0 = 98) (hp : pts s.data.toList = [x, y]) (hk : keyT s.data.toList = some k) (hm : (F k).2.1 = false) :
    Calls Tryz.prog 97 #[.pointer (some ⟨pb, 0, none⟩), .string s] w fun e w' => WkE lv base pb X K w (Ta1 held K F N s.data.toList) e w' := by
  obtain ⟨mb, kb, b, off, c, X', Y', ia, oa, ic, oc, c0, hlt, hbs, hkb, ex, ey, hyc, hsr, hb, d0, d1, hX, hrun⟩ := h.two hlv.2 hs ht hp
  have hx : x ∈ pts s.data.toList := by rw [hp]; simp
  have hy : y ∈ pts s.data.toList := by rw [hp]; simp
  have xK := (hkf.parts _ ht List.not_mem_nil x hx).1
  have yK := (hkf.parts _ ht List.not_mem_nil y hy).1
  have kK := hkf.key_in ht hk
  have ks : k.length ≤ 4000 := (right_len (hkf.good k kK)).2
  have HT : Hid (Ta1 held K F N s.data.toList F N) := ta_shut hk hm
  have xs := pt_size ex hx
  have ys := pt_size ey hy
  rw [h1] at hkb
  obtain rfl : kb = 98 := hkb
  rw [hf] at hrun
  have HA : Hid (∀ o, MindX lv base pb X K F N (w.alloc o) ∧ Kp X w (w.alloc o)) := fun o => h.below ((Below.refl _ _).alloc (Nat.le_refl _) o)
  have HSR : Hid (∀ o, SReads (w.alloc o) (some ⟨b, off, none⟩) [X', Y']) := fun o => hsr.below ((Below.refl w.heap.size w).alloc (Nat.le_refl _) o) (Nat.le_refl _)
  have HXK : Hid (X'.data.toList ∈ K) := by rw [← ex] at xK; exact xK
  have HYK : Hid (Y'.data.toList ∈ K) := by rw [← ey] at yK; exact yK
  have HKK := Lib.hid kK
  have EY := Lib.hid ey
  have HKEY : Hid (pts X'.data.toList = [k]) := by
    rcases key_cases (hkf.good _ ht) hk with ⟨e, _⟩ | ⟨_, u, y', e, e2, _⟩
    · rw [h1] at e; exact absurd e (by decide)
    · rw [hp] at e
      injection e with e _
      rw [ex, e]; exact e2
  have HMM : Hid ((F k).2.1 = false) := hm
  have q1 := field_made
  clear h hX hf hkf ht hp hx hy xK yK kK ex ey h1 hk hm hsr
  go_enter Tryz.func97, Tryz.ntmps97
  go_wp2_with fail
  refine (key_boxed base pb K F N X' Y' k _ c _ _ _ _ _ _ _ _ _ (HA.out _).1.toE xs HXK.out HKEY.out (HSR.out _)).mono ?_
  rintro e w2 ⟨⟨Z, hZ, rfl⟩, hb2⟩
  have HM2 := Lib.hid ((HA.out _).1.below hb2)
  have z1 : w2.cell? ⟨w.heap.size, 1, none⟩ = some (.slice (some ⟨b, off, none⟩) 2 c) := by
    rw [hb2.cell (p := ⟨w.heap.size, 1, none⟩) (by simp), World.cell?_alloc_new]; rfl
  have z2 : w2.cell? ⟨b, off + 1, none⟩ = some (.string Y') := by
    rw [hb2.cell (p := ⟨b, off + 1, none⟩) (by simp; omega), World.cell?_alloc_past _ _ _ hb]; exact d1
  have HB2 : Hid (Below base w w2) := ((Below.refl _ _).alloc hbs _).trans (hb2.mono (by simp; omega))
  clear hb2 hrun c0 d0 d1
  have zs : Z.size ≤ 4000 := by rw [Lib.size_eq, hZ]; exact ks
  have HZK : Hid (Z.data.toList ∈ K) := by rw [hZ]; exact HKK.out
  obtain ⟨mb2, kb2, a2, c2, ys2, ia2, oa2, ic2, oc2, c0, hlt2, hbs2, _, _, _, _, _, hrun⟩ := HM2.out.1.look hlv.2 zs HZK.out
  rw [hZ, HMM.out] at hrun
  have EZ := Lib.hid hZ
  clear hZ
  dsimp only
  go_wp2
  go_end0
  exact ⟨rfl, HB2.out, (HA.out _).2.trans HM2.out.2, _, _, HM2.out.1, HT.out⟩
theorem apart_any (hlv : 4 ≤ lv ∧ lv ≤ 6) (h : MindX lv base pb X K F N w) (hs : s.size ≤ 4000) (hkf : Kf K F []) (ht : s.data.toList ∈ K) (hsn : Snd held F) (hK : K.length ≤ 100000000) (hN : N.length + 1 ≤ 100000000) :
    Calls Tryz.prog 97 #[.pointer (some ⟨pb, 0, none⟩), .string s] w fun e w' => WkE lv base pb X K w (Ta1 held K F N s.data.toList) e w' := by
  cases hf : (F s.data.toList).1 with
  | false => exact apart_idle held lv base pb X K F N s w hlv h hs ht hf
  | true =>
    have hr := hkf.good _ ht
    by_cases h1 : s.data.toList.headD 0 = 112
    · obtain ⟨x, y, hp⟩ := duo_of hr (by rw [h1]; decide)
      exact apart_pair held lv base pb X K F N s w hlv h hs hkf ht hsn hK hN hf h1 hp
    by_cases h2 : s.data.toList.headD 0 = 103
    · obtain ⟨x, y, hp⟩ := duo_of hr (by rw [h2]; decide)
      exact apart_signed held lv base pb X K F N s w hlv h hs hkf ht hsn hK hN hf h2 hp
    by_cases h3 : s.data.toList.headD 0 = 115
    · obtain ⟨x, y, hp⟩ := duo_of hr (by rw [h3]; decide)
      have hk : keyT s.data.toList = some ((pts s.data.toList).headD []) := by unfold keyT; rw [if_pos h3]
      cases hm : (F ((pts s.data.toList).headD [])).2.1 with
      | true => exact apart_sealed_true held lv base pb X K F N s w hlv h hs hkf ht hsn hK hN hf h3 hp hk hm
      | false => exact apart_sealed_false held lv base pb X K F N s w hlv h hs hkf ht hsn hK hN hf h3 hp hk hm
    by_cases h4 : s.data.toList.headD 0 = 98
    · obtain ⟨x, y, hp⟩ := duo_of hr (by rw [h4]; decide)
      have hk : keyT s.data.toList = some ((pts s.data.toList).headD []).tail := by unfold keyT; rw [if_neg h3, if_pos h4]
      cases hm : (F ((pts s.data.toList).headD []).tail).2.1 with
      | true => exact apart_boxed_true held lv base pb X K F N s w hlv h hs hkf ht hsn hK hN hf h4 hp hk hm
      | false => exact apart_boxed_false held lv base pb X K F N s w hlv h hs hkf ht hsn hK hN hf h4 hp hk hm
    exact apart_leaf held lv base pb X K F N s w hlv h hs ht hf h1 h2 h3 h4
end
end Go.Proofs.YtjdignbmlfbdnaaGreat.Clo

/-
  CONTRACT of the code's putTogether (package closure). By an AI agent; no person has read it.
-/
namespace Go.Proofs.YtjdignbmlfbdnaaGreat.Clo
open Go.RowKit Wire Term

theorem bl_take (ys : List ByteArray) (k : Nat) : bl (ys.take k) = (bl ys).take k := by simp [bl, List.map_take]
theorem take_get {ys : List ByteArray} {k : Nat} {Y : ByteArray} (h : ys[k]? = some Y) : (bl ys).take (k + 1) = (bl ys).take k ++ [Y.data.toList] := by
  have h2 : (bl ys)[k]? = some Y.data.toList := by unfold bl; rw [List.getElem?_map, h]; rfl
  obtain ⟨hlt, e⟩ := List.getElem?_eq_some_iff.1 h2
  rw [List.take_succ_eq_append_getElem hlt, e]
set_option maxHeartbeats 4000000 in
set_option maxRecDepth 1000000 in
theorem puttog_any (held : List Tm) (lv base pb : Nat) (hlv : 4 ≤ lv ∧ lv ≤ 6) (X : Nat → Prop) (K : List Tm) (F : Tm → Fa) (N : List Tm) (s : ByteArray) (w : World) (h : MindX lv base pb X K F N w) (hs : s.size ≤ 4000) (hkf : Kf K F []) (ht : s.data.toList ∈ K) (hsn : Snd held F) (hn : pts s.data.toList ≠ []) (hK : K.length ≤ 100000000) (hN : N.length ≤ 100000000) :
    Calls Tryz.prog 98 #[.pointer (some ⟨pb, 0, none⟩), .string s] w fun e w' => WkE lv base pb X K w (fun F' N' => Gr held K F N F' N' ∧ O4 F' N' s.data.toList) e w' := by
  obtain ⟨mb, kb, a, c, ys, ia, oa, ic, oc, c0, hlt, hbs, _, hys, hsr, hyc, _, hrun⟩ := h.look hlv.2 hs ht
  have hyl : ys.length ≤ 2 := by rw [← bl_len, hys]; exact pts_le _
  have HH := Lib.hid h
  have HSR := Lib.hid hsr
  have HYS := Lib.hid hys
  have HKF := Lib.hid hkf
  have HT : Hid (s.data.toList ∈ K) := ht
  have HSN := Lib.hid hsn
  have HN : Hid (pts s.data.toList ≠ []) := hn
  have q1 := field_made
  have q2 := field_parts
  have hyi : (0 : Int) ≤ (ys.length : Int) := by omega
  clear h hsr hys hkf ht hsn hn
  go_enter Tryz.func98, Tryz.ntmps98
  go_wp2_with fail
  go_loopw [14] (fun i wr => ∃ k : Nat, k ≤ ys.length ∧ i = .int .i64 k ∧ wr = w ∧ Hid (∀ p ∈ (bl ys).take k, (F p).2.1 = true)) (fun i _ => ys.length - (intOf i).toNat)
  case atStart => exact ⟨0, Nat.zero_le _, rfl, rfl, fun p hp => by simp at hp⟩
  case round =>
    obtain ⟨k, hk, rfl, rfl, HA⟩ := hrel
    by_cases hlt2 : k < ys.length
    · obtain ⟨Y, hY⟩ : ∃ Y, ys[k]? = some Y := ⟨_, List.getElem?_eq_getElem hlt2⟩
      obtain ⟨b, off, rfl, hblt, hcell⟩ := reads_at HSR.out k hY
      have HYP : Hid (Y.data.toList ∈ pts s.data.toList) := by rw [← HYS.out]; exact List.mem_map.2 ⟨Y, List.mem_of_getElem? hY, rfl⟩
      have HTK := Lib.hid (take_get hY)
      have hYK := (HKF.out.parts _ HT.out List.not_mem_nil _ HYP.out).1
      have hYs := pt_size rfl HYP.out
      obtain ⟨mb2, kb2, a2, c2, ys2, ia2, oa2, ic2, oc2, c02, _, _, _, _, _, _, _, hrun2⟩ := HH.out.look hlv.2 hYs hYK
      obtain rfl : mb = mb2 := by
        rw [c0] at c02
        injection c02 with e
        injection e with e
        injection e
      clear hY hYK c02
      cases hm : (F Y.data.toList).2.1 with
      | false =>
        rw [hm] at hrun2
        have HM := Lib.hid hm
        clear hm
        go_wp2
        refine bodyPost_ret (results_none rfl _ _ _) rfl ?_
        exact ⟨rfl, Below.refl _ _, fun _ _ => rfl, _, _, HH.out, Gr.refl _ _ _ _, pt_not HYP.out HM.out⟩
      | true =>
        rw [hm] at hrun2
        have HM := Lib.hid hm
        clear hm
        go_wp2
        go_roundw
        case rel =>
          refine ⟨k + 1, by omega, by go_num, by trivial, ?_⟩
          show ∀ p ∈ (bl ys).take (k + 1), _
          rw [HTK.out]
          intro p hp
          rcases List.mem_append.1 hp with h | h
          · exact HA.out p h
          · rw [List.mem_singleton.1 h]; exact HM.out
        case measure => simp [intOf]; omega
    · obtain rfl : k = ys.length := by omega
      have hall : ∀ p ∈ pts s.data.toList, (F p).2.1 = true := by
        have := HA.out
        rw [← bl_take, List.take_length, HYS.out] at this
        exact this
      have HMADE := Lib.hid (pt_made (N := N) (HKF.out.good _ HT.out) HN.out HT.out HSN.out hall)
      clear hall HA
      go_wp2_with fail
      refine (make_any lv base pb hlv.1 X K F N s _ HH.out hs HT.out hK hN).mono ?_
      rintro e w2 ⟨rfl, hm2, hb2, hk2⟩
      have HM2 := Lib.hid hm2
      have HB2 := Lib.hid hb2
      have HK2 := Lib.hid hk2
      clear hm2 hb2 hk2
      dsimp only
      go_wp2
      go_end0
      exact ⟨rfl, HB2.out, HK2.out, _, _, HM2.out, HMADE.out⟩
end Go.Proofs.YtjdignbmlfbdnaaGreat.Clo

/-
  CONTRACTS of Parts (package term), with one limb more: the slice of parts lies in a block that is new. (Made by program out of TParts1.) By an AI agent; no person has read it.
-/
namespace Go.Proofs.YtjdignbmlfbdnaaGreat.Term
open Go.RowKit Wire

/-- A slice of these strings, in a new block, as an answer. -/
def SlN (H : Nat) (ys : List ByteArray) (e : Ending) (w' : World) : Prop := ∃ (A : Option Addr) (c : Nat), ys.length ≤ c ∧ SReads w' A ys ∧ (∀ b off, A = some ⟨b, off, none⟩ → H ≤ b) ∧ e = .returned (.slice A ys.length c)
/-- Parts' answer, its slice new. -/
def TaN (H : Nat) (x : List (List UInt8) × Int) (e : Ending) (w' : World) : Prop := ∃ (A : Option Addr) (c : Nat) (ys : List ByteArray), bl ys = x.1 ∧ ys.length ≤ c ∧ SReads w' A ys ∧ (∀ b off, A = some ⟨b, off, none⟩ → H ≤ b) ∧ e = .returned (.tuple #[.slice A ys.length c, .int .i64 x.2])
theorem taN_of {H : Nat} {ys : List ByteArray} {x : List (List UInt8) × Int} {w' : World} {A : Option Addr} {c : Nat} (hx : x = (bl ys, 0)) (hc : ys.length ≤ c) (hs : SReads w' A ys) (hf : ∀ b off, A = some ⟨b, off, none⟩ → H ≤ b) : TaN H x (.returned (.tuple #[.slice A ys.length c, .int .i64 0])) w' := by
  subst hx
  exact ⟨A, c, ys, rfl, hc, hs, hf, rfl⟩
theorem partsF_atom (n : Int) (w : World) : Calls Tryz.prog 152 #[.agg #[.int .u64 n]] w fun e w' => SlN w.heap.size [] e w' ∧ Below w.heap.size w w' := by
  go_enter Tryz.func152, Tryz.ntmps152
  go_wp2
  go_ret
  exact ⟨⟨none, 0, Nat.le_refl _, SReads.nil _ _, (fun b off e => by cases e), rfl⟩, (Below.refl _ _).alloc (Nat.le_refl _) _⟩
theorem partsF_text (n : ByteArray) (w : World) : Calls Tryz.prog 150 #[.agg #[.string n]] w fun e w' => SlN w.heap.size [] e w' ∧ Below w.heap.size w w' := by
  go_enter Tryz.func150, Tryz.ntmps150
  go_wp2
  go_ret
  exact ⟨⟨none, 0, Nat.le_refl _, SReads.nil _ _, (fun b off e => by cases e), rfl⟩, (Below.refl _ _).alloc (Nat.le_refl _) _⟩
theorem partsF_hash (P : ByteArray) (w : World) : Calls Tryz.prog 153 #[.agg #[.string P]] w fun e w' => SlN w.heap.size [P] e w' ∧ Below w.heap.size w w' := by
  go_enter Tryz.func153, Tryz.ntmps153
  go_wp2
  go_ret
  exact ⟨⟨_, 1, Nat.le_refl _, one_reads _ P _ (by simp), (fun b off e => by injection e with e; injection e with e1 _ _; rw [← e1]; simp), rfl⟩, below2 (Below.refl _ _) _ _⟩
theorem partsF_publicOne (P : ByteArray) (w : World) : Calls Tryz.prog 147 #[.agg #[.string P]] w fun e w' => SlN w.heap.size [P] e w' ∧ Below w.heap.size w w' := by
  go_enter Tryz.func147, Tryz.ntmps147
  go_wp2
  go_ret
  exact ⟨⟨_, 1, Nat.le_refl _, one_reads _ P _ (by simp), (fun b off e => by injection e with e; injection e with e1 _ _; rw [← e1]; simp), rfl⟩, below2 (Below.refl _ _) _ _⟩
theorem partsF_pair (P Q : ByteArray) (w : World) : Calls Tryz.prog 154 #[.agg #[.string P, .string Q]] w fun e w' => SlN w.heap.size [P, Q] e w' ∧ Below w.heap.size w w' := by
  go_enter Tryz.func154, Tryz.ntmps154
  go_wp2
  go_ret
  exact ⟨⟨_, 2, Nat.le_refl _, pair_reads' _ P Q _ (by simp), (fun b off e => by injection e with e; injection e with e1 _ _; rw [← e1]; simp), rfl⟩, below2 (Below.refl _ _) _ _⟩
theorem partsF_sealed (P Q : ByteArray) (w : World) : Calls Tryz.prog 149 #[.agg #[.string P, .string Q]] w fun e w' => SlN w.heap.size [P, Q] e w' ∧ Below w.heap.size w w' := by
  go_enter Tryz.func149, Tryz.ntmps149
  go_wp2
  go_ret
  exact ⟨⟨_, 2, Nat.le_refl _, pair_reads' _ P Q _ (by simp), (fun b off e => by injection e with e; injection e with e1 _ _; rw [← e1]; simp), rfl⟩, below2 (Below.refl _ _) _ _⟩
theorem partsF_boxed (P Q : ByteArray) (w : World) : Calls Tryz.prog 155 #[.agg #[.string P, .string Q]] w fun e w' => SlN w.heap.size [P, Q] e w' ∧ Below w.heap.size w w' := by
  go_enter Tryz.func155, Tryz.ntmps155
  go_wp2
  go_ret
  exact ⟨⟨_, 2, Nat.le_refl _, pair_reads' _ P Q _ (by simp), (fun b off e => by injection e with e; injection e with e1 _ _; rw [← e1]; simp), rfl⟩, below2 (Below.refl _ _) _ _⟩
theorem partsF_signed (P Q : ByteArray) (w : World) : Calls Tryz.prog 148 #[.agg #[.string P, .string Q]] w fun e w' => SlN w.heap.size [P, Q] e w' ∧ Below w.heap.size w w' := by
  go_enter Tryz.func148, Tryz.ntmps148
  go_wp2
  go_ret
  exact ⟨⟨_, 2, Nat.le_refl _, pair_reads' _ P Q _ (by simp), (fun b off e => by injection e with e; injection e with e1 _ _; rw [← e1]; simp), rfl⟩, below2 (Below.refl _ _) _ _⟩
set_option maxHeartbeats 2000000 in
set_option maxRecDepth 1000000 in
theorem partsOfF_atom (a : ByteArray) (w : World) (hr : right a.data.toList = true) (hx : a.data.toList.headD 0 = 97) :
    Calls Tryz.prog 85 #[.string a] w fun e w' => TaN w.heap.size (parts a.data.toList) e w' ∧ Below w.heap.size w w' := by
  have q0 := nil_no
  have q1 := nil_yes
  have HR := Lib.hid hr
  have HX := Lib.hid hx
  clear hr hx
  go_enter Tryz.func85, Tryz.ntmps85
  go_wp2_with (go_at_call 82; refine (whole_any a _).mono ?_; rintro e w1 ⟨ht, hb1⟩; obtain ⟨T, v, hsh, rfl⟩ := ht.pos HR.out; obtain ⟨rfl, n, rfl, _, hl⟩ := hsh.of_atom HX.out; have HL := Lib.hid hl; clear hl; have HB1 := Lib.hid hb1; clear hb1 ht hsh; dsimp only)
  rw [method_atom _ _ _ _ (by kernel_rfl)]
  go_wp2_with fail
  refine (partsF_atom n _).mono ?_
  rintro e w2 ⟨⟨A, c, hc, hs, hf, rfl⟩, hb2⟩
  have HB2 := Lib.hid (HB1.out.trans (hb2.mono HB1.out.size))
  have HS := Lib.hid hs
  have HC := Lib.hid hc
  have HF : Hid (∀ b off, A = some ⟨b, off, none⟩ → w.heap.size ≤ b) := fun b off e => Nat.le_trans HB1.out.size (hf b off e)
  clear hb2 hs hc hf
  dsimp only
  go_wp2
  go_ret2
  exact ⟨taN_of (ys := []) (parts_leaf HR.out (.inl HX.out)) HC.out HS.out HF.out, HB2.out⟩
set_option maxHeartbeats 2000000 in
set_option maxRecDepth 1000000 in
theorem partsOfF_text (a : ByteArray) (w : World) (hr : right a.data.toList = true) (hx : a.data.toList.headD 0 = 116) :
    Calls Tryz.prog 85 #[.string a] w fun e w' => TaN w.heap.size (parts a.data.toList) e w' ∧ Below w.heap.size w w' := by
  have q0 := nil_no
  have q1 := nil_yes
  have HR := Lib.hid hr
  have HX := Lib.hid hx
  clear hr hx
  go_enter Tryz.func85, Tryz.ntmps85
  go_wp2_with (go_at_call 82; refine (whole_any a _).mono ?_; rintro e w1 ⟨ht, hb1⟩; obtain ⟨T, v, hsh, rfl⟩ := ht.pos HR.out; obtain ⟨rfl, n, rfl, _, hl⟩ := hsh.of_text HX.out; have HL := Lib.hid hl; clear hl; have HB1 := Lib.hid hb1; clear hb1 ht hsh; dsimp only)
  rw [method_text _ _ _ _ (by kernel_rfl)]
  go_wp2_with fail
  refine (partsF_text n _).mono ?_
  rintro e w2 ⟨⟨A, c, hc, hs, hf, rfl⟩, hb2⟩
  have HB2 := Lib.hid (HB1.out.trans (hb2.mono HB1.out.size))
  have HS := Lib.hid hs
  have HC := Lib.hid hc
  have HF : Hid (∀ b off, A = some ⟨b, off, none⟩ → w.heap.size ≤ b) := fun b off e => Nat.le_trans HB1.out.size (hf b off e)
  clear hb2 hs hc hf
  dsimp only
  go_wp2
  go_ret2
  exact ⟨taN_of (ys := []) (parts_leaf HR.out (.inr HX.out)) HC.out HS.out HF.out, HB2.out⟩
set_option maxHeartbeats 2000000 in
set_option maxRecDepth 1000000 in
theorem partsOfF_hash (a : ByteArray) (w : World) (hr : right a.data.toList = true) (hx : a.data.toList.headD 0 = 104) :
    Calls Tryz.prog 85 #[.string a] w fun e w' => TaN w.heap.size (parts a.data.toList) e w' ∧ Below w.heap.size w w' := by
  have q0 := nil_no
  have q1 := nil_yes
  have HR := Lib.hid hr
  have HX := Lib.hid hx
  clear hr hx
  go_enter Tryz.func85, Tryz.ntmps85
  go_wp2_with (go_at_call 82; refine (whole_any a _).mono ?_; rintro e w1 ⟨ht, hb1⟩; obtain ⟨T, v, hsh, rfl⟩ := ht.pos HR.out; obtain ⟨rfl, X, rfl, hX, hl⟩ := hsh.of_hash HX.out; have HL := Lib.hid hl; have HXX := Lib.hid hX; clear hl hX; have HB1 := Lib.hid hb1; clear hb1 ht hsh; dsimp only)
  rw [method_hash _ _ _ _ (by kernel_rfl)]
  go_wp2_with fail
  refine (partsF_hash X _).mono ?_
  rintro e w2 ⟨⟨A, c, hc, hs, hf, rfl⟩, hb2⟩
  have HB2 := Lib.hid (HB1.out.trans (hb2.mono HB1.out.size))
  have HS := Lib.hid hs
  have HC := Lib.hid hc
  have HF : Hid (∀ b off, A = some ⟨b, off, none⟩ → w.heap.size ≤ b) := fun b off e => Nat.le_trans HB1.out.size (hf b off e)
  clear hb2 hs hc hf
  dsimp only
  go_wp2
  go_ret2
  exact ⟨taN_of (ys := [X]) (by rw [HL.out]; exact parts_un (by rw [← HL.out]; exact HR.out) rfl HXX.out) HC.out HS.out HF.out, HB2.out⟩
set_option maxHeartbeats 2000000 in
set_option maxRecDepth 1000000 in
theorem partsOfF_publicOne (a : ByteArray) (w : World) (hr : right a.data.toList = true) (hx : a.data.toList.headD 0 = 117) :
    Calls Tryz.prog 85 #[.string a] w fun e w' => TaN w.heap.size (parts a.data.toList) e w' ∧ Below w.heap.size w w' := by
  have q0 := nil_no
  have q1 := nil_yes
  have HR := Lib.hid hr
  have HX := Lib.hid hx
  clear hr hx
  go_enter Tryz.func85, Tryz.ntmps85
  go_wp2_with (go_at_call 82; refine (whole_any a _).mono ?_; rintro e w1 ⟨ht, hb1⟩; obtain ⟨T, v, hsh, rfl⟩ := ht.pos HR.out; obtain ⟨rfl, X, rfl, hX, hl⟩ := hsh.of_publicOne HX.out; have HL := Lib.hid hl; have HXX := Lib.hid hX; clear hl hX; have HB1 := Lib.hid hb1; clear hb1 ht hsh; dsimp only)
  rw [method_publicOne _ _ _ _ (by kernel_rfl)]
  go_wp2_with fail
  refine (partsF_publicOne X _).mono ?_
  rintro e w2 ⟨⟨A, c, hc, hs, hf, rfl⟩, hb2⟩
  have HB2 := Lib.hid (HB1.out.trans (hb2.mono HB1.out.size))
  have HS := Lib.hid hs
  have HC := Lib.hid hc
  have HF : Hid (∀ b off, A = some ⟨b, off, none⟩ → w.heap.size ≤ b) := fun b off e => Nat.le_trans HB1.out.size (hf b off e)
  clear hb2 hs hc hf
  dsimp only
  go_wp2
  go_ret2
  exact ⟨taN_of (ys := [X]) (by rw [HL.out]; exact parts_un (by rw [← HL.out]; exact HR.out) rfl HXX.out) HC.out HS.out HF.out, HB2.out⟩
set_option maxHeartbeats 2000000 in
set_option maxRecDepth 1000000 in
theorem partsOfF_pair (a : ByteArray) (w : World) (hr : right a.data.toList = true) (hx : a.data.toList.headD 0 = 112) :
    Calls Tryz.prog 85 #[.string a] w fun e w' => TaN w.heap.size (parts a.data.toList) e w' ∧ Below w.heap.size w w' := by
  have q0 := nil_no
  have q1 := nil_yes
  have HR := Lib.hid hr
  have HX := Lib.hid hx
  clear hr hx
  go_enter Tryz.func85, Tryz.ntmps85
  go_wp2_with (go_at_call 82; refine (whole_any a _).mono ?_; rintro e w1 ⟨ht, hb1⟩; obtain ⟨T, v, hsh, rfl⟩ := ht.pos HR.out; obtain ⟨rfl, X, Y, rfl, hX, hY, hl⟩ := hsh.of_pair HX.out; have HL := Lib.hid hl; have HXX := Lib.hid hX; have HYY := Lib.hid hY; clear hl hX hY; have HB1 := Lib.hid hb1; clear hb1 ht hsh; dsimp only)
  rw [method_pair _ _ _ _ (by kernel_rfl)]
  go_wp2_with fail
  refine (partsF_pair X Y _).mono ?_
  rintro e w2 ⟨⟨A, c, hc, hs, hf, rfl⟩, hb2⟩
  have HB2 := Lib.hid (HB1.out.trans (hb2.mono HB1.out.size))
  have HS := Lib.hid hs
  have HC := Lib.hid hc
  have HF : Hid (∀ b off, A = some ⟨b, off, none⟩ → w.heap.size ≤ b) := fun b off e => Nat.le_trans HB1.out.size (hf b off e)
  clear hb2 hs hc hf
  dsimp only
  go_wp2
  go_ret2
  exact ⟨taN_of (ys := [X, Y]) (by rw [HL.out]; exact parts_bi (by rw [← HL.out]; exact HR.out) rfl HXX.out HYY.out) HC.out HS.out HF.out, HB2.out⟩
set_option maxHeartbeats 2000000 in
set_option maxRecDepth 1000000 in
theorem partsOfF_sealed (a : ByteArray) (w : World) (hr : right a.data.toList = true) (hx : a.data.toList.headD 0 = 115) :
    Calls Tryz.prog 85 #[.string a] w fun e w' => TaN w.heap.size (parts a.data.toList) e w' ∧ Below w.heap.size w w' := by
  have q0 := nil_no
  have q1 := nil_yes
  have HR := Lib.hid hr
  have HX := Lib.hid hx
  clear hr hx
  go_enter Tryz.func85, Tryz.ntmps85
  go_wp2_with (go_at_call 82; refine (whole_any a _).mono ?_; rintro e w1 ⟨ht, hb1⟩; obtain ⟨T, v, hsh, rfl⟩ := ht.pos HR.out; obtain ⟨rfl, X, Y, rfl, hX, hY, hl⟩ := hsh.of_sealed HX.out; have HL := Lib.hid hl; have HXX := Lib.hid hX; have HYY := Lib.hid hY; clear hl hX hY; have HB1 := Lib.hid hb1; clear hb1 ht hsh; dsimp only)
  rw [method_sealed _ _ _ _ (by kernel_rfl)]
  go_wp2_with fail
  refine (partsF_sealed X Y _).mono ?_
  rintro e w2 ⟨⟨A, c, hc, hs, hf, rfl⟩, hb2⟩
  have HB2 := Lib.hid (HB1.out.trans (hb2.mono HB1.out.size))
  have HS := Lib.hid hs
  have HC := Lib.hid hc
  have HF : Hid (∀ b off, A = some ⟨b, off, none⟩ → w.heap.size ≤ b) := fun b off e => Nat.le_trans HB1.out.size (hf b off e)
  clear hb2 hs hc hf
  dsimp only
  go_wp2
  go_ret2
  exact ⟨taN_of (ys := [X, Y]) (by rw [HL.out]; exact parts_bi (by rw [← HL.out]; exact HR.out) rfl HXX.out HYY.out) HC.out HS.out HF.out, HB2.out⟩
set_option maxHeartbeats 2000000 in
set_option maxRecDepth 1000000 in
theorem partsOfF_boxed (a : ByteArray) (w : World) (hr : right a.data.toList = true) (hx : a.data.toList.headD 0 = 98) :
    Calls Tryz.prog 85 #[.string a] w fun e w' => TaN w.heap.size (parts a.data.toList) e w' ∧ Below w.heap.size w w' := by
  have q0 := nil_no
  have q1 := nil_yes
  have HR := Lib.hid hr
  have HX := Lib.hid hx
  clear hr hx
  go_enter Tryz.func85, Tryz.ntmps85
  go_wp2_with (go_at_call 82; refine (whole_any a _).mono ?_; rintro e w1 ⟨ht, hb1⟩; obtain ⟨T, v, hsh, rfl⟩ := ht.pos HR.out; obtain ⟨rfl, X, Y, rfl, hX, hY, hl⟩ := hsh.of_boxed HX.out; have HL := Lib.hid hl; have HXX := Lib.hid hX; have HYY := Lib.hid hY; clear hl hX hY; have HB1 := Lib.hid hb1; clear hb1 ht hsh; dsimp only)
  rw [method_boxed _ _ _ _ (by kernel_rfl)]
  go_wp2_with fail
  refine (partsF_boxed X Y _).mono ?_
  rintro e w2 ⟨⟨A, c, hc, hs, hf, rfl⟩, hb2⟩
  have HB2 := Lib.hid (HB1.out.trans (hb2.mono HB1.out.size))
  have HS := Lib.hid hs
  have HC := Lib.hid hc
  have HF : Hid (∀ b off, A = some ⟨b, off, none⟩ → w.heap.size ≤ b) := fun b off e => Nat.le_trans HB1.out.size (hf b off e)
  clear hb2 hs hc hf
  dsimp only
  go_wp2
  go_ret2
  exact ⟨taN_of (ys := [X, Y]) (by rw [HL.out]; exact parts_bi (by rw [← HL.out]; exact HR.out) rfl HXX.out HYY.out) HC.out HS.out HF.out, HB2.out⟩
set_option maxHeartbeats 2000000 in
set_option maxRecDepth 1000000 in
theorem partsOfF_signed (a : ByteArray) (w : World) (hr : right a.data.toList = true) (hx : a.data.toList.headD 0 = 103) :
    Calls Tryz.prog 85 #[.string a] w fun e w' => TaN w.heap.size (parts a.data.toList) e w' ∧ Below w.heap.size w w' := by
  have q0 := nil_no
  have q1 := nil_yes
  have HR := Lib.hid hr
  have HX := Lib.hid hx
  clear hr hx
  go_enter Tryz.func85, Tryz.ntmps85
  go_wp2_with (go_at_call 82; refine (whole_any a _).mono ?_; rintro e w1 ⟨ht, hb1⟩; obtain ⟨T, v, hsh, rfl⟩ := ht.pos HR.out; obtain ⟨rfl, X, Y, rfl, hX, hY, hl⟩ := hsh.of_signed HX.out; have HL := Lib.hid hl; have HXX := Lib.hid hX; have HYY := Lib.hid hY; clear hl hX hY; have HB1 := Lib.hid hb1; clear hb1 ht hsh; dsimp only)
  rw [method_signed _ _ _ _ (by kernel_rfl)]
  go_wp2_with fail
  refine (partsF_signed X Y _).mono ?_
  rintro e w2 ⟨⟨A, c, hc, hs, hf, rfl⟩, hb2⟩
  have HB2 := Lib.hid (HB1.out.trans (hb2.mono HB1.out.size))
  have HS := Lib.hid hs
  have HC := Lib.hid hc
  have HF : Hid (∀ b off, A = some ⟨b, off, none⟩ → w.heap.size ≤ b) := fun b off e => Nat.le_trans HB1.out.size (hf b off e)
  clear hb2 hs hc hf
  dsimp only
  go_wp2
  go_ret2
  exact ⟨taN_of (ys := [X, Y]) (by rw [HL.out]; exact parts_bi (by rw [← HL.out]; exact HR.out) rfl HXX.out HYY.out) HC.out HS.out HF.out, HB2.out⟩
theorem t_PartsF (a : ByteArray) (w : World) (hr : right a.data.toList = true) :
    Calls Tryz.prog 85 #[.string a] w fun e w' => TaN w.heap.size (parts a.data.toList) e w' ∧ Below w.heap.size w w' := by
  rcases heads hr with h | h | h | h | h | h | h | h
  · exact partsOfF_atom a w hr h
  · exact partsOfF_text a w hr h
  · exact partsOfF_hash a w hr h
  · exact partsOfF_publicOne a w hr h
  · exact partsOfF_pair a w hr h
  · exact partsOfF_sealed a w hr h
  · exact partsOfF_boxed a w hr h
  · exact partsOfF_signed a w hr h
end Go.Proofs.YtjdignbmlfbdnaaGreat.Term

/-
  No sort is reached. By an AI agent; no person has read it.
-/


/-
  CONTRACT of the code's had (package closure): all that is marked, sorted. By an AI agent; no person has read it.
-/
namespace Go.Proofs.YtjdignbmlfbdnaaGreat.Clo
open Go.RowKit Go.Sort Wire Term

theorem sv_enc (ss : List ByteArray) : (bl ss).map encStr = sv ss := by
  simp only [bl, sv, List.map_map]
  refine List.map_congr_left fun y _ => ?_
  simp [encStr]
def unb (l : List Tm) : List ByteArray := l.map fun x => ⟨x.toArray⟩
theorem bl_unb (l : List Tm) : bl (unb l) = l := by
  unfold bl unb
  rw [List.map_map]
  have : ((fun y : ByteArray => y.data.toList) ∘ fun x : Tm => (⟨x.toArray⟩ : ByteArray)) = id := by funext x; simp
  rw [this, List.map_id]
theorem sv_unb (l : List Tm) : l.map encStr = sv (unb l) := by rw [← sv_enc, bl_unb]
/-- What the library's sort leaves of a row in which no bytes stand twice. -/
theorem rising_sort {l : List Tm} (h : l.Nodup) : Rising (l.mergeSort fun x y => decide (x ≤ y)) ∧ ∀ x, x ∈ (l.mergeSort fun x y => decide (x ≤ y)) ↔ x ∈ l := by
  have hp := List.mergeSort_perm l (fun x y => decide (x ≤ y))
  refine ⟨?_, fun x => hp.mem_iff⟩
  have hs := List.pairwise_mergeSort (le := fun x y : Tm => decide (x ≤ y)) (fun a b c h1 h2 => by simp only [decide_eq_true_eq] at *; exact List.le_trans h1 h2) (fun a b => by simp only [Bool.or_eq_true, decide_eq_true_eq]; exact List.le_total a b) l
  have hn : (l.mergeSort fun x y => decide (x ≤ y)).Pairwise (fun a b => a ≠ b) := (hp.nodup_iff).2 h
  refine List.Pairwise.imp₂ (fun {a b} h1 h2 => ?_) hs hn
  rw [bytesLess_eq]
  simp only [decide_eq_true_eq] at h1 ⊢
  exact Classical.byContradiction fun hn => h2 (List.le_antisymm h1 (List.not_lt.1 hn))
/-- What has been collected. -/
def Coll (K : List Tm) (F : Tm → Fa) (left : Lit → Bool) (ss : List ByteArray) : Prop := (bl ss).Nodup ∧ ∀ x, x ∈ bl ss ↔ (x ∈ K ∧ (F x).1 = true ∧ left (.string x) = false)
theorem coll_no {K : List Tm} {F : Tm → Fa} {left : Lit → Bool} {ss : List ByteArray} {t : Tm} (h : Coll K F left ss) (hf : (F t).1 = false) : Coll K F (fun z => left z && !z.sameKey (.string t)) ss := by
  refine ⟨h.1, fun x => ?_⟩
  rw [h.2 x]
  by_cases e : x = t
  · rw [e, hf]; simp
  · simp [Lit.sameKey, e]
theorem coll_yes {K : List Tm} {F : Tm → Fa} {left : Lit → Bool} {ss : List ByteArray} {s : ByteArray} (h : Coll K F left ss) (hK : s.data.toList ∈ K) (hf : (F s.data.toList).1 = true) (hl : left (.string s.data.toList) = true) : Coll K F (fun z => left z && !z.sameKey (.string s.data.toList)) (ss ++ [s]) := by
  have hnew : s.data.toList ∉ bl ss := fun e => by
    have := ((h.2 _).1 e).2.2
    rw [hl] at this; cases this
  refine ⟨?_, fun x => ?_⟩
  · rw [bl_app']
    refine List.nodup_append.2 ⟨h.1, by simp, fun a ha b hb => ?_⟩
    rw [List.mem_singleton.1 hb]
    exact fun e => hnew (e ▸ ha)
  · rw [bl_app', List.mem_append, List.mem_singleton, h.2 x]
    by_cases e : x = s.data.toList
    · rw [e]; simp [hK, hf, Lit.sameKey]
    · simp [Lit.sameKey, e]
/-- A fact's value, whatever it is of. -/
theorem Mind.value {base pb mb : Nat} {own : Nat → Tag} {nv : Value} {K : List Tm} {F : Tm → Fa} {N : List Tm} {V : Tm → Value} {w : World} (h : Mind base pb mb own nv K F N V w) : ∀ t ∈ K, ∃ (kb : Int) (b2 : Bool) (a ia oa : Option Addr) (n c il ic ol oc : Nat), V t = .agg #[.int .u8 kb, .slice a n c, .bool (F t).1, .bool b2, .slice ia il ic, .slice oa ol oc] := fun t ht => by
  obtain ⟨pv, iv, ov, hv, hp, hi, ho⟩ := h.rows t ht
  obtain ⟨a, c, rfl⟩ := hp.form
  obtain ⟨ia, ic, rfl⟩ := hi.form
  obtain ⟨oa, oc, rfl⟩ := ho.form
  exact ⟨_, _, _, _, _, _, _, _, _, _, _, hv⟩
/-- A rising list, as an answer. -/
def LiE (F : Tm → Fa) (e : Ending) (w' : World) : Prop := ∃ (A : Option Addr) (c : Nat) (ys : List ByteArray), e = .returned (.slice A ys.length c) ∧ ys.length ≤ c ∧ ys.length ≤ 100000000 ∧ SReads w' A ys ∧ Rising (bl ys) ∧ ∀ x, x ∈ bl ys ↔ (F x).1 = true
end Go.Proofs.YtjdignbmlfbdnaaGreat.Clo

/-
  CONTRACT of the code's learn (package closure). By an AI agent; no person has read it.
-/
namespace Go.Proofs.YtjdignbmlfbdnaaGreat.Clo
open Go.RowKit Wire Term

/-- A term is learnt: what is known then. -/
structure Lrn (held K : List Tm) (F : Tm → Fa) (A : List Tm) (B : Nat) (t : Tm) (K' : List Tm) (F' : Tm → Fa) (N' : List Tm) : Prop where
  ln : Ln held K' F' N' A
  bd : Bd B K' F' N'
  here : t ∈ K'
  more : ∀ x ∈ K, x ∈ K'
  same : ∀ x, (F' x).1 = (F x).1
  ins : ∀ p, ∀ x ∈ (F p).2.2.1, x ∈ (F' p).2.2.1
def LnE (held : List Tm) (base pb : Nat) (X : Nat → Prop) (K : List Tm) (F : Tm → Fa) (A : List Tm) (B : Nat) (t : Tm) (w : World) (e : Ending) (w' : World) : Prop :=
  e = .returned (.tuple #[]) ∧ Below base w w' ∧ Kp X w w' ∧ ∃ K' F' N', MindX 6 base pb X K' F' N' w' ∧ Lrn held K F A B t K' F' N'
/-- The parts of t, learnt up to j. -/
structure Lp (held K : List Tm) (F : Tm → Fa) (A : List Tm) (B : Nat) (t : Tm) (j : Nat) (K' : List Tm) (F' : Tm → Fa) (N' : List Tm) : Prop where
  ln : Ln held K' F' N' (t :: A)
  bd : Bd (B + 1 + cost ((pts t).take j)) K' F' N'
  here : t ∈ K'
  more : ∀ x ∈ K, x ∈ K'
  same : ∀ x, (F' x).1 = (F x).1
  ins : ∀ p, ∀ x ∈ (F p).2.2.1, x ∈ (F' p).2.2.1
  done : ∀ p ∈ (pts t).take j, p ∈ K' ∧ t ∈ (F' p).2.2.1
section
variable {held K : List Tm} {F : Tm → Fa} {A : List Tm} {B : Nat} {t : Tm} {j : Nat} {K1 : List Tm} {F1 : Tm → Fa} {N1 : List Tm}
theorem lp_start {N : List Tm} (h : Ln held K F N A) (hB : Bd B K F N) (ht : t ∉ K) (hr : right t = true) : Lp held K F A B t 0 (K ++ [t]) F N where
  ln := ln_add h ht hr
  bd := (bd_add hB t).mono (by simp [cost])
  here := by simp
  more x hx := List.mem_append_left _ hx
  same _ := rfl
  ins _ _ hx := hx
  done p hp := by simp at hp
theorem lp_step {K6 : List Tm} {F6 : Tm → Fa} {N6 : List Tm} {p : Tm} (h : Lp held K F A B t j K1 F1 N1) (r : Lrn held K1 F1 (t :: A) (B + 1 + cost ((pts t).take j) + 4 * p.length) p K6 F6 N6) (hp : p ∈ pts t) (hj : (pts t).take (j + 1) = (pts t).take j ++ [p]) : Lp held K F A B t (j + 1) K6 (inF F6 p t) N6 := by
  have hl := ln_in r.ln r.here (r.more t h.here) hp
  refine ⟨hl.1, (bd_in r.bd p t).mono (by rw [hj, cost_app]; omega), r.more t h.here, fun x hx => r.more x (h.more x hx), fun x => by rw [(inF_flags F6 p t x).1, r.same x, h.same x], fun q x hx => (inF_flags F6 p t q).2.2.2.1 x (r.ins q x (h.ins q x hx)), fun q hq => ?_⟩
  rw [hj] at hq
  rcases List.mem_append.1 hq with hq | hq
  · exact ⟨r.more q (h.done q hq).1, (inF_flags F6 p t q).2.2.2.1 t (r.ins q t (h.done q hq).2)⟩
  · rw [List.mem_singleton.1 hq]; exact ⟨r.here, hl.2⟩
theorem lrn_key {k : Tm} (h : Lp held K F A B t (pts t).length K1 F1 N1) (hr : right t = true) (hk : keyT t = some k) (hkK : k ∈ K1) : Lrn held K F A (B + 4 * t.length) t K1 (opF F1 k t) N1 := by
  have hl := ln_op h.ln hkK h.here
  have hd := h.done
  have hb := h.bd
  rw [List.take_length] at hd hb
  have hc := cost_le hr
  refine ⟨ln_done hl.1 (fun p hp => ⟨(hd p hp).1, by rw [(opF_flags F1 k t p).2.2.1]; exact (hd p hp).2⟩) (fun k' hk' => ?_) (fun h116 => ?_), (bd_op hb k t).mono (by omega), h.here, h.more, fun x => by rw [(opF_flags F1 k t x).1, h.same x], fun q x hx => by rw [(opF_flags F1 k t q).2.2.1]; exact h.ins q x hx⟩
  · rw [hk] at hk'
    rw [← Option.some.inj hk']; exact hl.2
  · rcases key_kind hk with h1 | h1 <;> (rw [h116] at h1; exact absurd h1 (by decide))
theorem lrn_text (h : Lp held K F A B t (pts t).length K1 F1 N1) (hr : right t = true) (h116 : t.headD 0 = 116) : Lrn held K F A (B + 4 * t.length) t K1 (mkF F1 t) (mkN F1 N1 t) := by
  have g := gr_mk (held := held) (F := F1) N1 h.here (tog_iff.2 (.inr (.inl h116)))
  have hl := ln_gr h.ln g.1
  have hd := h.done
  have hb := h.bd
  rw [List.take_length] at hd hb
  have hc := cost_le hr
  refine ⟨ln_done hl (fun p hp => ⟨(hd p hp).1, by rw [g.1.rest p]; exact (hd p hp).2⟩) (fun k' hk' => ?_) (fun _ => g.2), (bd_gr hb g.1 (mkN_len F1 N1 t)).mono (by omega), h.here, h.more, fun x => by rw [mkF_had, h.same x], fun q x hx => by rw [g.1.rest q]; exact h.ins q x hx⟩
  rcases key_kind hk' with h1 | h1 <;> (rw [h116] at h1; exact absurd h1 (by decide))
theorem lrn_else (h : Lp held K F A B t (pts t).length K1 F1 N1) (hr : right t = true) (h116 : t.headD 0 ≠ 116) (h115 : t.headD 0 ≠ 115) (h98 : t.headD 0 ≠ 98) : Lrn held K F A (B + 4 * t.length) t K1 F1 N1 := by
  have hd := h.done
  have hb := h.bd
  rw [List.take_length] at hd hb
  have hc := cost_le hr
  refine ⟨ln_done h.ln hd (fun k' hk' => ?_) (fun h => absurd h h116), hb.mono (by omega), h.here, h.more, h.same, h.ins⟩
  rw [key_none h115 h98] at hk'; cases hk'
end
theorem parts_ok {t : Tm} (h : right t = true) : parts t = (pts t, 0) := by
  unfold pts
  have : (parts t).2 = 0 := by unfold parts; rw [if_pos h]
  rw [← this]
theorem kind_ok {t : Tm} (h : right t = true) : kind t = (t.headD 0).toNat := by unfold kind; rw [if_pos h]
set_option maxHeartbeats 2000000 in
set_option maxRecDepth 1000000 in
/-- A term that is known. -/
theorem learn_known (held : List Tm) (base pb : Nat) (s : ByteArray) (X : Nat → Prop) (K : List Tm) (F : Tm → Fa) (N A : List Tm) (B : Nat) (w : World) (hr : right s.data.toList = true) (h : MindX 6 base pb X K F N w) (hl : Ln held K F N A) (hB : Bd B K F N) (ht : s.data.toList ∈ K) :
    Calls Tryz.prog 65 #[.pointer (some ⟨pb, 0, none⟩), .string s] w fun e w' => LnE held base pb X K F A (B + 4 * s.data.toList.length) s.data.toList w e w' := by
  have hs : s.size ≤ 4000 := by rw [Lib.size_eq]; exact (right_len hr).2
  have HA : Hid (∀ o, MindX 6 base pb X K F N (w.alloc o) ∧ Kp X w (w.alloc o)) := fun o => h.below ((Below.refl _ _).alloc (Nat.le_refl _) o)
  obtain ⟨mb, own, nv, V, hm, hx⟩ := h
  have c0 := hm.cell0
  have hlt := hm.pb_lt
  have hbs := hm.size
  obtain ⟨kb, b2, a, ia, oa, n, c, il, ic, ol, oc, hV⟩ := hm.value _ ht
  have hrun := hm.map.look_in hs ht
  rw [hV] at hrun
  have HL : Hid (Lrn held K F A (B + 4 * s.data.toList.length) s.data.toList K F N) := ⟨hl, hB.mono (by omega), ht, fun _ h => h, fun _ => rfl, fun _ _ h => h⟩
  clear hm hx hV hl hB ht hr
  go_enter Tryz.func65, Tryz.ntmps65
  go_wp2
  refine bodyPost_ret (results_none rfl _ _ _) rfl ?_
  exact ⟨rfl, (Below.refl _ _).alloc hbs _, (HA.out _).2, _, _, _, (HA.out _).1, HL.out⟩
set_option maxHeartbeats 16000000 in
set_option maxRecDepth 1000000 in
theorem learn_new (held : List Tm) (base pb : Nat) (n : Nat)
    (IH : ∀ (s : ByteArray), s.data.toList.length < n → right s.data.toList = true → ∀ (X : Nat → Prop) (K : List Tm) (F : Tm → Fa) (N A : List Tm) (B : Nat) (w : World), MindX 6 base pb X K F N w → Ln held K F N A → (∀ a ∈ A, s.data.toList.length < a.length) → Bd B K F N → B + 4 * s.data.toList.length ≤ 90000000 →
      Calls Tryz.prog 65 #[.pointer (some ⟨pb, 0, none⟩), .string s] w fun e w' => LnE held base pb X K F A (B + 4 * s.data.toList.length) s.data.toList w e w')
    (s : ByteArray) (hn : s.data.toList.length < n + 1) (hr : right s.data.toList = true) (X : Nat → Prop) (K : List Tm) (F : Tm → Fa) (N A : List Tm) (B : Nat) (w : World) (h : MindX 6 base pb X K F N w) (hl : Ln held K F N A) (hA : ∀ a ∈ A, s.data.toList.length < a.length) (hB : Bd B K F N) (hBm : B + 4 * s.data.toList.length ≤ 90000000) (ht : s.data.toList ∉ K) :
    Calls Tryz.prog 65 #[.pointer (some ⟨pb, 0, none⟩), .string s] w fun e w' => LnE held base pb X K F A (B + 4 * s.data.toList.length) s.data.toList w e w' := by
  have hs : s.size ≤ 4000 := by rw [Lib.size_eq]; exact (right_len hr).2
  obtain ⟨mb, own, nv, V, hm, hx⟩ := h
  have c0 := hm.cell0
  have hlt := hm.pb_lt
  have hbs := hm.size
  have hrun := hm.map.look_out hs ht
  have HM := Lib.hid hm
  have HX := Lib.hid hx
  have HLN := Lib.hid hl
  have HAA := Lib.hid hA
  have HB := Lib.hid hB
  have HT : Hid (s.data.toList ∉ K) := ht
  have HR := Lib.hid hr
  have HIH := Lib.hid IH
  have HN := Lib.hid hn
  have hKl : K.length ≤ 90000000 := by have := hB.1; omega
  clear hm hx hl hA hB ht hr IH hn
  go_enter Tryz.func65, Tryz.ntmps65
  go_wp2_with fail
  refine (t_PartsF s _ HR.out).mono ?_
  rintro e w2 ⟨⟨Ap, pc, ys, hys, hyc, hsr, hfr, rfl⟩, hb2⟩
  rw [parts_ok HR.out] at hys
  have hyl : ys.length ≤ 2 := by rw [← bl_len, hys]; exact pts_le _
  have HYS : Hid (bl ys = pts s.data.toList) := hys
  have HSR := Lib.hid hsr
  have HFR := Lib.hid hfr
  have HB2 : Hid (Below w.heap.size w w2) := ((Below.refl _ _).alloc (Nat.le_refl _) _).trans (hb2.mono (by simp))
  have hp2 : (parts s.data.toList).2 = 0 := by rw [parts_ok HR.out]
  rw [hp2]
  clear hys hsr hfr hb2 hrun c0 hp2
  dsimp only
  go_wp2_with fail
  refine (t_Kind s _ (by omega)).mono ?_
  rw [kind_ok HR.out]
  obtain ⟨kb, ek⟩ : ∃ kb : Int, (((s.data.toList.headD 0).toNat : Nat) : Int) = kb := ⟨_, rfl⟩
  rw [ek]
  have EK := Lib.hid ek
  rintro e w3 ⟨rfl, hb3⟩
  have HB3 : Hid (Below w.heap.size w w3) := HB2.out.trans (hb3.mono HB2.out.size)
  have HSR3 : Hid (SReads w3 Ap ys) := HSR.out.below hb3 (Nat.le_refl _)
  have HFB : Hid (∀ b off, 0 < ys.length → Ap = some ⟨b, off, none⟩ → b < w3.heap.size) := fun b off h0 e => by
    obtain ⟨b', off', e', hlt, _⟩ := HSR3.out 0 h0
    rw [e] at e'
    injection e' with e'
    injection e' with e1 _ _
    subst e1
    exact hlt
  have c0 : w3.cell? ⟨pb, 0, none⟩ = some (.map (some mb)) := by rw [HB3.out.cell (p := ⟨pb, 0, none⟩) hlt]; exact HM.out.cell0
  have hlt3 : pb < w3.heap.size := Nat.lt_of_lt_of_le hlt HB3.out.size
  clear hb3 ek HSR HB2
  dsimp only
  go_wp2_with fail
  have HBD : Hid (∀ o, Below w.heap.size w (w3.alloc o).drew) := fun o => (HB3.out.alloc HB3.out.size o).drew
  have HMAP : Hid (∀ o, MapIs (w3.alloc o).drew mb K V) := fun o => HM.out.map.block ((HBD.out o).block mb HM.out.map.lt)
  refine wp_still_drew 6 (by kernel_rfl) (by kernel_rfl) ?_
  simp only [List.take_succ_cons, List.take_zero, List.drop_succ_cons, List.drop_zero]
  repeat still_step
  refine wpStill_nil ?_
  refine wpList_put_new (val := .agg #[.int .u8 kb, .slice Ap ys.length pc, .bool false, .bool false, .slice none 0 0, .slice none 0 0]) rfl _ _ _ rfl rfl (HMAP.out _) rfl hs HT.out (by simp only [maxLen]; omega) rfl ?_
  intro w5 hm5 hg5
  obtain ⟨own', hm6, ho1, ho2, ho3⟩ := HM.out.add HT.out (HLN.out.new _ HT.out) (wD := (w3.alloc (.cells #[.int .u8 kb, .slice Ap ys.length pc, .bool false, .bool false, .slice none 0 0, .slice none 0 0] 80)).drew) (fb := w3.heap.size) (A := Ap) (c := pc) (HBD.out _) (HSR3.out.below (((Below.refl w3.heap.size w3).alloc (Nat.le_refl _) _).drew) (Nat.le_refl _)) HYS.out hyc (fun b off e => by have := HFR.out b off e; simp at this; omega) HB3.out.size (fun b off h0 e => Nat.ne_of_lt (HFB.out b off h0 e)) hg5 (by unfold fv fa0; rw [EK.out]; exact hm5)
  have HM6 : Hid (MindX 6 base pb (fun b => X b ∨ b = w3.heap.size ∨ (0 < ys.length ∧ ∃ off, Ap = some ⟨b, off, none⟩)) (K ++ [s.data.toList]) F N w5) := by
    refine ⟨mb, own', nv, _, hm6, fun b hb => ?_⟩
    have hsz : (w3.alloc (.cells #[.int .u8 kb, .slice Ap ys.length pc, .bool false, .bool false, .slice none 0 0, .slice none 0 0] 80)).drew.heap.size = w3.heap.size + 1 := by simp
    have h5 := hg5.size
    rcases hb with h | rfl | ⟨h0, off, e⟩
    · obtain ⟨x1, x2⟩ := HX.out b h
      have := HB3.out.size
      exact ⟨by omega, by rw [ho1 b x1]; exact x2⟩
    · exact ⟨by omega, by rw [ho2]; decide⟩
    · have := HFB.out b off h0 e
      exact ⟨by omega, by rw [ho3 b off h0 e]; decide⟩
  have HKX : Hid (Kp X w w5) := fun b hb => by
    obtain ⟨x1, x2⟩ := HX.out b hb
    refine (hg5.block b (Nat.lt_of_lt_of_le x1 (HBD.out _).size) (fun e => tag6 x2 (by decide) ((congrArg own (Option.some.inj e)).trans HM.out.mbT.1))).trans ((HBD.out _).block b x1)
  have HB5 : Hid (Below base w w5) := ((HBD.out _).mono hbs).grown hg5 (Nat.le_trans hbs (HBD.out _).size) (fun k e => by rw [← Option.some.inj e]; exact HM.out.mbT.2)
  have hne : some w3.heap.size ≠ some mb := fun e => by
    have h1 := HM.out.map.lt
    have h2 := HB3.out.size
    have h3 := Option.some.inj e
    omega
  have HF5 : Hid (w5.heap[w3.heap.size]? = some (.cells #[.int .u8 kb, .slice Ap ys.length pc, .bool false, .bool false, .slice none 0 0, .slice none 0 0] 80 (0, 0))) :=
    (hg5.block w3.heap.size (by simp) hne).trans (heap_alloc_new w3 _)
  have HS5 : Hid (SReads w5 Ap ys) := sreads_kp (X := fun b => 0 < ys.length ∧ ∃ off, Ap = some ⟨b, off, none⟩) HSR3.out (fun b hb => by
      obtain ⟨h0, off, e⟩ := hb
      have h1 := HFB.out b off h0 e
      have h2 := HFR.out b off e
      have h3 := HM.out.map.lt
      simp at h2
      exact (hg5.block b (by simp; omega) (fun e => by have := Option.some.inj e; omega)).trans ((MapKept.heap_alloc w3 _).2 b h1)) (Nat.le_trans (by simp) hg5.size) (fun b off h0 e => ⟨h0, off, e⟩)
  clear hm5 hg5 hm6 ho1 ho2 ho3 c0 hne
  go_wp2_with fail
  have HLP : Hid (Lp held K F A B s.data.toList 0 (K ++ [s.data.toList]) F N) := lp_start HLN.out HB.out HT.out HR.out
  have HAT : Hid (∀ a ∈ s.data.toList :: A, ∀ p ∈ pts s.data.toList, p.length < a.length) := fun a ha p hp => by
    have h1 := (pts_right hp).2
    rcases List.mem_cons.1 ha with e | e
    · rw [e]; exact h1
    · have := HAA.out a e; omega
  clear HMAP HBD HSR3 HB3 HFB HFR HM HX HLN HB HT hlt3
  go_loopw [40] (fun i wr => ∃ (j : Nat) (K1 : List Tm) (F1 : Tm → Fa) (N1 : List Tm), j ≤ ys.length ∧ i = .int .i64 j ∧ Hid (MindX 6 base pb (fun b => X b ∨ b = w3.heap.size ∨ (0 < ys.length ∧ ∃ off, Ap = some ⟨b, off, none⟩)) K1 F1 N1 wr) ∧ Hid (Lp held K F A B s.data.toList j K1 F1 N1) ∧ Hid (Below base w5 wr) ∧ Hid (Kp (fun b => X b ∨ b = w3.heap.size ∨ (0 < ys.length ∧ ∃ off, Ap = some ⟨b, off, none⟩)) w5 wr)) (fun i _ => ys.length - (intOf i).toNat)
  case atStart => exact ⟨0, _, _, _, Nat.zero_le _, rfl, HM6, HLP, Below.refl _ _, fun _ _ => rfl⟩
  case round =>
    clear HM6 HLP
    obtain ⟨j, K1, F1, N1, hj, rfl, HM1, HL1, HB1, HK1⟩ := hrel
    have hcl := cost_le HR.out
    have hct := cost_take (pts s.data.toList) j
    by_cases hlt2 : j < ys.length
    · obtain ⟨P, hP⟩ : ∃ P, ys[j]? = some P := ⟨_, List.getElem?_eq_getElem hlt2⟩
      have hPp : P.data.toList ∈ pts s.data.toList := by rw [← HYS.out]; exact List.mem_map.2 ⟨P, List.mem_of_getElem? hP, rfl⟩
      obtain ⟨b, off, hab, hblt, hcell⟩ := reads_at (sreads_kp HS5.out HK1.out HB1.out.size (fun b off h0 e => .inr (.inr ⟨h0, off, e⟩))) j hP
      have HTK : Hid ((pts s.data.toList).take (j + 1) = (pts s.data.toList).take j ++ [P.data.toList]) := by rw [← HYS.out]; exact take_get hP
      have hPr := pts_right hPp
      have hPs : P.size ≤ 4000 := pt_size rfl hPp
      have hcost : cost ((pts s.data.toList).take j) + (4 * P.data.toList.length + 1) ≤ cost (pts s.data.toList) := by
        have h1 := cost_take (pts s.data.toList) (j + 1)
        rw [HTK.out, cost_app] at h1
        exact h1
      have HPP := Lib.hid hPp
      have HPR := Lib.hid hPr
      have HIHP := Lib.hid (HIH.out P (by have := HN.out; omega) hPr.1 _ K1 F1 N1 (s.data.toList :: A) (B + 1 + cost ((pts s.data.toList).take j)) wr HM1.out HL1.out.ln (fun a ha => HAT.out a ha _ hPp) HL1.out.bd (by omega))
      clear hP hPp hPr
      subst hab
      go_wp2_with fail
      refine HIHP.out.mono ?_
      rintro e w6 ⟨rfl, hb6, hk6, K6, F6, N6, hm6, hr6⟩
      have HM7 := Lib.hid hm6
      have HB7 := Lib.hid hb6
      have HK7 := Lib.hid hk6
      have HR7 := Lib.hid hr6
      have hk6l : K6.length ≤ 90000000 := by have := hr6.bd.1; omega
      have hi6l : (F6 P.data.toList).2.2.1.length ≤ 90000000 := by have := (hr6.bd.2.1 P.data.toList).1; omega
      clear hm6 hb6 hk6 hr6 HIHP
      dsimp only
      go_wp2_with fail
      refine (stands_any base pb _ K6 F6 N6 P s _ HM7.out hPs HR7.out.here (by omega) (by omega)).mono ?_
      rintro e w8 ⟨rfl, hm8, hb8, hk8⟩
      have HM8 := Lib.hid hm8
      have HB8 := Lib.hid ((HB1.out.trans HB7.out).trans hb8)
      have HK8 := Lib.hid ((HK1.out.trans HK7.out).trans hk8)
      clear hm8 hb8 hk8
      dsimp only
      go_wp2
      go_roundw
      case rel => exact ⟨j + 1, _, _, _, by omega, by go_num, HM8, lp_step HL1.out HR7.out HPP.out HTK.out, HB8, HK8⟩
      case measure => simp [intOf]; omega
    · obtain rfl : j = ys.length := by omega
      have hlen : ys.length = (pts s.data.toList).length := by rw [← HYS.out, bl_len]
      have HLF : Hid (Lp held K F A B s.data.toList (pts s.data.toList).length K1 F1 N1) := by rw [← hlen]; exact HL1.out
      have HDONE : Hid (∀ p ∈ pts s.data.toList, p ∈ K1 ∧ s.data.toList ∈ (F1 p).2.2.1) := by
        have := HLF.out.done
        rw [List.take_length] at this; exact this
      have hheap := (HK1.out w3.heap.size (.inr (.inl rfl))).trans HF5.out
      have z0 : wr.cell? ⟨w3.heap.size, 0, none⟩ = some (.int .u8 kb) := cell_of_row wr _ 0 _ _ (0, 0) hheap
      have z1 : wr.cell? ⟨w3.heap.size, 1, none⟩ = some (.slice Ap ys.length pc) := cell_of_row wr _ 1 _ _ (0, 0) hheap
      have z2 : wr.cell? ⟨w3.heap.size, 2, none⟩ = some (.bool false) := cell_of_row wr _ 2 _ _ (0, 0) hheap
      have z3 : wr.cell? ⟨w3.heap.size, 3, none⟩ = some (.bool false) := cell_of_row wr _ 3 _ _ (0, 0) hheap
      have z4 : wr.cell? ⟨w3.heap.size, 4, none⟩ = some (.slice none 0 0) := cell_of_row wr _ 4 _ _ (0, 0) hheap
      have z5 : wr.cell? ⟨w3.heap.size, 5, none⟩ = some (.slice none 0 0) := cell_of_row wr _ 5 _ _ (0, 0) hheap
      have hk1l : K1.length ≤ 90000000 := by have := HLF.out.bd.1; rw [List.take_length] at this; omega
      have hn1l : N1.length ≤ 90000000 := by have := HLF.out.bd.2.2; rw [List.take_length] at this; omega
      clear HL1 hheap HIH hct hlt2 hlen
      by_cases h115 : s.data.toList.headD 0 = 115
      · obtain ⟨x, y, hp⟩ := duo_of HR.out (by rw [h115]; decide)
        obtain ⟨X', Y', hyy, ex, ey⟩ := bl_duo (HYS.out.trans hp)
        subst hyy
        obtain rfl : kb = 115 := by rw [← EK.out, h115]; rfl
        have z1' : wr.cell? ⟨w3.heap.size, 1, none⟩ = some (.slice Ap 2 pc) := z1
        clear z1
        have hk : keyT s.data.toList = some x := by unfold keyT; rw [if_pos h115, hp]; rfl
        have xK : x ∈ K1 := (HDONE.out x (by rw [hp]; simp)).1
        have HLR : Hid (∀ Z : ByteArray, Z.data.toList = x → Lrn held K F A (B + 4 * s.data.toList.length) s.data.toList K1 (opF F1 Z.data.toList s.data.toList) N1) := fun Z e => by rw [e]; exact lrn_key HLF.out HR.out hk xK
        have HXK : Hid (x ∈ K1) := xK
        have hks : x.length ≤ 4000 := (right_len (HLF.out.ln.kf.good _ xK)).2
        have xs : X'.size ≤ 4000 := pt_size ex (by rw [hp]; simp)
        have HSW : Hid (SReads wr Ap [X', Y']) := sreads_kp HS5.out HK1.out HB1.out.size (fun b off h0 e => .inr (.inr ⟨h0, off, e⟩))
        have EX := Lib.hid ex
        clear hp ex ey hk xK
        go_wp2_with fail
        with_reducible refine (key_sealed pb X' Y' Ap pc _ _ _ _ _ _ _ _ wr HSW.out).mono ?_
        rintro e w6 ⟨rfl, hb6⟩
        obtain ⟨Z, hZ, eZ⟩ : ∃ Z : ByteArray, Z.data.toList = x ∧ Z = X' := ⟨X', EX.out, rfl⟩
        subst eZ
        have HM6 := Lib.hid (HM1.out.below hb6)
        have HB6 : Hid (Below base wr w6) := hb6.mono (Nat.le_trans hbs (Nat.le_trans (HB5.out.size) HB1.out.size))
        have HZ := Lib.hid hZ
        have HZK : Hid (Z.data.toList ∈ K1) := by rw [hZ]; exact HXK.out
        have zs : Z.size ≤ 4000 := by rw [Lib.size_eq, hZ]; exact hks
        have hop : (F1 Z.data.toList).2.2.2.length ≤ 90000000 := by have := (HLF.out.bd.2.1 Z.data.toList).2; rw [List.take_length] at this; omega
        clear hb6 hZ z1' z2 z3 z4 z5 z0
        dsimp only
        go_wp2_with fail
        refine (opens_any' base pb _ K1 F1 N1 Z s _ HM6.out.1 zs HZK.out (by omega) (by omega)).mono ?_
        rintro e w7 ⟨rfl, hm7, hb7, hk7⟩
        have z0 : w7.cell? ⟨w3.heap.size, 0, none⟩ = some (.int .u8 115) := by
          rw [World.cell?_of_block (a := ⟨w3.heap.size, 0, none⟩) ((hk7 _ (.inr (.inl rfl))).trans ((HM6.out.2 _ (.inr (.inl rfl))).trans (HK1.out _ (.inr (.inl rfl)))))]
          exact cell_of_row w5 _ 0 _ _ (0, 0) HF5.out
        have HM7 := Lib.hid hm7
        have HB7 : Hid (Below base w w7) := ((HB5.out.trans HB1.out).trans HB6.out).trans hb7
        have HK7 : Hid (Kp X w w7) := ((HKX.out.trans (HK1.out.less fun b h => .inl h)).trans (HM6.out.2.less fun b h => .inl h)).trans (hk7.less fun b h => .inl h)
        clear hm7 hb7 hk7
        dsimp only
        go_wp2
        go_end0
        exact ⟨rfl, HB7.out, HK7.out, _, _, _, HM7.out.less (fun b h => .inl h), HLR.out Z HZ.out⟩
      by_cases h98 : s.data.toList.headD 0 = 98
      · obtain ⟨x, y, hp⟩ := duo_of HR.out (by rw [h98]; decide)
        obtain ⟨X', Y', hyy, ex, ey⟩ := bl_duo (HYS.out.trans hp)
        subst hyy
        obtain rfl : kb = 98 := by rw [← EK.out, h98]; rfl
        have z1' : wr.cell? ⟨w3.heap.size, 1, none⟩ = some (.slice Ap 2 pc) := z1
        clear z1
        obtain ⟨k, hk, hkp⟩ : ∃ k, keyT s.data.toList = some k ∧ pts x = [k] := by
          have e : keyT s.data.toList = some x.tail := by unfold keyT; rw [if_neg (by rw [h98]; decide), if_pos h98, hp]; rfl
          rcases key_cases HR.out e with ⟨e2, _⟩ | ⟨_, u, y', e2, e3, _⟩
          · rw [h98] at e2; exact absurd e2 (by decide)
          · rw [hp] at e2
            injection e2 with e2 _
            rw [← e2] at e3
            exact ⟨_, e, e3⟩
        have xK : x ∈ K1 := (HDONE.out x (by rw [hp]; simp)).1
        have kK : k ∈ K1 := key_known HLF.out.ln HR.out (fun a ha => by
          have := HAA.out a ha
          omega) (fun p hp => (HDONE.out p hp).1) hk
        have HLR : Hid (∀ Z : ByteArray, Z.data.toList = k → Lrn held K F A (B + 4 * s.data.toList.length) s.data.toList K1 (opF F1 Z.data.toList s.data.toList) N1) := fun Z e => by rw [e]; exact lrn_key HLF.out HR.out hk kK
        have HXK : Hid (k ∈ K1) := kK
        have HX1 : Hid (X'.data.toList ∈ K1) := by rw [← ex] at xK; exact xK
        have HKP : Hid (pts X'.data.toList = [k]) := by rw [← ex] at hkp; exact hkp
        have hks : k.length ≤ 4000 := (right_len (HLF.out.ln.kf.good _ kK)).2
        have xs : X'.size ≤ 4000 := pt_size ex (by rw [hp]; simp)
        have HSW : Hid (SReads wr Ap [X', Y']) := sreads_kp HS5.out HK1.out HB1.out.size (fun b off h0 e => .inr (.inr ⟨h0, off, e⟩))
        have EX := Lib.hid ex
        clear hp ex ey hk xK kK hkp
        go_wp2_with fail
        with_reducible refine (key_boxed base pb K1 F1 N1 X' Y' k Ap pc _ _ _ _ _ _ _ _ wr HM1.out.toE xs HX1.out HKP.out HSW.out).mono ?_
        rintro e w6 ⟨⟨Z, hZ, rfl⟩, hb6⟩
        have HM6 := Lib.hid (HM1.out.below hb6)
        have HB6 : Hid (Below base wr w6) := hb6.mono (Nat.le_trans hbs (Nat.le_trans (HB5.out.size) HB1.out.size))
        have HZ := Lib.hid hZ
        have HZK : Hid (Z.data.toList ∈ K1) := by rw [hZ]; exact HXK.out
        have zs : Z.size ≤ 4000 := by rw [Lib.size_eq, hZ]; exact hks
        have hop : (F1 Z.data.toList).2.2.2.length ≤ 90000000 := by have := (HLF.out.bd.2.1 Z.data.toList).2; rw [List.take_length] at this; omega
        clear hb6 hZ z1' z2 z3 z4 z5 z0
        dsimp only
        go_wp2_with fail
        refine (opens_any' base pb _ K1 F1 N1 Z s _ HM6.out.1 zs HZK.out (by omega) (by omega)).mono ?_
        rintro e w7 ⟨rfl, hm7, hb7, hk7⟩
        have z0 : w7.cell? ⟨w3.heap.size, 0, none⟩ = some (.int .u8 98) := by
          rw [World.cell?_of_block (a := ⟨w3.heap.size, 0, none⟩) ((hk7 _ (.inr (.inl rfl))).trans ((HM6.out.2 _ (.inr (.inl rfl))).trans (HK1.out _ (.inr (.inl rfl)))))]
          exact cell_of_row w5 _ 0 _ _ (0, 0) HF5.out
        have HM7 := Lib.hid hm7
        have HB7 : Hid (Below base w w7) := ((HB5.out.trans HB1.out).trans HB6.out).trans hb7
        have HK7 : Hid (Kp X w w7) := ((HKX.out.trans (HK1.out.less fun b h => .inl h)).trans (HM6.out.2.less fun b h => .inl h)).trans (hk7.less fun b h => .inl h)
        clear hm7 hb7 hk7
        dsimp only
        go_wp2
        go_end0
        exact ⟨rfl, HB7.out, HK7.out, _, _, _, HM7.out.less (fun b h => .inl h), HLR.out Z HZ.out⟩
      have ne : ∀ n : UInt8, s.data.toList.headD 0 ≠ n → kb ≠ (n.toNat : Int) := fun n hn e => hn (by rw [← EK.out] at e; exact UInt8.toNat_inj.1 (by omega))
      have k1 : kb ≠ 115 := ne 115 h115
      have k2 : kb ≠ 98 := ne 98 h98
      by_cases h116 : s.data.toList.headD 0 = 116
      · obtain rfl : kb = 116 := by rw [← EK.out, h116]; rfl
        have HLR := Lib.hid (lrn_text HLF.out HR.out h116)
        have HTK : Hid (s.data.toList ∈ K1) := HLF.out.here
        clear ne h115 h98 h116
        go_wp2_with fail
        refine (key_else pb 116 k1 k2 Ap _ pc _ _ _ _ _ _ _ _ wr).mono ?_
        rintro e w6 ⟨rfl, hb6⟩
        have HM6 := Lib.hid (HM1.out.below hb6)
        have HB6 : Hid (Below base wr w6) := hb6.mono (Nat.le_trans hbs (Nat.le_trans (HB5.out.size) HB1.out.size))
        have z0' : w6.cell? ⟨w3.heap.size, 0, none⟩ = some (.int .u8 116) := by
          rw [World.cell?_of_block (a := ⟨w3.heap.size, 0, none⟩) ((HM6.out.2 _ (.inr (.inl rfl))).trans (HK1.out _ (.inr (.inl rfl))))]
          exact cell_of_row w5 _ 0 _ _ (0, 0) HF5.out
        clear hb6 z0 z1 z2 z3 z4 z5
        dsimp only
        go_wp2_with fail
        refine (make_any 6 base pb (by decide) _ K1 F1 N1 s _ HM6.out.1 hs HTK.out (by omega) (by omega)).mono ?_
        rintro e w7 ⟨rfl, hm7, hb7, hk7⟩
        have HM7 := Lib.hid hm7
        have HB7 : Hid (Below base w w7) := ((HB5.out.trans HB1.out).trans HB6.out).trans hb7
        have HK7 : Hid (Kp X w w7) := ((HKX.out.trans (HK1.out.less fun b h => .inl h)).trans (HM6.out.2.less fun b h => .inl h)).trans (hk7.less fun b h => .inl h)
        clear hm7 hb7 hk7
        dsimp only
        go_wp2
        go_end0
        exact ⟨rfl, HB7.out, HK7.out, _, _, _, HM7.out.less (fun b h => .inl h), HLR.out⟩
      · have k3 : kb ≠ 116 := ne 116 h116
        have HLR := Lib.hid (lrn_else HLF.out HR.out h116 h115 h98)
        clear ne h115 h98 h116
        go_wp2_with fail
        refine (key_else pb kb k1 k2 Ap _ pc _ _ _ _ _ _ _ _ wr).mono ?_
        rintro e w6 ⟨rfl, hb6⟩
        have HM6 := Lib.hid (HM1.out.below hb6)
        have HB6 : Hid (Below base wr w6) := hb6.mono (Nat.le_trans hbs (Nat.le_trans (HB5.out.size) HB1.out.size))
        have z0' : w6.cell? ⟨w3.heap.size, 0, none⟩ = some (.int .u8 kb) := by
          rw [World.cell?_of_block (a := ⟨w3.heap.size, 0, none⟩) ((HM6.out.2 _ (.inr (.inl rfl))).trans (HK1.out _ (.inr (.inl rfl))))]
          exact cell_of_row w5 _ 0 _ _ (0, 0) HF5.out
        clear hb6 z0 z1 z2 z3 z4 z5
        dsimp only
        go_wp2
        go_end0
        exact ⟨rfl, (HB5.out.trans HB1.out).trans HB6.out, (HKX.out.trans (HK1.out.less fun b h => .inl h)).trans (HM6.out.2.less fun b h => .inl h), _, _, _, HM6.out.1.less (fun b h => .inl h), HLR.out⟩
theorem learn_any (held : List Tm) (base pb : Nat) : ∀ (n : Nat) (s : ByteArray), s.data.toList.length < n → right s.data.toList = true → ∀ (X : Nat → Prop) (K : List Tm) (F : Tm → Fa) (N A : List Tm) (B : Nat) (w : World), MindX 6 base pb X K F N w → Ln held K F N A → (∀ a ∈ A, s.data.toList.length < a.length) → Bd B K F N → B + 4 * s.data.toList.length ≤ 90000000 →
    Calls Tryz.prog 65 #[.pointer (some ⟨pb, 0, none⟩), .string s] w fun e w' => LnE held base pb X K F A (B + 4 * s.data.toList.length) s.data.toList w e w'
  | 0, _, h, _, _, _, _, _, _, _, _, _, _, _, _, _ => absurd h (Nat.not_lt_zero _)
  | n + 1, s, hn, hr, X, K, F, N, A, B, w, h, hl, hA, hB, hBm => by
    by_cases ht : s.data.toList ∈ K
    · exact learn_known held base pb s X K F N A B w hr h hl hB ht
    · exact learn_new held base pb n (learn_any held base pb n) s hn hr X K F N A B w h hl hA hB hBm ht
end Go.Proofs.YtjdignbmlfbdnaaGreat.Clo

/-
  CONTRACT of the code's settle (package closure): the work list is worked off. By an AI agent; no person has read it.
-/
namespace Go.Proofs.YtjdignbmlfbdnaaGreat.Clo
open Go.RowKit Wire Term

set_option maxHeartbeats 16000000 in
set_option maxRecDepth 1000000 in
theorem settle_any (held : List Tm) (base pb : Nat) (X : Nat → Prop) (K : List Tm) (F : Tm → Fa) (N : List Tm) (w : World) (h : MindX 4 base pb X K F N w) (hw : Wk held K F N) (hK : K.length ≤ 100000000) (hM : N.length + uns F K ≤ 99999990) :
    Calls Tryz.prog 66 #[.pointer (some ⟨pb, 0, none⟩)] w fun e w' => e = .returned (.tuple #[]) ∧ Below base w w' ∧ Kp X w w' ∧ ∃ F', MindX 4 base pb X K F' [] w' ∧ Wk held K F' [] := by
  have HH := Lib.hid h
  have HWW := Lib.hid hw
  clear h hw
  go_enter Tryz.func66, Tryz.ntmps66
  go_wp2_with fail
  go_loopg [2] (N.length + uns F K) (fun n _ wr => ∃ F N, n = N.length + uns F K ∧ n ≤ 99999990 ∧ Hid (MindX 4 base pb X K F N wr) ∧ Hid (Wk held K F N) ∧ Hid (Below base w wr) ∧ Hid (Kp X w wr))
  case atStart => exact ⟨F, N, rfl, hM, HH, HWW, Below.refl _ _, fun _ _ => rfl⟩
  case round =>
    clear HH HWW hM
    obtain ⟨F0, N0, hgk, hle, HM, HW, HB, HK⟩ := hrel
    rcases List.eq_nil_or_concat N0 with rfl | ⟨N1, t, rfl⟩
    · obtain ⟨a, c, c1⟩ := HM.out.bare
      go_wp2
      go_end0
      exact ⟨rfl, HB.out, HK.out, F0, HM.out, HW.out⟩
    · rw [List.concat_eq_append] at hgk HM HW
      obtain ⟨g, cap, Y, c1, fz, hcap, hY, hglt, hgc, hbp, hplt, hm1, hk1⟩ := HM.out.last (by decide)
      have HY := Lib.hid hY
      have hYK : Y.data.toList ∈ K := by rw [hY]; exact HW.out.list _ (by simp)
      have hYs : Y.size ≤ 4000 := by rw [Lib.size_eq]; exact (right_len (HW.out.kf.good _ hYK)).2
      have HM1 := Lib.hid hm1
      have HB1 : Hid (Below base w (wr.setCell ⟨pb, 1, none⟩ (.slice (some ⟨g, 0, none⟩) N1.length cap))) := HB.out.setCell hbp _
      have HK1 := Lib.hid (HK.out.trans hk1)
      have HYK := Lib.hid hYK
      have HGK := Lib.hid hgk
      have hnn : N1.length + 1 + uns F0 K ≤ 99999990 := by rw [List.length_append, List.length_singleton] at hgk; omega
      clear hm1 hk1 hY hYK hgk
      go_wp2_with fail
      have hsn0 := HW.out.sound
      have hkf0 := (wk_way HW.out (Gr.refl held K F0 N1)).1
      refine (apart_any held 4 base pb X K F0 N1 Y _ ⟨by decide, by decide⟩ HM1.out hYs hkf0 HYK.out hsn0 hK (by omega)).mono ?_
      rintro e w2 ⟨rfl, hb2, hk2, F1, N2, hm2, hta⟩
      rw [HY.out] at hta
      have HTA := Lib.hid hta
      have HB2 := Lib.hid (HB1.out.trans hb2)
      have HK2 := Lib.hid (HK1.out.trans hk2)
      obtain ⟨mb, kb, pa, pn, pc, ia, oa, zs, us, ic, oc, c0, hzs, hzr, hus, hur, hzm, hum, hmx, hrun⟩ := hm2.look2 hYs HYK.out
      rw [HY.out] at hzs hus
      have HZS : Hid (bl zs = (F0 t).2.2.1) := by rw [hta.1.rest t] at hzs; exact hzs
      have HUS : Hid (bl us = (F0 t).2.2.2) := by rw [hta.1.rest t] at hus; exact hus
      have HM3 := Lib.hid (fun o => hmx.new (by decide) o)
      have HN3 : Hid (∀ o, Below w2.heap.size w2 (w2.alloc o)) := fun o => (Below.refl _ _).alloc (Nat.le_refl _) o
      have HZR : Hid (∀ o, SReads (w2.alloc o) ia zs) := fun o => hzr.below (HN3.out o) (Nat.le_refl _)
      have HUR : Hid (∀ o, SReads (w2.alloc o) oa us) := fun o => hur.below (HN3.out o) (Nat.le_refl _)
      have hbs2 : base ≤ w2.heap.size := Nat.le_trans (Nat.le_trans hbp (Nat.le_of_lt hplt)) (Nat.le_trans (by simp [World.setCell]) hb2.size)
      have HB3 : Hid (∀ o, Below base w (w2.alloc o)) := fun o => HB2.out.trans ((HN3.out o).mono hbs2)
      have HK3 : Hid (∀ o, Kp X w (w2.alloc o)) := fun o => HK2.out.trans (hm2.below (HN3.out o)).2
      clear hb2 hk2 hm2 hta hzs hzr hus hur hmx hsn0 hkf0 c1 fz hgc
      dsimp only
      go_wp2_with fail
      obtain ⟨w3, hw3⟩ : ∃ w3, w2.alloc (.cells #[.int .u8 kb, .slice pa pn pc, .bool (F1 Y.data.toList).1, .bool (F1 Y.data.toList).2.1, .slice ia zs.length ic, .slice oa us.length oc] 80) = w3 := ⟨_, rfl⟩
      rw [hw3]
      have HM4 := Lib.hid (HM3.out (.cells #[.int .u8 kb, .slice pa pn pc, .bool (F1 Y.data.toList).1, .bool (F1 Y.data.toList).2.1, .slice ia zs.length ic, .slice oa us.length oc] 80))
      have HZ4 := Lib.hid (HZR.out (.cells #[.int .u8 kb, .slice pa pn pc, .bool (F1 Y.data.toList).1, .bool (F1 Y.data.toList).2.1, .slice ia zs.length ic, .slice oa us.length oc] 80))
      have HU4 := Lib.hid (HUR.out (.cells #[.int .u8 kb, .slice pa pn pc, .bool (F1 Y.data.toList).1, .bool (F1 Y.data.toList).2.1, .slice ia zs.length ic, .slice oa us.length oc] 80))
      have HB4 := Lib.hid (HB3.out (.cells #[.int .u8 kb, .slice pa pn pc, .bool (F1 Y.data.toList).1, .bool (F1 Y.data.toList).2.1, .slice ia zs.length ic, .slice oa us.length oc] 80))
      have HK4 := Lib.hid (HK3.out (.cells #[.int .u8 kb, .slice pa pn pc, .bool (F1 Y.data.toList).1, .bool (F1 Y.data.toList).2.1, .slice ia zs.length ic, .slice oa us.length oc] 80))
      have HC5 : Hid (w3.cell? ⟨w2.heap.size, 5, none⟩ = some (.slice oa us.length oc)) := by
        show _ = _
        rw [← hw3, World.cell?_alloc_new]; rfl
      rw [hw3] at HM4 HZ4 HU4 HB4 HK4
      clear hw3 hrun c0 HM3 HZR HUR HB3 HK3 HN3 HB2 HK2 HM1 HB1 HK1
      have HMAX := Lib.hid hzm
      have HMAXU := Lib.hid hum
      simp only [maxLen] at hzm hum
      go_loopw [49] (fun i wr' => ∃ (j : Nat) (F2 : Tm → Fa) (N3 : List Tm), j ≤ zs.length ∧ i = .int .i64 j ∧ Hid (MindX 4 base pb (fun b => (X b ∨ (∃ off, ia = some ⟨b, off, none⟩) ∨ ∃ off, oa = some ⟨b, off, none⟩) ∨ b = w2.heap.size) K F2 N3 wr') ∧ Hid (Gr held K F1 N2 F2 N3) ∧ Hid (∀ x ∈ (bl zs).take j, O4 F2 N3 x) ∧ Hid (Below base w3 wr') ∧ Hid (Kp (fun b => (X b ∨ (∃ off, ia = some ⟨b, off, none⟩) ∨ ∃ off, oa = some ⟨b, off, none⟩) ∨ b = w2.heap.size) w3 wr')) (fun i _ => zs.length - (intOf i).toNat)
      case atStart => exact ⟨0, F1, N2, Nat.zero_le _, rfl, HM4, Gr.refl _ _ _ _, (fun x hx => by simp at hx), Below.refl _ _, fun _ _ => rfl⟩
      case round =>
        obtain ⟨j, F2, N3, hj, rfl, HM5, HG5, HO5, HB5, HK5⟩ := hrel
        have hway := wk_way HW.out (HTA.out.1.trans HG5.out)
        have HWAY := Lib.hid hway
        have hn3 : N3.length ≤ 99999990 := by omega
        clear hway
        by_cases hlt : j < zs.length
        · obtain ⟨Z, hZ⟩ : ∃ Z, zs[j]? = some Z := ⟨_, List.getElem?_eq_getElem hlt⟩
          have hzin : Z.data.toList ∈ (F0 t).2.2.1 := by rw [← HZS.out]; exact List.mem_map.2 ⟨Z, List.mem_of_getElem? hZ, rfl⟩
          obtain ⟨hZK, hZp⟩ := HW.out.kf.ins t _ hzin
          have hZs : Z.size ≤ 4000 := by rw [Lib.size_eq]; exact (right_len (HW.out.kf.good _ hZK)).2
          obtain ⟨b, off, rfl, hblt, hcell⟩ := reads_at (sreads_kp HZ4.out HK5.out HB5.out.size (fun b off _ e => .inl (.inr (.inl ⟨off, e⟩)))) j hZ
          have HTK := Lib.hid (take_get hZ)
          have HZK := Lib.hid hZK
          have HZP : Hid (pts Z.data.toList ≠ []) := fun e => by rw [e] at hZp; cases hZp
          clear hZ hzin hZK hZp
          go_wp2_with fail
          refine (puttog_any held 4 base pb ⟨by decide, by decide⟩ _ K F2 N3 Z _ HM5.out hZs HWAY.out.1 HZK.out HWAY.out.2.1 HZP.out hK (by omega)).mono ?_
          rintro e w6 ⟨rfl, hb6, hk6, F6, N6, hm6, hg6, ho6⟩
          have HB6 := Lib.hid (HB5.out.trans hb6)
          have HK6 := Lib.hid (HK5.out.trans hk6)
          have HM6 := Lib.hid hm6
          have HG6 := Lib.hid hg6
          have HO6 := Lib.hid ho6
          clear hb6 hk6 hm6 hg6 ho6
          dsimp only
          go_wp2
          go_roundw
          case rel =>
            refine ⟨j + 1, F6, N6, by omega, by go_num, HM6, HG5.out.trans HG6.out, ?_, HB6, HK6⟩
            show ∀ x ∈ (bl zs).take (j + 1), _
            rw [HTK.out]
            intro x hx
            rcases List.mem_append.1 hx with h | h
            · exact HG6.out.o4 (HO5.out x h)
            · rw [List.mem_singleton.1 h]; exact HO6.out
          case measure => simp [intOf]; omega
        · obtain rfl : j = zs.length := by omega
          have hall := HO5.out
          rw [← bl_take, List.take_length, HZS.out] at hall
          have HALL := Lib.hid hall
          have c5 : wr.cell? ⟨w2.heap.size, 5, none⟩ = some (.slice oa us.length oc) := by
            rw [World.cell?_of_block (a := ⟨w2.heap.size, 5, none⟩) (HK5.out w2.heap.size (.inr rfl))]; exact HC5.out
          clear hall HO5
          go_wp2_with fail
          have HU5 : Hid (SReads wr oa us) := sreads_kp HU4.out HK5.out HB5.out.size (fun b off _ e => .inl (.inr (.inr ⟨off, e⟩)))
          have HB5' : Hid (Below base w wr) := HB4.out.trans HB5.out
          have HK5' : Hid (Kp X w wr) := HK4.out.trans (HK5.out.less fun x hx => .inl (.inl hx))
          obtain ⟨w5, hw5⟩ : ∃ w5, w5 = wr := ⟨_, rfl⟩
          rw [← hw5] at HU5
          clear HZ4 HU4 HB4 HK4 HC5 HB5 HK5 c5
          go_loopw [60] (fun i wr' => ∃ (j : Nat) (F4 : Tm → Fa) (N4 : List Tm), j ≤ us.length ∧ i = .int .i64 j ∧ Hid (MindX 4 base pb (fun b => (X b ∨ (∃ off, ia = some ⟨b, off, none⟩) ∨ ∃ off, oa = some ⟨b, off, none⟩) ∨ b = w2.heap.size) K F4 N4 wr') ∧ Hid (Gr held K F1 N2 F4 N4) ∧ Hid (∀ x ∈ (F0 t).2.2.1, O4 F4 N4 x) ∧ Hid (∀ x ∈ (bl us).take j, O3 F4 N4 x) ∧ Hid (Below base w wr') ∧ Hid (Kp X w wr') ∧ Hid (SReads wr' oa us)) (fun i _ => us.length - (intOf i).toNat)
          case atStart => exact ⟨0, F2, N3, Nat.zero_le _, rfl, HM5, HG5, HALL, (fun x hx => by simp at hx), HB5', HK5', (by rw [hw5] at HU5; exact HU5)⟩
          case round =>
            clear HM5 HG5 HALL HB5' HK5' HU5 hw5 HWAY hn3
            obtain ⟨j, F4, N4, hj, rfl, HM7, HG7, HO7, HP7, HB7, HK7, HU7⟩ := hrel
            have hway := wk_way HW.out (HTA.out.1.trans HG7.out)
            have HWAY := Lib.hid hway
            have hn3 : N4.length ≤ 99999989 := by omega
            clear hway
            by_cases hlt : j < us.length
            · obtain ⟨Z, hZ⟩ : ∃ Z, us[j]? = some Z := ⟨_, List.getElem?_eq_getElem hlt⟩
              have hzin : Z.data.toList ∈ (F0 t).2.2.2 := by rw [← HUS.out]; exact List.mem_map.2 ⟨Z, List.mem_of_getElem? hZ, rfl⟩
              have hZK := HW.out.kf.opens t _ hzin
              have hZs : Z.size ≤ 4000 := by rw [Lib.size_eq]; exact (right_len (HW.out.kf.good _ hZK)).2
              obtain ⟨b, off, rfl, hblt, hcell⟩ := reads_at HU7.out j hZ
              have HTK := Lib.hid (take_get hZ)
              have HZK := Lib.hid hZK
              clear hZ hzin hZK
              go_wp2_with fail
              refine (apart_any held 4 base pb _ K F4 N4 Z _ ⟨by decide, by decide⟩ HM7.out hZs HWAY.out.1 HZK.out HWAY.out.2.1 hK (by omega)).mono ?_
              rintro e w6 ⟨rfl, hb6, hk6, F6, N6, hm6, hta6⟩
              have HB6 := Lib.hid (HB7.out.trans hb6)
              have HK6 := Lib.hid (HK7.out.trans (hk6.less fun x hx => .inl (.inl hx)))
              have HU6 : Hid (SReads w6 (some ⟨b, off, none⟩) us) := sreads_kp HU7.out hk6 hb6.size (fun b off _ e => .inl (.inr (.inr ⟨off, e⟩)))
              have HM6 := Lib.hid hm6
              have HT6 := Lib.hid hta6
              clear hb6 hk6 hm6 hta6
              dsimp only
              go_wp2
              go_roundw
              case rel =>
                refine ⟨j + 1, F6, N6, by omega, by go_num, HM6, HG7.out.trans HT6.out.1, (fun x hx => HT6.out.1.o4 (HO7.out x hx)), ?_, HB6, HK6, HU6⟩
                show ∀ x ∈ (bl us).take (j + 1), _
                rw [HTK.out]
                intro x hx
                rcases List.mem_append.1 hx with h | h
                · exact HT6.out.1.o3 (HP7.out x h)
                · rw [List.mem_singleton.1 h]; exact HT6.out.2.2
              case measure => simp [intOf]; omega
            · obtain rfl : j = us.length := by omega
              have hall := HP7.out
              rw [← bl_take, List.take_length, HUS.out] at hall
              have hround := wk_round HW.out HTA.out HG7.out HO7.out hall
              have HR := Lib.hid hround
              have HLE := Lib.hid hle
              clear hall HP7 hround
              go_wp2
              go_roundg (N4.length + uns F4 K)
              case measure =>
                have h1 := HR.out.2
                have h2 := HGK.out
                omega
              case rel =>
                have h1 := HR.out.2
                have h2 := HGK.out
                have h3 := HLE.out
                exact ⟨F4, N4, rfl, by omega, HM7.out.less (fun x hx => .inl (.inl hx)), HR.out.1, HB7, HK7⟩
end Go.Proofs.YtjdignbmlfbdnaaGreat.Clo

/-
  CONTRACTS of the code's check, hold (package closure). By an AI agent; no person has read it.
-/
namespace Go.Proofs.YtjdignbmlfbdnaaGreat.Clo
open Go.RowKit Wire Term

/-- The error of what is held. -/
def ckV (l : List Tm) : Int := if l.all right = false then 1 else if 200 < l.length then 10 else 0
theorem kind_zero {t : Tm} (h : right t = false) : kind t = 0 := by unfold kind; rw [if_neg (by rw [h]; decide)]
theorem kind_pos {t : Tm} (h : right t = true) : kind t ≠ 0 := by
  rw [kind_ok h]
  obtain ⟨b, r, rfl, hb⟩ := kinds h
  show b.toNat ≠ 0
  have h2 : b = 97 ∨ b = 116 ∨ b = 104 ∨ b = 117 ∨ b = 112 ∨ b = 115 ∨ b = 98 ∨ b = 103 := by
    rcases hb with h | h | (h | h) | (h | h | h | h) <;> simp [h]
  rcases h2 with h | h | h | h | h | h | h | h <;> (rw [h]; decide)
set_option maxHeartbeats 4000000 in
set_option maxRecDepth 1000000 in
theorem check_any (a : Option Addr) (c : Nat) (ys : List ByteArray) (w : World) (hr : SReads w a ys) (hn : ys.length ≤ 140737488355328) (hz : ∀ y ∈ ys, y.size ≤ 140737488355328) :
    Calls Tryz.prog 63 #[.slice a ys.length c] w fun e w' => e = .returned (.int .i64 (ckV (bl ys))) ∧ Below w.heap.size w w' := by
  have HR := Lib.hid hr
  have HZ := Lib.hid hz
  clear hr hz
  go_enter Tryz.func63, Tryz.ntmps63
  go_wp2_with fail
  go_loopw [7] (fun i wr => ∃ j : Nat, j ≤ ys.length ∧ i = .int .i64 j ∧ Hid (((bl ys).take j).all right = true) ∧ Hid (Below w.heap.size w wr)) (fun i _ => ys.length - (intOf i).toNat)
  case atStart => exact ⟨0, Nat.zero_le _, rfl, rfl, Below.refl _ _⟩
  case round =>
    obtain ⟨j, hj, rfl, HA, HB⟩ := hrel
    by_cases hlt : j < ys.length
    · obtain ⟨Y, hY⟩ : ∃ Y, ys[j]? = some Y := ⟨_, List.getElem?_eq_getElem hlt⟩
      obtain ⟨b, off, rfl, hblt, hcell⟩ := reads_at (HR.out.below HB.out (Nat.le_refl _)) j hY
      have HTK := Lib.hid (take_get hY)
      have hYz := HZ.out Y (List.mem_of_getElem? hY)
      have HYM : Hid (Y.data.toList ∈ bl ys) := List.mem_map.2 ⟨Y, List.mem_of_getElem? hY, rfl⟩
      clear hY
      cases hrt : right Y.data.toList with
      | false =>
        have HRT := Lib.hid hrt
        clear hrt
        go_wp2_with fail
        refine (t_Kind Y _ hYz).mono ?_
        rw [kind_zero HRT.out]
        rintro e w2 ⟨rfl, hb2⟩
        have HB2 := Lib.hid (HB.out.trans (hb2.mono HB.out.size))
        clear hb2
        dsimp only
        go_wp2
        go_ret
        refine ⟨?_, HB2.out⟩
        have : (bl ys).all right = false := by
          rw [List.all_eq_false]
          exact ⟨_, HYM.out, by rw [HRT.out]; decide⟩
        unfold ckV
        rw [if_pos this]
        rfl
      | true =>
        have HRT := Lib.hid hrt
        obtain ⟨kd, hkd⟩ : ∃ kd, kind Y.data.toList = kd := ⟨_, rfl⟩
        have hk0 : ¬ ((kd : Nat) : Int) = 0 := by have := kind_pos hrt; omega
        clear hrt
        go_wp2_with fail
        refine (t_Kind Y _ hYz).mono ?_
        rw [hkd]
        rintro e w2 ⟨rfl, hb2⟩
        have HB2 := Lib.hid (HB.out.trans (hb2.mono HB.out.size))
        clear hb2 hkd
        dsimp only
        go_wp2
        go_roundw
        case rel =>
          refine ⟨j + 1, by omega, by go_num, ?_, HB2⟩
          show ((bl ys).take (j + 1)).all right = true
          rw [HTK.out, List.all_append, HA.out]
          simp [HRT.out]
        case measure => simp [intOf]; omega
    · obtain rfl : j = ys.length := by omega
      have hall := HA.out
      rw [← bl_take, List.take_length] at hall
      have HALL := Lib.hid hall
      clear hall HA
      by_cases h200 : 200 < ys.length
      · have h2 : (200 : Int) < (ys.length : Int) := by omega
        go_wp2
        go_ret
        refine ⟨?_, HB.out⟩
        unfold ckV
        rw [if_neg (by rw [HALL.out]; decide), if_pos (by rw [bl_len]; exact h200)]
        rfl
      · have h2 : ¬ (200 : Int) < (ys.length : Int) := by omega
        go_wp2
        go_ret
        refine ⟨?_, HB.out⟩
        unfold ckV
        rw [if_neg (by rw [HALL.out]; decide), if_neg (by rw [bl_len]; exact h200)]
        rfl
theorem MindX.lv {lv lv' base pb : Nat} {K : List Tm} {F : Tm → Fa} {N : List Tm} {w : World} (h : MindX lv base pb (fun _ => False) K F N w) : MindX lv' base pb (fun _ => False) K F N w := by
  obtain ⟨mb, own, nv, V, hm, _⟩ := h
  exact ⟨mb, own, nv, V, hm, fun _ h => h.elim⟩
/-- The mind of nothing. -/
theorem mind_none (w : World) : MindX 6 w.heap.size (w.heap.size + 1) (fun _ => False) [] (fun _ => fa0) [] ((w.alloc (.map #[] 0)).alloc (.cells #[.map (some w.heap.size), .slice none 0 0] 83)) := by
  have hs : (w.alloc (.map #[] 0)).heap.size = w.heap.size + 1 := by simp
  have hh : ((w.alloc (.map #[] 0)).alloc (.cells #[.map (some w.heap.size), .slice none 0 0] 83)).heap[w.heap.size + 1]? = some (.cells #[.map (some w.heap.size), .slice none 0 0] 83 (0, 0)) := by
    have := heap_alloc_new (w.alloc (.map #[] 0)) (.cells #[.map (some w.heap.size), .slice none 0 0] 83)
    rw [hs] at this; exact this
  refine ⟨w.heap.size, fun b => if b = w.heap.size then (2, []) else (1, []), .slice none 0 0, fun _ => undef, ⟨hh, ⟨by simp, by omega⟩, ⟨by simp, Nat.le_refl _⟩, (mapIs_made w _).block ((MapKept.heap_alloc _ _).2 _ (by simp)), IsRow.nil _ _ _ _, fun t ht => (List.not_mem_nil ht).elim⟩, fun _ h => h.elim⟩
set_option maxHeartbeats 8000000 in
set_option maxRecDepth 1000000 in
theorem hold_any (a : Option Addr) (c : Nat) (ys : List ByteArray) (w : World) (hr : SReads w a ys) (hn : ys.length ≤ 200) (hright : ∀ h ∈ bl ys, right h = true) :
    Calls Tryz.prog 64 #[.slice a ys.length c] w fun e w' => ∃ (pb : Nat) (K : List Tm) (F : Tm → Fa) (N : List Tm), e = .returned (.pointer (some ⟨pb, 0, none⟩)) ∧ MindX 6 w.heap.size pb (fun _ => False) K F N w' ∧ Ln (bl ys) K F N [] ∧ Bd (ys.length * 16001) K F N ∧ (∀ h ∈ bl ys, (F h).1 = true) ∧ Below w.heap.size w w' := by
  have HR := Lib.hid hr
  have HRT := Lib.hid hright
  have HB0 : Hid (∀ o1 o2, Below w.heap.size w ((w.alloc o1).alloc o2)) := fun o1 o2 => two_new w o1 o2
  have HM0 := Lib.hid (mind_none w)
  have hmm := @run_makeMap Tryz.prog
  clear hr hright
  go_enter Tryz.func64, Tryz.ntmps64
  go_wp2_with fail
  go_loopw [11] (fun i wr => ∃ (j : Nat) (K : List Tm) (F : Tm → Fa) (N : List Tm), j ≤ ys.length ∧ i = .int .i64 j ∧ Hid (MindX 6 w.heap.size (w.heap.size + 1) (fun _ => False) K F N wr) ∧ Hid (Ln (bl ys) K F N []) ∧ Hid (Bd (j * 16001) K F N) ∧ Hid (∀ h ∈ (bl ys).take j, (F h).1 = true) ∧ Hid (Below w.heap.size w wr)) (fun i _ => ys.length - (intOf i).toNat)
  case atStart => exact ⟨0, _, _, _, Nat.zero_le _, rfl, HM0, ln_none _, ⟨Nat.zero_le _, fun _ => ⟨Nat.zero_le _, Nat.zero_le _⟩, Nat.zero_le _⟩, (fun h hh => by simp at hh), HB0.out _ _⟩
  case round =>
    obtain ⟨j, K, F, N, hj, rfl, HM, HL, HBD, HH, HB⟩ := hrel
    by_cases hlt : j < ys.length
    · obtain ⟨Y, hY⟩ : ∃ Y, ys[j]? = some Y := ⟨_, List.getElem?_eq_getElem hlt⟩
      obtain ⟨b, off, rfl, hblt, hcell⟩ := reads_at (HR.out.below HB.out (Nat.le_refl _)) j hY
      have HTK := Lib.hid (take_get hY)
      have hYM : Y.data.toList ∈ bl ys := List.mem_map.2 ⟨Y, List.mem_of_getElem? hY, rfl⟩
      have hYR := HRT.out _ hYM
      have hYl := (right_len hYR).2
      have hYs : Y.size ≤ 4000 := by rw [Lib.size_eq]; exact hYl
      have HYM := Lib.hid hYM
      have HLE := Lib.hid (learn_any (bl ys) w.heap.size (w.heap.size + 1) _ Y (Nat.lt_succ_self _) hYR (fun _ => False) K F N [] (j * 16001) wr HM.out HL.out (fun a h => (List.not_mem_nil h).elim) HBD.out (by omega))
      clear hY hYM hYR
      go_wp2_with fail
      refine HLE.out.mono ?_
      rintro e w2 ⟨rfl, hb2, _, K2, F2, N2, hm2, hr2⟩
      have HM2 := Lib.hid hm2
      have HR2 := Lib.hid hr2
      have HB2 := Lib.hid (HB.out.trans hb2)
      have HBD2 : Hid (Bd (j * 16001 + 16000) K2 F2 N2) := hr2.bd.mono (by omega)
      have hk2 : K2.length ≤ 90000000 := by have := HBD2.out.1; omega
      have hn2 : N2.length ≤ 90000000 := by have := HBD2.out.2.2; omega
      clear hm2 hr2 hb2 HLE
      dsimp only
      go_wp2_with fail
      refine (have_any 6 w.heap.size (w.heap.size + 1) (by decide) _ K2 F2 N2 Y _ HM2.out hYs HR2.out.here (by omega) (by omega)).mono ?_
      rintro e w3 ⟨rfl, hm3, hb3, _⟩
      have HM3 := Lib.hid hm3
      have HB3 := Lib.hid (HB2.out.trans hb3)
      have HG := Lib.hid (gr_hv (held := bl ys) (F := F2) N2 HR2.out.here (had_held HYM.out))
      clear hm3 hb3
      dsimp only
      go_wp2
      go_roundw
      case rel =>
        refine ⟨j + 1, K2, _, _, by omega, by go_num, HM3, ln_gr HR2.out.ln HG.out.1, (bd_gr HBD2.out HG.out.1 (hvN_len F2 N2 _)).mono (by omega), ?_, HB3⟩
        show ∀ h ∈ (bl ys).take (j + 1), _
        rw [HTK.out]
        intro h hh
        rcases List.mem_append.1 hh with h1 | h1
        · exact HG.out.1.had h (by rw [HR2.out.same h]; exact HH.out h h1)
        · rw [List.mem_singleton.1 h1]; exact HG.out.2
      case measure => simp [intOf]; omega
    · obtain rfl : j = ys.length := by omega
      have hall := HH.out
      rw [← bl_take, List.take_length] at hall
      have HALL := Lib.hid hall
      clear hall HH
      go_wp2
      go_ret
      exact ⟨_, K, F, N, rfl, HM.out, HL.out, HBD.out, HALL.out, HB.out⟩
end Go.Proofs.YtjdignbmlfbdnaaGreat.Clo

/-
  WHAT THE LANDED CODE ANSWERS (package closure): the contracts of its Apart and its Derives. By an AI agent; no person has read it.
-/
namespace Go.Proofs.YtjdignbmlfbdnaaGreat.Clo
open Go.RowKit Wire Term

theorem ck_wrong {l : List Tm} (h : l.all right = false) : ckV l = 1 ∧ ∃ x ∈ l, right x = false := by
  refine ⟨by unfold ckV; rw [if_pos h], ?_⟩
  rw [List.all_eq_false] at h
  obtain ⟨x, hx, h⟩ := h
  exact ⟨x, hx, by simpa using h⟩
theorem ck_right {l : List Tm} (h : l.all right = true) : ∀ x ∈ l, right x = true := fun x hx => by
  have := List.all_eq_true.1 h x hx
  simpa using this
/-- The work begins. -/
theorem work_starts {held K : List Tm} {F : Tm → Fa} {N : List Tm} {B : Nat} (h : Ln held K F N []) (hb : Bd B K F N) (hB : B ≤ 20000000) (hh : ∀ x ∈ held, (F x).1 = true) : Wk held K F N ∧ K.length ≤ 100000000 ∧ N.length + uns F K ≤ 99999990 := by
  have h1 := hb.1
  have h2 := hb.2.2
  have h3 := uns_le F K
  exact ⟨wk_start h hh, by omega, by omega⟩
set_option maxHeartbeats 8000000 in
set_option maxRecDepth 1000000 in
theorem derives_ok : DerivesOK := fun a c ys t w hr hc hn hz ht => by
  have HCK := Lib.hid (check_any a c ys w hr hn hz)
  have HR := Lib.hid hr
  clear hr hz
  cases hall : (bl ys).all right with
  | false =>
    obtain ⟨e1, e2⟩ := ck_wrong hall
    rw [e1] at HCK
    have HE := Lib.hid e2
    clear e2 hall e1
    go_enter Tryz.func25, Tryz.ntmps25
    go_wp2_with fail
    refine HCK.out.mono ?_
    rintro e w1 ⟨rfl, hb1⟩
    have HB1 := Lib.hid hb1
    clear hb1 HCK
    dsimp only
    go_wp2
    go_ret2
    exact ⟨⟨false, 1, .inl ⟨HE.out, rfl, rfl⟩, rfl⟩, HB1.out⟩
  | true =>
    have HALL := Lib.hid (ck_right hall)
    by_cases h200 : 200 < ys.length
    · have e1 : ckV (bl ys) = 10 := by unfold ckV; rw [if_neg (by rw [hall]; decide), if_pos (by rw [bl_len]; exact h200)]
      rw [e1] at HCK
      clear hall e1
      go_enter Tryz.func25, Tryz.ntmps25
      go_wp2_with fail
      refine HCK.out.mono ?_
      rintro e w1 ⟨rfl, hb1⟩
      have HB1 := Lib.hid hb1
      clear hb1 HCK
      dsimp only
      go_wp2
      go_ret2
      exact ⟨⟨false, 10, .inr (.inl ⟨HALL.out, by rw [bl_len]; exact h200, rfl, rfl⟩), rfl⟩, HB1.out⟩
    · have e1 : ckV (bl ys) = 0 := by unfold ckV; rw [if_neg (by rw [hall]; decide), if_neg (by rw [bl_len]; exact h200)]
      rw [e1] at HCK
      clear hall e1
      cases hrt : right t.data.toList with
      | false =>
        have HRT := Lib.hid hrt
        clear hrt
        go_enter Tryz.func25, Tryz.ntmps25
        go_wp2_with fail
        refine HCK.out.mono ?_
        rintro e w1 ⟨rfl, hb1⟩
        have HB1 := Lib.hid hb1
        clear hb1 HCK
        dsimp only
        go_wp2_with fail
        refine (t_Kind t _ ht).mono ?_
        rw [kind_zero HRT.out]
        rintro e w2 ⟨rfl, hb2⟩
        have HB2 := Lib.hid (HB1.out.trans (hb2.mono HB1.out.size))
        clear hb2
        dsimp only
        go_wp2
        go_ret2
        exact ⟨⟨false, 1, .inr (.inr (.inl ⟨HALL.out, by rw [bl_len]; omega, HRT.out, rfl, rfl⟩)), rfl⟩, HB2.out⟩
      | true =>
        have HRT := Lib.hid hrt
        obtain ⟨kd, hkd⟩ : ∃ kd, kind t.data.toList = kd := ⟨_, rfl⟩
        have hk0 : ¬ ((kd : Nat) : Int) = 0 := by have := kind_pos hrt; omega
        have htl := (right_len hrt).2
        have hts : t.size ≤ 4000 := by rw [Lib.size_eq]; exact htl
        have q1 := field_made
        clear hrt
        go_enter Tryz.func25, Tryz.ntmps25
        go_wp2_with fail
        refine HCK.out.mono ?_
        rintro e w1 ⟨rfl, hb1⟩
        have HB1 := Lib.hid hb1
        have HR1 := Lib.hid (HR.out.below hb1 (Nat.le_refl _))
        clear hb1 HCK
        dsimp only
        go_wp2_with fail
        refine (t_Kind t _ ht).mono ?_
        rw [hkd]
        rintro e w2 ⟨rfl, hb2⟩
        have HB2 := Lib.hid (HB1.out.trans (hb2.mono HB1.out.size))
        have HR2 := Lib.hid (HR1.out.below hb2 (Nat.le_refl _))
        clear hb2 hkd
        dsimp only
        go_wp2_with fail
        refine (hold_any a c ys _ HR2.out (by omega) HALL.out).mono ?_
        rintro e w3 ⟨pb, K, F, N, rfl, hm3, hl3, hbd3, hh3, hb3⟩
        have HB3 := Lib.hid (HB2.out.trans (hb3.mono HB2.out.size))
        have HH3 := Lib.hid hh3
        have HLE := Lib.hid (learn_any (bl ys) w2.heap.size pb _ t (Nat.lt_succ_self _) HRT.out (fun _ => False) K F N [] (ys.length * 16001) w3 hm3 hl3 (fun a h => (List.not_mem_nil h).elim) hbd3 (by omega))
        have hws : w.heap.size ≤ w2.heap.size := HB2.out.size
        clear hm3 hl3 hbd3 hh3 hb3
        dsimp only
        go_wp2_with fail
        refine HLE.out.mono ?_
        rintro e w4 ⟨rfl, hb4, _, K4, F4, N4, hm4, hr4⟩
        obtain ⟨hw, hK, hM⟩ := work_starts hr4.ln hr4.bd (by omega) (fun x hx => by rw [hr4.same x]; exact HH3.out x hx)
        have HM4 := Lib.hid (hm4.lv (lv' := 4))
        have HW := Lib.hid hw
        have HB4 := Lib.hid (HB3.out.trans (hb4.mono hws))
        have HTK : Hid (t.data.toList ∈ K4) := hr4.here
        clear hm4 hr4 hb4 hw HLE
        dsimp only
        go_wp2_with fail
        refine (settle_any (bl ys) w2.heap.size pb _ K4 F4 N4 _ HM4.out HW.out hK hM).mono ?_
        rintro e w5 ⟨rfl, hb5, _, F5, hm5, hw5⟩
        obtain ⟨mb, kb, a2, c2, ys2, ia2, oa2, ic2, oc2, c0, hlt2, hbs2, _, _, _, _, _, hrun⟩ := hm5.look (by decide) hts HTK.out
        have HW5 := Lib.hid hw5
        have HB5 := Lib.hid (HB4.out.trans (hb5.mono hws))
        clear hm5 hb5 hw5
        dsimp only
        go_wp2
        go_ret2
        exact ⟨⟨_, 0, .inr (.inr (.inr ⟨HALL.out, by rw [bl_len]; omega, HRT.out, rfl, wk_der HW5.out HTK.out⟩)), rfl⟩, HB5.out⟩
end Go.Proofs.YtjdignbmlfbdnaaGreat.Clo
