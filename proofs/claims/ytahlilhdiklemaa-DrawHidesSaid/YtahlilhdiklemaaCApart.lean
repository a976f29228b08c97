/-
  CONTRACTS of the code's takeApart, putTogether (package closure). By an AI agent; no person has read it.
-/
import Derived.Test.YtahlilhdiklemaaCHave
import Derived.Test.YtahlilhdiklemaaCKey
namespace Go.Proofs.Ytahlilhdiklemaa.Clo
open Go.RowKit Wire Term

/-- An answer of nothing, the mind turned. -/
def WkE (lv base pb : Nat) (X : Nat → Prop) (K : List Tm) (w : World) (R : (Tm → Fa) → List Tm → Prop) (e : Ending) (w' : World) : Prop :=
  e = .returned (.tuple #[]) ∧ Below base w w' ∧ Kp X w w' ∧ ∃ F' N', MindX lv base pb X K F' N' w' ∧ R F' N'
section
variable (held : List Tm) (lv base pb : Nat) (X : Nat → Prop) (K : List Tm) (F : Tm → Fa) (N : List Tm) (s : ByteArray) (w : World)
set_option maxHeartbeats 2000000 in
set_option maxRecDepth 1000000 in
theorem apart_idle (hlv : 4 ≤ lv ∧ lv ≤ 6) (h : MindX lv base pb X K F N w) (hs : s.size ≤ 4000) (ht : s.data.toList ∈ K) (hf : (F s.data.toList).1 = false) :
    Calls Try.prog 50 #[.pointer (some ⟨pb, 0, none⟩), .string s] w fun e w' => WkE lv base pb X K w (Ta1 held K F N s.data.toList) e w' := by
  obtain ⟨mb, kb, a, c, ys, ia, oa, ic, oc, c0, hlt, hbs, hkb, hys, hsr, hyc, _, hrun⟩ := h.look hlv.2 hs ht
  rw [hf] at hrun
  have HA : Hid (∀ o, MindX lv base pb X K F N (w.alloc o) ∧ Kp X w (w.alloc o)) := fun o => h.below ((Below.refl _ _).alloc (Nat.le_refl _) o)
  have HF := Lib.hid hf
  clear h hf hkb hys hsr
  go_enter Try.func50, Try.ntmps50
  go_wp2
  refine bodyPost_ret (results_none rfl _ _ _) rfl ?_
  exact ⟨rfl, (Below.refl _ _).alloc hbs _, (HA.out _).2, _, _, (HA.out _).1, ta_idle HF.out⟩
set_option maxHeartbeats 2000000 in
set_option maxRecDepth 1000000 in
theorem apart_leaf (hlv : 4 ≤ lv ∧ lv ≤ 6) (h : MindX lv base pb X K F N w) (hs : s.size ≤ 4000) (ht : s.data.toList ∈ K) (hf : (F s.data.toList).1 = true) (h1 : s.data.toList.headD 0 ≠ 112) (h2 : s.data.toList.headD 0 ≠ 103) (h3 : s.data.toList.headD 0 ≠ 115) (h4 : s.data.toList.headD 0 ≠ 98) :
    Calls Try.prog 50 #[.pointer (some ⟨pb, 0, none⟩), .string s] w fun e w' => WkE lv base pb X K w (Ta1 held K F N s.data.toList) e w' := by
  obtain ⟨mb, kb, a, c, ys, ia, oa, ic, oc, c0, hlt, hbs, hkb, hys, hsr, hyc, _, hrun⟩ := h.look hlv.2 hs ht
  rw [hf] at hrun
  have ne : ∀ n : UInt8, s.data.toList.headD 0 ≠ n → kb ≠ (n.toNat : Int) := fun n hn e => hn (by rw [hkb] at e; exact UInt8.toNat_inj.1 (by omega))
  have k1 : kb ≠ 112 := ne 112 h1
  have k2 : kb ≠ 103 := ne 103 h2
  have k3 : kb ≠ 115 := ne 115 h3
  have k4 : kb ≠ 98 := ne 98 h4
  have HA : Hid (∀ o, MindX lv base pb X K F N (w.alloc o) ∧ Kp X w (w.alloc o)) := fun o => h.below ((Below.refl _ _).alloc (Nat.le_refl _) o)
  have HT : Hid (Ta1 held K F N s.data.toList F N) := ta_leaf h1 h2 h3 h4
  clear h hf hkb hys hsr h1 h2 h3 h4 ne
  go_enter Try.func50, Try.ntmps50
  go_wp2
  go_end0
  exact ⟨rfl, (Below.refl _ _).alloc hbs _, (HA.out _).2, _, _, (HA.out _).1, HT.out⟩
/-- A term of two parts, ready for a walk: its look-up, its parts' cells, the mind beside them. -/
theorem MindX.two {lv base pb : Nat} {X : Nat → Prop} {K : List Tm} {F : Tm → Fa} {N : List Tm} {s : ByteArray} {w : World} (h : MindX lv base pb X K F N w) (hlv : lv ≤ 6) (hs : s.size ≤ 4000) (ht : s.data.toList ∈ K) {x y : Tm} (hp : pts s.data.toList = [x, y]) :
    ∃ (mb : Nat) (kb : Int) (b off c : Nat) (X' Y' : ByteArray) (ia oa : Option Addr) (ic oc : Nat), w.cell? ⟨pb, 0, none⟩ = some (.map (some mb)) ∧ pb < w.heap.size ∧ base ≤ w.heap.size ∧ kb = (((s.data.toList).headD 0).toNat : Int) ∧ X'.data.toList = x ∧ Y'.data.toList = y ∧ 2 ≤ c ∧
      SReads w (some ⟨b, off, none⟩) [X', Y'] ∧ b < w.heap.size ∧ w.cell? ⟨b, off, none⟩ = some (.string X') ∧ w.cell? ⟨b, off + 1, none⟩ = some (.string Y') ∧ MindX lv base pb (fun x => X x ∨ x = b) K F N w ∧
      (Instr.lookup 57 (.map (some mb)) (.string s) false).run Try.prog w = .ok (.agg #[.int .u8 kb, .slice (some ⟨b, off, none⟩) 2 c, .bool (F s.data.toList).1, .bool (F s.data.toList).2.1, .slice ia (F s.data.toList).2.2.1.length ic, .slice oa (F s.data.toList).2.2.2.length oc]) w := by
  obtain ⟨mb, kb, a, c, ys, ia, oa, ic, oc, c0, hlt, hbs, hkb, hys, hsr, hyc, hX, hrun⟩ := h.look hlv hs ht
  rw [hp] at hys
  obtain ⟨X', Y', rfl, hx, hy⟩ := bl_duo hys
  obtain ⟨b, off, rfl, hb, hc0⟩ := reads_at hsr 0 rfl
  obtain ⟨b2, off2, e, _, hc1⟩ := reads_at hsr 1 rfl
  injection e with e
  injection e with e1 e2 _
  subst e1 e2
  rw [Nat.add_zero] at hc0
  exact ⟨mb, kb, b, off, c, X', Y', ia, oa, ic, oc, c0, hlt, hbs, hkb, hx, hy, hyc, hsr, hb, hc0, hc1, hX b off (by simp) rfl, hrun⟩
theorem duo_of {t : Tm} (h : right t = true) (h1 : t.headD 0 ∈ [112, 115, 98, (103 : UInt8)]) : ∃ x y, pts t = [x, y] := by
  obtain ⟨b, r, rfl, hb⟩ := kinds h
  have h2 : b = 112 ∨ b = 115 ∨ b = 98 ∨ b = 103 := by simpa using h1
  obtain ⟨x, y, _, e, _⟩ := pts_two h h2
  exact ⟨x, y, e⟩
theorem pt_size {t x : Tm} {X : ByteArray} (e : X.data.toList = x) (h : x ∈ pts t) : X.size ≤ 4000 := by
  rw [Lib.size_eq, e]; exact (right_len (pts_right h).1).2
set_option maxHeartbeats 4000000 in
set_option maxRecDepth 1000000 in
theorem apart_pair (hlv : 4 ≤ lv ∧ lv ≤ 6) (h : MindX lv base pb X K F N w) (hs : s.size ≤ 4000) (hkf : Kf K F []) (ht : s.data.toList ∈ K) (hsn : Snd held F) (hK : K.length ≤ 100000000) (hN : N.length + 1 ≤ 100000000) (hf : (F s.data.toList).1 = true) {x y : Tm} (h1 : s.data.toList.headD 0 = 112) (hp : pts s.data.toList = [x, y]) :
    Calls Try.prog 50 #[.pointer (some ⟨pb, 0, none⟩), .string s] w fun e w' => WkE lv base pb X K w (Ta1 held K F N s.data.toList) e w' := by
  obtain ⟨mb, kb, b, off, c, X', Y', ia, oa, ic, oc, c0, hlt, hbs, hkb, ex, ey, hyc, _, hb, d0, d1, hX, hrun⟩ := h.two hlv.2 hs ht hp
  have hx : x ∈ pts s.data.toList := by rw [hp]; simp
  have hy : y ∈ pts s.data.toList := by rw [hp]; simp
  have xK := (hkf.parts _ ht List.not_mem_nil x hx).1
  have yK := (hkf.parts _ ht List.not_mem_nil y hy).1
  have HT : Hid (Ta1 held K F N s.data.toList (hvF (hvF F x) y) (hvN (hvF F x) (hvN F N x) y)) := ta_pair h1 hp xK yK (hsn.1 _ hf).1
  have xs := pt_size ex hx
  have ys := pt_size ey hy
  rw [h1] at hkb
  obtain rfl : kb = 112 := hkb
  rw [hf] at hrun
  have HA : Hid (∀ o, MindX lv base pb X K F N (w.alloc o) ∧ Kp X w (w.alloc o)) := fun o => h.below ((Below.refl _ _).alloc (Nat.le_refl _) o)
  have HX1 := Lib.hid (hX.new hlv.2 (.cells #[.int .u8 112, .slice (some ⟨b, off, none⟩) 2 c, .bool true, .bool (F s.data.toList).2.1, .slice ia (F s.data.toList).2.2.1.length ic, .slice oa (F s.data.toList).2.2.2.length oc] 56))
  have HXK : Hid (X'.data.toList ∈ K) := by rw [← ex] at xK; exact xK
  have HYK : Hid (Y'.data.toList ∈ K) := by rw [← ey] at yK; exact yK
  have EX := Lib.hid ex
  have EY := Lib.hid ey
  clear h hX hf hkf ht hsn hp hx hy xK yK ex ey h1
  go_enter Try.func50, Try.ntmps50
  go_wp2_with fail
  refine (have_any lv base pb hlv.1 _ K F N X' _ HX1.out xs HXK.out hK (by omega)).mono ?_
  rintro e w2 ⟨rfl, hm2, hb2, hk2⟩
  have z1 : w2.cell? ⟨w.heap.size, 1, none⟩ = some (.slice (some ⟨b, off, none⟩) 2 c) := by
    rw [World.cell?_of_block (a := ⟨w.heap.size, 1, none⟩) (hk2 w.heap.size (.inr rfl)), World.cell?_alloc_new]; rfl
  have z2 : w2.cell? ⟨b, off + 1, none⟩ = some (.string Y') := by
    rw [World.cell?_of_block (a := ⟨b, off + 1, none⟩) (hk2 b (.inl (.inr rfl))), World.cell?_alloc_past _ _ _ hb]; exact d1
  have HM2 := Lib.hid hm2
  have HB2 := Lib.hid hb2
  have HK2 := Lib.hid hk2
  have hn2 : (hvN F N X'.data.toList).length ≤ 100000000 := by
    unfold hvN; split
    · omega
    · rw [List.length_append, List.length_singleton]; omega
  clear hm2 hb2 hk2 hrun c0 d0 d1
  dsimp only
  go_wp2_with fail
  refine (have_any lv base pb hlv.1 _ K _ _ Y' _ HM2.out ys HYK.out hK hn2).mono ?_
  rintro e w3 ⟨rfl, hm3, hb3, hk3⟩
  have HM3 := Lib.hid hm3
  have HB3 := Lib.hid hb3
  have HK3 := Lib.hid hk3
  clear hm3 hb3 hk3
  dsimp only
  go_wp2
  go_end0
  refine ⟨rfl, (((Below.refl _ _).alloc hbs _).trans HB2.out).trans HB3.out, ((HA.out _).2.trans (HK2.out.less fun x hx => .inl (.inl hx))).trans (HK3.out.less fun x hx => .inl (.inl hx)), _, _, HM3.out.less (fun x hx => .inl (.inl hx)), ?_⟩
  rw [EX.out, EY.out]
  exact HT.out
set_option maxHeartbeats 4000000 in
set_option maxRecDepth 1000000 in
theorem apart_signed (hlv : 4 ≤ lv ∧ lv ≤ 6) (h : MindX lv base pb X K F N w) (hs : s.size ≤ 4000) (hkf : Kf K F []) (ht : s.data.toList ∈ K) (hsn : Snd held F) (hK : K.length ≤ 100000000) (hN : N.length + 1 ≤ 100000000) (hf : (F s.data.toList).1 = true) {x y : Tm} (h1 : s.data.toList.headD 0 = 103) (hp : pts s.data.toList = [x, y]) :
    Calls Try.prog 50 #[.pointer (some ⟨pb, 0, none⟩), .string s] w fun e w' => WkE lv base pb X K w (Ta1 held K F N s.data.toList) e w' := by
  obtain ⟨mb, kb, b, off, c, X', Y', ia, oa, ic, oc, c0, hlt, hbs, hkb, ex, ey, hyc, _, hb, d0, d1, hX, hrun⟩ := h.two hlv.2 hs ht hp
  have hy : y ∈ pts s.data.toList := by rw [hp]; simp
  have yK := (hkf.parts _ ht List.not_mem_nil y hy).1
  have HT : Hid (Ta1 held K F N s.data.toList (hvF F y) (hvN F N y)) := ta_signed h1 hp yK (hsn.1 _ hf).1
  have ys := pt_size ey hy
  rw [h1] at hkb
  obtain rfl : kb = 103 := hkb
  rw [hf] at hrun
  have HA : Hid (∀ o, MindX lv base pb X K F N (w.alloc o) ∧ Kp X w (w.alloc o)) := fun o => h.below ((Below.refl _ _).alloc (Nat.le_refl _) o)
  have HYK : Hid (Y'.data.toList ∈ K) := by rw [← ey] at yK; exact yK
  have EY := Lib.hid ey
  clear h hX hf hkf ht hsn hp hy yK ex ey h1
  go_enter Try.func50, Try.ntmps50
  go_wp2_with fail
  refine (have_any lv base pb hlv.1 _ K F N Y' _ (HA.out _).1 ys HYK.out hK (by omega)).mono ?_
  rintro e w2 ⟨rfl, hm2, hb2, hk2⟩
  have HM2 := Lib.hid hm2
  have HB2 := Lib.hid hb2
  have HK2 := Lib.hid hk2
  clear hm2 hb2 hk2 hrun c0 d0 d1
  dsimp only
  go_wp2
  go_end0
  refine ⟨rfl, ((Below.refl _ _).alloc hbs _).trans HB2.out, (HA.out _).2.trans HK2.out, _, _, HM2.out, ?_⟩
  rw [EY.out]
  exact HT.out
set_option maxHeartbeats 4000000 in
set_option maxRecDepth 1000000 in
theorem apart_sealed_true (hlv : 4 ≤ lv ∧ lv ≤ 6) (h : MindX lv base pb X K F N w) (hs : s.size ≤ 4000) (hkf : Kf K F []) (ht : s.data.toList ∈ K) (hsn : Snd held F) (hK : K.length ≤ 100000000) (hN : N.length + 1 ≤ 100000000) (hf : (F s.data.toList).1 = true) {x y k : Tm} (h1 : s.data.toList.headD 0 = 115) (hp : pts s.data.toList = [x, y]) (hk : keyT s.data.toList = some k) (hm : (F k).2.1 = true) :
    Calls Try.prog 50 #[.pointer (some ⟨pb, 0, none⟩), .string s] w fun e w' => WkE lv base pb X K w (Ta1 held K F N s.data.toList) e w' := by
  obtain ⟨mb, kb, b, off, c, X', Y', ia, oa, ic, oc, c0, hlt, hbs, hkb, ex, ey, hyc, hsr, hb, d0, d1, hX, hrun⟩ := h.two hlv.2 hs ht hp
  have hx : x ∈ pts s.data.toList := by rw [hp]; simp
  have hy : y ∈ pts s.data.toList := by rw [hp]; simp
  have xK := (hkf.parts _ ht List.not_mem_nil x hx).1
  have yK := (hkf.parts _ ht List.not_mem_nil y hy).1
  have kK := hkf.key_in ht hk
  have ks : k.length ≤ 4000 := (right_len (hkf.good k kK)).2
  have HT : Hid (Ta1 held K F N s.data.toList (hvF F y) (hvN F N y)) := ta_opened hk hp (hsn.2 _ hm) yK (hsn.1 _ hf).1
  have xs := pt_size ex hx
  have ys := pt_size ey hy
  rw [h1] at hkb
  obtain rfl : kb = 115 := hkb
  rw [hf] at hrun
  have HA : Hid (∀ o, MindX lv base pb X K F N (w.alloc o) ∧ Kp X w (w.alloc o)) := fun o => h.below ((Below.refl _ _).alloc (Nat.le_refl _) o)
  have HSR : Hid (∀ o, SReads (w.alloc o) (some ⟨b, off, none⟩) [X', Y']) := fun o => hsr.below ((Below.refl w.heap.size w).alloc (Nat.le_refl _) o) (Nat.le_refl _)
  have HXK : Hid (X'.data.toList ∈ K) := by rw [← ex] at xK; exact xK
  have HYK : Hid (Y'.data.toList ∈ K) := by rw [← ey] at yK; exact yK
  have HKK := Lib.hid kK
  have EY := Lib.hid ey
  have HKEY : Hid (X'.data.toList = k) := by
    rcases key_cases (hkf.good _ ht) hk with ⟨_, y', e⟩ | ⟨e, _⟩
    · rw [hp] at e
      injection e with e _
      rw [ex, e]; exact Lib.hid rfl
    · rw [h1] at e; exact absurd e (by decide)
  have HMM : Hid ((F k).2.1 = true) := hm
  have q1 := field_made
  clear h hX hf hkf ht hsn hp hx hy xK yK kK ex ey h1 hk hm hsr
  go_enter Try.func50, Try.ntmps50
  go_wp2_with fail
  refine (key_sealed pb X' Y' _ c _ _ _ _ _ _ _ _ _ (HSR.out _)).mono ?_
  rintro e w2 ⟨rfl, hb2⟩
  obtain ⟨Z, hZ, eZ⟩ : ∃ Z : ByteArray, Z.data.toList = k ∧ Z = X' := ⟨X', HKEY.out, rfl⟩
  subst eZ
  have HM2 := Lib.hid ((HA.out _).1.below hb2)
  have z1 : w2.cell? ⟨w.heap.size, 1, none⟩ = some (.slice (some ⟨b, off, none⟩) 2 c) := by
    rw [hb2.cell (p := ⟨w.heap.size, 1, none⟩) (by simp), World.cell?_alloc_new]; rfl
  have z2 : w2.cell? ⟨b, off + 1, none⟩ = some (.string Y') := by
    rw [hb2.cell (p := ⟨b, off + 1, none⟩) (by simp; omega), World.cell?_alloc_past _ _ _ hb]; exact d1
  have HB2 : Hid (Below base w w2) := ((Below.refl _ _).alloc hbs _).trans (hb2.mono (by simp; omega))
  clear hb2 hrun c0 d0 d1
  have zs : Z.size ≤ 4000 := by rw [Lib.size_eq, hZ]; exact ks
  have HZK : Hid (Z.data.toList ∈ K) := by rw [hZ]; exact HKK.out
  obtain ⟨mb2, kb2, a2, c2, ys2, ia2, oa2, ic2, oc2, c0, hlt2, hbs2, _, _, _, _, _, hrun⟩ := HM2.out.1.look hlv.2 zs HZK.out
  rw [hZ, HMM.out] at hrun
  have EZ := Lib.hid hZ
  clear hZ
  dsimp only
  go_wp2_with fail
  refine (have_any lv base pb hlv.1 _ K F N Y' _ HM2.out.1 ys HYK.out hK (by omega)).mono ?_
  rintro e w3 ⟨rfl, hm3, hb3, hk3⟩
  have HM3 := Lib.hid hm3
  have HB3 := Lib.hid hb3
  have HK3 := Lib.hid hk3
  clear hm3 hb3 hk3
  dsimp only
  go_wp2
  go_end0
  refine ⟨rfl, HB2.out.trans HB3.out, ((HA.out _).2.trans HM2.out.2).trans HK3.out, _, _, HM3.out, ?_⟩
  rw [EY.out]
  exact HT.out
set_option maxHeartbeats 4000000 in
set_option maxRecDepth 1000000 in
theorem apart_sealed_false (hlv : 4 ≤ lv ∧ lv ≤ 6) (h : MindX lv base pb X K F N w) (hs : s.size ≤ 4000) (hkf : Kf K F []) (ht : s.data.toList ∈ K) (_ : Snd held F) (_ : K.length ≤ 100000000) (_ : N.length + 1 ≤ 100000000) (hf : (F s.data.toList).1 = true) {x y k : Tm} (h1 : s.data.toList.headD 0 = 115) (hp : pts s.data.toList = [x, y]) (hk : keyT s.data.toList = some k) (hm : (F k).2.1 = false) :
    Calls Try.prog 50 #[.pointer (some ⟨pb, 0, none⟩), .string s] w fun e w' => WkE lv base pb X K w (Ta1 held K F N s.data.toList) e w' := by
  obtain ⟨mb, kb, b, off, c, X', Y', ia, oa, ic, oc, c0, hlt, hbs, hkb, ex, ey, hyc, hsr, hb, d0, d1, hX, hrun⟩ := h.two hlv.2 hs ht hp
  have hx : x ∈ pts s.data.toList := by rw [hp]; simp
  have hy : y ∈ pts s.data.toList := by rw [hp]; simp
  have xK := (hkf.parts _ ht List.not_mem_nil x hx).1
  have yK := (hkf.parts _ ht List.not_mem_nil y hy).1
  have kK := hkf.key_in ht hk
  have ks : k.length ≤ 4000 := (right_len (hkf.good k kK)).2
  have HT : Hid (Ta1 held K F N s.data.toList F N) := ta_shut hk hm
  have xs := pt_size ex hx
  have ys := pt_size ey hy
  rw [h1] at hkb
  obtain rfl : kb = 115 := hkb
  rw [hf] at hrun
  have HA : Hid (∀ o, MindX lv base pb X K F N (w.alloc o) ∧ Kp X w (w.alloc o)) := fun o => h.below ((Below.refl _ _).alloc (Nat.le_refl _) o)
  have HSR : Hid (∀ o, SReads (w.alloc o) (some ⟨b, off, none⟩) [X', Y']) := fun o => hsr.below ((Below.refl w.heap.size w).alloc (Nat.le_refl _) o) (Nat.le_refl _)
  have HXK : Hid (X'.data.toList ∈ K) := by rw [← ex] at xK; exact xK
  have HYK : Hid (Y'.data.toList ∈ K) := by rw [← ey] at yK; exact yK
  have HKK := Lib.hid kK
  have EY := Lib.hid ey
  have HKEY : Hid (X'.data.toList = k) := by
    rcases key_cases (hkf.good _ ht) hk with ⟨_, y', e⟩ | ⟨e, _⟩
    · rw [hp] at e
      injection e with e _
      rw [ex, e]; exact Lib.hid rfl
    · rw [h1] at e; exact absurd e (by decide)
  have HMM : Hid ((F k).2.1 = false) := hm
  have q1 := field_made
  clear h hX hf hkf ht hp hx hy xK yK kK ex ey h1 hk hm hsr
  go_enter Try.func50, Try.ntmps50
  go_wp2_with fail
  refine (key_sealed pb X' Y' _ c _ _ _ _ _ _ _ _ _ (HSR.out _)).mono ?_
  rintro e w2 ⟨rfl, hb2⟩
  obtain ⟨Z, hZ, eZ⟩ : ∃ Z : ByteArray, Z.data.toList = k ∧ Z = X' := ⟨X', HKEY.out, rfl⟩
  subst eZ
  have HM2 := Lib.hid ((HA.out _).1.below hb2)
  have z1 : w2.cell? ⟨w.heap.size, 1, none⟩ = some (.slice (some ⟨b, off, none⟩) 2 c) := by
    rw [hb2.cell (p := ⟨w.heap.size, 1, none⟩) (by simp), World.cell?_alloc_new]; rfl
  have z2 : w2.cell? ⟨b, off + 1, none⟩ = some (.string Y') := by
    rw [hb2.cell (p := ⟨b, off + 1, none⟩) (by simp; omega), World.cell?_alloc_past _ _ _ hb]; exact d1
  have HB2 : Hid (Below base w w2) := ((Below.refl _ _).alloc hbs _).trans (hb2.mono (by simp; omega))
  clear hb2 hrun c0 d0 d1
  have zs : Z.size ≤ 4000 := by rw [Lib.size_eq, hZ]; exact ks
  have HZK : Hid (Z.data.toList ∈ K) := by rw [hZ]; exact HKK.out
  obtain ⟨mb2, kb2, a2, c2, ys2, ia2, oa2, ic2, oc2, c0, hlt2, hbs2, _, _, _, _, _, hrun⟩ := HM2.out.1.look hlv.2 zs HZK.out
  rw [hZ, HMM.out] at hrun
  have EZ := Lib.hid hZ
  clear hZ
  dsimp only
  go_wp2
  go_end0
  exact ⟨rfl, HB2.out, (HA.out _).2.trans HM2.out.2, _, _, HM2.out.1, HT.out⟩
set_option maxHeartbeats 4000000 in
set_option maxRecDepth 1000000 in
theorem apart_boxed_true (hlv : 4 ≤ lv ∧ lv ≤ 6) (h : MindX lv base pb X K F N w) (hs : s.size ≤ 4000) (hkf : Kf K F []) (ht : s.data.toList ∈ K) (hsn : Snd held F) (hK : K.length ≤ 100000000) (hN : N.length + 1 ≤ 100000000) (hf : (F s.data.toList).1 = true) {x y k : Tm} (h1 : s.data.toList.headD 0 = 98) (hp : pts s.data.toList = [x, y]) (hk : keyT s.data.toList = some k) (hm : (F k).2.1 = true) :
    Calls Try.prog 50 #[.pointer (some ⟨pb, 0, none⟩), .string s] w fun e w' => WkE lv base pb X K w (Ta1 held K F N s.data.toList) e w' := by
  obtain ⟨mb, kb, b, off, c, X', Y', ia, oa, ic, oc, c0, hlt, hbs, hkb, ex, ey, hyc, hsr, hb, d0, d1, hX, hrun⟩ := h.two hlv.2 hs ht hp
  have hx : x ∈ pts s.data.toList := by rw [hp]; simp
  have hy : y ∈ pts s.data.toList := by rw [hp]; simp
  have xK := (hkf.parts _ ht List.not_mem_nil x hx).1
  have yK := (hkf.parts _ ht List.not_mem_nil y hy).1
  have kK := hkf.key_in ht hk
  have ks : k.length ≤ 4000 := (right_len (hkf.good k kK)).2
  have HT : Hid (Ta1 held K F N s.data.toList (hvF F y) (hvN F N y)) := ta_opened hk hp (hsn.2 _ hm) yK (hsn.1 _ hf).1
  have xs := pt_size ex hx
  have ys := pt_size ey hy
  rw [h1] at hkb
  obtain rfl : kb = 98 := hkb
  rw [hf] at hrun
  have HA : Hid (∀ o, MindX lv base pb X K F N (w.alloc o) ∧ Kp X w (w.alloc o)) := fun o => h.below ((Below.refl _ _).alloc (Nat.le_refl _) o)
  have HSR : Hid (∀ o, SReads (w.alloc o) (some ⟨b, off, none⟩) [X', Y']) := fun o => hsr.below ((Below.refl w.heap.size w).alloc (Nat.le_refl _) o) (Nat.le_refl _)
  have HXK : Hid (X'.data.toList ∈ K) := by rw [← ex] at xK; exact xK
  have HYK : Hid (Y'.data.toList ∈ K) := by rw [← ey] at yK; exact yK
  have HKK := Lib.hid kK
  have EY := Lib.hid ey
  have HKEY : Hid (pts X'.data.toList = [k]) := by
    rcases key_cases (hkf.good _ ht) hk with ⟨e, _⟩ | ⟨_, u, y', e, e2, _⟩
    · rw [h1] at e; exact absurd e (by decide)
    · rw [hp] at e
      injection e with e _
      rw [ex, e]; exact e2
  have HMM : Hid ((F k).2.1 = true) := hm
  have q1 := field_made
  clear h hX hf hkf ht hsn hp hx hy xK yK kK ex ey h1 hk hm hsr
  go_enter Try.func50, Try.ntmps50
  go_wp2_with fail
  refine (key_boxed base pb K F N X' Y' k _ c _ _ _ _ _ _ _ _ _ (HA.out _).1.toE xs HXK.out HKEY.out (HSR.out _)).mono ?_
  rintro e w2 ⟨⟨Z, hZ, rfl⟩, hb2⟩
  have HM2 := Lib.hid ((HA.out _).1.below hb2)
  have z1 : w2.cell? ⟨w.heap.size, 1, none⟩ = some (.slice (some ⟨b, off, none⟩) 2 c) := by
    rw [hb2.cell (p := ⟨w.heap.size, 1, none⟩) (by simp), World.cell?_alloc_new]; rfl
  have z2 : w2.cell? ⟨b, off + 1, none⟩ = some (.string Y') := by
    rw [hb2.cell (p := ⟨b, off + 1, none⟩) (by simp; omega), World.cell?_alloc_past _ _ _ hb]; exact d1
  have HB2 : Hid (Below base w w2) := ((Below.refl _ _).alloc hbs _).trans (hb2.mono (by simp; omega))
  clear hb2 hrun c0 d0 d1
  have zs : Z.size ≤ 4000 := by rw [Lib.size_eq, hZ]; exact ks
  have HZK : Hid (Z.data.toList ∈ K) := by rw [hZ]; exact HKK.out
  obtain ⟨mb2, kb2, a2, c2, ys2, ia2, oa2, ic2, oc2, c0, hlt2, hbs2, _, _, _, _, _, hrun⟩ := HM2.out.1.look hlv.2 zs HZK.out
  rw [hZ, HMM.out] at hrun
  have EZ := Lib.hid hZ
  clear hZ
  dsimp only
  go_wp2_with fail
  refine (have_any lv base pb hlv.1 _ K F N Y' _ HM2.out.1 ys HYK.out hK (by omega)).mono ?_
  rintro e w3 ⟨rfl, hm3, hb3, hk3⟩
  have HM3 := Lib.hid hm3
  have HB3 := Lib.hid hb3
  have HK3 := Lib.hid hk3
  clear hm3 hb3 hk3
  dsimp only
  go_wp2
  go_end0
  refine ⟨rfl, HB2.out.trans HB3.out, ((HA.out _).2.trans HM2.out.2).trans HK3.out, _, _, HM3.out, ?_⟩
  rw [EY.out]
  exact HT.out
set_option maxHeartbeats 4000000 in
set_option maxRecDepth 1000000 in
theorem apart_boxed_false (hlv : 4 ≤ lv ∧ lv ≤ 6) (h : MindX lv base pb X K F N w) (hs : s.size ≤ 4000) (hkf : Kf K F []) (ht : s.data.toList ∈ K) (_ : Snd held F) (_ : K.length ≤ 100000000) (_ : N.length + 1 ≤ 100000000) (hf : (F s.data.toList).1 = true) {x y k : Tm} (h1 : s.data.toList.headD 0 = 98) (hp : pts s.data.toList = [x, y]) (hk : keyT s.data.toList = some k) (hm : (F k).2.1 = false) :
    Calls Try.prog 50 #[.pointer (some ⟨pb, 0, none⟩), .string s] w fun e w' => WkE lv base pb X K w (Ta1 held K F N s.data.toList) e w' := by
  obtain ⟨mb, kb, b, off, c, X', Y', ia, oa, ic, oc, c0, hlt, hbs, hkb, ex, ey, hyc, hsr, hb, d0, d1, hX, hrun⟩ := h.two hlv.2 hs ht hp
  have hx : x ∈ pts s.data.toList := by rw [hp]; simp
  have hy : y ∈ pts s.data.toList := by rw [hp]; simp
  have xK := (hkf.parts _ ht List.not_mem_nil x hx).1
  have yK := (hkf.parts _ ht List.not_mem_nil y hy).1
  have kK := hkf.key_in ht hk
  have ks : k.length ≤ 4000 := (right_len (hkf.good k kK)).2
  have HT : Hid (Ta1 held K F N s.data.toList F N) := ta_shut hk hm
  have xs := pt_size ex hx
  have ys := pt_size ey hy
  rw [h1] at hkb
  obtain rfl : kb = 98 := hkb
  rw [hf] at hrun
  have HA : Hid (∀ o, MindX lv base pb X K F N (w.alloc o) ∧ Kp X w (w.alloc o)) := fun o => h.below ((Below.refl _ _).alloc (Nat.le_refl _) o)
  have HSR : Hid (∀ o, SReads (w.alloc o) (some ⟨b, off, none⟩) [X', Y']) := fun o => hsr.below ((Below.refl w.heap.size w).alloc (Nat.le_refl _) o) (Nat.le_refl _)
  have HXK : Hid (X'.data.toList ∈ K) := by rw [← ex] at xK; exact xK
  have HYK : Hid (Y'.data.toList ∈ K) := by rw [← ey] at yK; exact yK
  have HKK := Lib.hid kK
  have EY := Lib.hid ey
  have HKEY : Hid (pts X'.data.toList = [k]) := by
    rcases key_cases (hkf.good _ ht) hk with ⟨e, _⟩ | ⟨_, u, y', e, e2, _⟩
    · rw [h1] at e; exact absurd e (by decide)
    · rw [hp] at e
      injection e with e _
      rw [ex, e]; exact e2
  have HMM : Hid ((F k).2.1 = false) := hm
  have q1 := field_made
  clear h hX hf hkf ht hp hx hy xK yK kK ex ey h1 hk hm hsr
  go_enter Try.func50, Try.ntmps50
  go_wp2_with fail
  refine (key_boxed base pb K F N X' Y' k _ c _ _ _ _ _ _ _ _ _ (HA.out _).1.toE xs HXK.out HKEY.out (HSR.out _)).mono ?_
  rintro e w2 ⟨⟨Z, hZ, rfl⟩, hb2⟩
  have HM2 := Lib.hid ((HA.out _).1.below hb2)
  have z1 : w2.cell? ⟨w.heap.size, 1, none⟩ = some (.slice (some ⟨b, off, none⟩) 2 c) := by
    rw [hb2.cell (p := ⟨w.heap.size, 1, none⟩) (by simp), World.cell?_alloc_new]; rfl
  have z2 : w2.cell? ⟨b, off + 1, none⟩ = some (.string Y') := by
    rw [hb2.cell (p := ⟨b, off + 1, none⟩) (by simp; omega), World.cell?_alloc_past _ _ _ hb]; exact d1
  have HB2 : Hid (Below base w w2) := ((Below.refl _ _).alloc hbs _).trans (hb2.mono (by simp; omega))
  clear hb2 hrun c0 d0 d1
  have zs : Z.size ≤ 4000 := by rw [Lib.size_eq, hZ]; exact ks
  have HZK : Hid (Z.data.toList ∈ K) := by rw [hZ]; exact HKK.out
  obtain ⟨mb2, kb2, a2, c2, ys2, ia2, oa2, ic2, oc2, c0, hlt2, hbs2, _, _, _, _, _, hrun⟩ := HM2.out.1.look hlv.2 zs HZK.out
  rw [hZ, HMM.out] at hrun
  have EZ := Lib.hid hZ
  clear hZ
  dsimp only
  go_wp2
  go_end0
  exact ⟨rfl, HB2.out, (HA.out _).2.trans HM2.out.2, _, _, HM2.out.1, HT.out⟩
theorem apart_any (hlv : 4 ≤ lv ∧ lv ≤ 6) (h : MindX lv base pb X K F N w) (hs : s.size ≤ 4000) (hkf : Kf K F []) (ht : s.data.toList ∈ K) (hsn : Snd held F) (hK : K.length ≤ 100000000) (hN : N.length + 1 ≤ 100000000) :
    Calls Try.prog 50 #[.pointer (some ⟨pb, 0, none⟩), .string s] w fun e w' => WkE lv base pb X K w (Ta1 held K F N s.data.toList) e w' := by
  cases hf : (F s.data.toList).1 with
  | false => exact apart_idle held lv base pb X K F N s w hlv h hs ht hf
  | true =>
    have hr := hkf.good _ ht
    by_cases h1 : s.data.toList.headD 0 = 112
    · obtain ⟨x, y, hp⟩ := duo_of hr (by rw [h1]; decide)
      exact apart_pair held lv base pb X K F N s w hlv h hs hkf ht hsn hK hN hf h1 hp
    by_cases h2 : s.data.toList.headD 0 = 103
    · obtain ⟨x, y, hp⟩ := duo_of hr (by rw [h2]; decide)
      exact apart_signed held lv base pb X K F N s w hlv h hs hkf ht hsn hK hN hf h2 hp
    by_cases h3 : s.data.toList.headD 0 = 115
    · obtain ⟨x, y, hp⟩ := duo_of hr (by rw [h3]; decide)
      have hk : keyT s.data.toList = some ((pts s.data.toList).headD []) := by unfold keyT; rw [if_pos h3]
      cases hm : (F ((pts s.data.toList).headD [])).2.1 with
      | true => exact apart_sealed_true held lv base pb X K F N s w hlv h hs hkf ht hsn hK hN hf h3 hp hk hm
      | false => exact apart_sealed_false held lv base pb X K F N s w hlv h hs hkf ht hsn hK hN hf h3 hp hk hm
    by_cases h4 : s.data.toList.headD 0 = 98
    · obtain ⟨x, y, hp⟩ := duo_of hr (by rw [h4]; decide)
      have hk : keyT s.data.toList = some ((pts s.data.toList).headD []).tail := by unfold keyT; rw [if_neg h3, if_pos h4]
      cases hm : (F ((pts s.data.toList).headD []).tail).2.1 with
      | true => exact apart_boxed_true held lv base pb X K F N s w hlv h hs hkf ht hsn hK hN hf h4 hp hk hm
      | false => exact apart_boxed_false held lv base pb X K F N s w hlv h hs hkf ht hsn hK hN hf h4 hp hk hm
    exact apart_leaf held lv base pb X K F N s w hlv h hs ht hf h1 h2 h3 h4
end
end Go.Proofs.Ytahlilhdiklemaa.Clo
