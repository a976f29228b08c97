/-
  CONTRACT of the document's gives (letterlockref4). By an AI agent; no person has read it.
-/
import Derived.Test.YtcplagomhfdoaaaCRef
namespace Go.Proofs.Ytcplagomhfdoaaa.Clo
open Go.RowKit Wire Term

/-- What gives answers: a short row of what is given. -/
def GvE (B : Nat) (xs : List ByteArray) (t : List UInt8) (e : Ending) (w' : World) : Prop := ∃ (A : Option Addr) (c : Nat) (gs : List ByteArray), (∀ z, z ∈ bl gs ↔ Gives (fun x => x ∈ bl xs) t z) ∧ gs.length ≤ 2 ∧ gs.length ≤ c ∧ SReads w' A gs ∧ (∀ b off, A = some ⟨b, off, none⟩ → B ≤ b) ∧ e = .returned (.slice A gs.length c)
theorem gvE_nil {B : Nat} {xs : List ByteArray} {t : List UInt8} {w' : World} (h : ∀ z, ¬ Gives (fun x => x ∈ bl xs) t z) : GvE B xs t (.returned (.slice none 0 0)) w' :=
  ⟨none, 0, [], fun z => ⟨fun hz => absurd hz List.not_mem_nil, fun hz => absurd hz (h z)⟩, by simp, Nat.le_refl _, SReads.nil _ _, (fun _ _ h => by cases h), rfl⟩
theorem sreads_tail {w : World} {b off : Nat} {x y : ByteArray} (h : SReads w (some ⟨b, off, none⟩) [x, y]) : SReads w (some ⟨b, off + 1, none⟩) [y] := fun j hj => by
  obtain ⟨b', o', e, hlt, hc⟩ := h 1 (by simp)
  injection e with e
  injection e with e1 e2
  subst e1 e2
  have : j = 0 := by simpa using hj
  subst this
  exact ⟨b, off + 1, rfl, hlt, hc⟩
theorem bl_two {ps : List ByteArray} {x y : List UInt8} (h : bl ps = [x, y]) : ∃ X Y : ByteArray, ps = [X, Y] ∧ X.data.toList = x ∧ Y.data.toList = y := by
  match ps, h with
  | [], h => simp [bl] at h
  | [_], h => simp [bl] at h
  | [X, Y], h =>
    simp only [bl, List.map_cons, List.map_nil, List.cons.injEq, and_true] at h
    exact ⟨X, Y, rfl, h.1, h.2⟩
  | _ :: _ :: _ :: _, h => simp [bl] at h
theorem gives_other {S : List UInt8 → Prop} {t z : List UInt8} (h : t.headD 0 ≠ 112 ∧ t.headD 0 ≠ 103 ∧ t.headD 0 ≠ 115 ∧ t.headD 0 ≠ 98) : ¬ Gives S t z := fun hg => by
  rcases hg with ⟨h1, _⟩ | ⟨h1, _⟩ | ⟨h1, _⟩ | ⟨h1, _⟩
  · exact h.1 h1
  · exact h.2.1 h1
  · exact h.2.2.1 h1
  · exact h.2.2.2 h1
/-- The two parts of a term whose kind has two. -/
theorem two_of {t : ByteArray} {k : UInt8} (h : right t.data.toList = true) (hk : t.data.toList.headD 0 = k) (hb : k = 112 ∨ k = 115 ∨ k = 98 ∨ k = 103) :
    ∃ x y, pts t.data.toList = [x, y] ∧ right x = true ∧ right y = true ∧ (k = 98 → x.head? = some 117) := by
  obtain ⟨b, r, he, _⟩ := kinds h
  rw [he] at h hk ⊢
  obtain rfl : b = k := hk
  obtain ⟨x, y, _, h1, h2, h3, h4⟩ := pts_two h hb
  exact ⟨x, y, h1, h2, h3, h4⟩
theorem pub_tail {x : List UInt8} (h : right x = true) (hu : x.head? = some 117) : right x.tail = true := by
  cases x with
  | nil => cases hu
  | cons b r =>
    obtain rfl : b = 117 := Option.some.inj hu
    exact (pts_one h (.inr rfl)).2
theorem fresh_at {B b off : Nat} (h : B ≤ b) : ∀ b' off', (some ⟨b, off, none⟩ : Option Addr) = some ⟨b', off', none⟩ → B ≤ b' := fun b' off' e => by
  injection e with e
  injection e with e1 _
  rw [← e1]; exact h
set_option maxHeartbeats 4000000 in
set_option maxRecDepth 1000000 in
theorem gives_pair (a : Option Addr) (c : Nat) (xs : List ByteArray) (t : ByteArray) (w : World) (hr : SReads w a xs) (_ : xs.length ≤ 140737488355328) (ht : right t.data.toList = true) (hk : t.data.toList.headD 0 = 112) :
    Calls Try.prog 58 #[.slice a xs.length c, .string t] w fun e w' => GvE w.heap.size xs t.data.toList e w' ∧ Below w.heap.size w w' := by
  have HR := Lib.hid hr
  have HT := Lib.hid ht
  have hz := (right_sz ht).2
  obtain ⟨h0, hhead⟩ := head_byte ht
  have hz0 : (0 : Int) < (t.size : Int) := by omega
  have c112 : ((t[0].toNat : Int) == 112) = true := byte_eq (y := 112) (hhead.symm.trans hk)
  obtain ⟨x, y, hp, hxr, hyr, hu⟩ := two_of ht hk (by simp)
  have HK := Lib.hid hk
  have HP := Lib.hid hp
  have HXR := Lib.hid hxr
  have HU := Lib.hid hu
  clear hr ht hp hxr hyr hu hk hhead
  go_enter Try.func58, Try.ntmps58
  go_wp2_with fail
  refine (partsF_any t _ (by omega)).mono ?_
  rw [parts_right HT.out]
  rintro e w2 ⟨⟨P, pc, ps, hps, hpc, hpr, hpf, rfl⟩, hb2⟩
  dsimp only at hps ⊢
  have HB2 := Lib.hid hb2
  rw [HP.out] at hps
  obtain ⟨X, Y, rfl, hX, hY⟩ := bl_two hps
  obtain ⟨b0, o0, he0, hl0, hc0⟩ := hpr 0 (by simp)
  subst he0
  have hc0' : w2.cell? ⟨b0, o0, none⟩ = some (.string X) := hc0
  have HPR := Lib.hid hpr
  have HPF : Hid (w.heap.size ≤ b0) := hpf b0 o0 rfl
  have HX := Lib.hid hX
  have HY := Lib.hid hY
  have hpc1 : (1 : Int) ≤ (pc : Int) := by simp at hpc; omega
  have hpc2 : (2 : Int) ≤ (pc : Int) := by simp at hpc; omega
  have hpn : 2 ≤ pc := by simpa using hpc
  clear hpf hps hb2 hpr hX hY hc0
  go_wp2
  go_ret
  refine ⟨⟨_, pc, [X, Y], fun z => ?_, by simp, hpc, HPR.out, fresh_at HPF.out, rfl⟩, HB2.out⟩
  have e : bl [X, Y] = pts t.data.toList := by rw [HP.out, ← HX.out, ← HY.out]; rfl
  rw [e]
  constructor
  · intro h; exact .inl ⟨HK.out, h⟩
  · exact gives_pts
set_option maxHeartbeats 4000000 in
set_option maxRecDepth 1000000 in
theorem gives_signed (a : Option Addr) (c : Nat) (xs : List ByteArray) (t : ByteArray) (w : World) (hr : SReads w a xs) (_ : xs.length ≤ 140737488355328) (ht : right t.data.toList = true) (hk : t.data.toList.headD 0 = 103) :
    Calls Try.prog 58 #[.slice a xs.length c, .string t] w fun e w' => GvE w.heap.size xs t.data.toList e w' ∧ Below w.heap.size w w' := by
  have HR := Lib.hid hr
  have HT := Lib.hid ht
  have hz := (right_sz ht).2
  obtain ⟨h0, hhead⟩ := head_byte ht
  have hz0 : (0 : Int) < (t.size : Int) := by omega
  have c112 : ((t[0].toNat : Int) == 112) = false := byte_ne (y := 112) (fun e => absurd ((hhead.trans e).symm.trans hk) (by decide))
  have c103 : ((t[0].toNat : Int) == 103) = true := byte_eq (y := 103) (hhead.symm.trans hk)
  obtain ⟨x, y, hp, hxr, hyr, hu⟩ := two_of ht hk (by simp)
  have HK := Lib.hid hk
  have HP := Lib.hid hp
  have HXR := Lib.hid hxr
  have HU := Lib.hid hu
  clear hr ht hp hxr hyr hu hk hhead
  go_enter Try.func58, Try.ntmps58
  go_wp2_with fail
  refine (partsF_any t _ (by omega)).mono ?_
  rw [parts_right HT.out]
  rintro e w2 ⟨⟨P, pc, ps, hps, hpc, hpr, hpf, rfl⟩, hb2⟩
  dsimp only at hps ⊢
  have HB2 := Lib.hid hb2
  rw [HP.out] at hps
  obtain ⟨X, Y, rfl, hX, hY⟩ := bl_two hps
  obtain ⟨b0, o0, he0, hl0, hc0⟩ := hpr 0 (by simp)
  subst he0
  have hc0' : w2.cell? ⟨b0, o0, none⟩ = some (.string X) := hc0
  have HPR := Lib.hid hpr
  have HPF : Hid (w.heap.size ≤ b0) := hpf b0 o0 rfl
  have HX := Lib.hid hX
  have HY := Lib.hid hY
  have hpc1 : (1 : Int) ≤ (pc : Int) := by simp at hpc; omega
  have hpc2 : (2 : Int) ≤ (pc : Int) := by simp at hpc; omega
  have hpn : 2 ≤ pc := by simpa using hpc
  clear hpf hps hb2 hpr hX hY hc0
  go_wp2
  go_ret
  refine ⟨⟨_, pc - 1, [Y], fun z => ?_, by simp, by simp; omega, sreads_tail HPR.out, fresh_at HPF.out, rfl⟩, HB2.out⟩
  have e : bl [Y] = (pts t.data.toList).drop 1 := by rw [HP.out, ← HY.out]; rfl
  rw [e]
  constructor
  · intro h; exact .inr (.inl ⟨HK.out, h⟩)
  · rintro (⟨h, _⟩ | ⟨_, h⟩ | ⟨h, _⟩ | ⟨h, _⟩)
    · rw [HK.out] at h; exact absurd h (by decide)
    · exact h
    · rw [HK.out] at h; exact absurd h (by decide)
    · rw [HK.out] at h; exact absurd h (by decide)
set_option maxHeartbeats 4000000 in
set_option maxRecDepth 1000000 in
theorem gives_sealed (a : Option Addr) (c : Nat) (xs : List ByteArray) (t : ByteArray) (w : World) (hr : SReads w a xs) (hx : xs.length ≤ 140737488355328) (ht : right t.data.toList = true) (hk : t.data.toList.headD 0 = 115) :
    Calls Try.prog 58 #[.slice a xs.length c, .string t] w fun e w' => GvE w.heap.size xs t.data.toList e w' ∧ Below w.heap.size w w' := by
  have HR := Lib.hid hr
  have HT := Lib.hid ht
  have hz := (right_sz ht).2
  obtain ⟨h0, hhead⟩ := head_byte ht
  have hz0 : (0 : Int) < (t.size : Int) := by omega
  have c112 : ((t[0].toNat : Int) == 112) = false := byte_ne (y := 112) (fun e => absurd ((hhead.trans e).symm.trans hk) (by decide))
  have c103 : ((t[0].toNat : Int) == 103) = false := byte_ne (y := 103) (fun e => absurd ((hhead.trans e).symm.trans hk) (by decide))
  have c115 : ((t[0].toNat : Int) == 115) = true := byte_eq (y := 115) (hhead.symm.trans hk)
  obtain ⟨x, y, hp, hxr, hyr, hu⟩ := two_of ht hk (by simp)
  have HK := Lib.hid hk
  have HP := Lib.hid hp
  have HXR := Lib.hid hxr
  have HU := Lib.hid hu
  clear hr ht hp hxr hyr hu hk hhead
  go_enter Try.func58, Try.ntmps58
  go_wp2_with fail
  refine (partsF_any t _ (by omega)).mono ?_
  rw [parts_right HT.out]
  rintro e w2 ⟨⟨P, pc, ps, hps, hpc, hpr, hpf, rfl⟩, hb2⟩
  dsimp only at hps ⊢
  have HB2 := Lib.hid hb2
  rw [HP.out] at hps
  obtain ⟨X, Y, rfl, hX, hY⟩ := bl_two hps
  obtain ⟨b0, o0, he0, hl0, hc0⟩ := hpr 0 (by simp)
  subst he0
  have hc0' : w2.cell? ⟨b0, o0, none⟩ = some (.string X) := hc0
  have HPR := Lib.hid hpr
  have HPF : Hid (w.heap.size ≤ b0) := hpf b0 o0 rfl
  have HX := Lib.hid hX
  have HY := Lib.hid hY
  have hpc1 : (1 : Int) ≤ (pc : Int) := by simp at hpc; omega
  have hpc2 : (2 : Int) ≤ (pc : Int) := by simp at hpc; omega
  have hpn : 2 ≤ pc := by simpa using hpc
  clear hpf hps hb2 hpr hX hY hc0
  have HKEY : Hid (X.data.toList = x) := HX.out
  have HCALL := Lib.hid (together_any (X.size + 1) a c xs X w2 (by omega) (HR.out.below HB2.out (Nat.le_refl _)) hx (by rw [HX.out]; exact HXR.out))
  go_wp2_with fail
  refine HCALL.out.mono ?_
  rintro e w3 ⟨⟨b3, hb3, rfl⟩, hbel3⟩
  rw [HKEY.out] at hb3
  have HI3 := Lib.hid hb3
  have HB3 := Lib.hid (Bel.call HB2.out hbel3)
  have HPR3 := Lib.hid (HPR.out.below hbel3 (Nat.le_refl _))
  clear hbel3 hb3 HCALL
  cases b3 with
  | true =>
    have HTG : Hid (Tog (fun x => x ∈ bl xs) x) := HI3.out.1 (by trivial)
    go_wp2
    go_ret
    refine ⟨⟨_, pc - 1, [Y], fun z => ?_, by simp, by simp; omega, sreads_tail HPR3.out, fresh_at HPF.out, rfl⟩, HB3.out⟩
    have e : bl [Y] = (pts t.data.toList).drop 1 := by rw [HP.out, ← HY.out]; rfl
    rw [e]
    constructor
    · intro h; exact .inr (.inr (.inl ⟨HK.out, by rw [HP.out]; exact HTG.out, h⟩))
    · rintro (⟨h, _⟩ | ⟨h, _⟩ | ⟨_, _, h⟩ | ⟨h, _⟩)
      · rw [HK.out] at h; exact absurd h (by decide)
      · rw [HK.out] at h; exact absurd h (by decide)
      · exact h
      · rw [HK.out] at h; exact absurd h (by decide)
  | false =>
    have HTG : Hid (¬ Tog (fun x => x ∈ bl xs) x) := fun h => absurd (HI3.out.2 h) (by decide)
    go_wp2
    go_ret
    refine ⟨gvE_nil fun z hg => ?_, HB3.out⟩
    rcases hg with ⟨h, _⟩ | ⟨h, _⟩ | ⟨_, h, _⟩ | ⟨h, _⟩
    · rw [HK.out] at h; exact absurd h (by decide)
    · rw [HK.out] at h; exact absurd h (by decide)
    · rw [HP.out] at h; exact HTG.out h
    · rw [HK.out] at h; exact absurd h (by decide)
set_option maxHeartbeats 4000000 in
set_option maxRecDepth 1000000 in
theorem gives_boxed (a : Option Addr) (c : Nat) (xs : List ByteArray) (t : ByteArray) (w : World) (hr : SReads w a xs) (hx : xs.length ≤ 140737488355328) (ht : right t.data.toList = true) (hk : t.data.toList.headD 0 = 98) :
    Calls Try.prog 58 #[.slice a xs.length c, .string t] w fun e w' => GvE w.heap.size xs t.data.toList e w' ∧ Below w.heap.size w w' := by
  have HR := Lib.hid hr
  have HT := Lib.hid ht
  have hz := (right_sz ht).2
  obtain ⟨h0, hhead⟩ := head_byte ht
  have hz0 : (0 : Int) < (t.size : Int) := by omega
  have c112 : ((t[0].toNat : Int) == 112) = false := byte_ne (y := 112) (fun e => absurd ((hhead.trans e).symm.trans hk) (by decide))
  have c103 : ((t[0].toNat : Int) == 103) = false := byte_ne (y := 103) (fun e => absurd ((hhead.trans e).symm.trans hk) (by decide))
  have c115 : ((t[0].toNat : Int) == 115) = false := byte_ne (y := 115) (fun e => absurd ((hhead.trans e).symm.trans hk) (by decide))
  have c98 : ((t[0].toNat : Int) == 98) = true := byte_eq (y := 98) (hhead.symm.trans hk)
  obtain ⟨x, y, hp, hxr, hyr, hu⟩ := two_of ht hk (by simp)
  have HK := Lib.hid hk
  have HP := Lib.hid hp
  have HXR := Lib.hid hxr
  have HU := Lib.hid hu
  clear hr ht hp hxr hyr hu hk hhead
  go_enter Try.func58, Try.ntmps58
  go_wp2_with fail
  refine (partsF_any t _ (by omega)).mono ?_
  rw [parts_right HT.out]
  rintro e w2 ⟨⟨P, pc, ps, hps, hpc, hpr, hpf, rfl⟩, hb2⟩
  dsimp only at hps ⊢
  have HB2 := Lib.hid hb2
  rw [HP.out] at hps
  obtain ⟨X, Y, rfl, hX, hY⟩ := bl_two hps
  obtain ⟨b0, o0, he0, hl0, hc0⟩ := hpr 0 (by simp)
  subst he0
  have hc0' : w2.cell? ⟨b0, o0, none⟩ = some (.string X) := hc0
  have HPR := Lib.hid hpr
  have HPF : Hid (w.heap.size ≤ b0) := hpf b0 o0 rfl
  have HX := Lib.hid hX
  have HY := Lib.hid hY
  have hpc1 : (1 : Int) ≤ (pc : Int) := by simp at hpc; omega
  have hpc2 : (2 : Int) ≤ (pc : Int) := by simp at hpc; omega
  have hpn : 2 ≤ pc := by simpa using hpc
  clear hpf hps hb2 hpr hX hY hc0
  have hx1 : (1 : Int) ≤ (X.size : Int) := by have := (right_sz (s := X) (by rw [HX.out]; exact HXR.out)).1; omega
  obtain ⟨Z, hZ⟩ : ∃ Z, X.extract 1 X.size = Z := ⟨_, rfl⟩
  have HKEY : Hid (Z.data.toList = x.tail) := by
    show _ = _
    rw [← hZ, extract_drop, HX.out, List.drop_one]
  have HZZ := Lib.hid hZ
  have HCALL := Lib.hid (together_any (Z.size + 1) a c xs Z w2 (by omega) (HR.out.below HB2.out (Nat.le_refl _)) hx (by rw [HKEY.out]; exact pub_tail HXR.out (HU.out (by trivial))))
  go_wp2_with fail
  refine HCALL.out.mono ?_
  rintro e w3 ⟨⟨b3, hb3, rfl⟩, hbel3⟩
  rw [HKEY.out] at hb3
  have HI3 := Lib.hid hb3
  have HB3 := Lib.hid (Bel.call HB2.out hbel3)
  have HPR3 := Lib.hid (HPR.out.below hbel3 (Nat.le_refl _))
  clear hbel3 hb3 HCALL
  cases b3 with
  | true =>
    have HTG : Hid (Tog (fun x => x ∈ bl xs) x.tail) := HI3.out.1 (by trivial)
    go_wp2
    go_ret
    refine ⟨⟨_, pc - 1, [Y], fun z => ?_, by simp, by simp; omega, sreads_tail HPR3.out, fresh_at HPF.out, rfl⟩, HB3.out⟩
    have e : bl [Y] = (pts t.data.toList).drop 1 := by rw [HP.out, ← HY.out]; rfl
    rw [e]
    constructor
    · intro h; exact .inr (.inr (.inr ⟨HK.out, by rw [HP.out]; exact HTG.out, h⟩))
    · rintro (⟨h, _⟩ | ⟨h, _⟩ | ⟨h, _⟩ | ⟨_, _, h⟩)
      · rw [HK.out] at h; exact absurd h (by decide)
      · rw [HK.out] at h; exact absurd h (by decide)
      · rw [HK.out] at h; exact absurd h (by decide)
      · exact h
  | false =>
    have HTG : Hid (¬ Tog (fun x => x ∈ bl xs) x.tail) := fun h => absurd (HI3.out.2 h) (by decide)
    go_wp2
    go_ret
    refine ⟨gvE_nil fun z hg => ?_, HB3.out⟩
    rcases hg with ⟨h, _⟩ | ⟨h, _⟩ | ⟨h, _⟩ | ⟨_, h, _⟩
    · rw [HK.out] at h; exact absurd h (by decide)
    · rw [HK.out] at h; exact absurd h (by decide)
    · rw [HK.out] at h; exact absurd h (by decide)
    · rw [HP.out] at h; exact HTG.out h
set_option maxHeartbeats 4000000 in
set_option maxRecDepth 1000000 in
theorem gives_else (a : Option Addr) (c : Nat) (xs : List ByteArray) (t : ByteArray) (w : World) (hr : SReads w a xs) (_ : xs.length ≤ 140737488355328) (ht : right t.data.toList = true) (hk : t.data.toList.headD 0 ≠ 112 ∧ t.data.toList.headD 0 ≠ 103 ∧ t.data.toList.headD 0 ≠ 115 ∧ t.data.toList.headD 0 ≠ 98) :
    Calls Try.prog 58 #[.slice a xs.length c, .string t] w fun e w' => GvE w.heap.size xs t.data.toList e w' ∧ Below w.heap.size w w' := by
  have HR := Lib.hid hr
  have HT := Lib.hid ht
  have hz := (right_sz ht).2
  obtain ⟨h0, hhead⟩ := head_byte ht
  have hz0 : (0 : Int) < (t.size : Int) := by omega
  have c112 : ((t[0].toNat : Int) == 112) = false := byte_ne (y := 112) (fun e => hk.1 (hhead.trans e))
  have c103 : ((t[0].toNat : Int) == 103) = false := byte_ne (y := 103) (fun e => hk.2.1 (hhead.trans e))
  have c115 : ((t[0].toNat : Int) == 115) = false := byte_ne (y := 115) (fun e => hk.2.2.1 (hhead.trans e))
  have c98 : ((t[0].toNat : Int) == 98) = false := byte_ne (y := 98) (fun e => hk.2.2.2 (hhead.trans e))
  have HK := Lib.hid hk
  clear hr ht hk hhead HR
  go_enter Try.func58, Try.ntmps58
  go_wp2_with fail
  refine (partsF_any t _ (by omega)).mono ?_
  rw [parts_right HT.out]
  rintro e w2 ⟨⟨P, pc, ps, hps, hpc, hpr, hpf, rfl⟩, hb2⟩
  dsimp only at hps ⊢
  have HB2 := Lib.hid hb2
  clear hb2 hps hpr hpc hpf
  go_wp2
  go_ret
  exact ⟨gvE_nil fun z => gives_other HK.out, HB2.out⟩
theorem gives_any (a : Option Addr) (c : Nat) (xs : List ByteArray) (t : ByteArray) (w : World) (hr : SReads w a xs) (hx : xs.length ≤ 140737488355328) (ht : right t.data.toList = true) :
    Calls Try.prog 58 #[.slice a xs.length c, .string t] w fun e w' => GvE w.heap.size xs t.data.toList e w' ∧ Below w.heap.size w w' := by
  by_cases h1 : t.data.toList.headD 0 = 112
  · exact gives_pair a c xs t w hr hx ht h1
  by_cases h2 : t.data.toList.headD 0 = 103
  · exact gives_signed a c xs t w hr hx ht h2
  by_cases h3 : t.data.toList.headD 0 = 115
  · exact gives_sealed a c xs t w hr hx ht h3
  by_cases h4 : t.data.toList.headD 0 = 98
  · exact gives_boxed a c xs t w hr hx ht h4
  exact gives_else a c xs t w hr hx ht ⟨h1, h2, h3, h4⟩
end Go.Proofs.Ytcplagomhfdoaaa.Clo
