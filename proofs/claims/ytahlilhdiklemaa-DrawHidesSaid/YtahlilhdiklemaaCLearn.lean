/-
  CONTRACT of the code's learn (package closure). By an AI agent; no person has read it.
-/
import Derived.Test.YtahlilhdiklemaaCTogether
import Derived.Test.YtahlilhdiklemaaCStand
import Derived.Test.YtahlilhdiklemaaCPartsF
import Derived.Test.YtahlilhdiklemaaCList
namespace Go.Proofs.Ytahlilhdiklemaa.Clo
open Go.RowKit Wire Term

/-- A term is learnt: what is known then. -/
structure Lrn (held K : List Tm) (F : Tm → Fa) (A : List Tm) (B : Nat) (t : Tm) (K' : List Tm) (F' : Tm → Fa) (N' : List Tm) : Prop where
  ln : Ln held K' F' N' A
  bd : Bd B K' F' N'
  here : t ∈ K'
  more : ∀ x ∈ K, x ∈ K'
  same : ∀ x, (F' x).1 = (F x).1
  ins : ∀ p, ∀ x ∈ (F p).2.2.1, x ∈ (F' p).2.2.1
def LnE (held : List Tm) (base pb : Nat) (X : Nat → Prop) (K : List Tm) (F : Tm → Fa) (A : List Tm) (B : Nat) (t : Tm) (w : World) (e : Ending) (w' : World) : Prop :=
  e = .returned (.tuple #[]) ∧ Below base w w' ∧ Kp X w w' ∧ ∃ K' F' N', MindX 6 base pb X K' F' N' w' ∧ Lrn held K F A B t K' F' N'
/-- The parts of t, learnt up to j. -/
structure Lp (held K : List Tm) (F : Tm → Fa) (A : List Tm) (B : Nat) (t : Tm) (j : Nat) (K' : List Tm) (F' : Tm → Fa) (N' : List Tm) : Prop where
  ln : Ln held K' F' N' (t :: A)
  bd : Bd (B + 1 + cost ((pts t).take j)) K' F' N'
  here : t ∈ K'
  more : ∀ x ∈ K, x ∈ K'
  same : ∀ x, (F' x).1 = (F x).1
  ins : ∀ p, ∀ x ∈ (F p).2.2.1, x ∈ (F' p).2.2.1
  done : ∀ p ∈ (pts t).take j, p ∈ K' ∧ t ∈ (F' p).2.2.1
section
variable {held K : List Tm} {F : Tm → Fa} {A : List Tm} {B : Nat} {t : Tm} {j : Nat} {K1 : List Tm} {F1 : Tm → Fa} {N1 : List Tm}
theorem lp_start {N : List Tm} (h : Ln held K F N A) (hB : Bd B K F N) (ht : t ∉ K) (hr : right t = true) : Lp held K F A B t 0 (K ++ [t]) F N where
  ln := ln_add h ht hr
  bd := (bd_add hB t).mono (by simp [cost])
  here := by simp
  more x hx := List.mem_append_left _ hx
  same _ := rfl
  ins _ _ hx := hx
  done p hp := by simp at hp
theorem lp_step {K6 : List Tm} {F6 : Tm → Fa} {N6 : List Tm} {p : Tm} (h : Lp held K F A B t j K1 F1 N1) (r : Lrn held K1 F1 (t :: A) (B + 1 + cost ((pts t).take j) + 4 * p.length) p K6 F6 N6) (hp : p ∈ pts t) (hj : (pts t).take (j + 1) = (pts t).take j ++ [p]) : Lp held K F A B t (j + 1) K6 (inF F6 p t) N6 := by
  have hl := ln_in r.ln r.here (r.more t h.here) hp
  refine ⟨hl.1, (bd_in r.bd p t).mono (by rw [hj, cost_app]; omega), r.more t h.here, fun x hx => r.more x (h.more x hx), fun x => by rw [(inF_flags F6 p t x).1, r.same x, h.same x], fun q x hx => (inF_flags F6 p t q).2.2.2.1 x (r.ins q x (h.ins q x hx)), fun q hq => ?_⟩
  rw [hj] at hq
  rcases List.mem_append.1 hq with hq | hq
  · exact ⟨r.more q (h.done q hq).1, (inF_flags F6 p t q).2.2.2.1 t (r.ins q t (h.done q hq).2)⟩
  · rw [List.mem_singleton.1 hq]; exact ⟨r.here, hl.2⟩
theorem lrn_key {k : Tm} (h : Lp held K F A B t (pts t).length K1 F1 N1) (hr : right t = true) (hk : keyT t = some k) (hkK : k ∈ K1) : Lrn held K F A (B + 4 * t.length) t K1 (opF F1 k t) N1 := by
  have hl := ln_op h.ln hkK h.here
  have hd := h.done
  have hb := h.bd
  rw [List.take_length] at hd hb
  have hc := cost_le hr
  refine ⟨ln_done hl.1 (fun p hp => ⟨(hd p hp).1, by rw [(opF_flags F1 k t p).2.2.1]; exact (hd p hp).2⟩) (fun k' hk' => ?_) (fun h116 => ?_), (bd_op hb k t).mono (by omega), h.here, h.more, fun x => by rw [(opF_flags F1 k t x).1, h.same x], fun q x hx => by rw [(opF_flags F1 k t q).2.2.1]; exact h.ins q x hx⟩
  · rw [hk] at hk'
    rw [← Option.some.inj hk']; exact hl.2
  · rcases key_kind hk with h1 | h1 <;> (rw [h116] at h1; exact absurd h1 (by decide))
theorem lrn_text (h : Lp held K F A B t (pts t).length K1 F1 N1) (hr : right t = true) (h116 : t.headD 0 = 116) : Lrn held K F A (B + 4 * t.length) t K1 (mkF F1 t) (mkN F1 N1 t) := by
  have g := gr_mk (held := held) (F := F1) N1 h.here (tog_iff.2 (.inr (.inl h116)))
  have hl := ln_gr h.ln g.1
  have hd := h.done
  have hb := h.bd
  rw [List.take_length] at hd hb
  have hc := cost_le hr
  refine ⟨ln_done hl (fun p hp => ⟨(hd p hp).1, by rw [g.1.rest p]; exact (hd p hp).2⟩) (fun k' hk' => ?_) (fun _ => g.2), (bd_gr hb g.1 (mkN_len F1 N1 t)).mono (by omega), h.here, h.more, fun x => by rw [mkF_had, h.same x], fun q x hx => by rw [g.1.rest q]; exact h.ins q x hx⟩
  rcases key_kind hk' with h1 | h1 <;> (rw [h116] at h1; exact absurd h1 (by decide))
theorem lrn_else (h : Lp held K F A B t (pts t).length K1 F1 N1) (hr : right t = true) (h116 : t.headD 0 ≠ 116) (h115 : t.headD 0 ≠ 115) (h98 : t.headD 0 ≠ 98) : Lrn held K F A (B + 4 * t.length) t K1 F1 N1 := by
  have hd := h.done
  have hb := h.bd
  rw [List.take_length] at hd hb
  have hc := cost_le hr
  refine ⟨ln_done h.ln hd (fun k' hk' => ?_) (fun h => absurd h h116), hb.mono (by omega), h.here, h.more, h.same, h.ins⟩
  rw [key_none h115 h98] at hk'; cases hk'
end
theorem parts_ok {t : Tm} (h : right t = true) : parts t = (pts t, 0) := by
  unfold pts
  have : (parts t).2 = 0 := by unfold parts; rw [if_pos h]
  rw [← this]
theorem kind_ok {t : Tm} (h : right t = true) : kind t = (t.headD 0).toNat := by unfold kind; rw [if_pos h]
set_option maxHeartbeats 2000000 in
set_option maxRecDepth 1000000 in
/-- A term that is known. -/
theorem learn_known (held : List Tm) (base pb : Nat) (s : ByteArray) (X : Nat → Prop) (K : List Tm) (F : Tm → Fa) (N A : List Tm) (B : Nat) (w : World) (hr : right s.data.toList = true) (h : MindX 6 base pb X K F N w) (hl : Ln held K F N A) (hB : Bd B K F N) (ht : s.data.toList ∈ K) :
    Calls Try.prog 33 #[.pointer (some ⟨pb, 0, none⟩), .string s] w fun e w' => LnE held base pb X K F A (B + 4 * s.data.toList.length) s.data.toList w e w' := by
  have hs : s.size ≤ 4000 := by rw [Lib.size_eq]; exact (right_len hr).2
  have HA : Hid (∀ o, MindX 6 base pb X K F N (w.alloc o) ∧ Kp X w (w.alloc o)) := fun o => h.below ((Below.refl _ _).alloc (Nat.le_refl _) o)
  obtain ⟨mb, own, nv, V, hm, hx⟩ := h
  have c0 := hm.cell0
  have hlt := hm.pb_lt
  have hbs := hm.size
  obtain ⟨kb, b2, a, ia, oa, n, c, il, ic, ol, oc, hV⟩ := hm.value _ ht
  have hrun := hm.map.look_in hs ht
  rw [hV] at hrun
  have HL : Hid (Lrn held K F A (B + 4 * s.data.toList.length) s.data.toList K F N) := ⟨hl, hB.mono (by omega), ht, fun _ h => h, fun _ => rfl, fun _ _ h => h⟩
  clear hm hx hV hl hB ht hr
  go_enter Try.func33, Try.ntmps33
  go_wp2
  refine bodyPost_ret (results_none rfl _ _ _) rfl ?_
  exact ⟨rfl, (Below.refl _ _).alloc hbs _, (HA.out _).2, _, _, _, (HA.out _).1, HL.out⟩
set_option maxHeartbeats 16000000 in
set_option maxRecDepth 1000000 in
theorem learn_new (held : List Tm) (base pb : Nat) (n : Nat)
    (IH : ∀ (s : ByteArray), s.data.toList.length < n → right s.data.toList = true → ∀ (X : Nat → Prop) (K : List Tm) (F : Tm → Fa) (N A : List Tm) (B : Nat) (w : World), MindX 6 base pb X K F N w → Ln held K F N A → (∀ a ∈ A, s.data.toList.length < a.length) → Bd B K F N → B + 4 * s.data.toList.length ≤ 90000000 →
      Calls Try.prog 33 #[.pointer (some ⟨pb, 0, none⟩), .string s] w fun e w' => LnE held base pb X K F A (B + 4 * s.data.toList.length) s.data.toList w e w')
    (s : ByteArray) (hn : s.data.toList.length < n + 1) (hr : right s.data.toList = true) (X : Nat → Prop) (K : List Tm) (F : Tm → Fa) (N A : List Tm) (B : Nat) (w : World) (h : MindX 6 base pb X K F N w) (hl : Ln held K F N A) (hA : ∀ a ∈ A, s.data.toList.length < a.length) (hB : Bd B K F N) (hBm : B + 4 * s.data.toList.length ≤ 90000000) (ht : s.data.toList ∉ K) :
    Calls Try.prog 33 #[.pointer (some ⟨pb, 0, none⟩), .string s] w fun e w' => LnE held base pb X K F A (B + 4 * s.data.toList.length) s.data.toList w e w' := by
  have hs : s.size ≤ 4000 := by rw [Lib.size_eq]; exact (right_len hr).2
  obtain ⟨mb, own, nv, V, hm, hx⟩ := h
  have c0 := hm.cell0
  have hlt := hm.pb_lt
  have hbs := hm.size
  have hrun := hm.map.look_out hs ht
  have HM := Lib.hid hm
  have HX := Lib.hid hx
  have HLN := Lib.hid hl
  have HAA := Lib.hid hA
  have HB := Lib.hid hB
  have HT : Hid (s.data.toList ∉ K) := ht
  have HR := Lib.hid hr
  have HIH := Lib.hid IH
  have HN := Lib.hid hn
  have hKl : K.length ≤ 90000000 := by have := hB.1; omega
  clear hm hx hl hA hB ht hr IH hn
  go_enter Try.func33, Try.ntmps33
  go_wp2_with fail
  refine (t_PartsF s _ HR.out).mono ?_
  rintro e w2 ⟨⟨Ap, pc, ys, hys, hyc, hsr, hfr, rfl⟩, hb2⟩
  rw [parts_ok HR.out] at hys
  have hyl : ys.length ≤ 2 := by rw [← bl_len, hys]; exact pts_le _
  have HYS : Hid (bl ys = pts s.data.toList) := hys
  have HSR := Lib.hid hsr
  have HFR := Lib.hid hfr
  have HB2 : Hid (Below w.heap.size w w2) := ((Below.refl _ _).alloc (Nat.le_refl _) _).trans (hb2.mono (by simp))
  have hp2 : (parts s.data.toList).2 = 0 := by rw [parts_ok HR.out]
  rw [hp2]
  clear hys hsr hfr hb2 hrun c0 hp2
  dsimp only
  go_wp2_with fail
  refine (t_Kind s _ (by omega)).mono ?_
  rw [kind_ok HR.out]
  obtain ⟨kb, ek⟩ : ∃ kb : Int, (((s.data.toList.headD 0).toNat : Nat) : Int) = kb := ⟨_, rfl⟩
  rw [ek]
  have EK := Lib.hid ek
  rintro e w3 ⟨rfl, hb3⟩
  have HB3 : Hid (Below w.heap.size w w3) := HB2.out.trans (hb3.mono HB2.out.size)
  have HSR3 : Hid (SReads w3 Ap ys) := HSR.out.below hb3 (Nat.le_refl _)
  have HFB : Hid (∀ b off, 0 < ys.length → Ap = some ⟨b, off, none⟩ → b < w3.heap.size) := fun b off h0 e => by
    obtain ⟨b', off', e', hlt, _⟩ := HSR3.out 0 h0
    rw [e] at e'
    injection e' with e'
    injection e' with e1 _ _
    subst e1
    exact hlt
  have c0 : w3.cell? ⟨pb, 0, none⟩ = some (.map (some mb)) := by rw [HB3.out.cell (p := ⟨pb, 0, none⟩) hlt]; exact HM.out.cell0
  have hlt3 : pb < w3.heap.size := Nat.lt_of_lt_of_le hlt HB3.out.size
  clear hb3 ek HSR HB2
  dsimp only
  go_wp2_with fail
  have HBD : Hid (∀ o, Below w.heap.size w (w3.alloc o).drew) := fun o => (HB3.out.alloc HB3.out.size o).drew
  have HMAP : Hid (∀ o, MapIs (w3.alloc o).drew mb K V) := fun o => HM.out.map.block ((HBD.out o).block mb HM.out.map.lt)
  refine wp_still_drew 6 (by kernel_rfl) (by kernel_rfl) ?_
  simp only [List.take_succ_cons, List.take_zero, List.drop_succ_cons, List.drop_zero]
  repeat still_step
  refine wpStill_nil ?_
  refine wpList_put_new (val := .agg #[.int .u8 kb, .slice Ap ys.length pc, .bool false, .bool false, .slice none 0 0, .slice none 0 0]) rfl _ _ _ rfl rfl (HMAP.out _) rfl hs HT.out (by simp only [maxLen]; omega) rfl ?_
  intro w5 hm5 hg5
  obtain ⟨own', hm6, ho1, ho2, ho3⟩ := HM.out.add HT.out (HLN.out.new _ HT.out) (wD := (w3.alloc (.cells #[.int .u8 kb, .slice Ap ys.length pc, .bool false, .bool false, .slice none 0 0, .slice none 0 0] 56)).drew) (fb := w3.heap.size) (A := Ap) (c := pc) (HBD.out _) (HSR3.out.below (((Below.refl w3.heap.size w3).alloc (Nat.le_refl _) _).drew) (Nat.le_refl _)) HYS.out hyc (fun b off e => by have := HFR.out b off e; simp at this; omega) HB3.out.size (fun b off h0 e => Nat.ne_of_lt (HFB.out b off h0 e)) hg5 (by unfold fv fa0; rw [EK.out]; exact hm5)
  have HM6 : Hid (MindX 6 base pb (fun b => X b ∨ b = w3.heap.size ∨ (0 < ys.length ∧ ∃ off, Ap = some ⟨b, off, none⟩)) (K ++ [s.data.toList]) F N w5) := by
    refine ⟨mb, own', nv, _, hm6, fun b hb => ?_⟩
    have hsz : (w3.alloc (.cells #[.int .u8 kb, .slice Ap ys.length pc, .bool false, .bool false, .slice none 0 0, .slice none 0 0] 56)).drew.heap.size = w3.heap.size + 1 := by simp
    have h5 := hg5.size
    rcases hb with h | rfl | ⟨h0, off, e⟩
    · obtain ⟨x1, x2⟩ := HX.out b h
      have := HB3.out.size
      exact ⟨by omega, by rw [ho1 b x1]; exact x2⟩
    · exact ⟨by omega, by rw [ho2]; decide⟩
    · have := HFB.out b off h0 e
      exact ⟨by omega, by rw [ho3 b off h0 e]; decide⟩
  have HKX : Hid (Kp X w w5) := fun b hb => by
    obtain ⟨x1, x2⟩ := HX.out b hb
    refine (hg5.block b (Nat.lt_of_lt_of_le x1 (HBD.out _).size) (fun e => tag6 x2 (by decide) ((congrArg own (Option.some.inj e)).trans HM.out.mbT.1))).trans ((HBD.out _).block b x1)
  have HB5 : Hid (Below base w w5) := ((HBD.out _).mono hbs).grown hg5 (Nat.le_trans hbs (HBD.out _).size) (fun k e => by rw [← Option.some.inj e]; exact HM.out.mbT.2)
  have hne : some w3.heap.size ≠ some mb := fun e => by
    have h1 := HM.out.map.lt
    have h2 := HB3.out.size
    have h3 := Option.some.inj e
    omega
  have HF5 : Hid (w5.heap[w3.heap.size]? = some (.cells #[.int .u8 kb, .slice Ap ys.length pc, .bool false, .bool false, .slice none 0 0, .slice none 0 0] 56 (0, 0))) :=
    (hg5.block w3.heap.size (by simp) hne).trans (heap_alloc_new w3 _)
  have HS5 : Hid (SReads w5 Ap ys) := sreads_kp (X := fun b => 0 < ys.length ∧ ∃ off, Ap = some ⟨b, off, none⟩) HSR3.out (fun b hb => by
      obtain ⟨h0, off, e⟩ := hb
      have h1 := HFB.out b off h0 e
      have h2 := HFR.out b off e
      have h3 := HM.out.map.lt
      simp at h2
      exact (hg5.block b (by simp; omega) (fun e => by have := Option.some.inj e; omega)).trans ((MapKept.heap_alloc w3 _).2 b h1)) (Nat.le_trans (by simp) hg5.size) (fun b off h0 e => ⟨h0, off, e⟩)
  clear hm5 hg5 hm6 ho1 ho2 ho3 c0 hne
  go_wp2_with fail
  have HLP : Hid (Lp held K F A B s.data.toList 0 (K ++ [s.data.toList]) F N) := lp_start HLN.out HB.out HT.out HR.out
  have HAT : Hid (∀ a ∈ s.data.toList :: A, ∀ p ∈ pts s.data.toList, p.length < a.length) := fun a ha p hp => by
    have h1 := (pts_right hp).2
    rcases List.mem_cons.1 ha with e | e
    · rw [e]; exact h1
    · have := HAA.out a e; omega
  clear HMAP HBD HSR3 HB3 HFB HFR HM HX HLN HB HT hlt3
  go_loopw [40] (fun i wr => ∃ (j : Nat) (K1 : List Tm) (F1 : Tm → Fa) (N1 : List Tm), j ≤ ys.length ∧ i = .int .i64 j ∧ Hid (MindX 6 base pb (fun b => X b ∨ b = w3.heap.size ∨ (0 < ys.length ∧ ∃ off, Ap = some ⟨b, off, none⟩)) K1 F1 N1 wr) ∧ Hid (Lp held K F A B s.data.toList j K1 F1 N1) ∧ Hid (Below base w5 wr) ∧ Hid (Kp (fun b => X b ∨ b = w3.heap.size ∨ (0 < ys.length ∧ ∃ off, Ap = some ⟨b, off, none⟩)) w5 wr)) (fun i _ => ys.length - (intOf i).toNat)
  case atStart => exact ⟨0, _, _, _, Nat.zero_le _, rfl, HM6, HLP, Below.refl _ _, fun _ _ => rfl⟩
  case round =>
    clear HM6 HLP
    obtain ⟨j, K1, F1, N1, hj, rfl, HM1, HL1, HB1, HK1⟩ := hrel
    have hcl := cost_le HR.out
    have hct := cost_take (pts s.data.toList) j
    by_cases hlt2 : j < ys.length
    · obtain ⟨P, hP⟩ : ∃ P, ys[j]? = some P := ⟨_, List.getElem?_eq_getElem hlt2⟩
      have hPp : P.data.toList ∈ pts s.data.toList := by rw [← HYS.out]; exact List.mem_map.2 ⟨P, List.mem_of_getElem? hP, rfl⟩
      obtain ⟨b, off, hab, hblt, hcell⟩ := reads_at (sreads_kp HS5.out HK1.out HB1.out.size (fun b off h0 e => .inr (.inr ⟨h0, off, e⟩))) j hP
      have HTK : Hid ((pts s.data.toList).take (j + 1) = (pts s.data.toList).take j ++ [P.data.toList]) := by rw [← HYS.out]; exact take_get hP
      have hPr := pts_right hPp
      have hPs : P.size ≤ 4000 := pt_size rfl hPp
      have hcost : cost ((pts s.data.toList).take j) + (4 * P.data.toList.length + 1) ≤ cost (pts s.data.toList) := by
        have h1 := cost_take (pts s.data.toList) (j + 1)
        rw [HTK.out, cost_app] at h1
        exact h1
      have HPP := Lib.hid hPp
      have HPR := Lib.hid hPr
      have HIHP := Lib.hid (HIH.out P (by have := HN.out; omega) hPr.1 _ K1 F1 N1 (s.data.toList :: A) (B + 1 + cost ((pts s.data.toList).take j)) wr HM1.out HL1.out.ln (fun a ha => HAT.out a ha _ hPp) HL1.out.bd (by omega))
      clear hP hPp hPr
      subst hab
      go_wp2_with fail
      refine HIHP.out.mono ?_
      rintro e w6 ⟨rfl, hb6, hk6, K6, F6, N6, hm6, hr6⟩
      have HM7 := Lib.hid hm6
      have HB7 := Lib.hid hb6
      have HK7 := Lib.hid hk6
      have HR7 := Lib.hid hr6
      have hk6l : K6.length ≤ 90000000 := by have := hr6.bd.1; omega
      have hi6l : (F6 P.data.toList).2.2.1.length ≤ 90000000 := by have := (hr6.bd.2.1 P.data.toList).1; omega
      clear hm6 hb6 hk6 hr6 HIHP
      dsimp only
      go_wp2_with fail
      refine (stands_any base pb _ K6 F6 N6 P s _ HM7.out hPs HR7.out.here (by omega) (by omega)).mono ?_
      rintro e w8 ⟨rfl, hm8, hb8, hk8⟩
      have HM8 := Lib.hid hm8
      have HB8 := Lib.hid ((HB1.out.trans HB7.out).trans hb8)
      have HK8 := Lib.hid ((HK1.out.trans HK7.out).trans hk8)
      clear hm8 hb8 hk8
      dsimp only
      go_wp2
      go_roundw
      case rel => exact ⟨j + 1, _, _, _, by omega, by go_num, HM8, lp_step HL1.out HR7.out HPP.out HTK.out, HB8, HK8⟩
      case measure => simp [intOf]; omega
    · obtain rfl : j = ys.length := by omega
      have hlen : ys.length = (pts s.data.toList).length := by rw [← HYS.out, bl_len]
      have HLF : Hid (Lp held K F A B s.data.toList (pts s.data.toList).length K1 F1 N1) := by rw [← hlen]; exact HL1.out
      have HDONE : Hid (∀ p ∈ pts s.data.toList, p ∈ K1 ∧ s.data.toList ∈ (F1 p).2.2.1) := by
        have := HLF.out.done
        rw [List.take_length] at this; exact this
      have hheap := (HK1.out w3.heap.size (.inr (.inl rfl))).trans HF5.out
      have z0 : wr.cell? ⟨w3.heap.size, 0, none⟩ = some (.int .u8 kb) := cell_of_row wr _ 0 _ _ (0, 0) hheap
      have z1 : wr.cell? ⟨w3.heap.size, 1, none⟩ = some (.slice Ap ys.length pc) := cell_of_row wr _ 1 _ _ (0, 0) hheap
      have z2 : wr.cell? ⟨w3.heap.size, 2, none⟩ = some (.bool false) := cell_of_row wr _ 2 _ _ (0, 0) hheap
      have z3 : wr.cell? ⟨w3.heap.size, 3, none⟩ = some (.bool false) := cell_of_row wr _ 3 _ _ (0, 0) hheap
      have z4 : wr.cell? ⟨w3.heap.size, 4, none⟩ = some (.slice none 0 0) := cell_of_row wr _ 4 _ _ (0, 0) hheap
      have z5 : wr.cell? ⟨w3.heap.size, 5, none⟩ = some (.slice none 0 0) := cell_of_row wr _ 5 _ _ (0, 0) hheap
      have hk1l : K1.length ≤ 90000000 := by have := HLF.out.bd.1; rw [List.take_length] at this; omega
      have hn1l : N1.length ≤ 90000000 := by have := HLF.out.bd.2.2; rw [List.take_length] at this; omega
      clear HL1 hheap HIH hct hlt2 hlen
      by_cases h115 : s.data.toList.headD 0 = 115
      · obtain ⟨x, y, hp⟩ := duo_of HR.out (by rw [h115]; decide)
        obtain ⟨X', Y', hyy, ex, ey⟩ := bl_duo (HYS.out.trans hp)
        subst hyy
        obtain rfl : kb = 115 := by rw [← EK.out, h115]; rfl
        have z1' : wr.cell? ⟨w3.heap.size, 1, none⟩ = some (.slice Ap 2 pc) := z1
        clear z1
        have hk : keyT s.data.toList = some x := by unfold keyT; rw [if_pos h115, hp]; rfl
        have xK : x ∈ K1 := (HDONE.out x (by rw [hp]; simp)).1
        have HLR : Hid (∀ Z : ByteArray, Z.data.toList = x → Lrn held K F A (B + 4 * s.data.toList.length) s.data.toList K1 (opF F1 Z.data.toList s.data.toList) N1) := fun Z e => by rw [e]; exact lrn_key HLF.out HR.out hk xK
        have HXK : Hid (x ∈ K1) := xK
        have hks : x.length ≤ 4000 := (right_len (HLF.out.ln.kf.good _ xK)).2
        have xs : X'.size ≤ 4000 := pt_size ex (by rw [hp]; simp)
        have HSW : Hid (SReads wr Ap [X', Y']) := sreads_kp HS5.out HK1.out HB1.out.size (fun b off h0 e => .inr (.inr ⟨h0, off, e⟩))
        have EX := Lib.hid ex
        clear hp ex ey hk xK
        go_wp2_with fail
        with_reducible refine (key_sealed pb X' Y' Ap pc _ _ _ _ _ _ _ _ wr HSW.out).mono ?_
        rintro e w6 ⟨rfl, hb6⟩
        obtain ⟨Z, hZ, eZ⟩ : ∃ Z : ByteArray, Z.data.toList = x ∧ Z = X' := ⟨X', EX.out, rfl⟩
        subst eZ
        have HM6 := Lib.hid (HM1.out.below hb6)
        have HB6 : Hid (Below base wr w6) := hb6.mono (Nat.le_trans hbs (Nat.le_trans (HB5.out.size) HB1.out.size))
        have HZ := Lib.hid hZ
        have HZK : Hid (Z.data.toList ∈ K1) := by rw [hZ]; exact HXK.out
        have zs : Z.size ≤ 4000 := by rw [Lib.size_eq, hZ]; exact hks
        have hop : (F1 Z.data.toList).2.2.2.length ≤ 90000000 := by have := (HLF.out.bd.2.1 Z.data.toList).2; rw [List.take_length] at this; omega
        clear hb6 hZ z1' z2 z3 z4 z5 z0
        dsimp only
        go_wp2_with fail
        refine (opens_any' base pb _ K1 F1 N1 Z s _ HM6.out.1 zs HZK.out (by omega) (by omega)).mono ?_
        rintro e w7 ⟨rfl, hm7, hb7, hk7⟩
        have z0 : w7.cell? ⟨w3.heap.size, 0, none⟩ = some (.int .u8 115) := by
          rw [World.cell?_of_block (a := ⟨w3.heap.size, 0, none⟩) ((hk7 _ (.inr (.inl rfl))).trans ((HM6.out.2 _ (.inr (.inl rfl))).trans (HK1.out _ (.inr (.inl rfl)))))]
          exact cell_of_row w5 _ 0 _ _ (0, 0) HF5.out
        have HM7 := Lib.hid hm7
        have HB7 : Hid (Below base w w7) := ((HB5.out.trans HB1.out).trans HB6.out).trans hb7
        have HK7 : Hid (Kp X w w7) := ((HKX.out.trans (HK1.out.less fun b h => .inl h)).trans (HM6.out.2.less fun b h => .inl h)).trans (hk7.less fun b h => .inl h)
        clear hm7 hb7 hk7
        dsimp only
        go_wp2
        go_end0
        exact ⟨rfl, HB7.out, HK7.out, _, _, _, HM7.out.less (fun b h => .inl h), HLR.out Z HZ.out⟩
      by_cases h98 : s.data.toList.headD 0 = 98
      · obtain ⟨x, y, hp⟩ := duo_of HR.out (by rw [h98]; decide)
        obtain ⟨X', Y', hyy, ex, ey⟩ := bl_duo (HYS.out.trans hp)
        subst hyy
        obtain rfl : kb = 98 := by rw [← EK.out, h98]; rfl
        have z1' : wr.cell? ⟨w3.heap.size, 1, none⟩ = some (.slice Ap 2 pc) := z1
        clear z1
        obtain ⟨k, hk, hkp⟩ : ∃ k, keyT s.data.toList = some k ∧ pts x = [k] := by
          have e : keyT s.data.toList = some x.tail := by unfold keyT; rw [if_neg (by rw [h98]; decide), if_pos h98, hp]; rfl
          rcases key_cases HR.out e with ⟨e2, _⟩ | ⟨_, u, y', e2, e3, _⟩
          · rw [h98] at e2; exact absurd e2 (by decide)
          · rw [hp] at e2
            injection e2 with e2 _
            rw [← e2] at e3
            exact ⟨_, e, e3⟩
        have xK : x ∈ K1 := (HDONE.out x (by rw [hp]; simp)).1
        have kK : k ∈ K1 := key_known HLF.out.ln HR.out (fun a ha => by
          have := HAA.out a ha
          omega) (fun p hp => (HDONE.out p hp).1) hk
        have HLR : Hid (∀ Z : ByteArray, Z.data.toList = k → Lrn held K F A (B + 4 * s.data.toList.length) s.data.toList K1 (opF F1 Z.data.toList s.data.toList) N1) := fun Z e => by rw [e]; exact lrn_key HLF.out HR.out hk kK
        have HXK : Hid (k ∈ K1) := kK
        have HX1 : Hid (X'.data.toList ∈ K1) := by rw [← ex] at xK; exact xK
        have HKP : Hid (pts X'.data.toList = [k]) := by rw [← ex] at hkp; exact hkp
        have hks : k.length ≤ 4000 := (right_len (HLF.out.ln.kf.good _ kK)).2
        have xs : X'.size ≤ 4000 := pt_size ex (by rw [hp]; simp)
        have HSW : Hid (SReads wr Ap [X', Y']) := sreads_kp HS5.out HK1.out HB1.out.size (fun b off h0 e => .inr (.inr ⟨h0, off, e⟩))
        have EX := Lib.hid ex
        clear hp ex ey hk xK kK hkp
        go_wp2_with fail
        with_reducible refine (key_boxed base pb K1 F1 N1 X' Y' k Ap pc _ _ _ _ _ _ _ _ wr HM1.out.toE xs HX1.out HKP.out HSW.out).mono ?_
        rintro e w6 ⟨⟨Z, hZ, rfl⟩, hb6⟩
        have HM6 := Lib.hid (HM1.out.below hb6)
        have HB6 : Hid (Below base wr w6) := hb6.mono (Nat.le_trans hbs (Nat.le_trans (HB5.out.size) HB1.out.size))
        have HZ := Lib.hid hZ
        have HZK : Hid (Z.data.toList ∈ K1) := by rw [hZ]; exact HXK.out
        have zs : Z.size ≤ 4000 := by rw [Lib.size_eq, hZ]; exact hks
        have hop : (F1 Z.data.toList).2.2.2.length ≤ 90000000 := by have := (HLF.out.bd.2.1 Z.data.toList).2; rw [List.take_length] at this; omega
        clear hb6 hZ z1' z2 z3 z4 z5 z0
        dsimp only
        go_wp2_with fail
        refine (opens_any' base pb _ K1 F1 N1 Z s _ HM6.out.1 zs HZK.out (by omega) (by omega)).mono ?_
        rintro e w7 ⟨rfl, hm7, hb7, hk7⟩
        have z0 : w7.cell? ⟨w3.heap.size, 0, none⟩ = some (.int .u8 98) := by
          rw [World.cell?_of_block (a := ⟨w3.heap.size, 0, none⟩) ((hk7 _ (.inr (.inl rfl))).trans ((HM6.out.2 _ (.inr (.inl rfl))).trans (HK1.out _ (.inr (.inl rfl)))))]
          exact cell_of_row w5 _ 0 _ _ (0, 0) HF5.out
        have HM7 := Lib.hid hm7
        have HB7 : Hid (Below base w w7) := ((HB5.out.trans HB1.out).trans HB6.out).trans hb7
        have HK7 : Hid (Kp X w w7) := ((HKX.out.trans (HK1.out.less fun b h => .inl h)).trans (HM6.out.2.less fun b h => .inl h)).trans (hk7.less fun b h => .inl h)
        clear hm7 hb7 hk7
        dsimp only
        go_wp2
        go_end0
        exact ⟨rfl, HB7.out, HK7.out, _, _, _, HM7.out.less (fun b h => .inl h), HLR.out Z HZ.out⟩
      have ne : ∀ n : UInt8, s.data.toList.headD 0 ≠ n → kb ≠ (n.toNat : Int) := fun n hn e => hn (by rw [← EK.out] at e; exact UInt8.toNat_inj.1 (by omega))
      have k1 : kb ≠ 115 := ne 115 h115
      have k2 : kb ≠ 98 := ne 98 h98
      by_cases h116 : s.data.toList.headD 0 = 116
      · obtain rfl : kb = 116 := by rw [← EK.out, h116]; rfl
        have HLR := Lib.hid (lrn_text HLF.out HR.out h116)
        have HTK : Hid (s.data.toList ∈ K1) := HLF.out.here
        clear ne h115 h98 h116
        go_wp2_with fail
        refine (key_else pb 116 k1 k2 Ap _ pc _ _ _ _ _ _ _ _ wr).mono ?_
        rintro e w6 ⟨rfl, hb6⟩
        have HM6 := Lib.hid (HM1.out.below hb6)
        have HB6 : Hid (Below base wr w6) := hb6.mono (Nat.le_trans hbs (Nat.le_trans (HB5.out.size) HB1.out.size))
        have z0' : w6.cell? ⟨w3.heap.size, 0, none⟩ = some (.int .u8 116) := by
          rw [World.cell?_of_block (a := ⟨w3.heap.size, 0, none⟩) ((HM6.out.2 _ (.inr (.inl rfl))).trans (HK1.out _ (.inr (.inl rfl))))]
          exact cell_of_row w5 _ 0 _ _ (0, 0) HF5.out
        clear hb6 z0 z1 z2 z3 z4 z5
        dsimp only
        go_wp2_with fail
        refine (make_any 6 base pb (by decide) _ K1 F1 N1 s _ HM6.out.1 hs HTK.out (by omega) (by omega)).mono ?_
        rintro e w7 ⟨rfl, hm7, hb7, hk7⟩
        have HM7 := Lib.hid hm7
        have HB7 : Hid (Below base w w7) := ((HB5.out.trans HB1.out).trans HB6.out).trans hb7
        have HK7 : Hid (Kp X w w7) := ((HKX.out.trans (HK1.out.less fun b h => .inl h)).trans (HM6.out.2.less fun b h => .inl h)).trans (hk7.less fun b h => .inl h)
        clear hm7 hb7 hk7
        dsimp only
        go_wp2
        go_end0
        exact ⟨rfl, HB7.out, HK7.out, _, _, _, HM7.out.less (fun b h => .inl h), HLR.out⟩
      · have k3 : kb ≠ 116 := ne 116 h116
        have HLR := Lib.hid (lrn_else HLF.out HR.out h116 h115 h98)
        clear ne h115 h98 h116
        go_wp2_with fail
        refine (key_else pb kb k1 k2 Ap _ pc _ _ _ _ _ _ _ _ wr).mono ?_
        rintro e w6 ⟨rfl, hb6⟩
        have HM6 := Lib.hid (HM1.out.below hb6)
        have HB6 : Hid (Below base wr w6) := hb6.mono (Nat.le_trans hbs (Nat.le_trans (HB5.out.size) HB1.out.size))
        have z0' : w6.cell? ⟨w3.heap.size, 0, none⟩ = some (.int .u8 kb) := by
          rw [World.cell?_of_block (a := ⟨w3.heap.size, 0, none⟩) ((HM6.out.2 _ (.inr (.inl rfl))).trans (HK1.out _ (.inr (.inl rfl))))]
          exact cell_of_row w5 _ 0 _ _ (0, 0) HF5.out
        clear hb6 z0 z1 z2 z3 z4 z5
        dsimp only
        go_wp2
        go_end0
        exact ⟨rfl, (HB5.out.trans HB1.out).trans HB6.out, (HKX.out.trans (HK1.out.less fun b h => .inl h)).trans (HM6.out.2.less fun b h => .inl h), _, _, _, HM6.out.1.less (fun b h => .inl h), HLR.out⟩
theorem learn_any (held : List Tm) (base pb : Nat) : ∀ (n : Nat) (s : ByteArray), s.data.toList.length < n → right s.data.toList = true → ∀ (X : Nat → Prop) (K : List Tm) (F : Tm → Fa) (N A : List Tm) (B : Nat) (w : World), MindX 6 base pb X K F N w → Ln held K F N A → (∀ a ∈ A, s.data.toList.length < a.length) → Bd B K F N → B + 4 * s.data.toList.length ≤ 90000000 →
    Calls Try.prog 33 #[.pointer (some ⟨pb, 0, none⟩), .string s] w fun e w' => LnE held base pb X K F A (B + 4 * s.data.toList.length) s.data.toList w e w'
  | 0, _, h, _, _, _, _, _, _, _, _, _, _, _, _, _ => absurd h (Nat.not_lt_zero _)
  | n + 1, s, hn, hr, X, K, F, N, A, B, w, h, hl, hA, hB, hBm => by
    by_cases ht : s.data.toList ∈ K
    · exact learn_known held base pb s X K F N A B w hr h hl hB ht
    · exact learn_new held base pb n (learn_any held base pb n) s hn hr X K F N A B w h hl hA hB hBm ht
end Go.Proofs.Ytahlilhdiklemaa.Clo
