/-
  THE LAW UserGrows, walked over what package user is held to. By an AI agent; no person has read it.
-/
import Derived.Test.YtbdealddjonobaaGreatUGrowP
import Derived.Test.YtbdealddjonobaaGreatOrd
import Derived.Laws.MakeOwn
import Derived.Deep.AppendLies
namespace Go.Proofs.YtbdealddjonobaaGreat.Usr
open Go Go.RowKit Wire Rig Draw Frm

set_option linter.unusedSimpArgs false
set_option linter.unusedVariables false
theorem verA_zero (n : Tm) (sd : Nat) : (verA (us0 n sd)).toArray = madeCells #[.int .u64 0] 10 := by
  have h : ∀ f, vf (us0 n sd) f = 0 := fun f => by unfold vf us0; simp
  unfold verA
  simp only [h]
  apply Array.ext
  · simp [madeCells]
  · intro i h1 h2
    simp [madeCells, Nat.mod_one]
theorem make_ten (w : World) (n : Tm) (sd : Nat) : (Instr.makeSlice 76 (.int .i64 10) (.int .i64 10)).run Tryz.prog w = .ok (.slice (some ⟨w.heap.size, 0, none⟩) 10 10) (w.alloc (.cells (verA (us0 n sd)).toArray 22)) := by
  obtain ⟨i, hi, hzz⟩ := Option.map_eq_some_iff.1 (show (Tryz.prog.info? 22).map (fun i => (i.zero, i.size, i.bytes)) = some (some (.int .u64 0), 1, 8) by kernel_rfl)
  simp only [Prod.mk.injEq] at hzz
  obtain ⟨hz, hs, hb⟩ := hzz
  have hr := run_make (P := Tryz.prog) w 76 22 i _ Tryz.underlying76 hi hz .i64 .i64 10 10 (by omega) (by omega) (by rw [hb]; omega) (by omega)
  rw [hs] at hr
  rw [verA_zero]
  exact hr
/-- A row of texts of one's own, which may be appended to. -/
def ownR (g c : Nat) (ys : List ByteArray) : Part where
  P w := w.ownsRow 0 9 1 (.slice (some ⟨g, 0, none⟩) ys.length c) ys.length (sv ys)
  S b := b = g
  M b := b = g
  sub _ h := h
  dep hs h hb := by
    refine ⟨h.1, ?_⟩
    rcases h.2 with ⟨h1, _⟩ | ⟨g', cap, cur, h1, h2, h3, h4⟩
    · cases h1
    · injection h1 with h1 h5 h6
      injection h1 with h1
      injection h1 with h1
      subst h1
      exact .inr ⟨g, cap, cur, by rw [h6], h2, (hb g rfl).trans h3, h4⟩
  old h b e := by
    subst e
    rcases h.2 with ⟨h1, _⟩ | ⟨g', cap, cur, h1, h2, h3, h4⟩
    · cases h1
    · injection h1 with h1 _ _
      injection h1 with h1
      injection h1 with h1
      subst h1
      exact (Array.getElem?_eq_some_iff.1 h3).1
theorem ownR_one {w0 w : World} {l : List Part} (h : Fm w0 w l) (T : ByteArray) : Fm w0 (w.alloc (.cells #[.string T] 9)) (ownR w.heap.size 1 [T] :: l) :=
  h.new ((Below.refl _ _).alloc (Nat.le_refl _) _) (by
    have := World.ownsRow_lit (base := 0) (e := 9) (size := 1) w #[.string T] 1 (Nat.zero_le _) (by unfold maxLen; omega) (by simp)
    show (w.alloc _).ownsRow 0 _ 1 (.slice (some ⟨w.heap.size, 0, none⟩) 1 1) 1 (sv [T])
    simpa [sv] using this) (fun b e => by rw [show b = w.heap.size from e]; exact Nat.le_refl _) (fun b e => by rw [show b = w.heap.size from e]; exact Nat.le_refl _)
theorem ownR_reads {w : World} {g c : Nat} {ys : List ByteArray} (h : (ownR g c ys).P w) : SReads w (some ⟨g, 0, none⟩) ys := (sreads_own h).1
theorem box_reads {w : World} {g : Nat} {zs : List ByteArray} {V : Array Value} (h : (box g V 9).P w) (hV : V.toList = sv zs) : SReads w (some ⟨g, 0, none⟩) zs := fun j hj => ⟨g, 0, rfl, box_lt h, by
  rw [Nat.zero_add, box_at h j, ← Array.getElem?_toList, hV]
  simp [sv, List.getD, hj]⟩
/-- A row of one's own in a frame, appended to. -/
theorem fm_append {w0 w : World} {l : List Part} {g c : Nat} {ys : List ByteArray} (i : Nat) (hi : l[i]? = some (ownR g c ys)) (h : Fm w0 w l) {o : Oper} {a : Act} {K : Act → World → Prop} {Q : Exit → Act → World → Prop} (s x : Operand)
    (ho : o.op = .call { callee := .builtin .append, args := #[s, x], argTypes := #[44, 44] }) (zs : List ByteArray) (ad : Addr) (n cc : Nat) (hs : a.eval s = .slice (some ⟨g, 0, none⟩) ys.length c) (hx : a.eval x = .slice (some ad) n cc) (hn : n = zs.length) (hpos : 0 < n) (hr : SReads w (some ad) zs) (hlen : ys.length + zs.length ≤ 1000)
    (k : ∀ g' c' w', Fm w0 w' (l.set i (ownR g' c' (ys ++ zs))) → K (a.put o.dst (.slice (some ⟨g', 0, none⟩) (ys ++ zs).length c')) w') : o.wp Tryz.prog a w K Q := by
  obtain ⟨i0, hi0, hz0, hz1, hz2⟩ := info_parts str_info
  have hown : w.ownsRow 0 9 1 (.slice (some ⟨g, 0, none⟩) ys.length c) ys.length (sv ys) := h.at i hi
  subst hn
  refine wp_append_lies w s x 44 ho 0 9 i0 _ 1 16 Tryz.underlying44 hi0 hz0 hz1 hz2 rfl (by decide) (.slice (some ⟨g, 0, none⟩) ys.length c) ys.length (sv ys) hs hown ad zs.length cc (sv zs) hx (by simp [sv]) ?_ (sv_one zs) hpos (by simp only [maxLen]; omega) (by omega) (Nat.zero_le _) _ rfl ?_
  · intro j u hj
    have hjl : j < zs.length := by have := (List.getElem?_eq_some_iff.1 hj).1; simpa [sv] using this
    obtain ⟨b', o', he, _, hc⟩ := hr j hjl
    obtain rfl := Option.some.inj he
    have hu : u = .string (zs.getD j ByteArray.empty) := by
      simp [sv, hjl] at hj
      rw [← hj]; simp [List.getD, hjl]
    rw [hu, show ((⟨b', o', none⟩ : Addr).add j) = ⟨b', o' + j, none⟩ from by unfold Addr.add; split <;> simp_all]
    exact hc
  · intro g' c' w' hown' hgr hat _
    have e : (ys ++ zs).length = ys.length + zs.length := List.length_append
    have := k g' c' w' (h.turn i hi ⟨hgr.os, hgr.tape, hgr.output, hgr.size, fun b hb hne => hgr.block b hb fun e => hne (Option.some.inj e)⟩ (show w'.ownsRow 0 9 1 (.slice (some ⟨g', 0, none⟩) (ys ++ zs).length c') (ys ++ zs).length (sv (ys ++ zs)) by rw [e]; simpa [sv] using hown') (fun b hb => ?_) (fun b hb => ?_))
    · rw [e] at this; exact this
    · rw [show b = g' from hb]
      rcases hat with h2 | h2
      · exact .inl (Option.some.inj h2).symm
      · exact .inr (by omega)
    · rw [show b = g' from hb]
      rcases hat with h2 | h2
      · exact .inl (Option.some.inj h2).symm
      · exact .inr (by omega)
set_option maxHeartbeats 16000000 in
set_option maxRecDepth 1000000 in
theorem grows_walk {D : UPred} (ok : UserOK D) (sd : Nat) (A : Option Addr) (n c0 : Nat) (Z : Nat → Nat → Int) (w : World) (hs : sd < 18446744073709551616) (ha : Acts.AReads 3 w A n Z) : Calls Tryz.prog 5 #[.int .u64 (sd : Int), .slice A n c0] w fun e w' => e = .returned (.bool true) ∧ Below w.heap.size w w' := by
  have HK := Lib.hid ok
  have HSH := Lib.hid fun w => shown14_any ok w
  have HA := Lib.hid ha
  have HFI := Lib.hid (fine0 (sd := sd) nm_anna hs)
  have HN := Lib.hid fun (w0 w : World) (l : List Part) (h : Fm w0 w l) => u_new ok h ⟨#[97, 110, 110, 97]⟩ sd (by decide) hs nm_anna
  have HNM : Hid ((us0 (⟨#[97, 110, 110, 97]⟩ : ByteArray).data.toList sd).nm = (⟨#[97, 110, 110, 97]⟩ : ByteArray).data.toList) := Lib.hid rfl
  clear ha
  have hn0 : (0 : Int) ≤ (n : Int) := Int.natCast_nonneg n
  have HF := Lib.hid (fm_refl w)
  go_enter Tryz.func5, Tryz.ntmps5
  go_wp2_with fail
  with_reducible refine (HSH.out _).mono ?_
  rintro e w1 ⟨rfl, hb⟩
  replace HF := Lib.hid (HF.out.go hb)
  clear hb
  try dsimp only
  go_wp2_with fail
  with_reducible refine (HN.out _ _ _ HF.out).mono ?_
  rintro e w1 ⟨a, S, M, rfl, hF⟩
  replace HF := Lib.hid hF
  clear hF
  try dsimp only
  clear HN
  by_cases h60 : (60 : Int) < (n : Int)
  · go_wp2_with fail
    go_ret
    exact ⟨rfl, HF.out.bel⟩
  have kmk := fun w => make_ten w (⟨#[97, 110, 110, 97]⟩ : ByteArray).data.toList sd
  go_wp2_with fail
  have hF := HF.out.box (verA (us0 (⟨#[97, 110, 110, 97]⟩ : ByteArray).data.toList sd)).toArray 22
  obtain ⟨gv, hg⟩ : ∃ g, w1.heap.size = g := ⟨_, rfl⟩
  rw [hg] at hF ⊢
  clear hg
  generalize w1.alloc (.cells (verA (us0 (⟨#[97, 110, 110, 97]⟩ : ByteArray).data.toList sd)).toArray 22) = w1 at hF ⊢
  replace HF := Lib.hid hF
  clear hF
  with_reducible refine (u_secret HK.out 1 rfl HF.out HFI.out (by decide)).mono ?_
  rintro e w1 ⟨⟨T0, hT0, rfl⟩, hF⟩
  replace HF := Lib.hid hF
  clear hF
  have HT0 := Lib.hid hT0
  clear hT0 kmk
  try dsimp only
  go_wp2_with fail
  have hF := ownR_one HF.out T0
  obtain ⟨gs, hg⟩ : ∃ g, w1.heap.size = g := ⟨_, rfl⟩
  rw [hg] at hF ⊢
  clear hg
  generalize w1.alloc (.cells #[.string T0] 9) = w1 at hF ⊢
  replace HF := Lib.hid hF
  clear hF
  have HSX : Hid ((us0 (⟨#[97, 110, 110, 97]⟩ : ByteArray).data.toList sd).sd = sd ∧ Secs sd (bl [T0]) ∧ (bl [T0]).length = (us0 (⟨#[97, 110, 110, 97]⟩ : ByteArray).data.toList sd).dr) := Lib.hid ⟨rfl, by
    have h := secs_first (u := us0 (⟨#[97, 110, 110, 97]⟩ : ByteArray).data.toList sd) nm_anna
    rw [show bl [T0] = [(us0 (⟨#[97, 110, 110, 97]⟩ : ByteArray).data.toList sd).sec] by simp [bl, HT0.out]]
    exact h, rfl⟩
  clear HT0
  generalize us0 _ sd = s0 at HF HFI HNM HSX
  go_loopw [9, 10, 11, 12, 13, 14, 15, 16, 17, 18, 19] (fun vs vi v11 v12 v13 v14 v15 v16 v17 v18 v19 wr => ∃ i : Nat, i ≤ n ∧ vi = .int .i64 (i : Int) ∧ ∃ V, V = v11 ∧ ∃ V, V = v12 ∧ ∃ V, V = v13 ∧ ∃ V, V = v14 ∧ ∃ V, V = v15 ∧ ∃ V, V = v16 ∧ ∃ V, V = v17 ∧ ∃ V, V = v18 ∧ ∃ V, V = v19 ∧ ∃ s S M g c ys, vs = .slice (some ⟨g, 0, none⟩) ys.length c ∧ Fine i s ∧ Hid ((s.nm = (⟨#[97, 110, 110, 97]⟩ : ByteArray).data.toList ∧ s.sd = sd ∧ Secs sd (bl ys) ∧ (bl ys).length = s.dr) ∧ Hid (Fm w wr [ownR g c ys, box gv (verA s).toArray 22, usP ok a S M s]))) (fun _ i _ _ _ _ _ _ _ _ _ _ => n - (intOf i).toNat)
  case atStart => exact ⟨0, Nat.zero_le _, rfl, _, rfl, _, rfl, _, rfl, _, rfl, _, rfl, _, rfl, _, rfl, _, rfl, _, rfl, s0, S, M, gs, 1, [T0], rfl, HFI.out, Lib.hid ⟨⟨HNM.out, HSX.out⟩, HF⟩⟩
  case round =>
    obtain ⟨i, hi, rfl, v11, rfl, v12, rfl, v13, rfl, v14, rfl, v15, rfl, v16, rfl, v17, rfl, v18, rfl, v19, rfl, s, S, M, g, c, ys, rfl, hfi, hh⟩ := hrel
    have HSS := Lib.hid hh.out.1
    have HF := hh.out.2
    have HFS := Lib.hid hfi
    clear hfi hh HFI HNM HSX
    have hi0 : (0 : Int) ≤ (i : Int) := Int.natCast_nonneg i
    by_cases hlt : (i : Int) < (n : Int)
    · obtain ⟨ba, off, z0, z1, z2, rfl, hl, q0, q1, q2, hz⟩ := act_at HA.out hlt
      have HLC := Lib.hid hl
      clear hl hz
      have HFN := Lib.hid fun w => file_any z1 q1 w
      have HPI : Hid (∀ w, Calls Tryz.prog 15 #[.int .i64 z1, .int .i64 10] w fun e w' => e = .returned (.int .i64 ((Rig.pk z1 10 : Nat) : Int)) ∧ w' = w) := Lib.hid fun w => pick7_any z1 10 w q1 (by decide) (by decide)
      obtain ⟨m, hm⟩ : ∃ m, Rig.pk z1 10 = m := ⟨_, rfl⟩
      obtain ⟨m0, hm0⟩ : ∃ m, Rig.pk z0 9 = m := ⟨_, rfl⟩
      have hm10 := Rig.pk_lt z1 (n := 10) (by decide)
      have hm9 := Rig.pk_lt z0 (n := 9) (by decide)
      have HPO : Hid (∀ w, Calls Tryz.prog 15 #[.int .i64 z0, .int .i64 9] w fun e w' => e = .returned (.int .i64 ((Rig.pk z0 9 : Nat) : Int)) ∧ w' = w) := Lib.hid fun w => pick7_any z0 9 w q0 (by decide) (by decide)
      obtain ⟨s1, e1, hx⟩ : ∃ s1 e1, doU s z0 z1 z2 = (s1, e1) := ⟨_, _, rfl⟩
      have HX := Lib.hid hx
      have hf1 := fine_do HFS.out z0 z1 z2
      rw [hx] at hf1
      have HF1 := Lib.hid hf1
      clear hf1 hx
      have hfs := fileN_size z1
      rw [hm] at HPI hm10
      rw [hm0] at HPO hm9
      have HM0 := Lib.hid hm0
      obtain ⟨F, hFe⟩ : ∃ F, fileN z1 = F := ⟨_, rfl⟩
      have HFE := Lib.hid hFe
      have hFk := hFe
      unfold fileN at hFk
      rw [hm] at hFk
      have HFK := Lib.hid hFk
      clear hm hm0 hFk
      have HFS5 : Hid (F.size ≤ 5) := Lib.hid (hFe ▸ hfs)
      rw [hFe] at HFN hfs
      have hF5 : F.size ≤ 10000 := by omega
      clear hFe hfs
      have hle : i ≤ 200 := by omega
      have hle1 : i + 1 ≤ 200 := by omega
      obtain ⟨x1, f1, hx⟩ : ∃ x1 f1, own s F.data.toList = (x1, f1) := ⟨_, _, rfl⟩
      have HX1 := Lib.hid hx
      clear hx
      obtain ⟨x2, f2, hx⟩ : ∃ x1 f1, own s1 F.data.toList = (x1, f1) := ⟨_, _, rfl⟩
      have HX2 := Lib.hid hx
      clear hx
      obtain ⟨l0, l1, l2⟩ := HLC.out _ HF.out.bel
      go_wp2_with fail
      with_reducible refine (HFN.out _).mono ?_
      rintro e w1 ⟨rfl, hb⟩
      replace HF := Lib.hid (HF.out.go hb)
      clear hb
      try dsimp only
      clear l0 l1 l2
      obtain ⟨l0, l1, l2⟩ := HLC.out _ HF.out.bel
      go_wp2_with fail
      with_reducible refine (HPI.out _).mono ?_
      rintro e w2 ⟨rfl, hw⟩
      obtain rfl : w1 = w2 := hw.symm
      try dsimp only
      clear l0 l1 l2
      go_wp2_with fail
      with_reducible refine (u_own HK.out 2 rfl HF.out HFS.out hle F hF5).mono ?_
      rintro e w1 ⟨vs, hF, rfl⟩
      rw [HX1.out] at hF ⊢
      obtain ⟨ow, fw, Aw, cw, Bw, dw, Rw, Tw, ew, rfl, ho, hf, hr⟩ := isO_lit (hF.at 0 rfl)
      have HOw := Lib.hid ho
      have HPw := Lib.hid hf
      have HRw := Lib.hid hr
      clear ho hf hr
      unfold OV at hF ⊢
      replace HF := Lib.hid hF
      clear hF
      dsimp only
      go_wp2_with fail
      have hF := HF.out.box #[.string ow, .string fw, .int .i64 x1.r.ep, .slice Aw x1.r.rs.length cw, .slice Bw x1.r.ws.length dw, .int .u64 (x1.ver : Int), .string Rw, .slice Tw x1.sg.length ew, .bool x1.gone] 50
      generalize w1.alloc (.cells #[.string ow, .string fw, .int .i64 x1.r.ep, .slice Aw x1.r.rs.length cw, .slice Bw x1.r.ws.length dw, .int .u64 (x1.ver : Int), .string Rw, .slice Tw x1.sg.length ew, .bool x1.gone] 50) = w1 at hF ⊢
      replace HF := Lib.hid hF
      clear hF
      go_wp2_with fail
      with_reducible refine (u_files HK.out 4 rfl HF.out HFS.out hle).mono ?_
      rintro e w1 ⟨A1, c1, Y1, h1, hc1, hF, rfl⟩
      replace HF := Lib.hid hF
      clear hF
      have H1 := Lib.hid h1
      have HC1 := Lib.hid hc1
      clear h1 hc1
      try dsimp only
      obtain ⟨l0, l1, l2⟩ := HLC.out _ HF.out.bel
      go_wp2_with fail
      with_reducible refine (HPO.out _).mono ?_
      rintro e w2 ⟨rfl, hw⟩
      obtain rfl : w1 = w2 := hw.symm
      try dsimp only
      clear l0 l1 l2
      obtain ⟨l0, l1, l2⟩ := HLC.out _ HF.out.bel
      go_wp2_with fail
      with_reducible refine (does_any HK.out 5 rfl HF.out HFS.out hle z0 z1 z2 q0 q1 q2).mono ?_
      rintro e w1 hT
      rw [HX.out] at hT
      obtain ⟨rfl, S1, M1, hF⟩ := hT
      dsimp only at hF
      replace HF := Lib.hid hF
      clear hF
      try dsimp only
      clear l0 l1 l2
      go_wp2_with fail
      with_reducible refine (u_own HK.out 5 rfl HF.out HF1.out hle1 F hF5).mono ?_
      rintro e w1 ⟨vs, hF, rfl⟩
      rw [HX2.out] at hF ⊢
      obtain ⟨on, fn, An, cn, Bn, dn, Rn, Tn, en, rfl, ho, hf, hr⟩ := isO_lit (hF.at 0 rfl)
      have HOn := Lib.hid ho
      have HPn := Lib.hid hf
      have HRn := Lib.hid hr
      clear ho hf hr
      unfold OV at hF ⊢
      replace HF := Lib.hid hF
      clear hF
      dsimp only
      have hfw := own_few HFS.out F.data.toList
      rw [HX1.out] at hfw
      have HFW := Lib.hid hfw
      clear hfw
      by_cases he : e1 = 0
      · subst he
        have hd := HX.out
        unfold doU at hd
        rw [HM0.out, HFE.out] at hd
        have HD := Lib.hid hd
        clear hd
        by_cases g8 : m0 < 8
        · obtain ⟨new, hmd, hcs⟩ := do_made HD.out g8
          have HMD := Lib.hid hmd
          have HCS := Lib.hid hcs
          have ho := hmd.here
          rw [HX2.out] at ho
          simp only [Prod.mk.injEq] at ho
          obtain ⟨hx2, rfl⟩ := ho
          have he := HF1.out.each _ hmd.held
          rw [← hx2] at he
          have hvr := hmd.ver
          rw [← hx2] at hvr
          have hvl := vf_le HFS.out F.data.toList
          obtain ⟨vn, hvn⟩ : ∃ vn, vf s F.data.toList = vn := ⟨_, rfl⟩
          rw [hvn] at hvr hvl
          have HVN := Lib.hid hvn
          have HXE := Lib.hid hx2
          obtain ⟨a1, a2, a3, a4, a5, a6⟩ := he
          obtain ⟨q, hq⟩ : ∃ q : Nat, x2.r.ep = (q : Int) := ⟨x2.r.ep.toNat, by have := a1.2.2.1.1; omega⟩
          rw [hq] at a6
          have hsl : x2.sg.length = q + 1 := by omega
          have hq7 : q ≤ 7 := by have := a1.2.2.1.2; omega
          have HRR := Lib.hid a1
          obtain rfl : ⟨#[97, 110, 110, 97]⟩ = on := str_eq ((HOn.out.trans (a2.trans (hmd.nm.trans HSS.out.1))).symm)
          obtain rfl : F = fn := str_eq ((HPn.out.trans a3).symm)
          rw [hq, hsl, hvr] at HF ⊢
          have HQ := Lib.hid hq
          have HSL := Lib.hid hsl
          clear hq hsl hvr hx2 hmd hcs a1 a2 a3 a4 a5 a6 hvn
          have hbb := HF.out.box #[.string ⟨#[97, 110, 110, 97]⟩, .string F, .int .i64 (q : Int), .slice An x2.r.rs.length cn, .slice Bn x2.r.ws.length dn, .int .u64 ((vn : Int) + 1), .string Rn, .slice Tn (q + 1) en, .bool x2.gone] 50
          have cv := box_at (hbb.at 6 rfl) m
          rw [verA_at s hm10, HFK.out, HVN.out] at cv
          have fz := box_sf (hbb.at 6 rfl) m
          have hmi0 : (0 : Int) ≤ (m : Int) := Int.natCast_nonneg m
          have hmi : (m : Int) < 10 := by omega
          have hw : IntKind.u64.wrap ((vn : Int) + 1) = (vn : Int) + 1 := by rw [IntKind.wrap_u64]; omega
          have h80 : ((m0 : Int) == 8) = false := by simpa using (by omega : ¬ (m0 : Int) = 8)
          clear hbb
          have HVU : Hid ((verA s).toArray.setIfInBounds m (.int .u64 ((vn : Int) + 1)) = (verA s1).toArray) := Lib.hid (by
            have h := verA_up hm10 (f := F.data.toList) (by rw [HFK.out]) ((vf_held HMD.out.held).trans HMD.out.ver) HMD.out.others
            rw [HVN.out] at h
            exact h)
          go_wp2_with fail
          have hF := (HF.out.box #[.string ⟨#[97, 110, 110, 97]⟩, .string F, .int .i64 (q : Int), .slice An x2.r.rs.length cn, .slice Bn x2.r.ws.length dn, .int .u64 ((vn : Int) + 1), .string Rn, .slice Tn (q + 1) en, .bool x2.gone] 50).put 6 rfl m (.int .u64 ((vn : Int) + 1)) _ HVU.out
          clear cv fz hw h80
          generalize (w1.alloc (.cells #[.string ⟨#[97, 110, 110, 97]⟩, .string F, .int .i64 (q : Int), .slice An x2.r.rs.length cn, .slice Bn x2.r.ws.length dn, .int .u64 ((vn : Int) + 1), .string Rn, .slice Tn (q + 1) en, .bool x2.gone] 50)).setCell ⟨gv, m, none⟩ (.int .u64 ((vn : Int) + 1)) = w1 at hF ⊢
          replace HF := Lib.hid hF
          clear hF
          have HVA : Hid ((verA s1).toArray[m]? = some (Value.int .u64 ((vn : Int) + 1))) := Lib.hid (by
            rw [verA_at s1 hm10, HFK.out, vf_held HMD.out.held, HMD.out.ver, HVN.out]
            rfl)
          have hw2 : IntKind.i64.wrap ((q : Int) + 1) = (q : Int) + 1 := by rw [IntKind.wrap_i64]; omega
          have haa : ((⟨#[97, 110, 110, 97]⟩ : ByteArray).toList == (⟨#[97, 110, 110, 97]⟩ : ByteArray).toList) = true := eq_bool rfl
          have hff : (F.toList == F.toList) = true := eq_bool rfl
          go_wp2_with fail
          refine Ord.region_lit (S := fun w' => Fm w w' _) (by kernel_rfl) (by kernel_rfl) (HF.out.go (Below.drewN' (Below.refl _ _) 1)) ?_
          iterate 4 (refine Ord.stepR (v := ?_) (by rfl) ?_ ?_; rotate_left; · (intro w' hSw; go_simp; try with_reducible rfl))
          try simp only [Act.put, List.setIfInBounds_toArray, List.set_cons_zero, List.set_cons_succ]
          (refine Ord.stepR (v := ?_) (by rfl) ?_ ?_; rotate_left; · (intro w' hSw; obtain ⟨q00, q01, q02, q03, q04, q05, q06, q07, q08, q09⟩ := bx9 (hSw.at 0 rfl); have qv := (box_at (hSw.at 6 rfl) m).trans HVA.out; go_simp; try with_reducible rfl))
          try simp only [Act.put, List.setIfInBounds_toArray, List.set_cons_zero, List.set_cons_succ]
          iterate 3 (refine Ord.stepR (v := ?_) (by rfl) ?_ ?_; rotate_left; · (intro w' hSw; go_simp; try with_reducible rfl))
          try simp only [Act.put, List.setIfInBounds_toArray, List.set_cons_zero, List.set_cons_succ]
          (refine Ord.stepR (v := ?_) (by rfl) ?_ ?_; rotate_left; · (intro w' hSw; obtain ⟨q00, q01, q02, q03, q04, q05, q06, q07, q08, q09⟩ := bx9 (hSw.at 0 rfl); have qv := (box_at (hSw.at 6 rfl) m).trans HVA.out; go_simp; try with_reducible rfl))
          try simp only [Act.put, List.setIfInBounds_toArray, List.set_cons_zero, List.set_cons_succ]
          iterate 4 (refine Ord.stepR (v := ?_) (by rfl) ?_ ?_; rotate_left; · (intro w' hSw; go_simp; try with_reducible rfl))
          try simp only [Act.put, List.setIfInBounds_toArray, List.set_cons_zero, List.set_cons_succ]
          (refine Ord.stepR (v := ?_) (by rfl) ?_ ?_; rotate_left; · (intro w' hSw; obtain ⟨q00, q01, q02, q03, q04, q05, q06, q07, q08, q09⟩ := bx9 (hSw.at 0 rfl); have qv := (box_at (hSw.at 6 rfl) m).trans HVA.out; go_simp; try with_reducible rfl))
          try simp only [Act.put, List.setIfInBounds_toArray, List.set_cons_zero, List.set_cons_succ]
          iterate 3 (refine Ord.stepR (v := ?_) (by rfl) ?_ ?_; rotate_left; · (intro w' hSw; go_simp; try with_reducible rfl))
          try simp only [Act.put, List.setIfInBounds_toArray, List.set_cons_zero, List.set_cons_succ]
          (refine Ord.stepR (v := ?_) (by rfl) ?_ ?_; rotate_left; · (intro w' hSw; obtain ⟨q00, q01, q02, q03, q04, q05, q06, q07, q08, q09⟩ := bx9 (hSw.at 0 rfl); have qv := (box_at (hSw.at 6 rfl) m).trans HVA.out; go_simp; try with_reducible rfl))
          try simp only [Act.put, List.setIfInBounds_toArray, List.set_cons_zero, List.set_cons_succ]
          iterate 4 (refine Ord.stepR (v := ?_) (by rfl) ?_ ?_; rotate_left; · (intro w' hSw; go_simp; try with_reducible rfl))
          try simp only [Act.put, List.setIfInBounds_toArray, List.set_cons_zero, List.set_cons_succ]
          (refine Ord.stepR (v := ?_) (by rfl) ?_ ?_; rotate_left; · (intro w' hSw; go_simp; try with_reducible rfl))
          try simp only [Act.put, List.setIfInBounds_toArray, List.set_cons_zero, List.set_cons_succ]
          (refine Ord.stepR (v := ?_) (by rfl) ?_ ?_; rotate_left; · (intro w' hSw; obtain ⟨q00, q01, q02, q03, q04, q05, q06, q07, q08, q09⟩ := bx9 (hSw.at 0 rfl); have qv := (box_at (hSw.at 6 rfl) m).trans HVA.out; go_simp; try with_reducible rfl))
          try simp only [Act.put, List.setIfInBounds_toArray, List.set_cons_zero, List.set_cons_succ]
          refine Ord.stepC (v := .bool true) (by rfl) ?_ (fun w1 hS => (right14_any (hS.at 1 rfl) HRR.out).mono fun e w2 h => ⟨h.1, hS.go h.2⟩) ?_
          · (intro w' hSw; go_simp; try with_reducible rfl)
          try simp only [Act.put, List.setIfInBounds_toArray, List.set_cons_zero, List.set_cons_succ]
          iterate 4 (refine Ord.stepR (v := ?_) (by rfl) ?_ ?_; rotate_left; · (intro w' hSw; go_simp; try with_reducible rfl))
          try simp only [Act.put, List.setIfInBounds_toArray, List.set_cons_zero, List.set_cons_succ]
          (refine Ord.stepR (v := ?_) (by rfl) ?_ ?_; rotate_left; · (intro w' hSw; go_simp; try with_reducible rfl))
          try simp only [Act.put, List.setIfInBounds_toArray, List.set_cons_zero, List.set_cons_succ]
          (refine Ord.stepR (v := ?_) (by rfl) ?_ ?_; rotate_left; · (intro w' hSw; obtain ⟨q00, q01, q02, q03, q04, q05, q06, q07, q08, q09⟩ := bx9 (hSw.at 0 rfl); have qv := (box_at (hSw.at 6 rfl) m).trans HVA.out; go_simp; try with_reducible rfl))
          try simp only [Act.put, List.setIfInBounds_toArray, List.set_cons_zero, List.set_cons_succ]
          iterate 4 (refine Ord.stepR (v := ?_) (by rfl) ?_ ?_; rotate_left; · (intro w' hSw; go_simp; try with_reducible rfl))
          try simp only [Act.put, List.setIfInBounds_toArray, List.set_cons_zero, List.set_cons_succ]
          (refine Ord.stepR (v := ?_) (by rfl) ?_ ?_; rotate_left; · (intro w' hSw; go_simp; try with_reducible rfl))
          try simp only [Act.put, List.setIfInBounds_toArray, List.set_cons_zero, List.set_cons_succ]
          (refine Ord.stepR (v := ?_) (by rfl) ?_ ?_; rotate_left; · (intro w' hSw; obtain ⟨q00, q01, q02, q03, q04, q05, q06, q07, q08, q09⟩ := bx9 (hSw.at 0 rfl); have qv := (box_at (hSw.at 6 rfl) m).trans HVA.out; go_simp; try with_reducible rfl))
          try simp only [Act.put, List.setIfInBounds_toArray, List.set_cons_zero, List.set_cons_succ]
          iterate 3 (refine Ord.stepR (v := ?_) (by rfl) ?_ ?_; rotate_left; · (intro w' hSw; go_simp; try with_reducible rfl))
          try simp only [Act.put, List.setIfInBounds_toArray, List.set_cons_zero, List.set_cons_succ]
          refine Ord.stepD fun w1 hZ => ?_
          replace HF := Lib.hid hZ
          clear hZ
          clear haa hff hw2
          rcases HCS.out with ⟨b1, b2, b3, b4⟩ | ⟨b1, b2, b3⟩ | ⟨b1, b2, b3⟩
          · have i2 : (m0 : Int) < 2 := by omega
            have i5 : ¬ (5 : Int) ≤ (m0 : Int) := by omega
            have HB2 := Lib.hid b2
            have HB3 := Lib.hid b3
            have HB4 := Lib.hid b4
            clear b1 b2 b3 b4
            have HLN : Hid (ys.length ≤ 200) := Lib.hid (by have h := HSS.out.2.2.2; rw [bl_len] at h; have := HFS.out.dr.2; omega)
            have HSG : Hid (x2.sg = [s.sc uSign F.data.toList (s.dr + 1)]) := Lib.hid (HXE.out ▸ HB4.out)
            have HRT : Hid (x2.root = s.sc uRoot F.data.toList s.dr) := Lib.hid (HXE.out ▸ HB3.out)
            obtain ⟨ss, hss, hsl, hsr⟩ := signers_at (HF.out.at 1 rfl)
            obtain ⟨bs, os, rfl, _, _⟩ := hsr 0 (by omega)
            have HSS2 := Lib.hid hss
            have HSL2 := Lib.hid hsl
            clear hsl hsr hss
            have hq0 : q = 0 := by have h := HSL.out; rw [HSG.out] at h; simpa using h.symm
            subst hq0
            have HS1 : Hid (∃ s0, ss = [s0] ∧ s0.data.toList = s.sc uSign F.data.toList (s.dr + 1)) := Lib.hid (by
              have h := HSS2.out.trans HSG.out
              match ss, h with
              | [s0], h => exact ⟨s0, rfl, by simpa [bl] using h⟩)
            obtain ⟨s0, rfl, hs0⟩ := HS1.out
            have HS0 := Lib.hid hs0
            clear hs0 HS1
            go_wp2_with fail
            have hdr := (HF.out.hide 5).go (Below.drewN' (Below.refl w1.heap.size w1) 1)
            have hfull := HF.out.go (Below.drewN' (Below.refl w1.heap.size w1) 1)
            refine wp_region_held_drew (S := fun w' => Fm w w' _) (by kernel_rfl) hdr (fun hHeld => ?_)
            clear hHeld
            replace hdr : Fm w w1.drew _ := hdr
            replace hfull : Fm w w1.drew _ := hfull
            generalize w1.drew = w1 at hdr hfull ⊢
            replace HF := Lib.hid hfull
            have hHeld := hdr
            clear hdr hfull
            refine wpAnyH_take (i := 0) (v := ?_) (by rw [List.getElem?_toArray]; rfl) (by kernel_rfl) (by kernel_rfl) (by kernel_rfl) (by exact fun _ _ _ h => h) (Or.inl ⟨by rfl, ?_⟩) hHeld ?_; rotate_left; · (intro w' hSw; go_simp; try with_reducible rfl)
            refine wpAnyH_take (i := 1) (v := ?_) (by rw [List.getElem?_toArray]; rfl) (by kernel_rfl) (by kernel_rfl) (by kernel_rfl) (by exact fun _ _ _ h => h) (Or.inl ⟨by rfl, ?_⟩) hHeld ?_; rotate_left; · (intro w' hSw; go_simp; try with_reducible rfl)
            refine wpAnyH_take (i := 2) (v := ?_) (by rw [List.getElem?_toArray]; rfl) (by kernel_rfl) (by kernel_rfl) (by kernel_rfl) (by exact fun _ _ _ h => h) (Or.inl ⟨by rfl, ?_⟩) hHeld ?_; rotate_left; · (intro w' hSw; obtain ⟨q00, q01, q02, q03, q04, q05, q06, q07, q08, q09⟩ := bx9 (hSw.at 0 rfl); have qs : w'.cell? ⟨bs, os, none⟩ = some (.string s0) := signer_cell (hSw.at 1 rfl) HSS2.out (k := 0) (by simp); go_simp; try with_reducible rfl)
            try simp only [Act.put, List.setIfInBounds_toArray, List.set_cons_zero, List.set_cons_succ]
            refine wpAnyH_take (i := 3) (v := ?_) (by rw [List.getElem?_toArray]; rfl) (by kernel_rfl) (by kernel_rfl) (by kernel_rfl) (by exact fun _ _ _ h => h) (Or.inl ⟨by rfl, ?_⟩) hHeld ?_; rotate_left; · (intro w' hSw; go_simp; try with_reducible rfl)
            refine wpAnyH_take (i := 4) (v := ?_) (by rw [List.getElem?_toArray]; rfl) (by kernel_rfl) (by kernel_rfl) (by kernel_rfl) (by exact fun _ _ _ h => h) (Or.inl ⟨by rfl, ?_⟩) hHeld ?_; rotate_left; · (intro w' hSw; obtain ⟨q00, q01, q02, q03, q04, q05, q06, q07, q08, q09⟩ := bx9 (hSw.at 0 rfl); have qs : w'.cell? ⟨bs, os, none⟩ = some (.string s0) := signer_cell (hSw.at 1 rfl) HSS2.out (k := 0) (by simp); go_simp; try with_reducible rfl)
            refine wpAnyH_take (i := 5) (v := ?_) (by rw [List.getElem?_toArray]; rfl) (by kernel_rfl) (by kernel_rfl) (by kernel_rfl) (by exact fun _ _ _ h => h) (Or.inl ⟨by rfl, ?_⟩) hHeld ?_; rotate_left; · (intro w' hSw; go_simp; try with_reducible rfl)
            try simp only [Act.put, List.setIfInBounds_toArray, List.set_cons_zero, List.set_cons_succ]
            refine wpAnyH_take (i := 6) (v := ?_) (by rw [List.getElem?_toArray]; rfl) (by kernel_rfl) (by kernel_rfl) (by kernel_rfl) (by exact fun _ _ _ h => h) (Or.inl ⟨by rfl, ?_⟩) hHeld ?_; rotate_left; · (intro w' hSw; obtain ⟨q00, q01, q02, q03, q04, q05, q06, q07, q08, q09⟩ := bx9 (hSw.at 0 rfl); have qs : w'.cell? ⟨bs, os, none⟩ = some (.string s0) := signer_cell (hSw.at 1 rfl) HSS2.out (k := 0) (by simp); go_simp; try with_reducible rfl)
            try simp only [Act.put, List.setIfInBounds_toArray, List.set_cons_zero, List.set_cons_succ]
            clear hHeld
            refine wpAnyH_ready (rs := [7]) (by kernel_rfl) (by simp) ?_
            refine AllReadyH.cons (by rw [List.getElem?_toArray]; rfl) (fun Kn hK => ?_) AllReadyH.nil
            go_simp
            have hF := HF.out.box #[.string Rn, .string s0] 9
            obtain ⟨gl, hg⟩ : ∃ g, w1.heap.size = g := ⟨_, rfl⟩
            rw [hg] at hF ⊢
            clear hg
            generalize w1.alloc (.cells #[.string Rn, .string s0] 9) = w1 at hF ⊢
            replace HF := Lib.hid hF
            clear hF
            refine hK.out _ _ (HF.out.tail.hide 5) (fun hHeld => ?_)
            try simp only [Act.put, List.setIfInBounds_toArray, List.set_cons_zero, List.set_cons_succ]
            clear hHeld
            refine wpAnyH_ready (rs := [8]) (by kernel_rfl) (by simp) ?_
            refine AllReadyH.cons (by rw [List.getElem?_toArray]; rfl) (fun Kn hK => ?_) AllReadyH.nil
            rw [if_pos (by rfl)]
            refine fm_append 6 rfl HF.out (.tmp 176) (.tmp 183) rfl [Rn, s0] ⟨gl, 0, none⟩ 2 2 rfl rfl rfl (by decide) (box_reads (HF.out.at 0 rfl) rfl) (by have := HLN.out; simp only [List.length_cons, List.length_nil]; omega) ?_
            intro g2 c2 w1 hF
            replace HF := Lib.hid hF
            clear hF
            refine hK.out _ _ (HF.out.tail.hide 5) (fun hHeld => ?_)
            refine wpAnyH_take (i := 9) (v := ?_) (by rw [List.getElem?_toArray]; rfl) (by kernel_rfl) (by kernel_rfl) (by kernel_rfl) (by exact fun _ _ _ h => h) (Or.inl ⟨by rfl, ?_⟩) hHeld ?_; rotate_left; · (intro w' hSw; go_simp; try with_reducible rfl)
            try simp only [Act.put, List.setIfInBounds_toArray, List.set_cons_zero, List.set_cons_succ]
            refine wpAnyH_done (by kernel_rfl) ?_ _
            clear hHeld
            have HSE : Hid (Secs sd (bl (ys ++ [Rn, s0])) ∧ (bl (ys ++ [Rn, s0])).length = s1.dr) := Lib.hid (by
              have h := secs_two (u := s) HFS.out.nm HFS5.out (l := bl ys) (by rw [HSS.out.2.1]; exact HSS.out.2.2.1) HSS.out.2.2.2.symm
              have e : bl (ys ++ [Rn, s0]) = bl ys ++ [s.sc uRoot F.data.toList s.dr, s.sc uSign F.data.toList (s.dr + 1)] := by simp [bl, HRn.out, HRT.out, HS0.out]
              rw [HSS.out.2.1] at h
              rw [e]
              exact ⟨h, by rw [List.length_append, HSS.out.2.2.2, HMD.out.dr, HB2.out]⟩)
            go_wp2_with fail
            replace HF := Lib.hid HF.out.tail
            replace HF := Lib.hid HF.out.tail
            replace HF := Lib.hid HF.out.tail
            replace HF := Lib.hid HF.out.tail
            replace HF := Lib.hid HF.out.tail
            replace HF := Lib.hid HF.out.tail
            go_roundw
            case rel => exact ⟨i + 1, by omega, by go_num, _, rfl, _, rfl, _, rfl, _, rfl, _, rfl, _, rfl, _, rfl, _, rfl, _, rfl, s1, S1, M1, g2, c2, ys ++ [Rn, s0], (by first | rfl | simp), HF1.out, Lib.hid ⟨⟨HMD.out.nm.trans HSS.out.1, HMD.out.sd.trans HSS.out.2.1, HSE.out.1, HSE.out.2⟩, HF⟩⟩
            case measure => simp [intOf]; omega
          · have i2 : ¬ (m0 : Int) < 2 := by omega
            have i5 : ¬ (5 : Int) ≤ (m0 : Int) := by omega
            have HB3 := Lib.hid b3
            clear b1 b2 b3
            have HCN : Hid ((bl ys).length = s1.dr) := Lib.hid (by rw [HMD.out.dr, HB3.out]; exact HSS.out.2.2.2)
            go_wp2_with fail
            replace HF := Lib.hid HF.out.tail
            replace HF := Lib.hid HF.out.tail
            replace HF := Lib.hid HF.out.tail
            replace HF := Lib.hid HF.out.tail
            replace HF := Lib.hid HF.out.tail
            go_roundw
            case rel => exact ⟨i + 1, by omega, by go_num, _, rfl, _, rfl, _, rfl, _, rfl, _, rfl, _, rfl, _, rfl, _, rfl, _, rfl, s1, S1, M1, g, c, ys, (by first | rfl | simp), HF1.out, Lib.hid ⟨⟨HMD.out.nm.trans HSS.out.1, HMD.out.sd.trans HSS.out.2.1, HSS.out.2.2.1, HCN.out⟩, HF⟩⟩
            case measure => simp [intOf]; omega
          · have i2 : ¬ (m0 : Int) < 2 := by omega
            have i5 : (5 : Int) ≤ (m0 : Int) := by omega
            have HB2 := Lib.hid b2
            have HB3 := Lib.hid b3
            clear b1 b2 b3
            have HLN : Hid (ys.length ≤ 200) := Lib.hid (by have h := HSS.out.2.2.2; rw [bl_len] at h; have := HFS.out.dr.2; omega)
            obtain ⟨l0, hl0⟩ := HB3.out
            have HSG : Hid (x2.sg = l0 ++ [s.sc uSign F.data.toList s.dr]) := Lib.hid (HXE.out ▸ hl0)
            clear hl0
            obtain ⟨ss, hss, hsl, hsr⟩ := signers_at (HF.out.at 1 rfl)
            obtain ⟨bs, os, rfl, _, _⟩ := hsr 0 (by omega)
            have HSS2 := Lib.hid hss
            have HSL2 := Lib.hid hsl
            clear hsl hsr hss
            have HS1 : Hid (∃ s0, ss.getD q ByteArray.empty = s0 ∧ s0.data.toList = s.sc uSign F.data.toList s.dr) := Lib.hid (last_signer HSS2.out HSG.out HSL2.out)
            obtain ⟨s0, hs0, hs1⟩ := HS1.out
            have HS0 := Lib.hid hs1
            have HS2 := Lib.hid hs0
            clear hs0 hs1 HS1
            obtain ⟨c0_, c1_, c2_, c3_, c4_, c5_, c6_, c7_, c8_, c9_⟩ := bx9 (HF.out.at 0 rfl)
            have qs : w1.cell? ⟨bs, os + q, none⟩ = some (.string s0) := (signer_cell (HF.out.at 1 rfl) HSS2.out (k := q) (by rw [HSL2.out]; exact Nat.lt_succ_self q)).trans (by rw [HS2.out])
            have hqq : ((q : Int) + 1) - 1 = (q : Int) := by omega
            have hq0 : (0 : Int) ≤ (q : Int) := Int.natCast_nonneg q
            have hql : (q : Int) < (q : Int) + 1 := by omega
            have hqw : IntKind.i64.wrap (q : Int) = (q : Int) := by rw [IntKind.wrap_i64]; omega
            have hqx : IntKind.i64.wrap ((q : Int) + 1 - 1) = (q : Int) := by rw [IntKind.wrap_i64]; omega
            have HFL := Lib.hid (HF.out.box #[.string s0] 9)
            go_wp2_with (at_builtin; refine wpList_plain (by rfl) fun K hK => fm_append 6 rfl HFL.out (.tmp 187) (.tmp 196) rfl [s0] ⟨w1.heap.size, 0, none⟩ 1 1 rfl rfl rfl (by decide) (box_reads (HFL.out.at 0 rfl) rfl) (by have := HLN.out; simp only [List.length_cons, List.length_nil]; omega) (fun g2 c2 w2 hF => hK _ _ ?_); clear c0_ c1_ c2_ c3_ c4_ c5_ c6_ c7_ c8_ c9_ qs hqq hq0 hql hqw hqx)
            replace HF := Lib.hid hF
            clear hF
            have HSE : Hid (Secs sd (bl (ys ++ [s0])) ∧ (bl (ys ++ [s0])).length = s1.dr) := Lib.hid (by
              have h := secs_one (u := s) HFS.out.nm HFS5.out (l := bl ys) (by rw [HSS.out.2.1]; exact HSS.out.2.2.1) HSS.out.2.2.2.symm
              have e : bl (ys ++ [s0]) = bl ys ++ [s.sc uSign F.data.toList s.dr] := by simp [bl, HS0.out]
              rw [HSS.out.2.1] at h
              rw [e]
              exact ⟨h, by rw [List.length_append, HSS.out.2.2.2, HMD.out.dr, HB2.out]⟩)
            go_wp2_with fail
            replace HF := Lib.hid HF.out.tail
            replace HF := Lib.hid HF.out.tail
            replace HF := Lib.hid HF.out.tail
            replace HF := Lib.hid HF.out.tail
            replace HF := Lib.hid HF.out.tail
            replace HF := Lib.hid HF.out.tail
            go_roundw
            case rel => exact ⟨i + 1, by omega, by go_num, _, rfl, _, rfl, _, rfl, _, rfl, _, rfl, _, rfl, _, rfl, _, rfl, _, rfl, s1, S1, M1, g2, c2, ys ++ [s0], (by first | rfl | simp), HF1.out, Lib.hid ⟨⟨HMD.out.nm.trans HSS.out.1, HMD.out.sd.trans HSS.out.2.1, HSE.out.1, HSE.out.2⟩, HF⟩⟩
            case measure => simp [intOf]; omega
        obtain rfl : m0 = 8 := by omega
        have hd := HD.out
        rw [if_neg (by decide), if_neg (by decide), if_neg (by decide)] at hd
        have hr := remove_made (u := s) (f := F.data.toList) (by rw [hd])
        rw [hd, HX1.out, HX2.out] at hr
        obtain ⟨r1, r2, r3, r4, r5, r6⟩ := hr
        simp only at r1 r2 r3 r4 r5 r6
        subst r1 r2
        have hv := verA_same r6
        have HR : Hid (s1.nm = s.nm ∧ s1.sd = s.sd ∧ s1.dr = s.dr) := Lib.hid ⟨r3, r4, r5⟩
        have HV := Lib.hid hv
        clear hd r3 r4 r5 r6 hv g8 hm9
        go_wp2_with fail
        have hF := HF.out.box #[.string on, .string fn, .int .i64 x2.r.ep, .slice An x2.r.rs.length cn, .slice Bn x2.r.ws.length dn, .int .u64 (x2.ver : Int), .string Rn, .slice Tn x2.sg.length en, .bool x2.gone] 50
        generalize w1.alloc (.cells #[.string on, .string fn, .int .i64 x2.r.ep, .slice An x2.r.rs.length cn, .slice Bn x2.r.ws.length dn, .int .u64 (x2.ver : Int), .string Rn, .slice Tn x2.sg.length en, .bool x2.gone] 50) = w1 at hF ⊢
        replace HF := Lib.hid hF
        clear hF
        go_wp2_with fail
        replace HF := Lib.hid HF.out.tail
        replace HF := Lib.hid HF.out.tail
        replace HF := Lib.hid HF.out.tail
        replace HF := Lib.hid HF.out.tail
        replace HF := Lib.hid HF.out.tail
        have hF := HF.out
        rw [← HV.out] at hF
        replace HF := Lib.hid hF
        clear hF
        go_roundw
        case rel => exact ⟨i + 1, by omega, by go_num, _, rfl, _, rfl, _, rfl, _, rfl, _, rfl, _, rfl, _, rfl, _, rfl, _, rfl, s1, S1, M1, g, c, ys, rfl, HF1.out, Lib.hid ⟨⟨HR.out.1.trans HSS.out.1, HR.out.2.1.trans (HSS.out.2.1.trans rfl), HSS.out.2.2.1, HSS.out.2.2.2.trans HR.out.2.2.symm⟩, HF⟩⟩
        case measure => simp [intOf]; omega
      · have heb : (e1 != 0) = true := by simpa using he
        have hes := do_err (u := s) (z0 := z0) (z1 := z1) (z2 := z2) (by rw [HX.out]; exact he)
        rw [HX.out] at hes
        obtain rfl : s = s1 := hes.symm
        have hxe := HX1.out.symm.trans HX2.out
        simp only [Prod.mk.injEq] at hxe
        obtain ⟨rfl, rfl⟩ := hxe
        have hff : (f1 != f1) = false := by simp
        clear hes he
        go_wp2_with fail
        have hF := HF.out.box #[.string on, .string fn, .int .i64 x1.r.ep, .slice An x1.r.rs.length cn, .slice Bn x1.r.ws.length dn, .int .u64 (x1.ver : Int), .string Rn, .slice Tn x1.sg.length en, .bool x1.gone] 50
        generalize w1.alloc (.cells #[.string on, .string fn, .int .i64 x1.r.ep, .slice An x1.r.rs.length cn, .slice Bn x1.r.ws.length dn, .int .u64 (x1.ver : Int), .string Rn, .slice Tn x1.sg.length en, .bool x1.gone] 50) = w1 at hF ⊢
        replace HF := Lib.hid hF
        clear hF
        go_wp2_with fail
        have hdr := HF.out.go (Below.drewN' (Below.refl w1.heap.size w1) 1)
        have hfull := HF.out.go (Below.drewN' (Below.refl w1.heap.size w1) 1)
        refine wp_region_held_drew (S := fun w' => Fm w w' _) (by kernel_rfl) hdr (fun hHeld => ?_)
        clear hHeld
        replace hdr : Fm w w1.drew _ := hdr
        replace hfull : Fm w w1.drew _ := hfull
        generalize w1.drew = w1 at hdr hfull ⊢
        replace HF := Lib.hid hfull
        have hHeld := hdr
        clear hdr hfull
        refine wpAnyH_take (i := 0) (v := ?_) (by rw [List.getElem?_toArray]; rfl) (by kernel_rfl) (by kernel_rfl) (by kernel_rfl) (by exact fun _ _ _ h => h) (Or.inl ⟨by rfl, ?_⟩) hHeld ?_; rotate_left; · (intro w' hSw; go_simp; try with_reducible rfl)
        refine wpAnyH_take (i := 1) (v := ?_) (by rw [List.getElem?_toArray]; rfl) (by kernel_rfl) (by kernel_rfl) (by kernel_rfl) (by exact fun _ _ _ h => h) (Or.inl ⟨by rfl, ?_⟩) hHeld ?_; rotate_left; · (intro w' hSw; go_simp; try with_reducible rfl)
        refine wpAnyH_take (i := 2) (v := ?_) (by rw [List.getElem?_toArray]; rfl) (by kernel_rfl) (by kernel_rfl) (by kernel_rfl) (by exact fun _ _ _ h => h) (Or.inl ⟨by rfl, ?_⟩) hHeld ?_; rotate_left; · (intro w' hSw; go_simp; try with_reducible rfl)
        try simp only [Act.put, List.setIfInBounds_toArray, List.set_cons_zero, List.set_cons_succ]
        refine wpAnyH_take (i := 3) (v := ?_) (by rw [List.getElem?_toArray]; rfl) (by kernel_rfl) (by kernel_rfl) (by kernel_rfl) (by exact fun _ _ _ h => h) (Or.inl ⟨by rfl, ?_⟩) hHeld ?_; rotate_left; · (intro w' hSw; go_simp; try with_reducible rfl)
        refine wpAnyH_take (i := 4) (v := ?_) (by rw [List.getElem?_toArray]; rfl) (by kernel_rfl) (by kernel_rfl) (by kernel_rfl) (by exact fun _ _ _ h => h) (Or.inl ⟨by rfl, ?_⟩) hHeld ?_; rotate_left; · (intro w' hSw; go_simp; try with_reducible rfl)
        refine wpAnyH_take (i := 5) (v := ?_) (by rw [List.getElem?_toArray]; rfl) (by kernel_rfl) (by kernel_rfl) (by kernel_rfl) (by exact fun _ _ _ h => h) (Or.inl ⟨by rfl, ?_⟩) hHeld ?_; rotate_left; · (intro w' hSw; go_simp; try with_reducible rfl)
        try simp only [Act.put, List.setIfInBounds_toArray, List.set_cons_zero, List.set_cons_succ]
        try simp only [Act.put, List.setIfInBounds_toArray, List.set_cons_zero, List.set_cons_succ]
        clear hHeld
        refine wpAnyH_ready (rs := [6]) (by kernel_rfl) (by simp) ?_
        refine AllReadyH.cons (by rw [List.getElem?_toArray]; rfl) (fun Kn hK => ?_) AllReadyH.nil
        go_simp
        go_at_call 22
        with_reducible refine (u_files HK.out 7 rfl HF.out HF1.out hle1).mono ?_
        rintro e w1 ⟨A2, c2, Y2, h2, hc2, hF, rfl⟩
        replace HF := Lib.hid hF
        clear hF
        have HEQ := Lib.hid (lsd_eq H1.out.1 h2.1 fun x => (H1.out.2 x).trans (h2.2 x).symm)
        clear h2 hc2
        try dsimp only
        refine hK.out _ _ (HF.out.tail) (fun hHeld => ?_)
        try simp only [Act.put, List.setIfInBounds_toArray, List.set_cons_zero, List.set_cons_succ]
        clear hHeld
        refine wpAnyH_ready (rs := [7]) (by kernel_rfl) (by simp) ?_
        refine AllReadyH.cons (by rw [List.getElem?_toArray]; rfl) (fun Kn hK => ?_) AllReadyH.nil
        go_simp
        go_at_call 21
        with_reducible refine (same_any A1 A2 c1 c2 Y1 Y2 _ (HF.out.at 3 rfl) (HF.out.at 0 rfl) (Nat.le_trans HC1.out.1 HC1.out.2)).mono ?_
        rintro e w1 ⟨rfl, hb⟩
        replace HF := Lib.hid (HF.out.go hb)
        clear hb
        try dsimp only
        rw [decide_eq_true HEQ.out]
        refine hK.out _ _ (HF.out.tail) (fun hHeld => ?_)
        refine wpAnyH_take (i := 8) (v := ?_) (by rw [List.getElem?_toArray]; rfl) (by kernel_rfl) (by kernel_rfl) (by kernel_rfl) (by exact fun _ _ _ h => h) (Or.inl ⟨by rfl, ?_⟩) hHeld ?_; rotate_left; · (intro w' hSw; go_simp; try with_reducible rfl)
        refine wpAnyH_take (i := 9) (v := ?_) (by rw [List.getElem?_toArray]; rfl) (by kernel_rfl) (by kernel_rfl) (by kernel_rfl) (by exact fun _ _ _ h => h) (Or.inl ⟨by rfl, ?_⟩) hHeld ?_; rotate_left; · (intro w' hSw; go_simp; try with_reducible rfl)
        refine wpAnyH_take (i := 10) (v := ?_) (by rw [List.getElem?_toArray]; rfl) (by kernel_rfl) (by kernel_rfl) (by kernel_rfl) (by exact fun _ _ _ h => h) (Or.inl ⟨by rfl, ?_⟩) hHeld ?_; rotate_left; · (intro w' hSw; go_simp; try with_reducible rfl)
        try simp only [Act.put, List.setIfInBounds_toArray, List.set_cons_zero, List.set_cons_succ]
        refine wpAnyH_take (i := 11) (v := ?_) (by rw [List.getElem?_toArray]; rfl) (by kernel_rfl) (by kernel_rfl) (by kernel_rfl) (by exact fun _ _ _ h => h) (Or.inl ⟨by rfl, ?_⟩) hHeld ?_; rotate_left; · (intro w' hSw; obtain ⟨q00, q01, q02, q03, q04, q05, q06, q07, q08, q09⟩ := bx9 (hSw.at 3 rfl); obtain ⟨q10, q11, q12, q13, q14, q15, q16, q17, q18, q19⟩ := bx9 (hSw.at 0 rfl); go_simp; try with_reducible rfl)
        refine wpAnyH_take (i := 13) (v := ?_) (by rw [List.getElem?_toArray]; rfl) (by kernel_rfl) (by kernel_rfl) (by kernel_rfl) (by exact fun _ _ _ h => h) (Or.inl ⟨by rfl, ?_⟩) hHeld ?_; rotate_left; · (intro w' hSw; obtain ⟨q00, q01, q02, q03, q04, q05, q06, q07, q08, q09⟩ := bx9 (hSw.at 3 rfl); obtain ⟨q10, q11, q12, q13, q14, q15, q16, q17, q18, q19⟩ := bx9 (hSw.at 0 rfl); go_simp; try with_reducible rfl)
        try simp only [Act.put, List.setIfInBounds_toArray, List.set_cons_zero, List.set_cons_succ]
        clear hHeld
        refine wpAnyH_ready (rs := [12]) (by kernel_rfl) (by simp) ?_
        refine AllReadyH.cons (by rw [List.getElem?_toArray]; rfl) (fun Kn hK => ?_) AllReadyH.nil
        go_simp
        go_at_call 28
        with_reducible refine (asowned_any _ _ _ _ _ _ _ _ _ _ _ _ _ _ _ w1).mono ?_
        rintro e w1 ⟨rfl, hb⟩
        replace HF := Lib.hid (HF.out.go hb)
        clear hb
        try dsimp only
        refine hK.out _ _ (HF.out.tail) (fun hHeld => ?_)
        try simp only [Act.put, List.setIfInBounds_toArray, List.set_cons_zero, List.set_cons_succ]
        clear hHeld
        refine wpAnyH_ready (rs := [14]) (by kernel_rfl) (by simp) ?_
        refine AllReadyH.cons (by rw [List.getElem?_toArray]; rfl) (fun Kn hK => ?_) AllReadyH.nil
        go_simp
        go_at_call 28
        with_reducible refine (asowned_any _ _ _ _ _ _ _ _ _ _ _ _ _ _ _ w1).mono ?_
        rintro e w1 ⟨rfl, hb⟩
        replace HF := Lib.hid (HF.out.go hb)
        clear hb
        try dsimp only
        refine hK.out _ _ (HF.out.tail) (fun hHeld => ?_)
        try simp only [Act.put, List.setIfInBounds_toArray, List.set_cons_zero, List.set_cons_succ]
        clear hHeld
        refine wpAnyH_ready (rs := [15]) (by kernel_rfl) (by simp) ?_
        refine AllReadyH.cons (by rw [List.getElem?_toArray]; rfl) (fun Kn hK => ?_) AllReadyH.nil
        go_simp
        go_at_call 27
        with_reducible refine (same14_any [.string ow, .string fw, .int .i64 x1.r.ep, .slice Aw x1.r.rs.length cw, .slice Bw x1.r.ws.length dw, .int .u64 (x1.ver : Int), .string Rw, .slice Tw x1.sg.length ew, .bool x1.gone] [.string on, .string fn, .int .i64 x1.r.ep, .slice An x1.r.rs.length cn, .slice Bn x1.r.ws.length dn, .int .u64 (x1.ver : Int), .string Rn, .slice Tn x1.sg.length en, .bool x1.gone] x1 w1 (HF.out.at 5 rfl) (HF.out.at 2 rfl) HFW.out.1 HFW.out.2).mono ?_
        rintro e w1 ⟨rfl, hb⟩
        replace HF := Lib.hid (HF.out.go hb)
        clear hb
        try dsimp only
        refine hK.out _ _ (HF.out.tail) (fun hHeld => ?_)
        refine wpAnyH_take (i := 16) (v := ?_) (by rw [List.getElem?_toArray]; rfl) (by kernel_rfl) (by kernel_rfl) (by kernel_rfl) (by exact fun _ _ _ h => h) (Or.inl ⟨by rfl, ?_⟩) hHeld ?_; rotate_left; · (intro w' hSw; go_simp; try with_reducible rfl)
        refine wpAnyH_take (i := 17) (v := ?_) (by rw [List.getElem?_toArray]; rfl) (by kernel_rfl) (by kernel_rfl) (by kernel_rfl) (by exact fun _ _ _ h => h) (Or.inl ⟨by rfl, ?_⟩) hHeld ?_; rotate_left; · (intro w' hSw; go_simp; try with_reducible rfl)
        try simp only [Act.put, List.setIfInBounds_toArray, List.set_cons_zero, List.set_cons_succ]
        refine wpAnyH_done (by kernel_rfl) ?_ _
        clear hHeld
        go_wp2_with fail
        replace HF := Lib.hid HF.out.tail
        replace HF := Lib.hid HF.out.tail
        replace HF := Lib.hid HF.out.tail
        replace HF := Lib.hid HF.out.tail
        replace HF := Lib.hid HF.out.tail
        replace HF := Lib.hid HF.out.tail
        go_roundw
        case rel => exact ⟨i + 1, by omega, by go_num, _, rfl, _, rfl, _, rfl, _, rfl, _, rfl, _, rfl, _, rfl, _, rfl, _, rfl, s, S1, M1, g, c, ys, rfl, HF1.out, Lib.hid ⟨⟨HSS.out.1, HSS.out.2⟩, HF⟩⟩
        case measure => simp [intOf]; omega
    have hlen : ys.length ≤ 200 := by have h := HSS.out.2.2.2; rw [bl_len] at h; have := HFS.out.dr.2; omega
    have HSE := Lib.hid HSS.out.2.2.1
    have HR : Hid (SReads wr (some ⟨g, 0, none⟩) ys ∧ Below w.heap.size w wr) := Lib.hid ⟨ownR_reads (HF.out.at 0 rfl), HF.out.bel⟩
    have hl0 : (0 : Int) ≤ (ys.length : Int) := Int.natCast_nonneg _
    have HAP : Hid (∀ a b, a < ys.length → b < a → ∀ x y, ys.getD a ByteArray.empty = x → ys.getD b ByteArray.empty = y → (x.toList == y.toList) = false) := Lib.hid fun a b ha hb x y h1 h2 => ne_bool (by
      have h := secs_apart HSE.out (by rw [bl_len]; omega) (i := a) (j := b) (by rw [bl_len]; exact ha) (by rw [bl_len]; omega) (by omega)
      rw [bl_getD, bl_getD, h1, h2] at h
      exact h)
    clear HF HSS HSE
    obtain ⟨N, hN⟩ : ∃ N, ys.length = N := ⟨_, rfl⟩
    rw [hN] at hl0 hlen HAP ⊢
    have HN := Lib.hid hN
    clear hN
    go_wp2_with fail
    go_loopw [20, 21] (fun vi vk wr => ∃ a : Nat, a ≤ N ∧ vi = .int .i64 (a : Int) ∧ ∃ V, V = vk ∧ Hid (SReads wr (some ⟨g, 0, none⟩) ys ∧ Below w.heap.size w wr)) (fun i _ _ => N - (intOf i).toNat)
    case atStart => exact ⟨0, Nat.zero_le _, rfl, _, rfl, HR⟩
    case round =>
      obtain ⟨p, hp, rfl, vk, rfl, HQ⟩ := hrel
      have hp0 : (0 : Int) ≤ (p : Int) := Int.natCast_nonneg p
      by_cases hpl : (p : Int) < (N : Int)
      · go_wp2_with fail
        go_loopw [21] (fun vk wr => ∃ b : Nat, b ≤ p ∧ vk = .int .i64 (b : Int) ∧ Hid (SReads wr (some ⟨g, 0, none⟩) ys ∧ Below w.heap.size w wr)) (fun i _ => p - (intOf i).toNat)
        case atStart => exact ⟨0, Nat.zero_le _, rfl, HQ⟩
        case round =>
          obtain ⟨r, hr, rfl, HT⟩ := hrel
          have hr0 : (0 : Int) ≤ (r : Int) := Int.natCast_nonneg r
          by_cases hrl : (r : Int) < (p : Int)
          · obtain ⟨e1, _⟩ := row_cell HT.out.1 (j := p) (by rw [HN.out]; omega)
            obtain ⟨e2, _⟩ := row_cell HT.out.1 (j := r) (by rw [HN.out]; omega)
            obtain ⟨x, hx⟩ : ∃ x, ys.getD p ByteArray.empty = x := ⟨_, rfl⟩
            obtain ⟨y, hy⟩ : ∃ y, ys.getD r ByteArray.empty = y := ⟨_, rfl⟩
            have hxy := HAP.out p r (by omega) (by omega) x y hx hy
            rw [hx] at e1
            rw [hy] at e2
            have hrN : (r : Int) < (N : Int) := by omega
            clear hx hy
            go_wp2
            go_quiet (fail)
            go_wp2
            go_roundw
            case rel => exact ⟨r + 1, by omega, by go_num, Lib.hid ⟨HT.out.1.below (Below.drewN' (Below.refl _ _) _) (Nat.le_refl _), Below.drewN' HT.out.2 _⟩⟩
            case measure => simp [intOf]; omega
          · obtain rfl : r = p := by omega
            go_wp2
            go_roundw
            case rel => exact ⟨r + 1, by omega, by go_num, _, rfl, HT⟩
            case measure => simp [intOf]; omega
      · go_wp2
        go_ret
        exact ⟨rfl, HQ.out.2⟩
end Go.Proofs.YtbdealddjonobaaGreat.Usr
