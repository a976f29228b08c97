/-
  E3. By an AI agent.
-/
import Derived.Test.YtbdealddjonobaaGreatYZ
import Derived.Test.YtbdealddjonobaaGreatYB1
import Derived.Test.YtbdealddjonobaaGreatYC1
import Derived.Test.YtbdealddjonobaaGreatYE5
namespace Go.Proofs.YtbdealddjonobaaGreat.Mta
open Go.RowKit Wire Term Rig

set_option linter.unusedSimpArgs false
set_option linter.unusedVariables false
def Rw (g n : Nat) (ys : List ByteArray) (w : World) : Prop := g < w.heap.size ∧ (∀ j < ys.length, w.cell? ⟨g, j, none⟩ = some (.string (ys.getD j ByteArray.empty))) ∧ (∀ j < n, ∃ v, w.cell? ⟨g, j, none⟩ = some v) ∧ ∀ j, w.frozen? ⟨g, j, none⟩ = false
theorem Rw.below {g n : Nat} {ys : List ByteArray} {w w' : World} (h : Rw g n ys w) (hb : Below w.heap.size w w') : Rw g n ys w' :=
 ⟨Nat.lt_of_lt_of_le h.1 hb.size, fun j hj => (hb.cell (p := ⟨g, j, none⟩) h.1).trans (h.2.1 j hj), fun j hj => by obtain ⟨v, hv⟩ := h.2.2.1 j hj; exact ⟨v, (hb.cell (p := ⟨g, j, none⟩) h.1).trans hv⟩, fun j => (hb.frozen (p := ⟨g, j, none⟩) h.1).trans (h.2.2.2 j)⟩
theorem rw_made (w : World) (cs : Array Value) (t : TypeId) (n : Nat) (hn : cs.size = n) : Rw w.heap.size n [] (w.alloc (.cells cs t)) := by
 have h : ∀ j, (w.alloc (.cells cs t)).cell? ⟨w.heap.size, j, none⟩ = cs[j]? := fun j => cell_of_row _ _ _ _ _ (0, 0) (heap_alloc_new w _)
 exact ⟨by simp, fun j hj => by simp at hj, fun j hj => ⟨cs[j]'(by omega), by rw [h, Array.getElem?_eq_getElem]⟩, fun j => by
  unfold World.frozen?
  rw [heap_alloc_new]
  simp⟩
theorem rw_set {g n k : Nat} {ys : List ByteArray} {w : World} (h : Rw g n ys w) (hk : ys.length = k) (hn : k < n) (T : ByteArray) : Rw g n (ys ++ [T]) (w.setCell ⟨g, k, none⟩ (.string T)) := by
 obtain ⟨h1, h2, h3, h4⟩ := h
 have hs : ∀ j, j ≠ k → (w.setCell ⟨g, k, none⟩ (.string T)).cell? ⟨g, j, none⟩ = w.cell? ⟨g, j, none⟩ := fun j hj => World.cell?_setCell_other w _ _ _ (fun e => by injection e with _ e _; exact hj e.symm)
 obtain ⟨v, hv⟩ := h3 k hn
 have hk2 : (w.setCell ⟨g, k, none⟩ (.string T)).cell? ⟨g, k, none⟩ = some (.string T) := World.cell?_setCell_same w _ _ hv
 refine ⟨by simpa [World.setCell] using h1, fun j hj => ?_, fun j hj => ?_, fun j => by simpa using h4 j⟩
 ·
  by_cases e : j = k
  · subst e; rw [hk2]; simp [List.getD, ← hk]
  ·
   rw [hs j e, h2 j (by simp at hj; omega)]
   simp [List.getD, List.getElem?_append, show j < ys.length by simp at hj; omega]
 ·
  by_cases e : j = k
  · subst e; exact ⟨_, hk2⟩
  · rw [hs j e]; exact h3 j hj
theorem rw_reads {g n : Nat} {ys : List ByteArray} {w : World} (h : Rw g n ys w) : SReads w (some ⟨g, 0, none⟩) ys := fun j hj => ⟨g, 0, rfl, h.1, by rw [Nat.zero_add]; exact h.2.1 j hj⟩
theorem make_strN (c : Nat) (hc : c ≤ 1000000) : ∃ cs : Array Value, cs.size = c ∧
  ∀ W : World, (Instr.makeSlice 44 (.int .i64 (c : Int)) (.int .i64 (c : Int))).run Tryz.prog W = .ok (.slice (some ⟨W.heap.size, 0, none⟩) c c) (W.alloc (.cells cs 9)) := by
 obtain ⟨i0, hi0, hz0, hz1, hz2⟩ := info_parts str_info
 refine ⟨madeCells (Value.string ⟨#[]⟩).cells ((c : Int).toNat * 1), by simp [size_madeCells], fun W => ?_⟩
 have h := run_make (P := Tryz.prog) W 44 9 i0 _ Tryz.underlying44 hi0 hz0 .i64 .i64 c c (by omega) (by omega) (by rw [hz2]; omega) (by omega)
 rw [hz1] at h
 simpa using h
set_option maxHeartbeats 8000000 in
set_option maxRecDepth 1000000 in
theorem cbody_any (o f sig : ByteArray) (ep : Int) (A : Option Addr) (c : Nat) (rs : List ByteArray) (B : Option Addr) (d : Nat) (ws : List ByteArray) (ver : Nat) (V : Option Addr) (cv : Nat) (vs : List ByteArray) (K : Option Addr) (ck : Nat) (ks : List (ByteArray × ByteArray)) (w : World) (hA : SReads w A rs) (hB : SReads w B ws) (hV : SReads w V vs) (hK : PReads w K ks) (hf : FewM ⟨⟨o.data.toList, f.data.toList, ep, bl rs, bl ws⟩, ver, bl vs, pl ks, sig.data.toList⟩) (hr : RR ⟨o.data.toList, f.data.toList, ep, bl rs, bl ws⟩) :
    Calls Tryz.prog 75 #[.agg #[.string o, .string f, .int .i64 ep, .slice A rs.length c, .slice B ws.length d, .int .u64 (ver : Int), .slice V vs.length cv, .slice K ks.length ck, .string sig]] w fun e w' => St (bodyB ⟨⟨o.data.toList, f.data.toList, ep, bl rs, bl ws⟩, ver, bl vs, pl ks, sig.data.toList⟩) e ∧ Below w.heap.size w w' := by
  obtain ⟨hf1, hf2, hf3, hf4, hf5, hf6, hf7⟩ := hf
  simp only at hf1 hf2 hf3 hf4 hf5 hf6 hf7
  rw [bl_len] at hf2; rw [pl_len] at hf3
  have hrow := row_small hr
  have hvl := putAll_most (k := 10000) (n := 40) (by omega) (l := bl vs) (by rw [bl_len]; exact hf2) (by omega) hf4
  have hkl := putAll_most (k := 20100) (n := 40) (by omega) (l := (pl ks).map fun b => putAll [b.1, b.2]) (by rw [List.length_map, pl_len]; exact hf3) (by omega) fun t ht => by
    obtain ⟨b, hb, rfl⟩ := List.mem_map.1 ht
    have h := putAll_most (k := 10000) (n := 2) (by omega) (l := [b.1, b.2]) (by simp) (by omega) fun t ht => by
      have h5 := hf5 b hb
      have : t = b.1 ∨ t = b.2 := by simpa using ht
      rcases this with rfl | rfl <;> omega
    omega
  have hvf := flat_k _ hf4
  rw [bl_len] at hvf
  have hvn := Nat.mul_le_mul_right 10000 hf2
  have hpl := (put_le hf7).2
  have HA := zh hA; have HBB := zh hB; have HV := zh hV; have HK := zh hK
  have HPT := zh fun w h1 h2 => put_code o f ep A c rs B d ws w h1 h2 hf1
  rw [show putR ⟨o.data.toList, f.data.toList, ep, bl rs, bl ws⟩ = (rowR ⟨o.data.toList, f.data.toList, ep, bl rs, bl ws⟩, 0) by unfold putR; rw [if_pos hr]] at HPT
  unfold RV Srt at HPT
  simp only at HPT
  have HPV := zh fun w => Wire.put_any ver w hf7
  have HL1 := zh fun w h => Wire.putAll_any V cv vs w h (by omega) (by omega)
  have HPP : Hid (∀ (u x : ByteArray) (g : Nat) (w : World), u.data.toList.length ≤ 10000 → x.data.toList.length ≤ 10000 → SReads w (some ⟨g, 0, none⟩) [u, x] → Calls Tryz.prog 132 #[.slice (some ⟨g, 0, none⟩) 2 2] w fun e w' => St (putAll [u.data.toList, x.data.toList]) e ∧ Below w.heap.size w w') := fun u x g w h1 h2 hr =>
    Wire.putAll_any (some ⟨g, 0, none⟩) 2 [u, x] w hr (by simp) (by simp [bl] at *; omega)
  have HL3 : Hid (∀ (a : Option Addr) (n cap : Nat) (ys : List ByteArray) (w : World), n = ys.length → ys.length ≤ 40 → bl ys = (pl ks).map (fun b => putAll [b.1, b.2]) → SReads w a ys → Calls Tryz.prog 132 #[.slice a n cap] w fun e w' => St (putAll ((pl ks).map fun b => putAll [b.1, b.2])) e ∧ Below w.heap.size w w') := fun a n cap ys w hn hl he hr => by
    have h := Wire.putAll_any a cap ys w hr (by omega) (by
      rw [he]
      have h := flat_k (k := 20100) ((pl ks).map fun b => putAll [b.1, b.2]) fun t ht => by
        obtain ⟨b, hb, rfl⟩ := List.mem_map.1 ht
        have h := putAll_most (k := 10000) (n := 2) (by omega) (l := [b.1, b.2]) (by simp) (by omega) fun t ht => by
          have h5 := hf5 b hb
          have : t = b.1 ∨ t = b.2 := by simpa using ht
          rcases this with rfl | rfl <;> omega
        omega
      rw [List.length_map, pl_len] at h
      have := Nat.mul_le_mul_right 20100 hf3
      omega)
    rw [he, ← hn] at h
    exact h
  have HL4 : Hid (∀ (P P1 P2 P3 : ByteArray) (g : Nat) (w : World), P.data.toList = rowR ⟨o.data.toList, f.data.toList, ep, bl rs, bl ws⟩ → P1.data.toList = put ver → P2.data.toList = putAll (bl vs) → P3.data.toList = putAll ((pl ks).map fun b => putAll [b.1, b.2]) → SReads w (some ⟨g, 0, none⟩) [P, P1, P2, P3] → Calls Tryz.prog 132 #[.slice (some ⟨g, 0, none⟩) 4 4] w fun e w' => St (bodyB ⟨⟨o.data.toList, f.data.toList, ep, bl rs, bl ws⟩, ver, bl vs, pl ks, sig.data.toList⟩) e ∧ Below w.heap.size w w') := fun P P1 P2 P3 g w e0 e1 e2 e3 hr => by
    have eb : bl [P, P1, P2, P3] = [rowR ⟨o.data.toList, f.data.toList, ep, bl rs, bl ws⟩, put ver, putAll (bl vs), putAll ((pl ks).map fun b => putAll [b.1, b.2])] := by
      show [P.data.toList, P1.data.toList, P2.data.toList, P3.data.toList] = _
      rw [e0, e1, e2, e3]
    have h := Wire.putAll_any (some ⟨g, 0, none⟩) 4 [P, P1, P2, P3] w hr (by simp) (by
      rw [eb]
      simp only [List.flatten_cons, List.flatten_nil, List.length_append, List.length_nil]
      omega)
    rw [eb] at h
    exact h
  have HF5 : Hid (∀ k (_ : k < ks.length), (ks.getD k default).1.data.toList.length ≤ 10000 ∧ (ks.getD k default).2.data.toList.length ≤ 10000) := fun k hk => hf5 _ (List.mem_of_getElem? (pl_at hk))
  clear hA hB hV hK hf1 hf4 hf5 hf6 hf7 hrow hvl hkl hvf hvn hpl hr; obtain ⟨cs, hcs, hmk⟩ := make_strN ks.length (by omega); have HCS := zh hcs; clear hcs
  go_enter Tryz.func75, Tryz.ntmps75
  go_wp2_with fail
  have hmx := mx_alloc w o f ep A rs.length c B ws.length d ver V vs.length cv K ks.length ck sig 60
  have hb0 := al w (.cells #[.string o, .string f, .int .i64 ep, .slice A rs.length c, .slice B ws.length d, .int .u64 (ver : Int), .slice V vs.length cv, .slice K ks.length ck, .string sig] 60)
  have HB := zh hb0; have HMX := zh hmx; clear hmx hb0; obtain ⟨g, hg⟩ : ∃ g, w.heap.size = g := ⟨_, rfl⟩
  generalize w.alloc (.cells #[.string o, .string f, .int .i64 ep, .slice A rs.length c, .slice B ws.length d, .int .u64 (ver : Int), .slice V vs.length cv, .slice K ks.length ck, .string sig] 60) = w1 at HB HMX ⊢
  rw [hg] at HMX ⊢; clear hg; (with_reducible refine (HPT.out _ (HA.out.below HB.out zl) (HBB.out.below HB.out zl)).mono ?_); rintro e w2 ⟨⟨P, hP, rfl⟩, hb2⟩; have HB2 := zh (Bel.call HB.out hb2); replace HMX := zh (HMX.out.call hb2); clear hb2 HB; have HP := zh hP; clear hP; dsimp only; obtain ⟨⟨m0, m1, m2, m3, m4, m5, m6, m7, m8⟩, _⟩ := HMX.out
  have hmk2 := hmk w2
  clear hmk
  go_wp2_with fail
  clear m0 m1 m2 m3 m4 m5 m6 m7 m8 hmk2; have HR0 := zh (rw_made w2 cs 9 ks.length HCS.out); have HBL0 := zh (al w2 (.cells cs 9)); obtain ⟨g2, hg2⟩ : ∃ n, w2.heap.size = n := ⟨_, rfl⟩; have HG2 := zh hg2; rw [hg2] at HR0 ⊢; clear hg2
  go_loopw [21] (fun i wr => ∃ (k : Nat) (ys : List ByteArray), k ≤ ks.length ∧ i = .int .i64 (k : Int) ∧ Hid (Rw g2 ks.length ys wr) ∧ ys.length = k ∧ Hid (bl ys = ((pl ks).take k).map (fun b => putAll [b.1, b.2])) ∧ Hid (Below w2.heap.size w2 wr)) (fun i _ => ks.length - (intOf i).toNat)
  case atStart => exact ⟨0, [], Nat.zero_le _, rfl, HR0, rfl, zh rfl, HBL0⟩
  case round =>
    obtain ⟨k, ys, hk, rfl, HRW, hyl, HYB, HBJ⟩ := hrel; clear HR0 HBL0
    by_cases hlt : (k : Int) < (ks.length : Int)
    · obtain ⟨b2, off2, rfl, hbl2, hcl2, hcl3⟩ := (HK.out.below (Bel.call HB2.out HBJ.out) zl) k (by omega)
      have hkk : k < ks.length := by omega
      obtain ⟨h51, h52⟩ := HF5.out k hkk
      have hpg := pl_get hkk
      obtain ⟨u, x, hux⟩ : ∃ u x, ks.getD k default = (u, x) := ⟨_, _, rfl⟩; rw [hux] at hcl2 hcl3 h51 h52 hpg
      simp only at hcl2 hcl3 h51 h52 hpg
      have HPG := zh hpg; clear hux hpg hbl2
      have hb1 := al wr (.cells #[.string u, .string x] 120)
      have hb2 := al (wr.alloc (.cells #[.string u, .string x] 120)) (.cells #[.string u, .string x] 9)
      have hb3 := Bel.call hb1 hb2
      have HPC := zh (HPP.out u x _ _ h51 h52 (lit2_reads8 (wr.alloc (.cells #[.string u, .string x] 120)) u x _ rfl))
      have hsz1 : (wr.alloc (.cells #[.string u, .string x] 120)).heap.size = wr.heap.size + 1 := by simp
      rw [hsz1] at HPC; have HB3 := zh hb3; clear hb1 hb2 hb3 hsz1 h51 h52
      have i0 : (0 : Int) ≤ (k : Int) := by omega
      go_wp2_with fail
      with_reducible refine HPC.out.mono ?_
      rintro e w5 ⟨⟨T, hT, rfl⟩, hb5⟩
      have hb6 := Bel.call HB3.out hb5
      have HB5 := zh (Bel.call HBJ.out hb6); have HR5 := zh (HRW.out.below hb6); have HT := zh hT; clear hb5 hb6 hT HPC HB3 hcl2 hcl3; dsimp only; obtain ⟨v0, hv0⟩ := HR5.out.2.2.1 k hkk
      have hf0 := HR5.out.2.2.2 k
      go_wp2
      clear hv0 hf0; have HR6 := zh (rw_set HR5.out hyl hkk T)
      have HB6 : Hid (Below w2.heap.size w2 (w5.setCell ⟨g2, k, none⟩ (.string T))) := zh (HB5.out.setCell (by rw [HG2.out]; exact Nat.le_refl _) _)
      go_roundw
      case rel => exact ⟨k + 1, ys ++ [T], by omega, by go_num, HR6, by rw [List.length_append, hyl]; rfl, zh (by rw [Rig.bl_app, HYB.out, HPG.out, List.map_append, List.map_cons, List.map_nil, ← HT.out]; rfl), HB6⟩
      case measure => simp [intOf]; omega
    · have hyk : ks.length = ys.length := by omega
      have hyall : bl ys = (pl ks).map (fun b => putAll [b.1, b.2]) := by
        rw [HYB.out, List.take_of_length_le (by rw [pl_len]; omega)]
      have HYS := zh (rw_reads HRW.out); have HYA := zh hyall; have HYK := zh hyk
      have hy40 : ys.length ≤ 40 := by omega
      clear hyall hyk hyl
      go_wp2_with fail
      have ha0 : Below wr.heap.size wr wr.drew := Below.drewN' (Below.refl _ _) 1
      have hs0 := Bel.call HBJ.out ha0
      obtain ⟨wd, hwd⟩ : ∃ W, wr.drew = W := ⟨_, rfl⟩
      refine wp_region_held_drew (S := fun w' => Below w2.heap.size w2 w') (by kernel_rfl) hs0 (fun hHeld => ?_)
      rw [hwd] at hHeld ha0 hs0 ⊢; clear hwd; refine zqT 0 ?_ ?_ ?_; rotate_left
      · intro w' hSw; obtain ⟨⟨m0, m1, m2, m3, m4, m5, m6, m7, m8⟩, _⟩ := HMX.out.call hSw; go_simp; try with_reducible rfl
      (try simp only [Act.put, zq1, zq2, zq3]); refine zqT 1 ?_ ?_ ?_; rotate_left
      · intro w' hSw; obtain ⟨⟨m0, m1, m2, m3, m4, m5, m6, m7, m8⟩, _⟩ := HMX.out.call hSw; go_simp; try with_reducible rfl
      (try simp only [Act.put, zq1, zq2, zq3]); refine zqT 2 ?_ ?_ ?_; rotate_left
      · intro w' hSw; obtain ⟨⟨m0, m1, m2, m3, m4, m5, m6, m7, m8⟩, _⟩ := HMX.out.call hSw; go_simp; try with_reducible rfl
      (try simp only [Act.put, zq1, zq2, zq3]); refine zqT 4 ?_ ?_ ?_; rotate_left
      · intro w' hSw; obtain ⟨⟨m0, m1, m2, m3, m4, m5, m6, m7, m8⟩, _⟩ := HMX.out.call hSw; go_simp; try with_reducible rfl
      (try simp only [Act.put, zq1, zq2, zq3]); refine zqT 5 ?_ ?_ ?_; rotate_left
      · intro w' hSw; obtain ⟨⟨m0, m1, m2, m3, m4, m5, m6, m7, m8⟩, _⟩ := HMX.out.call hSw; go_simp; try with_reducible rfl
      (try simp only [Act.put, zq1, zq2, zq3]); refine zqT 7 ?_ ?_ ?_; rotate_left
      · intro w' hSw; obtain ⟨⟨m0, m1, m2, m3, m4, m5, m6, m7, m8⟩, _⟩ := HMX.out.call hSw; go_simp; try with_reducible rfl
      (try simp only [Act.put, zq1, zq2, zq3]); clear hHeld; refine zqR [3] ?_
      refine zqN fun K hK => ?_
      go_simp
      go_at_call 133
      (with_reducible refine (HPV.out _).mono ?_); rintro e w3 ⟨⟨P1, hP1, rfl⟩, hb3⟩
      have ha3 := Bel.call ha0 hb3
      have hs3 := Bel.call HBJ.out ha3
      clear hb3; dsimp only; refine hK.out _ _ hs3 (fun hHeld => ?_); (try simp only [Act.put, zq1, zq2, zq3]); clear hHeld; refine zqR [6] ?_
      refine zqN fun K hK => ?_
      go_simp
      go_at_call 132
      (with_reducible refine (HL1.out _ (HV.out.below (Bel.call HB2.out hs3) zl)).mono ?_); rintro e w4 ⟨⟨P2, hP2, rfl⟩, hb4⟩
      have ha4 := Bel.call ha3 hb4
      have hs4 := Bel.call HBJ.out ha4
      clear hb4; dsimp only; refine hK.out _ _ hs4 (fun hHeld => ?_); (try simp only [Act.put, zq1, zq2, zq3]); clear hHeld; refine zqR [8] ?_
      refine zqN fun K hK => ?_
      go_simp
      go_at_call 132
      (with_reducible refine (HL3.out _ _ _ ys _ HYK.out hy40 HYA.out (HYS.out.below ha4 zl)).mono ?_); rintro e w5 ⟨⟨P3, hP3, rfl⟩, hb5⟩
      have ha5 := Bel.call ha4 hb5
      have hs5 := Bel.call HBJ.out ha5
      clear hb5; dsimp only; refine hK.out _ _ hs5 (fun hHeld => ?_); (try simp only [Act.put, zq1, zq2, zq3]); clear hHeld; refine zqR [9] ?_
      refine zqN fun K hK => ?_
      go_simp
      have ha6 := ha5.alloc ha5.size (.cells #[.string P, .string P1, .string P2, .string P3] 9)
      have hs6 := Bel.call HBJ.out ha6
      refine hK.out _ _ hs6 (fun hHeld => ?_); (try simp only [Act.put, zq1, zq2, zq3]); clear hHeld; refine zqR [10] ?_
      refine zqN fun K hK => ?_
      go_simp
      go_at_call 132
      (with_reducible refine (HL4.out P P1 P2 P3 _ _ HP.out hP1 hP2 hP3 (lit4_reads8 w5 P P1 P2 P3 _ rfl)).mono ?_); rintro e w7 ⟨⟨Q, hQ, rfl⟩, hb7⟩
      have ha7 := Bel.call ha6 hb7
      have hs7 := Bel.call HBJ.out ha7
      clear hb7; dsimp only; refine hK.out _ _ hs7 (fun hHeld => ?_); (try simp only [Act.put, zq1, zq2, zq3]); refine zqT 11 ?_ ?_ ?_; rotate_left
      · intro w' hSw; obtain ⟨⟨m0, m1, m2, m3, m4, m5, m6, m7, m8⟩, _⟩ := HMX.out.call hSw; go_simp; try with_reducible rfl
      (try simp only [Act.put, zq1, zq2, zq3]); clear hHeld
      refine wpAnyH_done (by kernel_rfl) ?_ _
      have HS7 := zh (Bel.call HB2.out hs7); have HQ := zh hQ
      go_wp2
      go_ret
      exact ⟨⟨Q, HQ.out, rfl⟩, HS7.out⟩
end Go.Proofs.YtbdealddjonobaaGreat.Mta

namespace Go.Proofs.YtbdealddjonobaaGreat.Mta
open Go.RowKit Wire Term Rig

set_option linter.unusedSimpArgs false
set_option linter.unusedVariables false
def LstU (B : Nat) (ys : List ByteArray) (e : Ending) (w' : World) : Prop := ∃ (A : Option Addr) (c : Nat), (ys.length ≤ c ∧ (A = none → c = 0)) ∧ SReads w' A ys ∧ (∀ b off, A = some ⟨b, off, none⟩ → B ≤ b ∧ b < w'.heap.size) ∧ e = .returned (.slice A ys.length c)
theorem copy_at8 {a : Option Addr} {c : Nat} (g : Nat) (ys : List ByteArray) (w : World) (hp : Pieces w g [(a, c, ys)]) (hl : ys.length ≤ 40) :
  Calls Tryz.prog 146 #[.slice (some ⟨g, 0, none⟩) 1 1] w fun e w' => LstU w.heap.size ys e w' ∧ Below w.heap.size w w' := by
 have he : whole [(a, c, ys)] = ys := by simp [whole]
 have h := concat_own g _ _ hp (by simp) (by rw [he]; omega)
 rw [he] at h
 refine h.mono ?_
 rintro e w' ⟨⟨v, rfl, zs, h1, h2, h3⟩, h4⟩
 obtain rfl := bl_inj h1
 obtain ⟨A, c, rfl⟩ := own_value h2; obtain ⟨A2, c2, ys2, q1, q2, q3, q4, q5⟩ := owns_lst (w0 := w) ⟨zs, rfl, h2, h3⟩
 obtain rfl := bl_inj q1
 injection q5 with q5
 injection q5 with e1 e2 e3
 subst e1; subst e3
 exact ⟨⟨A, c, q2, q3, fun b off e => by have := own1_of h2 b off e; exact ⟨this.1, this.2.1⟩, rfl⟩, h4⟩
def signC (secret : Tm) (m : Mt) : Tm × Int := if (ofText (bodyB m)).2 ≠ 0 then ([], (ofText (bodyB m)).2) else two 103 secret (ofText (bodyB m)).1
theorem body_most {m : Mt} (hf : FewM m) (hr : RR m.r) : (bodyB m).length ≤ 4000000 := by
 obtain ⟨hf1, hf2, hf3, hf4, hf5, hf6, hf7⟩ := hf
 have hrow := row_small hr
 have hvl := putAll_most (k := 10000) (n := 40) (by omega) (l := m.vf) hf2 (by omega) hf4
 have hkl := putAll_most (k := 20100) (n := 40) (by omega) (l := m.bs.map fun b => putAll [b.1, b.2]) (by rw [List.length_map]; exact hf3) (by omega) fun t ht => by
  obtain ⟨b, hb, rfl⟩ := List.mem_map.1 ht
  have h := putAll_most (k := 10000) (n := 2) (by omega) (l := [b.1, b.2]) (by simp) (by omega) fun t ht => by
   have h5 := hf5 b hb
   have : t = b.1 ∨ t = b.2 := by simpa using ht
   rcases this with rfl | rfl <;> omega
  omega
 have hpl := (put_le hf7).2
 have h := putAll_most (k := 900000) (n := 4) (by omega) (l := [rowR m.r, put m.ver, putAll m.vf, putAll (m.bs.map fun b => putAll [b.1, b.2])]) (by simp) (by omega) fun t ht => by
  have : t = rowR m.r ∨ t = put m.ver ∨ t = putAll m.vf ∨ t = putAll (m.bs.map fun b => putAll [b.1, b.2]) := by simpa using ht
  rcases this with rfl | rfl | rfl | rfl <;> omega
 unfold bodyB
 omega
set_option maxHeartbeats 4000000 in
set_option maxRecDepth 1000000 in
theorem sign_any (secret : ByteArray) (o f sig : ByteArray) (ep : Int) (A : Option Addr) (c : Nat) (rs : List ByteArray) (B : Option Addr) (d : Nat) (ws : List ByteArray) (ver : Nat) (V : Option Addr) (cv : Nat) (vs : List ByteArray) (K : Option Addr) (ck : Nat) (ks : List (ByteArray × ByteArray)) (w : World) (hA : SReads w A rs) (hB : SReads w B ws) (hV : SReads w V vs) (hK : PReads w K ks) (hf : FewM ⟨⟨o.data.toList, f.data.toList, ep, bl rs, bl ws⟩, ver, bl vs, pl ks, sig.data.toList⟩) (hr : RR ⟨o.data.toList, f.data.toList, ep, bl rs, bl ws⟩) (hs : secret.size ≤ 10000) :
  Calls Tryz.prog 120 #[.string secret, .agg #[.string o, .string f, .int .i64 ep, .slice A rs.length c, .slice B ws.length d, .int .u64 (ver : Int), .slice V vs.length cv, .slice K ks.length ck, .string sig]] w fun e w' => Sr (signC secret.data.toList ⟨⟨o.data.toList, f.data.toList, ep, bl rs, bl ws⟩, ver, bl vs, pl ks, sig.data.toList⟩) e ∧ Below w.heap.size w w' := by
 have hbm := body_most hf hr
 have HA := zh hA; have HBB := zh hB; have HV := zh hV; have HK := zh hK
 have HBY := zh fun w h1 h2 h3 h4 => cbody_any o f sig ep A c rs B d ws ver V cv vs K ck ks w h1 h2 h3 h4 hf hr
 obtain ⟨bd, hbd⟩ : ∃ b, bodyB ⟨⟨o.data.toList, f.data.toList, ep, bl rs, bl ws⟩, ver, bl vs, pl ks, sig.data.toList⟩ = b := ⟨_, rfl⟩
 have hsg : signC secret.data.toList ⟨⟨o.data.toList, f.data.toList, ep, bl rs, bl ws⟩, ver, bl vs, pl ks, sig.data.toList⟩ = if (ofText bd).2 ≠ 0 then ([], (ofText bd).2) else two 103 secret.data.toList (ofText bd).1 := by unfold signC; rw [hbd]
 rw [hsg]; rw [hbd] at HBY hbm
 have HOT : Hid (∀ (T : ByteArray) w, T.data.toList = bd → Calls Tryz.prog 74 #[.string T] w fun e w' => Sr (ofText bd) e ∧ Below w.heap.size w w') := fun T w hT => by
  rw [← hT]
  exact t_OfText T w (by rw [Lib.size_eq, hT]; omega)
 obtain ⟨x, e0, hx⟩ : ∃ x e, ofText bd = (x, e) := ⟨_, _, rfl⟩
 have hxl := ofText_len hx
 rw [hx] at HOT ⊢
 simp only
 have HSN : Hid (∀ (X : ByteArray) w, X.data.toList = x → Calls Tryz.prog 169 #[.string secret, .string X] w fun e w' => Sr (two 103 secret.data.toList x) e ∧ Below w.heap.size w w') := fun X w hX => by
  rw [← hX]
  exact t_Sign secret X w (by omega) (by rw [Lib.size_eq, hX]; omega)
 obtain ⟨z, ez, hz⟩ : ∃ z e, two 103 secret.data.toList x = (z, e) := ⟨_, _, rfl⟩; rw [hz] at HSN ⊢; clear hA hB hV hK hf hr hbd hsg hbm hx hxl hz
 by_cases he : e0 = 0
 case neg =>
  rw [if_pos he]
  have q : (e0 != 0) = true := by simpa using he
  go_enter Tryz.func120, Tryz.ntmps120
  go_wp2_with fail
  have HB := zh (al w (.cells #[.string o, .string f, .int .i64 ep, .slice A rs.length c, .slice B ws.length d, .int .u64 (ver : Int), .slice V vs.length cv, .slice K ks.length ck, .string sig] 60))
  generalize w.alloc (.cells #[.string o, .string f, .int .i64 ep, .slice A rs.length c, .slice B ws.length d, .int .u64 (ver : Int), .slice V vs.length cv, .slice K ks.length ck, .string sig] 60) = w1 at HB ⊢
  (with_reducible refine (HBY.out _ (HA.out.below HB.out zl) (HBB.out.below HB.out zl) (HV.out.below HB.out zl) (HK.out.below HB.out zl)).mono ?_); rintro e w2 ⟨⟨T, hT, rfl⟩, hb2⟩; have HB2 := zh (Bel.call HB.out hb2); have HT := zh hT; clear hb2 hT HB; dsimp only
  go_wp2_with fail
  (with_reducible refine (HOT.out T _ HT.out).mono ?_); rintro e w3 ⟨⟨X, hX, rfl⟩, hb3⟩; have HB3 := zh (Bel.call HB2.out hb3); dsimp only at hX; have HX := zh hX; clear hb3 hX HB2; dsimp only
  go_wp2
  go_ret2
  exact ⟨⟨⟨#[]⟩, rfl, rfl⟩, HB3.out⟩
 subst he
 rw [if_neg (by simp)]
 go_enter Tryz.func120, Tryz.ntmps120
 go_wp2_with fail
 have HB := zh (al w (.cells #[.string o, .string f, .int .i64 ep, .slice A rs.length c, .slice B ws.length d, .int .u64 (ver : Int), .slice V vs.length cv, .slice K ks.length ck, .string sig] 60))
 generalize w.alloc (.cells #[.string o, .string f, .int .i64 ep, .slice A rs.length c, .slice B ws.length d, .int .u64 (ver : Int), .slice V vs.length cv, .slice K ks.length ck, .string sig] 60) = w1 at HB ⊢
 (with_reducible refine (HBY.out _ (HA.out.below HB.out zl) (HBB.out.below HB.out zl) (HV.out.below HB.out zl) (HK.out.below HB.out zl)).mono ?_); rintro e w2 ⟨⟨T, hT, rfl⟩, hb2⟩; have HB2 := zh (Bel.call HB.out hb2); have HT := zh hT; clear hb2 hT HB; dsimp only
 go_wp2_with fail
 (with_reducible refine (HOT.out T _ HT.out).mono ?_); rintro e w3 ⟨⟨X, hX, rfl⟩, hb3⟩; have HB3 := zh (Bel.call HB2.out hb3); dsimp only at hX; have HX := zh hX; clear hb3 hX HB2; dsimp only
 go_wp2_with fail
 (with_reducible refine (HSN.out X _ HX.out).mono ?_); rintro e w4 ⟨⟨Z, hZ, rfl⟩, hb4⟩; have HB4 := zh (Bel.call HB3.out hb4); dsimp only at hZ; have HZ := zh hZ; clear hb4 hZ; dsimp only
 go_wp2
 go_ret2
 exact ⟨⟨Z, HZ.out, rfl⟩, HB4.out⟩
set_option maxHeartbeats 8000000 in
set_option maxRecDepth 1000000 in
theorem mapart_any (o f : ByteArray) (ep : Int) (A : Option Addr) (c : Nat) (rs : List ByteArray) (B : Option Addr) (d : Nat) (ws : List ByteArray) (w : World) (hA : SReads w A rs) (hB : SReads w B ws) (hl1 : rs.length ≤ 40) (hl2 : ws.length ≤ 40) (hna : A = none → c = 0) (hnb : B = none → d = 0) :
  Calls Tryz.prog 117 #[RV o f ep A rs.length c B ws.length d] w fun e w' => (∃ (X1 : Option Addr) (k1 : Nat) (X2 : Option Addr) (k2 : Nat), SReads w' X1 rs ∧ SReads w' X2 ws ∧ (rs.length ≤ k1 ∧ (X1 = none → k1 = 0)) ∧ (ws.length ≤ k2 ∧ (X2 = none → k2 = 0)) ∧ (∀ b off, X1 = some ⟨b, off, none⟩ → w.heap.size ≤ b ∧ b < w'.heap.size) ∧ (∀ b off, X2 = some ⟨b, off, none⟩ → w.heap.size ≤ b ∧ b < w'.heap.size) ∧ e = .returned (RV o f ep X1 rs.length k1 X2 ws.length k2)) ∧ Below w.heap.size w w' := by
 have HA := zh hA; have HBB := zh hB; have HNA := zh hna; have HNB := zh hnb
 have HC1 := zh fun w g hg h => copy_any A rs.length c rs w g hg h hl1 hna rfl
 have HC2 := zh fun w g hg h => copy_any B ws.length d ws w g hg h hl2 hnb rfl
 clear hA hB hna hnb
 unfold RV
 go_enter Tryz.func117, Tryz.ntmps117
 go_wp2_with fail
 have hT : Two w ((w.alloc (.cells #[.string o, .string f, .int .i64 ep, .slice A rs.length c, .slice B ws.length d] 48)).alloc (.cells #[.string ⟨#[]⟩, .string ⟨#[]⟩, .int .i64 0, .slice none 0 0, .slice none 0 0] 48)) o f ep A rs.length c B ws.length d := two_first (Below.refl _ _)
 have hSB : Sf w.heap.size ((w.alloc (.cells #[.string o, .string f, .int .i64 ep, .slice A rs.length c, .slice B ws.length d] 48)).alloc (.cells #[.string ⟨#[]⟩, .string ⟨#[]⟩, .int .i64 0, .slice none 0 0, .slice none 0 0] 48)) := (sf_alloc w _ _).below (al _ _) (by simp)
 generalize ((w.alloc (.cells #[.string o, .string f, .int .i64 ep, .slice A rs.length c, .slice B ws.length d] 48)).alloc (.cells #[.string ⟨#[]⟩, .string ⟨#[]⟩, .int .i64 0, .slice none 0 0, .slice none 0 0] 48)) = wz at hT hSB ⊢
 have hdr : Below wz.heap.size wz wz.drew := Below.drewN' (Below.refl wz.heap.size wz) 1
 have HT := zh (hT.more hdr); have HSB := zh (hSB.below hdr hT.1.2.2.2.2.2)
 refine wp_region_held_drew (S := fun _ => True) (by kernel_rfl) trivial (fun hHeld => ?_)
 clear hHeld hT hSB hdr; obtain ⟨wd, hwd⟩ : ∃ W, wz.drew = W := ⟨_, rfl⟩; rw [show wz.drew = wd from hwd] at HT HSB ⊢; clear hwd; obtain ⟨⟨c0, c1, c2, c3, c4, _⟩, ⟨r0, r1, r2, r3, r4, _⟩, ⟨f0, f1, f2, f3, f4⟩, _⟩ := HT.out; obtain ⟨b0, b1, b2, b3, b4⟩ := HSB.out
 have hHeld : True := trivial
 refine zqT 0 ?_ ?_ ?_; rotate_left
 · intro w' hSw; go_simp; try with_reducible rfl
 (try simp only [Act.put, zq1, zq2, zq3]); clear hHeld
 have hHeld : True := trivial
 refine zqT 4 ?_ ?_ ?_; rotate_left
 · intro w' hSw; go_simp; try with_reducible rfl
 (try simp only [Act.put, zq1, zq2, zq3]); clear hHeld; refine zqR [1, 5] ?_; refine zqC (fun K hK => ?_) ?_
 ·
  go_simp
  skip
  refine hK.out _ _ trivial (fun _ => ?_); (try simp only [Act.put, zq1, zq2, zq3]); refine zqR [2, 5] ?_; refine zqC (fun K hK => ?_) ?_
  ·
   go_simp; clear c0 c1 c2 c3 c4 r0 r1 r2 r3 r4 f0 f1 f2 f3 f4 b0 b1 b2 b3 b4
   have hpc := one_piece wd wd.heap.size 44 rfl (rfl : rs.length = rs.length) (HA.out.below HT.out.2.2.2 zl) HNA.out
   have hal := al wd (.cells #[.slice A rs.length c] 44)
   have hT := HT.out.more hal
   have hSB := HSB.out.below hal HT.out.1.2.2.2.2.2
   obtain ⟨G1, hG1⟩ : ∃ n, wd.heap.size = n := ⟨_, rfl⟩
   generalize wd.alloc (.cells #[.slice A rs.length c] 44) = w1 at hpc hal hT hSB ⊢
   rw [hG1] at hpc ⊢; have HT := zh hT; have HSB := zh hSB; have HP1 := zh hpc; clear hpc hal hT hSB hG1; obtain ⟨⟨c0, c1, c2, c3, c4, _⟩, ⟨r0, r1, r2, r3, r4, _⟩, ⟨f0, f1, f2, f3, f4⟩, _⟩ := HT.out; obtain ⟨b0, b1, b2, b3, b4⟩ := HSB.out; refine hK.out _ _ trivial (fun _ => ?_); (try simp only [Act.put, zq1, zq2, zq3]); refine zqR [3, 5] ?_; refine zqC (fun K hK => ?_) ?_
   ·
    go_simp
    go_at_call 146
    with_reducible refine (copy_at8 G1 rs w1 HP1.out (by omega)).mono ?_
    intro e w2 hh
    obtain ⟨hh1, hb⟩ := hh
    unfold LstU at hh1
    obtain ⟨X1, k1, hc1, hr1, hf1, he1⟩ := hh1
    subst he1
    have HTO := HT
    clear c0 c1 c2 c3 c4 r0 r1 r2 r3 r4 f0 f1 f2 f3 f4 b0 b1 b2 b3 b4
    have HF1 : Hid (∀ b off, X1 = some ⟨b, off, none⟩ → w.heap.size ≤ b ∧ b ≠ w.heap.size ∧ b ≠ w.heap.size + 1) := zh fun b off h => by
     have h1 := (hf1 b off h).1
     have h2 := HT.out.2.1.2.2.2.2.2
     exact ⟨by omega, by omega, by omega⟩
    have HT := zh (HT.out.more hb); have HSB := zh (HSB.out.below hb HTO.out.1.2.2.2.2.2); have HS1 := zh hr1; have HL1 := zh hc1
    have HU1 : Hid (∀ b off, X1 = some ⟨b, off, none⟩ → b < w2.heap.size) := zh fun b off h => (hf1 b off h).2
    clear hb hc1 hr1 hf1; obtain ⟨⟨c0, c1, c2, c3, c4, _⟩, ⟨r0, r1, r2, r3, r4, _⟩, ⟨f0, f1, f2, f3, f4⟩, _⟩ := HT.out; obtain ⟨b0, b1, b2, b3, b4⟩ := HSB.out; dsimp only; refine hK.out _ _ trivial (fun _ => ?_); (try simp only [Act.put, zq1, zq2, zq3]); refine zqR [5] ?_
    refine zqN fun K hK => ?_
    go_simp
    skip
    refine hK.out _ _ trivial (fun _ => ?_); try simp only [Act.put, zq1, zq2, zq3]
    have hHeld : True := trivial
    refine zqT 8 ?_ ?_ ?_; rotate_left
    · intro w' hSw; go_simp; try with_reducible rfl
    (try simp only [Act.put, zq1, zq2, zq3]); clear hHeld; refine zqR [6] ?_
    refine zqN fun K hK => ?_
    go_simp; clear c0 c1 c2 c3 c4 r0 r1 r2 r3 r4 f0 f1 f2 f3 f4 b0 b1 b2 b3 b4
    have hpc := one_piece w2 w2.heap.size 44 rfl (rfl : ws.length = ws.length) (HBB.out.below HT.out.2.2.2 zl) HNB.out
    have hal := al w2 (.cells #[.slice B ws.length d] 44)
    have hT := HT.out.more hal
    have hSB := HSB.out.below hal HT.out.1.2.2.2.2.2
    have hS1 := HS1.out.below hal zl
    have hU1 := fun b off h => Nat.lt_of_lt_of_le (HU1.out b off h) hal.size
    obtain ⟨G2, hG2⟩ : ∃ n, w2.heap.size = n := ⟨_, rfl⟩
    generalize w2.alloc (.cells #[.slice B ws.length d] 44) = w3 at hpc hal hT hSB hS1 hU1 ⊢
    rw [hG2] at hpc ⊢; have HT := zh hT; have HSB := zh hSB; have HP2 := zh hpc; have HS1 := zh hS1; have HU1 := zh hU1; clear hpc hal hT hSB hG2 hS1 hU1; obtain ⟨⟨c0, c1, c2, c3, c4, _⟩, ⟨r0, r1, r2, r3, r4, _⟩, ⟨f0, f1, f2, f3, f4⟩, _⟩ := HT.out; obtain ⟨b0, b1, b2, b3, b4⟩ := HSB.out; refine hK.out _ _ trivial (fun _ => ?_); (try simp only [Act.put, zq1, zq2, zq3]); refine zqR [7] ?_
    refine zqN fun K hK => ?_
    go_simp
    go_at_call 146
    with_reducible refine (copy_at8 G2 ws w3 HP2.out (by omega)).mono ?_
    intro e w4 hh
    obtain ⟨hh1, hb⟩ := hh
    unfold LstU at hh1
    obtain ⟨X2, k2, hc2, hr2, hf2, he2⟩ := hh1
    subst he2
    have HTO := HT
    clear c0 c1 c2 c3 c4 r0 r1 r2 r3 r4 f0 f1 f2 f3 f4 b0 b1 b2 b3 b4
    have HF2 : Hid (∀ b off, X2 = some ⟨b, off, none⟩ → w.heap.size ≤ b ∧ b ≠ w.heap.size ∧ b ≠ w.heap.size + 1) := zh fun b off h => by
     have h1 := (hf2 b off h).1
     have h2 := HT.out.2.1.2.2.2.2.2
     exact ⟨by omega, by omega, by omega⟩
    have HT := zh (HT.out.more hb); have HSB := zh (HSB.out.below hb HTO.out.1.2.2.2.2.2); have HS1 := zh (HS1.out.below hb zl); have HS2 := zh hr2; have HL2 := zh hc2
    have HU2 : Hid (∀ b off, X2 = some ⟨b, off, none⟩ → b < w4.heap.size) := zh fun b off h => (hf2 b off h).2
    have HU1 := zh fun b off h => Nat.lt_of_lt_of_le (HU1.out b off h) hb.size
    clear hb hc2 hr2 hf2; obtain ⟨⟨c0, c1, c2, c3, c4, _⟩, ⟨r0, r1, r2, r3, r4, _⟩, ⟨f0, f1, f2, f3, f4⟩, _⟩ := HT.out; obtain ⟨b0, b1, b2, b3, b4⟩ := HSB.out; dsimp only; refine hK.out _ _ trivial (fun _ => ?_); (try simp only [Act.put, zq1, zq2, zq3]); refine zqR [9] ?_
    refine zqN fun K hK => ?_
    go_simp
    skip
    refine hK.out _ _ trivial (fun _ => ?_); try simp only [Act.put, zq1, zq2, zq3]
    have hHeld : True := trivial
    refine zqT 10 ?_ ?_ ?_; rotate_left
    · intro w' hSw; go_simp; try with_reducible rfl
    (try simp only [Act.put, zq1, zq2, zq3]); clear hHeld; refine zqR [11] ?_
    refine zqN fun K hK => ?_
    go_simp
    skip
    refine hK.out _ _ trivial (fun _ => ?_); try simp only [Act.put, zq1, zq2, zq3]
    refine wpAnyH_done (by kernel_rfl) ?_ _
    have hS1 := HS1.out
    have hS2 := HS2.out
    have hB5 := HT.out.2.2.2
    go_wp2
    refine bodyPost_ret (v := RV o f ep X1 rs.length k1 X2 ws.length k2) (by simp [results, Tryz.results117, go_sem, RV, r0, r1, r2, r3, r4]) rfl ?_
    have p1 : ∀ b off, X1 = some ⟨b, off, none⟩ → b ≠ w.heap.size := fun b off h => (HF1.out b off h).2.1
    have p2 : ∀ b off, X2 = some ⟨b, off, none⟩ → b ≠ w.heap.size := fun b off h => (HF2.out b off h).2.1
    have q1 : ∀ b off, X1 = some ⟨b, off, none⟩ → b ≠ w.heap.size + 1 := fun b off h => (HF1.out b off h).2.2
    have q2 : ∀ b off, X2 = some ⟨b, off, none⟩ → b ≠ w.heap.size + 1 := fun b off h => (HF2.out b off h).2.2
    exact ⟨⟨X1, k1, X2, k2, sreads_set5 (sreads_set (sreads_set hS1 p1) p1) q1, sreads_set5 (sreads_set (sreads_set hS2 p2) p2) q2, HL1.out, HL2.out, fun b off h => ⟨(HF1.out b off h).1, by simpa [World.setCell] using HU1.out b off h⟩, fun b off h => ⟨(HF2.out b off h).1, by simpa [World.setCell] using HU2.out b off h⟩, rfl⟩, set5 ((hB5.setCell (p := ⟨w.heap.size, 3, none⟩) zl _).setCell (p := ⟨w.heap.size, 4, none⟩) zl _) (by omega)⟩
   refine zqN fun K hK => ?_
   go_simp
   skip
   refine hK.out _ _ trivial (fun _ => ?_); (try simp only [Act.put, zq1, zq2, zq3]); refine zqR [3, 6] ?_; refine zqC (fun K hK => ?_) ?_
   ·
    go_simp
    go_at_call 146
    with_reducible refine (copy_at8 G1 rs w1 HP1.out (by omega)).mono ?_
    intro e w2 hh
    obtain ⟨hh1, hb⟩ := hh
    unfold LstU at hh1
    obtain ⟨X1, k1, hc1, hr1, hf1, he1⟩ := hh1
    subst he1
    have HTO := HT
    clear c0 c1 c2 c3 c4 r0 r1 r2 r3 r4 f0 f1 f2 f3 f4 b0 b1 b2 b3 b4
    have HF1 : Hid (∀ b off, X1 = some ⟨b, off, none⟩ → w.heap.size ≤ b ∧ b ≠ w.heap.size ∧ b ≠ w.heap.size + 1) := zh fun b off h => by
     have h1 := (hf1 b off h).1
     have h2 := HT.out.2.1.2.2.2.2.2
     exact ⟨by omega, by omega, by omega⟩
    have HT := zh (HT.out.more hb); have HSB := zh (HSB.out.below hb HTO.out.1.2.2.2.2.2); have HS1 := zh hr1; have HL1 := zh hc1
    have HU1 : Hid (∀ b off, X1 = some ⟨b, off, none⟩ → b < w2.heap.size) := zh fun b off h => (hf1 b off h).2
    clear hb hc1 hr1 hf1; obtain ⟨⟨c0, c1, c2, c3, c4, _⟩, ⟨r0, r1, r2, r3, r4, _⟩, ⟨f0, f1, f2, f3, f4⟩, _⟩ := HT.out; obtain ⟨b0, b1, b2, b3, b4⟩ := HSB.out; dsimp only; refine hK.out _ _ trivial (fun _ => ?_); try simp only [Act.put, zq1, zq2, zq3]
    have hHeld : True := trivial
    refine zqT 8 ?_ ?_ ?_; rotate_left
    · intro w' hSw; go_simp; try with_reducible rfl
    (try simp only [Act.put, zq1, zq2, zq3]); clear hHeld; refine zqR [6] ?_
    refine zqN fun K hK => ?_
    go_simp; clear c0 c1 c2 c3 c4 r0 r1 r2 r3 r4 f0 f1 f2 f3 f4 b0 b1 b2 b3 b4
    have hpc := one_piece w2 w2.heap.size 44 rfl (rfl : ws.length = ws.length) (HBB.out.below HT.out.2.2.2 zl) HNB.out
    have hal := al w2 (.cells #[.slice B ws.length d] 44)
    have hT := HT.out.more hal
    have hSB := HSB.out.below hal HT.out.1.2.2.2.2.2
    have hS1 := HS1.out.below hal zl
    have hU1 := fun b off h => Nat.lt_of_lt_of_le (HU1.out b off h) hal.size
    obtain ⟨G2, hG2⟩ : ∃ n, w2.heap.size = n := ⟨_, rfl⟩
    generalize w2.alloc (.cells #[.slice B ws.length d] 44) = w3 at hpc hal hT hSB hS1 hU1 ⊢
    rw [hG2] at hpc ⊢; have HT := zh hT; have HSB := zh hSB; have HP2 := zh hpc; have HS1 := zh hS1; have HU1 := zh hU1; clear hpc hal hT hSB hG2 hS1 hU1; obtain ⟨⟨c0, c1, c2, c3, c4, _⟩, ⟨r0, r1, r2, r3, r4, _⟩, ⟨f0, f1, f2, f3, f4⟩, _⟩ := HT.out; obtain ⟨b0, b1, b2, b3, b4⟩ := HSB.out; refine hK.out _ _ trivial (fun _ => ?_); (try simp only [Act.put, zq1, zq2, zq3]); refine zqR [7] ?_
    refine zqN fun K hK => ?_
    go_simp
    go_at_call 146
    with_reducible refine (copy_at8 G2 ws w3 HP2.out (by omega)).mono ?_
    intro e w4 hh
    obtain ⟨hh1, hb⟩ := hh
    unfold LstU at hh1
    obtain ⟨X2, k2, hc2, hr2, hf2, he2⟩ := hh1
    subst he2
    have HTO := HT
    clear c0 c1 c2 c3 c4 r0 r1 r2 r3 r4 f0 f1 f2 f3 f4 b0 b1 b2 b3 b4
    have HF2 : Hid (∀ b off, X2 = some ⟨b, off, none⟩ → w.heap.size ≤ b ∧ b ≠ w.heap.size ∧ b ≠ w.heap.size + 1) := zh fun b off h => by
     have h1 := (hf2 b off h).1
     have h2 := HT.out.2.1.2.2.2.2.2
     exact ⟨by omega, by omega, by omega⟩
    have HT := zh (HT.out.more hb); have HSB := zh (HSB.out.below hb HTO.out.1.2.2.2.2.2); have HS1 := zh (HS1.out.below hb zl); have HS2 := zh hr2; have HL2 := zh hc2
    have HU2 : Hid (∀ b off, X2 = some ⟨b, off, none⟩ → b < w4.heap.size) := zh fun b off h => (hf2 b off h).2
    have HU1 := zh fun b off h => Nat.lt_of_lt_of_le (HU1.out b off h) hb.size
    clear hb hc2 hr2 hf2; obtain ⟨⟨c0, c1, c2, c3, c4, _⟩, ⟨r0, r1, r2, r3, r4, _⟩, ⟨f0, f1, f2, f3, f4⟩, _⟩ := HT.out; obtain ⟨b0, b1, b2, b3, b4⟩ := HSB.out; dsimp only; refine hK.out _ _ trivial (fun _ => ?_); (try simp only [Act.put, zq1, zq2, zq3]); refine zqR [9] ?_
    refine zqN fun K hK => ?_
    go_simp
    skip
    refine hK.out _ _ trivial (fun _ => ?_); try simp only [Act.put, zq1, zq2, zq3]
    have hHeld : True := trivial
    refine zqT 10 ?_ ?_ ?_; rotate_left
    · intro w' hSw; go_simp; try with_reducible rfl
    (try simp only [Act.put, zq1, zq2, zq3]); clear hHeld; refine zqR [11] ?_
    refine zqN fun K hK => ?_
    go_simp
    skip
    refine hK.out _ _ trivial (fun _ => ?_); try simp only [Act.put, zq1, zq2, zq3]
    refine wpAnyH_done (by kernel_rfl) ?_ _
    have hS1 := HS1.out
    have hS2 := HS2.out
    have hB5 := HT.out.2.2.2
    go_wp2
    refine bodyPost_ret (v := RV o f ep X1 rs.length k1 X2 ws.length k2) (by simp [results, Tryz.results117, go_sem, RV, r0, r1, r2, r3, r4]) rfl ?_
    have p1 : ∀ b off, X1 = some ⟨b, off, none⟩ → b ≠ w.heap.size := fun b off h => (HF1.out b off h).2.1
    have p2 : ∀ b off, X2 = some ⟨b, off, none⟩ → b ≠ w.heap.size := fun b off h => (HF2.out b off h).2.1
    have q1 : ∀ b off, X1 = some ⟨b, off, none⟩ → b ≠ w.heap.size + 1 := fun b off h => (HF1.out b off h).2.2
    have q2 : ∀ b off, X2 = some ⟨b, off, none⟩ → b ≠ w.heap.size + 1 := fun b off h => (HF2.out b off h).2.2
    exact ⟨⟨X1, k1, X2, k2, sreads_set5 (sreads_set (sreads_set hS1 p1) p1) q1, sreads_set5 (sreads_set (sreads_set hS2 p2) p2) q2, HL1.out, HL2.out, fun b off h => ⟨(HF1.out b off h).1, by simpa [World.setCell] using HU1.out b off h⟩, fun b off h => ⟨(HF2.out b off h).1, by simpa [World.setCell] using HU2.out b off h⟩, rfl⟩, set5 ((hB5.setCell (p := ⟨w.heap.size, 3, none⟩) zl _).setCell (p := ⟨w.heap.size, 4, none⟩) zl _) (by omega)⟩
   refine zqN fun K hK => ?_
   go_simp; clear c0 c1 c2 c3 c4 r0 r1 r2 r3 r4 f0 f1 f2 f3 f4 b0 b1 b2 b3 b4
   have hpc := one_piece w1 w1.heap.size 44 rfl (rfl : ws.length = ws.length) (HBB.out.below HT.out.2.2.2 zl) HNB.out
   have hal := al w1 (.cells #[.slice B ws.length d] 44)
   have hT := HT.out.more hal
   have hSB := HSB.out.below hal HT.out.1.2.2.2.2.2
   have hP1 := HP1.out.below hal zl
   obtain ⟨G2, hG2⟩ : ∃ n, w1.heap.size = n := ⟨_, rfl⟩
   generalize w1.alloc (.cells #[.slice B ws.length d] 44) = w2 at hpc hal hT hSB hP1 ⊢
   rw [hG2] at hpc ⊢; have HT := zh hT; have HSB := zh hSB; have HP2 := zh hpc; have HP1 := zh hP1; clear hpc hal hT hSB hG2 hP1; obtain ⟨⟨c0, c1, c2, c3, c4, _⟩, ⟨r0, r1, r2, r3, r4, _⟩, ⟨f0, f1, f2, f3, f4⟩, _⟩ := HT.out; obtain ⟨b0, b1, b2, b3, b4⟩ := HSB.out; refine hK.out _ _ trivial (fun _ => ?_); (try simp only [Act.put, zq1, zq2, zq3]); refine zqR [3] ?_
   refine zqN fun K hK => ?_
   go_simp
   go_at_call 146
   with_reducible refine (copy_at8 G1 rs w2 HP1.out (by omega)).mono ?_
   intro e w3 hh
   obtain ⟨hh1, hb⟩ := hh
   unfold LstU at hh1
   obtain ⟨X1, k1, hc1, hr1, hf1, he1⟩ := hh1
   subst he1
   have HTO := HT
   clear c0 c1 c2 c3 c4 r0 r1 r2 r3 r4 f0 f1 f2 f3 f4 b0 b1 b2 b3 b4
   have HF1 : Hid (∀ b off, X1 = some ⟨b, off, none⟩ → w.heap.size ≤ b ∧ b ≠ w.heap.size ∧ b ≠ w.heap.size + 1) := zh fun b off h => by
    have h1 := (hf1 b off h).1
    have h2 := HT.out.2.1.2.2.2.2.2
    exact ⟨by omega, by omega, by omega⟩
   have HT := zh (HT.out.more hb); have HSB := zh (HSB.out.below hb HTO.out.1.2.2.2.2.2); have HP2 := zh (HP2.out.below hb zl); have HS1 := zh hr1; have HL1 := zh hc1
   have HU1 : Hid (∀ b off, X1 = some ⟨b, off, none⟩ → b < w3.heap.size) := zh fun b off h => (hf1 b off h).2
   clear hb hc1 hr1 hf1; obtain ⟨⟨c0, c1, c2, c3, c4, _⟩, ⟨r0, r1, r2, r3, r4, _⟩, ⟨f0, f1, f2, f3, f4⟩, _⟩ := HT.out; obtain ⟨b0, b1, b2, b3, b4⟩ := HSB.out; dsimp only; refine hK.out _ _ trivial (fun _ => ?_); try simp only [Act.put, zq1, zq2, zq3]
   have hHeld : True := trivial
   refine zqT 8 ?_ ?_ ?_; rotate_left
   · intro w' hSw; go_simp; try with_reducible rfl
   (try simp only [Act.put, zq1, zq2, zq3]); clear hHeld; refine zqR [7] ?_
   refine zqN fun K hK => ?_
   go_simp
   go_at_call 146
   with_reducible refine (copy_at8 G2 ws w3 HP2.out (by omega)).mono ?_
   intro e w4 hh
   obtain ⟨hh1, hb⟩ := hh
   unfold LstU at hh1
   obtain ⟨X2, k2, hc2, hr2, hf2, he2⟩ := hh1
   subst he2
   have HTO := HT
   clear c0 c1 c2 c3 c4 r0 r1 r2 r3 r4 f0 f1 f2 f3 f4 b0 b1 b2 b3 b4
   have HF2 : Hid (∀ b off, X2 = some ⟨b, off, none⟩ → w.heap.size ≤ b ∧ b ≠ w.heap.size ∧ b ≠ w.heap.size + 1) := zh fun b off h => by
    have h1 := (hf2 b off h).1
    have h2 := HT.out.2.1.2.2.2.2.2
    exact ⟨by omega, by omega, by omega⟩
   have HT := zh (HT.out.more hb); have HSB := zh (HSB.out.below hb HTO.out.1.2.2.2.2.2); have HS1 := zh (HS1.out.below hb zl); have HS2 := zh hr2; have HL2 := zh hc2
   have HU2 : Hid (∀ b off, X2 = some ⟨b, off, none⟩ → b < w4.heap.size) := zh fun b off h => (hf2 b off h).2
   have HU1 := zh fun b off h => Nat.lt_of_lt_of_le (HU1.out b off h) hb.size
   clear hb hc2 hr2 hf2; obtain ⟨⟨c0, c1, c2, c3, c4, _⟩, ⟨r0, r1, r2, r3, r4, _⟩, ⟨f0, f1, f2, f3, f4⟩, _⟩ := HT.out; obtain ⟨b0, b1, b2, b3, b4⟩ := HSB.out; dsimp only; refine hK.out _ _ trivial (fun _ => ?_); (try simp only [Act.put, zq1, zq2, zq3]); refine zqR [9] ?_
   refine zqN fun K hK => ?_
   go_simp
   skip
   refine hK.out _ _ trivial (fun _ => ?_); try simp only [Act.put, zq1, zq2, zq3]
   have hHeld : True := trivial
   refine zqT 10 ?_ ?_ ?_; rotate_left
   · intro w' hSw; go_simp; try with_reducible rfl
   (try simp only [Act.put, zq1, zq2, zq3]); clear hHeld; refine zqR [11] ?_
   refine zqN fun K hK => ?_
   go_simp
   skip
   refine hK.out _ _ trivial (fun _ => ?_); try simp only [Act.put, zq1, zq2, zq3]
   refine wpAnyH_done (by kernel_rfl) ?_ _
   have hS1 := HS1.out
   have hS2 := HS2.out
   have hB5 := HT.out.2.2.2
   go_wp2
   refine bodyPost_ret (v := RV o f ep X1 rs.length k1 X2 ws.length k2) (by simp [results, Tryz.results117, go_sem, RV, r0, r1, r2, r3, r4]) rfl ?_
   have p1 : ∀ b off, X1 = some ⟨b, off, none⟩ → b ≠ w.heap.size := fun b off h => (HF1.out b off h).2.1
   have p2 : ∀ b off, X2 = some ⟨b, off, none⟩ → b ≠ w.heap.size := fun b off h => (HF2.out b off h).2.1
   have q1 : ∀ b off, X1 = some ⟨b, off, none⟩ → b ≠ w.heap.size + 1 := fun b off h => (HF1.out b off h).2.2
   have q2 : ∀ b off, X2 = some ⟨b, off, none⟩ → b ≠ w.heap.size + 1 := fun b off h => (HF2.out b off h).2.2
   exact ⟨⟨X1, k1, X2, k2, sreads_set5 (sreads_set (sreads_set hS1 p1) p1) q1, sreads_set5 (sreads_set (sreads_set hS2 p2) p2) q2, HL1.out, HL2.out, fun b off h => ⟨(HF1.out b off h).1, by simpa [World.setCell] using HU1.out b off h⟩, fun b off h => ⟨(HF2.out b off h).1, by simpa [World.setCell] using HU2.out b off h⟩, rfl⟩, set5 ((hB5.setCell (p := ⟨w.heap.size, 3, none⟩) zl _).setCell (p := ⟨w.heap.size, 4, none⟩) zl _) (by omega)⟩
  refine zqN fun K hK => ?_
  go_simp
  skip
  refine hK.out _ _ trivial (fun _ => ?_); (try simp only [Act.put, zq1, zq2, zq3]); refine zqR [2, 6] ?_; refine zqC (fun K hK => ?_) ?_
  ·
   go_simp; clear c0 c1 c2 c3 c4 r0 r1 r2 r3 r4 f0 f1 f2 f3 f4 b0 b1 b2 b3 b4
   have hpc := one_piece wd wd.heap.size 44 rfl (rfl : rs.length = rs.length) (HA.out.below HT.out.2.2.2 zl) HNA.out
   have hal := al wd (.cells #[.slice A rs.length c] 44)
   have hT := HT.out.more hal
   have hSB := HSB.out.below hal HT.out.1.2.2.2.2.2
   obtain ⟨G1, hG1⟩ : ∃ n, wd.heap.size = n := ⟨_, rfl⟩
   generalize wd.alloc (.cells #[.slice A rs.length c] 44) = w1 at hpc hal hT hSB ⊢
   rw [hG1] at hpc ⊢; have HT := zh hT; have HSB := zh hSB; have HP1 := zh hpc; clear hpc hal hT hSB hG1; obtain ⟨⟨c0, c1, c2, c3, c4, _⟩, ⟨r0, r1, r2, r3, r4, _⟩, ⟨f0, f1, f2, f3, f4⟩, _⟩ := HT.out; obtain ⟨b0, b1, b2, b3, b4⟩ := HSB.out; refine hK.out _ _ trivial (fun _ => ?_); (try simp only [Act.put, zq1, zq2, zq3]); refine zqR [3, 6] ?_; refine zqC (fun K hK => ?_) ?_
   ·
    go_simp
    go_at_call 146
    with_reducible refine (copy_at8 G1 rs w1 HP1.out (by omega)).mono ?_
    intro e w2 hh
    obtain ⟨hh1, hb⟩ := hh
    unfold LstU at hh1
    obtain ⟨X1, k1, hc1, hr1, hf1, he1⟩ := hh1
    subst he1
    have HTO := HT
    clear c0 c1 c2 c3 c4 r0 r1 r2 r3 r4 f0 f1 f2 f3 f4 b0 b1 b2 b3 b4
    have HF1 : Hid (∀ b off, X1 = some ⟨b, off, none⟩ → w.heap.size ≤ b ∧ b ≠ w.heap.size ∧ b ≠ w.heap.size + 1) := zh fun b off h => by
     have h1 := (hf1 b off h).1
     have h2 := HT.out.2.1.2.2.2.2.2
     exact ⟨by omega, by omega, by omega⟩
    have HT := zh (HT.out.more hb); have HSB := zh (HSB.out.below hb HTO.out.1.2.2.2.2.2); have HS1 := zh hr1; have HL1 := zh hc1
    have HU1 : Hid (∀ b off, X1 = some ⟨b, off, none⟩ → b < w2.heap.size) := zh fun b off h => (hf1 b off h).2
    clear hb hc1 hr1 hf1; obtain ⟨⟨c0, c1, c2, c3, c4, _⟩, ⟨r0, r1, r2, r3, r4, _⟩, ⟨f0, f1, f2, f3, f4⟩, _⟩ := HT.out; obtain ⟨b0, b1, b2, b3, b4⟩ := HSB.out; dsimp only; refine hK.out _ _ trivial (fun _ => ?_); try simp only [Act.put, zq1, zq2, zq3]
    have hHeld : True := trivial
    refine zqT 8 ?_ ?_ ?_; rotate_left
    · intro w' hSw; go_simp; try with_reducible rfl
    (try simp only [Act.put, zq1, zq2, zq3]); clear hHeld; refine zqR [6] ?_
    refine zqN fun K hK => ?_
    go_simp; clear c0 c1 c2 c3 c4 r0 r1 r2 r3 r4 f0 f1 f2 f3 f4 b0 b1 b2 b3 b4
    have hpc := one_piece w2 w2.heap.size 44 rfl (rfl : ws.length = ws.length) (HBB.out.below HT.out.2.2.2 zl) HNB.out
    have hal := al w2 (.cells #[.slice B ws.length d] 44)
    have hT := HT.out.more hal
    have hSB := HSB.out.below hal HT.out.1.2.2.2.2.2
    have hS1 := HS1.out.below hal zl
    have hU1 := fun b off h => Nat.lt_of_lt_of_le (HU1.out b off h) hal.size
    obtain ⟨G2, hG2⟩ : ∃ n, w2.heap.size = n := ⟨_, rfl⟩
    generalize w2.alloc (.cells #[.slice B ws.length d] 44) = w3 at hpc hal hT hSB hS1 hU1 ⊢
    rw [hG2] at hpc ⊢; have HT := zh hT; have HSB := zh hSB; have HP2 := zh hpc; have HS1 := zh hS1; have HU1 := zh hU1; clear hpc hal hT hSB hG2 hS1 hU1; obtain ⟨⟨c0, c1, c2, c3, c4, _⟩, ⟨r0, r1, r2, r3, r4, _⟩, ⟨f0, f1, f2, f3, f4⟩, _⟩ := HT.out; obtain ⟨b0, b1, b2, b3, b4⟩ := HSB.out; refine hK.out _ _ trivial (fun _ => ?_); (try simp only [Act.put, zq1, zq2, zq3]); refine zqR [7] ?_
    refine zqN fun K hK => ?_
    go_simp
    go_at_call 146
    with_reducible refine (copy_at8 G2 ws w3 HP2.out (by omega)).mono ?_
    intro e w4 hh
    obtain ⟨hh1, hb⟩ := hh
    unfold LstU at hh1
    obtain ⟨X2, k2, hc2, hr2, hf2, he2⟩ := hh1
    subst he2
    have HTO := HT
    clear c0 c1 c2 c3 c4 r0 r1 r2 r3 r4 f0 f1 f2 f3 f4 b0 b1 b2 b3 b4
    have HF2 : Hid (∀ b off, X2 = some ⟨b, off, none⟩ → w.heap.size ≤ b ∧ b ≠ w.heap.size ∧ b ≠ w.heap.size + 1) := zh fun b off h => by
     have h1 := (hf2 b off h).1
     have h2 := HT.out.2.1.2.2.2.2.2
     exact ⟨by omega, by omega, by omega⟩
    have HT := zh (HT.out.more hb); have HSB := zh (HSB.out.below hb HTO.out.1.2.2.2.2.2); have HS1 := zh (HS1.out.below hb zl); have HS2 := zh hr2; have HL2 := zh hc2
    have HU2 : Hid (∀ b off, X2 = some ⟨b, off, none⟩ → b < w4.heap.size) := zh fun b off h => (hf2 b off h).2
    have HU1 := zh fun b off h => Nat.lt_of_lt_of_le (HU1.out b off h) hb.size
    clear hb hc2 hr2 hf2; obtain ⟨⟨c0, c1, c2, c3, c4, _⟩, ⟨r0, r1, r2, r3, r4, _⟩, ⟨f0, f1, f2, f3, f4⟩, _⟩ := HT.out; obtain ⟨b0, b1, b2, b3, b4⟩ := HSB.out; dsimp only; refine hK.out _ _ trivial (fun _ => ?_); (try simp only [Act.put, zq1, zq2, zq3]); refine zqR [9] ?_
    refine zqN fun K hK => ?_
    go_simp
    skip
    refine hK.out _ _ trivial (fun _ => ?_); try simp only [Act.put, zq1, zq2, zq3]
    have hHeld : True := trivial
    refine zqT 10 ?_ ?_ ?_; rotate_left
    · intro w' hSw; go_simp; try with_reducible rfl
    (try simp only [Act.put, zq1, zq2, zq3]); clear hHeld; refine zqR [11] ?_
    refine zqN fun K hK => ?_
    go_simp
    skip
    refine hK.out _ _ trivial (fun _ => ?_); try simp only [Act.put, zq1, zq2, zq3]
    refine wpAnyH_done (by kernel_rfl) ?_ _
    have hS1 := HS1.out
    have hS2 := HS2.out
    have hB5 := HT.out.2.2.2
    go_wp2
    refine bodyPost_ret (v := RV o f ep X1 rs.length k1 X2 ws.length k2) (by simp [results, Tryz.results117, go_sem, RV, r0, r1, r2, r3, r4]) rfl ?_
    have p1 : ∀ b off, X1 = some ⟨b, off, none⟩ → b ≠ w.heap.size := fun b off h => (HF1.out b off h).2.1
    have p2 : ∀ b off, X2 = some ⟨b, off, none⟩ → b ≠ w.heap.size := fun b off h => (HF2.out b off h).2.1
    have q1 : ∀ b off, X1 = some ⟨b, off, none⟩ → b ≠ w.heap.size + 1 := fun b off h => (HF1.out b off h).2.2
    have q2 : ∀ b off, X2 = some ⟨b, off, none⟩ → b ≠ w.heap.size + 1 := fun b off h => (HF2.out b off h).2.2
    exact ⟨⟨X1, k1, X2, k2, sreads_set5 (sreads_set (sreads_set hS1 p1) p1) q1, sreads_set5 (sreads_set (sreads_set hS2 p2) p2) q2, HL1.out, HL2.out, fun b off h => ⟨(HF1.out b off h).1, by simpa [World.setCell] using HU1.out b off h⟩, fun b off h => ⟨(HF2.out b off h).1, by simpa [World.setCell] using HU2.out b off h⟩, rfl⟩, set5 ((hB5.setCell (p := ⟨w.heap.size, 3, none⟩) zl _).setCell (p := ⟨w.heap.size, 4, none⟩) zl _) (by omega)⟩
   refine zqN fun K hK => ?_
   go_simp; clear c0 c1 c2 c3 c4 r0 r1 r2 r3 r4 f0 f1 f2 f3 f4 b0 b1 b2 b3 b4
   have hpc := one_piece w1 w1.heap.size 44 rfl (rfl : ws.length = ws.length) (HBB.out.below HT.out.2.2.2 zl) HNB.out
   have hal := al w1 (.cells #[.slice B ws.length d] 44)
   have hT := HT.out.more hal
   have hSB := HSB.out.below hal HT.out.1.2.2.2.2.2
   have hP1 := HP1.out.below hal zl
   obtain ⟨G2, hG2⟩ : ∃ n, w1.heap.size = n := ⟨_, rfl⟩
   generalize w1.alloc (.cells #[.slice B ws.length d] 44) = w2 at hpc hal hT hSB hP1 ⊢
   rw [hG2] at hpc ⊢; have HT := zh hT; have HSB := zh hSB; have HP2 := zh hpc; have HP1 := zh hP1; clear hpc hal hT hSB hG2 hP1; obtain ⟨⟨c0, c1, c2, c3, c4, _⟩, ⟨r0, r1, r2, r3, r4, _⟩, ⟨f0, f1, f2, f3, f4⟩, _⟩ := HT.out; obtain ⟨b0, b1, b2, b3, b4⟩ := HSB.out; refine hK.out _ _ trivial (fun _ => ?_); (try simp only [Act.put, zq1, zq2, zq3]); refine zqR [3] ?_
   refine zqN fun K hK => ?_
   go_simp
   go_at_call 146
   with_reducible refine (copy_at8 G1 rs w2 HP1.out (by omega)).mono ?_
   intro e w3 hh
   obtain ⟨hh1, hb⟩ := hh
   unfold LstU at hh1
   obtain ⟨X1, k1, hc1, hr1, hf1, he1⟩ := hh1
   subst he1
   have HTO := HT
   clear c0 c1 c2 c3 c4 r0 r1 r2 r3 r4 f0 f1 f2 f3 f4 b0 b1 b2 b3 b4
   have HF1 : Hid (∀ b off, X1 = some ⟨b, off, none⟩ → w.heap.size ≤ b ∧ b ≠ w.heap.size ∧ b ≠ w.heap.size + 1) := zh fun b off h => by
    have h1 := (hf1 b off h).1
    have h2 := HT.out.2.1.2.2.2.2.2
    exact ⟨by omega, by omega, by omega⟩
   have HT := zh (HT.out.more hb); have HSB := zh (HSB.out.below hb HTO.out.1.2.2.2.2.2); have HP2 := zh (HP2.out.below hb zl); have HS1 := zh hr1; have HL1 := zh hc1
   have HU1 : Hid (∀ b off, X1 = some ⟨b, off, none⟩ → b < w3.heap.size) := zh fun b off h => (hf1 b off h).2
   clear hb hc1 hr1 hf1; obtain ⟨⟨c0, c1, c2, c3, c4, _⟩, ⟨r0, r1, r2, r3, r4, _⟩, ⟨f0, f1, f2, f3, f4⟩, _⟩ := HT.out; obtain ⟨b0, b1, b2, b3, b4⟩ := HSB.out; dsimp only; refine hK.out _ _ trivial (fun _ => ?_); try simp only [Act.put, zq1, zq2, zq3]
   have hHeld : True := trivial
   refine zqT 8 ?_ ?_ ?_; rotate_left
   · intro w' hSw; go_simp; try with_reducible rfl
   (try simp only [Act.put, zq1, zq2, zq3]); clear hHeld; refine zqR [7] ?_
   refine zqN fun K hK => ?_
   go_simp
   go_at_call 146
   with_reducible refine (copy_at8 G2 ws w3 HP2.out (by omega)).mono ?_
   intro e w4 hh
   obtain ⟨hh1, hb⟩ := hh
   unfold LstU at hh1
   obtain ⟨X2, k2, hc2, hr2, hf2, he2⟩ := hh1
   subst he2
   have HTO := HT
   clear c0 c1 c2 c3 c4 r0 r1 r2 r3 r4 f0 f1 f2 f3 f4 b0 b1 b2 b3 b4
   have HF2 : Hid (∀ b off, X2 = some ⟨b, off, none⟩ → w.heap.size ≤ b ∧ b ≠ w.heap.size ∧ b ≠ w.heap.size + 1) := zh fun b off h => by
    have h1 := (hf2 b off h).1
    have h2 := HT.out.2.1.2.2.2.2.2
    exact ⟨by omega, by omega, by omega⟩
   have HT := zh (HT.out.more hb); have HSB := zh (HSB.out.below hb HTO.out.1.2.2.2.2.2); have HS1 := zh (HS1.out.below hb zl); have HS2 := zh hr2; have HL2 := zh hc2
   have HU2 : Hid (∀ b off, X2 = some ⟨b, off, none⟩ → b < w4.heap.size) := zh fun b off h => (hf2 b off h).2
   have HU1 := zh fun b off h => Nat.lt_of_lt_of_le (HU1.out b off h) hb.size
   clear hb hc2 hr2 hf2; obtain ⟨⟨c0, c1, c2, c3, c4, _⟩, ⟨r0, r1, r2, r3, r4, _⟩, ⟨f0, f1, f2, f3, f4⟩, _⟩ := HT.out; obtain ⟨b0, b1, b2, b3, b4⟩ := HSB.out; dsimp only; refine hK.out _ _ trivial (fun _ => ?_); (try simp only [Act.put, zq1, zq2, zq3]); refine zqR [9] ?_
   refine zqN fun K hK => ?_
   go_simp
   skip
   refine hK.out _ _ trivial (fun _ => ?_); try simp only [Act.put, zq1, zq2, zq3]
   have hHeld : True := trivial
   refine zqT 10 ?_ ?_ ?_; rotate_left
   · intro w' hSw; go_simp; try with_reducible rfl
   (try simp only [Act.put, zq1, zq2, zq3]); clear hHeld; refine zqR [11] ?_
   refine zqN fun K hK => ?_
   go_simp
   skip
   refine hK.out _ _ trivial (fun _ => ?_); try simp only [Act.put, zq1, zq2, zq3]
   refine wpAnyH_done (by kernel_rfl) ?_ _
   have hS1 := HS1.out
   have hS2 := HS2.out
   have hB5 := HT.out.2.2.2
   go_wp2
   refine bodyPost_ret (v := RV o f ep X1 rs.length k1 X2 ws.length k2) (by simp [results, Tryz.results117, go_sem, RV, r0, r1, r2, r3, r4]) rfl ?_
   have p1 : ∀ b off, X1 = some ⟨b, off, none⟩ → b ≠ w.heap.size := fun b off h => (HF1.out b off h).2.1
   have p2 : ∀ b off, X2 = some ⟨b, off, none⟩ → b ≠ w.heap.size := fun b off h => (HF2.out b off h).2.1
   have q1 : ∀ b off, X1 = some ⟨b, off, none⟩ → b ≠ w.heap.size + 1 := fun b off h => (HF1.out b off h).2.2
   have q2 : ∀ b off, X2 = some ⟨b, off, none⟩ → b ≠ w.heap.size + 1 := fun b off h => (HF2.out b off h).2.2
   exact ⟨⟨X1, k1, X2, k2, sreads_set5 (sreads_set (sreads_set hS1 p1) p1) q1, sreads_set5 (sreads_set (sreads_set hS2 p2) p2) q2, HL1.out, HL2.out, fun b off h => ⟨(HF1.out b off h).1, by simpa [World.setCell] using HU1.out b off h⟩, fun b off h => ⟨(HF2.out b off h).1, by simpa [World.setCell] using HU2.out b off h⟩, rfl⟩, set5 ((hB5.setCell (p := ⟨w.heap.size, 3, none⟩) zl _).setCell (p := ⟨w.heap.size, 4, none⟩) zl _) (by omega)⟩
  refine zqN fun K hK => ?_
  go_simp; clear c0 c1 c2 c3 c4 r0 r1 r2 r3 r4 f0 f1 f2 f3 f4 b0 b1 b2 b3 b4
  have hpc := one_piece wd wd.heap.size 44 rfl (rfl : ws.length = ws.length) (HBB.out.below HT.out.2.2.2 zl) HNB.out
  have hal := al wd (.cells #[.slice B ws.length d] 44)
  have hT := HT.out.more hal
  have hSB := HSB.out.below hal HT.out.1.2.2.2.2.2
  obtain ⟨G2, hG2⟩ : ∃ n, wd.heap.size = n := ⟨_, rfl⟩
  generalize wd.alloc (.cells #[.slice B ws.length d] 44) = w1 at hpc hal hT hSB ⊢
  rw [hG2] at hpc ⊢; have HT := zh hT; have HSB := zh hSB; have HP2 := zh hpc; clear hpc hal hT hSB hG2; obtain ⟨⟨c0, c1, c2, c3, c4, _⟩, ⟨r0, r1, r2, r3, r4, _⟩, ⟨f0, f1, f2, f3, f4⟩, _⟩ := HT.out; obtain ⟨b0, b1, b2, b3, b4⟩ := HSB.out; refine hK.out _ _ trivial (fun _ => ?_); (try simp only [Act.put, zq1, zq2, zq3]); refine zqR [2] ?_
  refine zqN fun K hK => ?_
  go_simp; clear c0 c1 c2 c3 c4 r0 r1 r2 r3 r4 f0 f1 f2 f3 f4 b0 b1 b2 b3 b4
  have hpc := one_piece w1 w1.heap.size 44 rfl (rfl : rs.length = rs.length) (HA.out.below HT.out.2.2.2 zl) HNA.out
  have hal := al w1 (.cells #[.slice A rs.length c] 44)
  have hT := HT.out.more hal
  have hSB := HSB.out.below hal HT.out.1.2.2.2.2.2
  have hP2 := HP2.out.below hal zl
  obtain ⟨G1, hG1⟩ : ∃ n, w1.heap.size = n := ⟨_, rfl⟩
  generalize w1.alloc (.cells #[.slice A rs.length c] 44) = w2 at hpc hal hT hSB hP2 ⊢
  rw [hG1] at hpc ⊢; have HT := zh hT; have HSB := zh hSB; have HP1 := zh hpc; have HP2 := zh hP2; clear hpc hal hT hSB hG1 hP2; obtain ⟨⟨c0, c1, c2, c3, c4, _⟩, ⟨r0, r1, r2, r3, r4, _⟩, ⟨f0, f1, f2, f3, f4⟩, _⟩ := HT.out; obtain ⟨b0, b1, b2, b3, b4⟩ := HSB.out; refine hK.out _ _ trivial (fun _ => ?_); (try simp only [Act.put, zq1, zq2, zq3]); refine zqR [3] ?_
  refine zqN fun K hK => ?_
  go_simp
  go_at_call 146
  with_reducible refine (copy_at8 G1 rs w2 HP1.out (by omega)).mono ?_
  intro e w3 hh
  obtain ⟨hh1, hb⟩ := hh
  unfold LstU at hh1
  obtain ⟨X1, k1, hc1, hr1, hf1, he1⟩ := hh1
  subst he1
  have HTO := HT
  clear c0 c1 c2 c3 c4 r0 r1 r2 r3 r4 f0 f1 f2 f3 f4 b0 b1 b2 b3 b4
  have HF1 : Hid (∀ b off, X1 = some ⟨b, off, none⟩ → w.heap.size ≤ b ∧ b ≠ w.heap.size ∧ b ≠ w.heap.size + 1) := zh fun b off h => by
   have h1 := (hf1 b off h).1
   have h2 := HT.out.2.1.2.2.2.2.2
   exact ⟨by omega, by omega, by omega⟩
  have HT := zh (HT.out.more hb); have HSB := zh (HSB.out.below hb HTO.out.1.2.2.2.2.2); have HP2 := zh (HP2.out.below hb zl); have HS1 := zh hr1; have HL1 := zh hc1
  have HU1 : Hid (∀ b off, X1 = some ⟨b, off, none⟩ → b < w3.heap.size) := zh fun b off h => (hf1 b off h).2
  clear hb hc1 hr1 hf1; obtain ⟨⟨c0, c1, c2, c3, c4, _⟩, ⟨r0, r1, r2, r3, r4, _⟩, ⟨f0, f1, f2, f3, f4⟩, _⟩ := HT.out; obtain ⟨b0, b1, b2, b3, b4⟩ := HSB.out; dsimp only; refine hK.out _ _ trivial (fun _ => ?_); try simp only [Act.put, zq1, zq2, zq3]
  have hHeld : True := trivial
  refine zqT 8 ?_ ?_ ?_; rotate_left
  · intro w' hSw; go_simp; try with_reducible rfl
  (try simp only [Act.put, zq1, zq2, zq3]); clear hHeld; refine zqR [7] ?_
  refine zqN fun K hK => ?_
  go_simp
  go_at_call 146
  with_reducible refine (copy_at8 G2 ws w3 HP2.out (by omega)).mono ?_
  intro e w4 hh
  obtain ⟨hh1, hb⟩ := hh
  unfold LstU at hh1
  obtain ⟨X2, k2, hc2, hr2, hf2, he2⟩ := hh1
  subst he2
  have HTO := HT
  clear c0 c1 c2 c3 c4 r0 r1 r2 r3 r4 f0 f1 f2 f3 f4 b0 b1 b2 b3 b4
  have HF2 : Hid (∀ b off, X2 = some ⟨b, off, none⟩ → w.heap.size ≤ b ∧ b ≠ w.heap.size ∧ b ≠ w.heap.size + 1) := zh fun b off h => by
   have h1 := (hf2 b off h).1
   have h2 := HT.out.2.1.2.2.2.2.2
   exact ⟨by omega, by omega, by omega⟩
  have HT := zh (HT.out.more hb); have HSB := zh (HSB.out.below hb HTO.out.1.2.2.2.2.2); have HS1 := zh (HS1.out.below hb zl); have HS2 := zh hr2; have HL2 := zh hc2
  have HU2 : Hid (∀ b off, X2 = some ⟨b, off, none⟩ → b < w4.heap.size) := zh fun b off h => (hf2 b off h).2
  have HU1 := zh fun b off h => Nat.lt_of_lt_of_le (HU1.out b off h) hb.size
  clear hb hc2 hr2 hf2; obtain ⟨⟨c0, c1, c2, c3, c4, _⟩, ⟨r0, r1, r2, r3, r4, _⟩, ⟨f0, f1, f2, f3, f4⟩, _⟩ := HT.out; obtain ⟨b0, b1, b2, b3, b4⟩ := HSB.out; dsimp only; refine hK.out _ _ trivial (fun _ => ?_); (try simp only [Act.put, zq1, zq2, zq3]); refine zqR [9] ?_
  refine zqN fun K hK => ?_
  go_simp
  skip
  refine hK.out _ _ trivial (fun _ => ?_); try simp only [Act.put, zq1, zq2, zq3]
  have hHeld : True := trivial
  refine zqT 10 ?_ ?_ ?_; rotate_left
  · intro w' hSw; go_simp; try with_reducible rfl
  (try simp only [Act.put, zq1, zq2, zq3]); clear hHeld; refine zqR [11] ?_
  refine zqN fun K hK => ?_
  go_simp
  skip
  refine hK.out _ _ trivial (fun _ => ?_); try simp only [Act.put, zq1, zq2, zq3]
  refine wpAnyH_done (by kernel_rfl) ?_ _
  have hS1 := HS1.out
  have hS2 := HS2.out
  have hB5 := HT.out.2.2.2
  go_wp2
  refine bodyPost_ret (v := RV o f ep X1 rs.length k1 X2 ws.length k2) (by simp [results, Tryz.results117, go_sem, RV, r0, r1, r2, r3, r4]) rfl ?_
  have p1 : ∀ b off, X1 = some ⟨b, off, none⟩ → b ≠ w.heap.size := fun b off h => (HF1.out b off h).2.1
  have p2 : ∀ b off, X2 = some ⟨b, off, none⟩ → b ≠ w.heap.size := fun b off h => (HF2.out b off h).2.1
  have q1 : ∀ b off, X1 = some ⟨b, off, none⟩ → b ≠ w.heap.size + 1 := fun b off h => (HF1.out b off h).2.2
  have q2 : ∀ b off, X2 = some ⟨b, off, none⟩ → b ≠ w.heap.size + 1 := fun b off h => (HF2.out b off h).2.2
  exact ⟨⟨X1, k1, X2, k2, sreads_set5 (sreads_set (sreads_set hS1 p1) p1) q1, sreads_set5 (sreads_set (sreads_set hS2 p2) p2) q2, HL1.out, HL2.out, fun b off h => ⟨(HF1.out b off h).1, by simpa [World.setCell] using HU1.out b off h⟩, fun b off h => ⟨(HF2.out b off h).1, by simpa [World.setCell] using HU2.out b off h⟩, rfl⟩, set5 ((hB5.setCell (p := ⟨w.heap.size, 3, none⟩) zl _).setCell (p := ⟨w.heap.size, 4, none⟩) zl _) (by omega)⟩
 refine zqN fun K hK => ?_
 go_simp
 skip
 refine hK.out _ _ trivial (fun _ => ?_); (try simp only [Act.put, zq1, zq2, zq3]); refine zqR [1, 6] ?_; refine zqC (fun K hK => ?_) ?_
 ·
  go_simp
  skip
  refine hK.out _ _ trivial (fun _ => ?_); (try simp only [Act.put, zq1, zq2, zq3]); refine zqR [2, 6] ?_; refine zqC (fun K hK => ?_) ?_
  ·
   go_simp; clear c0 c1 c2 c3 c4 r0 r1 r2 r3 r4 f0 f1 f2 f3 f4 b0 b1 b2 b3 b4
   have hpc := one_piece wd wd.heap.size 44 rfl (rfl : rs.length = rs.length) (HA.out.below HT.out.2.2.2 zl) HNA.out
   have hal := al wd (.cells #[.slice A rs.length c] 44)
   have hT := HT.out.more hal
   have hSB := HSB.out.below hal HT.out.1.2.2.2.2.2
   obtain ⟨G1, hG1⟩ : ∃ n, wd.heap.size = n := ⟨_, rfl⟩
   generalize wd.alloc (.cells #[.slice A rs.length c] 44) = w1 at hpc hal hT hSB ⊢
   rw [hG1] at hpc ⊢; have HT := zh hT; have HSB := zh hSB; have HP1 := zh hpc; clear hpc hal hT hSB hG1; obtain ⟨⟨c0, c1, c2, c3, c4, _⟩, ⟨r0, r1, r2, r3, r4, _⟩, ⟨f0, f1, f2, f3, f4⟩, _⟩ := HT.out; obtain ⟨b0, b1, b2, b3, b4⟩ := HSB.out; refine hK.out _ _ trivial (fun _ => ?_); (try simp only [Act.put, zq1, zq2, zq3]); refine zqR [3, 6] ?_; refine zqC (fun K hK => ?_) ?_
   ·
    go_simp
    go_at_call 146
    with_reducible refine (copy_at8 G1 rs w1 HP1.out (by omega)).mono ?_
    intro e w2 hh
    obtain ⟨hh1, hb⟩ := hh
    unfold LstU at hh1
    obtain ⟨X1, k1, hc1, hr1, hf1, he1⟩ := hh1
    subst he1
    have HTO := HT
    clear c0 c1 c2 c3 c4 r0 r1 r2 r3 r4 f0 f1 f2 f3 f4 b0 b1 b2 b3 b4
    have HF1 : Hid (∀ b off, X1 = some ⟨b, off, none⟩ → w.heap.size ≤ b ∧ b ≠ w.heap.size ∧ b ≠ w.heap.size + 1) := zh fun b off h => by
     have h1 := (hf1 b off h).1
     have h2 := HT.out.2.1.2.2.2.2.2
     exact ⟨by omega, by omega, by omega⟩
    have HT := zh (HT.out.more hb); have HSB := zh (HSB.out.below hb HTO.out.1.2.2.2.2.2); have HS1 := zh hr1; have HL1 := zh hc1
    have HU1 : Hid (∀ b off, X1 = some ⟨b, off, none⟩ → b < w2.heap.size) := zh fun b off h => (hf1 b off h).2
    clear hb hc1 hr1 hf1; obtain ⟨⟨c0, c1, c2, c3, c4, _⟩, ⟨r0, r1, r2, r3, r4, _⟩, ⟨f0, f1, f2, f3, f4⟩, _⟩ := HT.out; obtain ⟨b0, b1, b2, b3, b4⟩ := HSB.out; dsimp only; refine hK.out _ _ trivial (fun _ => ?_); try simp only [Act.put, zq1, zq2, zq3]
    have hHeld : True := trivial
    refine zqT 8 ?_ ?_ ?_; rotate_left
    · intro w' hSw; go_simp; try with_reducible rfl
    (try simp only [Act.put, zq1, zq2, zq3]); clear hHeld; refine zqR [6] ?_
    refine zqN fun K hK => ?_
    go_simp; clear c0 c1 c2 c3 c4 r0 r1 r2 r3 r4 f0 f1 f2 f3 f4 b0 b1 b2 b3 b4
    have hpc := one_piece w2 w2.heap.size 44 rfl (rfl : ws.length = ws.length) (HBB.out.below HT.out.2.2.2 zl) HNB.out
    have hal := al w2 (.cells #[.slice B ws.length d] 44)
    have hT := HT.out.more hal
    have hSB := HSB.out.below hal HT.out.1.2.2.2.2.2
    have hS1 := HS1.out.below hal zl
    have hU1 := fun b off h => Nat.lt_of_lt_of_le (HU1.out b off h) hal.size
    obtain ⟨G2, hG2⟩ : ∃ n, w2.heap.size = n := ⟨_, rfl⟩
    generalize w2.alloc (.cells #[.slice B ws.length d] 44) = w3 at hpc hal hT hSB hS1 hU1 ⊢
    rw [hG2] at hpc ⊢; have HT := zh hT; have HSB := zh hSB; have HP2 := zh hpc; have HS1 := zh hS1; have HU1 := zh hU1; clear hpc hal hT hSB hG2 hS1 hU1; obtain ⟨⟨c0, c1, c2, c3, c4, _⟩, ⟨r0, r1, r2, r3, r4, _⟩, ⟨f0, f1, f2, f3, f4⟩, _⟩ := HT.out; obtain ⟨b0, b1, b2, b3, b4⟩ := HSB.out; refine hK.out _ _ trivial (fun _ => ?_); (try simp only [Act.put, zq1, zq2, zq3]); refine zqR [7] ?_
    refine zqN fun K hK => ?_
    go_simp
    go_at_call 146
    with_reducible refine (copy_at8 G2 ws w3 HP2.out (by omega)).mono ?_
    intro e w4 hh
    obtain ⟨hh1, hb⟩ := hh
    unfold LstU at hh1
    obtain ⟨X2, k2, hc2, hr2, hf2, he2⟩ := hh1
    subst he2
    have HTO := HT
    clear c0 c1 c2 c3 c4 r0 r1 r2 r3 r4 f0 f1 f2 f3 f4 b0 b1 b2 b3 b4
    have HF2 : Hid (∀ b off, X2 = some ⟨b, off, none⟩ → w.heap.size ≤ b ∧ b ≠ w.heap.size ∧ b ≠ w.heap.size + 1) := zh fun b off h => by
     have h1 := (hf2 b off h).1
     have h2 := HT.out.2.1.2.2.2.2.2
     exact ⟨by omega, by omega, by omega⟩
    have HT := zh (HT.out.more hb); have HSB := zh (HSB.out.below hb HTO.out.1.2.2.2.2.2); have HS1 := zh (HS1.out.below hb zl); have HS2 := zh hr2; have HL2 := zh hc2
    have HU2 : Hid (∀ b off, X2 = some ⟨b, off, none⟩ → b < w4.heap.size) := zh fun b off h => (hf2 b off h).2
    have HU1 := zh fun b off h => Nat.lt_of_lt_of_le (HU1.out b off h) hb.size
    clear hb hc2 hr2 hf2; obtain ⟨⟨c0, c1, c2, c3, c4, _⟩, ⟨r0, r1, r2, r3, r4, _⟩, ⟨f0, f1, f2, f3, f4⟩, _⟩ := HT.out; obtain ⟨b0, b1, b2, b3, b4⟩ := HSB.out; dsimp only; refine hK.out _ _ trivial (fun _ => ?_); (try simp only [Act.put, zq1, zq2, zq3]); refine zqR [9] ?_
    refine zqN fun K hK => ?_
    go_simp
    skip
    refine hK.out _ _ trivial (fun _ => ?_); try simp only [Act.put, zq1, zq2, zq3]
    have hHeld : True := trivial
    refine zqT 10 ?_ ?_ ?_; rotate_left
    · intro w' hSw; go_simp; try with_reducible rfl
    (try simp only [Act.put, zq1, zq2, zq3]); clear hHeld; refine zqR [11] ?_
    refine zqN fun K hK => ?_
    go_simp
    skip
    refine hK.out _ _ trivial (fun _ => ?_); try simp only [Act.put, zq1, zq2, zq3]
    refine wpAnyH_done (by kernel_rfl) ?_ _
    have hS1 := HS1.out
    have hS2 := HS2.out
    have hB5 := HT.out.2.2.2
    go_wp2
    refine bodyPost_ret (v := RV o f ep X1 rs.length k1 X2 ws.length k2) (by simp [results, Tryz.results117, go_sem, RV, r0, r1, r2, r3, r4]) rfl ?_
    have p1 : ∀ b off, X1 = some ⟨b, off, none⟩ → b ≠ w.heap.size := fun b off h => (HF1.out b off h).2.1
    have p2 : ∀ b off, X2 = some ⟨b, off, none⟩ → b ≠ w.heap.size := fun b off h => (HF2.out b off h).2.1
    have q1 : ∀ b off, X1 = some ⟨b, off, none⟩ → b ≠ w.heap.size + 1 := fun b off h => (HF1.out b off h).2.2
    have q2 : ∀ b off, X2 = some ⟨b, off, none⟩ → b ≠ w.heap.size + 1 := fun b off h => (HF2.out b off h).2.2
    exact ⟨⟨X1, k1, X2, k2, sreads_set5 (sreads_set (sreads_set hS1 p1) p1) q1, sreads_set5 (sreads_set (sreads_set hS2 p2) p2) q2, HL1.out, HL2.out, fun b off h => ⟨(HF1.out b off h).1, by simpa [World.setCell] using HU1.out b off h⟩, fun b off h => ⟨(HF2.out b off h).1, by simpa [World.setCell] using HU2.out b off h⟩, rfl⟩, set5 ((hB5.setCell (p := ⟨w.heap.size, 3, none⟩) zl _).setCell (p := ⟨w.heap.size, 4, none⟩) zl _) (by omega)⟩
   refine zqN fun K hK => ?_
   go_simp; clear c0 c1 c2 c3 c4 r0 r1 r2 r3 r4 f0 f1 f2 f3 f4 b0 b1 b2 b3 b4
   have hpc := one_piece w1 w1.heap.size 44 rfl (rfl : ws.length = ws.length) (HBB.out.below HT.out.2.2.2 zl) HNB.out
   have hal := al w1 (.cells #[.slice B ws.length d] 44)
   have hT := HT.out.more hal
   have hSB := HSB.out.below hal HT.out.1.2.2.2.2.2
   have hP1 := HP1.out.below hal zl
   obtain ⟨G2, hG2⟩ : ∃ n, w1.heap.size = n := ⟨_, rfl⟩
   generalize w1.alloc (.cells #[.slice B ws.length d] 44) = w2 at hpc hal hT hSB hP1 ⊢
   rw [hG2] at hpc ⊢; have HT := zh hT; have HSB := zh hSB; have HP2 := zh hpc; have HP1 := zh hP1; clear hpc hal hT hSB hG2 hP1; obtain ⟨⟨c0, c1, c2, c3, c4, _⟩, ⟨r0, r1, r2, r3, r4, _⟩, ⟨f0, f1, f2, f3, f4⟩, _⟩ := HT.out; obtain ⟨b0, b1, b2, b3, b4⟩ := HSB.out; refine hK.out _ _ trivial (fun _ => ?_); (try simp only [Act.put, zq1, zq2, zq3]); refine zqR [3] ?_
   refine zqN fun K hK => ?_
   go_simp
   go_at_call 146
   with_reducible refine (copy_at8 G1 rs w2 HP1.out (by omega)).mono ?_
   intro e w3 hh
   obtain ⟨hh1, hb⟩ := hh
   unfold LstU at hh1
   obtain ⟨X1, k1, hc1, hr1, hf1, he1⟩ := hh1
   subst he1
   have HTO := HT
   clear c0 c1 c2 c3 c4 r0 r1 r2 r3 r4 f0 f1 f2 f3 f4 b0 b1 b2 b3 b4
   have HF1 : Hid (∀ b off, X1 = some ⟨b, off, none⟩ → w.heap.size ≤ b ∧ b ≠ w.heap.size ∧ b ≠ w.heap.size + 1) := zh fun b off h => by
    have h1 := (hf1 b off h).1
    have h2 := HT.out.2.1.2.2.2.2.2
    exact ⟨by omega, by omega, by omega⟩
   have HT := zh (HT.out.more hb); have HSB := zh (HSB.out.below hb HTO.out.1.2.2.2.2.2); have HP2 := zh (HP2.out.below hb zl); have HS1 := zh hr1; have HL1 := zh hc1
   have HU1 : Hid (∀ b off, X1 = some ⟨b, off, none⟩ → b < w3.heap.size) := zh fun b off h => (hf1 b off h).2
   clear hb hc1 hr1 hf1; obtain ⟨⟨c0, c1, c2, c3, c4, _⟩, ⟨r0, r1, r2, r3, r4, _⟩, ⟨f0, f1, f2, f3, f4⟩, _⟩ := HT.out; obtain ⟨b0, b1, b2, b3, b4⟩ := HSB.out; dsimp only; refine hK.out _ _ trivial (fun _ => ?_); try simp only [Act.put, zq1, zq2, zq3]
   have hHeld : True := trivial
   refine zqT 8 ?_ ?_ ?_; rotate_left
   · intro w' hSw; go_simp; try with_reducible rfl
   (try simp only [Act.put, zq1, zq2, zq3]); clear hHeld; refine zqR [7] ?_
   refine zqN fun K hK => ?_
   go_simp
   go_at_call 146
   with_reducible refine (copy_at8 G2 ws w3 HP2.out (by omega)).mono ?_
   intro e w4 hh
   obtain ⟨hh1, hb⟩ := hh
   unfold LstU at hh1
   obtain ⟨X2, k2, hc2, hr2, hf2, he2⟩ := hh1
   subst he2
   have HTO := HT
   clear c0 c1 c2 c3 c4 r0 r1 r2 r3 r4 f0 f1 f2 f3 f4 b0 b1 b2 b3 b4
   have HF2 : Hid (∀ b off, X2 = some ⟨b, off, none⟩ → w.heap.size ≤ b ∧ b ≠ w.heap.size ∧ b ≠ w.heap.size + 1) := zh fun b off h => by
    have h1 := (hf2 b off h).1
    have h2 := HT.out.2.1.2.2.2.2.2
    exact ⟨by omega, by omega, by omega⟩
   have HT := zh (HT.out.more hb); have HSB := zh (HSB.out.below hb HTO.out.1.2.2.2.2.2); have HS1 := zh (HS1.out.below hb zl); have HS2 := zh hr2; have HL2 := zh hc2
   have HU2 : Hid (∀ b off, X2 = some ⟨b, off, none⟩ → b < w4.heap.size) := zh fun b off h => (hf2 b off h).2
   have HU1 := zh fun b off h => Nat.lt_of_lt_of_le (HU1.out b off h) hb.size
   clear hb hc2 hr2 hf2; obtain ⟨⟨c0, c1, c2, c3, c4, _⟩, ⟨r0, r1, r2, r3, r4, _⟩, ⟨f0, f1, f2, f3, f4⟩, _⟩ := HT.out; obtain ⟨b0, b1, b2, b3, b4⟩ := HSB.out; dsimp only; refine hK.out _ _ trivial (fun _ => ?_); (try simp only [Act.put, zq1, zq2, zq3]); refine zqR [9] ?_
   refine zqN fun K hK => ?_
   go_simp
   skip
   refine hK.out _ _ trivial (fun _ => ?_); try simp only [Act.put, zq1, zq2, zq3]
   have hHeld : True := trivial
   refine zqT 10 ?_ ?_ ?_; rotate_left
   · intro w' hSw; go_simp; try with_reducible rfl
   (try simp only [Act.put, zq1, zq2, zq3]); clear hHeld; refine zqR [11] ?_
   refine zqN fun K hK => ?_
   go_simp
   skip
   refine hK.out _ _ trivial (fun _ => ?_); try simp only [Act.put, zq1, zq2, zq3]
   refine wpAnyH_done (by kernel_rfl) ?_ _
   have hS1 := HS1.out
   have hS2 := HS2.out
   have hB5 := HT.out.2.2.2
   go_wp2
   refine bodyPost_ret (v := RV o f ep X1 rs.length k1 X2 ws.length k2) (by simp [results, Tryz.results117, go_sem, RV, r0, r1, r2, r3, r4]) rfl ?_
   have p1 : ∀ b off, X1 = some ⟨b, off, none⟩ → b ≠ w.heap.size := fun b off h => (HF1.out b off h).2.1
   have p2 : ∀ b off, X2 = some ⟨b, off, none⟩ → b ≠ w.heap.size := fun b off h => (HF2.out b off h).2.1
   have q1 : ∀ b off, X1 = some ⟨b, off, none⟩ → b ≠ w.heap.size + 1 := fun b off h => (HF1.out b off h).2.2
   have q2 : ∀ b off, X2 = some ⟨b, off, none⟩ → b ≠ w.heap.size + 1 := fun b off h => (HF2.out b off h).2.2
   exact ⟨⟨X1, k1, X2, k2, sreads_set5 (sreads_set (sreads_set hS1 p1) p1) q1, sreads_set5 (sreads_set (sreads_set hS2 p2) p2) q2, HL1.out, HL2.out, fun b off h => ⟨(HF1.out b off h).1, by simpa [World.setCell] using HU1.out b off h⟩, fun b off h => ⟨(HF2.out b off h).1, by simpa [World.setCell] using HU2.out b off h⟩, rfl⟩, set5 ((hB5.setCell (p := ⟨w.heap.size, 3, none⟩) zl _).setCell (p := ⟨w.heap.size, 4, none⟩) zl _) (by omega)⟩
  refine zqN fun K hK => ?_
  go_simp; clear c0 c1 c2 c3 c4 r0 r1 r2 r3 r4 f0 f1 f2 f3 f4 b0 b1 b2 b3 b4
  have hpc := one_piece wd wd.heap.size 44 rfl (rfl : ws.length = ws.length) (HBB.out.below HT.out.2.2.2 zl) HNB.out
  have hal := al wd (.cells #[.slice B ws.length d] 44)
  have hT := HT.out.more hal
  have hSB := HSB.out.below hal HT.out.1.2.2.2.2.2
  obtain ⟨G2, hG2⟩ : ∃ n, wd.heap.size = n := ⟨_, rfl⟩
  generalize wd.alloc (.cells #[.slice B ws.length d] 44) = w1 at hpc hal hT hSB ⊢
  rw [hG2] at hpc ⊢; have HT := zh hT; have HSB := zh hSB; have HP2 := zh hpc; clear hpc hal hT hSB hG2; obtain ⟨⟨c0, c1, c2, c3, c4, _⟩, ⟨r0, r1, r2, r3, r4, _⟩, ⟨f0, f1, f2, f3, f4⟩, _⟩ := HT.out; obtain ⟨b0, b1, b2, b3, b4⟩ := HSB.out; refine hK.out _ _ trivial (fun _ => ?_); (try simp only [Act.put, zq1, zq2, zq3]); refine zqR [2] ?_
  refine zqN fun K hK => ?_
  go_simp; clear c0 c1 c2 c3 c4 r0 r1 r2 r3 r4 f0 f1 f2 f3 f4 b0 b1 b2 b3 b4
  have hpc := one_piece w1 w1.heap.size 44 rfl (rfl : rs.length = rs.length) (HA.out.below HT.out.2.2.2 zl) HNA.out
  have hal := al w1 (.cells #[.slice A rs.length c] 44)
  have hT := HT.out.more hal
  have hSB := HSB.out.below hal HT.out.1.2.2.2.2.2
  have hP2 := HP2.out.below hal zl
  obtain ⟨G1, hG1⟩ : ∃ n, w1.heap.size = n := ⟨_, rfl⟩
  generalize w1.alloc (.cells #[.slice A rs.length c] 44) = w2 at hpc hal hT hSB hP2 ⊢
  rw [hG1] at hpc ⊢; have HT := zh hT; have HSB := zh hSB; have HP1 := zh hpc; have HP2 := zh hP2; clear hpc hal hT hSB hG1 hP2; obtain ⟨⟨c0, c1, c2, c3, c4, _⟩, ⟨r0, r1, r2, r3, r4, _⟩, ⟨f0, f1, f2, f3, f4⟩, _⟩ := HT.out; obtain ⟨b0, b1, b2, b3, b4⟩ := HSB.out; refine hK.out _ _ trivial (fun _ => ?_); (try simp only [Act.put, zq1, zq2, zq3]); refine zqR [3] ?_
  refine zqN fun K hK => ?_
  go_simp
  go_at_call 146
  with_reducible refine (copy_at8 G1 rs w2 HP1.out (by omega)).mono ?_
  intro e w3 hh
  obtain ⟨hh1, hb⟩ := hh
  unfold LstU at hh1
  obtain ⟨X1, k1, hc1, hr1, hf1, he1⟩ := hh1
  subst he1
  have HTO := HT
  clear c0 c1 c2 c3 c4 r0 r1 r2 r3 r4 f0 f1 f2 f3 f4 b0 b1 b2 b3 b4
  have HF1 : Hid (∀ b off, X1 = some ⟨b, off, none⟩ → w.heap.size ≤ b ∧ b ≠ w.heap.size ∧ b ≠ w.heap.size + 1) := zh fun b off h => by
   have h1 := (hf1 b off h).1
   have h2 := HT.out.2.1.2.2.2.2.2
   exact ⟨by omega, by omega, by omega⟩
  have HT := zh (HT.out.more hb); have HSB := zh (HSB.out.below hb HTO.out.1.2.2.2.2.2); have HP2 := zh (HP2.out.below hb zl); have HS1 := zh hr1; have HL1 := zh hc1
  have HU1 : Hid (∀ b off, X1 = some ⟨b, off, none⟩ → b < w3.heap.size) := zh fun b off h => (hf1 b off h).2
  clear hb hc1 hr1 hf1; obtain ⟨⟨c0, c1, c2, c3, c4, _⟩, ⟨r0, r1, r2, r3, r4, _⟩, ⟨f0, f1, f2, f3, f4⟩, _⟩ := HT.out; obtain ⟨b0, b1, b2, b3, b4⟩ := HSB.out; dsimp only; refine hK.out _ _ trivial (fun _ => ?_); try simp only [Act.put, zq1, zq2, zq3]
  have hHeld : True := trivial
  refine zqT 8 ?_ ?_ ?_; rotate_left
  · intro w' hSw; go_simp; try with_reducible rfl
  (try simp only [Act.put, zq1, zq2, zq3]); clear hHeld; refine zqR [7] ?_
  refine zqN fun K hK => ?_
  go_simp
  go_at_call 146
  with_reducible refine (copy_at8 G2 ws w3 HP2.out (by omega)).mono ?_
  intro e w4 hh
  obtain ⟨hh1, hb⟩ := hh
  unfold LstU at hh1
  obtain ⟨X2, k2, hc2, hr2, hf2, he2⟩ := hh1
  subst he2
  have HTO := HT
  clear c0 c1 c2 c3 c4 r0 r1 r2 r3 r4 f0 f1 f2 f3 f4 b0 b1 b2 b3 b4
  have HF2 : Hid (∀ b off, X2 = some ⟨b, off, none⟩ → w.heap.size ≤ b ∧ b ≠ w.heap.size ∧ b ≠ w.heap.size + 1) := zh fun b off h => by
   have h1 := (hf2 b off h).1
   have h2 := HT.out.2.1.2.2.2.2.2
   exact ⟨by omega, by omega, by omega⟩
  have HT := zh (HT.out.more hb); have HSB := zh (HSB.out.below hb HTO.out.1.2.2.2.2.2); have HS1 := zh (HS1.out.below hb zl); have HS2 := zh hr2; have HL2 := zh hc2
  have HU2 : Hid (∀ b off, X2 = some ⟨b, off, none⟩ → b < w4.heap.size) := zh fun b off h => (hf2 b off h).2
  have HU1 := zh fun b off h => Nat.lt_of_lt_of_le (HU1.out b off h) hb.size
  clear hb hc2 hr2 hf2; obtain ⟨⟨c0, c1, c2, c3, c4, _⟩, ⟨r0, r1, r2, r3, r4, _⟩, ⟨f0, f1, f2, f3, f4⟩, _⟩ := HT.out; obtain ⟨b0, b1, b2, b3, b4⟩ := HSB.out; dsimp only; refine hK.out _ _ trivial (fun _ => ?_); (try simp only [Act.put, zq1, zq2, zq3]); refine zqR [9] ?_
  refine zqN fun K hK => ?_
  go_simp
  skip
  refine hK.out _ _ trivial (fun _ => ?_); try simp only [Act.put, zq1, zq2, zq3]
  have hHeld : True := trivial
  refine zqT 10 ?_ ?_ ?_; rotate_left
  · intro w' hSw; go_simp; try with_reducible rfl
  (try simp only [Act.put, zq1, zq2, zq3]); clear hHeld; refine zqR [11] ?_
  refine zqN fun K hK => ?_
  go_simp
  skip
  refine hK.out _ _ trivial (fun _ => ?_); try simp only [Act.put, zq1, zq2, zq3]
  refine wpAnyH_done (by kernel_rfl) ?_ _
  have hS1 := HS1.out
  have hS2 := HS2.out
  have hB5 := HT.out.2.2.2
  go_wp2
  refine bodyPost_ret (v := RV o f ep X1 rs.length k1 X2 ws.length k2) (by simp [results, Tryz.results117, go_sem, RV, r0, r1, r2, r3, r4]) rfl ?_
  have p1 : ∀ b off, X1 = some ⟨b, off, none⟩ → b ≠ w.heap.size := fun b off h => (HF1.out b off h).2.1
  have p2 : ∀ b off, X2 = some ⟨b, off, none⟩ → b ≠ w.heap.size := fun b off h => (HF2.out b off h).2.1
  have q1 : ∀ b off, X1 = some ⟨b, off, none⟩ → b ≠ w.heap.size + 1 := fun b off h => (HF1.out b off h).2.2
  have q2 : ∀ b off, X2 = some ⟨b, off, none⟩ → b ≠ w.heap.size + 1 := fun b off h => (HF2.out b off h).2.2
  exact ⟨⟨X1, k1, X2, k2, sreads_set5 (sreads_set (sreads_set hS1 p1) p1) q1, sreads_set5 (sreads_set (sreads_set hS2 p2) p2) q2, HL1.out, HL2.out, fun b off h => ⟨(HF1.out b off h).1, by simpa [World.setCell] using HU1.out b off h⟩, fun b off h => ⟨(HF2.out b off h).1, by simpa [World.setCell] using HU2.out b off h⟩, rfl⟩, set5 ((hB5.setCell (p := ⟨w.heap.size, 3, none⟩) zl _).setCell (p := ⟨w.heap.size, 4, none⟩) zl _) (by omega)⟩
 refine zqN fun K hK => ?_
 go_simp; clear c0 c1 c2 c3 c4 r0 r1 r2 r3 r4 f0 f1 f2 f3 f4 b0 b1 b2 b3 b4
 have hpc := one_piece wd wd.heap.size 44 rfl (rfl : ws.length = ws.length) (HBB.out.below HT.out.2.2.2 zl) HNB.out
 have hal := al wd (.cells #[.slice B ws.length d] 44)
 have hT := HT.out.more hal
 have hSB := HSB.out.below hal HT.out.1.2.2.2.2.2
 obtain ⟨G2, hG2⟩ : ∃ n, wd.heap.size = n := ⟨_, rfl⟩
 generalize wd.alloc (.cells #[.slice B ws.length d] 44) = w1 at hpc hal hT hSB ⊢
 rw [hG2] at hpc ⊢; have HT := zh hT; have HSB := zh hSB; have HP2 := zh hpc; clear hpc hal hT hSB hG2; obtain ⟨⟨c0, c1, c2, c3, c4, _⟩, ⟨r0, r1, r2, r3, r4, _⟩, ⟨f0, f1, f2, f3, f4⟩, _⟩ := HT.out; obtain ⟨b0, b1, b2, b3, b4⟩ := HSB.out; refine hK.out _ _ trivial (fun _ => ?_); (try simp only [Act.put, zq1, zq2, zq3]); refine zqR [1] ?_
 refine zqN fun K hK => ?_
 go_simp
 skip
 refine hK.out _ _ trivial (fun _ => ?_); (try simp only [Act.put, zq1, zq2, zq3]); refine zqR [2] ?_
 refine zqN fun K hK => ?_
 go_simp; clear c0 c1 c2 c3 c4 r0 r1 r2 r3 r4 f0 f1 f2 f3 f4 b0 b1 b2 b3 b4
 have hpc := one_piece w1 w1.heap.size 44 rfl (rfl : rs.length = rs.length) (HA.out.below HT.out.2.2.2 zl) HNA.out
 have hal := al w1 (.cells #[.slice A rs.length c] 44)
 have hT := HT.out.more hal
 have hSB := HSB.out.below hal HT.out.1.2.2.2.2.2
 have hP2 := HP2.out.below hal zl
 obtain ⟨G1, hG1⟩ : ∃ n, w1.heap.size = n := ⟨_, rfl⟩
 generalize w1.alloc (.cells #[.slice A rs.length c] 44) = w2 at hpc hal hT hSB hP2 ⊢
 rw [hG1] at hpc ⊢; have HT := zh hT; have HSB := zh hSB; have HP1 := zh hpc; have HP2 := zh hP2; clear hpc hal hT hSB hG1 hP2; obtain ⟨⟨c0, c1, c2, c3, c4, _⟩, ⟨r0, r1, r2, r3, r4, _⟩, ⟨f0, f1, f2, f3, f4⟩, _⟩ := HT.out; obtain ⟨b0, b1, b2, b3, b4⟩ := HSB.out; refine hK.out _ _ trivial (fun _ => ?_); (try simp only [Act.put, zq1, zq2, zq3]); refine zqR [3] ?_
 refine zqN fun K hK => ?_
 go_simp
 go_at_call 146
 with_reducible refine (copy_at8 G1 rs w2 HP1.out (by omega)).mono ?_
 intro e w3 hh
 obtain ⟨hh1, hb⟩ := hh
 unfold LstU at hh1
 obtain ⟨X1, k1, hc1, hr1, hf1, he1⟩ := hh1
 subst he1
 have HTO := HT
 clear c0 c1 c2 c3 c4 r0 r1 r2 r3 r4 f0 f1 f2 f3 f4 b0 b1 b2 b3 b4
 have HF1 : Hid (∀ b off, X1 = some ⟨b, off, none⟩ → w.heap.size ≤ b ∧ b ≠ w.heap.size ∧ b ≠ w.heap.size + 1) := zh fun b off h => by
  have h1 := (hf1 b off h).1
  have h2 := HT.out.2.1.2.2.2.2.2
  exact ⟨by omega, by omega, by omega⟩
 have HT := zh (HT.out.more hb); have HSB := zh (HSB.out.below hb HTO.out.1.2.2.2.2.2); have HP2 := zh (HP2.out.below hb zl); have HS1 := zh hr1; have HL1 := zh hc1
 have HU1 : Hid (∀ b off, X1 = some ⟨b, off, none⟩ → b < w3.heap.size) := zh fun b off h => (hf1 b off h).2
 clear hb hc1 hr1 hf1; obtain ⟨⟨c0, c1, c2, c3, c4, _⟩, ⟨r0, r1, r2, r3, r4, _⟩, ⟨f0, f1, f2, f3, f4⟩, _⟩ := HT.out; obtain ⟨b0, b1, b2, b3, b4⟩ := HSB.out; dsimp only; refine hK.out _ _ trivial (fun _ => ?_); try simp only [Act.put, zq1, zq2, zq3]
 have hHeld : True := trivial
 refine zqT 8 ?_ ?_ ?_; rotate_left
 · intro w' hSw; go_simp; try with_reducible rfl
 (try simp only [Act.put, zq1, zq2, zq3]); clear hHeld; refine zqR [7] ?_
 refine zqN fun K hK => ?_
 go_simp
 go_at_call 146
 with_reducible refine (copy_at8 G2 ws w3 HP2.out (by omega)).mono ?_
 intro e w4 hh
 obtain ⟨hh1, hb⟩ := hh
 unfold LstU at hh1
 obtain ⟨X2, k2, hc2, hr2, hf2, he2⟩ := hh1
 subst he2
 have HTO := HT
 clear c0 c1 c2 c3 c4 r0 r1 r2 r3 r4 f0 f1 f2 f3 f4 b0 b1 b2 b3 b4
 have HF2 : Hid (∀ b off, X2 = some ⟨b, off, none⟩ → w.heap.size ≤ b ∧ b ≠ w.heap.size ∧ b ≠ w.heap.size + 1) := zh fun b off h => by
  have h1 := (hf2 b off h).1
  have h2 := HT.out.2.1.2.2.2.2.2
  exact ⟨by omega, by omega, by omega⟩
 have HT := zh (HT.out.more hb); have HSB := zh (HSB.out.below hb HTO.out.1.2.2.2.2.2); have HS1 := zh (HS1.out.below hb zl); have HS2 := zh hr2; have HL2 := zh hc2
 have HU2 : Hid (∀ b off, X2 = some ⟨b, off, none⟩ → b < w4.heap.size) := zh fun b off h => (hf2 b off h).2
 have HU1 := zh fun b off h => Nat.lt_of_lt_of_le (HU1.out b off h) hb.size
 clear hb hc2 hr2 hf2; obtain ⟨⟨c0, c1, c2, c3, c4, _⟩, ⟨r0, r1, r2, r3, r4, _⟩, ⟨f0, f1, f2, f3, f4⟩, _⟩ := HT.out; obtain ⟨b0, b1, b2, b3, b4⟩ := HSB.out; dsimp only; refine hK.out _ _ trivial (fun _ => ?_); (try simp only [Act.put, zq1, zq2, zq3]); refine zqR [9] ?_
 refine zqN fun K hK => ?_
 go_simp
 skip
 refine hK.out _ _ trivial (fun _ => ?_); try simp only [Act.put, zq1, zq2, zq3]
 have hHeld : True := trivial
 refine zqT 10 ?_ ?_ ?_; rotate_left
 · intro w' hSw; go_simp; try with_reducible rfl
 (try simp only [Act.put, zq1, zq2, zq3]); clear hHeld; refine zqR [11] ?_
 refine zqN fun K hK => ?_
 go_simp
 skip
 refine hK.out _ _ trivial (fun _ => ?_); try simp only [Act.put, zq1, zq2, zq3]
 refine wpAnyH_done (by kernel_rfl) ?_ _
 have hS1 := HS1.out
 have hS2 := HS2.out
 have hB5 := HT.out.2.2.2
 go_wp2
 refine bodyPost_ret (v := RV o f ep X1 rs.length k1 X2 ws.length k2) (by simp [results, Tryz.results117, go_sem, RV, r0, r1, r2, r3, r4]) rfl ?_
 have p1 : ∀ b off, X1 = some ⟨b, off, none⟩ → b ≠ w.heap.size := fun b off h => (HF1.out b off h).2.1
 have p2 : ∀ b off, X2 = some ⟨b, off, none⟩ → b ≠ w.heap.size := fun b off h => (HF2.out b off h).2.1
 have q1 : ∀ b off, X1 = some ⟨b, off, none⟩ → b ≠ w.heap.size + 1 := fun b off h => (HF1.out b off h).2.2
 have q2 : ∀ b off, X2 = some ⟨b, off, none⟩ → b ≠ w.heap.size + 1 := fun b off h => (HF2.out b off h).2.2
 exact ⟨⟨X1, k1, X2, k2, sreads_set5 (sreads_set (sreads_set hS1 p1) p1) q1, sreads_set5 (sreads_set (sreads_set hS2 p2) p2) q2, HL1.out, HL2.out, fun b off h => ⟨(HF1.out b off h).1, by simpa [World.setCell] using HU1.out b off h⟩, fun b off h => ⟨(HF2.out b off h).1, by simpa [World.setCell] using HU2.out b off h⟩, rfl⟩, set5 ((hB5.setCell (p := ⟨w.heap.size, 3, none⟩) zl _).setCell (p := ⟨w.heap.size, 4, none⟩) zl _) (by omega)⟩
end Go.Proofs.YtbdealddjonobaaGreat.Mta

