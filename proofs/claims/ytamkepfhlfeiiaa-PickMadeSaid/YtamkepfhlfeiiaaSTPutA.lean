/-
  CONTRACT of the landed code's Put (package store): the walk. By an AI agent; no person has read it.
-/
import Derived.Test.YtamkepfhlfeiiaaSTPut
namespace Go.Proofs.Ytamkepfhlfeiiaa.Sto
open Go Go.RowKit Wire

set_option linter.unusedVariables false
set_option linter.unusedSimpArgs false
/-- A Put that is refused. -/
theorem put_no {w : World} {a : Addr} {X : Nat → Prop} {s : Stt} {k b : Tm} {x : Int} (h : DS w a X s) (e : putE s k b = x) (hx : x ≠ 0) {v : Value} (hv : v = .int .i64 x) : Ending.returned v = .returned (.int .i64 (putE s k b)) ∧ (∃ X', DS w a X' (putS s k b) ∧ ∀ b, X' b → X b ∨ w.heap.size ≤ b) ∧ Fr X w w :=
  ⟨by rw [e, hv], ⟨X, by rw [putS_no (by rw [e]; exact hx)]; exact h, fun b hb => .inl hb⟩, ⟨rfl, rfl, rfl, Nat.le_refl _, fun _ _ _ => rfl⟩⟩
theorem empty_of {K : ByteArray} (h : K.size = 0) : K.toList.isEmpty = true ∧ K.data.toList = [] := by
  have e : K.data.toList = [] := by
    have : K.data.toList.length = 0 := by rw [← Lib.size_eq]; exact h
    exact List.length_eq_zero_iff.1 this
  refine ⟨?_, e⟩
  rw [Lib.toList_data, e]; rfl
theorem full_of {K : ByteArray} (h : K.size ≠ 0) : K.toList.isEmpty = false ∧ K.data.toList ≠ [] := by
  have e : K.data.toList ≠ [] := fun e => h (by rw [Lib.size_eq, e]; rfl)
  refine ⟨?_, e⟩
  rw [Lib.toList_data]
  cases hk : K.data.toList with
  | nil => exact absurd hk e
  | cons => rfl
set_option maxHeartbeats 8000000 in
set_option maxRecDepth 1000000 in
theorem put_c (a : Addr) (X : Nat → Prop) (s : Stt) (K B : ByteArray) (w : World) (h : DS w a X s) (hf : Fine s) (hK : K.size ≤ 140737488351232) (hB : B.size ≤ 140737488351232) : Calls Try.prog 25 #[.pointer (some a), .string K, .string B] w fun e w' => e = .returned (.int .i64 (putE s K.data.toList B.data.toList)) ∧ (∃ X', DS w' a X' (putS s K.data.toList B.data.toList) ∧ ∀ b, X' b → X b ∨ w.heap.size ≤ b) ∧ Fr X w w' := by
  have HD := Lib.hid h
  have hfew := hf.few
  have hmany := hf.many K.data.toList
  obtain ⟨g, me, mt, V, rb, rfl, h, hx⟩ := h
  have HX := Lib.hid hx
  have HH := Lib.hid h
  have c0 := h.c0
  have c1 := h.c1
  have c2 := h.c2
  have f2 := h.f2
  clear h hx hf
  have hKl : K.data.toList.length = K.size := (Lib.size_eq K).symm
  have hBl : B.data.toList.length = B.size := (Lib.size_eq B).symm
  by_cases k0 : K.size = 0
  · obtain ⟨hki, hkn⟩ := empty_of k0
    have HE : Hid (putE s K.data.toList B.data.toList = 1) := by show _ = _; unfold putE; rw [hkn]; rfl
    clear hKl hBl hmany hkn k0
    go_enter Try.func25, Try.ntmps25
    go_wp2_with fail
    go_ret
    exact put_no HD.out HE.out (by decide) rfl
  obtain ⟨hki, hkn⟩ := full_of k0
  by_cases k1 : 200 < K.size
  · have HE : Hid (putE s K.data.toList B.data.toList = 1) := by show _ = _; unfold putE; rw [if_pos (.inr (by omega))]
    have k1' : (200 : Int) < (K.size : Int) := by omega
    clear hKl hBl hmany hkn k0 k1
    go_enter Try.func25, Try.ntmps25
    go_wp2_with fail
    go_ret
    exact put_no HD.out HE.out (by decide) rfl
  have k1' : ¬ (200 : Int) < (K.size : Int) := by omega
  have hnk : ¬ (K.data.toList = [] ∨ 200 < K.data.toList.length) := fun h => h.elim hkn fun h => by omega
  by_cases k2 : 40000 < B.size
  · have HE : Hid (putE s K.data.toList B.data.toList = 10) := by show _ = _; unfold putE; rw [if_neg hnk, if_pos (by omega)]
    have k2' : (40000 : Int) < (B.size : Int) := by omega
    clear hKl hBl hmany hkn k0 k1 k2 hnk
    go_enter Try.func25, Try.ntmps25
    go_wp2_with fail
    go_ret
    exact put_no HD.out HE.out (by decide) rfl
  have k2' : ¬ (40000 : Int) < (B.size : Int) := by omega
  by_cases k3 : 2000 ≤ s.n
  · have HE : Hid (putE s K.data.toList B.data.toList = 11) := by show _ = _; unfold putE; rw [if_neg hnk, if_neg (by omega), if_pos k3]
    have k3' : (2000 : Int) ≤ (s.n : Int) := by omega
    clear hKl hBl hmany hkn k0 k1 k2 hnk k3
    go_enter Try.func25, Try.ntmps25
    go_wp2_with fail
    go_ret
    exact put_no HD.out HE.out (by decide) rfl
  have k3' : ¬ (2000 : Int) ≤ (s.n : Int) := by omega
  have HE : Hid (putE s K.data.toList B.data.toList = 0) := by show _ = _; unfold putE; rw [if_neg hnk, if_neg (by omega), if_neg k3]
  have hsn : s.n < 2000 := by omega
  have hK2 : K.size ≤ 140737488351232 := hK
  obtain ⟨A, c, ys, hys, hrv, hown, hA⟩ := HH.out.row K.data.toList
  have hyl : ys.length ≤ 2000 := by
    have : (bl ys).length = ys.length := by simp [bl]
    rw [hys] at this; omega
  have hlk : ∀ W : World, Below w.heap.size w W → (Instr.lookup 64 (.map (some me)) (.string K) false).run Try.prog W = .ok (.slice A ys.length c) W := fun W hb => by
    have := (HH.out.below hb).em.look Try.underlying64 (zero_row W) hK
    unfold rowV at hrv
    rw [hrv] at this
    exact this
  have HO : Hid (w.ownsRow 0 9 1 (.slice A ys.length c) ys.length (sv ys)) := hown
  have HA := Lib.hid hA
  have HYS := Lib.hid hys
  have HLK := Lib.hid hlk
  obtain ⟨i0, hi0, hz0, hz1, hz2⟩ := info_parts str_info
  have glt := HH.out.g_lt
  clear hKl hBl hmany hkn k0 k1 k2 hnk k3 hown hA hys hrv hlk
  have hBW : ∀ o, Below w.heap.size w (w.alloc o).drew := fun o => Below.drewN' ((Below.refl w.heap.size w).alloc (Nat.le_refl _) o) 1
  have hl0 := HLK.out w.drew (Below.drewN' (Below.refl w.heap.size w) 1)
  have hl1 := fun o => HLK.out (w.alloc o).drew (hBW o)
  have HBW := Lib.hid hBW
  have hne : ∀ b, (b = g ∨ b = me ∨ b = mt) → some b ≠ (Value.slice A ys.length c).ownBlock := fun b e e2 => by
    obtain ⟨h1, h2⟩ := HA.out b e2.symm
    obtain ⟨o1, o2, o3⟩ := HH.out.off _ h1
    rcases e with e | e | e
    · exact o1 (h2.trans e)
    · exact o2 (h2.trans e)
    · exact o3 (h2.trans e)
  have HNE := Lib.hid hne
  have HMF : Hid (∀ o W, (w.alloc o).drew.grownBy W (Value.slice A ys.length c).ownBlock → MapIs W me s.n (isEver s) V) := fun o W hgr =>
    ((HH.out.below (HBW.out o)).em).block (hgr.block me (by have := HH.out.em.lt; simp; omega) (HNE.out me (.inr (.inl rfl))))
  have HMG : Hid (∀ o W W2, (w.alloc o).drew.grownBy W (Value.slice A ys.length c).ownBlock → W.grownBy W2 (some me) → ∀ b, (b = g ∨ b = mt) → W2.heap[b]? = w.heap[b]?) := fun o W W2 hg1 hg2 b hb => by
    have hlt : b < w.heap.size := by
      rcases hb with rfl | rfl
      · exact HH.out.g_lt
      · exact HH.out.tm.lt
    have hn : b ≠ me := by
      rcases hb with rfl | rfl
      · exact HH.out.n1
      · exact Ne.symm HH.out.n3
    have hlt1 : b < (w.alloc o).drew.heap.size := by simp; omega
    exact (hg2.block b (Nat.lt_of_lt_of_le hlt1 hg1.size) fun e => hn (Option.some.inj e)).trans ((hg1.block b hlt1 (HNE.out b (hb.imp id .inr))).trans ((HBW.out o).block b hlt))
  clear hBW hne
  go_enter Try.func25, Try.ntmps25
  go_wp2_with fail
  go_region_held3 (fun w' => w'.cell? ⟨g, 0, none⟩ = some (.map (some me)))
    (first
      | go_keep
      | exact hgrow.cell (a := ⟨g, 0, none⟩) (by assumption) (HNE.out g (.inl rfl))
      | (rw [World.cell?_alloc_past _ _ _ (by simp; omega)]; assumption)
      | exact hg7.cell (a := ⟨g, 0, none⟩) (by assumption) (fun e => HH.out.n1 (Option.some.inj e)))
    ((refine step_append_lies _ (by rfl) _ _ _ (by rfl) 0 9 i0 _ 1 16 Try.underlying37 hi0 hz0 hz1 hz2 rfl (by omega) (.slice A ys.length c) ys.length (sv ys) (by rfl) ((HO.out.drew).alloc _) ⟨w.heap.size, 0, none⟩ 1 1 [.string B] (by rfl) (by rfl) (World.news_of_block (cs := #[.string B]) (t := 9) (fr := (0, 0)) (heap_alloc_new w.drew _)) (by simp [Value.oneCell']) (by omega) (by simp only [maxLen]; omega) (by omega) (Nat.zero_le _) (w.heap.size + 1) (by simp) ?_; intro gg cap w1 hown1 hgrow hat hlt; obtain ⟨w7, hmu, hm7, hg7⟩ := (HMF.out _ _ hgrow).put Try.underlying64 hK2 (show s.n < maxLen by simp only [maxLen]; omega) (.slice (some ⟨gg, 0, none⟩) (ys.length + 1) cap)))
  all_goals
    have HOW := Lib.hid hown1
    have HGR := Lib.hid hgrow
    have HAT := Lib.hid hat
    have HM7 := Lib.hid hm7
    have HG7 := Lib.hid hg7
    have e7g := HMG.out _ _ _ HGR.out HG7.out g (.inl rfl)
    have e7m := HMG.out _ _ _ HGR.out HG7.out mt (.inr rfl)
    have HT7 : Hid (MapIs w7 mt s.n s.is (lastV s)) := HH.out.tm.block e7m
    have d1 : w7.cell? ⟨g, 1, none⟩ = some (.map (some mt)) := (World.cell?_of_block (a := ⟨g, 1, none⟩) e7g).trans c1
    have d2 : w7.cell? ⟨g, 2, none⟩ = some (.int .i64 (s.n : Int)) := (World.cell?_of_block (a := ⟨g, 2, none⟩) e7g).trans c2
    have D2 := Lib.hid d2
    have F7 : Hid (w7.frozen? ⟨g, 2, none⟩ = false) := (World.frozen?_of_block (a := ⟨g, 2, none⟩) e7g).trans f2
    clear hown1 hgrow hat hlt hmu hm7 hg7 e7g e7m d2 c0 c1 c2 f2 hl0 hl1
    go_wp2_with (
      refine wpList_put (val := .string B) rfl _ _ _ rfl rfl HT7.out Try.underlying65 rfl hK2 (by simp only [maxLen]; omega) rfl ?_
      intro w8 hm8 hg8
      have HM8 := Lib.hid hm8
      have HG8 := Lib.hid hg8
      have g2 : w8.cell? ⟨g, 2, none⟩ = some (.int .i64 (s.n : Int)) := hg8.cell (a := ⟨g, 2, none⟩) D2.out (fun e => HH.out.n2 (Option.some.inj e))
      have f8 : w8.frozen? ⟨g, 2, none⟩ = false := (World.frozen?_of_block (a := ⟨g, 2, none⟩) (hg8.block g (World.block_lt_of_cell? w7 _ D2.out) (fun e => HH.out.n2 (Option.some.inj e)))).trans F7.out
      clear hm8 hg8)
    go_ret
    have HF := HH.out.put HX.out HYS.out HA.out (HBW.out _) (by simp) HOW.out HGR.out HAT.out HM7.out HG7.out HM8.out HG8.out
    rw [← putS_ok HE.out] at HF
    exact ⟨by rw [HE.out]; rfl, HF⟩
end Go.Proofs.Ytamkepfhlfeiiaa.Sto
