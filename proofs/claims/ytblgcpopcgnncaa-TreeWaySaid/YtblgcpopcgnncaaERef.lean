/-
  THE DOCUMENT's ANSWER (letterlockref10): over, Leaf, first, tree. By an AI agent; no person has read it.
-/
import Derived.Test.YtblgcpopcgnncaaEFacts
import Derived.Test.YtblgcpopcgnncaaE2
namespace Go.Proofs.Ytblgcpopcgnncaa.Tre
open Go.RowKit Wire Term Draw Reg Clo

set_option linter.unusedSimpArgs false
set_option linter.unusedVariables false
theorem belc {w w1 w2 : World} (h1 : Below w.heap.size w w1) (h2 : Below w1.heap.size w1 w2) : Below w.heap.size w w2 := h1.trans (h2.mono h1.size)
theorem two_len {a b x : Tm} {k : UInt8} {f : Int} (h : two k a b = (x, f)) : x.length ≤ 4000 := by
  unfold two at h
  split at h
  · rcases made_or (k :: (a ++ b)) with ⟨h1, h2⟩ | ⟨_, h2⟩
    · rw [h2] at h; rw [← (Prod.mk.inj h).1]; exact (right_len h1).2
    · rw [h2] at h; rw [← (Prod.mk.inj h).1]; decide
  · rw [← (Prod.mk.inj h).1]; decide
theorem ofText_len {s x : Tm} {f : Int} (h : ofText s = (x, f)) : x.length ≤ 4000 := by
  unfold ofText at h
  rcases made_or (116 :: putText s) with ⟨h1, h2⟩ | ⟨_, h2⟩
  · rw [h2] at h; rw [← (Prod.mk.inj h).1]; exact (right_len h1).2
  · rw [h2] at h; rw [← (Prod.mk.inj h).1]; decide
set_option maxHeartbeats 2000000 in
set_option maxRecDepth 1000000 in
theorem rover_any (a b : ByteArray) (w : World) (ha : a.size ≤ 140737488355328) (hb : b.size ≤ 140737488355328) :
    Calls Try.prog 57 #[.string a, .string b] w fun e w' => Sr (over a.data.toList b.data.toList) e ∧ Below w.heap.size w w' := by
  have HP := Lib.hid fun w => ofPair_any a b w ha hb
  obtain ⟨x, f, hx⟩ : ∃ x f, two 112 a.data.toList b.data.toList = (x, f) := ⟨_, _, rfl⟩
  generalize ho : over a.data.toList b.data.toList = o
  unfold over at ho
  rw [hx] at ho HP
  have hl := two_len hx
  have HH : Hid (∀ (T : ByteArray) (w : World), T.data.toList = x → Calls Try.prog 55 #[.string T] w fun e w' => Sr (one 104 x) e ∧ Below w.heap.size w w') := Lib.hid fun T w hT => by
    have := ofHash_any T w (by rw [Lib.size_eq, hT]; omega)
    rw [hT] at this
    exact this
  clear hx hl
  by_cases hf : f = 0
  · subst hf
    rw [if_neg (fun h => h rfl)] at ho
    rw [ho] at HH
    obtain ⟨ol, of⟩ := o
    clear ho
    go_enter Try.func57, Try.ntmps57
    go_wp2_with fail
    with_reducible refine (HP.out _).mono ?_
    rintro e w1 ⟨⟨T, hT, rfl⟩, hb1⟩
    try dsimp only at hT
    have HT := Lib.hid hT
    have HB1 := Lib.hid hb1
    clear hT hb1
    dsimp only
    go_wp2_with fail
    with_reducible refine (HH.out T _ HT.out).mono ?_
    rintro e w2 ⟨⟨U, hU, rfl⟩, hb2⟩
    try dsimp only at hU
    have HU := Lib.hid hU
    have HB2 := Lib.hid (belc HB1.out hb2)
    clear hU hb2
    dsimp only
    go_wp2
    go_ret2
    exact ⟨⟨U, HU.out, rfl⟩, HB2.out⟩
  · rw [if_pos hf] at ho
    have HO := Lib.hid ho
    have hfb : (f == 0) = false := by simpa using hf
    have hfb2 : (f != 0) = true := by simpa using hf
    clear ho hf
    go_enter Try.func57, Try.ntmps57
    go_wp2_with fail
    with_reducible refine (HP.out _).mono ?_
    rintro e w1 ⟨⟨T, hT, rfl⟩, hb1⟩
    try dsimp only at hT
    have HT := Lib.hid hT
    have HB1 := Lib.hid hb1
    clear hT hb1
    dsimp only
    go_wp2
    go_ret2
    exact ⟨by rw [← HO.out]; exact ⟨⟨#[]⟩, rfl, rfl⟩, HB1.out⟩
set_option maxHeartbeats 2000000 in
set_option maxRecDepth 1000000 in
theorem rleafT_any (s : ByteArray) (n : Nat) (w : World) (hs : s.size ≤ 140737488355000) (hn : n < 18446744073709551616) :
    Calls Try.prog 12 #[.string s, .int .u64 (n : Int)] w fun e w' => Sr (leafT s.data.toList n) e ∧ Below w.heap.size w w' := by
  have HX := Lib.hid fun w => ofText_any s w hs
  have HA := Lib.hid fun w => ofAtom_any n w hn
  obtain ⟨x, f, hx⟩ : ∃ x f, ofText s.data.toList = (x, f) := ⟨_, _, rfl⟩
  generalize ho : leafT s.data.toList n = o
  unfold leafT at ho
  rw [hx] at ho HX
  have hl := ofText_len hx
  have HH : Hid (∀ (T U : ByteArray) (w : World), T.data.toList = x → U.data.toList = ofAtom n → Calls Try.prog 30 #[.string T, .string U] w fun e w' => Sr (two 112 x (ofAtom n)) e ∧ Below w.heap.size w w') := Lib.hid fun T U w hT hU => by
    have := ofPair_any T U w (by rw [Lib.size_eq, hT]; omega) (by rw [Lib.size_eq, hU]; have := (put_le hn).2; unfold ofAtom; rw [List.length_cons]; omega)
    rw [hT, hU] at this
    exact this
  clear hx hl
  by_cases hf : f = 0
  · subst hf
    rw [if_neg (fun h => h rfl)] at ho
    simp only at ho
    rw [ho] at HH
    obtain ⟨ol, of⟩ := o
    clear ho
    go_enter Try.func12, Try.ntmps12
    go_wp2_with fail
    with_reducible refine (HX.out _).mono ?_
    rintro e w1 ⟨⟨T, hT, rfl⟩, hb1⟩
    try dsimp only at hT
    have HT := Lib.hid hT
    have HB1 := Lib.hid hb1
    clear hT hb1
    dsimp only
    go_wp2_with fail
    with_reducible refine (HA.out _).mono ?_
    rintro e w2 ⟨⟨U, hU, rfl⟩, hb2⟩
    have HU := Lib.hid hU
    have HB2 := Lib.hid (belc HB1.out hb2)
    clear hU hb2
    dsimp only
    go_wp2_with fail
    with_reducible refine (HH.out T U _ HT.out HU.out).mono ?_
    rintro e w3 ⟨⟨V, hV, rfl⟩, hb3⟩
    try dsimp only at hV
    have HV := Lib.hid hV
    have HB3 := Lib.hid (belc HB2.out hb3)
    clear hV hb3
    dsimp only
    go_wp2
    go_ret2
    exact ⟨⟨V, HV.out, rfl⟩, HB3.out⟩
  · rw [if_pos hf] at ho
    have HO := Lib.hid ho
    have hfb : (f == 0) = false := by simpa using hf
    have hfb2 : (f != 0) = true := by simpa using hf
    clear ho hf
    go_enter Try.func12, Try.ntmps12
    go_wp2_with fail
    with_reducible refine (HX.out _).mono ?_
    rintro e w1 ⟨⟨T, hT, rfl⟩, hb1⟩
    try dsimp only at hT
    have HT := Lib.hid hT
    have HB1 := Lib.hid hb1
    clear hT hb1
    dsimp only
    go_wp2
    go_ret2
    exact ⟨by rw [← HO.out]; exact ⟨⟨#[]⟩, rfl, rfl⟩, HB1.out⟩
set_option maxHeartbeats 2000000 in
set_option maxRecDepth 1000000 in
theorem rfirst_any (n : Nat) (w : World) (h1 : 2 ≤ n) (h8 : n ≤ 8) : Calls Try.prog 56 #[.int .i64 (n : Int)] w fun e w' => e = .returned (.int .i64 (fst n : Int)) ∧ w' = w := by
  have HF : Hid (∀ k, (k = 1 ∨ k = 2 ∨ k = 4) → (k = 1 ∨ k < n) → ¬ 2 * k < n → k = fst n) := Lib.hid fun k h2 h3 h4 => by
    unfold fst
    split
    · omega
    · split <;> omega
  go_enter Try.func56, Try.ntmps56
  go_wp2_with fail
  go_loopw [3] (fun i wr => ∃ k : Nat, (k = 1 ∨ k = 2 ∨ k = 4) ∧ (k = 1 ∨ k < n) ∧ i = .int .i64 k ∧ wr = w) (fun i _ => 8 - (intOf i).toNat)
  case atStart => exact ⟨1, .inl rfl, .inl rfl, rfl, rfl⟩
  case round =>
    obtain ⟨k, hk, hk2, rfl, rfl⟩ := hrel
    have hw2 : IntKind.i64.wrap (2 * (k : Int)) = 2 * (k : Int) := by rw [IntKind.wrap_i64]; omega
    by_cases hlt : 2 * k < n
    · have hlt2 : 2 * (k : Int) < (n : Int) := by omega
      go_wp2
      go_roundw
      case rel => exact ⟨2 * k, by omega, by omega, by go_num, trivial⟩
      case measure => simp [intOf]; omega
    · have hlt2 : ¬ 2 * (k : Int) < (n : Int) := by omega
      have e := HF.out k hk hk2 hlt
      clear HF
      go_wp2
      go_ret
      exact ⟨rfl, rfl⟩
theorem sreads_take {w : World} {g off : Nat} {ys : List ByteArray} (h : SReads w (some ⟨g, off, none⟩) ys) (k : Nat) : SReads w (some ⟨g, off, none⟩) (ys.take k) := fun j hj => by
  rw [List.length_take] at hj
  obtain ⟨b, o, e, hb, hc⟩ := h j (by omega)
  exact ⟨b, o, e, hb, by rw [hc]; simp [List.getD, List.getElem?_take, show j < k by omega]⟩
theorem sreads_drop {w : World} {g off : Nat} {ys : List ByteArray} (h : SReads w (some ⟨g, off, none⟩) ys) (k : Nat) : SReads w (some ⟨g, off + k, none⟩) (ys.drop k) := fun j hj => by
  rw [List.length_drop] at hj
  obtain ⟨b, o, e, hb, hc⟩ := h (k + j) (by omega)
  injection e with e
  injection e with e1 e2 _
  subst e1; subst e2
  exact ⟨g, off + k, rfl, hb, by rw [show off + k + j = off + (k + j) by omega, hc]; simp [List.getD, List.getElem?_drop]⟩
theorem bl_take' (ys : List ByteArray) (k : Nat) : (bl ys).take k = bl (ys.take k) := by simp [bl, List.map_take]
theorem bl_drop' (ys : List ByteArray) (k : Nat) : (bl ys).drop k = bl (ys.drop k) := by simp [bl, List.map_drop]
theorem tree_len {d : Nat} {l : List Tm} {x : Tm} {f : Int} (h : treeD d l = (x, f)) : x.length ≤ 4000 := by
  cases d with
  | zero => rw [← (Prod.mk.inj h).1]; decide
  | succ d =>
    by_cases hf : f = 0
    · subst hf; exact (right_len (tree_head h (by omega)).2).2
    · have : x = [] := by
        by_cases hl : l.length = 1
        · rw [treeD_succ, if_pos hl] at h
          rcases one_or (l.headD []) with ⟨h2, _⟩ | ⟨_, h2⟩
          · rw [h] at h2; exact absurd h2 hf
          · rw [h] at h2; exact h2
        · rw [treeD_succ, if_neg hl] at h
          split at h
          · exact (Prod.mk.inj h).1.symm
          · split at h
            · exact (Prod.mk.inj h).1.symm
            · rcases over_or (treeD d (l.take (fst l.length))).1 (treeD d (l.drop (fst l.length))).1 with ⟨h2, _⟩ | ⟨_, h2⟩
              · rw [h] at h2; exact absurd h2 hf
              · rw [h] at h2; exact h2
      rw [this]; decide
set_option maxHeartbeats 4000000 in
set_option maxRecDepth 1000000 in
theorem rtree_any : ∀ (d : Nat) (A : Option Addr) (c : Nat) (ys : List ByteArray) (w : World), d ≤ 3 → SReads w A ys → 1 ≤ ys.length → ys.length ≤ 2 ^ d → ys.length ≤ c → c ≤ 9223372036854775807 → (∀ y ∈ ys, y.size ≤ 140737488355328) →
    Calls Try.prog 36 #[.slice A ys.length c] w fun e w' => Sr (treeD (d + 1) (bl ys)) e ∧ Below w.heap.size w w' := by
  intro d
  induction d with
  | zero =>
    intro A c ys w hd hr h1 h2 hc hc2 hz
    obtain ⟨y, rfl⟩ := List.length_eq_one_iff.1 (show ys.length = 1 by omega)
    rw [treeD_succ, if_pos (show (bl [y]).length = 1 from rfl)]
    obtain ⟨g, off, rfl, hg, hcell⟩ := hr 0 (by simp)
    have hc0 : w.cell? ⟨g, off, none⟩ = some (.string y) := hcell
    have HH := Lib.hid fun w => ofHash_any y w (hz y (by simp))
    obtain ⟨x, f, hx⟩ : ∃ x f, one 104 y.data.toList = (x, f) := ⟨_, _, rfl⟩
    show Calls _ _ _ _ fun e w' => Sr (one 104 y.data.toList) e ∧ _
    rw [hx] at HH ⊢
    clear hx hr hz
    go_enter Try.func36, Try.ntmps36
    go_wp2_with fail
    with_reducible refine (HH.out _).mono ?_
    rintro e w1 ⟨⟨T, hT, rfl⟩, hb1⟩
    try dsimp only at hT
    have HT := Lib.hid hT
    dsimp only
    go_wp2
    go_ret2
    exact ⟨⟨T, HT.out, rfl⟩, hb1⟩
  | succ d ih =>
    intro A c ys w hd hr h1 h2 hc hc2 hz
    by_cases hl : ys.length = 1
    · obtain ⟨y, rfl⟩ := List.length_eq_one_iff.1 hl
      rw [treeD_succ, if_pos (show (bl [y]).length = 1 from rfl)]
      obtain ⟨g, off, rfl, hg, hcell⟩ := hr 0 (by simp)
      have hc0 : w.cell? ⟨g, off, none⟩ = some (.string y) := hcell
      have HH := Lib.hid fun w => ofHash_any y w (hz y (by simp))
      obtain ⟨x, f, hx⟩ : ∃ x f, one 104 y.data.toList = (x, f) := ⟨_, _, rfl⟩
      show Calls _ _ _ _ fun e w' => Sr (one 104 y.data.toList) e ∧ _
      rw [hx] at HH ⊢
      clear hx hr hz ih
      go_enter Try.func36, Try.ntmps36
      go_wp2_with fail
      with_reducible refine (HH.out _).mono ?_
      rintro e w1 ⟨⟨T, hT, rfl⟩, hb1⟩
      try dsimp only at hT
      have HT := Lib.hid hT
      dsimp only
      go_wp2
      go_ret2
      exact ⟨⟨T, HT.out, rfl⟩, hb1⟩
    · obtain ⟨p1, p2, p3, p4, p5⟩ := fst_half (n := ys.length) (d := d) (by omega) (by omega) h2
      obtain ⟨k0, k1⟩ := fst_lt (n := ys.length) (by omega) p3
      obtain ⟨g, off, rfl, hg, _⟩ := hr 0 (by omega)
      have HFI := Lib.hid fun w => rfirst_any ys.length w (by omega) p3
      have hbl : (bl ys).length = ys.length := by simp [bl]
      generalize ho : treeD (d + 1 + 1) (bl ys) = o
      rw [treeD_succ, hbl, if_neg hl, bl_take', bl_drop'] at ho
      obtain ⟨K, hK⟩ : ∃ K, fst ys.length = K := ⟨_, rfl⟩
      rw [hK] at p1 p2 k0 k1 HFI ho
      obtain ⟨n, hn⟩ : ∃ n, ys.length = n := ⟨_, rfl⟩
      have ltk : (ys.take K).length = K := by rw [List.length_take]; omega
      have ldr : (ys.drop K).length = n - K := by rw [List.length_drop, hn]
      obtain ⟨xa, fa, hxa⟩ : ∃ xa fa, treeD (d + 1) (bl (ys.take K)) = (xa, fa) := ⟨_, _, rfl⟩
      obtain ⟨xb, fb, hxb⟩ : ∃ xb fb, treeD (d + 1) (bl (ys.drop K)) = (xb, fb) := ⟨_, _, rfl⟩
      have HTA : Hid (∀ w, SReads w (some ⟨g, off, none⟩) ys → Calls Try.prog 36 #[.slice (some ⟨g, off, none⟩) K c] w fun e w' => Sr (xa, fa) e ∧ Below w.heap.size w w') := Lib.hid fun w h => by
        have := ih (some ⟨g, off, none⟩) c (ys.take K) w (by omega) (sreads_take h K) (by omega) (by omega) (by omega) hc2 (fun y hy => hz y (List.mem_of_mem_take hy))
        rw [ltk, hxa] at this
        exact this
      have HTB : Hid (∀ w, SReads w (some ⟨g, off, none⟩) ys → Calls Try.prog 36 #[.slice (some ⟨g, off + K, none⟩) (n - K) (c - K)] w fun e w' => Sr (xb, fb) e ∧ Below w.heap.size w w') := Lib.hid fun w h => by
        have := ih (some ⟨g, off + K, none⟩) (c - K) (ys.drop K) w (by omega) (sreads_drop h K) (by omega) (by omega) (by omega) (by omega) (fun y hy => hz y (List.mem_of_mem_drop hy))
        rw [ldr, hxb] at this
        exact this
      rw [hxa, hxb] at ho
      have hla := tree_len hxa
      have hlb := tree_len hxb
      have HOV : Hid (∀ (T U : ByteArray) (w : World), T.data.toList = xa → U.data.toList = xb → Calls Try.prog 57 #[.string T, .string U] w fun e w' => Sr (over xa xb) e ∧ Below w.heap.size w w') := Lib.hid fun T U w hT hU => by
        have := rover_any T U w (by rw [Lib.size_eq, hT]; omega) (by rw [Lib.size_eq, hU]; omega)
        rw [hT, hU] at this
        exact this
      have HR := Lib.hid hr
      rw [hn] at hl hc k1 h1 p3 HFI ⊢
      have hlb2 : ((n : Int) == 1) = false := by rw [beq_eq_false_iff_ne]; omega
      have q1 : (K : Int) ≤ (c : Int) := by omega
      have q2 : (K : Int) ≤ (n : Int) := by omega
      have q3 : (0 : Int) ≤ (K : Int) := by omega
      simp only at ho
      clear hxa hxb hr hz ih hla hlb ltk ldr hbl h2 p1 p2 p3 p4 p5
      by_cases hfa : fa = 0
      · subst hfa
        rw [if_neg (fun h => h rfl)] at ho
        by_cases hfb : fb = 0
        · subst hfb
          rw [if_neg (fun h => h rfl)] at ho
          rw [ho] at HOV
          obtain ⟨ol, of⟩ := o
          clear ho
          go_enter Try.func36, Try.ntmps36
          go_wp2_with fail
          with_reducible refine (HFI.out _).mono ?_
          rintro e w1 ⟨rfl, rfl⟩
          dsimp only
          go_wp2_with fail
          with_reducible refine (HTA.out _ HR.out).mono ?_
          rintro e w2 ⟨⟨T, hT, rfl⟩, hb2⟩
          try dsimp only at hT
          have HT := Lib.hid hT
          have HB2 := Lib.hid hb2
          have HR2 := Lib.hid (HR.out.below hb2 (Nat.le_refl _))
          clear hT hb2
          dsimp only
          go_wp2_with fail
          with_reducible refine (HTB.out _ HR2.out).mono ?_
          rintro e w3 ⟨⟨U, hU, rfl⟩, hb3⟩
          try dsimp only at hU
          have HU := Lib.hid hU
          have HB3 := Lib.hid (belc HB2.out hb3)
          clear hU hb3
          dsimp only
          go_wp2_with fail
          with_reducible refine (HOV.out T U _ HT.out HU.out).mono ?_
          rintro e w4 ⟨⟨V, hV, rfl⟩, hb4⟩
          try dsimp only at hV
          have HV := Lib.hid hV
          have HB4 := Lib.hid (belc HB3.out hb4)
          clear hV hb4
          dsimp only
          go_wp2
          go_ret2
          exact ⟨⟨V, HV.out, rfl⟩, HB4.out⟩
        · rw [if_pos hfb] at ho
          have HO := Lib.hid ho
          have hb1 : (fb == 0) = false := by simpa using hfb
          have hb2 : (fb != 0) = true := by simpa using hfb
          clear ho hfb
          go_enter Try.func36, Try.ntmps36
          go_wp2_with fail
          with_reducible refine (HFI.out _).mono ?_
          rintro e w1 ⟨rfl, rfl⟩
          dsimp only
          go_wp2_with fail
          with_reducible refine (HTA.out _ HR.out).mono ?_
          rintro e w2 ⟨⟨T, hT, rfl⟩, hb2⟩
          try dsimp only at hT
          have HT := Lib.hid hT
          have HB2 := Lib.hid hb2
          have HR2 := Lib.hid (HR.out.below hb2 (Nat.le_refl _))
          clear hT hb2
          dsimp only
          go_wp2_with fail
          with_reducible refine (HTB.out _ HR2.out).mono ?_
          rintro e w3 ⟨⟨U, hU, rfl⟩, hb3⟩
          try dsimp only at hU
          have HU := Lib.hid hU
          have HB3 := Lib.hid (belc HB2.out hb3)
          clear hU hb3
          dsimp only
          go_wp2
          go_ret2
          exact ⟨by rw [← HO.out]; exact ⟨⟨#[]⟩, rfl, rfl⟩, HB3.out⟩
      · rw [if_pos hfa] at ho
        have HO := Lib.hid ho
        have hb1 : (fa == 0) = false := by simpa using hfa
        have hb2 : (fa != 0) = true := by simpa using hfa
        clear ho hfa
        go_enter Try.func36, Try.ntmps36
        go_wp2_with fail
        with_reducible refine (HFI.out _).mono ?_
        rintro e w1 ⟨rfl, rfl⟩
        dsimp only
        go_wp2_with fail
        with_reducible refine (HTA.out _ HR.out).mono ?_
        rintro e w2 ⟨⟨T, hT, rfl⟩, hb2⟩
        try dsimp only at hT
        have HT := Lib.hid hT
        have HB2 := Lib.hid hb2
        have HR2 := Lib.hid (HR.out.below hb2 (Nat.le_refl _))
        clear hT hb2
        dsimp only
        go_wp2
        go_ret2
        exact ⟨by rw [← HO.out]; exact ⟨⟨#[]⟩, rfl, rfl⟩, HB2.out⟩
end Go.Proofs.Ytblgcpopcgnncaa.Tre
