/-
  THE DOCUMENT's ANSWER (letterlockref10): beside. By an AI agent; no person has read it.
-/
import Derived.Test.YtblgcpopcgnncaaERef3
namespace Go.Proofs.Ytblgcpopcgnncaa.Tre
open Go.RowKit Wire Term Draw Reg Clo

set_option linter.unusedSimpArgs false
set_option linter.unusedVariables false
theorem own_low {w : World} {base b2 : Nat} {e : TypeId} {size n : Nat} {v : Value} {xs : List Value} (h : w.ownsRow base e size v n xs) (hb : b2 ≤ base) : w.ownsRow b2 e size v n xs := by
  refine ⟨h.1, ?_⟩
  rcases h.2 with h | ⟨g, cap, cur, hv, hg, rest⟩
  · exact .inl h
  · exact .inr ⟨g, cap, cur, hv, Nat.le_trans hb hg, rest⟩
/-- A row of one's own of these terms. -/
def Ob (w w' : World) (x : List Tm) (e : Ending) : Prop := ∃ (v : Value) (zs : List ByteArray), bl zs = x ∧ w'.ownsRow w.heap.size 9 1 v zs.length (sv zs) ∧ e = .returned v
theorem beside_few : ∀ (d i : Nat) (l : List Tm), (besideD d l i).length ≤ d
  | 0, _, _ => by unfold besideD; decide
  | d + 1, i, l => by
    rw [besideD_succ]
    split
    · simp
    · split
      · rw [List.length_append]
        have := beside_few d i (l.take (fst l.length))
        simp only [List.length_cons, List.length_nil]; omega
      · rw [List.length_append]
        have := beside_few d (i - fst l.length) (l.drop (fst l.length))
        simp only [List.length_cons, List.length_nil]; omega
set_option maxHeartbeats 4000000 in
set_option maxRecDepth 1000000 in
theorem rbeside_any : ∀ (d i : Nat) (A : Option Addr) (c : Nat) (ys : List ByteArray) (w : World), d ≤ 3 → SReads w A ys → 1 ≤ ys.length → ys.length ≤ 2 ^ d → i < ys.length → ys.length ≤ c → c ≤ 9223372036854775807 → (∀ y ∈ ys, y.size ≤ 140737488355328) →
    Calls Try.prog 39 #[.slice A ys.length c, .int .i64 (i : Int)] w fun e w' => Ob w w' (besideD (d + 1) (bl ys) i) e ∧ Below w.heap.size w w' := by
  obtain ⟨i0, hi0, hz0, hz1, hz2⟩ := info_parts str_info
  have one_case : ∀ (d i : Nat) (A : Option Addr) (c : Nat) (ys : List ByteArray) (w : World), ys.length = 1 → Calls Try.prog 39 #[.slice A ys.length c, .int .i64 (i : Int)] w fun e w' => Ob w w' (besideD (d + 1) (bl ys) i) e ∧ Below w.heap.size w w' := fun d i A c ys w h1 => by
    rw [besideD_succ, if_pos (show (bl ys).length = 1 by simp [bl, h1]), h1]
    clear hi0 hz0 hz1 hz2
    go_enter Try.func39, Try.ntmps39
    go_wp2
    go_ret
    exact ⟨⟨_, [], rfl, World.ownsRow_nil _ _ _ _, rfl⟩, Below.refl _ _⟩
  intro d
  induction d with
  | zero =>
    intro i A c ys w hd hr h1 h2 hi hc hc2 hz
    exact one_case 0 i A c ys w (by omega)
  | succ d ih =>
    intro i A c ys w hd hr h1 h2 hi hc hc2 hz
    by_cases hl : ys.length = 1
    · exact one_case (d + 1) i A c ys w hl
    · obtain ⟨n2, n8, p1, p2, k0, k1⟩ := fst_half0 (d := d) hl h1 (by omega) h2
      obtain ⟨g, off, rfl, hg, hcl⟩ := hr 0 (by omega)
      clear hcl
      have HFI := Lib.hid fun w => rfirst_any ys.length w n2 n8
      have hbl : (bl ys).length = ys.length := by simp [bl]
      rw [besideD_succ, hbl, if_neg hl, bl_take', bl_drop']
      obtain ⟨K, hK⟩ : ∃ K, fst ys.length = K := ⟨_, rfl⟩
      rw [hK] at p1 p2 k0 k1 HFI ⊢
      obtain ⟨n, hn⟩ : ∃ n, ys.length = n := ⟨_, rfl⟩
      have ltk : (ys.take K).length = K := by rw [List.length_take]; omega
      have ldr : (ys.drop K).length = n - K := by rw [List.length_drop, hn]
      obtain ⟨xa, fa, hxa⟩ : ∃ xa fa, treeD (d + 1) (bl (ys.take K)) = (xa, fa) := ⟨_, _, rfl⟩
      obtain ⟨xb, fb, hxb⟩ : ∃ xb fb, treeD (d + 1) (bl (ys.drop K)) = (xb, fb) := ⟨_, _, rfl⟩
      have HTA : Hid (∀ w, SReads w (some ⟨g, off, none⟩) ys → Calls Try.prog 36 #[.slice (some ⟨g, off, none⟩) K c] w fun e w' => Sr (xa, fa) e ∧ Below w.heap.size w w') := Lib.hid fun w h => by
        have := rtree_any d (some ⟨g, off, none⟩) c (ys.take K) w (by omega) (sreads_take h K) (by omega) (by omega) (by omega) hc2 (fun y hy => hz y (List.mem_of_mem_take hy))
        rw [ltk, hxa] at this
        exact this
      have HTB : Hid (∀ w, SReads w (some ⟨g, off, none⟩) ys → Calls Try.prog 36 #[.slice (some ⟨g, off + K, none⟩) (n - K) (c - K)] w fun e w' => Sr (xb, fb) e ∧ Below w.heap.size w w') := Lib.hid fun w h => by
        have := rtree_any d (some ⟨g, off + K, none⟩) (c - K) (ys.drop K) w (by omega) (sreads_drop h K) (by omega) (by omega) (by omega) (by omega) (fun y hy => hz y (List.mem_of_mem_drop hy))
        rw [ldr, hxb] at this
        exact this
      rw [hxa, hxb]
      have HR := Lib.hid hr
      have q1 : (K : Int) ≤ (c : Int) := by omega
      have q2 : (K : Int) ≤ (n : Int) := by omega
      have q3 : (0 : Int) ≤ (K : Int) := by omega
      by_cases hik : i < K
      · rw [if_pos hik]
        have hik2 : (i : Int) < (K : Int) := by omega
        have HBS : Hid (∀ w, SReads w (some ⟨g, off, none⟩) ys → Calls Try.prog 39 #[.slice (some ⟨g, off, none⟩) K c, .int .i64 (i : Int)] w fun e w' => Ob w w' (besideD (d + 1) (bl (ys.take K)) i) e ∧ Below w.heap.size w w') := Lib.hid fun w h => by
          have := ih i (some ⟨g, off, none⟩) c (ys.take K) w (by omega) (sreads_take h K) (by omega) (by omega) (by omega) (by omega) hc2 (fun y hy => hz y (List.mem_of_mem_take hy))
          rw [ltk] at this
          exact this
        have hfew := beside_few (d + 1) i (bl (ys.take K))
        generalize besideD (d + 1) (bl (ys.take K)) i = bx at HBS hfew ⊢
        rw [hn] at hl hc k1 HFI ⊢
        have hlb2 : ((n : Int) == 1) = false := by rw [beq_eq_false_iff_ne]; omega
        clear ih hr hz one_case hxa hxb ltk ldr hbl h2 p1 p2 h1 hi n2 n8
        go_enter Try.func39, Try.ntmps39
        go_wp2_with fail
        with_reducible refine (HFI.out _).mono ?_
        rintro e w1 ⟨rfl, rfl⟩
        dsimp only
        go_wp2_with fail
        with_reducible refine (HTB.out _ HR.out).mono ?_
        rintro e w2 ⟨⟨T, hT, rfl⟩, hb2⟩
        try dsimp only at hT
        have HT := Lib.hid hT
        have HB2 := Lib.hid hb2
        have HR2 := Lib.hid (HR.out.below hb2 (Nat.le_refl _))
        clear hT hb2
        dsimp only
        go_wp2_with fail
        with_reducible refine (HBS.out _ HR2.out).mono ?_
        rintro e w3 ⟨⟨v, zs, hzs, hown, rfl⟩, hb3⟩
        have HB3 := Lib.hid (belc HB2.out hb3)
        have HO := Lib.hid (own_low hown HB2.out.size)
        have hzl : zs.length ≤ 4 := by
          have := congrArg List.length hzs
          simp only [bl, List.length_map] at this
          omega
        have HZS := Lib.hid hzs
        clear hown hb3 hzs
        dsimp only
        go_wp2_with (first
          | (at_builtin
             refine wpList_append_own _ rfl _ _ _ rfl w1.heap.size 9 i0 _ 1 16 Try.underlying23 hi0 hz0 hz1 hz2 rfl (by decide) _ zs.length (sv zs) rfl ?c1 _ 1 1 [.string T] rfl rfl ?c2 ?c3 ?c4 ?c5 ?c6 ?_
             case c1 => exact HO.out.alloc _
             case c2 => exact lit_cells _ _ _
             case c3 => exact sv_one [T]
             case c4 => simp only [maxLen]; omega
             case c5 => omega
             case c6 =>
              have h := HB3.out.size
              simp only [World.alloc, Array.size_push]
              exact Nat.le_succ_of_le h
             intro v6 w6 hown hgrow _
             have HO6 := Lib.hid hown
             have HG6 := Lib.hid hgrow
             clear hown hgrow))
        go_ret
        refine ⟨⟨v6, zs ++ [T], by simp [bl, ← HZS.out, HT.out], by simpa [sv] using HO6.out, rfl⟩, ?_⟩
        refine (HB3.out.alloc HB3.out.size (.cells #[.string T] 9)).grown HG6.out (by
          have := HB3.out.size
          simp only [World.alloc, Array.size_push]
          omega) fun g hg => ?_
        exact (HO.out.lt g hg).1
      · rw [if_neg hik]
        have hik2 : ¬ (i : Int) < (K : Int) := by omega
        have hwi : IntKind.i64.wrap ((i : Int) - (K : Int)) = ((i - K : Nat) : Int) := by rw [IntKind.wrap_i64]; omega
        have HBS : Hid (∀ w, SReads w (some ⟨g, off, none⟩) ys → Calls Try.prog 39 #[.slice (some ⟨g, off + K, none⟩) (n - K) (c - K), .int .i64 ((i - K : Nat) : Int)] w fun e w' => Ob w w' (besideD (d + 1) (bl (ys.drop K)) (i - K)) e ∧ Below w.heap.size w w') := Lib.hid fun w h => by
          have := ih (i - K) (some ⟨g, off + K, none⟩) (c - K) (ys.drop K) w (by omega) (sreads_drop h K) (by omega) (by omega) (by omega) (by omega) (by omega) (fun y hy => hz y (List.mem_of_mem_drop hy))
          rw [ldr] at this
          exact this
        have hfew := beside_few (d + 1) (i - K) (bl (ys.drop K))
        generalize besideD (d + 1) (bl (ys.drop K)) (i - K) = bx at HBS hfew ⊢
        generalize i - K = ik at HBS hwi
        rw [hn] at hl hc k1 HFI ⊢
        have hlb2 : ((n : Int) == 1) = false := by rw [beq_eq_false_iff_ne]; omega
        clear ih hr hz one_case hxa hxb ltk ldr hbl h2 p1 p2 h1 hi n2 n8
        go_enter Try.func39, Try.ntmps39
        go_wp2_with fail
        with_reducible refine (HFI.out _).mono ?_
        rintro e w1 ⟨rfl, rfl⟩
        dsimp only
        go_wp2_with fail
        with_reducible refine (HTA.out _ HR.out).mono ?_
        rintro e w2 ⟨⟨T, hT, rfl⟩, hb2⟩
        try dsimp only at hT
        have HT := Lib.hid hT
        have HB2 := Lib.hid hb2
        have HR2 := Lib.hid (HR.out.below hb2 (Nat.le_refl _))
        clear hT hb2
        dsimp only
        go_wp2_with fail
        with_reducible refine (HBS.out _ HR2.out).mono ?_
        rintro e w3 ⟨⟨v, zs, hzs, hown, rfl⟩, hb3⟩
        have HB3 := Lib.hid (belc HB2.out hb3)
        have HO := Lib.hid (own_low hown HB2.out.size)
        have hzl : zs.length ≤ 4 := by
          have := congrArg List.length hzs
          simp only [bl, List.length_map] at this
          omega
        have HZS := Lib.hid hzs
        clear hown hb3 hzs
        dsimp only
        go_wp2_with (first
          | (at_builtin
             refine wpList_append_own _ rfl _ _ _ rfl w1.heap.size 9 i0 _ 1 16 Try.underlying23 hi0 hz0 hz1 hz2 rfl (by decide) _ zs.length (sv zs) rfl ?c1 _ 1 1 [.string T] rfl rfl ?c2 ?c3 ?c4 ?c5 ?c6 ?_
             case c1 => exact HO.out.alloc _
             case c2 => exact lit_cells _ _ _
             case c3 => exact sv_one [T]
             case c4 => simp only [maxLen]; omega
             case c5 => omega
             case c6 =>
              have h := HB3.out.size
              simp only [World.alloc, Array.size_push]
              exact Nat.le_succ_of_le h
             intro v6 w6 hown hgrow _
             have HO6 := Lib.hid hown
             have HG6 := Lib.hid hgrow
             clear hown hgrow))
        go_ret
        refine ⟨⟨v6, zs ++ [T], by simp [bl, ← HZS.out, HT.out], by simpa [sv] using HO6.out, rfl⟩, ?_⟩
        refine (HB3.out.alloc HB3.out.size (.cells #[.string T] 9)).grown HG6.out (by
          have := HB3.out.size
          simp only [World.alloc, Array.size_push]
          omega) fun g hg => ?_
        exact (HO.out.lt g hg).1
end Go.Proofs.Ytblgcpopcgnncaa.Tre
