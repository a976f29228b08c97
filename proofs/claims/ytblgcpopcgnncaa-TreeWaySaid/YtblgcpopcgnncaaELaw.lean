/-
  THE CHAPTER's EXAMPLE (letterlocklaw10.shown); rows of leaves: what their tree is. By an AI agent; no person has read it.
-/
import Derived.Test.YtblgcpopcgnncaaEHelp
import Derived.Test.YtblgcpopcgnncaaEVerify
import Derived.Test.YtblgcpopcgnncaaEProof
namespace Go.Proofs.Ytblgcpopcgnncaa.Tre
open Go Go.RowKit Wire Term Draw Reg Clo

set_option linter.unusedSimpArgs false
set_option linter.unusedVariables false
def ntB : ByteArray := ⟨#[110, 111, 116, 101, 115]⟩
/-- Of a row of small leaves: its tree, proofs. -/
theorem small_root {l : List Tm} (h1 : 1 ≤ l.length) (h8 : l.length ≤ 8) (hl : ∀ t ∈ l, (Sz 2 t ∧ t.length ≤ 121) ∧ isLeaf t = true) : ∃ x, root l = (x, 0) ∧ treeD 4 l = (x, 0) ∧ right x = true ∧ x.headD 0 = 104 ∧ x.length ≤ 4000 := by
  obtain ⟨x, e1, e2, e3, e4⟩ := root_small h1 h8 (fun t h => (hl t h).1) (fun t h => (hl t h).2)
  exact ⟨x, e1, e2, e3, e4, (right_len e3).2⟩
theorem root_to {l : List Tm} {x : Tm} (he : root l = (x, 0)) {A : Option Addr} {c : Nat} {ys : List ByteArray} (hy : bl ys = l) (hc : ys.length ≤ c) (hc2 : c ≤ 9223372036854775807) (hz : ∀ t ∈ l, t.length ≤ 140737488355328) (w : World) (hr : SReads w A ys) :
    Calls Try.prog 13 #[.slice A ys.length c] w fun e w' => Sr (x, 0) e ∧ Below w.heap.size w w' := by
  have := croot_any A c ys w hr hc hc2 (fun y hy' => by rw [Lib.size_eq]; exact hz _ (by rw [← hy]; exact List.mem_map.2 ⟨y, hy', rfl⟩))
  rw [hy, he] at this
  exact this
theorem nt_sz : Sz 2 (lf ntB.data.toList 1) ∧ (lf ntB.data.toList 1).length ≤ 26 := by
  have := lf_sz (f := ntB.data.toList) (v := 1) (by decide) (by decide)
  exact ⟨this.1, this.2⟩
theorem nt_root : root [lf ntB.data.toList 1] = (104 :: lf ntB.data.toList 1, 0) := by
  have h := nt_sz
  unfold root
  rw [if_neg (by decide), if_neg (fun h => h (fun t ht => by rw [List.mem_singleton.1 ht]; exact lf_leaf (by decide) (by decide))), treeD_succ, if_pos (show [lf ntB.data.toList 1].length = 1 from rfl)]
  exact one_is h.1 (Nat.le_trans h.2 (by decide))
theorem nt_ver : verifyT (104 :: lf ntB.data.toList 1) ((1 : Nat) : Int) ((0 : Nat) : Int) (lf ntB.data.toList 1) [] = true := by
  have h := nt_sz
  have e := verify_yes (l := [lf ntB.data.toList 1]) (r := 104 :: lf ntB.data.toList 1) (i := 0) (by decide) (by decide) (by decide) (fun t ht => by rw [List.mem_singleton.1 ht]; exact lf_leaf (by decide) (by decide)) (by rw [treeD_succ, if_pos (show [lf ntB.data.toList 1].length = 1 from rfl)]; exact one_is h.1 (Nat.le_trans h.2 (by decide)))
  exact e
set_option maxHeartbeats 8000000 in
set_option maxRecDepth 1000000 in
theorem shown_any (w : World) : Calls Try.prog 9 #[] w fun e w' => e = .returned (.bool true) ∧ Below w.heap.size w w' := by
  have HLF : Hid (∀ w, Calls Try.prog 11 #[.string ⟨#[110, 111, 116, 101, 115]⟩, .int .u64 1] w fun e w' => Sr (lf ntB.data.toList 1, 0) e ∧ Below w.heap.size w w') := Lib.hid fun w => by
    have := cleafT_any ntB 1 w (by decide) (by decide)
    rw [leafT_is (by decide) (by decide)] at this
    exact this
  have hsz := nt_sz.2
  have hver := nt_ver
  have hroot := nt_root
  generalize lf ntB.data.toList 1 = ll at HLF hsz hver hroot
  have HRT : Hid (∀ (L : ByteArray) (A : Option Addr) (w : World), L.data.toList = ll → SReads w A [L] → Calls Try.prog 13 #[.slice A 1 1] w fun e w' => Sr (104 :: ll, 0) e ∧ Below w.heap.size w w') := Lib.hid fun L A w hL hr => by
    have := root_to hroot (A := A) (c := 1) (ys := [L]) (by simp [bl, hL]) (Nat.le_refl _) (by omega) (fun t ht => by rw [List.mem_singleton.1 ht]; omega) w hr
    exact this
  have HVE : Hid (∀ (L R : ByteArray) (w : World), L.data.toList = ll → R.data.toList = 104 :: ll → Calls Try.prog 18 #[.string R, .int .i64 1, .int .i64 0, .string L, .slice none 0 0] w fun e w' => e = .returned (.bool true) ∧ Below w.heap.size w w') := Lib.hid fun L R w hL hR => by
    have := cverify_any R 1 0 L none 0 [] w (SReads.nil _ _) (Nat.le_refl _) (by omega) (fun y hy => absurd hy (List.not_mem_nil)) (by rw [Lib.size_eq, hL]; omega) (by rw [Lib.size_eq, hR, List.length_cons]; omega)
    rw [hL, hR, show verifyT (104 :: ll) 1 0 ll (bl []) = true from hver] at this
    exact this
  clear hver hroot
  go_enter Try.func9, Try.ntmps9
  go_wp2_with fail
  with_reducible refine (HLF.out _).mono ?_
  rintro e w1 ⟨⟨L, hL, rfl⟩, hb1⟩
  try dsimp only at hL
  have HL := Lib.hid hL
  have HB1 := Lib.hid hb1
  have hLz : L.size ≤ 26 := by rw [Lib.size_eq, hL]; exact hsz
  clear hL hb1
  dsimp only
  go_wp2_with fail
  have hrow := one_reads w1 L w1.heap.size rfl
  have hbA : Below w1.heap.size w1 (w1.alloc (.cells #[.string L] 9)) := (Below.refl w1.heap.size w1).alloc (Nat.le_refl _) _
  generalize w1.alloc (.cells #[.string L] 9) = w2 at hrow hbA ⊢
  have HB2 := Lib.hid (belc HB1.out hbA)
  have HRW := Lib.hid hrow
  clear hrow hbA
  with_reducible refine (HRT.out L _ _ HL.out HRW.out).mono ?_
  rintro e w3 ⟨⟨R, hR, rfl⟩, hb3⟩
  try dsimp only at hR
  have HR := Lib.hid hR
  have HB3 := Lib.hid (belc HB2.out hb3)
  have q : (R.toList == ((⟨#[104]⟩ : ByteArray) ++ L).toList) = true := eq_bool (by rw [hR, app_data, HL.out]; rfl)
  clear hR hb3
  dsimp only
  go_wp2_with fail
  with_reducible refine (HVE.out L R _ HL.out HR.out).mono ?_
  rintro e w4 ⟨rfl, hb4⟩
  have HB4 := Lib.hid (belc HB3.out hb4)
  clear hb4
  dsimp only
  go_wp2
  go_ret
  exact ⟨rfl, HB4.out⟩
theorem ob_row {w w' : World} {x : List Tm} {e : Ending} (h : Ob w w' x e) : ∃ (A : Option Addr) (c : Nat) (ys : List ByteArray), bl ys = x ∧ (ys.length ≤ c ∧ c ≤ 9223372036854775807) ∧ SReads w' A ys ∧ (w'.ownsRow w.heap.size 9 1 (.slice A ys.length c) ys.length (sv ys)) ∧ e = .returned (.slice A ys.length c) := by
  obtain ⟨v, ys, h1, h2, rfl⟩ := h
  obtain ⟨A, c, rfl⟩ := own_value h2
  obtain ⟨h3, _, h4⟩ := sreads_own h2
  refine ⟨A, c, ys, h1, ⟨h4, ?_⟩, h3, h2, rfl⟩
  rcases h2.2 with ⟨hv, _⟩ | ⟨g, cap, cur, hv, _, _, _, hm, _⟩
  · injection hv with _ _ e3; rw [e3]; omega
  · injection hv with _ _ e3; rw [e3]; exact hm
theorem pb_row {w w' : World} {x : List Tm} {f : Int} {e : Ending} (h : Pb w w' (x, f) e) : ∃ (A : Option Addr) (c : Nat) (ys : List ByteArray), bl ys = x ∧ (ys.length ≤ c ∧ c ≤ 9223372036854775807) ∧ SReads w' A ys ∧ (w'.ownsRow w.heap.size 9 1 (.slice A ys.length c) ys.length (sv ys)) ∧ e = .returned (.tuple #[.slice A ys.length c, .int .i64 f]) := by
  obtain ⟨v, ys, h1, h2, rfl⟩ := h
  obtain ⟨A, c, ys', e1, e2, e3, e4, e5⟩ := ob_row (e := .returned v) ⟨v, ys, h1, h2, rfl⟩
  injection e5 with e5
  subst e5
  exact ⟨A, c, ys', e1, e2, e3, e4, rfl⟩
theorem rowL_small {zs : List Int} : ∀ t ∈ rowL zs, (Sz 2 t ∧ t.length ≤ 121) ∧ isLeaf t = true := fun t h => rowL_mem h
theorem bl_sizes {ys : List ByteArray} {l : List Tm} (h : bl ys = l) (hl : ∀ t ∈ l, (Sz 2 t ∧ t.length ≤ 121) ∧ isLeaf t = true) : ∀ y ∈ ys, y.size ≤ 121 := fun y hy => by
  rw [Lib.size_eq]; exact (hl _ (by rw [← h]; exact List.mem_map.2 ⟨y, hy, rfl⟩)).1.2
theorem bl_length {ys : List ByteArray} {l : List Tm} (h : bl ys = l) : ys.length = l.length := by rw [← h]; simp [bl]
theorem two_to {a b : Tm} {x : Tm × Int} (he : two 112 a b = x) {S T : ByteArray} (hS : S.data.toList = a) (hT : T.data.toList = b) (ha : a.length ≤ 4000) (hb : b.length ≤ 4000) (w : World) :
    Calls Try.prog 24 #[.string S, .string T] w fun e w' => Sr x e ∧ Below w.heap.size w w' := by
  have := t_OfPair S T w (by rw [Lib.size_eq, hS]; omega) (by rw [Lib.size_eq, hT]; omega)
  rw [hS, hT, he] at this
  exact this
theorem one_to {a : Tm} {x : Tm × Int} (he : one 104 a = x) {S : ByteArray} (hS : S.data.toList = a) (ha : a.length ≤ 4000) (w : World) :
    Calls Try.prog 23 #[.string S] w fun e w' => Sr x e ∧ Below w.heap.size w w' := by
  have := t_OfHash S w (by rw [Lib.size_eq, hS]; omega)
  rw [hS, he] at this
  exact this
/-- Of a row of more than one: its tree is over both its trees. -/
theorem small_two {l : List Tm} (h1 : 2 ≤ l.length) (h8 : l.length ≤ 8) (hl : ∀ t ∈ l, (Sz 2 t ∧ t.length ≤ 121) ∧ isLeaf t = true) : ∃ R a b p, root l = (R, 0) ∧ root (l.take (fst l.length)) = (a, 0) ∧ root (l.drop (fst l.length)) = (b, 0) ∧ two 112 a b = (p, 0) ∧ one 104 p = (R, 0) ∧ a.length ≤ 4000 ∧ b.length ≤ 4000 ∧ p.length ≤ 4000 ∧ R.length ≤ 4000 := by
  obtain ⟨k0, k1⟩ := fst_lt (n := l.length) h1 h8
  obtain ⟨p1, p2, _, _, _⟩ := fst_half (n := l.length) (d := 2) h1 (by omega) (by omega)
  have lt1 : (l.take (fst l.length)).length = fst l.length := by rw [List.length_take]; omega
  have ld1 : (l.drop (fst l.length)).length = l.length - fst l.length := List.length_drop
  obtain ⟨R, r1, r2, r3, _, r5⟩ := small_root (by omega) h8 hl
  obtain ⟨a, a1, a2, a3, _, a5⟩ := small_root (l := l.take (fst l.length)) (by omega) (by omega) (fun t h => hl t (List.mem_of_mem_take h))
  obtain ⟨b, b1, b2, b3, _, b5⟩ := small_root (l := l.drop (fst l.length)) (by omega) (by omega) (fun t h => hl t (List.mem_of_mem_drop h))
  obtain ⟨_, _, e0⟩ := tree_two (d := 3) (l := l) (by omega) (by rw [r2])
  rw [tree_four (d := 2) (l := l.take (fst l.length)) (by omega) (by omega) (by omega), tree_four (d := 2) (l := l.drop (fst l.length)) (by omega) (by omega) (by omega), a2, b2, r2] at e0
  have e1 : over a b = (R, 0) := e0.symm
  rcases over_or a b with ⟨_, x1, x2, x3, x4, x5⟩ | ⟨x1, _⟩
  · rw [x5] at e1
    refine ⟨R, a, b, 112 :: (a ++ b), r1, a1, b1, ?_, ?_, a5, b5, (right_len x3).2, r5⟩
    · unfold two; rw [if_pos ⟨x1, x2⟩]; exact made_yes x3
    · unfold one; rw [if_pos x3, made_yes x4]; exact e1
  · rw [e1] at x1; exact absurd rfl x1
theorem small_one {a : Tm} (h : (Sz 2 a ∧ a.length ≤ 121) ∧ isLeaf a = true) : root [a] = (104 :: a, 0) ∧ one 104 a = (104 :: a, 0) := by
  have h1 := one_is h.1.1 h.1.2
  refine ⟨?_, h1⟩
  unfold root
  rw [if_neg (by simp), if_neg (fun hh => hh (fun t ht => by rw [List.mem_singleton.1 ht]; exact h.2)), treeD_succ, if_pos (show [a].length = 1 from rfl)]
  exact h1
end Go.Proofs.Ytblgcpopcgnncaa.Tre
