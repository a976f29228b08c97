/-
  THE LANDED CODE (package data): isEpoch, isTerm, isPath, must, made, trusted, said. By an AI agent; no person has read it.
-/
import Derived.Test.YtjdignbmlfbdnaaGreatQPure
import Derived.Test.YtjdignbmlfbdnaaGreatZ1
import Derived.Test.YtjdignbmlfbdnaaGreatZA
import Derived.WalkLawsBesides
namespace Go.Proofs.YtjdignbmlfbdnaaGreat.Dta
open Go.RowKit Wire Term Draw Reg Clo

set_option linter.unusedSimpArgs false
set_option linter.unusedVariables false
/-- A panic with an error. -/
def Pn (f : Int) (e : Ending) : Prop := e = .panicked [{ v := .iface 28 (.int .i64 f), recovered := false }]
set_option maxHeartbeats 2000000 in
set_option maxRecDepth 1000000 in
theorem must_yes (f : Int) (w : World) : Calls Tryz.prog 35 #[.bool true, .int .i64 f] w fun e w' => e = .returned (.tuple #[]) ∧ w' = w := by
  go_enter Tryz.func35, Tryz.ntmps35
  go_wp2
  go_end0
  exact ⟨rfl, rfl⟩
set_option maxHeartbeats 2000000 in
set_option maxRecDepth 1000000 in
theorem must_no (f : Int) (w : World) : Calls Tryz.prog 35 #[.bool false, .int .i64 f] w fun e w' => Pn f e ∧ w' = w := by
  go_enter Tryz.func35, Tryz.ntmps35
  go_wp2
  exact ⟨rfl, (show Pn _ _ from rfl), rfl⟩
set_option maxHeartbeats 2000000 in
set_option maxRecDepth 1000000 in
theorem isEpoch_any (n : Int) (w : World) : Calls Tryz.prog 36 #[.int .i64 n] w fun e w' => e = .returned (.bool (decide (0 ≤ n ∧ n ≤ 7))) ∧ w' = w := by
  by_cases h1 : 0 ≤ n
  · by_cases h2 : n ≤ 7
    · rw [decide_eq_true (show 0 ≤ n ∧ n ≤ 7 from ⟨h1, h2⟩)]
      go_enter Tryz.func36, Tryz.ntmps36
      go_wp2
      go_ret
      exact ⟨rfl, rfl⟩
    · rw [decide_eq_false (show ¬ (0 ≤ n ∧ n ≤ 7) from fun h => h2 h.2)]
      go_enter Tryz.func36, Tryz.ntmps36
      go_wp2
      go_ret
      exact ⟨rfl, rfl⟩
  · rw [decide_eq_false (show ¬ (0 ≤ n ∧ n ≤ 7) from fun h => h1 h.1)]
    go_enter Tryz.func36, Tryz.ntmps36
    go_wp2
    go_ret
    exact ⟨rfl, rfl⟩
set_option maxHeartbeats 2000000 in
set_option maxRecDepth 1000000 in
theorem isTerm_any (s : ByteArray) (w : World) (hs : s.size ≤ 140737488355328) :
    Calls Tryz.prog 37 #[.string s] w fun e w' => e = .returned (.bool (right s.data.toList)) ∧ Below w.heap.size w w' := by
  obtain ⟨k, hk⟩ : ∃ k, kind s.data.toList = k := ⟨_, rfl⟩
  cases hr : right s.data.toList with
  | false =>
    obtain rfl : k = 0 := by rw [← hk]; exact kind_wrong hr
    have HK := Lib.hid hk
    clear hk
    go_enter Tryz.func37, Tryz.ntmps37
    go_wp2_with fail
    with_reducible refine (t_Kind s _ hs).mono ?_
    rw [HK.out]
    rintro e w1 ⟨rfl, hb⟩
    go_wp2
    go_ret
    exact ⟨rfl, hb⟩
  | true =>
    have h0 : ¬ (k : Int) = 0 := by have := Term.kind_pos hr; rw [hk] at this; omega
    have hb0 : ((k : Int) != 0) = true := by simpa using h0
    have HK := Lib.hid hk
    clear hk
    go_enter Tryz.func37, Tryz.ntmps37
    go_wp2_with fail
    with_reducible refine (t_Kind s _ hs).mono ?_
    rw [HK.out]
    rintro e w1 ⟨rfl, hb⟩
    go_wp2
    go_ret
    exact ⟨rfl, hb⟩
set_option maxHeartbeats 2000000 in
set_option maxRecDepth 1000000 in
theorem isPath_any (s : ByteArray) (w : World) (hs : s.size ≤ 140737488355328) :
    Calls Tryz.prog 38 #[.string s] w fun e w' => e = .returned (.bool (isPath s.data.toList)) ∧ Below w.heap.size w w' := by
  have HS := Lib.hid fun w => split_any s w hs
  obtain ⟨v, hv⟩ : ∃ v, isPath s.data.toList = v := ⟨_, rfl⟩
  rw [hv]
  have HV := Lib.hid hv
  clear hv
  go_enter Tryz.func38, Tryz.ntmps38
  go_wp2_with fail
  with_reducible refine (HS.out _).mono ?_
  rintro e w1 ⟨⟨h0, rfl⟩ | ⟨a, b, h0, rfl⟩, b1⟩
  · have e1 : v = false := by rw [← HV.out]; unfold isPath; rw [h0]; rfl
    subst e1
    clear h0
    go_wp2
    go_ret
    exact ⟨rfl, b1⟩
  · have e1 : v = true := by rw [← HV.out]; unfold isPath; rw [h0]; rfl
    subst e1
    clear h0
    go_wp2
    go_ret
    exact ⟨rfl, b1⟩
set_option maxHeartbeats 2000000 in
set_option maxRecDepth 1000000 in
theorem made_yes' (T : ByteArray) (w : World) : Calls Tryz.prog 40 #[.string T, .int .i64 0] w fun e w' => e = .returned (.string T) ∧ w' = w := by
  go_enter Tryz.func40, Tryz.ntmps40
  go_wp2_with fail
  with_reducible refine (must_yes 10 _).mono ?_
  rintro e w1 ⟨rfl, rfl⟩
  go_wp2
  go_ret
  exact ⟨rfl, rfl⟩
set_option maxHeartbeats 2000000 in
set_option maxRecDepth 1000000 in
theorem made_no' (T : ByteArray) (f : Int) (w : World) (hf : (f == 0) = false) : Calls Tryz.prog 40 #[.string T, .int .i64 f] w fun e w' => Pn 10 e ∧ w' = w := by
  go_enter Tryz.func40, Tryz.ntmps40
  go_wp2_with fail
  with_reducible refine (must_no 10 _).mono ?_
  rintro e w1 ⟨rfl, rfl⟩
  go_wp2
  exact ⟨rfl, (show Pn _ _ from rfl), rfl⟩
set_option maxHeartbeats 2000000 in
set_option maxRecDepth 1000000 in
theorem trusted_yes (T : ByteArray) (w : World) : Calls Tryz.prog 50 #[.string T, .int .i64 0] w fun e w' => e = .returned (.string T) ∧ w' = w := by
  go_enter Tryz.func50, Tryz.ntmps50
  go_wp2_with fail
  with_reducible refine (must_yes 7 _).mono ?_
  rintro e w1 ⟨rfl, rfl⟩
  go_wp2
  go_ret
  exact ⟨rfl, rfl⟩
set_option maxHeartbeats 2000000 in
set_option maxRecDepth 1000000 in
theorem trusted_no (T : ByteArray) (f : Int) (w : World) (hf : (f == 0) = false) : Calls Tryz.prog 50 #[.string T, .int .i64 f] w fun e w' => Pn 7 e ∧ w' = w := by
  go_enter Tryz.func50, Tryz.ntmps50
  go_wp2_with fail
  with_reducible refine (must_no 7 _).mono ?_
  rintro e w1 ⟨rfl, rfl⟩
  go_wp2
  exact ⟨rfl, (show Pn _ _ from rfl), rfl⟩
set_option maxHeartbeats 2000000 in
set_option maxRecDepth 1000000 in
theorem said_any (n : Int) (s : ByteArray) (w : World) (hn : 0 ≤ n ∧ n ≤ 7) (hs : s.size ≤ 140737488355328) :
    Calls Tryz.prog 41 #[.int .i64 n, .string s] w fun e w' => Sr (said n s.data.toList) e ∧ Below w.heap.size w w' := by
  obtain ⟨k, rfl⟩ : ∃ k : Nat, n = (k : Int) := ⟨n.toNat, by omega⟩
  have hk : k ≤ 7 := by omega
  have cw : IntKind.u64.wrap (k : Int) = (k : Int) := by rw [IntKind.wrap_u64]; omega
  have HP : Hid (∀ (A : ByteArray) (w : World), A.data.toList = ofAtom k → Calls Tryz.prog 74 #[.string A, .string s] w fun e w' => Sr (said (k : Int) s.data.toList) e ∧ Below w.heap.size w w') := by
    intro A w hA
    have := t_OfPair A s w (by rw [Lib.size_eq, hA]; have := (put_le (n := k) (by omega)).2; unfold ofAtom; rw [List.length_cons]; omega) hs
    rw [hA] at this
    exact this
  have HA := Lib.hid fun w => t_OfAtom k w (by omega)
  obtain ⟨x, f, hx⟩ : ∃ x f, said (k : Int) s.data.toList = (x, f) := ⟨_, _, rfl⟩
  rw [hx] at HP ⊢
  clear hx hn hk
  go_enter Tryz.func41, Tryz.ntmps41
  go_wp2_with fail
  with_reducible refine (HA.out _).mono ?_
  rintro e w1 ⟨⟨A, hA, rfl⟩, hb1⟩
  have HAA := Lib.hid hA
  have HB := Lib.hid hb1
  clear hA hb1
  dsimp only
  go_wp2_with fail
  with_reducible refine (HP.out A _ HAA.out).mono ?_
  rintro e w2 ⟨⟨T, hT, rfl⟩, hb2⟩
  have HT := Lib.hid hT
  have HB2 := Lib.hid (Bel.call HB.out hb2)
  clear hT hb2
  dsimp only
  go_wp2
  go_ret2
  exact ⟨⟨T, HT.out, rfl⟩, HB2.out⟩
end Go.Proofs.YtjdignbmlfbdnaaGreat.Dta
